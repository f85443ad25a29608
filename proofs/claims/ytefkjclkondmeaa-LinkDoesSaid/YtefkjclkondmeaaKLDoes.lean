/- LinkDoes: whatever is done to an end, what it answers, and what waits then, is the document's. -/
import Derived.Test.YtefkjclkondmeaaKM
namespace Go.Proofs.Ytefkjclkondmeaa
open Go.RowKit

set_option linter.unusedVariables false
/-- the two ends side by side: the program's means S, the document's means V, and lies in box g -/
structure Side (w W : World) (p : Nat) (S V : EndS) (F : Nat → Prop) (g : Nat) (ao : Option Addr) (c : Nat) : Prop where
  net : End1 w W p S F
  box : W.heap[g]? = some (.cells #[.int .i64 V.e, .int .i64 (V.win : Int), .int .i64 (V.qn : Int), .int .i64 (V.wait : Int), .slice ao V.l.length c, .int .u64 (V.first : Int), .int .i64 (V.out : Int), .int .i64 (V.ever : Int), .int .u64 (V.want : Int), .bool V.owes, .int .i64 (V.age : Int)] 30 (0, 0))
  apart : ¬ F g
  ref : Sa (fun j => F j ∨ j = g) W (.slice ao V.l.length c) V.l
  own : w.heap.size ≤ g
section
variable {w W W' : World} {p : Nat} {S S' V V' : EndS} {F F' : Nat → Prop} {g : Nat} {ao ao' : Option Addr} {c c' : Nat}
theorem Side.moves (h : Side w W p S V F g ao c) (n : EAt W' p S' F') (o : Off F W W') (gr : Grows F F' W) : Side w W' p S' V F' g ao c := by
  have hg := blk_lt h.box
  refine ⟨h.net.step n o gr, o.blk h.box h.apart, fun hf => ?_, ?_, h.own⟩
  · rcases gr g hf with h1 | h1
    · exact h.apart h1
    · omega
  · refine h.ref.off (o.mono fun k hk => .inl hk) fun k hk => ?_
    rcases hk with hk | hk
    · exact (gr k hk).imp .inl id
    · exact .inl (.inr hk)
theorem Side.ext (h : Side w W p S V F g ao c) (x : Ext W W') : Side w W' p S V F g ao c := ⟨h.net.ext x, blk_later h.box x, h.apart, h.ref.ext x, h.own⟩
theorem off_set11 (W : World) (g : Nat) (u0 u1 u2 u3 u4 u5 u6 u7 u8 u9 u10 : Value) : Off (fun k => k = g) W (set11 W g u0 u1 u2 u3 u4 u5 u6 u7 u8 u9 u10) :=
  ((((((((((off_set W ⟨g, 0, none⟩ u0).trans (off_set _ ⟨g, 1, none⟩ u1) (Grows.refl _ _)).trans (off_set _ ⟨g, 2, none⟩ u2) (Grows.refl _ _)).trans (off_set _ ⟨g, 3, none⟩ u3) (Grows.refl _ _)).trans (off_set _ ⟨g, 4, none⟩ u4) (Grows.refl _ _)).trans (off_set _ ⟨g, 5, none⟩ u5) (Grows.refl _ _)).trans (off_set _ ⟨g, 6, none⟩ u6) (Grows.refl _ _)).trans (off_set _ ⟨g, 7, none⟩ u7) (Grows.refl _ _)).trans (off_set _ ⟨g, 8, none⟩ u8) (Grows.refl _ _)).trans (off_set _ ⟨g, 9, none⟩ u9) (Grows.refl _ _)).trans (off_set _ ⟨g, 10, none⟩ u10) (Grows.refl _ _)
/-- the document's end of another meaning, stored -/
theorem Side.store (h : Side w W p S V F g ao c) (r : Sa (fun j => F j ∨ j = g) W (.slice ao' V'.l.length c') V'.l) : Side w (set11 W g (.int .i64 V'.e) (.int .i64 (V'.win : Int)) (.int .i64 (V'.qn : Int)) (.int .i64 (V'.wait : Int)) (.slice ao' V'.l.length c') (.int .u64 (V'.first : Int)) (.int .i64 (V'.out : Int)) (.int .i64 (V'.ever : Int)) (.int .u64 (V'.want : Int)) (.bool V'.owes) (.int .i64 (V'.age : Int))) p S V' F g ao' c' := by
  refine ⟨⟨h.net.1.off (off_set11 W g (.int .i64 V'.e) (.int .i64 (V'.win : Int)) (.int .i64 (V'.qn : Int)) (.int .i64 (V'.wait : Int)) (.slice ao' V'.l.length c') (.int .u64 (V'.first : Int)) (.int .i64 (V'.out : Int)) (.int .i64 (V'.ever : Int)) (.int .u64 (V'.want : Int)) (.bool V'.owes) (.int .i64 (V'.age : Int))) (fun k hk e => h.apart (e ▸ hk)), h.net.2.1, set11_below h.net.2.2 h.own (.int .i64 V'.e) (.int .i64 (V'.win : Int)) (.int .i64 (V'.qn : Int)) (.int .i64 (V'.wait : Int)) (.slice ao' V'.l.length c') (.int .u64 (V'.first : Int)) (.int .i64 (V'.out : Int)) (.int .i64 (V'.ever : Int)) (.int .u64 (V'.want : Int)) (.bool V'.owes) (.int .i64 (V'.age : Int))⟩, set11_blk h.box (.int .i64 V'.e) (.int .i64 (V'.win : Int)) (.int .i64 (V'.qn : Int)) (.int .i64 (V'.wait : Int)) (.slice ao' V'.l.length c') (.int .u64 (V'.first : Int)) (.int .i64 (V'.out : Int)) (.int .i64 (V'.ever : Int)) (.int .u64 (V'.want : Int)) (.bool V'.owes) (.int .i64 (V'.age : Int)), h.apart, ?_, h.own⟩
  exact r.off ((off_set11 W g (.int .i64 V'.e) (.int .i64 (V'.win : Int)) (.int .i64 (V'.qn : Int)) (.int .i64 (V'.wait : Int)) (.slice ao' V'.l.length c') (.int .u64 (V'.first : Int)) (.int .i64 (V'.out : Int)) (.int .i64 (V'.ever : Int)) (.int .u64 (V'.want : Int)) (.bool V'.owes) (.int .i64 (V'.age : Int))).mono fun k e => .inr e) (Grows.refl _ _)
/-- a box of one's own, elsewhere, stored -/
theorem Side.aside {m : Nat} (h : Side w W p S V F g ao c) (r : Sa (fun j => (F j ∨ j = g) ∨ j = m) W (.slice ao V.l.length c) V.l) (o : Off (fun k => k = m) W W') (b : Below w.heap.size W W') (hf : ¬ F m) (hg : g ≠ m) : Side w W' p S V F g ao c :=
  ⟨⟨h.net.1.off o (fun k hk e => hf (e ▸ hk)), h.net.2.1, Below.trans h.net.2.2 b⟩, o.blk h.box hg, h.apart, (r.off (o.mono fun k e => .inr e) (Grows.refl _ _)).mono (fun _ hk => .inl hk), h.own⟩
theorem Side.low (h : Side w W p S V F g ao c) : ∀ k, (F k ∨ k = g) → k < W.heap.size := fun k hk => by
  rcases hk with hk | hk
  · exact h.net.1.low k hk
  · rw [hk]; exact blk_lt h.box
theorem Side.end_ (h : Side w W p S V F g ao c) : REnd (fun j => F j ∨ j = g) W (.agg #[.int .i64 V.e, .int .i64 (V.win : Int), .int .i64 (V.qn : Int), .int .i64 (V.wait : Int), .slice ao V.l.length c, .int .u64 (V.first : Int), .int .i64 (V.out : Int), .int .i64 (V.ever : Int), .int .u64 (V.want : Int), .bool V.owes, .int .i64 (V.age : Int)]) V := ⟨ao, _, c, rfl, h.ref⟩
end
/-- what the document answers, with its cells told -/
theorem REnd.open_ {F : Nat → Prop} {W : World} {v : Value} {V : EndS} (h : REnd F W v V) : ∃ ao c, v = .agg #[.int .i64 V.e, .int .i64 (V.win : Int), .int .i64 (V.qn : Int), .int .i64 (V.wait : Int), .slice ao V.l.length c, .int .u64 (V.first : Int), .int .i64 (V.out : Int), .int .i64 (V.ever : Int), .int .u64 (V.want : Int), .bool V.owes, .int .i64 (V.age : Int)] ∧ Sa F W (.slice ao V.l.length c) V.l := by
  obtain ⟨ao, n, c, rfl, hs⟩ := h
  obtain ⟨ao', c', hv⟩ := hs.1.len
  simp only [Value.slice.injEq] at hv
  obtain ⟨rfl, rfl, rfl⟩ := hv
  exact ⟨ao, c, rfl, hs⟩

set_option maxRecDepth 100000 in
set_option maxHeartbeats 64000000 in
theorem does_any (w : World) (hs : Std w) (v : Value) (l : List Act9) (h : Sl w v l) (hin : ∀ y ∈ l, y.f.q < 18446744073709551616 ∧ y.f.a < 18446744073709551616) (e : Int) (first : Nat) (hf : first < 18446744073709551616) (win qn wait : Int) :
    Calls Try.prog 3 #[.int .i64 e, .int .u64 (first : Int), .int .i64 win, .int .i64 qn, .int .i64 wait, v] w (GivesB w (.bool true)) := by
  have hlen := h.length_le
  have HS := Lib.hid h
  have HST := Lib.hid hs
  have HIN := Lib.hid hin
  obtain ⟨ao, c, rfl⟩ := h.len
  clear h hs hin
  go_enter Try.func3, Try.ntmps3
  go_wp2_with fail
  refine (pNew w e first win qn wait hf).mono ?_
  rintro ev w0 ⟨p, F0, rfl, n0, hf0, x0⟩
  have N0 : Hid (End1 w w0 p (EndS.new e first win qn wait) F0) := Lib.hid ⟨n0, hf0, x0⟩
  clear n0 hf0 x0
  go_wp2_with fail
  refine (awake_any w0 (HST.out.ext N0.out.2.2)).mono ?_
  rintro ev w1 ⟨rfl, x1⟩
  have N1 := Lib.hid (N0.out.ext x1)
  clear x1 N0
  go_wp2_with fail
  refine (few_any w1 _ l (HS.out.ext N1.out.2.2)).mono ?_
  rintro ev w2 ⟨r, rfl, hr, rfl⟩
  cases r
  · clear hr
    go_wp2_with (first
      | (go_at_call 10; refine (awake_any w1 (HST.out.ext N1.out.2.2)).mono ?_; rintro ev w2 ⟨rfl, x2⟩; have X2 := Lib.hid (Ext.trans N1.out.2.2 x2); clear x2))
    go_ret
    exact ⟨rfl, X2.out⟩
  · have HR := Lib.hid (hr rfl)
    clear hr
    go_wp2_with fail
    refine (refNew_any F0 w1 e first win qn wait).mono ?_
    rintro ev w3 ⟨v0, rfl, r3, x3⟩
    obtain ⟨S0, hS0⟩ : ∃ S0, S0 = EndS.new e first win qn wait := ⟨_, rfl⟩
    rw [← hS0] at r3 N1
    clear hS0
    obtain ⟨ao3, c3, rfl, s3⟩ := r3.open_
    have hD3 : Side w (w3.alloc (.cells #[.int .i64 S0.e, .int .i64 (S0.win : Int), .int .i64 (S0.qn : Int), .int .i64 (S0.wait : Int), .slice ao3 S0.l.length c3, .int .u64 (S0.first : Int), .int .i64 (S0.out : Int), .int .i64 (S0.ever : Int), .int .u64 (S0.want : Int), .bool S0.owes, .int .i64 (S0.age : Int)] 30)) p S0 S0 F0 w3.heap.size ao3 c3 := by
      have hn3 := N1.out.ext x3
      have hx4 : Ext w3 (w3.alloc (.cells #[.int .i64 S0.e, .int .i64 (S0.win : Int), .int .i64 (S0.qn : Int), .int .i64 (S0.wait : Int), .slice ao3 S0.l.length c3, .int .u64 (S0.first : Int), .int .i64 (S0.out : Int), .int .i64 (S0.ever : Int), .int .u64 (S0.want : Int), .bool S0.owes, .int .i64 (S0.age : Int)] 30)) := (Ext.refl w3).alloc _
      refine ⟨hn3.ext hx4, get_alloc_new w3 _, fun hf => Nat.lt_irrefl _ (hn3.1.low _ hf), ?_, hn3.2.2.size⟩
      exact (s3.wide (fun k hk h1 => by rcases h1 with h1 | h1; exact h1; omega)).ext hx4
    have D3 := Lib.hid hD3
    clear hD3 r3 x3 s3
    go_wp2
    obtain ⟨g, hg⟩ : ∃ g, g = w3.heap.size := ⟨_, rfl⟩
    rw [← hg] at D3 ⊢
    clear hg
    go_loopw [15] (fun i wr => ∃ (k : Nat) (S : EndS) (F : Nat → Prop) (a2 : Option Addr) (c2 : Nat), k ≤ l.length ∧ i = .int .i64 (k : Int) ∧ Hid (Side w wr p S S F g a2 c2)) (fun i _ => l.length - (intOf i).toNat)
    case atStart => exact ⟨0, _, _, _, _, Nat.zero_le _, rfl, D3⟩
    case round =>
      obtain ⟨k, S, F, a2, c2, hk, rfl, HN⟩ := hrel
      by_cases hlt : k < l.length
      · have hm : l.getD k dA ∈ l := by simp [hlt]
        have hs2 := HR.out.2 _ hm
        have hi2 := HIN.out _ hm
        obtain ⟨b, off, rfl, _, hcl, hbl, hat⟩ := act_here HS.out HN.out.net.2.2 hlt
        have HAT : Hid (∀ W, Ext w W → ActAt W b (off + k * 9) (l.getD k dA)) := Lib.hid (fun W x => by
          obtain ⟨b', off', hv, _, _, _, h9⟩ := act_here HS.out x hlt
          simp only [Option.some.injEq, Addr.mk.injEq, and_true] at hv
          obtain ⟨rfl, rfl⟩ := hv
          exact h9)
        obtain ⟨Y, hY⟩ : ∃ Y, Y = l.getD k dA := ⟨_, rfl⟩
        rw [← hY] at hat hs2 hi2 HAT
        clear hY hm
        obtain ⟨yk, yn, ys, yt, yf⟩ := Y
        obtain ⟨gk, ge, gq, ga, gb⟩ := yf
        dsimp only at hs2 hi2
        have hkc : (k : Int) ≤ (c : Int) := by omega
        have hn2 : IntKind.i64.wrap ((k : Int) + 1) = (k : Int) + 1 := wrapN _ (by omega) (by omega)
        obtain ⟨c0, c1, c2', c3, c4, c5, c6, c7, c8⟩ := hat
        dsimp only at c0 c1 c2' c3 c4 c5 c6 c7 c8
        have hok := HN.out.net.1.ok
        by_cases h0 : yk = 0
        · subst h0
          have hok2 := hok.send yt
          obtain ⟨S', hS'⟩ : ∃ S', S' = S.send yt := ⟨_, rfl⟩
          have cP := Lib.hid (pSend HN.out.net.1 yt (by omega))
          have cR := Lib.hid (fun (G : Nat → Prop) (W : World) (hG : ∀ j, G j → j < W.heap.size) (r : REnd G W (.agg #[.int .i64 S.e, .int .i64 (S.win : Int), .int .i64 (S.qn : Int), .int .i64 (S.wait : Int), .slice a2 S.l.length c2, .int .u64 (S.first : Int), .int .i64 (S.out : Int), .int .i64 (S.ever : Int), .int .u64 (S.want : Int), .bool S.owes, .int .i64 (S.age : Int)]) S) => refSend_any G W hG _ S hok r yt)
          obtain ⟨E, hE⟩ : ∃ E, E = S.sendE yt := ⟨_, rfl⟩
          rw [← hS', ← hE] at cP cR
          clear hS' hE hok hok2
          go_wp2_with fail
          refine cP.out.mono ?_
          rintro ev w5 ⟨F5, rfl, n, o, gr⟩
          have D5 := Lib.hid (HN.out.moves n o gr)
          clear n o gr
          go_wp2_with fail
          (refine wp_region_X_lit (K := fun W => W.heap[g]? = some (.cells #[.int .i64 S.e, .int .i64 (S.win : Int), .int .i64 (S.qn : Int), .int .i64 (S.wait : Int), .slice a2 S.l.length c2, .int .u64 (S.first : Int), .int .i64 (S.out : Int), .int .i64 (S.ever : Int), .int .u64 (S.want : Int), .bool S.owes, .int .i64 (S.age : Int)] 30 (0, 0)) ∧ ActAt W b (off + k * 9) ⟨0, yn, ys, yt, ⟨gk, ge, gq, ga, gb⟩⟩) (by kernel_rfl) (fun w1 hw1 => ?_))
          have D6 := Lib.hid (D5.out.ext hw1)
          clear hw1
          (refine xtakeV 0 (v := ?_) (by simp only [List.getElem?_toArray, List.getElem?_cons, reduceIte]; rfl) (by kernel_rfl) (by rfl) (fun w' hw' => ?_) ?_; rotate_left; focus (have hc := (cells11 hw'.1).1; go_simp; first | done | with_reducible rfl)); (simp only [Act.put, List.setIfInBounds_toArray, List.set])
          (refine xtakeV 1 (v := ?_) (by simp only [List.getElem?_toArray, List.getElem?_cons, reduceIte]; rfl) (by kernel_rfl) (by rfl) (fun w' hw' => ?_) ?_; rotate_left; focus (skip; go_simp; first | done | with_reducible rfl)); (simp only [Act.put, List.setIfInBounds_toArray, List.set])
          (refine xtakeV 2 (v := ?_) (by simp only [List.getElem?_toArray, List.getElem?_cons, reduceIte]; rfl) (by kernel_rfl) (by rfl) (fun w' hw' => ?_) ?_; rotate_left; focus (skip; go_simp; first | done | with_reducible rfl)); (simp only [Act.put, List.setIfInBounds_toArray, List.set])
          (refine xtakeV 3 (v := ?_) (by simp only [List.getElem?_toArray, List.getElem?_cons, reduceIte]; rfl) (by kernel_rfl) (by rfl) (fun w' hw' => ?_) ?_; rotate_left; focus (skip; go_simp; first | done | with_reducible rfl)); (simp only [Act.put, List.setIfInBounds_toArray, List.set])
          (refine xtakeV 4 (v := ?_) (by simp only [List.getElem?_toArray, List.getElem?_cons, reduceIte]; rfl) (by kernel_rfl) (by rfl) (fun w' hw' => ?_) ?_; rotate_left; focus (skip; go_simp; first | done | with_reducible rfl)); (simp only [Act.put, List.setIfInBounds_toArray, List.set])
          (refine xtakeV 5 (v := ?_) (by simp only [List.getElem?_toArray, List.getElem?_cons, reduceIte]; rfl) (by kernel_rfl) (by rfl) (fun w' hw' => ?_) ?_; rotate_left; focus (obtain ⟨z0, z1, z2, z3, z4, z5, z6, z7, z8⟩ := hw'.2; go_simp; first | done | with_reducible rfl)); (simp only [Act.put, List.setIfInBounds_toArray, List.set])
          (refine xtwo 6 10 (by kernel_rfl) (⟨D6.out.box, HAT.out _ D6.out.net.2.2⟩) (RunX.of 6 (by simp only [List.getElem?_toArray, List.getElem?_cons, reduceIte]; rfl) (by rfl) ?_) (RunX.of 10 (by simp only [List.getElem?_toArray, List.getElem?_cons, reduceIte]; rfl) (by rfl) ?_))
          focus
            go_simp
            refine (cR.out _ _ D6.out.low D6.out.end_).mono ?_
            rintro ev w7 ⟨v7, rfl, r7, x7⟩
            obtain ⟨a7, d7, rfl, s7⟩ := r7.open_
            have D7 := Lib.hid (D6.out.ext x7)
            have S7 := Lib.hid s7
            clear x7 r7 s7
            dsimp only
            (try (simp only [Act.put, List.setIfInBounds_toArray, List.set]))
            (refine xtakeV 7 (v := ?_) (by simp only [List.getElem?_toArray, List.getElem?_cons, reduceIte]; rfl) (by kernel_rfl) (by rfl) (fun w' hw' => ?_) ?_; rotate_left; focus (skip; go_simp; first | done | with_reducible rfl)); (simp only [Act.put, List.setIfInBounds_toArray, List.set])
            (refine xtakeV 8 (v := ?_) (by simp only [List.getElem?_toArray, List.getElem?_cons, reduceIte]; rfl) (by kernel_rfl) (by rfl) (fun w' hw' => ?_) ?_; rotate_left; focus (skip; go_simp; first | done | with_reducible rfl)); (simp only [Act.put, List.setIfInBounds_toArray, List.set])
            (refine xtakeV 9 (v := ?_) (by simp only [List.getElem?_toArray, List.getElem?_cons, reduceIte]; rfl) (by kernel_rfl) (by rfl) (fun w' hw' => ?_) ?_; rotate_left; focus (skip; go_simp; first | done | with_reducible rfl)); (simp only [Act.put, List.setIfInBounds_toArray, List.set])
            (refine xone 10 (by kernel_rfl) (⟨D7.out.box, HAT.out _ D7.out.net.2.2⟩) (RunX.of 10 (by simp only [List.getElem?_toArray, List.getElem?_cons, reduceIte]; rfl) (by rfl) ?_))
            go_simp
            (try (simp only [Act.put, List.setIfInBounds_toArray, List.set]))
            have D8 := Lib.hid (D7.out.ext ((Ext.refl w7).alloc (.cells #[.int .i64 0, .int .i64 0, .int .i64 0, .int .i64 0, .slice none 0 0, .int .u64 0, .int .i64 0, .int .i64 0, .int .u64 0, .bool false, .int .i64 0] 30)))
            have B8 := Lib.hid (get_alloc_new w7 (.cells #[.int .i64 0, .int .i64 0, .int .i64 0, .int .i64 0, .slice none 0 0, .int .u64 0, .int .i64 0, .int .i64 0, .int .u64 0, .bool false, .int .i64 0] 30))
            (refine xone 11 (by kernel_rfl) (⟨D8.out.box, HAT.out _ D8.out.net.2.2⟩) (RunX.of 11 (by simp only [List.getElem?_toArray, List.getElem?_cons, reduceIte]; rfl) (by rfl) ?_))
            obtain ⟨u0, u1⟩ := cells11 B8.out
            go_simp
            (try (simp only [Act.put, List.setIfInBounds_toArray, List.set]))
            have x9 : Ext w7 (w7.alloc (.cells #[.int .i64 S'.e, .int .i64 (S'.win : Int), .int .i64 (S'.qn : Int), .int .i64 (S'.wait : Int), .slice a7 S'.l.length d7, .int .u64 (S'.first : Int), .int .i64 (S'.out : Int), .int .i64 (S'.ever : Int), .int .u64 (S'.want : Int), .bool S'.owes, .int .i64 (S'.age : Int)] 30)) := (Ext.refl w7).alloc _
            have b9 := get_alloc_new w7 (.cells #[.int .i64 S'.e, .int .i64 (S'.win : Int), .int .i64 (S'.qn : Int), .int .i64 (S'.wait : Int), .slice a7 S'.l.length d7, .int .u64 (S'.first : Int), .int .i64 (S'.out : Int), .int .i64 (S'.ever : Int), .int .u64 (S'.want : Int), .bool S'.owes, .int .i64 (S'.age : Int)] 30)
            obtain ⟨w9, hw9⟩ : ∃ w9, w9 = w7.alloc (.cells #[.int .i64 S'.e, .int .i64 (S'.win : Int), .int .i64 (S'.qn : Int), .int .i64 (S'.wait : Int), .slice a7 S'.l.length d7, .int .u64 (S'.first : Int), .int .i64 (S'.out : Int), .int .i64 (S'.ever : Int), .int .u64 (S'.want : Int), .bool S'.owes, .int .i64 (S'.age : Int)] 30) := ⟨_, rfl⟩
            rw [← hw9] at x9 b9 ⊢
            obtain ⟨m, hm⟩ : ∃ m, m = w7.heap.size := ⟨_, rfl⟩
            rw [← hm] at b9 ⊢
            have D9 := Lib.hid (D7.out.ext x9)
            have S9 := Lib.hid (S7.out.ext x9)
            have B9 := Lib.hid b9
            clear hw9 hm x9 b9 u0 u1 D8 B8 D7 S7 D6
          rotate_left
          focus
            go_simp
            (try (simp only [Act.put, List.setIfInBounds_toArray, List.set]))
            have hx6 : Ext w1 (w1.alloc (.cells #[.int .i64 0, .int .i64 0, .int .i64 0, .int .i64 0, .slice none 0 0, .int .u64 0, .int .i64 0, .int .i64 0, .int .u64 0, .bool false, .int .i64 0] 30)) := (Ext.refl w1).alloc _
            have D7a := Lib.hid (D6.out.ext hx6)
            have hm9 : ¬ F5 w1.heap.size := fun h9 => Nat.lt_irrefl _ (D6.out.net.1.low _ h9)
            have hg9 : g ≠ w1.heap.size := by have := blk_lt D6.out.box; omega
            have r6 : REnd (fun j => (F5 j ∨ j = g) ∨ j = w1.heap.size) (w1.alloc (.cells #[.int .i64 0, .int .i64 0, .int .i64 0, .int .i64 0, .slice none 0 0, .int .u64 0, .int .i64 0, .int .i64 0, .int .u64 0, .bool false, .int .i64 0] 30)) (.agg #[.int .i64 S.e, .int .i64 (S.win : Int), .int .i64 (S.qn : Int), .int .i64 (S.wait : Int), .slice a2 S.l.length c2, .int .u64 (S.first : Int), .int .i64 (S.out : Int), .int .i64 (S.ever : Int), .int .u64 (S.want : Int), .bool S.owes, .int .i64 (S.age : Int)]) S := (D6.out.end_.wide (fun k hk h9 => by rcases h9 with h9 | h9; exact h9; omega)).ext hx6
            have hl6 : ∀ j, ((F5 j ∨ j = g) ∨ j = w1.heap.size) → j < (w1.alloc (.cells #[.int .i64 0, .int .i64 0, .int .i64 0, .int .i64 0, .slice none 0 0, .int .u64 0, .int .i64 0, .int .i64 0, .int .u64 0, .bool false, .int .i64 0] 30)).heap.size := fun j hj => by
              rw [size_alloc]
              rcases hj with hj | hj
              · have := D6.out.low j hj; omega
              · omega
            have o6 : Sa (fun j => (F5 j ∨ j = g) ∨ j = w1.heap.size) (w1.alloc (.cells #[.int .i64 0, .int .i64 0, .int .i64 0, .int .i64 0, .slice none 0 0, .int .u64 0, .int .i64 0, .int .i64 0, .int .u64 0, .bool false, .int .i64 0] 30)) (.slice a2 S.l.length c2) S.l := (D6.out.ref.wide (fun k hk h9 => by rcases h9 with h9 | h9; exact h9; omega)).ext hx6
            have O6 := Lib.hid o6
            (refine xone 6 (by kernel_rfl) (⟨D7a.out.box, HAT.out _ D7a.out.net.2.2⟩) (RunX.of 6 (by simp only [List.getElem?_toArray, List.getElem?_cons, reduceIte]; rfl) (by rfl) ?_))
            go_simp
            refine (cR.out _ _ hl6 r6).mono ?_
            rintro ev w7 ⟨v7, rfl, r7, x7⟩
            obtain ⟨a7, d7, rfl, s7⟩ := r7.open_
            have D7 := Lib.hid (D7a.out.ext x7)
            have S7 := Lib.hid s7
            have B7 := Lib.hid (late_blk x7)
            have O7 := Lib.hid (O6.out.ext x7)
            have hs7 : w.heap.size ≤ w1.heap.size := D6.out.net.2.2.size
            clear x7 r7 s7 r6 hl6 o6 O6 hx6
            dsimp only
            (try (simp only [Act.put, List.setIfInBounds_toArray, List.set]))
            (refine xtakeV 7 (v := ?_) (by simp only [List.getElem?_toArray, List.getElem?_cons, reduceIte]; rfl) (by kernel_rfl) (by rfl) (fun w' hw' => ?_) ?_; rotate_left; focus (skip; go_simp; first | done | with_reducible rfl)); (simp only [Act.put, List.setIfInBounds_toArray, List.set])
            (refine xtakeV 8 (v := ?_) (by simp only [List.getElem?_toArray, List.getElem?_cons, reduceIte]; rfl) (by kernel_rfl) (by rfl) (fun w' hw' => ?_) ?_; rotate_left; focus (skip; go_simp; first | done | with_reducible rfl)); (simp only [Act.put, List.setIfInBounds_toArray, List.set])
            (refine xtakeV 9 (v := ?_) (by simp only [List.getElem?_toArray, List.getElem?_cons, reduceIte]; rfl) (by kernel_rfl) (by rfl) (fun w' hw' => ?_) ?_; rotate_left; focus (skip; go_simp; first | done | with_reducible rfl)); (simp only [Act.put, List.setIfInBounds_toArray, List.set])
            (refine xone 11 (by kernel_rfl) (⟨D7.out.box, HAT.out _ D7.out.net.2.2⟩) (RunX.of 11 (by simp only [List.getElem?_toArray, List.getElem?_cons, reduceIte]; rfl) (by rfl) ?_))
            obtain ⟨u0, u1⟩ := cells11 B7.out
            go_simp
            (try (simp only [Act.put, List.setIfInBounds_toArray, List.set]))
            obtain ⟨m, hm⟩ : ∃ m, m = w1.heap.size := ⟨_, rfl⟩
            rw [← hm] at hm9 hg9 S7 B7 O7 hs7 ⊢
            have b9 := set11_blk B7.out (.int .i64 S'.e) (.int .i64 (S'.win : Int)) (.int .i64 (S'.qn : Int)) (.int .i64 (S'.wait : Int)) (.slice a7 S'.l.length d7) (.int .u64 (S'.first : Int)) (.int .i64 (S'.out : Int)) (.int .i64 (S'.ever : Int)) (.int .u64 (S'.want : Int)) (.bool S'.owes) (.int .i64 (S'.age : Int))
            have d9 := D7.out.aside O7.out (off_set11 w7 m (.int .i64 S'.e) (.int .i64 (S'.win : Int)) (.int .i64 (S'.qn : Int)) (.int .i64 (S'.wait : Int)) (.slice a7 S'.l.length d7) (.int .u64 (S'.first : Int)) (.int .i64 (S'.out : Int)) (.int .i64 (S'.ever : Int)) (.int .u64 (S'.want : Int)) (.bool S'.owes) (.int .i64 (S'.age : Int))) (set11_below (Below.refl _ _) hs7 (.int .i64 S'.e) (.int .i64 (S'.win : Int)) (.int .i64 (S'.qn : Int)) (.int .i64 (S'.wait : Int)) (.slice a7 S'.l.length d7) (.int .u64 (S'.first : Int)) (.int .i64 (S'.out : Int)) (.int .i64 (S'.ever : Int)) (.int .u64 (S'.want : Int)) (.bool S'.owes) (.int .i64 (S'.age : Int))) hm9 hg9
            have s9 := (S7.out.off ((off_set11 w7 m (.int .i64 S'.e) (.int .i64 (S'.win : Int)) (.int .i64 (S'.qn : Int)) (.int .i64 (S'.wait : Int)) (.slice a7 S'.l.length d7) (.int .u64 (S'.first : Int)) (.int .i64 (S'.out : Int)) (.int .i64 (S'.ever : Int)) (.int .u64 (S'.want : Int)) (.bool S'.owes) (.int .i64 (S'.age : Int))).mono fun k e => .inr e) (Grows.refl _ _)).mono (G := fun j => F5 j ∨ j = g) (fun _ hk => .inl hk)
            obtain ⟨w9, hw9⟩ : ∃ w9, w9 = set11 w7 m (.int .i64 S'.e) (.int .i64 (S'.win : Int)) (.int .i64 (S'.qn : Int)) (.int .i64 (S'.wait : Int)) (.slice a7 S'.l.length d7) (.int .u64 (S'.first : Int)) (.int .i64 (S'.out : Int)) (.int .i64 (S'.ever : Int)) (.int .u64 (S'.want : Int)) (.bool S'.owes) (.int .i64 (S'.age : Int)) := ⟨_, rfl⟩
            rw [← hw9] at b9 d9 s9
            simp only [set11] at hw9
            rw [← hw9]
            have D9 := Lib.hid d9
            have S9 := Lib.hid s9
            have B9 := Lib.hid b9
            clear hw9 hm b9 d9 s9 u0 u1 B7 O7 hs7 S7 D7 D7a D6 hm9 hg9
          rotate_left
          all_goals
            (refine xtakeV 12 (v := ?_) (by simp only [List.getElem?_toArray, List.getElem?_cons, reduceIte]; rfl) (by kernel_rfl) (by rfl) (fun w' hw' => ?_) ?_; rotate_left; focus (skip; go_simp; first | done | with_reducible rfl)); (simp only [Act.put, List.setIfInBounds_toArray, List.set])
            (refine xdone (by kernel_rfl) (⟨D9.out.box, HAT.out _ D9.out.net.2.2⟩) ?_)
            obtain ⟨q0, q1⟩ := cells11 B9.out
            obtain ⟨q2, q3⟩ := cells11 D9.out.box
            go_wp2_with fail
            have D10 := Lib.hid (D9.out.store S9.out)
            obtain ⟨w10, hw10⟩ : ∃ w10, w10 = set11 w9 g (.int .i64 S'.e) (.int .i64 (S'.win : Int)) (.int .i64 (S'.qn : Int)) (.int .i64 (S'.wait : Int)) (.slice a7 S'.l.length d7) (.int .u64 (S'.first : Int)) (.int .i64 (S'.out : Int)) (.int .i64 (S'.ever : Int)) (.int .u64 (S'.want : Int)) (.bool S'.owes) (.int .i64 (S'.age : Int)) := ⟨_, rfl⟩
            rw [← hw10] at D10
            simp only [set11] at hw10
            rw [← hw10]
            clear hw10
            refine (pNumbers D10.out.net.1).mono ?_
            rintro ev w11 ⟨F11, rfl, n, o, gr⟩
            have D11 := Lib.hid (D10.out.moves n o gr)
            clear n o gr
            go_wp2_with fail
            (refine wp_region_X_lit (K := fun W => W.heap[g]? = some (.cells #[.int .i64 S'.e, .int .i64 (S'.win : Int), .int .i64 (S'.qn : Int), .int .i64 (S'.wait : Int), .slice a7 S'.l.length d7, .int .u64 (S'.first : Int), .int .i64 (S'.out : Int), .int .i64 (S'.ever : Int), .int .u64 (S'.want : Int), .bool S'.owes, .int .i64 (S'.age : Int)] 30 (0, 0))) (by kernel_rfl) (fun w1 hw1 => ?_))
            have D12 := Lib.hid (D11.out.ext hw1)
            clear hw1
            (refine xtakeV 0 (v := ?_) (by simp only [List.getElem?_toArray, List.getElem?_cons, reduceIte]; rfl) (by kernel_rfl) (by rfl) (fun w' hw' => ?_) ?_; rotate_left; focus (skip; go_simp; first | done | with_reducible rfl)); (simp only [Act.put, List.setIfInBounds_toArray, List.set])
            (refine xtakeV 2 (v := ?_) (by simp only [List.getElem?_toArray, List.getElem?_cons, reduceIte]; rfl) (by kernel_rfl) (by rfl) (fun w' hw' => ?_) ?_; rotate_left; focus (skip; go_simp; first | done | with_reducible rfl)); (simp only [Act.put, List.setIfInBounds_toArray, List.set])
            (refine xtakeV 3 (v := ?_) (by simp only [List.getElem?_toArray, List.getElem?_cons, reduceIte]; rfl) (by kernel_rfl) (by rfl) (fun w' hw' => ?_) ?_; rotate_left; focus (have hc := (cells11 hw').1; go_simp; first | done | with_reducible rfl)); (simp only [Act.put, List.setIfInBounds_toArray, List.set])
            (refine xtakeV 4 (v := ?_) (by simp only [List.getElem?_toArray, List.getElem?_cons, reduceIte]; rfl) (by kernel_rfl) (by rfl) (fun w' hw' => ?_) ?_; rotate_left; focus (skip; go_simp; first | done | with_reducible rfl)); (simp only [Act.put, List.setIfInBounds_toArray, List.set])
            (refine xone 1 (by kernel_rfl) (D12.out.box) (RunX.of 1 (by simp only [List.getElem?_toArray, List.getElem?_cons, reduceIte]; rfl) (by rfl) ?_))
            go_simp
            refine (pWaiting D12.out.net.1).mono ?_
            rintro ev w13 ⟨F13, rfl, n, o, gr⟩
            have D13 := Lib.hid (D12.out.moves n o gr)
            clear n o gr
            dsimp only
            (try (simp only [Act.put, List.setIfInBounds_toArray, List.set]))
            (refine xtakeV 5 (v := ?_) (by simp only [List.getElem?_toArray, List.getElem?_cons, reduceIte]; rfl) (by kernel_rfl) (by rfl) (fun w' hw' => ?_) ?_; rotate_left; focus (skip; go_simp; first | done | with_reducible rfl)); (simp only [Act.put, List.setIfInBounds_toArray, List.set])
            (refine xtakeV 6 (v := ?_) (by simp only [List.getElem?_toArray, List.getElem?_cons, reduceIte]; rfl) (by kernel_rfl) (by rfl) (fun w' hw' => ?_) ?_; rotate_left; focus (skip; go_simp; first | done | with_reducible rfl)); (simp only [Act.put, List.setIfInBounds_toArray, List.set])
            (refine xtakeV 7 (v := ?_) (by simp only [List.getElem?_toArray, List.getElem?_cons, reduceIte]; rfl) (by kernel_rfl) (by rfl) (fun w' hw' => ?_) ?_; rotate_left; focus (skip; go_simp; first | done | with_reducible rfl)); (simp only [Act.put, List.setIfInBounds_toArray, List.set])
            (refine xtakeV 8 (v := ?_) (by simp only [List.getElem?_toArray, List.getElem?_cons, reduceIte]; rfl) (by kernel_rfl) (by rfl) (fun w' hw' => ?_) ?_; rotate_left; focus (skip; go_simp; first | done | with_reducible rfl)); (simp only [Act.put, List.setIfInBounds_toArray, List.set])
            (refine xtakeV 9 (v := ?_) (by simp only [List.getElem?_toArray, List.getElem?_cons, reduceIte]; rfl) (by kernel_rfl) (by rfl) (fun w' hw' => ?_) ?_; rotate_left; focus (have hc := (cells11 hw').1; go_simp; first | done | with_reducible rfl)); (simp only [Act.put, List.setIfInBounds_toArray, List.set])
            (refine xtakeV 10 (v := ?_) (by simp only [List.getElem?_toArray, List.getElem?_cons, reduceIte]; rfl) (by kernel_rfl) (by rfl) (fun w' hw' => ?_) ?_; rotate_left; focus (skip; go_simp; first | done | with_reducible rfl)); (simp only [Act.put, List.setIfInBounds_toArray, List.set])
            (refine xtakeV 11 (v := ?_) (by simp only [List.getElem?_toArray, List.getElem?_cons, reduceIte]; rfl) (by kernel_rfl) (by rfl) (fun w' hw' => ?_) ?_; rotate_left; focus (skip; go_simp; first | done | with_reducible rfl)); (simp only [Act.put, List.setIfInBounds_toArray, List.set])
            (refine xtakeV 12 (v := ?_) (by simp only [List.getElem?_toArray, List.getElem?_cons, reduceIte]; rfl) (by kernel_rfl) (by rfl) (fun w' hw' => ?_) ?_; rotate_left; focus (skip; go_simp; first | done | with_reducible rfl)); (simp only [Act.put, List.setIfInBounds_toArray, List.set])
            (refine xtakeV 13 (v := ?_) (by simp only [List.getElem?_toArray, List.getElem?_cons, reduceIte]; rfl) (by kernel_rfl) (by rfl) (fun w' hw' => ?_) ?_; rotate_left; focus (skip; go_simp; first | done | with_reducible rfl)); (simp only [Act.put, List.setIfInBounds_toArray, List.set])
            (refine xtakeV 14 (v := ?_) (by simp only [List.getElem?_toArray, List.getElem?_cons, reduceIte]; rfl) (by kernel_rfl) (by rfl) (fun w' hw' => ?_) ?_; rotate_left; focus (skip; go_simp; first | done | with_reducible rfl)); (simp only [Act.put, List.setIfInBounds_toArray, List.set])
            (refine xtakeV 15 (v := ?_) (by simp only [List.getElem?_toArray, List.getElem?_cons, reduceIte]; rfl) (by kernel_rfl) (by rfl) (fun w' hw' => ?_) ?_; rotate_left; focus (have hc := (cells11 hw').1; go_simp; first | done | with_reducible rfl)); (simp only [Act.put, List.setIfInBounds_toArray, List.set])
            (refine xtakeV 16 (v := ?_) (by simp only [List.getElem?_toArray, List.getElem?_cons, reduceIte]; rfl) (by kernel_rfl) (by rfl) (fun w' hw' => ?_) ?_; rotate_left; focus (skip; go_simp; first | done | with_reducible rfl)); (simp only [Act.put, List.setIfInBounds_toArray, List.set])
            (refine xtakeV 17 (v := ?_) (by simp only [List.getElem?_toArray, List.getElem?_cons, reduceIte]; rfl) (by kernel_rfl) (by rfl) (fun w' hw' => ?_) ?_; rotate_left; focus (skip; go_simp; first | done | with_reducible rfl)); (simp only [Act.put, List.setIfInBounds_toArray, List.set])
            (refine xdone (by kernel_rfl) (D13.out.box) ?_)
            go_wp2
            exact ⟨⟨k + 1, S', F13, a7, d7, hlt, by go_num, D13⟩, by simp [intOf]; omega⟩
        · have t0 : (yk == 0) = false := beq_eq_false_iff_ne.2 h0
          by_cases h1 : yk = 1
          · subst h1
            have hok2 := hok.outS
            obtain ⟨S', hS'⟩ : ∃ S', S' = S.outS := ⟨_, rfl⟩
            obtain ⟨FR, hFR⟩ : ∃ FR, FR = S.frames := ⟨_, rfl⟩
            have cP := Lib.hid (pOut HN.out.net.1)
            have cR := Lib.hid (fun (G : Nat → Prop) (W : World) (hG : ∀ j, G j → j < W.heap.size) (r : REnd G W (.agg #[.int .i64 S.e, .int .i64 (S.win : Int), .int .i64 (S.qn : Int), .int .i64 (S.wait : Int), .slice a2 S.l.length c2, .int .u64 (S.first : Int), .int .i64 (S.out : Int), .int .i64 (S.ever : Int), .int .u64 (S.want : Int), .bool S.owes, .int .i64 (S.age : Int)]) S) => refOut_any G W hG _ S hok r)
            rw [← hS', ← hFR] at cP cR
            clear hS' hFR hok hok2 h0
            have hgw : ∀ j, j = g → j < wr.heap.size := fun j e => by rw [e]; exact blk_lt HN.out.box
            go_wp2_with fail
            refine cP.out.mono ?_
            rintro ev w5 ⟨oo, on, oc, F5, rfl, hl, hb, n, o, gr⟩
            have D5 := Lib.hid (HN.out.moves n o gr)
            have L5 := Lib.hid ((Sa.fresh hl hb hgw).mono (G := fun j => j = g) (fun _ hk => .inr hk))
            clear n o gr hl hb hgw
            obtain ⟨q2, q3⟩ := cells11 D5.out.box
            go_wp2_with fail
            refine (cR.out _ _ D5.out.low D5.out.end_).mono ?_
            rintro ev w7 ⟨v7, ro, rn, rc, rfl, r7, m7, x7⟩
            obtain ⟨a7, d7, rfl, s7⟩ := r7.open_
            have D8 := Lib.hid ((D5.out.ext x7).ext ((Ext.refl w7).alloc (.cells #[.int .i64 S'.e, .int .i64 (S'.win : Int), .int .i64 (S'.qn : Int), .int .i64 (S'.wait : Int), .slice a7 S'.l.length d7, .int .u64 (S'.first : Int), .int .i64 (S'.out : Int), .int .i64 (S'.ever : Int), .int .u64 (S'.want : Int), .bool S'.owes, .int .i64 (S'.age : Int)] 30)))
            have S8 := Lib.hid (s7.ext ((Ext.refl w7).alloc (.cells #[.int .i64 S'.e, .int .i64 (S'.win : Int), .int .i64 (S'.qn : Int), .int .i64 (S'.wait : Int), .slice a7 S'.l.length d7, .int .u64 (S'.first : Int), .int .i64 (S'.out : Int), .int .i64 (S'.ever : Int), .int .u64 (S'.want : Int), .bool S'.owes, .int .i64 (S'.age : Int)] 30)))
            have M8 := Lib.hid (m7.ext ((Ext.refl w7).alloc (.cells #[.int .i64 S'.e, .int .i64 (S'.win : Int), .int .i64 (S'.qn : Int), .int .i64 (S'.wait : Int), .slice a7 S'.l.length d7, .int .u64 (S'.first : Int), .int .i64 (S'.out : Int), .int .i64 (S'.ever : Int), .int .u64 (S'.want : Int), .bool S'.owes, .int .i64 (S'.age : Int)] 30)))
            have L8 := Lib.hid ((L5.out.ext x7).ext ((Ext.refl w7).alloc (.cells #[.int .i64 S'.e, .int .i64 (S'.win : Int), .int .i64 (S'.qn : Int), .int .i64 (S'.wait : Int), .slice a7 S'.l.length d7, .int .u64 (S'.first : Int), .int .i64 (S'.out : Int), .int .i64 (S'.ever : Int), .int .u64 (S'.want : Int), .bool S'.owes, .int .i64 (S'.age : Int)] 30)))
            clear x7 r7 s7 m7 q2 q3
            obtain ⟨q2, q3⟩ := cells11 D8.out.box
            obtain ⟨q4, q5⟩ := cells11 (get_alloc_new w7 (.cells #[.int .i64 S'.e, .int .i64 (S'.win : Int), .int .i64 (S'.qn : Int), .int .i64 (S'.wait : Int), .slice a7 S'.l.length d7, .int .u64 (S'.first : Int), .int .i64 (S'.out : Int), .int .i64 (S'.ever : Int), .int .u64 (S'.want : Int), .bool S'.owes, .int .i64 (S'.age : Int)] 30))
            go_wp2_with fail
            have d10 := D8.out.store S8.out
            have l10 := (L8.out.off (off_set11 _ g (.int .i64 S'.e) (.int .i64 (S'.win : Int)) (.int .i64 (S'.qn : Int)) (.int .i64 (S'.wait : Int)) (.slice a7 S'.l.length d7) (.int .u64 (S'.first : Int)) (.int .i64 (S'.out : Int)) (.int .i64 (S'.ever : Int)) (.int .u64 (S'.want : Int)) (.bool S'.owes) (.int .i64 (S'.age : Int))) (Grows.refl _ _)).1
            have m10 := (M8.out.off ((off_set11 _ g (.int .i64 S'.e) (.int .i64 (S'.win : Int)) (.int .i64 (S'.qn : Int)) (.int .i64 (S'.wait : Int)) (.slice a7 S'.l.length d7) (.int .u64 (S'.first : Int)) (.int .i64 (S'.out : Int)) (.int .i64 (S'.ever : Int)) (.int .u64 (S'.want : Int)) (.bool S'.owes) (.int .i64 (S'.age : Int))).mono fun k e => .inr e) (Grows.refl _ _)).1
            obtain ⟨w10, hw10⟩ : ∃ w10, w10 = set11 (w7.alloc (.cells #[.int .i64 S'.e, .int .i64 (S'.win : Int), .int .i64 (S'.qn : Int), .int .i64 (S'.wait : Int), .slice a7 S'.l.length d7, .int .u64 (S'.first : Int), .int .i64 (S'.out : Int), .int .i64 (S'.ever : Int), .int .u64 (S'.want : Int), .bool S'.owes, .int .i64 (S'.age : Int)] 30)) g (.int .i64 S'.e) (.int .i64 (S'.win : Int)) (.int .i64 (S'.qn : Int)) (.int .i64 (S'.wait : Int)) (.slice a7 S'.l.length d7) (.int .u64 (S'.first : Int)) (.int .i64 (S'.out : Int)) (.int .i64 (S'.ever : Int)) (.int .u64 (S'.want : Int)) (.bool S'.owes) (.int .i64 (S'.age : Int)) := ⟨_, rfl⟩
            rw [← hw10] at d10 l10 m10
            simp only [set11] at hw10
            rw [← hw10]
            have D9 := Lib.hid d10
            have L9 := Lib.hid l10
            have M9 := Lib.hid m10
            clear hw10 d10 l10 m10 q2 q3 q4 q5 D8 S8 M8 L8 D5 L5
            refine (refSame_any _ _ _ _ _ L9.out M9.out).mono ?_
            rintro ev w8 ⟨rfl, x8⟩
            rw [decide_eq_true rfl]
            have D10 := Lib.hid (D9.out.ext x8)
            clear x8
            go_wp2_with fail
            refine (pNumbers D10.out.net.1).mono ?_
            rintro ev w11 ⟨F11, rfl, n, o, gr⟩
            have D11 := Lib.hid (D10.out.moves n o gr)
            clear n o gr
            go_wp2_with fail
            (refine wp_region_X_lit (K := fun W => W.heap[g]? = some (.cells #[.int .i64 S'.e, .int .i64 (S'.win : Int), .int .i64 (S'.qn : Int), .int .i64 (S'.wait : Int), .slice a7 S'.l.length d7, .int .u64 (S'.first : Int), .int .i64 (S'.out : Int), .int .i64 (S'.ever : Int), .int .u64 (S'.want : Int), .bool S'.owes, .int .i64 (S'.age : Int)] 30 (0, 0))) (by kernel_rfl) (fun w1 hw1 => ?_))
            have D12 := Lib.hid (D11.out.ext hw1)
            clear hw1
            (refine xtakeV 0 (v := ?_) (by simp only [List.getElem?_toArray, List.getElem?_cons, reduceIte]; rfl) (by kernel_rfl) (by rfl) (fun w' hw' => ?_) ?_; rotate_left; focus (skip; go_simp; first | done | with_reducible rfl)); (simp only [Act.put, List.setIfInBounds_toArray, List.set])
            (refine xtakeV 2 (v := ?_) (by simp only [List.getElem?_toArray, List.getElem?_cons, reduceIte]; rfl) (by kernel_rfl) (by rfl) (fun w' hw' => ?_) ?_; rotate_left; focus (skip; go_simp; first | done | with_reducible rfl)); (simp only [Act.put, List.setIfInBounds_toArray, List.set])
            (refine xtakeV 3 (v := ?_) (by simp only [List.getElem?_toArray, List.getElem?_cons, reduceIte]; rfl) (by kernel_rfl) (by rfl) (fun w' hw' => ?_) ?_; rotate_left; focus (have hc := (cells11 hw').1; go_simp; first | done | with_reducible rfl)); (simp only [Act.put, List.setIfInBounds_toArray, List.set])
            (refine xtakeV 4 (v := ?_) (by simp only [List.getElem?_toArray, List.getElem?_cons, reduceIte]; rfl) (by kernel_rfl) (by rfl) (fun w' hw' => ?_) ?_; rotate_left; focus (skip; go_simp; first | done | with_reducible rfl)); (simp only [Act.put, List.setIfInBounds_toArray, List.set])
            (refine xone 1 (by kernel_rfl) (D12.out.box) (RunX.of 1 (by simp only [List.getElem?_toArray, List.getElem?_cons, reduceIte]; rfl) (by rfl) ?_))
            go_simp
            refine (pWaiting D12.out.net.1).mono ?_
            rintro ev w13 ⟨F13, rfl, n, o, gr⟩
            have D13 := Lib.hid (D12.out.moves n o gr)
            clear n o gr
            dsimp only
            (try (simp only [Act.put, List.setIfInBounds_toArray, List.set]))
            (refine xtakeV 5 (v := ?_) (by simp only [List.getElem?_toArray, List.getElem?_cons, reduceIte]; rfl) (by kernel_rfl) (by rfl) (fun w' hw' => ?_) ?_; rotate_left; focus (skip; go_simp; first | done | with_reducible rfl)); (simp only [Act.put, List.setIfInBounds_toArray, List.set])
            (refine xtakeV 6 (v := ?_) (by simp only [List.getElem?_toArray, List.getElem?_cons, reduceIte]; rfl) (by kernel_rfl) (by rfl) (fun w' hw' => ?_) ?_; rotate_left; focus (skip; go_simp; first | done | with_reducible rfl)); (simp only [Act.put, List.setIfInBounds_toArray, List.set])
            (refine xtakeV 7 (v := ?_) (by simp only [List.getElem?_toArray, List.getElem?_cons, reduceIte]; rfl) (by kernel_rfl) (by rfl) (fun w' hw' => ?_) ?_; rotate_left; focus (skip; go_simp; first | done | with_reducible rfl)); (simp only [Act.put, List.setIfInBounds_toArray, List.set])
            (refine xtakeV 8 (v := ?_) (by simp only [List.getElem?_toArray, List.getElem?_cons, reduceIte]; rfl) (by kernel_rfl) (by rfl) (fun w' hw' => ?_) ?_; rotate_left; focus (skip; go_simp; first | done | with_reducible rfl)); (simp only [Act.put, List.setIfInBounds_toArray, List.set])
            (refine xtakeV 9 (v := ?_) (by simp only [List.getElem?_toArray, List.getElem?_cons, reduceIte]; rfl) (by kernel_rfl) (by rfl) (fun w' hw' => ?_) ?_; rotate_left; focus (have hc := (cells11 hw').1; go_simp; first | done | with_reducible rfl)); (simp only [Act.put, List.setIfInBounds_toArray, List.set])
            (refine xtakeV 10 (v := ?_) (by simp only [List.getElem?_toArray, List.getElem?_cons, reduceIte]; rfl) (by kernel_rfl) (by rfl) (fun w' hw' => ?_) ?_; rotate_left; focus (skip; go_simp; first | done | with_reducible rfl)); (simp only [Act.put, List.setIfInBounds_toArray, List.set])
            (refine xtakeV 11 (v := ?_) (by simp only [List.getElem?_toArray, List.getElem?_cons, reduceIte]; rfl) (by kernel_rfl) (by rfl) (fun w' hw' => ?_) ?_; rotate_left; focus (skip; go_simp; first | done | with_reducible rfl)); (simp only [Act.put, List.setIfInBounds_toArray, List.set])
            (refine xtakeV 12 (v := ?_) (by simp only [List.getElem?_toArray, List.getElem?_cons, reduceIte]; rfl) (by kernel_rfl) (by rfl) (fun w' hw' => ?_) ?_; rotate_left; focus (skip; go_simp; first | done | with_reducible rfl)); (simp only [Act.put, List.setIfInBounds_toArray, List.set])
            (refine xtakeV 13 (v := ?_) (by simp only [List.getElem?_toArray, List.getElem?_cons, reduceIte]; rfl) (by kernel_rfl) (by rfl) (fun w' hw' => ?_) ?_; rotate_left; focus (skip; go_simp; first | done | with_reducible rfl)); (simp only [Act.put, List.setIfInBounds_toArray, List.set])
            (refine xtakeV 14 (v := ?_) (by simp only [List.getElem?_toArray, List.getElem?_cons, reduceIte]; rfl) (by kernel_rfl) (by rfl) (fun w' hw' => ?_) ?_; rotate_left; focus (skip; go_simp; first | done | with_reducible rfl)); (simp only [Act.put, List.setIfInBounds_toArray, List.set])
            (refine xtakeV 15 (v := ?_) (by simp only [List.getElem?_toArray, List.getElem?_cons, reduceIte]; rfl) (by kernel_rfl) (by rfl) (fun w' hw' => ?_) ?_; rotate_left; focus (have hc := (cells11 hw').1; go_simp; first | done | with_reducible rfl)); (simp only [Act.put, List.setIfInBounds_toArray, List.set])
            (refine xtakeV 16 (v := ?_) (by simp only [List.getElem?_toArray, List.getElem?_cons, reduceIte]; rfl) (by kernel_rfl) (by rfl) (fun w' hw' => ?_) ?_; rotate_left; focus (skip; go_simp; first | done | with_reducible rfl)); (simp only [Act.put, List.setIfInBounds_toArray, List.set])
            (refine xtakeV 17 (v := ?_) (by simp only [List.getElem?_toArray, List.getElem?_cons, reduceIte]; rfl) (by kernel_rfl) (by rfl) (fun w' hw' => ?_) ?_; rotate_left; focus (skip; go_simp; first | done | with_reducible rfl)); (simp only [Act.put, List.setIfInBounds_toArray, List.set])
            (refine xdone (by kernel_rfl) (D13.out.box) ?_)
            go_wp2
            exact ⟨⟨k + 1, S', F13, a7, d7, hlt, by go_num, D13⟩, by simp [intOf]; omega⟩
          · have t1 : (yk == 1) = false := beq_eq_false_iff_ne.2 h1
            by_cases h2 : yk = 2
            · subst h2
              have hok2 := hok.tick
              obtain ⟨S', hS'⟩ : ∃ S', S' = S.tick := ⟨_, rfl⟩
              have cP := Lib.hid (pTick HN.out.net.1)
              have cR := Lib.hid (fun (G : Nat → Prop) (W : World) (r : REnd G W (.agg #[.int .i64 S.e, .int .i64 (S.win : Int), .int .i64 (S.qn : Int), .int .i64 (S.wait : Int), .slice a2 S.l.length c2, .int .u64 (S.first : Int), .int .i64 (S.out : Int), .int .i64 (S.ever : Int), .int .u64 (S.want : Int), .bool S.owes, .int .i64 (S.age : Int)]) S) => refTick_any G W _ S hok r)
              rw [← hS'] at cP cR
              clear hS' hok hok2 h0 h1
              go_wp2_with fail
              refine cP.out.mono ?_
              rintro ev w5 ⟨F5, rfl, n, o, gr⟩
              have D5 := Lib.hid (HN.out.moves n o gr)
              clear n o gr
              obtain ⟨q2, q3⟩ := cells11 D5.out.box
              go_wp2_with fail
              refine (cR.out _ _ D5.out.end_).mono ?_
              rintro ev w7 ⟨v7, rfl, r7, x7⟩
              obtain ⟨a7, d7, rfl, s7⟩ := r7.open_
              have D8 := Lib.hid (D5.out.ext x7)
              have S8 := Lib.hid s7
              clear x7 r7 s7 q2 q3
              obtain ⟨q2, q3⟩ := cells11 D8.out.box
              go_wp2_with fail
              have D10 := Lib.hid (D8.out.store S8.out)
              obtain ⟨w10, hw10⟩ : ∃ w10, w10 = set11 w7 g (.int .i64 S'.e) (.int .i64 (S'.win : Int)) (.int .i64 (S'.qn : Int)) (.int .i64 (S'.wait : Int)) (.slice a7 S'.l.length d7) (.int .u64 (S'.first : Int)) (.int .i64 (S'.out : Int)) (.int .i64 (S'.ever : Int)) (.int .u64 (S'.want : Int)) (.bool S'.owes) (.int .i64 (S'.age : Int)) := ⟨_, rfl⟩
              rw [← hw10] at D10
              simp only [set11] at hw10
              rw [← hw10]
              clear hw10
              refine (pNumbers D10.out.net.1).mono ?_
              rintro ev w11 ⟨F11, rfl, n, o, gr⟩
              have D11 := Lib.hid (D10.out.moves n o gr)
              clear n o gr
              go_wp2_with fail
              (refine wp_region_X_lit (K := fun W => W.heap[g]? = some (.cells #[.int .i64 S'.e, .int .i64 (S'.win : Int), .int .i64 (S'.qn : Int), .int .i64 (S'.wait : Int), .slice a7 S'.l.length d7, .int .u64 (S'.first : Int), .int .i64 (S'.out : Int), .int .i64 (S'.ever : Int), .int .u64 (S'.want : Int), .bool S'.owes, .int .i64 (S'.age : Int)] 30 (0, 0))) (by kernel_rfl) (fun w1 hw1 => ?_))
              have D12 := Lib.hid (D11.out.ext hw1)
              clear hw1
              (refine xtakeV 0 (v := ?_) (by simp only [List.getElem?_toArray, List.getElem?_cons, reduceIte]; rfl) (by kernel_rfl) (by rfl) (fun w' hw' => ?_) ?_; rotate_left; focus (skip; go_simp; first | done | with_reducible rfl)); (simp only [Act.put, List.setIfInBounds_toArray, List.set])
              (refine xtakeV 2 (v := ?_) (by simp only [List.getElem?_toArray, List.getElem?_cons, reduceIte]; rfl) (by kernel_rfl) (by rfl) (fun w' hw' => ?_) ?_; rotate_left; focus (skip; go_simp; first | done | with_reducible rfl)); (simp only [Act.put, List.setIfInBounds_toArray, List.set])
              (refine xtakeV 3 (v := ?_) (by simp only [List.getElem?_toArray, List.getElem?_cons, reduceIte]; rfl) (by kernel_rfl) (by rfl) (fun w' hw' => ?_) ?_; rotate_left; focus (have hc := (cells11 hw').1; go_simp; first | done | with_reducible rfl)); (simp only [Act.put, List.setIfInBounds_toArray, List.set])
              (refine xtakeV 4 (v := ?_) (by simp only [List.getElem?_toArray, List.getElem?_cons, reduceIte]; rfl) (by kernel_rfl) (by rfl) (fun w' hw' => ?_) ?_; rotate_left; focus (skip; go_simp; first | done | with_reducible rfl)); (simp only [Act.put, List.setIfInBounds_toArray, List.set])
              (refine xone 1 (by kernel_rfl) (D12.out.box) (RunX.of 1 (by simp only [List.getElem?_toArray, List.getElem?_cons, reduceIte]; rfl) (by rfl) ?_))
              go_simp
              refine (pWaiting D12.out.net.1).mono ?_
              rintro ev w13 ⟨F13, rfl, n, o, gr⟩
              have D13 := Lib.hid (D12.out.moves n o gr)
              clear n o gr
              dsimp only
              (try (simp only [Act.put, List.setIfInBounds_toArray, List.set]))
              (refine xtakeV 5 (v := ?_) (by simp only [List.getElem?_toArray, List.getElem?_cons, reduceIte]; rfl) (by kernel_rfl) (by rfl) (fun w' hw' => ?_) ?_; rotate_left; focus (skip; go_simp; first | done | with_reducible rfl)); (simp only [Act.put, List.setIfInBounds_toArray, List.set])
              (refine xtakeV 6 (v := ?_) (by simp only [List.getElem?_toArray, List.getElem?_cons, reduceIte]; rfl) (by kernel_rfl) (by rfl) (fun w' hw' => ?_) ?_; rotate_left; focus (skip; go_simp; first | done | with_reducible rfl)); (simp only [Act.put, List.setIfInBounds_toArray, List.set])
              (refine xtakeV 7 (v := ?_) (by simp only [List.getElem?_toArray, List.getElem?_cons, reduceIte]; rfl) (by kernel_rfl) (by rfl) (fun w' hw' => ?_) ?_; rotate_left; focus (skip; go_simp; first | done | with_reducible rfl)); (simp only [Act.put, List.setIfInBounds_toArray, List.set])
              (refine xtakeV 8 (v := ?_) (by simp only [List.getElem?_toArray, List.getElem?_cons, reduceIte]; rfl) (by kernel_rfl) (by rfl) (fun w' hw' => ?_) ?_; rotate_left; focus (skip; go_simp; first | done | with_reducible rfl)); (simp only [Act.put, List.setIfInBounds_toArray, List.set])
              (refine xtakeV 9 (v := ?_) (by simp only [List.getElem?_toArray, List.getElem?_cons, reduceIte]; rfl) (by kernel_rfl) (by rfl) (fun w' hw' => ?_) ?_; rotate_left; focus (have hc := (cells11 hw').1; go_simp; first | done | with_reducible rfl)); (simp only [Act.put, List.setIfInBounds_toArray, List.set])
              (refine xtakeV 10 (v := ?_) (by simp only [List.getElem?_toArray, List.getElem?_cons, reduceIte]; rfl) (by kernel_rfl) (by rfl) (fun w' hw' => ?_) ?_; rotate_left; focus (skip; go_simp; first | done | with_reducible rfl)); (simp only [Act.put, List.setIfInBounds_toArray, List.set])
              (refine xtakeV 11 (v := ?_) (by simp only [List.getElem?_toArray, List.getElem?_cons, reduceIte]; rfl) (by kernel_rfl) (by rfl) (fun w' hw' => ?_) ?_; rotate_left; focus (skip; go_simp; first | done | with_reducible rfl)); (simp only [Act.put, List.setIfInBounds_toArray, List.set])
              (refine xtakeV 12 (v := ?_) (by simp only [List.getElem?_toArray, List.getElem?_cons, reduceIte]; rfl) (by kernel_rfl) (by rfl) (fun w' hw' => ?_) ?_; rotate_left; focus (skip; go_simp; first | done | with_reducible rfl)); (simp only [Act.put, List.setIfInBounds_toArray, List.set])
              (refine xtakeV 13 (v := ?_) (by simp only [List.getElem?_toArray, List.getElem?_cons, reduceIte]; rfl) (by kernel_rfl) (by rfl) (fun w' hw' => ?_) ?_; rotate_left; focus (skip; go_simp; first | done | with_reducible rfl)); (simp only [Act.put, List.setIfInBounds_toArray, List.set])
              (refine xtakeV 14 (v := ?_) (by simp only [List.getElem?_toArray, List.getElem?_cons, reduceIte]; rfl) (by kernel_rfl) (by rfl) (fun w' hw' => ?_) ?_; rotate_left; focus (skip; go_simp; first | done | with_reducible rfl)); (simp only [Act.put, List.setIfInBounds_toArray, List.set])
              (refine xtakeV 15 (v := ?_) (by simp only [List.getElem?_toArray, List.getElem?_cons, reduceIte]; rfl) (by kernel_rfl) (by rfl) (fun w' hw' => ?_) ?_; rotate_left; focus (have hc := (cells11 hw').1; go_simp; first | done | with_reducible rfl)); (simp only [Act.put, List.setIfInBounds_toArray, List.set])
              (refine xtakeV 16 (v := ?_) (by simp only [List.getElem?_toArray, List.getElem?_cons, reduceIte]; rfl) (by kernel_rfl) (by rfl) (fun w' hw' => ?_) ?_; rotate_left; focus (skip; go_simp; first | done | with_reducible rfl)); (simp only [Act.put, List.setIfInBounds_toArray, List.set])
              (refine xtakeV 17 (v := ?_) (by simp only [List.getElem?_toArray, List.getElem?_cons, reduceIte]; rfl) (by kernel_rfl) (by rfl) (fun w' hw' => ?_) ?_; rotate_left; focus (skip; go_simp; first | done | with_reducible rfl)); (simp only [Act.put, List.setIfInBounds_toArray, List.set])
              (refine xdone (by kernel_rfl) (D13.out.box) ?_)
              go_wp2
              exact ⟨⟨k + 1, S', F13, a7, d7, hlt, by go_num, D13⟩, by simp [intOf]; omega⟩
            · have t2 : (yk == 2) = false := beq_eq_false_iff_ne.2 h2
              have hok2 := hok.take ⟨gk, ge, gq, ga, gb⟩
              obtain ⟨S', hS'⟩ : ∃ S', S' = S.take ⟨gk, ge, gq, ga, gb⟩ := ⟨_, rfl⟩
              obtain ⟨TB, hTB⟩ : ∃ TB, TB = S.body ⟨gk, ge, gq, ga, gb⟩ := ⟨_, rfl⟩
              obtain ⟨TT, hTT⟩ : ∃ TT, TT = S.told ⟨gk, ge, gq, ga, gb⟩ := ⟨_, rfl⟩
              have cP := Lib.hid (pTake (HST.out.ext HN.out.net.2.2) HN.out.net.1 ⟨gk, ge, gq, ga, gb⟩ hi2.2 hi2.1 (by dsimp only; omega))
              have cR := Lib.hid (fun (G : Nat → Prop) (W : World) (hG : ∀ j, G j → j < W.heap.size) (r : REnd G W (.agg #[.int .i64 S.e, .int .i64 (S.win : Int), .int .i64 (S.qn : Int), .int .i64 (S.wait : Int), .slice a2 S.l.length c2, .int .u64 (S.first : Int), .int .i64 (S.out : Int), .int .i64 (S.ever : Int), .int .u64 (S.want : Int), .bool S.owes, .int .i64 (S.age : Int)]) S) => refTake_any G W _ S hok r ⟨gk, ge, gq, ga, gb⟩ hi2.2)
              unfold TakesR at cR
              rw [← hS', ← hTB, ← hTT] at cP cR
              have hb1 : (TB.toList == TB.toList) = true := beq_self_eq_true _
              have hb2 : (TT != TT) = false := by cases TT <;> rfl
              clear hS' hTB hTT hok hok2 h0 h1 h2
              go_wp2_with fail
              refine cP.out.mono ?_
              rintro ev w5 ⟨F5, rfl, n, o, gr⟩
              have D5 := Lib.hid (HN.out.moves n o gr)
              clear n o gr
              go_wp2_with fail
              (refine wp_region_X_lit (K := fun W => W.heap[g]? = some (.cells #[.int .i64 S.e, .int .i64 (S.win : Int), .int .i64 (S.qn : Int), .int .i64 (S.wait : Int), .slice a2 S.l.length c2, .int .u64 (S.first : Int), .int .i64 (S.out : Int), .int .i64 (S.ever : Int), .int .u64 (S.want : Int), .bool S.owes, .int .i64 (S.age : Int)] 30 (0, 0)) ∧ ActAt W b (off + k * 9) ⟨yk, yn, ys, yt, ⟨gk, ge, gq, ga, gb⟩⟩) (by kernel_rfl) (fun w1 hw1 => ?_))
              have D6 := Lib.hid (D5.out.ext hw1)
              clear hw1
              (refine xtakeV 0 (v := ?_) (by simp only [List.getElem?_toArray, List.getElem?_cons, reduceIte]; rfl) (by kernel_rfl) (by rfl) (fun w' hw' => ?_) ?_; rotate_left; focus (have hc := (cells11 hw'.1).1; go_simp; first | done | with_reducible rfl)); (simp only [Act.put, List.setIfInBounds_toArray, List.set])
              (refine xtakeV 1 (v := ?_) (by simp only [List.getElem?_toArray, List.getElem?_cons, reduceIte]; rfl) (by kernel_rfl) (by rfl) (fun w' hw' => ?_) ?_; rotate_left; focus (skip; go_simp; first | done | with_reducible rfl)); (simp only [Act.put, List.setIfInBounds_toArray, List.set])
              (refine xtakeV 2 (v := ?_) (by simp only [List.getElem?_toArray, List.getElem?_cons, reduceIte]; rfl) (by kernel_rfl) (by rfl) (fun w' hw' => ?_) ?_; rotate_left; focus (skip; go_simp; first | done | with_reducible rfl)); (simp only [Act.put, List.setIfInBounds_toArray, List.set])
              (refine xtakeV 3 (v := ?_) (by simp only [List.getElem?_toArray, List.getElem?_cons, reduceIte]; rfl) (by kernel_rfl) (by rfl) (fun w' hw' => ?_) ?_; rotate_left; focus (skip; go_simp; first | done | with_reducible rfl)); (simp only [Act.put, List.setIfInBounds_toArray, List.set])
              (refine xtakeV 4 (v := ?_) (by simp only [List.getElem?_toArray, List.getElem?_cons, reduceIte]; rfl) (by kernel_rfl) (by rfl) (fun w' hw' => ?_) ?_; rotate_left; focus (skip; go_simp; first | done | with_reducible rfl)); (simp only [Act.put, List.setIfInBounds_toArray, List.set])
              (refine xtakeV 5 (v := ?_) (by simp only [List.getElem?_toArray, List.getElem?_cons, reduceIte]; rfl) (by kernel_rfl) (by rfl) (fun w' hw' => ?_) ?_; rotate_left; focus (obtain ⟨z0, z1, z2, z3, z4, z5, z6, z7, z8⟩ := hw'.2; go_simp; first | done | with_reducible rfl)); (simp only [Act.put, List.setIfInBounds_toArray, List.set])
              (refine xtwo 6 11 (by kernel_rfl) (⟨D6.out.box, HAT.out _ D6.out.net.2.2⟩) (RunX.of 6 (by simp only [List.getElem?_toArray, List.getElem?_cons, reduceIte]; rfl) (by rfl) ?_) (RunX.of 11 (by simp only [List.getElem?_toArray, List.getElem?_cons, reduceIte]; rfl) (by rfl) ?_))
              focus
                go_simp
                refine (cR.out _ _ D6.out.low D6.out.end_).mono ?_
                rintro ev w7 ⟨v7, rfl, r7, x7⟩
                obtain ⟨a7, d7, rfl, s7⟩ := r7.open_
                have D7 := Lib.hid (D6.out.ext x7)
                have S7 := Lib.hid s7
                clear x7 r7 s7
                dsimp only
                (try (simp only [Act.put, List.setIfInBounds_toArray, List.set]))
                (refine xtakeV 7 (v := ?_) (by simp only [List.getElem?_toArray, List.getElem?_cons, reduceIte]; rfl) (by kernel_rfl) (by rfl) (fun w' hw' => ?_) ?_; rotate_left; focus (skip; go_simp; first | done | with_reducible rfl)); (simp only [Act.put, List.setIfInBounds_toArray, List.set])
                (refine xtakeV 8 (v := ?_) (by simp only [List.getElem?_toArray, List.getElem?_cons, reduceIte]; rfl) (by kernel_rfl) (by rfl) (fun w' hw' => ?_) ?_; rotate_left; focus (skip; go_simp; first | done | with_reducible rfl)); (simp only [Act.put, List.setIfInBounds_toArray, List.set])
                (refine xtakeV 9 (v := ?_) (by simp only [List.getElem?_toArray, List.getElem?_cons, reduceIte]; rfl) (by kernel_rfl) (by rfl) (fun w' hw' => ?_) ?_; rotate_left; focus (skip; go_simp; first | done | with_reducible rfl)); (simp only [Act.put, List.setIfInBounds_toArray, List.set])
                (refine xtakeV 10 (v := ?_) (by simp only [List.getElem?_toArray, List.getElem?_cons, reduceIte]; rfl) (by kernel_rfl) (by rfl) (fun w' hw' => ?_) ?_; rotate_left; focus (skip; go_simp; first | done | with_reducible rfl)); (simp only [Act.put, List.setIfInBounds_toArray, List.set])
                (refine xone 11 (by kernel_rfl) (⟨D7.out.box, HAT.out _ D7.out.net.2.2⟩) (RunX.of 11 (by simp only [List.getElem?_toArray, List.getElem?_cons, reduceIte]; rfl) (by rfl) ?_))
                go_simp
                (try (simp only [Act.put, List.setIfInBounds_toArray, List.set]))
                have D8 := Lib.hid (D7.out.ext ((Ext.refl w7).alloc (.cells #[.int .i64 0, .int .i64 0, .int .i64 0, .int .i64 0, .slice none 0 0, .int .u64 0, .int .i64 0, .int .i64 0, .int .u64 0, .bool false, .int .i64 0] 30)))
                have B8 := Lib.hid (get_alloc_new w7 (.cells #[.int .i64 0, .int .i64 0, .int .i64 0, .int .i64 0, .slice none 0 0, .int .u64 0, .int .i64 0, .int .i64 0, .int .u64 0, .bool false, .int .i64 0] 30))
                (refine xone 12 (by kernel_rfl) (⟨D8.out.box, HAT.out _ D8.out.net.2.2⟩) (RunX.of 12 (by simp only [List.getElem?_toArray, List.getElem?_cons, reduceIte]; rfl) (by rfl) ?_))
                obtain ⟨u0, u1⟩ := cells11 B8.out
                go_simp
                (try (simp only [Act.put, List.setIfInBounds_toArray, List.set]))
                have x9 : Ext w7 (w7.alloc (.cells #[.int .i64 S'.e, .int .i64 (S'.win : Int), .int .i64 (S'.qn : Int), .int .i64 (S'.wait : Int), .slice a7 S'.l.length d7, .int .u64 (S'.first : Int), .int .i64 (S'.out : Int), .int .i64 (S'.ever : Int), .int .u64 (S'.want : Int), .bool S'.owes, .int .i64 (S'.age : Int)] 30)) := (Ext.refl w7).alloc _
                have b9 := get_alloc_new w7 (.cells #[.int .i64 S'.e, .int .i64 (S'.win : Int), .int .i64 (S'.qn : Int), .int .i64 (S'.wait : Int), .slice a7 S'.l.length d7, .int .u64 (S'.first : Int), .int .i64 (S'.out : Int), .int .i64 (S'.ever : Int), .int .u64 (S'.want : Int), .bool S'.owes, .int .i64 (S'.age : Int)] 30)
                obtain ⟨w9, hw9⟩ : ∃ w9, w9 = w7.alloc (.cells #[.int .i64 S'.e, .int .i64 (S'.win : Int), .int .i64 (S'.qn : Int), .int .i64 (S'.wait : Int), .slice a7 S'.l.length d7, .int .u64 (S'.first : Int), .int .i64 (S'.out : Int), .int .i64 (S'.ever : Int), .int .u64 (S'.want : Int), .bool S'.owes, .int .i64 (S'.age : Int)] 30) := ⟨_, rfl⟩
                rw [← hw9] at x9 b9 ⊢
                obtain ⟨m, hm⟩ : ∃ m, m = w7.heap.size := ⟨_, rfl⟩
                rw [← hm] at b9 ⊢
                have D9 := Lib.hid (D7.out.ext x9)
                have S9 := Lib.hid (S7.out.ext x9)
                have B9 := Lib.hid b9
                clear hw9 hm x9 b9 u0 u1 D8 B8 D7 S7 D6
              rotate_left
              focus
                go_simp
                (try (simp only [Act.put, List.setIfInBounds_toArray, List.set]))
                have hx6 : Ext w1 (w1.alloc (.cells #[.int .i64 0, .int .i64 0, .int .i64 0, .int .i64 0, .slice none 0 0, .int .u64 0, .int .i64 0, .int .i64 0, .int .u64 0, .bool false, .int .i64 0] 30)) := (Ext.refl w1).alloc _
                have D7a := Lib.hid (D6.out.ext hx6)
                have hm9 : ¬ F5 w1.heap.size := fun h9 => Nat.lt_irrefl _ (D6.out.net.1.low _ h9)
                have hg9 : g ≠ w1.heap.size := by have := blk_lt D6.out.box; omega
                have r6 : REnd (fun j => (F5 j ∨ j = g) ∨ j = w1.heap.size) (w1.alloc (.cells #[.int .i64 0, .int .i64 0, .int .i64 0, .int .i64 0, .slice none 0 0, .int .u64 0, .int .i64 0, .int .i64 0, .int .u64 0, .bool false, .int .i64 0] 30)) (.agg #[.int .i64 S.e, .int .i64 (S.win : Int), .int .i64 (S.qn : Int), .int .i64 (S.wait : Int), .slice a2 S.l.length c2, .int .u64 (S.first : Int), .int .i64 (S.out : Int), .int .i64 (S.ever : Int), .int .u64 (S.want : Int), .bool S.owes, .int .i64 (S.age : Int)]) S := (D6.out.end_.wide (fun k hk h9 => by rcases h9 with h9 | h9; exact h9; omega)).ext hx6
                have hl6 : ∀ j, ((F5 j ∨ j = g) ∨ j = w1.heap.size) → j < (w1.alloc (.cells #[.int .i64 0, .int .i64 0, .int .i64 0, .int .i64 0, .slice none 0 0, .int .u64 0, .int .i64 0, .int .i64 0, .int .u64 0, .bool false, .int .i64 0] 30)).heap.size := fun j hj => by
                  rw [size_alloc]
                  rcases hj with hj | hj
                  · have := D6.out.low j hj; omega
                  · omega
                have o6 : Sa (fun j => (F5 j ∨ j = g) ∨ j = w1.heap.size) (w1.alloc (.cells #[.int .i64 0, .int .i64 0, .int .i64 0, .int .i64 0, .slice none 0 0, .int .u64 0, .int .i64 0, .int .i64 0, .int .u64 0, .bool false, .int .i64 0] 30)) (.slice a2 S.l.length c2) S.l := (D6.out.ref.wide (fun k hk h9 => by rcases h9 with h9 | h9; exact h9; omega)).ext hx6
                have O6 := Lib.hid o6
                (refine xone 6 (by kernel_rfl) (⟨D7a.out.box, HAT.out _ D7a.out.net.2.2⟩) (RunX.of 6 (by simp only [List.getElem?_toArray, List.getElem?_cons, reduceIte]; rfl) (by rfl) ?_))
                go_simp
                refine (cR.out _ _ hl6 r6).mono ?_
                rintro ev w7 ⟨v7, rfl, r7, x7⟩
                obtain ⟨a7, d7, rfl, s7⟩ := r7.open_
                have D7 := Lib.hid (D7a.out.ext x7)
                have S7 := Lib.hid s7
                have B7 := Lib.hid (late_blk x7)
                have O7 := Lib.hid (O6.out.ext x7)
                have hs7 : w.heap.size ≤ w1.heap.size := D6.out.net.2.2.size
                clear x7 r7 s7 r6 hl6 o6 O6 hx6
                dsimp only
                (try (simp only [Act.put, List.setIfInBounds_toArray, List.set]))
                (refine xtakeV 7 (v := ?_) (by simp only [List.getElem?_toArray, List.getElem?_cons, reduceIte]; rfl) (by kernel_rfl) (by rfl) (fun w' hw' => ?_) ?_; rotate_left; focus (skip; go_simp; first | done | with_reducible rfl)); (simp only [Act.put, List.setIfInBounds_toArray, List.set])
                (refine xtakeV 8 (v := ?_) (by simp only [List.getElem?_toArray, List.getElem?_cons, reduceIte]; rfl) (by kernel_rfl) (by rfl) (fun w' hw' => ?_) ?_; rotate_left; focus (skip; go_simp; first | done | with_reducible rfl)); (simp only [Act.put, List.setIfInBounds_toArray, List.set])
                (refine xtakeV 9 (v := ?_) (by simp only [List.getElem?_toArray, List.getElem?_cons, reduceIte]; rfl) (by kernel_rfl) (by rfl) (fun w' hw' => ?_) ?_; rotate_left; focus (skip; go_simp; first | done | with_reducible rfl)); (simp only [Act.put, List.setIfInBounds_toArray, List.set])
                (refine xtakeV 10 (v := ?_) (by simp only [List.getElem?_toArray, List.getElem?_cons, reduceIte]; rfl) (by kernel_rfl) (by rfl) (fun w' hw' => ?_) ?_; rotate_left; focus (skip; go_simp; first | done | with_reducible rfl)); (simp only [Act.put, List.setIfInBounds_toArray, List.set])
                (refine xone 12 (by kernel_rfl) (⟨D7.out.box, HAT.out _ D7.out.net.2.2⟩) (RunX.of 12 (by simp only [List.getElem?_toArray, List.getElem?_cons, reduceIte]; rfl) (by rfl) ?_))
                obtain ⟨u0, u1⟩ := cells11 B7.out
                go_simp
                (try (simp only [Act.put, List.setIfInBounds_toArray, List.set]))
                obtain ⟨m, hm⟩ : ∃ m, m = w1.heap.size := ⟨_, rfl⟩
                rw [← hm] at hm9 hg9 S7 B7 O7 hs7 ⊢
                have b9 := set11_blk B7.out (.int .i64 S'.e) (.int .i64 (S'.win : Int)) (.int .i64 (S'.qn : Int)) (.int .i64 (S'.wait : Int)) (.slice a7 S'.l.length d7) (.int .u64 (S'.first : Int)) (.int .i64 (S'.out : Int)) (.int .i64 (S'.ever : Int)) (.int .u64 (S'.want : Int)) (.bool S'.owes) (.int .i64 (S'.age : Int))
                have d9 := D7.out.aside O7.out (off_set11 w7 m (.int .i64 S'.e) (.int .i64 (S'.win : Int)) (.int .i64 (S'.qn : Int)) (.int .i64 (S'.wait : Int)) (.slice a7 S'.l.length d7) (.int .u64 (S'.first : Int)) (.int .i64 (S'.out : Int)) (.int .i64 (S'.ever : Int)) (.int .u64 (S'.want : Int)) (.bool S'.owes) (.int .i64 (S'.age : Int))) (set11_below (Below.refl _ _) hs7 (.int .i64 S'.e) (.int .i64 (S'.win : Int)) (.int .i64 (S'.qn : Int)) (.int .i64 (S'.wait : Int)) (.slice a7 S'.l.length d7) (.int .u64 (S'.first : Int)) (.int .i64 (S'.out : Int)) (.int .i64 (S'.ever : Int)) (.int .u64 (S'.want : Int)) (.bool S'.owes) (.int .i64 (S'.age : Int))) hm9 hg9
                have s9 := (S7.out.off ((off_set11 w7 m (.int .i64 S'.e) (.int .i64 (S'.win : Int)) (.int .i64 (S'.qn : Int)) (.int .i64 (S'.wait : Int)) (.slice a7 S'.l.length d7) (.int .u64 (S'.first : Int)) (.int .i64 (S'.out : Int)) (.int .i64 (S'.ever : Int)) (.int .u64 (S'.want : Int)) (.bool S'.owes) (.int .i64 (S'.age : Int))).mono fun k e => .inr e) (Grows.refl _ _)).mono (G := fun j => F5 j ∨ j = g) (fun _ hk => .inl hk)
                obtain ⟨w9, hw9⟩ : ∃ w9, w9 = set11 w7 m (.int .i64 S'.e) (.int .i64 (S'.win : Int)) (.int .i64 (S'.qn : Int)) (.int .i64 (S'.wait : Int)) (.slice a7 S'.l.length d7) (.int .u64 (S'.first : Int)) (.int .i64 (S'.out : Int)) (.int .i64 (S'.ever : Int)) (.int .u64 (S'.want : Int)) (.bool S'.owes) (.int .i64 (S'.age : Int)) := ⟨_, rfl⟩
                rw [← hw9] at b9 d9 s9
                simp only [set11] at hw9
                rw [← hw9]
                have D9 := Lib.hid d9
                have S9 := Lib.hid s9
                have B9 := Lib.hid b9
                clear hw9 hm b9 d9 s9 u0 u1 B7 O7 hs7 S7 D7 D7a D6 hm9 hg9
              rotate_left
              all_goals
                (refine xtakeV 13 (v := ?_) (by simp only [List.getElem?_toArray, List.getElem?_cons, reduceIte]; rfl) (by kernel_rfl) (by rfl) (fun w' hw' => ?_) ?_; rotate_left; focus (skip; go_simp; first | done | with_reducible rfl)); (simp only [Act.put, List.setIfInBounds_toArray, List.set])
                (refine xtakeV 14 (v := ?_) (by simp only [List.getElem?_toArray, List.getElem?_cons, reduceIte]; rfl) (by kernel_rfl) (by rfl) (fun w' hw' => ?_) ?_; rotate_left; focus (skip; go_simp; first | done | with_reducible rfl)); (simp only [Act.put, List.setIfInBounds_toArray, List.set])
                (refine xdone (by kernel_rfl) (⟨D9.out.box, HAT.out _ D9.out.net.2.2⟩) ?_)
                obtain ⟨q0, q1⟩ := cells11 B9.out
                obtain ⟨q2, q3⟩ := cells11 D9.out.box
                go_wp2_with fail
                have D10 := Lib.hid (D9.out.store S9.out)
                obtain ⟨w10, hw10⟩ : ∃ w10, w10 = set11 w9 g (.int .i64 S'.e) (.int .i64 (S'.win : Int)) (.int .i64 (S'.qn : Int)) (.int .i64 (S'.wait : Int)) (.slice a7 S'.l.length d7) (.int .u64 (S'.first : Int)) (.int .i64 (S'.out : Int)) (.int .i64 (S'.ever : Int)) (.int .u64 (S'.want : Int)) (.bool S'.owes) (.int .i64 (S'.age : Int)) := ⟨_, rfl⟩
                rw [← hw10] at D10
                simp only [set11] at hw10
                rw [← hw10]
                clear hw10
                refine (pNumbers D10.out.net.1).mono ?_
                rintro ev w11 ⟨F11, rfl, n, o, gr⟩
                have D11 := Lib.hid (D10.out.moves n o gr)
                clear n o gr
                go_wp2_with fail
                (refine wp_region_X_lit (K := fun W => W.heap[g]? = some (.cells #[.int .i64 S'.e, .int .i64 (S'.win : Int), .int .i64 (S'.qn : Int), .int .i64 (S'.wait : Int), .slice a7 S'.l.length d7, .int .u64 (S'.first : Int), .int .i64 (S'.out : Int), .int .i64 (S'.ever : Int), .int .u64 (S'.want : Int), .bool S'.owes, .int .i64 (S'.age : Int)] 30 (0, 0))) (by kernel_rfl) (fun w1 hw1 => ?_))
                have D12 := Lib.hid (D11.out.ext hw1)
                clear hw1
                (refine xtakeV 0 (v := ?_) (by simp only [List.getElem?_toArray, List.getElem?_cons, reduceIte]; rfl) (by kernel_rfl) (by rfl) (fun w' hw' => ?_) ?_; rotate_left; focus (skip; go_simp; first | done | with_reducible rfl)); (simp only [Act.put, List.setIfInBounds_toArray, List.set])
                (refine xtakeV 2 (v := ?_) (by simp only [List.getElem?_toArray, List.getElem?_cons, reduceIte]; rfl) (by kernel_rfl) (by rfl) (fun w' hw' => ?_) ?_; rotate_left; focus (skip; go_simp; first | done | with_reducible rfl)); (simp only [Act.put, List.setIfInBounds_toArray, List.set])
                (refine xtakeV 3 (v := ?_) (by simp only [List.getElem?_toArray, List.getElem?_cons, reduceIte]; rfl) (by kernel_rfl) (by rfl) (fun w' hw' => ?_) ?_; rotate_left; focus (have hc := (cells11 hw').1; go_simp; first | done | with_reducible rfl)); (simp only [Act.put, List.setIfInBounds_toArray, List.set])
                (refine xtakeV 4 (v := ?_) (by simp only [List.getElem?_toArray, List.getElem?_cons, reduceIte]; rfl) (by kernel_rfl) (by rfl) (fun w' hw' => ?_) ?_; rotate_left; focus (skip; go_simp; first | done | with_reducible rfl)); (simp only [Act.put, List.setIfInBounds_toArray, List.set])
                (refine xone 1 (by kernel_rfl) (D12.out.box) (RunX.of 1 (by simp only [List.getElem?_toArray, List.getElem?_cons, reduceIte]; rfl) (by rfl) ?_))
                go_simp
                refine (pWaiting D12.out.net.1).mono ?_
                rintro ev w13 ⟨F13, rfl, n, o, gr⟩
                have D13 := Lib.hid (D12.out.moves n o gr)
                clear n o gr
                dsimp only
                (try (simp only [Act.put, List.setIfInBounds_toArray, List.set]))
                (refine xtakeV 5 (v := ?_) (by simp only [List.getElem?_toArray, List.getElem?_cons, reduceIte]; rfl) (by kernel_rfl) (by rfl) (fun w' hw' => ?_) ?_; rotate_left; focus (skip; go_simp; first | done | with_reducible rfl)); (simp only [Act.put, List.setIfInBounds_toArray, List.set])
                (refine xtakeV 6 (v := ?_) (by simp only [List.getElem?_toArray, List.getElem?_cons, reduceIte]; rfl) (by kernel_rfl) (by rfl) (fun w' hw' => ?_) ?_; rotate_left; focus (skip; go_simp; first | done | with_reducible rfl)); (simp only [Act.put, List.setIfInBounds_toArray, List.set])
                (refine xtakeV 7 (v := ?_) (by simp only [List.getElem?_toArray, List.getElem?_cons, reduceIte]; rfl) (by kernel_rfl) (by rfl) (fun w' hw' => ?_) ?_; rotate_left; focus (skip; go_simp; first | done | with_reducible rfl)); (simp only [Act.put, List.setIfInBounds_toArray, List.set])
                (refine xtakeV 8 (v := ?_) (by simp only [List.getElem?_toArray, List.getElem?_cons, reduceIte]; rfl) (by kernel_rfl) (by rfl) (fun w' hw' => ?_) ?_; rotate_left; focus (skip; go_simp; first | done | with_reducible rfl)); (simp only [Act.put, List.setIfInBounds_toArray, List.set])
                (refine xtakeV 9 (v := ?_) (by simp only [List.getElem?_toArray, List.getElem?_cons, reduceIte]; rfl) (by kernel_rfl) (by rfl) (fun w' hw' => ?_) ?_; rotate_left; focus (have hc := (cells11 hw').1; go_simp; first | done | with_reducible rfl)); (simp only [Act.put, List.setIfInBounds_toArray, List.set])
                (refine xtakeV 10 (v := ?_) (by simp only [List.getElem?_toArray, List.getElem?_cons, reduceIte]; rfl) (by kernel_rfl) (by rfl) (fun w' hw' => ?_) ?_; rotate_left; focus (skip; go_simp; first | done | with_reducible rfl)); (simp only [Act.put, List.setIfInBounds_toArray, List.set])
                (refine xtakeV 11 (v := ?_) (by simp only [List.getElem?_toArray, List.getElem?_cons, reduceIte]; rfl) (by kernel_rfl) (by rfl) (fun w' hw' => ?_) ?_; rotate_left; focus (skip; go_simp; first | done | with_reducible rfl)); (simp only [Act.put, List.setIfInBounds_toArray, List.set])
                (refine xtakeV 12 (v := ?_) (by simp only [List.getElem?_toArray, List.getElem?_cons, reduceIte]; rfl) (by kernel_rfl) (by rfl) (fun w' hw' => ?_) ?_; rotate_left; focus (skip; go_simp; first | done | with_reducible rfl)); (simp only [Act.put, List.setIfInBounds_toArray, List.set])
                (refine xtakeV 13 (v := ?_) (by simp only [List.getElem?_toArray, List.getElem?_cons, reduceIte]; rfl) (by kernel_rfl) (by rfl) (fun w' hw' => ?_) ?_; rotate_left; focus (skip; go_simp; first | done | with_reducible rfl)); (simp only [Act.put, List.setIfInBounds_toArray, List.set])
                (refine xtakeV 14 (v := ?_) (by simp only [List.getElem?_toArray, List.getElem?_cons, reduceIte]; rfl) (by kernel_rfl) (by rfl) (fun w' hw' => ?_) ?_; rotate_left; focus (skip; go_simp; first | done | with_reducible rfl)); (simp only [Act.put, List.setIfInBounds_toArray, List.set])
                (refine xtakeV 15 (v := ?_) (by simp only [List.getElem?_toArray, List.getElem?_cons, reduceIte]; rfl) (by kernel_rfl) (by rfl) (fun w' hw' => ?_) ?_; rotate_left; focus (have hc := (cells11 hw').1; go_simp; first | done | with_reducible rfl)); (simp only [Act.put, List.setIfInBounds_toArray, List.set])
                (refine xtakeV 16 (v := ?_) (by simp only [List.getElem?_toArray, List.getElem?_cons, reduceIte]; rfl) (by kernel_rfl) (by rfl) (fun w' hw' => ?_) ?_; rotate_left; focus (skip; go_simp; first | done | with_reducible rfl)); (simp only [Act.put, List.setIfInBounds_toArray, List.set])
                (refine xtakeV 17 (v := ?_) (by simp only [List.getElem?_toArray, List.getElem?_cons, reduceIte]; rfl) (by kernel_rfl) (by rfl) (fun w' hw' => ?_) ?_; rotate_left; focus (skip; go_simp; first | done | with_reducible rfl)); (simp only [Act.put, List.setIfInBounds_toArray, List.set])
                (refine xdone (by kernel_rfl) (D13.out.box) ?_)
                go_wp2
                exact ⟨⟨k + 1, S', F13, a7, d7, hlt, by go_num, D13⟩, by simp [intOf]; omega⟩
      · go_wp2
        go_ret
        exact ⟨rfl, HN.out.net.2.2⟩
end Go.Proofs.Ytefkjclkondmeaa
