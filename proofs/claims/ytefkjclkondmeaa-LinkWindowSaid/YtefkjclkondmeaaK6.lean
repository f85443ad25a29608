/- Links: the document's Take. -/
import Derived.Test.YtefkjclkondmeaaK5
namespace Go.Proofs.Ytefkjclkondmeaa
open Go.RowKit

def TakesR (F : Nat → Prop) (S : EndS) (f : Fr) (w : World) (ev : Ending) (w' : World) : Prop := ∃ v', ev = .returned (.tuple #[v', .string (S.body f), .bool (S.told f)]) ∧ REnd F w' v' (S.take f) ∧ Ext w w'

set_option maxRecDepth 100000 in
set_option maxHeartbeats 4000000 in
theorem refTake_bad (F : Nat → Prop) (w : World) (v : Value) (S : EndS) (h : REnd F w v S) (f : Fr) (hg : S.good f = false) :
    Calls Try.prog 21 #[v, .agg #[.int .i64 f.k, .int .i64 f.e, .int .u64 (f.q : Int), .int .u64 (f.a : Int), .string f.b]] w (TakesR F S f w) := by
  have ht : S.told f = false := by unfold EndS.told; rw [hg]; rfl
  have HR := Lib.hid (show S.told f = false ∧ S.body f = ⟨#[]⟩ ∧ S.take f = S from ⟨ht, by unfold EndS.body; rw [if_neg (by rw [ht]; decide)], by unfold EndS.take; rw [if_neg (by rw [hg]; decide)]⟩)
  have cR := Lib.hid (fun W => refRight_any W f.k f.e f.q f.a f.b)
  obtain ⟨ao, n, c, rfl, hs⟩ := h
  have HS := Lib.hid hs
  clear hs ht
  have hcase : rightB ⟨f.k, f.e, f.q, f.a, f.b⟩ = false ∨ (rightB ⟨f.k, f.e, f.q, f.a, f.b⟩ = true ∧ (f.e != S.e) = true) := by
    unfold EndS.good at hg
    have h0 : (⟨f.k, f.e, f.q, f.a, f.b⟩ : Fr) = f := rfl
    rw [h0]
    cases hb : rightB f
    · exact .inl rfl
    · right
      rw [hb] at hg
      refine ⟨rfl, bne_iff_ne.2 (fun e => ?_)⟩
      rw [decide_eq_true e] at hg
      cases hg
  clear hg
  obtain ⟨e, win, qn, wait, l, first, out, ever, want, owes, age⟩ := S
  obtain ⟨fk, fe, fq, fa, fb⟩ := f
  unfold rCells
  dsimp only at cR hcase HS ⊢
  rcases hcase with hb | ⟨hb, he⟩ <;> rw [hb] at cR <;> clear hb
  all_goals
    go_enter Try.func21, Try.ntmps21
    go_wp2_with (first
      | (go_at_call 32; refine (cR.out _).mono ?_; rintro ev w2 ⟨rfl, x2⟩; have X2 := Lib.hid x2; obtain ⟨b1, b2, b3⟩ := box3 x2; have B1 := Lib.hid b1; have B2 := Lib.hid b2; have B3 := Lib.hid b3; clear b1 b2 b3; obtain ⟨k1, k2⟩ := cells11 B1.out; obtain ⟨k3, k4⟩ := cells5 B2.out; obtain ⟨k5, k6⟩ := cells11 B3.out; clear x2))
    have z := set11_blk B3.out (.int .i64 e) (.int .i64 (win : Int)) (.int .i64 (qn : Int)) (.int .i64 (wait : Int)) (.slice ao n c) (.int .u64 (first : Int)) (.int .i64 (out : Int)) (.int .i64 (ever : Int)) (.int .u64 (want : Int)) (.bool owes) (.int .i64 (age : Int))
    have y5 := set11_below (g := w.heap.size + 1 + 1) (Ext.trans ((((Ext.refl w).alloc _).alloc _).alloc _) X2.out) (by omega) (.int .i64 e) (.int .i64 (win : Int)) (.int .i64 (qn : Int)) (.int .i64 (wait : Int)) (.slice ao n c) (.int .u64 (first : Int)) (.int .i64 (out : Int)) (.int .i64 (ever : Int)) (.int .u64 (want : Int)) (.bool owes) (.int .i64 (age : Int))
    obtain ⟨z0, z1, z2, z3, z4, z5, z6, z7, z8, z9, z10⟩ := (cells11 z).1
    simp only [set11] at z0 z1 z2 z3 z4 z5 z6 z7 z8 z9 z10
    refine bodyPost_ret (v := .tuple #[.agg #[.int .i64 e, .int .i64 (win : Int), .int .i64 (qn : Int), .int .i64 (wait : Int), .slice ao n c, .int .u64 (first : Int), .int .i64 (out : Int), .int .i64 (ever : Int), .int .u64 (want : Int), .bool owes, .int .i64 (age : Int)], .string ⟨#[]⟩, .bool false]) (by simp [results, Try.results21, go_sem, z0, z1, z2, z3, z4, z5, z6, z7, z8, z9, z10]; done) rfl ⟨.agg #[.int .i64 e, .int .i64 (win : Int), .int .i64 (qn : Int), .int .i64 (wait : Int), .slice ao n c, .int .u64 (first : Int), .int .i64 (out : Int), .int .i64 (ever : Int), .int .u64 (want : Int), .bool owes, .int .i64 (age : Int)], by rw [HR.out.1, HR.out.2.1], ⟨ao, n, c, by rw [HR.out.2.2]; rfl, by rw [HR.out.2.2]; exact HS.out.ext y5⟩, y5⟩

set_option maxRecDepth 100000 in
set_option maxHeartbeats 16000000 in
theorem refTake_zero (F : Nat → Prop) (w : World) (v : Value) (S : EndS) (ok : S.Ok) (h : REnd F w v S) (f : Fr) (ha : f.a < 18446744073709551616) (hg : S.good f = true) (hk : S.gone f.a = 0) :
    Calls Try.prog 21 #[v, .agg #[.int .i64 f.k, .int .i64 f.e, .int .u64 (f.q : Int), .int .u64 (f.a : Int), .string f.b]] w (TakesR F S f w) := by
  obtain ⟨ao, n, c, rfl, hs⟩ := h
  obtain ⟨ao', c', hv⟩ := hs.1.len
  simp only [Value.slice.injEq] at hv
  obtain ⟨rfl, rfl, rfl⟩ := hv
  have HS := Lib.hid hs
  have hgood : rightB f = true ∧ f.e = S.e := by
    unfold EndS.good at hg
    rw [Bool.and_eq_true, decide_eq_true_eq] at hg
    exact hg
  have hkind : f.k = 1 ∨ f.k = 2 := by
    have := hgood.1
    unfold rightB at this
    simp only [Bool.and_eq_true, Bool.or_eq_true, decide_eq_true_eq] at this
    rcases this.2 with h | h
    · exact .inl h
    · exact .inr h.1
  have cR := Lib.hid (fun W => refRight_any W f.k f.e f.q f.a f.b)
  rw [show rightB ⟨f.k, f.e, f.q, f.a, f.b⟩ = true from hgood.1] at cR
  have hne : (f.e != S.e) = false := by rw [bne_eq_false_iff_eq]; exact hgood.2
  have HGN := gone_none ok ha hk
  have ha0 : (f.a : Int) < 18446744073709551616 := by omega
  have o1 := ok.el
  have o2 := ok.len
  have o3 := ok.qn
  have o4 := ok.want
  have o5 := ok.oe
  have o6 := ok.ew
  have o7 := ok.win8
  obtain ⟨e, win, qn, wait, l, first, out, ever, want, owes, age⟩ := S
  obtain ⟨fk, fe, fq, fa, fb⟩ := f
  unfold rCells
  dsimp only at cR hne hkind HS o1 o2 o3 o4 o5 o6 o7 ha HGN ha0 ⊢
  have hcase : (fk = 2 ∧ Hid (EndS.told (⟨e, win, qn, wait, l, first, out, ever, want, owes, age⟩ : EndS) ⟨fk, fe, fq, fa, fb⟩ = false ∧ EndS.body (⟨e, win, qn, wait, l, first, out, ever, want, owes, age⟩ : EndS) ⟨fk, fe, fq, fa, fb⟩ = ⟨#[]⟩ ∧ EndS.take (⟨e, win, qn, wait, l, first, out, ever, want, owes, age⟩ : EndS) ⟨fk, fe, fq, fa, fb⟩ = (⟨e, win, qn, wait, l, first, out, ever, want, owes, age⟩ : EndS))) ∨
      (fk ≠ 2 ∧ fq = want ∧ Hid (EndS.told (⟨e, win, qn, wait, l, first, out, ever, want, owes, age⟩ : EndS) ⟨fk, fe, fq, fa, fb⟩ = true ∧ EndS.body (⟨e, win, qn, wait, l, first, out, ever, want, owes, age⟩ : EndS) ⟨fk, fe, fq, fa, fb⟩ = fb ∧ EndS.take (⟨e, win, qn, wait, l, first, out, ever, want, owes, age⟩ : EndS) ⟨fk, fe, fq, fa, fb⟩ = (⟨e, win, qn, wait, l, first, out, ever, (want + 1) % 18446744073709551616, true, age⟩ : EndS))) ∨
      (fk ≠ 2 ∧ fq ≠ want ∧ Hid (EndS.told (⟨e, win, qn, wait, l, first, out, ever, want, owes, age⟩ : EndS) ⟨fk, fe, fq, fa, fb⟩ = false ∧ EndS.body (⟨e, win, qn, wait, l, first, out, ever, want, owes, age⟩ : EndS) ⟨fk, fe, fq, fa, fb⟩ = ⟨#[]⟩ ∧ EndS.take (⟨e, win, qn, wait, l, first, out, ever, want, owes, age⟩ : EndS) ⟨fk, fe, fq, fa, fb⟩ = (⟨e, win, qn, wait, l, first, out, ever, want, true, age⟩ : EndS))) := by
    by_cases h2 : fk = 2
    · left
      have ht : EndS.told (⟨e, win, qn, wait, l, first, out, ever, want, owes, age⟩ : EndS) ⟨fk, fe, fq, fa, fb⟩ = false := by unfold EndS.told; rw [decide_eq_false (show ¬ fk ≠ 2 from fun h => h h2)]; simp
      refine ⟨h2, Lib.hid ⟨ht, by unfold EndS.body; rw [if_neg (by rw [ht]; decide)], ?_⟩⟩
      unfold EndS.take
      rw [if_pos hg, if_pos h2]
      rw [show EndS.gone (⟨e, win, qn, wait, l, first, out, ever, want, owes, age⟩ : EndS) fa = 0 from hk]; exact EndS.drop_zero ok
    · by_cases hq : fq = want
      · right; left
        have ht : EndS.told (⟨e, win, qn, wait, l, first, out, ever, want, owes, age⟩ : EndS) ⟨fk, fe, fq, fa, fb⟩ = true := by unfold EndS.told; rw [hg, decide_eq_true (show fk ≠ 2 from h2), decide_eq_true (show fq = want from hq)]; rfl
        refine ⟨h2, hq, Lib.hid ⟨ht, by unfold EndS.body; rw [if_pos ht], ?_⟩⟩
        unfold EndS.take
        rw [if_pos hg, if_neg h2, if_pos (show fq = want from hq)]
        rw [show EndS.gone (⟨e, win, qn, wait, l, first, out, ever, want, owes, age⟩ : EndS) fa = 0 from hk, EndS.drop_zero ok]
      · right; right
        have ht : EndS.told (⟨e, win, qn, wait, l, first, out, ever, want, owes, age⟩ : EndS) ⟨fk, fe, fq, fa, fb⟩ = false := by unfold EndS.told; rw [decide_eq_false (show ¬ fq = want from hq)]; simp
        refine ⟨h2, hq, Lib.hid ⟨ht, by unfold EndS.body; rw [if_neg (by rw [ht]; decide)], ?_⟩⟩
        unfold EndS.take
        rw [if_pos hg, if_neg h2, if_neg (show ¬ fq = want from hq)]
        rw [show EndS.gone (⟨e, win, qn, wait, l, first, out, ever, want, owes, age⟩ : EndS) fa = 0 from hk, EndS.drop_zero ok]
  clear hg hs hgood ok hk
  have HCASE := Lib.hid hcase
  clear hcase
  go_enter Try.func21, Try.ntmps21
  go_wp2_with (first
    | (go_at_call 32; refine (cR.out _).mono ?_; rintro ev w2 ⟨rfl, x2⟩; obtain ⟨b1, b2, b3⟩ := box3 x2; have B1 := Lib.hid b1; have B2 := Lib.hid b2; have B3 := Lib.hid b3; clear b1 b2 b3; obtain ⟨k1, k2⟩ := cells11 B1.out; obtain ⟨k3, k4⟩ := cells5 B2.out; obtain ⟨k5, k6⟩ := cells11 B3.out; have X2 := Lib.hid (Ext.trans ((((Ext.refl w).alloc _).alloc _).alloc _) x2); clear x2))
  clear k1 k2 k3 k4 k5 k6
  go_loopw [7] (fun q wr => ∃ k : Nat, q = .int .i64 (k : Int) ∧ 1 ≤ k ∧ k ≤ ever + 1 ∧ Hid (wr.heap[w.heap.size]? = some (.cells #[.int .i64 e, .int .i64 (win : Int), .int .i64 (qn : Int), .int .i64 (wait : Int), .slice ao l.length c, .int .u64 (first : Int), .int .i64 (out : Int), .int .i64 (ever : Int), .int .u64 (want : Int), .bool owes, .int .i64 (age : Int)] 30) ∧ wr.heap[w.heap.size + 1]? = some (.cells #[.int .i64 fk, .int .i64 fe, .int .u64 (fq : Int), .int .u64 (fa : Int), .string fb] 34) ∧ wr.heap[w.heap.size + 1 + 1]? = some (.cells #[.int .i64 0, .int .i64 0, .int .i64 0, .int .i64 0, .slice none 0 0, .int .u64 0, .int .i64 0, .int .i64 0, .int .u64 0, .bool false, .int .i64 0] 30) ∧ Ext w wr)) (fun q _ => ever + 1 - (intOf q).toNat)
  case atStart => exact ⟨1, rfl, Nat.le_refl _, by omega, Lib.hid ⟨B1.out, B2.out, B3.out, X2.out⟩⟩
  case round =>
    obtain ⟨k, rfl, hk1, hk2, HW⟩ := hrel
    obtain ⟨k1, k2⟩ := cells11 HW.out.1
    obtain ⟨k3, k4⟩ := cells5 HW.out.2.1
    obtain ⟨k5, k6⟩ := cells11 HW.out.2.2.1
    have hsq := seq_wrap first k
    obtain ⟨Q, hQ⟩ : ∃ Q, Q = (first + k) % 18446744073709551616 := ⟨_, rfl⟩
    rw [← hQ] at hsq
    have hu : IntKind.u64.wrap (k : Int) = (k : Int) := wrapU _ (by omega) (by omega)
    have hn1 : IntKind.i64.wrap ((k : Int) + 1) = (k : Int) + 1 := wrapN _ (by omega) (by omega)
    by_cases hlt : k ≤ ever
    · have c1 : (k : Int) ≤ (ever : Int) := by omega
      have c2 : ((fa : Int) == (Q : Int)) = false := beq_eq_false_iff_ne.2 (fun e0 => HGN k hk1 hlt (by omega))
      clear hQ
      replace HGN := Lib.hid HGN
      go_wp2
      exact ⟨⟨k + 1, by go_num, by omega, by omega, HW⟩, by simp [intOf]; omega⟩
    · have c1 : ¬ (k : Int) ≤ (ever : Int) := by omega
      clear hQ hsq
      replace HGN := Lib.hid HGN
      rcases HCASE.out with ⟨hf, HR⟩ | ⟨hf, hq, HR⟩ | ⟨hf, hq, HR⟩
      · have t2 : (fk == 2) = true := beq_iff_eq.2 hf
        clear hf
        go_wp2
        have z := set11_blk HW.out.2.2.1 (.int .i64 e) (.int .i64 (win : Int)) (.int .i64 (qn : Int)) (.int .i64 (wait : Int)) (.slice ao l.length c) (.int .u64 (first : Int)) (.int .i64 (out : Int)) (.int .i64 (ever : Int)) (.int .u64 (want : Int)) (.bool owes) (.int .i64 (age : Int))
        have y5 := set11_below (g := w.heap.size + 1 + 1) HW.out.2.2.2 (by omega) (.int .i64 e) (.int .i64 (win : Int)) (.int .i64 (qn : Int)) (.int .i64 (wait : Int)) (.slice ao l.length c) (.int .u64 (first : Int)) (.int .i64 (out : Int)) (.int .i64 (ever : Int)) (.int .u64 (want : Int)) (.bool owes) (.int .i64 (age : Int))
        obtain ⟨z0, z1, z2, z3, z4, z5, z6, z7, z8, z9, z10⟩ := (cells11 z).1
        simp only [set11] at z0 z1 z2 z3 z4 z5 z6 z7 z8 z9 z10
        refine bodyPost_ret (v := .tuple #[.agg #[.int .i64 e, .int .i64 (win : Int), .int .i64 (qn : Int), .int .i64 (wait : Int), .slice ao l.length c, .int .u64 (first : Int), .int .i64 (out : Int), .int .i64 (ever : Int), .int .u64 (want : Int), .bool owes, .int .i64 (age : Int)], .string ⟨#[]⟩, .bool false]) (by simp [results, Try.results21, go_sem, z0, z1, z2, z3, z4, z5, z6, z7, z8, z9, z10]; done) rfl ⟨.agg #[.int .i64 e, .int .i64 (win : Int), .int .i64 (qn : Int), .int .i64 (wait : Int), .slice ao l.length c, .int .u64 (first : Int), .int .i64 (out : Int), .int .i64 (ever : Int), .int .u64 (want : Int), .bool owes, .int .i64 (age : Int)], by rw [HR.out.1, HR.out.2.1], ⟨ao, l.length, c, by rw [HR.out.2.2]; rfl, by rw [HR.out.2.2]; exact HS.out.ext y5⟩, y5⟩
      · have t2 : (fk == 2) = false := beq_eq_false_iff_ne.2 hf
        have t3 : ((fq : Int) == (want : Int)) = true := beq_iff_eq.2 (by omega)
        have hwn : IntKind.u64.wrap ((want : Int) + 1) = (((want + 1) % 18446744073709551616 : Nat) : Int) := seq_wrap want 1
        obtain ⟨WN, hWN⟩ : ∃ WN, WN = (want + 1) % 18446744073709551616 := ⟨_, rfl⟩
        rw [← hWN] at hwn HR
        clear hWN hf hq
        have hb9 := blk_set (blk_set HW.out.1 9 (.bool true)) 8 (.int .u64 (WN : Int))
        have HGB := Lib.hid (show ((wr.setCell ⟨w.heap.size, 9, none⟩ (.bool true)).setCell ⟨w.heap.size, 8, none⟩ (.int .u64 (WN : Int))).heap[w.heap.size]? = some (.cells #[.int .i64 e, .int .i64 (win : Int), .int .i64 (qn : Int), .int .i64 (wait : Int), .slice ao l.length c, .int .u64 (first : Int), .int .i64 (out : Int), .int .i64 (ever : Int), .int .u64 (WN : Int), .bool true, .int .i64 (age : Int)] 30 (0, 0)) by simpa using hb9)
        have HFB := Lib.hid (((set_other _ ⟨w.heap.size, 8, none⟩ (.int .u64 (WN : Int)) (w.heap.size + 1) (by show w.heap.size + 1 ≠ w.heap.size; omega)).trans (set_other wr ⟨w.heap.size, 9, none⟩ (.bool true) (w.heap.size + 1) (by show w.heap.size + 1 ≠ w.heap.size; omega))).trans HW.out.2.1)
        have HZB := Lib.hid (((set_other _ ⟨w.heap.size, 8, none⟩ (.int .u64 (WN : Int)) (w.heap.size + 1 + 1) (by show w.heap.size + 1 + 1 ≠ w.heap.size; omega)).trans (set_other wr ⟨w.heap.size, 9, none⟩ (.bool true) (w.heap.size + 1 + 1) (by show w.heap.size + 1 + 1 ≠ w.heap.size; omega))).trans HW.out.2.2.1)
        have HXB := Lib.hid (below_set (d := ⟨w.heap.size, 8, none⟩) (below_set (d := ⟨w.heap.size, 9, none⟩) HW.out.2.2.2 (Nat.le_refl _) (.bool true)) (Nat.le_refl _) (.int .u64 (WN : Int)))
        go_wp2_with fail
        obtain ⟨W0, hW0⟩ : ∃ W0, W0 = (wr.setCell ⟨w.heap.size, 9, none⟩ (.bool true)).setCell ⟨w.heap.size, 8, none⟩ (.int .u64 (WN : Int)) := ⟨_, rfl⟩
        rw [← hW0] at HGB HFB HZB HXB ⊢
        clear hW0 hb9
        (refine wp_region_X_lit (K := fun W => W.heap[w.heap.size]? = some (.cells #[.int .i64 e, .int .i64 (win : Int), .int .i64 (qn : Int), .int .i64 (wait : Int), .slice ao l.length c, .int .u64 (first : Int), .int .i64 (out : Int), .int .i64 (ever : Int), .int .u64 (WN : Int), .bool true, .int .i64 (age : Int)] 30 (0, 0)) ∧ W.heap[w.heap.size + 1]? = some (.cells #[.int .i64 fk, .int .i64 fe, .int .u64 (fq : Int), .int .u64 (fa : Int), .string fb] 34 (0, 0))) (by kernel_rfl) (fun w1 hw1 => ?_))
        have HG1 := Lib.hid (blk_later HGB.out hw1)
        have HF1 := Lib.hid (blk_later HFB.out hw1)
        have HZ1 := Lib.hid (blk_later HZB.out hw1)
        have HX1 := Lib.hid (Ext.trans HXB.out hw1)
        clear hw1 HGB HFB HZB HXB
        (refine xtakeV 0 (v := ?_) (by simp only [List.getElem?_toArray, List.getElem?_cons, reduceIte]; rfl) (by kernel_rfl) (by rfl) (fun w' hw' => ?_) ?_; rotate_left; focus (have hc := (cells11 hw'.1).1; go_simp; first | done | with_reducible rfl)); (simp only [Act.put, List.setIfInBounds_toArray, List.set])
        (refine xtakeV 1 (v := ?_) (by simp only [List.getElem?_toArray, List.getElem?_cons, reduceIte]; rfl) (by kernel_rfl) (by rfl) (fun w' hw' => ?_) ?_; rotate_left; focus (skip; go_simp; first | done | with_reducible rfl)); (simp only [Act.put, List.setIfInBounds_toArray, List.set])
        (refine xtakeV 2 (v := ?_) (by simp only [List.getElem?_toArray, List.getElem?_cons, reduceIte]; rfl) (by kernel_rfl) (by rfl) (fun w' hw' => ?_) ?_; rotate_left; focus (have hc := (cells5 hw'.2).1; go_simp; first | done | with_reducible rfl)); (simp only [Act.put, List.setIfInBounds_toArray, List.set])
        (refine xone 3 (by kernel_rfl) (⟨HG1.out, HF1.out⟩) (RunX.of 3 (by simp only [List.getElem?_toArray, List.getElem?_cons, reduceIte]; rfl) (by rfl) ?_))
        obtain ⟨y5, y6⟩ := cells11 HZ1.out
        go_simp
        (try (simp only [Act.put, List.setIfInBounds_toArray, List.set]))
        (refine xtakeV 4 (v := ?_) (by simp only [List.getElem?_toArray, List.getElem?_cons, reduceIte]; rfl) (by kernel_rfl) (by rfl) (fun w' hw' => ?_) ?_; rotate_left; focus (skip; go_simp; first | done | with_reducible rfl)); (simp only [Act.put, List.setIfInBounds_toArray, List.set])
        (refine xtakeV 5 (v := ?_) (by simp only [List.getElem?_toArray, List.getElem?_cons, reduceIte]; rfl) (by kernel_rfl) (by rfl) (fun w' hw' => ?_) ?_; rotate_left; focus (skip; go_simp; first | done | with_reducible rfl)); (simp only [Act.put, List.setIfInBounds_toArray, List.set])
        (refine xdone (by kernel_rfl) (⟨(set11_other (by omega) (.int .i64 e) (.int .i64 (win : Int)) (.int .i64 (qn : Int)) (.int .i64 (wait : Int)) (.slice ao l.length c) (.int .u64 (first : Int)) (.int .i64 (out : Int)) (.int .i64 (ever : Int)) (.int .u64 (WN : Int)) (.bool true) (.int .i64 (age : Int))).trans HG1.out, (set11_other (by omega) (.int .i64 e) (.int .i64 (win : Int)) (.int .i64 (qn : Int)) (.int .i64 (wait : Int)) (.slice ao l.length c) (.int .u64 (first : Int)) (.int .i64 (out : Int)) (.int .i64 (ever : Int)) (.int .u64 (WN : Int)) (.bool true) (.int .i64 (age : Int))).trans HF1.out⟩) ?_)
        go_wp2
        have z := set11_blk HZ1.out (.int .i64 e) (.int .i64 (win : Int)) (.int .i64 (qn : Int)) (.int .i64 (wait : Int)) (.slice ao l.length c) (.int .u64 (first : Int)) (.int .i64 (out : Int)) (.int .i64 (ever : Int)) (.int .u64 (WN : Int)) (.bool true) (.int .i64 (age : Int))
        have y5 := set11_below (g := w.heap.size + 1 + 1) HX1.out (by omega) (.int .i64 e) (.int .i64 (win : Int)) (.int .i64 (qn : Int)) (.int .i64 (wait : Int)) (.slice ao l.length c) (.int .u64 (first : Int)) (.int .i64 (out : Int)) (.int .i64 (ever : Int)) (.int .u64 (WN : Int)) (.bool true) (.int .i64 (age : Int))
        obtain ⟨z0, z1, z2, z3, z4, z5, z6, z7, z8, z9, z10⟩ := (cells11 z).1
        simp only [set11] at z0 z1 z2 z3 z4 z5 z6 z7 z8 z9 z10
        refine bodyPost_ret (v := .tuple #[.agg #[.int .i64 e, .int .i64 (win : Int), .int .i64 (qn : Int), .int .i64 (wait : Int), .slice ao l.length c, .int .u64 (first : Int), .int .i64 (out : Int), .int .i64 (ever : Int), .int .u64 (WN : Int), .bool true, .int .i64 (age : Int)], .string fb, .bool true]) (by simp [results, Try.results21, go_sem, z0, z1, z2, z3, z4, z5, z6, z7, z8, z9, z10]; done) rfl ⟨.agg #[.int .i64 e, .int .i64 (win : Int), .int .i64 (qn : Int), .int .i64 (wait : Int), .slice ao l.length c, .int .u64 (first : Int), .int .i64 (out : Int), .int .i64 (ever : Int), .int .u64 (WN : Int), .bool true, .int .i64 (age : Int)], by rw [HR.out.1, HR.out.2.1], ⟨ao, l.length, c, by rw [HR.out.2.2]; rfl, by rw [HR.out.2.2]; exact HS.out.ext y5⟩, y5⟩
      · have t2 : (fk == 2) = false := beq_eq_false_iff_ne.2 hf
        have t3 : ((fq : Int) == (want : Int)) = false := beq_eq_false_iff_ne.2 (by omega)
        clear hf hq
        go_wp2
        have z := set11_blk ((set_other _ ⟨w.heap.size, 9, none⟩ (.bool true) (w.heap.size + 1 + 1) (by show w.heap.size + 1 + 1 ≠ w.heap.size; omega)).trans HW.out.2.2.1) (.int .i64 e) (.int .i64 (win : Int)) (.int .i64 (qn : Int)) (.int .i64 (wait : Int)) (.slice ao l.length c) (.int .u64 (first : Int)) (.int .i64 (out : Int)) (.int .i64 (ever : Int)) (.int .u64 (want : Int)) (.bool true) (.int .i64 (age : Int))
        have y5 := set11_below (g := w.heap.size + 1 + 1) (below_set (d := ⟨w.heap.size, 9, none⟩) HW.out.2.2.2 (Nat.le_refl _) (.bool true)) (by omega) (.int .i64 e) (.int .i64 (win : Int)) (.int .i64 (qn : Int)) (.int .i64 (wait : Int)) (.slice ao l.length c) (.int .u64 (first : Int)) (.int .i64 (out : Int)) (.int .i64 (ever : Int)) (.int .u64 (want : Int)) (.bool true) (.int .i64 (age : Int))
        obtain ⟨z0, z1, z2, z3, z4, z5, z6, z7, z8, z9, z10⟩ := (cells11 z).1
        simp only [set11] at z0 z1 z2 z3 z4 z5 z6 z7 z8 z9 z10
        refine bodyPost_ret (v := .tuple #[.agg #[.int .i64 e, .int .i64 (win : Int), .int .i64 (qn : Int), .int .i64 (wait : Int), .slice ao l.length c, .int .u64 (first : Int), .int .i64 (out : Int), .int .i64 (ever : Int), .int .u64 (want : Int), .bool true, .int .i64 (age : Int)], .string ⟨#[]⟩, .bool false]) (by simp [results, Try.results21, go_sem, z0, z1, z2, z3, z4, z5, z6, z7, z8, z9, z10]; done) rfl ⟨.agg #[.int .i64 e, .int .i64 (win : Int), .int .i64 (qn : Int), .int .i64 (wait : Int), .slice ao l.length c, .int .u64 (first : Int), .int .i64 (out : Int), .int .i64 (ever : Int), .int .u64 (want : Int), .bool true, .int .i64 (age : Int)], by rw [HR.out.1, HR.out.2.1], ⟨ao, l.length, c, by rw [HR.out.2.2]; rfl, by rw [HR.out.2.2]; exact HS.out.ext y5⟩, y5⟩
end Go.Proofs.Ytefkjclkondmeaa
