/- Links: the document's Take. -/
import Derived.Test.YtlakolkpfkakoaaGreatDoorMK
namespace Go.Proofs.YtlakolkpfkakoaaGreatDoor
open Go.RowKit

def TakesR (F : Nat → Prop) (S : EndS) (f : Fr) (w : World) (ev : Ending) (w' : World) : Prop := ∃ v', ev = .returned (.tuple #[v', .string (S.body f), .bool (S.told f)]) ∧ REnd F w' v' (S.take f) ∧ Ext w w'

set_option maxRecDepth 100000 in
set_option maxHeartbeats 4000000 in
theorem refTake_bad (F : Nat → Prop) (w : World) (v : Value) (S : EndS) (h : REnd F w v S) (f : Fr) (hg : S.good f = false) :
    Calls Tryz.prog 54 #[v, .agg #[.int .i64 f.k, .int .i64 f.e, .int .u64 f.q, .int .u64 f.a, .string f.b]] w (TakesR F S f w) := by
  have ht : S.told f = false := by unfold EndS.told; rw [hg]; rfl
  have HR := Lib.hid (show S.told f = false ∧ S.body f = ⟨#[]⟩ ∧ S.take f = S from ⟨ht, by unfold EndS.body; rw [if_neg (by rw [ht]; decide)], by unfold EndS.take; rw [if_neg (by rw [hg]; decide)]⟩)
  have cR := Lib.hid (fun W => refRight_any W f.k f.e f.q f.a f.b)
  obtain ⟨ao, n, c, rfl, hs⟩ := h
  have HS := Lib.hid hs
  clear hs ht
  have hcase : rightB ⟨f.k, f.e, f.q, f.a, f.b⟩ = false ∨ (rightB ⟨f.k, f.e, f.q, f.a, f.b⟩ = true ∧ (f.e != S.e) = true) := by
    unfold EndS.good at hg
    have h0 : (⟨f.k, f.e, f.q, f.a, f.b⟩ : Fr) = f := rfl
    rw [h0]
    cases hb : rightB f
    · exact .inl rfl
    · right
      rw [hb] at hg
      refine ⟨rfl, bne_iff_ne.2 (fun e => ?_)⟩
      rw [decide_eq_true e] at hg
      cases hg
  clear hg
  obtain ⟨e, win, qn, wait, l, first, out, ever, want, owes, age⟩ := S
  obtain ⟨fk, fe, fq, fa, fb⟩ := f
  unfold rCells
  dsimp only at cR hcase HS ⊢
  rcases hcase with hb | ⟨hb, he⟩ <;> rw [hb] at cR <;> clear hb
  all_goals
    go_enter Tryz.func54, Tryz.ntmps54
    go_wp2_with (first
      | (go_at_call 43; refine (cR.out _).mono ?_; rintro ev w2 ⟨rfl, x2⟩; have X2 := Lib.hid x2; obtain ⟨b1, b2, b3⟩ := box3 x2; have B1 := Lib.hid b1; have B2 := Lib.hid b2; have B3 := Lib.hid b3; clear b1 b2 b3; obtain ⟨k1, k2⟩ := cells11 B1.out; obtain ⟨k3, k4⟩ := cells5 B2.out; obtain ⟨k5, k6⟩ := cells11 B3.out; clear x2))
    have z := set11_blk B3.out (.int .i64 e) (.int .i64 win) (.int .i64 qn) (.int .i64 wait) (.slice ao n c) (.int .u64 first) (.int .i64 out) (.int .i64 ever) (.int .u64 want) (.bool owes) (.int .i64 age)
    have y5 := set11_below (g := w.heap.size + 1 + 1) (Ext.trans ((((Ext.refl w).alloc _).alloc _).alloc _) X2.out) (by omega) (.int .i64 e) (.int .i64 win) (.int .i64 qn) (.int .i64 wait) (.slice ao n c) (.int .u64 first) (.int .i64 out) (.int .i64 ever) (.int .u64 want) (.bool owes) (.int .i64 age)
    obtain ⟨z0, z1, z2, z3, z4, z5, z6, z7, z8, z9, z10⟩ := (cells11 z).1
    simp only [set11] at z0 z1 z2 z3 z4 z5 z6 z7 z8 z9 z10
    refine bodyPost_ret (v := .tuple #[.agg #[.int .i64 e, .int .i64 win, .int .i64 qn, .int .i64 wait, .slice ao n c, .int .u64 first, .int .i64 out, .int .i64 ever, .int .u64 want, .bool owes, .int .i64 age], .string ⟨#[]⟩, .bool false]) (by simp [results, Tryz.results54, go_sem, z0, z1, z2, z3, z4, z5, z6, z7, z8, z9, z10]; done) rfl ⟨.agg #[.int .i64 e, .int .i64 win, .int .i64 qn, .int .i64 wait, .slice ao n c, .int .u64 first, .int .i64 out, .int .i64 ever, .int .u64 want, .bool owes, .int .i64 age], by rw [HR.out.1, HR.out.2.1], ⟨ao, n, c, by rw [HR.out.2.2]; rfl, by rw [HR.out.2.2]; exact HS.out.ext y5⟩, y5⟩

set_option maxRecDepth 100000 in
set_option maxHeartbeats 16000000 in
theorem refTake_zero (F : Nat → Prop) (w : World) (v : Value) (S : EndS) (ok : S.Ok) (h : REnd F w v S) (f : Fr) (ha : f.a < 18446744073709551616) (hg : S.good f = true) (hk : S.gone f.a = 0) :
    Calls Tryz.prog 54 #[v, .agg #[.int .i64 f.k, .int .i64 f.e, .int .u64 f.q, .int .u64 f.a, .string f.b]] w (TakesR F S f w) := by
  obtain ⟨ao, n, c, rfl, hs⟩ := h
  obtain ⟨ao', c', hv⟩ := hs.1.len
  simp only [Value.slice.injEq] at hv
  obtain ⟨rfl, rfl, rfl⟩ := hv
  have HS := Lib.hid hs
  have hgood : rightB f = true ∧ f.e = S.e := by
    unfold EndS.good at hg
    rw [Bool.and_eq_true, decide_eq_true_eq] at hg
    exact hg
  have hkind : f.k = 1 ∨ f.k = 2 := by
    have := hgood.1
    unfold rightB at this
    simp only [Bool.and_eq_true, Bool.or_eq_true, decide_eq_true_eq] at this
    rcases this.2 with h | h
    · exact .inl h
    · exact .inr h.1
  have cR := Lib.hid (fun W => refRight_any W f.k f.e f.q f.a f.b)
  rw [show rightB ⟨f.k, f.e, f.q, f.a, f.b⟩ = true from hgood.1] at cR
  have hne : (f.e != S.e) = false := by rw [bne_eq_false_iff_eq]; exact hgood.2
  have HGN := gone_none ok ha hk
  have ha0 : (f.a : Int) < 18446744073709551616 := by omega
  have o1 := ok.el
  have o2 := ok.len
  have o3 := ok.qn
  have o4 := ok.want
  have o5 := ok.oe
  have o6 := ok.ew
  have o7 := ok.win8
  obtain ⟨e, win, qn, wait, l, first, out, ever, want, owes, age⟩ := S
  obtain ⟨fk, fe, fq, fa, fb⟩ := f
  unfold rCells
  dsimp only at cR hne hkind HS o1 o2 o3 o4 o5 o6 o7 ha HGN ha0 ⊢
  have hcase : (fk = 2 ∧ Hid (EndS.told (⟨e, win, qn, wait, l, first, out, ever, want, owes, age⟩ : EndS) ⟨fk, fe, fq, fa, fb⟩ = false ∧ EndS.body (⟨e, win, qn, wait, l, first, out, ever, want, owes, age⟩ : EndS) ⟨fk, fe, fq, fa, fb⟩ = ⟨#[]⟩ ∧ EndS.take (⟨e, win, qn, wait, l, first, out, ever, want, owes, age⟩ : EndS) ⟨fk, fe, fq, fa, fb⟩ = (⟨e, win, qn, wait, l, first, out, ever, want, owes, age⟩ : EndS))) ∨
      (fk ≠ 2 ∧ fq = want ∧ Hid (EndS.told (⟨e, win, qn, wait, l, first, out, ever, want, owes, age⟩ : EndS) ⟨fk, fe, fq, fa, fb⟩ = true ∧ EndS.body (⟨e, win, qn, wait, l, first, out, ever, want, owes, age⟩ : EndS) ⟨fk, fe, fq, fa, fb⟩ = fb ∧ EndS.take (⟨e, win, qn, wait, l, first, out, ever, want, owes, age⟩ : EndS) ⟨fk, fe, fq, fa, fb⟩ = (⟨e, win, qn, wait, l, first, out, ever, (want + 1) % 18446744073709551616, true, age⟩ : EndS))) ∨
      (fk ≠ 2 ∧ fq ≠ want ∧ Hid (EndS.told (⟨e, win, qn, wait, l, first, out, ever, want, owes, age⟩ : EndS) ⟨fk, fe, fq, fa, fb⟩ = false ∧ EndS.body (⟨e, win, qn, wait, l, first, out, ever, want, owes, age⟩ : EndS) ⟨fk, fe, fq, fa, fb⟩ = ⟨#[]⟩ ∧ EndS.take (⟨e, win, qn, wait, l, first, out, ever, want, owes, age⟩ : EndS) ⟨fk, fe, fq, fa, fb⟩ = (⟨e, win, qn, wait, l, first, out, ever, want, true, age⟩ : EndS))) := by
    by_cases h2 : fk = 2
    · left
      have ht : EndS.told (⟨e, win, qn, wait, l, first, out, ever, want, owes, age⟩ : EndS) ⟨fk, fe, fq, fa, fb⟩ = false := by unfold EndS.told; rw [decide_eq_false (show ¬ fk ≠ 2 from fun h => h h2)]; simp
      refine ⟨h2, Lib.hid ⟨ht, by unfold EndS.body; rw [if_neg (by rw [ht]; decide)], ?_⟩⟩
      unfold EndS.take
      rw [if_pos hg, if_pos h2]
      rw [show EndS.gone (⟨e, win, qn, wait, l, first, out, ever, want, owes, age⟩ : EndS) fa = 0 from hk]; exact EndS.drop_zero ok
    · by_cases hq : fq = want
      · right; left
        have ht : EndS.told (⟨e, win, qn, wait, l, first, out, ever, want, owes, age⟩ : EndS) ⟨fk, fe, fq, fa, fb⟩ = true := by unfold EndS.told; rw [hg, decide_eq_true (show fk ≠ 2 from h2), decide_eq_true (show fq = want from hq)]; rfl
        refine ⟨h2, hq, Lib.hid ⟨ht, by unfold EndS.body; rw [if_pos ht], ?_⟩⟩
        unfold EndS.take
        rw [if_pos hg, if_neg h2, if_pos (show fq = want from hq)]
        rw [show EndS.gone (⟨e, win, qn, wait, l, first, out, ever, want, owes, age⟩ : EndS) fa = 0 from hk, EndS.drop_zero ok]
      · right; right
        have ht : EndS.told (⟨e, win, qn, wait, l, first, out, ever, want, owes, age⟩ : EndS) ⟨fk, fe, fq, fa, fb⟩ = false := by unfold EndS.told; rw [decide_eq_false (show ¬ fq = want from hq)]; simp
        refine ⟨h2, hq, Lib.hid ⟨ht, by unfold EndS.body; rw [if_neg (by rw [ht]; decide)], ?_⟩⟩
        unfold EndS.take
        rw [if_pos hg, if_neg h2, if_neg (show ¬ fq = want from hq)]
        rw [show EndS.gone (⟨e, win, qn, wait, l, first, out, ever, want, owes, age⟩ : EndS) fa = 0 from hk, EndS.drop_zero ok]
  clear hg hs hgood ok hk
  have HCASE := Lib.hid hcase
  clear hcase
  go_enter Tryz.func54, Tryz.ntmps54
  go_wp2_with (first
    | (go_at_call 43; refine (cR.out _).mono ?_; rintro ev w2 ⟨rfl, x2⟩; obtain ⟨b1, b2, b3⟩ := box3 x2; have B1 := Lib.hid b1; have B2 := Lib.hid b2; have B3 := Lib.hid b3; clear b1 b2 b3; obtain ⟨k1, k2⟩ := cells11 B1.out; obtain ⟨k3, k4⟩ := cells5 B2.out; obtain ⟨k5, k6⟩ := cells11 B3.out; have X2 := Lib.hid (Ext.trans ((((Ext.refl w).alloc _).alloc _).alloc _) x2); clear x2))
  clear k1 k2 k3 k4 k5 k6
  go_loopw [7] (fun q wr => ∃ k : Nat, q = .int .i64 k ∧ 1 ≤ k ∧ k ≤ ever + 1 ∧ Hid (wr.heap[w.heap.size]? = some (.cells #[.int .i64 e, .int .i64 win, .int .i64 qn, .int .i64 wait, .slice ao l.length c, .int .u64 first, .int .i64 out, .int .i64 ever, .int .u64 want, .bool owes, .int .i64 age] 30) ∧ wr.heap[w.heap.size + 1]? = some (.cells #[.int .i64 fk, .int .i64 fe, .int .u64 fq, .int .u64 fa, .string fb] 83) ∧ wr.heap[w.heap.size + 1 + 1]? = some (.cells #[.int .i64 0, .int .i64 0, .int .i64 0, .int .i64 0, .slice none 0 0, .int .u64 0, .int .i64 0, .int .i64 0, .int .u64 0, .bool false, .int .i64 0] 30) ∧ Ext w wr)) (fun q _ => ever + 1 - (intOf q).toNat)
  case atStart => exact ⟨1, rfl, Nat.le_refl _, by omega, Lib.hid ⟨B1.out, B2.out, B3.out, X2.out⟩⟩
  case round =>
    obtain ⟨k, rfl, hk1, hk2, HW⟩ := hrel
    obtain ⟨k1, k2⟩ := cells11 HW.out.1
    obtain ⟨k3, k4⟩ := cells5 HW.out.2.1
    obtain ⟨k5, k6⟩ := cells11 HW.out.2.2.1
    have hsq := seq_wrap first k
    obtain ⟨Q, hQ⟩ : ∃ Q, Q = (first + k) % 18446744073709551616 := ⟨_, rfl⟩
    rw [← hQ] at hsq
    have hu : IntKind.u64.wrap (k : Int) = (k : Int) := wrapU _ (by omega) (by omega)
    have hn1 : IntKind.i64.wrap ((k : Int) + 1) = (k : Int) + 1 := wrapN _ (by omega) (by omega)
    by_cases hlt : k ≤ ever
    · have c1 : (k : Int) ≤ (ever : Int) := by omega
      have c2 : ((fa : Int) == (Q : Int)) = false := beq_eq_false_iff_ne.2 (fun e0 => HGN k hk1 hlt (by omega))
      clear hQ
      replace HGN := Lib.hid HGN
      go_wp2
      exact ⟨⟨k + 1, by go_num, by omega, by omega, HW⟩, by simp [intOf]; omega⟩
    · have c1 : ¬ (k : Int) ≤ (ever : Int) := by omega
      clear hQ hsq
      replace HGN := Lib.hid HGN
      rcases HCASE.out with ⟨hf, HR⟩ | ⟨hf, hq, HR⟩ | ⟨hf, hq, HR⟩
      · have t2 : (fk == 2) = true := beq_iff_eq.2 hf
        clear hf
        go_wp2
        have z := set11_blk HW.out.2.2.1 (.int .i64 e) (.int .i64 win) (.int .i64 qn) (.int .i64 wait) (.slice ao l.length c) (.int .u64 first) (.int .i64 out) (.int .i64 ever) (.int .u64 want) (.bool owes) (.int .i64 age)
        have y5 := set11_below (g := w.heap.size + 1 + 1) HW.out.2.2.2 (by omega) (.int .i64 e) (.int .i64 win) (.int .i64 qn) (.int .i64 wait) (.slice ao l.length c) (.int .u64 first) (.int .i64 out) (.int .i64 ever) (.int .u64 want) (.bool owes) (.int .i64 age)
        obtain ⟨z0, z1, z2, z3, z4, z5, z6, z7, z8, z9, z10⟩ := (cells11 z).1
        simp only [set11] at z0 z1 z2 z3 z4 z5 z6 z7 z8 z9 z10
        refine bodyPost_ret (v := .tuple #[.agg #[.int .i64 e, .int .i64 win, .int .i64 qn, .int .i64 wait, .slice ao l.length c, .int .u64 first, .int .i64 out, .int .i64 ever, .int .u64 want, .bool owes, .int .i64 age], .string ⟨#[]⟩, .bool false]) (by simp [results, Tryz.results54, go_sem, z0, z1, z2, z3, z4, z5, z6, z7, z8, z9, z10]; done) rfl ⟨.agg #[.int .i64 e, .int .i64 win, .int .i64 qn, .int .i64 wait, .slice ao l.length c, .int .u64 first, .int .i64 out, .int .i64 ever, .int .u64 want, .bool owes, .int .i64 age], by rw [HR.out.1, HR.out.2.1], ⟨ao, l.length, c, by rw [HR.out.2.2]; rfl, by rw [HR.out.2.2]; exact HS.out.ext y5⟩, y5⟩
      · have t2 : (fk == 2) = false := beq_eq_false_iff_ne.2 hf
        have t3 : ((fq : Int) == (want : Int)) = true := beq_iff_eq.2 (by omega)
        have hwn : IntKind.u64.wrap ((want : Int) + 1) = (((want + 1) % 18446744073709551616 : Nat) : Int) := seq_wrap want 1
        obtain ⟨WN, hWN⟩ : ∃ WN, WN = (want + 1) % 18446744073709551616 := ⟨_, rfl⟩
        rw [← hWN] at hwn HR
        clear hWN hf hq
        have hb9 := blk_set (blk_set HW.out.1 9 (.bool true)) 8 (.int .u64 WN)
        have HGB := Lib.hid (show ((wr.setCell ⟨w.heap.size, 9, none⟩ (.bool true)).setCell ⟨w.heap.size, 8, none⟩ (.int .u64 WN)).heap[w.heap.size]? = some (.cells #[.int .i64 e, .int .i64 win, .int .i64 qn, .int .i64 wait, .slice ao l.length c, .int .u64 first, .int .i64 out, .int .i64 ever, .int .u64 WN, .bool true, .int .i64 age] 30 (0, 0)) by simpa using hb9)
        have HFB := Lib.hid (((set_other _ ⟨w.heap.size, 8, none⟩ (.int .u64 WN) (w.heap.size + 1) (by show w.heap.size + 1 ≠ w.heap.size; omega)).trans (set_other wr ⟨w.heap.size, 9, none⟩ (.bool true) (w.heap.size + 1) (by show w.heap.size + 1 ≠ w.heap.size; omega))).trans HW.out.2.1)
        have HZB := Lib.hid (((set_other _ ⟨w.heap.size, 8, none⟩ (.int .u64 WN) (w.heap.size + 1 + 1) (by show w.heap.size + 1 + 1 ≠ w.heap.size; omega)).trans (set_other wr ⟨w.heap.size, 9, none⟩ (.bool true) (w.heap.size + 1 + 1) (by show w.heap.size + 1 + 1 ≠ w.heap.size; omega))).trans HW.out.2.2.1)
        have HXB := Lib.hid (below_set (d := ⟨w.heap.size, 8, none⟩) (below_set (d := ⟨w.heap.size, 9, none⟩) HW.out.2.2.2 (Nat.le_refl _) (.bool true)) (Nat.le_refl _) (.int .u64 WN))
        go_wp2_with fail
        obtain ⟨W0, hW0⟩ : ∃ W0, W0 = (wr.setCell ⟨w.heap.size, 9, none⟩ (.bool true)).setCell ⟨w.heap.size, 8, none⟩ (.int .u64 WN) := ⟨_, rfl⟩
        rw [← hW0] at HGB HFB HZB HXB ⊢
        clear hW0 hb9
        (refine wp_region_X_lit (K := fun W => W.heap[w.heap.size]? = some (.cells #[.int .i64 e, .int .i64 win, .int .i64 qn, .int .i64 wait, .slice ao l.length c, .int .u64 first, .int .i64 out, .int .i64 ever, .int .u64 WN, .bool true, .int .i64 age] 30 (0, 0)) ∧ W.heap[w.heap.size + 1]? = some (.cells #[.int .i64 fk, .int .i64 fe, .int .u64 fq, .int .u64 fa, .string fb] 83 (0, 0))) (by kernel_rfl) (fun w1 hw1 => ?_))
        have HG1 := Lib.hid (blk_later HGB.out hw1)
        have HF1 := Lib.hid (blk_later HFB.out hw1)
        have HZ1 := Lib.hid (blk_later HZB.out hw1)
        have HX1 := Lib.hid (Ext.trans HXB.out hw1)
        clear hw1 HGB HFB HZB HXB
        refine xtv 0 (hv := by intro w' hw'; have hc := (cells11 hw'.1).1; go_simp; first | done | with_reducible rfl) (h := ?_)
        refine xtv 1 (h := ?_)
        refine xtv 2 (hv := by intro w' hw'; have hc := (cells5 hw'.2).1; go_simp; first | done | with_reducible rfl) (h := ?_)
        refine xone 3 (hk := ⟨HG1.out, HF1.out⟩) (h := RunX.of 3 (h := ?_))
        obtain ⟨y5, y6⟩ := cells11 HZ1.out
        go_simp
        (try (simp only [Act.put, List.setIfInBounds_toArray, List.set]))
        refine xtv 4 (h := ?_)
        refine xtv 5 (h := ?_)
        (refine xdone (by kernel_rfl) (⟨(set11_other (by omega) (.int .i64 e) (.int .i64 win) (.int .i64 qn) (.int .i64 wait) (.slice ao l.length c) (.int .u64 first) (.int .i64 out) (.int .i64 ever) (.int .u64 WN) (.bool true) (.int .i64 age)).trans HG1.out, (set11_other (by omega) (.int .i64 e) (.int .i64 win) (.int .i64 qn) (.int .i64 wait) (.slice ao l.length c) (.int .u64 first) (.int .i64 out) (.int .i64 ever) (.int .u64 WN) (.bool true) (.int .i64 age)).trans HF1.out⟩) ?_)
        go_wp2
        have z := set11_blk HZ1.out (.int .i64 e) (.int .i64 win) (.int .i64 qn) (.int .i64 wait) (.slice ao l.length c) (.int .u64 first) (.int .i64 out) (.int .i64 ever) (.int .u64 WN) (.bool true) (.int .i64 age)
        have y5 := set11_below (g := w.heap.size + 1 + 1) HX1.out (by omega) (.int .i64 e) (.int .i64 win) (.int .i64 qn) (.int .i64 wait) (.slice ao l.length c) (.int .u64 first) (.int .i64 out) (.int .i64 ever) (.int .u64 WN) (.bool true) (.int .i64 age)
        obtain ⟨z0, z1, z2, z3, z4, z5, z6, z7, z8, z9, z10⟩ := (cells11 z).1
        simp only [set11] at z0 z1 z2 z3 z4 z5 z6 z7 z8 z9 z10
        refine bodyPost_ret (v := .tuple #[.agg #[.int .i64 e, .int .i64 win, .int .i64 qn, .int .i64 wait, .slice ao l.length c, .int .u64 first, .int .i64 out, .int .i64 ever, .int .u64 WN, .bool true, .int .i64 age], .string fb, .bool true]) (by simp [results, Tryz.results54, go_sem, z0, z1, z2, z3, z4, z5, z6, z7, z8, z9, z10]; done) rfl ⟨.agg #[.int .i64 e, .int .i64 win, .int .i64 qn, .int .i64 wait, .slice ao l.length c, .int .u64 first, .int .i64 out, .int .i64 ever, .int .u64 WN, .bool true, .int .i64 age], by rw [HR.out.1, HR.out.2.1], ⟨ao, l.length, c, by rw [HR.out.2.2]; rfl, by rw [HR.out.2.2]; exact HS.out.ext y5⟩, y5⟩
      · have t2 : (fk == 2) = false := beq_eq_false_iff_ne.2 hf
        have t3 : ((fq : Int) == (want : Int)) = false := beq_eq_false_iff_ne.2 (by omega)
        clear hf hq
        go_wp2
        have z := set11_blk ((set_other _ ⟨w.heap.size, 9, none⟩ (.bool true) (w.heap.size + 1 + 1) (by show w.heap.size + 1 + 1 ≠ w.heap.size; omega)).trans HW.out.2.2.1) (.int .i64 e) (.int .i64 win) (.int .i64 qn) (.int .i64 wait) (.slice ao l.length c) (.int .u64 first) (.int .i64 out) (.int .i64 ever) (.int .u64 want) (.bool true) (.int .i64 age)
        have y5 := set11_below (g := w.heap.size + 1 + 1) (below_set (d := ⟨w.heap.size, 9, none⟩) HW.out.2.2.2 (Nat.le_refl _) (.bool true)) (by omega) (.int .i64 e) (.int .i64 win) (.int .i64 qn) (.int .i64 wait) (.slice ao l.length c) (.int .u64 first) (.int .i64 out) (.int .i64 ever) (.int .u64 want) (.bool true) (.int .i64 age)
        obtain ⟨z0, z1, z2, z3, z4, z5, z6, z7, z8, z9, z10⟩ := (cells11 z).1
        simp only [set11] at z0 z1 z2 z3 z4 z5 z6 z7 z8 z9 z10
        refine bodyPost_ret (v := .tuple #[.agg #[.int .i64 e, .int .i64 win, .int .i64 qn, .int .i64 wait, .slice ao l.length c, .int .u64 first, .int .i64 out, .int .i64 ever, .int .u64 want, .bool true, .int .i64 age], .string ⟨#[]⟩, .bool false]) (by simp [results, Tryz.results54, go_sem, z0, z1, z2, z3, z4, z5, z6, z7, z8, z9, z10]; done) rfl ⟨.agg #[.int .i64 e, .int .i64 win, .int .i64 qn, .int .i64 wait, .slice ao l.length c, .int .u64 first, .int .i64 out, .int .i64 ever, .int .u64 want, .bool true, .int .i64 age], by rw [HR.out.1, HR.out.2.1], ⟨ao, l.length, c, by rw [HR.out.2.2]; rfl, by rw [HR.out.2.2]; exact HS.out.ext y5⟩, y5⟩
end Go.Proofs.YtlakolkpfkakoaaGreatDoor

/- Links: the document's Take, where some are known to have come. -/
namespace Go.Proofs.YtlakolkpfkakoaaGreatDoor
open Go.RowKit

set_option maxRecDepth 100000 in
set_option maxHeartbeats 16000000 in
theorem refTake_some (F : Nat → Prop) (w : World) (v : Value) (S : EndS) (ok : S.Ok) (h : REnd F w v S) (f : Fr) (ha : f.a < 18446744073709551616) (hg : S.good f = true) (hk : 1 ≤ S.gone f.a) :
    Calls Tryz.prog 54 #[v, .agg #[.int .i64 f.k, .int .i64 f.e, .int .u64 f.q, .int .u64 f.a, .string f.b]] w (TakesR F S f w) := by
  obtain ⟨ao, n, c, rfl, hs⟩ := h
  obtain ⟨ao', c', hv⟩ := hs.1.len
  simp only [Value.slice.injEq] at hv
  obtain ⟨rfl, rfl, rfl⟩ := hv
  have HS := Lib.hid hs
  have hgood : rightB f = true ∧ f.e = S.e := by
    unfold EndS.good at hg
    rw [Bool.and_eq_true, decide_eq_true_eq] at hg
    exact hg
  have hkind : f.k = 1 ∨ f.k = 2 := by
    have := hgood.1
    unfold rightB at this
    simp only [Bool.and_eq_true, Bool.or_eq_true, decide_eq_true_eq] at this
    rcases this.2 with h | h
    · exact .inl h
    · exact .inr h.1
  have cR := Lib.hid (fun W => refRight_any W f.k f.e f.q f.a f.b)
  rw [show rightB ⟨f.k, f.e, f.q, f.a, f.b⟩ = true from hgood.1] at cR
  have hne : (f.e != S.e) = false := by rw [bne_eq_false_iff_eq]; exact hgood.2
  obtain ⟨k0, hk0⟩ : ∃ k0, S.gone f.a = k0 := ⟨_, rfl⟩
  rw [hk0] at hk
  obtain ⟨hk9, hke, HGN⟩ := gone_some ok ha hk0 hk
  have ha0 : (f.a : Int) < 18446744073709551616 := by omega
  have o1 := ok.el
  have o2 := ok.len
  have o3 := ok.qn
  have o4 := ok.want
  have o5 := ok.oe
  have o6 := ok.ew
  have o7 := ok.win8
  obtain ⟨e, win, qn, wait, l, first, out, ever, want, owes, age⟩ := S
  obtain ⟨fk, fe, fq, fa, fb⟩ := f
  unfold rCells
  dsimp only at cR hne hkind HS o1 o2 o3 o4 o5 o6 o7 ha HGN hke hk9 ha0 ⊢
  have hcase : (fk = 2 ∧ Hid (EndS.told (⟨e, win, qn, wait, l, first, out, ever, want, owes, age⟩ : EndS) ⟨fk, fe, fq, fa, fb⟩ = false ∧ EndS.body (⟨e, win, qn, wait, l, first, out, ever, want, owes, age⟩ : EndS) ⟨fk, fe, fq, fa, fb⟩ = ⟨#[]⟩ ∧ EndS.take (⟨e, win, qn, wait, l, first, out, ever, want, owes, age⟩ : EndS) ⟨fk, fe, fq, fa, fb⟩ = (⟨e, win, qn, wait, l.drop k0, (first + k0) % 18446744073709551616, out - k0, ever - k0, want, owes, 0⟩ : EndS))) ∨
      (fk ≠ 2 ∧ fq = want ∧ Hid (EndS.told (⟨e, win, qn, wait, l, first, out, ever, want, owes, age⟩ : EndS) ⟨fk, fe, fq, fa, fb⟩ = true ∧ EndS.body (⟨e, win, qn, wait, l, first, out, ever, want, owes, age⟩ : EndS) ⟨fk, fe, fq, fa, fb⟩ = fb ∧ EndS.take (⟨e, win, qn, wait, l, first, out, ever, want, owes, age⟩ : EndS) ⟨fk, fe, fq, fa, fb⟩ = (⟨e, win, qn, wait, l.drop k0, (first + k0) % 18446744073709551616, out - k0, ever - k0, (want + 1) % 18446744073709551616, true, 0⟩ : EndS))) ∨
      (fk ≠ 2 ∧ fq ≠ want ∧ Hid (EndS.told (⟨e, win, qn, wait, l, first, out, ever, want, owes, age⟩ : EndS) ⟨fk, fe, fq, fa, fb⟩ = false ∧ EndS.body (⟨e, win, qn, wait, l, first, out, ever, want, owes, age⟩ : EndS) ⟨fk, fe, fq, fa, fb⟩ = ⟨#[]⟩ ∧ EndS.take (⟨e, win, qn, wait, l, first, out, ever, want, owes, age⟩ : EndS) ⟨fk, fe, fq, fa, fb⟩ = (⟨e, win, qn, wait, l.drop k0, (first + k0) % 18446744073709551616, out - k0, ever - k0, want, true, 0⟩ : EndS))) := by
    by_cases h2 : fk = 2
    · left
      have ht : EndS.told (⟨e, win, qn, wait, l, first, out, ever, want, owes, age⟩ : EndS) ⟨fk, fe, fq, fa, fb⟩ = false := by unfold EndS.told; rw [decide_eq_false (show ¬ fk ≠ 2 from fun h => h h2)]; simp
      refine ⟨h2, Lib.hid ⟨ht, by unfold EndS.body; rw [if_neg (by rw [ht]; decide)], ?_⟩⟩
      unfold EndS.take
      rw [if_pos hg, if_pos h2]
      rw [show EndS.gone (⟨e, win, qn, wait, l, first, out, ever, want, owes, age⟩ : EndS) fa = k0 from hk0]; unfold EndS.drop; rw [if_neg (by omega)]
    · by_cases hq : fq = want
      · right; left
        have ht : EndS.told (⟨e, win, qn, wait, l, first, out, ever, want, owes, age⟩ : EndS) ⟨fk, fe, fq, fa, fb⟩ = true := by unfold EndS.told; rw [hg, decide_eq_true (show fk ≠ 2 from h2), decide_eq_true (show fq = want from hq)]; rfl
        refine ⟨h2, hq, Lib.hid ⟨ht, by unfold EndS.body; rw [if_pos ht], ?_⟩⟩
        unfold EndS.take
        rw [if_pos hg, if_neg h2, if_pos (show fq = want from hq)]
        rw [show EndS.gone (⟨e, win, qn, wait, l, first, out, ever, want, owes, age⟩ : EndS) fa = k0 from hk0]; unfold EndS.drop; rw [if_neg (by omega)]
      · right; right
        have ht : EndS.told (⟨e, win, qn, wait, l, first, out, ever, want, owes, age⟩ : EndS) ⟨fk, fe, fq, fa, fb⟩ = false := by unfold EndS.told; rw [decide_eq_false (show ¬ fq = want from hq)]; simp
        refine ⟨h2, hq, Lib.hid ⟨ht, by unfold EndS.body; rw [if_neg (by rw [ht]; decide)], ?_⟩⟩
        unfold EndS.take
        rw [if_pos hg, if_neg h2, if_neg (show ¬ fq = want from hq)]
        rw [show EndS.gone (⟨e, win, qn, wait, l, first, out, ever, want, owes, age⟩ : EndS) fa = k0 from hk0]; unfold EndS.drop; rw [if_neg (by omega)]
  clear hg hs hgood ok hk0
  have HKE := Lib.hid hke
  have HGNN := Lib.hid HGN
  clear hke HGN
  have HCASE := Lib.hid hcase
  clear hcase
  go_enter Tryz.func54, Tryz.ntmps54
  go_wp2_with (first
    | (go_at_call 43; refine (cR.out _).mono ?_; rintro ev w2 ⟨rfl, x2⟩; obtain ⟨b1, b2, b3⟩ := box3 x2; have B1 := Lib.hid b1; have B2 := Lib.hid b2; have B3 := Lib.hid b3; clear b1 b2 b3; obtain ⟨k1, k2⟩ := cells11 B1.out; obtain ⟨k3, k4⟩ := cells5 B2.out; obtain ⟨k5, k6⟩ := cells11 B3.out; have X2 := Lib.hid (Ext.trans ((((Ext.refl w).alloc _).alloc _).alloc _) x2); clear x2))
  clear k1 k2 k3 k4 k5 k6
  go_loopw [7] (fun q wr => ∃ k : Nat, q = .int .i64 k ∧ 1 ≤ k ∧ k ≤ k0 ∧ Hid (wr.heap[w.heap.size]? = some (.cells #[.int .i64 e, .int .i64 win, .int .i64 qn, .int .i64 wait, .slice ao l.length c, .int .u64 first, .int .i64 out, .int .i64 ever, .int .u64 want, .bool owes, .int .i64 age] 30) ∧ wr.heap[w.heap.size + 1]? = some (.cells #[.int .i64 fk, .int .i64 fe, .int .u64 fq, .int .u64 fa, .string fb] 83) ∧ wr.heap[w.heap.size + 1 + 1]? = some (.cells #[.int .i64 0, .int .i64 0, .int .i64 0, .int .i64 0, .slice none 0 0, .int .u64 0, .int .i64 0, .int .i64 0, .int .u64 0, .bool false, .int .i64 0] 30) ∧ Ext w wr)) (fun q _ => ever + 1 - (intOf q).toNat)
  case atStart => exact ⟨1, rfl, Nat.le_refl _, hk, Lib.hid ⟨B1.out, B2.out, B3.out, X2.out⟩⟩
  case round =>
    obtain ⟨k, rfl, hk1, hk2, HW⟩ := hrel
    obtain ⟨k1, k2⟩ := cells11 HW.out.1
    obtain ⟨k3, k4⟩ := cells5 HW.out.2.1
    obtain ⟨k5, k6⟩ := cells11 HW.out.2.2.1
    have hsq := seq_wrap first k
    obtain ⟨Q, hQ⟩ : ∃ Q, Q = (first + k) % 18446744073709551616 := ⟨_, rfl⟩
    rw [← hQ] at hsq
    have hu : IntKind.u64.wrap (k : Int) = (k : Int) := wrapU _ (by omega) (by omega)
    have hn1 : IntKind.i64.wrap ((k : Int) + 1) = (k : Int) + 1 := wrapN _ (by omega) (by omega)
    have c1 : (k : Int) ≤ (ever : Int) := by omega
    by_cases hlt : k < k0
    · have c2 : ((fa : Int) == (Q : Int)) = false := beq_eq_false_iff_ne.2 (fun e0 => HGNN.out k hk1 hlt (by omega))
      clear hQ
      go_wp2
      exact ⟨⟨k + 1, by go_num, by omega, by omega, HW⟩, by simp [intOf]; omega⟩
    · have hkk : k0 = k := by omega
      subst hkk
      have c2 : ((fa : Int) == (Q : Int)) = true := beq_iff_eq.2 (by have := HKE.out; omega)
      rw [← hQ] at HCASE
      clear hQ
      rcases HS.out.1.texts with ⟨h0, _⟩ | ⟨b, off, c2', hv, hq1, hq2, hbl, hpos, hat⟩
      · rw [h0] at o1; simp at o1; omega
      simp only [Value.slice.injEq] at hv
      obtain ⟨rfl, _, rfl⟩ := hv
      clear hat
      have s1 : (k0 : Int) ≤ (l.length : Int) := by omega
      have s2 : (l.length : Int) ≤ (c : Int) := by omega
      have hw2 : IntKind.i64.wrap ((ever : Int) - (k0 : Int)) = ((ever - k0 : Nat) : Int) := by rw [wrapN _ (by omega) (by omega)]; omega
      have hsl := HS.out.tailT k0 (by omega) hq1
      by_cases hck : k0 = c
      · have HL := Lib.hid (hsl.1 hck)
        subst hck
        clear hsl
        by_cases hok : (out : Int) < (k0 : Int)
        · have hw1 : IntKind.i64.wrap ((out : Int) - (k0 : Int)) = (out : Int) - (k0 : Int) := wrapN _ (by omega) (by omega)
          rw [show out - k0 = 0 by omega] at HCASE
          have hb0 := blk_set (blk_set (blk_set (blk_set (blk_set HW.out.1 4 (.slice (some ⟨b, off, none⟩) 0 0)) 5 (.int .u64 Q)) 6 (.int .i64 0)) 7 (.int .i64 ((ever - k0 : Nat) : Int))) 10 (.int .i64 0)
          have HV : Hid ((((((wr.setCell ⟨w.heap.size, 4, none⟩ (.slice (some ⟨b, off, none⟩) 0 0)).setCell ⟨w.heap.size, 5, none⟩ (.int .u64 Q)).setCell ⟨w.heap.size, 6, none⟩ (.int .i64 0)).setCell ⟨w.heap.size, 7, none⟩ (.int .i64 ((ever - k0 : Nat) : Int))).setCell ⟨w.heap.size, 10, none⟩ (.int .i64 0)).heap[w.heap.size]? = some (.cells #[.int .i64 e, .int .i64 win, .int .i64 qn, .int .i64 wait, .slice (some ⟨b, off, none⟩) 0 0, .int .u64 Q, .int .i64 0, .int .i64 ((ever - k0 : Nat) : Int), .int .u64 want, .bool owes, .int .i64 0] 30 (0, 0)) ∧ (((((wr.setCell ⟨w.heap.size, 4, none⟩ (.slice (some ⟨b, off, none⟩) 0 0)).setCell ⟨w.heap.size, 5, none⟩ (.int .u64 Q)).setCell ⟨w.heap.size, 6, none⟩ (.int .i64 0)).setCell ⟨w.heap.size, 7, none⟩ (.int .i64 ((ever - k0 : Nat) : Int))).setCell ⟨w.heap.size, 10, none⟩ (.int .i64 0)).heap[w.heap.size + 1]? = some (.cells #[.int .i64 fk, .int .i64 fe, .int .u64 fq, .int .u64 fa, .string fb] 83 (0, 0)) ∧ (((((wr.setCell ⟨w.heap.size, 4, none⟩ (.slice (some ⟨b, off, none⟩) 0 0)).setCell ⟨w.heap.size, 5, none⟩ (.int .u64 Q)).setCell ⟨w.heap.size, 6, none⟩ (.int .i64 0)).setCell ⟨w.heap.size, 7, none⟩ (.int .i64 ((ever - k0 : Nat) : Int))).setCell ⟨w.heap.size, 10, none⟩ (.int .i64 0)).heap[w.heap.size + 1 + 1]? = some (.cells #[.int .i64 0, .int .i64 0, .int .i64 0, .int .i64 0, .slice none 0 0, .int .u64 0, .int .i64 0, .int .i64 0, .int .u64 0, .bool false, .int .i64 0] 30 (0, 0)) ∧ Below w.heap.size w (((((wr.setCell ⟨w.heap.size, 4, none⟩ (.slice (some ⟨b, off, none⟩) 0 0)).setCell ⟨w.heap.size, 5, none⟩ (.int .u64 Q)).setCell ⟨w.heap.size, 6, none⟩ (.int .i64 0)).setCell ⟨w.heap.size, 7, none⟩ (.int .i64 ((ever - k0 : Nat) : Int))).setCell ⟨w.heap.size, 10, none⟩ (.int .i64 0))) := Lib.hid ⟨by simpa using hb0, ((((((set_other _ ⟨w.heap.size, 10, none⟩ _ (w.heap.size + 1) (by show w.heap.size + 1 ≠ w.heap.size; omega)).trans (set_other _ ⟨w.heap.size, 7, none⟩ _ (w.heap.size + 1) (by show w.heap.size + 1 ≠ w.heap.size; omega))).trans (set_other _ ⟨w.heap.size, 6, none⟩ _ (w.heap.size + 1) (by show w.heap.size + 1 ≠ w.heap.size; omega))).trans (set_other _ ⟨w.heap.size, 5, none⟩ _ (w.heap.size + 1) (by show w.heap.size + 1 ≠ w.heap.size; omega))).trans (set_other _ ⟨w.heap.size, 4, none⟩ _ (w.heap.size + 1) (by show w.heap.size + 1 ≠ w.heap.size; omega))).trans HW.out.2.1), ((((((set_other _ ⟨w.heap.size, 10, none⟩ _ (w.heap.size + 1 + 1) (by show w.heap.size + 1 + 1 ≠ w.heap.size; omega)).trans (set_other _ ⟨w.heap.size, 7, none⟩ _ (w.heap.size + 1 + 1) (by show w.heap.size + 1 + 1 ≠ w.heap.size; omega))).trans (set_other _ ⟨w.heap.size, 6, none⟩ _ (w.heap.size + 1 + 1) (by show w.heap.size + 1 + 1 ≠ w.heap.size; omega))).trans (set_other _ ⟨w.heap.size, 5, none⟩ _ (w.heap.size + 1 + 1) (by show w.heap.size + 1 + 1 ≠ w.heap.size; omega))).trans (set_other _ ⟨w.heap.size, 4, none⟩ _ (w.heap.size + 1 + 1) (by show w.heap.size + 1 + 1 ≠ w.heap.size; omega))).trans HW.out.2.2.1), below_set (below_set (below_set (below_set (below_set HW.out.2.2.2 (Nat.le_refl _) _) (Nat.le_refl _) _) (Nat.le_refl _) _) (Nat.le_refl _) _) (Nat.le_refl _) _⟩
          clear hb0
          rcases HCASE.out with ⟨hf, HR⟩ | ⟨hf, hq, HR⟩ | ⟨hf, hq, HR⟩
          · have t2 : (fk == 2) = true := beq_iff_eq.2 hf
            clear hf
            go_wp2
            have z := set11_blk HV.out.2.2.1 (.int .i64 e) (.int .i64 win) (.int .i64 qn) (.int .i64 wait) (.slice (some ⟨b, off, none⟩) 0 0) (.int .u64 Q) (.int .i64 0) (.int .i64 ((ever - k0 : Nat) : Int)) (.int .u64 want) (.bool owes) (.int .i64 0)
            have y5 := set11_below (g := w.heap.size + 1 + 1) HV.out.2.2.2 (by omega) (.int .i64 e) (.int .i64 win) (.int .i64 qn) (.int .i64 wait) (.slice (some ⟨b, off, none⟩) 0 0) (.int .u64 Q) (.int .i64 0) (.int .i64 ((ever - k0 : Nat) : Int)) (.int .u64 want) (.bool owes) (.int .i64 0)
            obtain ⟨z0, z1, z2, z3, z4, z5, z6, z7, z8, z9, z10⟩ := (cells11 z).1
            simp only [set11] at z0 z1 z2 z3 z4 z5 z6 z7 z8 z9 z10
            refine bodyPost_ret (v := .tuple #[.agg #[.int .i64 e, .int .i64 win, .int .i64 qn, .int .i64 wait, .slice (some ⟨b, off, none⟩) 0 0, .int .u64 Q, .int .i64 0, .int .i64 ((ever - k0 : Nat) : Int), .int .u64 want, .bool owes, .int .i64 0], .string ⟨#[]⟩, .bool false]) (by simp [results, Tryz.results54, go_sem, z0, z1, z2, z3, z4, z5, z6, z7, z8, z9, z10]; done) rfl ⟨.agg #[.int .i64 e, .int .i64 win, .int .i64 qn, .int .i64 wait, .slice (some ⟨b, off, none⟩) 0 0, .int .u64 Q, .int .i64 0, .int .i64 ((ever - k0 : Nat) : Int), .int .u64 want, .bool owes, .int .i64 0], by rw [HR.out.1, HR.out.2.1], ⟨(some ⟨b, off, none⟩), 0, 0, by rw [HR.out.2.2]; rfl, by rw [HR.out.2.2]; exact HL.out.ext y5⟩, y5⟩
          · have t2 : (fk == 2) = false := beq_eq_false_iff_ne.2 hf
            have t3 : ((fq : Int) == (want : Int)) = true := beq_iff_eq.2 (by omega)
            have hwn : IntKind.u64.wrap ((want : Int) + 1) = (((want + 1) % 18446744073709551616 : Nat) : Int) := seq_wrap want 1
            obtain ⟨WN, hWN⟩ : ∃ WN, WN = (want + 1) % 18446744073709551616 := ⟨_, rfl⟩
            rw [← hWN] at hwn HR
            clear hWN hf hq
            have hb9 := blk_set (blk_set HV.out.1 9 (.bool true)) 8 (.int .u64 WN)
            have HGB := Lib.hid (show (((((((wr.setCell ⟨w.heap.size, 4, none⟩ (.slice (some ⟨b, off, none⟩) 0 0)).setCell ⟨w.heap.size, 5, none⟩ (.int .u64 Q)).setCell ⟨w.heap.size, 6, none⟩ (.int .i64 0)).setCell ⟨w.heap.size, 7, none⟩ (.int .i64 ((ever - k0 : Nat) : Int))).setCell ⟨w.heap.size, 10, none⟩ (.int .i64 0)).setCell ⟨w.heap.size, 9, none⟩ (.bool true)).setCell ⟨w.heap.size, 8, none⟩ (.int .u64 WN)).heap[w.heap.size]? = some (.cells #[.int .i64 e, .int .i64 win, .int .i64 qn, .int .i64 wait, .slice (some ⟨b, off, none⟩) 0 0, .int .u64 Q, .int .i64 0, .int .i64 ((ever - k0 : Nat) : Int), .int .u64 WN, .bool true, .int .i64 0] 30 (0, 0)) by simpa using hb9)
            have HFB := Lib.hid (((set_other _ ⟨w.heap.size, 8, none⟩ (.int .u64 WN) (w.heap.size + 1) (by show w.heap.size + 1 ≠ w.heap.size; omega)).trans (set_other (((((wr.setCell ⟨w.heap.size, 4, none⟩ (.slice (some ⟨b, off, none⟩) 0 0)).setCell ⟨w.heap.size, 5, none⟩ (.int .u64 Q)).setCell ⟨w.heap.size, 6, none⟩ (.int .i64 0)).setCell ⟨w.heap.size, 7, none⟩ (.int .i64 ((ever - k0 : Nat) : Int))).setCell ⟨w.heap.size, 10, none⟩ (.int .i64 0)) ⟨w.heap.size, 9, none⟩ (.bool true) (w.heap.size + 1) (by show w.heap.size + 1 ≠ w.heap.size; omega))).trans HV.out.2.1)
            have HZB := Lib.hid (((set_other _ ⟨w.heap.size, 8, none⟩ (.int .u64 WN) (w.heap.size + 1 + 1) (by show w.heap.size + 1 + 1 ≠ w.heap.size; omega)).trans (set_other (((((wr.setCell ⟨w.heap.size, 4, none⟩ (.slice (some ⟨b, off, none⟩) 0 0)).setCell ⟨w.heap.size, 5, none⟩ (.int .u64 Q)).setCell ⟨w.heap.size, 6, none⟩ (.int .i64 0)).setCell ⟨w.heap.size, 7, none⟩ (.int .i64 ((ever - k0 : Nat) : Int))).setCell ⟨w.heap.size, 10, none⟩ (.int .i64 0)) ⟨w.heap.size, 9, none⟩ (.bool true) (w.heap.size + 1 + 1) (by show w.heap.size + 1 + 1 ≠ w.heap.size; omega))).trans HV.out.2.2.1)
            have HXB := Lib.hid (below_set (d := ⟨w.heap.size, 8, none⟩) (below_set (d := ⟨w.heap.size, 9, none⟩) HV.out.2.2.2 (Nat.le_refl _) (.bool true)) (Nat.le_refl _) (.int .u64 WN))
            go_wp2_with fail
            obtain ⟨W0, hW0⟩ : ∃ W0, W0 = ((((((wr.setCell ⟨w.heap.size, 4, none⟩ (.slice (some ⟨b, off, none⟩) 0 0)).setCell ⟨w.heap.size, 5, none⟩ (.int .u64 Q)).setCell ⟨w.heap.size, 6, none⟩ (.int .i64 0)).setCell ⟨w.heap.size, 7, none⟩ (.int .i64 ((ever - k0 : Nat) : Int))).setCell ⟨w.heap.size, 10, none⟩ (.int .i64 0)).setCell ⟨w.heap.size, 9, none⟩ (.bool true)).setCell ⟨w.heap.size, 8, none⟩ (.int .u64 WN) := ⟨_, rfl⟩
            rw [← hW0] at HGB HFB HZB HXB ⊢
            clear hW0 hb9
            (refine wp_region_X_lit (K := fun W => W.heap[w.heap.size]? = some (.cells #[.int .i64 e, .int .i64 win, .int .i64 qn, .int .i64 wait, .slice (some ⟨b, off, none⟩) 0 0, .int .u64 Q, .int .i64 0, .int .i64 ((ever - k0 : Nat) : Int), .int .u64 WN, .bool true, .int .i64 0] 30 (0, 0)) ∧ W.heap[w.heap.size + 1]? = some (.cells #[.int .i64 fk, .int .i64 fe, .int .u64 fq, .int .u64 fa, .string fb] 83 (0, 0))) (by kernel_rfl) (fun w1 hw1 => ?_))
            have HG1 := Lib.hid (blk_later HGB.out hw1)
            have HF1 := Lib.hid (blk_later HFB.out hw1)
            have HZ1 := Lib.hid (blk_later HZB.out hw1)
            have HX1 := Lib.hid (Ext.trans HXB.out hw1)
            clear hw1 HGB HFB HZB HXB
            refine xtv 0 (hv := by intro w' hw'; have hc := (cells11 hw'.1).1; go_simp; first | done | with_reducible rfl) (h := ?_)
            refine xtv 1 (h := ?_)
            refine xtv 2 (hv := by intro w' hw'; have hc := (cells5 hw'.2).1; go_simp; first | done | with_reducible rfl) (h := ?_)
            refine xone 3 (hk := ⟨HG1.out, HF1.out⟩) (h := RunX.of 3 (h := ?_))
            obtain ⟨y5, y6⟩ := cells11 HZ1.out
            go_simp
            (try (simp only [Act.put, List.setIfInBounds_toArray, List.set]))
            refine xtv 4 (h := ?_)
            refine xtv 5 (h := ?_)
            (refine xdone (by kernel_rfl) (⟨(set11_other (by omega) (.int .i64 e) (.int .i64 win) (.int .i64 qn) (.int .i64 wait) (.slice (some ⟨b, off, none⟩) 0 0) (.int .u64 Q) (.int .i64 0) (.int .i64 ((ever - k0 : Nat) : Int)) (.int .u64 WN) (.bool true) (.int .i64 0)).trans HG1.out, (set11_other (by omega) (.int .i64 e) (.int .i64 win) (.int .i64 qn) (.int .i64 wait) (.slice (some ⟨b, off, none⟩) 0 0) (.int .u64 Q) (.int .i64 0) (.int .i64 ((ever - k0 : Nat) : Int)) (.int .u64 WN) (.bool true) (.int .i64 0)).trans HF1.out⟩) ?_)
            go_wp2
            have z := set11_blk HZ1.out (.int .i64 e) (.int .i64 win) (.int .i64 qn) (.int .i64 wait) (.slice (some ⟨b, off, none⟩) 0 0) (.int .u64 Q) (.int .i64 0) (.int .i64 ((ever - k0 : Nat) : Int)) (.int .u64 WN) (.bool true) (.int .i64 0)
            have y5 := set11_below (g := w.heap.size + 1 + 1) HX1.out (by omega) (.int .i64 e) (.int .i64 win) (.int .i64 qn) (.int .i64 wait) (.slice (some ⟨b, off, none⟩) 0 0) (.int .u64 Q) (.int .i64 0) (.int .i64 ((ever - k0 : Nat) : Int)) (.int .u64 WN) (.bool true) (.int .i64 0)
            obtain ⟨z0, z1, z2, z3, z4, z5, z6, z7, z8, z9, z10⟩ := (cells11 z).1
            simp only [set11] at z0 z1 z2 z3 z4 z5 z6 z7 z8 z9 z10
            refine bodyPost_ret (v := .tuple #[.agg #[.int .i64 e, .int .i64 win, .int .i64 qn, .int .i64 wait, .slice (some ⟨b, off, none⟩) 0 0, .int .u64 Q, .int .i64 0, .int .i64 ((ever - k0 : Nat) : Int), .int .u64 WN, .bool true, .int .i64 0], .string fb, .bool true]) (by simp [results, Tryz.results54, go_sem, z0, z1, z2, z3, z4, z5, z6, z7, z8, z9, z10]; done) rfl ⟨.agg #[.int .i64 e, .int .i64 win, .int .i64 qn, .int .i64 wait, .slice (some ⟨b, off, none⟩) 0 0, .int .u64 Q, .int .i64 0, .int .i64 ((ever - k0 : Nat) : Int), .int .u64 WN, .bool true, .int .i64 0], by rw [HR.out.1, HR.out.2.1], ⟨(some ⟨b, off, none⟩), 0, 0, by rw [HR.out.2.2]; rfl, by rw [HR.out.2.2]; exact HL.out.ext y5⟩, y5⟩
          · have t2 : (fk == 2) = false := beq_eq_false_iff_ne.2 hf
            have t3 : ((fq : Int) == (want : Int)) = false := beq_eq_false_iff_ne.2 (by omega)
            clear hf hq
            go_wp2
            have z := set11_blk ((set_other _ ⟨w.heap.size, 9, none⟩ (.bool true) (w.heap.size + 1 + 1) (by show w.heap.size + 1 + 1 ≠ w.heap.size; omega)).trans HV.out.2.2.1) (.int .i64 e) (.int .i64 win) (.int .i64 qn) (.int .i64 wait) (.slice (some ⟨b, off, none⟩) 0 0) (.int .u64 Q) (.int .i64 0) (.int .i64 ((ever - k0 : Nat) : Int)) (.int .u64 want) (.bool true) (.int .i64 0)
            have y5 := set11_below (g := w.heap.size + 1 + 1) (below_set (d := ⟨w.heap.size, 9, none⟩) HV.out.2.2.2 (Nat.le_refl _) (.bool true)) (by omega) (.int .i64 e) (.int .i64 win) (.int .i64 qn) (.int .i64 wait) (.slice (some ⟨b, off, none⟩) 0 0) (.int .u64 Q) (.int .i64 0) (.int .i64 ((ever - k0 : Nat) : Int)) (.int .u64 want) (.bool true) (.int .i64 0)
            obtain ⟨z0, z1, z2, z3, z4, z5, z6, z7, z8, z9, z10⟩ := (cells11 z).1
            simp only [set11] at z0 z1 z2 z3 z4 z5 z6 z7 z8 z9 z10
            refine bodyPost_ret (v := .tuple #[.agg #[.int .i64 e, .int .i64 win, .int .i64 qn, .int .i64 wait, .slice (some ⟨b, off, none⟩) 0 0, .int .u64 Q, .int .i64 0, .int .i64 ((ever - k0 : Nat) : Int), .int .u64 want, .bool true, .int .i64 0], .string ⟨#[]⟩, .bool false]) (by simp [results, Tryz.results54, go_sem, z0, z1, z2, z3, z4, z5, z6, z7, z8, z9, z10]; done) rfl ⟨.agg #[.int .i64 e, .int .i64 win, .int .i64 qn, .int .i64 wait, .slice (some ⟨b, off, none⟩) 0 0, .int .u64 Q, .int .i64 0, .int .i64 ((ever - k0 : Nat) : Int), .int .u64 want, .bool true, .int .i64 0], by rw [HR.out.1, HR.out.2.1], ⟨(some ⟨b, off, none⟩), 0, 0, by rw [HR.out.2.2]; rfl, by rw [HR.out.2.2]; exact HL.out.ext y5⟩, y5⟩
        · have hw1 : IntKind.i64.wrap ((out : Int) - (k0 : Int)) = ((out - k0 : Nat) : Int) := by rw [wrapN _ (by omega) (by omega)]; omega
          clear hok
          have hb0 := blk_set (blk_set (blk_set (blk_set (blk_set HW.out.1 4 (.slice (some ⟨b, off, none⟩) 0 0)) 5 (.int .u64 Q)) 6 (.int .i64 ((out - k0 : Nat) : Int))) 7 (.int .i64 ((ever - k0 : Nat) : Int))) 10 (.int .i64 0)
          have HV : Hid ((((((wr.setCell ⟨w.heap.size, 4, none⟩ (.slice (some ⟨b, off, none⟩) 0 0)).setCell ⟨w.heap.size, 5, none⟩ (.int .u64 Q)).setCell ⟨w.heap.size, 6, none⟩ (.int .i64 ((out - k0 : Nat) : Int))).setCell ⟨w.heap.size, 7, none⟩ (.int .i64 ((ever - k0 : Nat) : Int))).setCell ⟨w.heap.size, 10, none⟩ (.int .i64 0)).heap[w.heap.size]? = some (.cells #[.int .i64 e, .int .i64 win, .int .i64 qn, .int .i64 wait, .slice (some ⟨b, off, none⟩) 0 0, .int .u64 Q, .int .i64 ((out - k0 : Nat) : Int), .int .i64 ((ever - k0 : Nat) : Int), .int .u64 want, .bool owes, .int .i64 0] 30 (0, 0)) ∧ (((((wr.setCell ⟨w.heap.size, 4, none⟩ (.slice (some ⟨b, off, none⟩) 0 0)).setCell ⟨w.heap.size, 5, none⟩ (.int .u64 Q)).setCell ⟨w.heap.size, 6, none⟩ (.int .i64 ((out - k0 : Nat) : Int))).setCell ⟨w.heap.size, 7, none⟩ (.int .i64 ((ever - k0 : Nat) : Int))).setCell ⟨w.heap.size, 10, none⟩ (.int .i64 0)).heap[w.heap.size + 1]? = some (.cells #[.int .i64 fk, .int .i64 fe, .int .u64 fq, .int .u64 fa, .string fb] 83 (0, 0)) ∧ (((((wr.setCell ⟨w.heap.size, 4, none⟩ (.slice (some ⟨b, off, none⟩) 0 0)).setCell ⟨w.heap.size, 5, none⟩ (.int .u64 Q)).setCell ⟨w.heap.size, 6, none⟩ (.int .i64 ((out - k0 : Nat) : Int))).setCell ⟨w.heap.size, 7, none⟩ (.int .i64 ((ever - k0 : Nat) : Int))).setCell ⟨w.heap.size, 10, none⟩ (.int .i64 0)).heap[w.heap.size + 1 + 1]? = some (.cells #[.int .i64 0, .int .i64 0, .int .i64 0, .int .i64 0, .slice none 0 0, .int .u64 0, .int .i64 0, .int .i64 0, .int .u64 0, .bool false, .int .i64 0] 30 (0, 0)) ∧ Below w.heap.size w (((((wr.setCell ⟨w.heap.size, 4, none⟩ (.slice (some ⟨b, off, none⟩) 0 0)).setCell ⟨w.heap.size, 5, none⟩ (.int .u64 Q)).setCell ⟨w.heap.size, 6, none⟩ (.int .i64 ((out - k0 : Nat) : Int))).setCell ⟨w.heap.size, 7, none⟩ (.int .i64 ((ever - k0 : Nat) : Int))).setCell ⟨w.heap.size, 10, none⟩ (.int .i64 0))) := Lib.hid ⟨by simpa using hb0, ((((((set_other _ ⟨w.heap.size, 10, none⟩ _ (w.heap.size + 1) (by show w.heap.size + 1 ≠ w.heap.size; omega)).trans (set_other _ ⟨w.heap.size, 7, none⟩ _ (w.heap.size + 1) (by show w.heap.size + 1 ≠ w.heap.size; omega))).trans (set_other _ ⟨w.heap.size, 6, none⟩ _ (w.heap.size + 1) (by show w.heap.size + 1 ≠ w.heap.size; omega))).trans (set_other _ ⟨w.heap.size, 5, none⟩ _ (w.heap.size + 1) (by show w.heap.size + 1 ≠ w.heap.size; omega))).trans (set_other _ ⟨w.heap.size, 4, none⟩ _ (w.heap.size + 1) (by show w.heap.size + 1 ≠ w.heap.size; omega))).trans HW.out.2.1), ((((((set_other _ ⟨w.heap.size, 10, none⟩ _ (w.heap.size + 1 + 1) (by show w.heap.size + 1 + 1 ≠ w.heap.size; omega)).trans (set_other _ ⟨w.heap.size, 7, none⟩ _ (w.heap.size + 1 + 1) (by show w.heap.size + 1 + 1 ≠ w.heap.size; omega))).trans (set_other _ ⟨w.heap.size, 6, none⟩ _ (w.heap.size + 1 + 1) (by show w.heap.size + 1 + 1 ≠ w.heap.size; omega))).trans (set_other _ ⟨w.heap.size, 5, none⟩ _ (w.heap.size + 1 + 1) (by show w.heap.size + 1 + 1 ≠ w.heap.size; omega))).trans (set_other _ ⟨w.heap.size, 4, none⟩ _ (w.heap.size + 1 + 1) (by show w.heap.size + 1 + 1 ≠ w.heap.size; omega))).trans HW.out.2.2.1), below_set (below_set (below_set (below_set (below_set HW.out.2.2.2 (Nat.le_refl _) _) (Nat.le_refl _) _) (Nat.le_refl _) _) (Nat.le_refl _) _) (Nat.le_refl _) _⟩
          clear hb0
          rcases HCASE.out with ⟨hf, HR⟩ | ⟨hf, hq, HR⟩ | ⟨hf, hq, HR⟩
          · have t2 : (fk == 2) = true := beq_iff_eq.2 hf
            clear hf
            go_wp2
            have z := set11_blk HV.out.2.2.1 (.int .i64 e) (.int .i64 win) (.int .i64 qn) (.int .i64 wait) (.slice (some ⟨b, off, none⟩) 0 0) (.int .u64 Q) (.int .i64 ((out - k0 : Nat) : Int)) (.int .i64 ((ever - k0 : Nat) : Int)) (.int .u64 want) (.bool owes) (.int .i64 0)
            have y5 := set11_below (g := w.heap.size + 1 + 1) HV.out.2.2.2 (by omega) (.int .i64 e) (.int .i64 win) (.int .i64 qn) (.int .i64 wait) (.slice (some ⟨b, off, none⟩) 0 0) (.int .u64 Q) (.int .i64 ((out - k0 : Nat) : Int)) (.int .i64 ((ever - k0 : Nat) : Int)) (.int .u64 want) (.bool owes) (.int .i64 0)
            obtain ⟨z0, z1, z2, z3, z4, z5, z6, z7, z8, z9, z10⟩ := (cells11 z).1
            simp only [set11] at z0 z1 z2 z3 z4 z5 z6 z7 z8 z9 z10
            refine bodyPost_ret (v := .tuple #[.agg #[.int .i64 e, .int .i64 win, .int .i64 qn, .int .i64 wait, .slice (some ⟨b, off, none⟩) 0 0, .int .u64 Q, .int .i64 ((out - k0 : Nat) : Int), .int .i64 ((ever - k0 : Nat) : Int), .int .u64 want, .bool owes, .int .i64 0], .string ⟨#[]⟩, .bool false]) (by simp [results, Tryz.results54, go_sem, z0, z1, z2, z3, z4, z5, z6, z7, z8, z9, z10]; done) rfl ⟨.agg #[.int .i64 e, .int .i64 win, .int .i64 qn, .int .i64 wait, .slice (some ⟨b, off, none⟩) 0 0, .int .u64 Q, .int .i64 ((out - k0 : Nat) : Int), .int .i64 ((ever - k0 : Nat) : Int), .int .u64 want, .bool owes, .int .i64 0], by rw [HR.out.1, HR.out.2.1], ⟨(some ⟨b, off, none⟩), 0, 0, by rw [HR.out.2.2]; rfl, by rw [HR.out.2.2]; exact HL.out.ext y5⟩, y5⟩
          · have t2 : (fk == 2) = false := beq_eq_false_iff_ne.2 hf
            have t3 : ((fq : Int) == (want : Int)) = true := beq_iff_eq.2 (by omega)
            have hwn : IntKind.u64.wrap ((want : Int) + 1) = (((want + 1) % 18446744073709551616 : Nat) : Int) := seq_wrap want 1
            obtain ⟨WN, hWN⟩ : ∃ WN, WN = (want + 1) % 18446744073709551616 := ⟨_, rfl⟩
            rw [← hWN] at hwn HR
            clear hWN hf hq
            have hb9 := blk_set (blk_set HV.out.1 9 (.bool true)) 8 (.int .u64 WN)
            have HGB := Lib.hid (show (((((((wr.setCell ⟨w.heap.size, 4, none⟩ (.slice (some ⟨b, off, none⟩) 0 0)).setCell ⟨w.heap.size, 5, none⟩ (.int .u64 Q)).setCell ⟨w.heap.size, 6, none⟩ (.int .i64 ((out - k0 : Nat) : Int))).setCell ⟨w.heap.size, 7, none⟩ (.int .i64 ((ever - k0 : Nat) : Int))).setCell ⟨w.heap.size, 10, none⟩ (.int .i64 0)).setCell ⟨w.heap.size, 9, none⟩ (.bool true)).setCell ⟨w.heap.size, 8, none⟩ (.int .u64 WN)).heap[w.heap.size]? = some (.cells #[.int .i64 e, .int .i64 win, .int .i64 qn, .int .i64 wait, .slice (some ⟨b, off, none⟩) 0 0, .int .u64 Q, .int .i64 ((out - k0 : Nat) : Int), .int .i64 ((ever - k0 : Nat) : Int), .int .u64 WN, .bool true, .int .i64 0] 30 (0, 0)) by simpa using hb9)
            have HFB := Lib.hid (((set_other _ ⟨w.heap.size, 8, none⟩ (.int .u64 WN) (w.heap.size + 1) (by show w.heap.size + 1 ≠ w.heap.size; omega)).trans (set_other (((((wr.setCell ⟨w.heap.size, 4, none⟩ (.slice (some ⟨b, off, none⟩) 0 0)).setCell ⟨w.heap.size, 5, none⟩ (.int .u64 Q)).setCell ⟨w.heap.size, 6, none⟩ (.int .i64 ((out - k0 : Nat) : Int))).setCell ⟨w.heap.size, 7, none⟩ (.int .i64 ((ever - k0 : Nat) : Int))).setCell ⟨w.heap.size, 10, none⟩ (.int .i64 0)) ⟨w.heap.size, 9, none⟩ (.bool true) (w.heap.size + 1) (by show w.heap.size + 1 ≠ w.heap.size; omega))).trans HV.out.2.1)
            have HZB := Lib.hid (((set_other _ ⟨w.heap.size, 8, none⟩ (.int .u64 WN) (w.heap.size + 1 + 1) (by show w.heap.size + 1 + 1 ≠ w.heap.size; omega)).trans (set_other (((((wr.setCell ⟨w.heap.size, 4, none⟩ (.slice (some ⟨b, off, none⟩) 0 0)).setCell ⟨w.heap.size, 5, none⟩ (.int .u64 Q)).setCell ⟨w.heap.size, 6, none⟩ (.int .i64 ((out - k0 : Nat) : Int))).setCell ⟨w.heap.size, 7, none⟩ (.int .i64 ((ever - k0 : Nat) : Int))).setCell ⟨w.heap.size, 10, none⟩ (.int .i64 0)) ⟨w.heap.size, 9, none⟩ (.bool true) (w.heap.size + 1 + 1) (by show w.heap.size + 1 + 1 ≠ w.heap.size; omega))).trans HV.out.2.2.1)
            have HXB := Lib.hid (below_set (d := ⟨w.heap.size, 8, none⟩) (below_set (d := ⟨w.heap.size, 9, none⟩) HV.out.2.2.2 (Nat.le_refl _) (.bool true)) (Nat.le_refl _) (.int .u64 WN))
            go_wp2_with fail
            obtain ⟨W0, hW0⟩ : ∃ W0, W0 = ((((((wr.setCell ⟨w.heap.size, 4, none⟩ (.slice (some ⟨b, off, none⟩) 0 0)).setCell ⟨w.heap.size, 5, none⟩ (.int .u64 Q)).setCell ⟨w.heap.size, 6, none⟩ (.int .i64 ((out - k0 : Nat) : Int))).setCell ⟨w.heap.size, 7, none⟩ (.int .i64 ((ever - k0 : Nat) : Int))).setCell ⟨w.heap.size, 10, none⟩ (.int .i64 0)).setCell ⟨w.heap.size, 9, none⟩ (.bool true)).setCell ⟨w.heap.size, 8, none⟩ (.int .u64 WN) := ⟨_, rfl⟩
            rw [← hW0] at HGB HFB HZB HXB ⊢
            clear hW0 hb9
            (refine wp_region_X_lit (K := fun W => W.heap[w.heap.size]? = some (.cells #[.int .i64 e, .int .i64 win, .int .i64 qn, .int .i64 wait, .slice (some ⟨b, off, none⟩) 0 0, .int .u64 Q, .int .i64 ((out - k0 : Nat) : Int), .int .i64 ((ever - k0 : Nat) : Int), .int .u64 WN, .bool true, .int .i64 0] 30 (0, 0)) ∧ W.heap[w.heap.size + 1]? = some (.cells #[.int .i64 fk, .int .i64 fe, .int .u64 fq, .int .u64 fa, .string fb] 83 (0, 0))) (by kernel_rfl) (fun w1 hw1 => ?_))
            have HG1 := Lib.hid (blk_later HGB.out hw1)
            have HF1 := Lib.hid (blk_later HFB.out hw1)
            have HZ1 := Lib.hid (blk_later HZB.out hw1)
            have HX1 := Lib.hid (Ext.trans HXB.out hw1)
            clear hw1 HGB HFB HZB HXB
            refine xtv 0 (hv := by intro w' hw'; have hc := (cells11 hw'.1).1; go_simp; first | done | with_reducible rfl) (h := ?_)
            refine xtv 1 (h := ?_)
            refine xtv 2 (hv := by intro w' hw'; have hc := (cells5 hw'.2).1; go_simp; first | done | with_reducible rfl) (h := ?_)
            refine xone 3 (hk := ⟨HG1.out, HF1.out⟩) (h := RunX.of 3 (h := ?_))
            obtain ⟨y5, y6⟩ := cells11 HZ1.out
            go_simp
            (try (simp only [Act.put, List.setIfInBounds_toArray, List.set]))
            refine xtv 4 (h := ?_)
            refine xtv 5 (h := ?_)
            (refine xdone (by kernel_rfl) (⟨(set11_other (by omega) (.int .i64 e) (.int .i64 win) (.int .i64 qn) (.int .i64 wait) (.slice (some ⟨b, off, none⟩) 0 0) (.int .u64 Q) (.int .i64 ((out - k0 : Nat) : Int)) (.int .i64 ((ever - k0 : Nat) : Int)) (.int .u64 WN) (.bool true) (.int .i64 0)).trans HG1.out, (set11_other (by omega) (.int .i64 e) (.int .i64 win) (.int .i64 qn) (.int .i64 wait) (.slice (some ⟨b, off, none⟩) 0 0) (.int .u64 Q) (.int .i64 ((out - k0 : Nat) : Int)) (.int .i64 ((ever - k0 : Nat) : Int)) (.int .u64 WN) (.bool true) (.int .i64 0)).trans HF1.out⟩) ?_)
            go_wp2
            have z := set11_blk HZ1.out (.int .i64 e) (.int .i64 win) (.int .i64 qn) (.int .i64 wait) (.slice (some ⟨b, off, none⟩) 0 0) (.int .u64 Q) (.int .i64 ((out - k0 : Nat) : Int)) (.int .i64 ((ever - k0 : Nat) : Int)) (.int .u64 WN) (.bool true) (.int .i64 0)
            have y5 := set11_below (g := w.heap.size + 1 + 1) HX1.out (by omega) (.int .i64 e) (.int .i64 win) (.int .i64 qn) (.int .i64 wait) (.slice (some ⟨b, off, none⟩) 0 0) (.int .u64 Q) (.int .i64 ((out - k0 : Nat) : Int)) (.int .i64 ((ever - k0 : Nat) : Int)) (.int .u64 WN) (.bool true) (.int .i64 0)
            obtain ⟨z0, z1, z2, z3, z4, z5, z6, z7, z8, z9, z10⟩ := (cells11 z).1
            simp only [set11] at z0 z1 z2 z3 z4 z5 z6 z7 z8 z9 z10
            refine bodyPost_ret (v := .tuple #[.agg #[.int .i64 e, .int .i64 win, .int .i64 qn, .int .i64 wait, .slice (some ⟨b, off, none⟩) 0 0, .int .u64 Q, .int .i64 ((out - k0 : Nat) : Int), .int .i64 ((ever - k0 : Nat) : Int), .int .u64 WN, .bool true, .int .i64 0], .string fb, .bool true]) (by simp [results, Tryz.results54, go_sem, z0, z1, z2, z3, z4, z5, z6, z7, z8, z9, z10]; done) rfl ⟨.agg #[.int .i64 e, .int .i64 win, .int .i64 qn, .int .i64 wait, .slice (some ⟨b, off, none⟩) 0 0, .int .u64 Q, .int .i64 ((out - k0 : Nat) : Int), .int .i64 ((ever - k0 : Nat) : Int), .int .u64 WN, .bool true, .int .i64 0], by rw [HR.out.1, HR.out.2.1], ⟨(some ⟨b, off, none⟩), 0, 0, by rw [HR.out.2.2]; rfl, by rw [HR.out.2.2]; exact HL.out.ext y5⟩, y5⟩
          · have t2 : (fk == 2) = false := beq_eq_false_iff_ne.2 hf
            have t3 : ((fq : Int) == (want : Int)) = false := beq_eq_false_iff_ne.2 (by omega)
            clear hf hq
            go_wp2
            have z := set11_blk ((set_other _ ⟨w.heap.size, 9, none⟩ (.bool true) (w.heap.size + 1 + 1) (by show w.heap.size + 1 + 1 ≠ w.heap.size; omega)).trans HV.out.2.2.1) (.int .i64 e) (.int .i64 win) (.int .i64 qn) (.int .i64 wait) (.slice (some ⟨b, off, none⟩) 0 0) (.int .u64 Q) (.int .i64 ((out - k0 : Nat) : Int)) (.int .i64 ((ever - k0 : Nat) : Int)) (.int .u64 want) (.bool true) (.int .i64 0)
            have y5 := set11_below (g := w.heap.size + 1 + 1) (below_set (d := ⟨w.heap.size, 9, none⟩) HV.out.2.2.2 (Nat.le_refl _) (.bool true)) (by omega) (.int .i64 e) (.int .i64 win) (.int .i64 qn) (.int .i64 wait) (.slice (some ⟨b, off, none⟩) 0 0) (.int .u64 Q) (.int .i64 ((out - k0 : Nat) : Int)) (.int .i64 ((ever - k0 : Nat) : Int)) (.int .u64 want) (.bool true) (.int .i64 0)
            obtain ⟨z0, z1, z2, z3, z4, z5, z6, z7, z8, z9, z10⟩ := (cells11 z).1
            simp only [set11] at z0 z1 z2 z3 z4 z5 z6 z7 z8 z9 z10
            refine bodyPost_ret (v := .tuple #[.agg #[.int .i64 e, .int .i64 win, .int .i64 qn, .int .i64 wait, .slice (some ⟨b, off, none⟩) 0 0, .int .u64 Q, .int .i64 ((out - k0 : Nat) : Int), .int .i64 ((ever - k0 : Nat) : Int), .int .u64 want, .bool true, .int .i64 0], .string ⟨#[]⟩, .bool false]) (by simp [results, Tryz.results54, go_sem, z0, z1, z2, z3, z4, z5, z6, z7, z8, z9, z10]; done) rfl ⟨.agg #[.int .i64 e, .int .i64 win, .int .i64 qn, .int .i64 wait, .slice (some ⟨b, off, none⟩) 0 0, .int .u64 Q, .int .i64 ((out - k0 : Nat) : Int), .int .i64 ((ever - k0 : Nat) : Int), .int .u64 want, .bool true, .int .i64 0], by rw [HR.out.1, HR.out.2.1], ⟨(some ⟨b, off, none⟩), 0, 0, by rw [HR.out.2.2]; rfl, by rw [HR.out.2.2]; exact HL.out.ext y5⟩, y5⟩
      · have HL := Lib.hid (hsl.2 hck)
        clear hsl
        by_cases hok : (out : Int) < (k0 : Int)
        · have hw1 : IntKind.i64.wrap ((out : Int) - (k0 : Int)) = (out : Int) - (k0 : Int) := wrapN _ (by omega) (by omega)
          rw [show out - k0 = 0 by omega] at HCASE
          have hb0 := blk_set (blk_set (blk_set (blk_set (blk_set HW.out.1 4 (.slice (some ⟨b, off + k0, none⟩) (l.length - k0) (c - k0))) 5 (.int .u64 Q)) 6 (.int .i64 0)) 7 (.int .i64 ((ever - k0 : Nat) : Int))) 10 (.int .i64 0)
          have HV : Hid ((((((wr.setCell ⟨w.heap.size, 4, none⟩ (.slice (some ⟨b, off + k0, none⟩) (l.length - k0) (c - k0))).setCell ⟨w.heap.size, 5, none⟩ (.int .u64 Q)).setCell ⟨w.heap.size, 6, none⟩ (.int .i64 0)).setCell ⟨w.heap.size, 7, none⟩ (.int .i64 ((ever - k0 : Nat) : Int))).setCell ⟨w.heap.size, 10, none⟩ (.int .i64 0)).heap[w.heap.size]? = some (.cells #[.int .i64 e, .int .i64 win, .int .i64 qn, .int .i64 wait, .slice (some ⟨b, off + k0, none⟩) (l.length - k0) (c - k0), .int .u64 Q, .int .i64 0, .int .i64 ((ever - k0 : Nat) : Int), .int .u64 want, .bool owes, .int .i64 0] 30 (0, 0)) ∧ (((((wr.setCell ⟨w.heap.size, 4, none⟩ (.slice (some ⟨b, off + k0, none⟩) (l.length - k0) (c - k0))).setCell ⟨w.heap.size, 5, none⟩ (.int .u64 Q)).setCell ⟨w.heap.size, 6, none⟩ (.int .i64 0)).setCell ⟨w.heap.size, 7, none⟩ (.int .i64 ((ever - k0 : Nat) : Int))).setCell ⟨w.heap.size, 10, none⟩ (.int .i64 0)).heap[w.heap.size + 1]? = some (.cells #[.int .i64 fk, .int .i64 fe, .int .u64 fq, .int .u64 fa, .string fb] 83 (0, 0)) ∧ (((((wr.setCell ⟨w.heap.size, 4, none⟩ (.slice (some ⟨b, off + k0, none⟩) (l.length - k0) (c - k0))).setCell ⟨w.heap.size, 5, none⟩ (.int .u64 Q)).setCell ⟨w.heap.size, 6, none⟩ (.int .i64 0)).setCell ⟨w.heap.size, 7, none⟩ (.int .i64 ((ever - k0 : Nat) : Int))).setCell ⟨w.heap.size, 10, none⟩ (.int .i64 0)).heap[w.heap.size + 1 + 1]? = some (.cells #[.int .i64 0, .int .i64 0, .int .i64 0, .int .i64 0, .slice none 0 0, .int .u64 0, .int .i64 0, .int .i64 0, .int .u64 0, .bool false, .int .i64 0] 30 (0, 0)) ∧ Below w.heap.size w (((((wr.setCell ⟨w.heap.size, 4, none⟩ (.slice (some ⟨b, off + k0, none⟩) (l.length - k0) (c - k0))).setCell ⟨w.heap.size, 5, none⟩ (.int .u64 Q)).setCell ⟨w.heap.size, 6, none⟩ (.int .i64 0)).setCell ⟨w.heap.size, 7, none⟩ (.int .i64 ((ever - k0 : Nat) : Int))).setCell ⟨w.heap.size, 10, none⟩ (.int .i64 0))) := Lib.hid ⟨by simpa using hb0, ((((((set_other _ ⟨w.heap.size, 10, none⟩ _ (w.heap.size + 1) (by show w.heap.size + 1 ≠ w.heap.size; omega)).trans (set_other _ ⟨w.heap.size, 7, none⟩ _ (w.heap.size + 1) (by show w.heap.size + 1 ≠ w.heap.size; omega))).trans (set_other _ ⟨w.heap.size, 6, none⟩ _ (w.heap.size + 1) (by show w.heap.size + 1 ≠ w.heap.size; omega))).trans (set_other _ ⟨w.heap.size, 5, none⟩ _ (w.heap.size + 1) (by show w.heap.size + 1 ≠ w.heap.size; omega))).trans (set_other _ ⟨w.heap.size, 4, none⟩ _ (w.heap.size + 1) (by show w.heap.size + 1 ≠ w.heap.size; omega))).trans HW.out.2.1), ((((((set_other _ ⟨w.heap.size, 10, none⟩ _ (w.heap.size + 1 + 1) (by show w.heap.size + 1 + 1 ≠ w.heap.size; omega)).trans (set_other _ ⟨w.heap.size, 7, none⟩ _ (w.heap.size + 1 + 1) (by show w.heap.size + 1 + 1 ≠ w.heap.size; omega))).trans (set_other _ ⟨w.heap.size, 6, none⟩ _ (w.heap.size + 1 + 1) (by show w.heap.size + 1 + 1 ≠ w.heap.size; omega))).trans (set_other _ ⟨w.heap.size, 5, none⟩ _ (w.heap.size + 1 + 1) (by show w.heap.size + 1 + 1 ≠ w.heap.size; omega))).trans (set_other _ ⟨w.heap.size, 4, none⟩ _ (w.heap.size + 1 + 1) (by show w.heap.size + 1 + 1 ≠ w.heap.size; omega))).trans HW.out.2.2.1), below_set (below_set (below_set (below_set (below_set HW.out.2.2.2 (Nat.le_refl _) _) (Nat.le_refl _) _) (Nat.le_refl _) _) (Nat.le_refl _) _) (Nat.le_refl _) _⟩
          clear hb0
          rcases HCASE.out with ⟨hf, HR⟩ | ⟨hf, hq, HR⟩ | ⟨hf, hq, HR⟩
          · have t2 : (fk == 2) = true := beq_iff_eq.2 hf
            clear hf
            go_wp2
            have z := set11_blk HV.out.2.2.1 (.int .i64 e) (.int .i64 win) (.int .i64 qn) (.int .i64 wait) (.slice (some ⟨b, off + k0, none⟩) (l.length - k0) (c - k0)) (.int .u64 Q) (.int .i64 0) (.int .i64 ((ever - k0 : Nat) : Int)) (.int .u64 want) (.bool owes) (.int .i64 0)
            have y5 := set11_below (g := w.heap.size + 1 + 1) HV.out.2.2.2 (by omega) (.int .i64 e) (.int .i64 win) (.int .i64 qn) (.int .i64 wait) (.slice (some ⟨b, off + k0, none⟩) (l.length - k0) (c - k0)) (.int .u64 Q) (.int .i64 0) (.int .i64 ((ever - k0 : Nat) : Int)) (.int .u64 want) (.bool owes) (.int .i64 0)
            obtain ⟨z0, z1, z2, z3, z4, z5, z6, z7, z8, z9, z10⟩ := (cells11 z).1
            simp only [set11] at z0 z1 z2 z3 z4 z5 z6 z7 z8 z9 z10
            refine bodyPost_ret (v := .tuple #[.agg #[.int .i64 e, .int .i64 win, .int .i64 qn, .int .i64 wait, .slice (some ⟨b, off + k0, none⟩) (l.length - k0) (c - k0), .int .u64 Q, .int .i64 0, .int .i64 ((ever - k0 : Nat) : Int), .int .u64 want, .bool owes, .int .i64 0], .string ⟨#[]⟩, .bool false]) (by simp [results, Tryz.results54, go_sem, z0, z1, z2, z3, z4, z5, z6, z7, z8, z9, z10]; done) rfl ⟨.agg #[.int .i64 e, .int .i64 win, .int .i64 qn, .int .i64 wait, .slice (some ⟨b, off + k0, none⟩) (l.length - k0) (c - k0), .int .u64 Q, .int .i64 0, .int .i64 ((ever - k0 : Nat) : Int), .int .u64 want, .bool owes, .int .i64 0], by rw [HR.out.1, HR.out.2.1], ⟨(some ⟨b, off + k0, none⟩), (l.length - k0), (c - k0), by rw [HR.out.2.2]; rfl, by rw [HR.out.2.2]; exact HL.out.ext y5⟩, y5⟩
          · have t2 : (fk == 2) = false := beq_eq_false_iff_ne.2 hf
            have t3 : ((fq : Int) == (want : Int)) = true := beq_iff_eq.2 (by omega)
            have hwn : IntKind.u64.wrap ((want : Int) + 1) = (((want + 1) % 18446744073709551616 : Nat) : Int) := seq_wrap want 1
            obtain ⟨WN, hWN⟩ : ∃ WN, WN = (want + 1) % 18446744073709551616 := ⟨_, rfl⟩
            rw [← hWN] at hwn HR
            clear hWN hf hq
            have hb9 := blk_set (blk_set HV.out.1 9 (.bool true)) 8 (.int .u64 WN)
            have HGB := Lib.hid (show (((((((wr.setCell ⟨w.heap.size, 4, none⟩ (.slice (some ⟨b, off + k0, none⟩) (l.length - k0) (c - k0))).setCell ⟨w.heap.size, 5, none⟩ (.int .u64 Q)).setCell ⟨w.heap.size, 6, none⟩ (.int .i64 0)).setCell ⟨w.heap.size, 7, none⟩ (.int .i64 ((ever - k0 : Nat) : Int))).setCell ⟨w.heap.size, 10, none⟩ (.int .i64 0)).setCell ⟨w.heap.size, 9, none⟩ (.bool true)).setCell ⟨w.heap.size, 8, none⟩ (.int .u64 WN)).heap[w.heap.size]? = some (.cells #[.int .i64 e, .int .i64 win, .int .i64 qn, .int .i64 wait, .slice (some ⟨b, off + k0, none⟩) (l.length - k0) (c - k0), .int .u64 Q, .int .i64 0, .int .i64 ((ever - k0 : Nat) : Int), .int .u64 WN, .bool true, .int .i64 0] 30 (0, 0)) by simpa using hb9)
            have HFB := Lib.hid (((set_other _ ⟨w.heap.size, 8, none⟩ (.int .u64 WN) (w.heap.size + 1) (by show w.heap.size + 1 ≠ w.heap.size; omega)).trans (set_other (((((wr.setCell ⟨w.heap.size, 4, none⟩ (.slice (some ⟨b, off + k0, none⟩) (l.length - k0) (c - k0))).setCell ⟨w.heap.size, 5, none⟩ (.int .u64 Q)).setCell ⟨w.heap.size, 6, none⟩ (.int .i64 0)).setCell ⟨w.heap.size, 7, none⟩ (.int .i64 ((ever - k0 : Nat) : Int))).setCell ⟨w.heap.size, 10, none⟩ (.int .i64 0)) ⟨w.heap.size, 9, none⟩ (.bool true) (w.heap.size + 1) (by show w.heap.size + 1 ≠ w.heap.size; omega))).trans HV.out.2.1)
            have HZB := Lib.hid (((set_other _ ⟨w.heap.size, 8, none⟩ (.int .u64 WN) (w.heap.size + 1 + 1) (by show w.heap.size + 1 + 1 ≠ w.heap.size; omega)).trans (set_other (((((wr.setCell ⟨w.heap.size, 4, none⟩ (.slice (some ⟨b, off + k0, none⟩) (l.length - k0) (c - k0))).setCell ⟨w.heap.size, 5, none⟩ (.int .u64 Q)).setCell ⟨w.heap.size, 6, none⟩ (.int .i64 0)).setCell ⟨w.heap.size, 7, none⟩ (.int .i64 ((ever - k0 : Nat) : Int))).setCell ⟨w.heap.size, 10, none⟩ (.int .i64 0)) ⟨w.heap.size, 9, none⟩ (.bool true) (w.heap.size + 1 + 1) (by show w.heap.size + 1 + 1 ≠ w.heap.size; omega))).trans HV.out.2.2.1)
            have HXB := Lib.hid (below_set (d := ⟨w.heap.size, 8, none⟩) (below_set (d := ⟨w.heap.size, 9, none⟩) HV.out.2.2.2 (Nat.le_refl _) (.bool true)) (Nat.le_refl _) (.int .u64 WN))
            go_wp2_with fail
            obtain ⟨W0, hW0⟩ : ∃ W0, W0 = ((((((wr.setCell ⟨w.heap.size, 4, none⟩ (.slice (some ⟨b, off + k0, none⟩) (l.length - k0) (c - k0))).setCell ⟨w.heap.size, 5, none⟩ (.int .u64 Q)).setCell ⟨w.heap.size, 6, none⟩ (.int .i64 0)).setCell ⟨w.heap.size, 7, none⟩ (.int .i64 ((ever - k0 : Nat) : Int))).setCell ⟨w.heap.size, 10, none⟩ (.int .i64 0)).setCell ⟨w.heap.size, 9, none⟩ (.bool true)).setCell ⟨w.heap.size, 8, none⟩ (.int .u64 WN) := ⟨_, rfl⟩
            rw [← hW0] at HGB HFB HZB HXB ⊢
            clear hW0 hb9
            (refine wp_region_X_lit (K := fun W => W.heap[w.heap.size]? = some (.cells #[.int .i64 e, .int .i64 win, .int .i64 qn, .int .i64 wait, .slice (some ⟨b, off + k0, none⟩) (l.length - k0) (c - k0), .int .u64 Q, .int .i64 0, .int .i64 ((ever - k0 : Nat) : Int), .int .u64 WN, .bool true, .int .i64 0] 30 (0, 0)) ∧ W.heap[w.heap.size + 1]? = some (.cells #[.int .i64 fk, .int .i64 fe, .int .u64 fq, .int .u64 fa, .string fb] 83 (0, 0))) (by kernel_rfl) (fun w1 hw1 => ?_))
            have HG1 := Lib.hid (blk_later HGB.out hw1)
            have HF1 := Lib.hid (blk_later HFB.out hw1)
            have HZ1 := Lib.hid (blk_later HZB.out hw1)
            have HX1 := Lib.hid (Ext.trans HXB.out hw1)
            clear hw1 HGB HFB HZB HXB
            refine xtv 0 (hv := by intro w' hw'; have hc := (cells11 hw'.1).1; go_simp; first | done | with_reducible rfl) (h := ?_)
            refine xtv 1 (h := ?_)
            refine xtv 2 (hv := by intro w' hw'; have hc := (cells5 hw'.2).1; go_simp; first | done | with_reducible rfl) (h := ?_)
            refine xone 3 (hk := ⟨HG1.out, HF1.out⟩) (h := RunX.of 3 (h := ?_))
            obtain ⟨y5, y6⟩ := cells11 HZ1.out
            go_simp
            (try (simp only [Act.put, List.setIfInBounds_toArray, List.set]))
            refine xtv 4 (h := ?_)
            refine xtv 5 (h := ?_)
            (refine xdone (by kernel_rfl) (⟨(set11_other (by omega) (.int .i64 e) (.int .i64 win) (.int .i64 qn) (.int .i64 wait) (.slice (some ⟨b, off + k0, none⟩) (l.length - k0) (c - k0)) (.int .u64 Q) (.int .i64 0) (.int .i64 ((ever - k0 : Nat) : Int)) (.int .u64 WN) (.bool true) (.int .i64 0)).trans HG1.out, (set11_other (by omega) (.int .i64 e) (.int .i64 win) (.int .i64 qn) (.int .i64 wait) (.slice (some ⟨b, off + k0, none⟩) (l.length - k0) (c - k0)) (.int .u64 Q) (.int .i64 0) (.int .i64 ((ever - k0 : Nat) : Int)) (.int .u64 WN) (.bool true) (.int .i64 0)).trans HF1.out⟩) ?_)
            go_wp2
            have z := set11_blk HZ1.out (.int .i64 e) (.int .i64 win) (.int .i64 qn) (.int .i64 wait) (.slice (some ⟨b, off + k0, none⟩) (l.length - k0) (c - k0)) (.int .u64 Q) (.int .i64 0) (.int .i64 ((ever - k0 : Nat) : Int)) (.int .u64 WN) (.bool true) (.int .i64 0)
            have y5 := set11_below (g := w.heap.size + 1 + 1) HX1.out (by omega) (.int .i64 e) (.int .i64 win) (.int .i64 qn) (.int .i64 wait) (.slice (some ⟨b, off + k0, none⟩) (l.length - k0) (c - k0)) (.int .u64 Q) (.int .i64 0) (.int .i64 ((ever - k0 : Nat) : Int)) (.int .u64 WN) (.bool true) (.int .i64 0)
            obtain ⟨z0, z1, z2, z3, z4, z5, z6, z7, z8, z9, z10⟩ := (cells11 z).1
            simp only [set11] at z0 z1 z2 z3 z4 z5 z6 z7 z8 z9 z10
            refine bodyPost_ret (v := .tuple #[.agg #[.int .i64 e, .int .i64 win, .int .i64 qn, .int .i64 wait, .slice (some ⟨b, off + k0, none⟩) (l.length - k0) (c - k0), .int .u64 Q, .int .i64 0, .int .i64 ((ever - k0 : Nat) : Int), .int .u64 WN, .bool true, .int .i64 0], .string fb, .bool true]) (by simp [results, Tryz.results54, go_sem, z0, z1, z2, z3, z4, z5, z6, z7, z8, z9, z10]; done) rfl ⟨.agg #[.int .i64 e, .int .i64 win, .int .i64 qn, .int .i64 wait, .slice (some ⟨b, off + k0, none⟩) (l.length - k0) (c - k0), .int .u64 Q, .int .i64 0, .int .i64 ((ever - k0 : Nat) : Int), .int .u64 WN, .bool true, .int .i64 0], by rw [HR.out.1, HR.out.2.1], ⟨(some ⟨b, off + k0, none⟩), (l.length - k0), (c - k0), by rw [HR.out.2.2]; rfl, by rw [HR.out.2.2]; exact HL.out.ext y5⟩, y5⟩
          · have t2 : (fk == 2) = false := beq_eq_false_iff_ne.2 hf
            have t3 : ((fq : Int) == (want : Int)) = false := beq_eq_false_iff_ne.2 (by omega)
            clear hf hq
            go_wp2
            have z := set11_blk ((set_other _ ⟨w.heap.size, 9, none⟩ (.bool true) (w.heap.size + 1 + 1) (by show w.heap.size + 1 + 1 ≠ w.heap.size; omega)).trans HV.out.2.2.1) (.int .i64 e) (.int .i64 win) (.int .i64 qn) (.int .i64 wait) (.slice (some ⟨b, off + k0, none⟩) (l.length - k0) (c - k0)) (.int .u64 Q) (.int .i64 0) (.int .i64 ((ever - k0 : Nat) : Int)) (.int .u64 want) (.bool true) (.int .i64 0)
            have y5 := set11_below (g := w.heap.size + 1 + 1) (below_set (d := ⟨w.heap.size, 9, none⟩) HV.out.2.2.2 (Nat.le_refl _) (.bool true)) (by omega) (.int .i64 e) (.int .i64 win) (.int .i64 qn) (.int .i64 wait) (.slice (some ⟨b, off + k0, none⟩) (l.length - k0) (c - k0)) (.int .u64 Q) (.int .i64 0) (.int .i64 ((ever - k0 : Nat) : Int)) (.int .u64 want) (.bool true) (.int .i64 0)
            obtain ⟨z0, z1, z2, z3, z4, z5, z6, z7, z8, z9, z10⟩ := (cells11 z).1
            simp only [set11] at z0 z1 z2 z3 z4 z5 z6 z7 z8 z9 z10
            refine bodyPost_ret (v := .tuple #[.agg #[.int .i64 e, .int .i64 win, .int .i64 qn, .int .i64 wait, .slice (some ⟨b, off + k0, none⟩) (l.length - k0) (c - k0), .int .u64 Q, .int .i64 0, .int .i64 ((ever - k0 : Nat) : Int), .int .u64 want, .bool true, .int .i64 0], .string ⟨#[]⟩, .bool false]) (by simp [results, Tryz.results54, go_sem, z0, z1, z2, z3, z4, z5, z6, z7, z8, z9, z10]; done) rfl ⟨.agg #[.int .i64 e, .int .i64 win, .int .i64 qn, .int .i64 wait, .slice (some ⟨b, off + k0, none⟩) (l.length - k0) (c - k0), .int .u64 Q, .int .i64 0, .int .i64 ((ever - k0 : Nat) : Int), .int .u64 want, .bool true, .int .i64 0], by rw [HR.out.1, HR.out.2.1], ⟨(some ⟨b, off + k0, none⟩), (l.length - k0), (c - k0), by rw [HR.out.2.2]; rfl, by rw [HR.out.2.2]; exact HL.out.ext y5⟩, y5⟩
        · have hw1 : IntKind.i64.wrap ((out : Int) - (k0 : Int)) = ((out - k0 : Nat) : Int) := by rw [wrapN _ (by omega) (by omega)]; omega
          clear hok
          have hb0 := blk_set (blk_set (blk_set (blk_set (blk_set HW.out.1 4 (.slice (some ⟨b, off + k0, none⟩) (l.length - k0) (c - k0))) 5 (.int .u64 Q)) 6 (.int .i64 ((out - k0 : Nat) : Int))) 7 (.int .i64 ((ever - k0 : Nat) : Int))) 10 (.int .i64 0)
          have HV : Hid ((((((wr.setCell ⟨w.heap.size, 4, none⟩ (.slice (some ⟨b, off + k0, none⟩) (l.length - k0) (c - k0))).setCell ⟨w.heap.size, 5, none⟩ (.int .u64 Q)).setCell ⟨w.heap.size, 6, none⟩ (.int .i64 ((out - k0 : Nat) : Int))).setCell ⟨w.heap.size, 7, none⟩ (.int .i64 ((ever - k0 : Nat) : Int))).setCell ⟨w.heap.size, 10, none⟩ (.int .i64 0)).heap[w.heap.size]? = some (.cells #[.int .i64 e, .int .i64 win, .int .i64 qn, .int .i64 wait, .slice (some ⟨b, off + k0, none⟩) (l.length - k0) (c - k0), .int .u64 Q, .int .i64 ((out - k0 : Nat) : Int), .int .i64 ((ever - k0 : Nat) : Int), .int .u64 want, .bool owes, .int .i64 0] 30 (0, 0)) ∧ (((((wr.setCell ⟨w.heap.size, 4, none⟩ (.slice (some ⟨b, off + k0, none⟩) (l.length - k0) (c - k0))).setCell ⟨w.heap.size, 5, none⟩ (.int .u64 Q)).setCell ⟨w.heap.size, 6, none⟩ (.int .i64 ((out - k0 : Nat) : Int))).setCell ⟨w.heap.size, 7, none⟩ (.int .i64 ((ever - k0 : Nat) : Int))).setCell ⟨w.heap.size, 10, none⟩ (.int .i64 0)).heap[w.heap.size + 1]? = some (.cells #[.int .i64 fk, .int .i64 fe, .int .u64 fq, .int .u64 fa, .string fb] 83 (0, 0)) ∧ (((((wr.setCell ⟨w.heap.size, 4, none⟩ (.slice (some ⟨b, off + k0, none⟩) (l.length - k0) (c - k0))).setCell ⟨w.heap.size, 5, none⟩ (.int .u64 Q)).setCell ⟨w.heap.size, 6, none⟩ (.int .i64 ((out - k0 : Nat) : Int))).setCell ⟨w.heap.size, 7, none⟩ (.int .i64 ((ever - k0 : Nat) : Int))).setCell ⟨w.heap.size, 10, none⟩ (.int .i64 0)).heap[w.heap.size + 1 + 1]? = some (.cells #[.int .i64 0, .int .i64 0, .int .i64 0, .int .i64 0, .slice none 0 0, .int .u64 0, .int .i64 0, .int .i64 0, .int .u64 0, .bool false, .int .i64 0] 30 (0, 0)) ∧ Below w.heap.size w (((((wr.setCell ⟨w.heap.size, 4, none⟩ (.slice (some ⟨b, off + k0, none⟩) (l.length - k0) (c - k0))).setCell ⟨w.heap.size, 5, none⟩ (.int .u64 Q)).setCell ⟨w.heap.size, 6, none⟩ (.int .i64 ((out - k0 : Nat) : Int))).setCell ⟨w.heap.size, 7, none⟩ (.int .i64 ((ever - k0 : Nat) : Int))).setCell ⟨w.heap.size, 10, none⟩ (.int .i64 0))) := Lib.hid ⟨by simpa using hb0, ((((((set_other _ ⟨w.heap.size, 10, none⟩ _ (w.heap.size + 1) (by show w.heap.size + 1 ≠ w.heap.size; omega)).trans (set_other _ ⟨w.heap.size, 7, none⟩ _ (w.heap.size + 1) (by show w.heap.size + 1 ≠ w.heap.size; omega))).trans (set_other _ ⟨w.heap.size, 6, none⟩ _ (w.heap.size + 1) (by show w.heap.size + 1 ≠ w.heap.size; omega))).trans (set_other _ ⟨w.heap.size, 5, none⟩ _ (w.heap.size + 1) (by show w.heap.size + 1 ≠ w.heap.size; omega))).trans (set_other _ ⟨w.heap.size, 4, none⟩ _ (w.heap.size + 1) (by show w.heap.size + 1 ≠ w.heap.size; omega))).trans HW.out.2.1), ((((((set_other _ ⟨w.heap.size, 10, none⟩ _ (w.heap.size + 1 + 1) (by show w.heap.size + 1 + 1 ≠ w.heap.size; omega)).trans (set_other _ ⟨w.heap.size, 7, none⟩ _ (w.heap.size + 1 + 1) (by show w.heap.size + 1 + 1 ≠ w.heap.size; omega))).trans (set_other _ ⟨w.heap.size, 6, none⟩ _ (w.heap.size + 1 + 1) (by show w.heap.size + 1 + 1 ≠ w.heap.size; omega))).trans (set_other _ ⟨w.heap.size, 5, none⟩ _ (w.heap.size + 1 + 1) (by show w.heap.size + 1 + 1 ≠ w.heap.size; omega))).trans (set_other _ ⟨w.heap.size, 4, none⟩ _ (w.heap.size + 1 + 1) (by show w.heap.size + 1 + 1 ≠ w.heap.size; omega))).trans HW.out.2.2.1), below_set (below_set (below_set (below_set (below_set HW.out.2.2.2 (Nat.le_refl _) _) (Nat.le_refl _) _) (Nat.le_refl _) _) (Nat.le_refl _) _) (Nat.le_refl _) _⟩
          clear hb0
          rcases HCASE.out with ⟨hf, HR⟩ | ⟨hf, hq, HR⟩ | ⟨hf, hq, HR⟩
          · have t2 : (fk == 2) = true := beq_iff_eq.2 hf
            clear hf
            go_wp2
            have z := set11_blk HV.out.2.2.1 (.int .i64 e) (.int .i64 win) (.int .i64 qn) (.int .i64 wait) (.slice (some ⟨b, off + k0, none⟩) (l.length - k0) (c - k0)) (.int .u64 Q) (.int .i64 ((out - k0 : Nat) : Int)) (.int .i64 ((ever - k0 : Nat) : Int)) (.int .u64 want) (.bool owes) (.int .i64 0)
            have y5 := set11_below (g := w.heap.size + 1 + 1) HV.out.2.2.2 (by omega) (.int .i64 e) (.int .i64 win) (.int .i64 qn) (.int .i64 wait) (.slice (some ⟨b, off + k0, none⟩) (l.length - k0) (c - k0)) (.int .u64 Q) (.int .i64 ((out - k0 : Nat) : Int)) (.int .i64 ((ever - k0 : Nat) : Int)) (.int .u64 want) (.bool owes) (.int .i64 0)
            obtain ⟨z0, z1, z2, z3, z4, z5, z6, z7, z8, z9, z10⟩ := (cells11 z).1
            simp only [set11] at z0 z1 z2 z3 z4 z5 z6 z7 z8 z9 z10
            refine bodyPost_ret (v := .tuple #[.agg #[.int .i64 e, .int .i64 win, .int .i64 qn, .int .i64 wait, .slice (some ⟨b, off + k0, none⟩) (l.length - k0) (c - k0), .int .u64 Q, .int .i64 ((out - k0 : Nat) : Int), .int .i64 ((ever - k0 : Nat) : Int), .int .u64 want, .bool owes, .int .i64 0], .string ⟨#[]⟩, .bool false]) (by simp [results, Tryz.results54, go_sem, z0, z1, z2, z3, z4, z5, z6, z7, z8, z9, z10]; done) rfl ⟨.agg #[.int .i64 e, .int .i64 win, .int .i64 qn, .int .i64 wait, .slice (some ⟨b, off + k0, none⟩) (l.length - k0) (c - k0), .int .u64 Q, .int .i64 ((out - k0 : Nat) : Int), .int .i64 ((ever - k0 : Nat) : Int), .int .u64 want, .bool owes, .int .i64 0], by rw [HR.out.1, HR.out.2.1], ⟨(some ⟨b, off + k0, none⟩), (l.length - k0), (c - k0), by rw [HR.out.2.2]; rfl, by rw [HR.out.2.2]; exact HL.out.ext y5⟩, y5⟩
          · have t2 : (fk == 2) = false := beq_eq_false_iff_ne.2 hf
            have t3 : ((fq : Int) == (want : Int)) = true := beq_iff_eq.2 (by omega)
            have hwn : IntKind.u64.wrap ((want : Int) + 1) = (((want + 1) % 18446744073709551616 : Nat) : Int) := seq_wrap want 1
            obtain ⟨WN, hWN⟩ : ∃ WN, WN = (want + 1) % 18446744073709551616 := ⟨_, rfl⟩
            rw [← hWN] at hwn HR
            clear hWN hf hq
            have hb9 := blk_set (blk_set HV.out.1 9 (.bool true)) 8 (.int .u64 WN)
            have HGB := Lib.hid (show (((((((wr.setCell ⟨w.heap.size, 4, none⟩ (.slice (some ⟨b, off + k0, none⟩) (l.length - k0) (c - k0))).setCell ⟨w.heap.size, 5, none⟩ (.int .u64 Q)).setCell ⟨w.heap.size, 6, none⟩ (.int .i64 ((out - k0 : Nat) : Int))).setCell ⟨w.heap.size, 7, none⟩ (.int .i64 ((ever - k0 : Nat) : Int))).setCell ⟨w.heap.size, 10, none⟩ (.int .i64 0)).setCell ⟨w.heap.size, 9, none⟩ (.bool true)).setCell ⟨w.heap.size, 8, none⟩ (.int .u64 WN)).heap[w.heap.size]? = some (.cells #[.int .i64 e, .int .i64 win, .int .i64 qn, .int .i64 wait, .slice (some ⟨b, off + k0, none⟩) (l.length - k0) (c - k0), .int .u64 Q, .int .i64 ((out - k0 : Nat) : Int), .int .i64 ((ever - k0 : Nat) : Int), .int .u64 WN, .bool true, .int .i64 0] 30 (0, 0)) by simpa using hb9)
            have HFB := Lib.hid (((set_other _ ⟨w.heap.size, 8, none⟩ (.int .u64 WN) (w.heap.size + 1) (by show w.heap.size + 1 ≠ w.heap.size; omega)).trans (set_other (((((wr.setCell ⟨w.heap.size, 4, none⟩ (.slice (some ⟨b, off + k0, none⟩) (l.length - k0) (c - k0))).setCell ⟨w.heap.size, 5, none⟩ (.int .u64 Q)).setCell ⟨w.heap.size, 6, none⟩ (.int .i64 ((out - k0 : Nat) : Int))).setCell ⟨w.heap.size, 7, none⟩ (.int .i64 ((ever - k0 : Nat) : Int))).setCell ⟨w.heap.size, 10, none⟩ (.int .i64 0)) ⟨w.heap.size, 9, none⟩ (.bool true) (w.heap.size + 1) (by show w.heap.size + 1 ≠ w.heap.size; omega))).trans HV.out.2.1)
            have HZB := Lib.hid (((set_other _ ⟨w.heap.size, 8, none⟩ (.int .u64 WN) (w.heap.size + 1 + 1) (by show w.heap.size + 1 + 1 ≠ w.heap.size; omega)).trans (set_other (((((wr.setCell ⟨w.heap.size, 4, none⟩ (.slice (some ⟨b, off + k0, none⟩) (l.length - k0) (c - k0))).setCell ⟨w.heap.size, 5, none⟩ (.int .u64 Q)).setCell ⟨w.heap.size, 6, none⟩ (.int .i64 ((out - k0 : Nat) : Int))).setCell ⟨w.heap.size, 7, none⟩ (.int .i64 ((ever - k0 : Nat) : Int))).setCell ⟨w.heap.size, 10, none⟩ (.int .i64 0)) ⟨w.heap.size, 9, none⟩ (.bool true) (w.heap.size + 1 + 1) (by show w.heap.size + 1 + 1 ≠ w.heap.size; omega))).trans HV.out.2.2.1)
            have HXB := Lib.hid (below_set (d := ⟨w.heap.size, 8, none⟩) (below_set (d := ⟨w.heap.size, 9, none⟩) HV.out.2.2.2 (Nat.le_refl _) (.bool true)) (Nat.le_refl _) (.int .u64 WN))
            go_wp2_with fail
            obtain ⟨W0, hW0⟩ : ∃ W0, W0 = ((((((wr.setCell ⟨w.heap.size, 4, none⟩ (.slice (some ⟨b, off + k0, none⟩) (l.length - k0) (c - k0))).setCell ⟨w.heap.size, 5, none⟩ (.int .u64 Q)).setCell ⟨w.heap.size, 6, none⟩ (.int .i64 ((out - k0 : Nat) : Int))).setCell ⟨w.heap.size, 7, none⟩ (.int .i64 ((ever - k0 : Nat) : Int))).setCell ⟨w.heap.size, 10, none⟩ (.int .i64 0)).setCell ⟨w.heap.size, 9, none⟩ (.bool true)).setCell ⟨w.heap.size, 8, none⟩ (.int .u64 WN) := ⟨_, rfl⟩
            rw [← hW0] at HGB HFB HZB HXB ⊢
            clear hW0 hb9
            (refine wp_region_X_lit (K := fun W => W.heap[w.heap.size]? = some (.cells #[.int .i64 e, .int .i64 win, .int .i64 qn, .int .i64 wait, .slice (some ⟨b, off + k0, none⟩) (l.length - k0) (c - k0), .int .u64 Q, .int .i64 ((out - k0 : Nat) : Int), .int .i64 ((ever - k0 : Nat) : Int), .int .u64 WN, .bool true, .int .i64 0] 30 (0, 0)) ∧ W.heap[w.heap.size + 1]? = some (.cells #[.int .i64 fk, .int .i64 fe, .int .u64 fq, .int .u64 fa, .string fb] 83 (0, 0))) (by kernel_rfl) (fun w1 hw1 => ?_))
            have HG1 := Lib.hid (blk_later HGB.out hw1)
            have HF1 := Lib.hid (blk_later HFB.out hw1)
            have HZ1 := Lib.hid (blk_later HZB.out hw1)
            have HX1 := Lib.hid (Ext.trans HXB.out hw1)
            clear hw1 HGB HFB HZB HXB
            refine xtv 0 (hv := by intro w' hw'; have hc := (cells11 hw'.1).1; go_simp; first | done | with_reducible rfl) (h := ?_)
            refine xtv 1 (h := ?_)
            refine xtv 2 (hv := by intro w' hw'; have hc := (cells5 hw'.2).1; go_simp; first | done | with_reducible rfl) (h := ?_)
            refine xone 3 (hk := ⟨HG1.out, HF1.out⟩) (h := RunX.of 3 (h := ?_))
            obtain ⟨y5, y6⟩ := cells11 HZ1.out
            go_simp
            (try (simp only [Act.put, List.setIfInBounds_toArray, List.set]))
            refine xtv 4 (h := ?_)
            refine xtv 5 (h := ?_)
            (refine xdone (by kernel_rfl) (⟨(set11_other (by omega) (.int .i64 e) (.int .i64 win) (.int .i64 qn) (.int .i64 wait) (.slice (some ⟨b, off + k0, none⟩) (l.length - k0) (c - k0)) (.int .u64 Q) (.int .i64 ((out - k0 : Nat) : Int)) (.int .i64 ((ever - k0 : Nat) : Int)) (.int .u64 WN) (.bool true) (.int .i64 0)).trans HG1.out, (set11_other (by omega) (.int .i64 e) (.int .i64 win) (.int .i64 qn) (.int .i64 wait) (.slice (some ⟨b, off + k0, none⟩) (l.length - k0) (c - k0)) (.int .u64 Q) (.int .i64 ((out - k0 : Nat) : Int)) (.int .i64 ((ever - k0 : Nat) : Int)) (.int .u64 WN) (.bool true) (.int .i64 0)).trans HF1.out⟩) ?_)
            go_wp2
            have z := set11_blk HZ1.out (.int .i64 e) (.int .i64 win) (.int .i64 qn) (.int .i64 wait) (.slice (some ⟨b, off + k0, none⟩) (l.length - k0) (c - k0)) (.int .u64 Q) (.int .i64 ((out - k0 : Nat) : Int)) (.int .i64 ((ever - k0 : Nat) : Int)) (.int .u64 WN) (.bool true) (.int .i64 0)
            have y5 := set11_below (g := w.heap.size + 1 + 1) HX1.out (by omega) (.int .i64 e) (.int .i64 win) (.int .i64 qn) (.int .i64 wait) (.slice (some ⟨b, off + k0, none⟩) (l.length - k0) (c - k0)) (.int .u64 Q) (.int .i64 ((out - k0 : Nat) : Int)) (.int .i64 ((ever - k0 : Nat) : Int)) (.int .u64 WN) (.bool true) (.int .i64 0)
            obtain ⟨z0, z1, z2, z3, z4, z5, z6, z7, z8, z9, z10⟩ := (cells11 z).1
            simp only [set11] at z0 z1 z2 z3 z4 z5 z6 z7 z8 z9 z10
            refine bodyPost_ret (v := .tuple #[.agg #[.int .i64 e, .int .i64 win, .int .i64 qn, .int .i64 wait, .slice (some ⟨b, off + k0, none⟩) (l.length - k0) (c - k0), .int .u64 Q, .int .i64 ((out - k0 : Nat) : Int), .int .i64 ((ever - k0 : Nat) : Int), .int .u64 WN, .bool true, .int .i64 0], .string fb, .bool true]) (by simp [results, Tryz.results54, go_sem, z0, z1, z2, z3, z4, z5, z6, z7, z8, z9, z10]; done) rfl ⟨.agg #[.int .i64 e, .int .i64 win, .int .i64 qn, .int .i64 wait, .slice (some ⟨b, off + k0, none⟩) (l.length - k0) (c - k0), .int .u64 Q, .int .i64 ((out - k0 : Nat) : Int), .int .i64 ((ever - k0 : Nat) : Int), .int .u64 WN, .bool true, .int .i64 0], by rw [HR.out.1, HR.out.2.1], ⟨(some ⟨b, off + k0, none⟩), (l.length - k0), (c - k0), by rw [HR.out.2.2]; rfl, by rw [HR.out.2.2]; exact HL.out.ext y5⟩, y5⟩
          · have t2 : (fk == 2) = false := beq_eq_false_iff_ne.2 hf
            have t3 : ((fq : Int) == (want : Int)) = false := beq_eq_false_iff_ne.2 (by omega)
            clear hf hq
            go_wp2
            have z := set11_blk ((set_other _ ⟨w.heap.size, 9, none⟩ (.bool true) (w.heap.size + 1 + 1) (by show w.heap.size + 1 + 1 ≠ w.heap.size; omega)).trans HV.out.2.2.1) (.int .i64 e) (.int .i64 win) (.int .i64 qn) (.int .i64 wait) (.slice (some ⟨b, off + k0, none⟩) (l.length - k0) (c - k0)) (.int .u64 Q) (.int .i64 ((out - k0 : Nat) : Int)) (.int .i64 ((ever - k0 : Nat) : Int)) (.int .u64 want) (.bool true) (.int .i64 0)
            have y5 := set11_below (g := w.heap.size + 1 + 1) (below_set (d := ⟨w.heap.size, 9, none⟩) HV.out.2.2.2 (Nat.le_refl _) (.bool true)) (by omega) (.int .i64 e) (.int .i64 win) (.int .i64 qn) (.int .i64 wait) (.slice (some ⟨b, off + k0, none⟩) (l.length - k0) (c - k0)) (.int .u64 Q) (.int .i64 ((out - k0 : Nat) : Int)) (.int .i64 ((ever - k0 : Nat) : Int)) (.int .u64 want) (.bool true) (.int .i64 0)
            obtain ⟨z0, z1, z2, z3, z4, z5, z6, z7, z8, z9, z10⟩ := (cells11 z).1
            simp only [set11] at z0 z1 z2 z3 z4 z5 z6 z7 z8 z9 z10
            refine bodyPost_ret (v := .tuple #[.agg #[.int .i64 e, .int .i64 win, .int .i64 qn, .int .i64 wait, .slice (some ⟨b, off + k0, none⟩) (l.length - k0) (c - k0), .int .u64 Q, .int .i64 ((out - k0 : Nat) : Int), .int .i64 ((ever - k0 : Nat) : Int), .int .u64 want, .bool true, .int .i64 0], .string ⟨#[]⟩, .bool false]) (by simp [results, Tryz.results54, go_sem, z0, z1, z2, z3, z4, z5, z6, z7, z8, z9, z10]; done) rfl ⟨.agg #[.int .i64 e, .int .i64 win, .int .i64 qn, .int .i64 wait, .slice (some ⟨b, off + k0, none⟩) (l.length - k0) (c - k0), .int .u64 Q, .int .i64 ((out - k0 : Nat) : Int), .int .i64 ((ever - k0 : Nat) : Int), .int .u64 want, .bool true, .int .i64 0], by rw [HR.out.1, HR.out.2.1], ⟨(some ⟨b, off + k0, none⟩), (l.length - k0), (c - k0), by rw [HR.out.2.2]; rfl, by rw [HR.out.2.2]; exact HL.out.ext y5⟩, y5⟩
end Go.Proofs.YtlakolkpfkakoaaGreatDoor
