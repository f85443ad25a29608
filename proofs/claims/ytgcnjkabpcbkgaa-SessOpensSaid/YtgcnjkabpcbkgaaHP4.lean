/- Layer 17, the program: whether a book may be. -/
import Derived.Test.YtgcnjkabpcbkgaaHP3
namespace Go.Proofs.Ytgcnjkabpcbkgaa
open Go.RowKit

set_option maxHeartbeats 1000000 in
theorem faultsH_any (W : World) (n : Int) : Calls Try.prog 38 #[.int .i64 n] W fun e W' => ∃ g1 g2, e = .returned (.func (.func 54) #[] #[.pointer (some ⟨g1, 0, none⟩), .pointer (some ⟨g2, 0, none⟩)]) ∧ W'.heap[g1]? = some (.cells #[.int .i64 0] 3 (0, 0)) ∧ W'.heap[g2]? = some (.cells #[.int .i64 n] 3 (0, 0)) ∧ g1 ≠ g2 ∧ W.heap.size ≤ g1 ∧ Ext W W' := by
  have hmf : ∀ (fn : Fn) (first cap : Array Value) (w : World), (Instr.makeFunc fn first cap).run Try.prog w = .ok (.func fn first cap) w := fun _ _ _ _ => rfl
  have q2 := at1 W (.cells #[.int .i64 n] 3) (.cells #[.int .i64 0] 3)
  have f2 := blk_free q2 0
  clear q2
  go_enter Try.func38, Try.ntmps38
  go_wp2
  go_ret
  exact ⟨_, _, rfl, at1 W _ _, old1 (at0 W _) _, by omega, by omega, ((Ext.refl W).alloc _).alloc _⟩

/-- what a book is known by while it is looked at -/
def LookH (w : World) (v : Value) (n : Int) (L : List Se) (g1 g2 : Nat) (k : Nat) (W : World) : Prop := Ns HV (fun b => b = g1) W v L ∧ W.heap[g1]? = some (.cells #[.int .i64 (aheadH L k)] 3 (0, 0)) ∧ W.heap[g2]? = some (.cells #[.int .i64 n] 3 (0, 0)) ∧ Ext w W
theorem containsBad_any (w W : World) (v : Value) (n : Int) (L : List Se) (g1 g2 : Nat) (hne : g1 ≠ g2) (hg : w.heap.size ≤ g1) (h0 : LookH w v n L g1 g2 0 W) (t : Bool) (ht : (!chkH (n, L)) = t) (hn : 0 ≤ n) (h8 : L.length ≤ 8) :
    Calls Try.prog 37 #[v, .func (.func 54) #[] #[.pointer (some ⟨g1, 0, none⟩), .pointer (some ⟨g2, 0, none⟩)]] W fun e w' => e = .returned (.bool t) ∧ Ext w w' := by
  refine (containsFunc_se W v L 54 _ (LookH w v n L g1 g2) (badH (n, L)) (fun b => b = g1) (enters_of Try.func54 (by kernel_rfl) rfl) (fun k V hV => hV.1) (fun k id st ag u N V hk hV hu => ?_) h0 t (fun hall => ?_) (fun k s hs hb _ => ?_)).mono ?_
  · change Calls Try.prog _ #[.agg #[.int .i64 id, u, .int .i64 st, .int .i64 ag], .pointer (some ⟨g1, 0, none⟩), .pointer (some ⟨g2, 0, none⟩)] V _
    obtain ⟨q1, q2, q3, q4⟩ := hV
    refine (faults1H_any V g1 g2 (aheadH L k) n id st ag u N hu q2 q3 _ rfl).mono ?_
    rintro e V' ⟨rfl, o, hb⟩
    refine ⟨rfl, q1.off o (Grows.refl _ _), ?_, o.blk q3 (fun e => hne e.symm), ext_off q4 o (fun b hb => by rw [hb]; exact hg)⟩
    rw [hb]
    simp only [aheadH, hk]
  · rw [← ht, chk_at.2 ⟨hn, h8, bad_iff.1 hall⟩]; rfl
  · rw [← ht]
    cases hc : chkH (n, L)
    · rfl
    · rw [bad_iff.2 (chk_at.1 hc).2.2 k s hs] at hb
      cases hb
  · rintro e w' ⟨rfl, k, hk⟩
    exact ⟨rfl, hk.2.2.2⟩

set_option maxRecDepth 100000 in
set_option maxHeartbeats 4000000 in
theorem sessCheck_any (F : Nat → Prop) (w : World) (n : Int) (v : Value) (L : List Se) (h : Ns HV F w v L) (hl : L.length ≤ 1000) (t : Bool) (ht : chkH (n, L) = t) :
    Calls Try.prog 20 #[.agg #[.int .i64 n, v]] w fun e w' => e = .returned (.int .i64 (if t = true then 0 else 170)) ∧ Ext w w' := by
  obtain ⟨ao, c, rfl⟩ := h.len
  obtain ⟨W0, hW0⟩ : ∃ W0, W0 = w.alloc (.cells #[.int .i64 n, .slice ao L.length c] 24) := ⟨_, rfl⟩
  have X0 : Hid (Ext w W0) := Lib.hid (hW0 ▸ (Ext.refl w).alloc _)
  have B0 : Hid (W0.heap[w.heap.size]? = some (.cells #[.int .i64 n, .slice ao L.length c] 24 (0, 0))) := Lib.hid (hW0 ▸ at0 w _)
  have HK : Hid (∀ V, Ext W0 V → V.cell? ⟨w.heap.size, 0, none⟩ = some (.int .i64 n) ∧ V.cell? ⟨w.heap.size, 1, none⟩ = some (.slice ao L.length c)) := Lib.hid fun V hV => ⟨blk_cell (keepU B0.out hV) 0 rfl, blk_cell (keepU B0.out hV) 1 rfl⟩
  have HS := Lib.hid (ns_non (h.ext X0.out))
  have HW0 := Lib.hid hW0
  obtain ⟨r, hr⟩ : ∃ r : Int, (if t = true then (0 : Int) else 170) = r := ⟨_, rfl⟩
  rw [hr]
  have HT := Lib.hid ht
  have HR := Lib.hid hr
  clear h ht hW0 hr
  obtain ⟨k0, k1⟩ := HK.out W0 (Ext.refl _)
  by_cases hn0 : n < 0
  · have HF : Hid (170 = r) := Lib.hid (by rw [← HR.out, ← HT.out, if_neg]; exact fun q => by have := (chk_at.1 q).1; dsimp only at this; omega)
    have d0 := decide_eq_true hn0
    clear hn0
    go_enter Try.func20, Try.ntmps20
    go_upto_region 1 with (fail)
    rw [← HW0.out]
    go_quiet (fail)
    go_wp2
    go_ret
    exact ⟨ret_int HF.out, X0.out.trans (by repeat (first | exact Ext.refl _ | assumption | refine Ext.alloc ?_ _ | refine Ext.drew ?_ | refine Ext.drewN ?_ _))⟩
  have d0 := decide_eq_false hn0
  by_cases h8 : (8 : Int) < (L.length : Int)
  · have HF : Hid (170 = r) := Lib.hid (by rw [← HR.out, ← HT.out, if_neg]; exact fun q => by have := (chk_at.1 q).2.1; dsimp only at this; omega)
    have d8 := decide_eq_true h8
    have d8' : decide (8 < L.length) = true := decide_eq_true (by omega)
    clear hn0 h8
    go_enter Try.func20, Try.ntmps20
    go_upto_region 1 with (fail)
    rw [← HW0.out]
    go_quiet (fail)
    go_wp2
    go_ret
    exact ⟨ret_int HF.out, X0.out.trans (by repeat (first | exact Ext.refl _ | assumption | refine Ext.alloc ?_ _ | refine Ext.drew ?_ | refine Ext.drewN ?_ _))⟩
  have d8 := decide_eq_false h8
  have d8' : decide (8 < L.length) = false := decide_eq_false (by omega)
  have HN : Hid (0 ≤ n ∧ L.length ≤ 8) := Lib.hid ⟨by omega, by omega⟩
  obtain ⟨q, hq⟩ : ∃ q, (!chkH (n, L)) = q := ⟨_, rfl⟩
  have HQ := Lib.hid hq
  have HQT : Hid ((if q = true then (170 : Int) else 0) = r) := Lib.hid (by rw [← hq, ← HR.out, HT.out]; cases t <;> rfl)
  clear hn0 h8 hq
  go_enter Try.func20, Try.ntmps20
  go_upto_region 1 with (fail)
  rw [← HW0.out]
  clear k0 k1
  (refine wp_region_X_lit (K := fun V => Ext W0 V) (by kernel_rfl) (fun w1 hw1 => ?_))
  have Y1 : Hid (Ext W0 w1) := Lib.hid hw1
  clear hw1
  refine xtv 0 (h := ?_)
  refine xtv 1 (hv := by intro w' hw'; obtain ⟨c0, c1⟩ := HK.out w' hw'; go_simp; first | done | with_reducible rfl) (h := ?_)
  refine xtv 2 (h := ?_)
  refine xtv 3 (h := ?_)
  refine xtv 4 (h := ?_)
  refine xtv 5 (hv := by intro w' hw'; obtain ⟨c0, c1⟩ := HK.out w' hw'; go_simp; first | done | with_reducible rfl) (h := ?_)
  refine xtv 6 (h := ?_)
  refine xtv 7 (h := ?_)
  refine xtv 8 (h := ?_)
  refine xtv 9 (h := ?_)
  refine xtv 10 (h := ?_)
  refine xtv 11 (hv := by intro w' hw'; obtain ⟨c0, c1⟩ := HK.out w' hw'; go_simp; first | done | with_reducible rfl) (h := ?_)
  refine xtv 12 (h := ?_)
  refine xtv 13 (hv := by intro w' hw'; obtain ⟨c0, c1⟩ := HK.out w' hw'; go_simp; first | done | with_reducible rfl) (h := ?_)
  refine xone 14 (hk := Y1.out) (h := RunX.of 14 (h := ?_))
  go_simp
  refine (faultsH_any w1 n).mono ?_
  rintro e2 w2 ⟨g1, g2, rfl, hg1, hg2, hne, hge, x2⟩
  have Y2 : Hid (Ext W0 w2) := Lib.hid (Y1.out.trans x2)
  have HC := Lib.hid (containsBad_any w1 w2 (.slice ao L.length c) n L g1 g2 hne hge ⟨((HS.out.ext Y1.out).grow (fun b hb => .inr (by rw [hb]; exact hge))).ext x2, hg1, hg2, x2⟩ q HQ.out HN.out.1 HN.out.2)
  clear hg1 hg2 hne hge x2
  dsimp only
  (try (simp only [Act.put, List.setIfInBounds_toArray, List.set]))
  refine xone 15 (hk := Y2.out) (h := RunX.of 15 (h := ?_))
  go_simp
  refine HC.out.mono ?_
  rintro e3 w3 ⟨rfl, x3⟩
  have Y3 : Hid (Ext W0 w3) := Lib.hid (Y1.out.trans x3)
  clear x3
  dsimp only
  (try (simp only [Act.put, List.setIfInBounds_toArray, List.set]))
  refine xtv 16 (h := ?_)
  (refine xdone (by kernel_rfl) (Y3.out) ?_)
  cases q
  · go_wp2
    go_ret
    exact ⟨ret_int HQT.out, X0.out.trans Y3.out⟩
  · go_wp2
    go_ret
    exact ⟨ret_int HQT.out, X0.out.trans Y3.out⟩
end Go.Proofs.Ytgcnjkabpcbkgaa
