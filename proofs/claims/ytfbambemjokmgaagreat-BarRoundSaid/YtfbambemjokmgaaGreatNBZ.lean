/- Texts of this seat. -/
import Derived.Test.YtfbambemjokmgaaGreatNAM
import Derived.Test.YtfbambemjokmgaaGreatNAP
import Derived.Test.YtfbambemjokmgaaGreatNBS
import Derived.Test.YtfbambemjokmgaaGreatNBW
namespace Go.Proofs.YtfbambemjokmgaaGreat
open Go.RowKit
set_option maxRecDepth 100000 in
set_option maxHeartbeats 16000000 in
theorem isRoundB_any (W : World) (gb : Nat) (N : Int) (gv : Value) (E : List Edge) (ok : OkG N E) (hN10 : N ≤ 10) (hg : W.heap[gb]? = some (.cells #[.int .i64 N, gv] 53 (0, 0))) (hE : Sl W gv E) (vd vm : Value) (ds : List Dk) (ms : List Ml) (h : BV W vd vm ds ms) (hgd : GoodBE N E ds ms) :
    Calls Tryz.prog 34 #[.agg #[vd, vm], .pointer (some ⟨gb, 0, none⟩)] W fun e W' => e = .returned (.bool true) ∧ Ext W W' := by
  obtain ⟨vo, vc, rfl⟩ := hE.len
  obtain ⟨ao, c, bo, d, rfl, rfl⟩ := h.len
  obtain ⟨W0, hW0⟩ : ∃ W0, W0 = W.alloc (.cells #[.slice ao ds.length c, .slice bo ms.length d] 25) := ⟨_, rfl⟩
  have X0 : Hid (Ext W W0) := Lib.hid (hW0 ▸ (Ext.refl W).alloc _)
  have B0 : Hid (W0.heap[W.heap.size]? = some (.cells #[.slice ao ds.length c, .slice bo ms.length d] 25 (0, 0))) := Lib.hid (hW0 ▸ at0 W _)
  have HW0 := Lib.hid hW0
  have HV := Lib.hid (h.ext X0.out)
  have HGB := Lib.hid (keepU hg X0.out)
  have HSM := Lib.hid (hgd.sm ok hN10)
  obtain ⟨hokd, hrk, hal⟩ := hgd.arcs ok
  have HGC : Hid (∀ V, Ext W0 V → V.cell? ⟨gb, 0, none⟩ = some (.int .i64 N) ∧ V.cell? ⟨gb, 1, none⟩ = some (.slice vo E.length vc)) := Lib.hid fun V hV => cells2S (keepU HGB.out hV)
  obtain ⟨A, hA⟩ : ∃ A, A = arcsOf ms (sceneK ds) := ⟨_, rfl⟩
  have HSB := Lib.hid (sceneB_any W0 _ _ ds ms HV.out HSM.out)
  have HAC : Hid (∀ V va vm', SV V va vm' (sceneK ds) ms → _) := Lib.hid fun V va vm' hs => hA ▸ pArcs_any V va vm' (sceneK ds) ms hs.ds hs.ms (by have := HSM.out.sm.n; omega)
  rw [← hA] at hokd hrk hal
  have HOB : Hid (ordB N A = true) := Lib.hid (ordB_iff.2 ⟨hokd, (peeled_iff hokd).2 hrk⟩)
  have HAL : Hid (((A.length : Int) == (E.length : Int)) = true) := Lib.hid (by rw [hal]; simp)
  obtain ⟨k0, k1⟩ := cells2S B0.out
  clear h hW0 ok hg hE hgd hA hokd hrk hal hN10
  go_enter Tryz.func34, Tryz.ntmps34
  go_upto_region 1 with (fail)
  rw [← HW0.out]
  have hal := HAL.out
  go_wp2_with (first
    | (go_at_call 26; refine HSB.out.mono ?_; rintro e u0 ⟨vd0, vm0, rfl, sv, hx⟩; obtain ⟨s1, s2, s3, s4, s5, s6, rfl, rfl⟩ := sv.sh; have HS0 := Lib.hid sv; have X1' := Lib.hid hx; clear sv hx)
    | (go_at_call 35; refine (HAC.out u0 _ _ HS0.out).mono ?_; rintro e u1 ⟨va, rfl, oa, hx⟩; obtain ⟨aa, ac, rfl⟩ := oa.len; have HA1 := Lib.hid oa; have X1 : Hid (Ext W0 u1) := Lib.hid (X1'.out.trans hx); obtain ⟨j0, j1⟩ := HGC.out u1 X1.out; clear oa hx)
    | (go_at_call 36; refine (orderA_any u1 N _ A HA1.out _ true rfl HOB.out).mono ?_; rintro e w2 ⟨vr, rfl, ow, hx⟩; obtain ⟨ra, rn, rc, rfl⟩ := ow.sh; have X2 : Hid (Ext W0 w2) := Lib.hid (X1.out.trans hx); obtain ⟨i0, i1⟩ := HGC.out w2 X2.out; clear ow hx))
  go_ret
  exact ⟨rfl, X0.out.trans X2.out⟩
end Go.Proofs.YtfbambemjokmgaaGreat
namespace Go.Proofs.YtfbambemjokmgaaGreat
open Go.RowKit
set_option maxRecDepth 100000 in
set_option maxHeartbeats 8000000 in
theorem barRound_any (w : World) (N : Int) (o0 : Option Addr) (c0 : Nat) (E : List Edge) (o1 : Option Addr) (c1 : Nat) (l : List Akt) (h : Sl w (.slice o0 E.length c0) E) (hl : Ns AV Non w (.slice o1 l.length c1) l) :
    Calls Tryz.prog 6 #[.agg #[.int .i64 N, .slice o0 E.length c0], .slice o1 l.length c1] w fun e w' => e = .returned (.bool true) ∧ Below w.heap.size w w' := by
  have hmf : ∀ (fn : Fn) (first cap : Array Value) (w : World), (Instr.makeFunc fn first cap).run Tryz.prog w = .ok (.func fn first cap) w := fun _ _ _ _ => rfl
  obtain ⟨W0, hW0⟩ : ∃ W0, W0 = w.alloc (.cells #[.int .i64 N, .slice o0 E.length c0] 53) := ⟨_, rfl⟩
  have X0 : Hid (Ext w W0) := Lib.hid (hW0 ▸ (Ext.refl w).alloc _)
  have B0 : Hid (W0.heap[w.heap.size]? = some (.cells #[.int .i64 N, .slice o0 E.length c0] 53 (0, 0))) := Lib.hid (hW0 ▸ at0 w _)
  have HW0 := Lib.hid hW0
  have HE := Lib.hid (h.ext X0.out)
  have HL := Lib.hid (hl.ext X0.out)
  have HGC : Hid (∀ V, Ext W0 V → V.cell? ⟨w.heap.size, 0, none⟩ = some (.int .i64 N) ∧ V.cell? ⟨w.heap.size, 1, none⟩ = some (.slice o0 E.length c0)) := Lib.hid fun V hV => cells2S (keepU B0.out hV)
  obtain ⟨t, ht⟩ : ∃ t, fewR N E l = t := ⟨_, rfl⟩
  have HT := Lib.hid ht
  clear h hl hW0 ht
  go_enter Tryz.func6, Tryz.ntmps6
  go_upto_region 1 with (fail)
  rw [← HW0.out]
  cases t
  · go_wp2_with (first
      | (have hgd := X2; go_at_call 11; refine (awakeB_any _).mono ?_; rintro e w3 ⟨rfl, hx⟩; have X3 := Lib.hid (X2.out.trans hx); clear hx)
      | (go_at_call 11; refine (awakeB_any _).mono ?_; rintro e w1 ⟨rfl, hx⟩; have X1 := Lib.hid hx; obtain ⟨k0, k1⟩ := HGC.out w1 hx; clear hx)
      | (go_at_call 28; refine (fewB_any w1 N _ _ E l (HE.out.ext X1.out) (HL.out.ext X1.out) false HT.out).mono ?_; rintro e w2 ⟨rfl, hx⟩; have X2 := Lib.hid (X1.out.trans hx); clear hx))
    go_ret
    exact ⟨rfl, X0.out.trans X3.out⟩
  · have HOK : Hid (OkG N E ∧ N ≤ 10 ∧ l.length ≤ 80 ∧ ∀ x ∈ l, x.2.2.2.length ≤ 20) := Lib.hid (fewR_yes HT.out)
    go_wp2_with (first
      | (go_at_call 11; refine (awakeB_any _).mono ?_; rintro e w1 ⟨rfl, hx⟩; have X1 := Lib.hid hx; obtain ⟨k0, k1⟩ := HGC.out w1 hx; clear hx)
      | (go_at_call 28; refine (fewB_any w1 N _ _ E l (HE.out.ext X1.out) (HL.out.ext X1.out) true HT.out).mono ?_; rintro e w2 ⟨rfl, hx⟩; have X2 := Lib.hid (X1.out.trans hx); obtain ⟨j0, j1⟩ := HGC.out w2 X2.out; clear hx)
      | (go_at_call 29; refine (runB_any w2 N _ _ E l (HE.out.ext X2.out) (HL.out.ext X2.out) HOK.out.1 HOK.out.2.1 HOK.out.2.2.2 34 #[.pointer (some ⟨w.heap.size, 0, none⟩)] (enters_of Tryz.func34 (by kernel_rfl) rfl) (fun V vd vm ds ms hV hsv hgd => isRoundB_any V w.heap.size N _ E HOK.out.1 HOK.out.2.1 (keepU B0.out (X2.out.trans hV)) (HE.out.ext (X2.out.trans hV)) vd vm ds ms hsv hgd)).mono ?_; rintro e w3 ⟨vd, vm, ds, ms, rfl, sv, _, hx⟩; obtain ⟨a1, n1, c1', a2, n2, c2, rfl, rfl⟩ := sv.sh; have X3 := Lib.hid (X2.out.trans hx); clear hx))
    go_ret
    exact ⟨rfl, X0.out.trans (X3.out.alloc _)⟩
end Go.Proofs.YtfbambemjokmgaaGreat
