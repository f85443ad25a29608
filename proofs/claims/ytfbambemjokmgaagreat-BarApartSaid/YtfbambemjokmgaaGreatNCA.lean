/- Texts of this seat. -/
import Derived.Test.YtfbambemjokmgaaGreatNBS
import Derived.Test.YtfbambemjokmgaaGreatNBY
namespace Go.Proofs.YtfbambemjokmgaaGreat
open Go.RowKit
set_option maxRecDepth 100000 in
set_option maxHeartbeats 8000000 in
theorem barApart_any (w : World) (N : Int) (o0 : Option Addr) (c0 : Nat) (E : List Edge) (o1 : Option Addr) (c1 : Nat) (l : List Akt) (h : Sl w (.slice o0 E.length c0) E) (hl : Ns AV Non w (.slice o1 l.length c1) l) :
    Calls Tryz.prog 5 #[.agg #[.int .i64 N, .slice o0 E.length c0], .slice o1 l.length c1] w fun e w' => e = .returned (.bool true) ∧ Below w.heap.size w w' := by
  have hmf : ∀ (fn : Fn) (first cap : Array Value) (w : World), (Instr.makeFunc fn first cap).run Tryz.prog w = .ok (.func fn first cap) w := fun _ _ _ _ => rfl
  obtain ⟨W0, hW0⟩ : ∃ W0, W0 = w.alloc (.cells #[.int .i64 N, .slice o0 E.length c0] 53) := ⟨_, rfl⟩
  have X0 : Hid (Ext w W0) := Lib.hid (hW0 ▸ (Ext.refl w).alloc _)
  have B0 : Hid (W0.heap[w.heap.size]? = some (.cells #[.int .i64 N, .slice o0 E.length c0] 53 (0, 0))) := Lib.hid (hW0 ▸ at0 w _)
  have HW0 := Lib.hid hW0
  have HE := Lib.hid (h.ext X0.out)
  have HL := Lib.hid (hl.ext X0.out)
  have HGC : Hid (∀ V, Ext W0 V → V.cell? ⟨w.heap.size, 0, none⟩ = some (.int .i64 N) ∧ V.cell? ⟨w.heap.size, 1, none⟩ = some (.slice o0 E.length c0)) := Lib.hid fun V hV => cells2S (keepU B0.out hV)
  obtain ⟨t, ht⟩ : ∃ t, fewR N E l = t := ⟨_, rfl⟩
  have HT := Lib.hid ht
  clear h hl hW0 ht
  go_enter Tryz.func5, Tryz.ntmps5
  go_upto_region 1 with (fail)
  rw [← HW0.out]
  cases t
  · go_wp2_with (first
      | (have hgd := X2; go_at_call 11; refine (awakeB_any _).mono ?_; rintro e w3 ⟨rfl, hx⟩; have X3 := Lib.hid (X2.out.trans hx); clear hx)
      | (go_at_call 11; refine (awakeB_any _).mono ?_; rintro e w1 ⟨rfl, hx⟩; have X1 := Lib.hid hx; obtain ⟨k0, k1⟩ := HGC.out w1 hx; clear hx)
      | (go_at_call 28; refine (fewB_any w1 N _ _ E l (HE.out.ext X1.out) (HL.out.ext X1.out) false HT.out).mono ?_; rintro e w2 ⟨rfl, hx⟩; have X2 := Lib.hid (X1.out.trans hx); clear hx))
    go_ret
    exact ⟨rfl, X0.out.trans X3.out⟩
  · have HOK : Hid (OkG N E ∧ N ≤ 10 ∧ l.length ≤ 80 ∧ ∀ x ∈ l, x.2.2.2.length ≤ 20) := Lib.hid (fewR_yes HT.out)
    go_wp2_with (first
      | (go_at_call 11; refine (awakeB_any _).mono ?_; rintro e w1 ⟨rfl, hx⟩; have X1 := Lib.hid hx; obtain ⟨k0, k1⟩ := HGC.out w1 hx; clear hx)
      | (go_at_call 28; refine (fewB_any w1 N _ _ E l (HE.out.ext X1.out) (HL.out.ext X1.out) true HT.out).mono ?_; rintro e w2 ⟨rfl, hx⟩; have X2 := Lib.hid (X1.out.trans hx); obtain ⟨j0, j1⟩ := HGC.out w2 X2.out; clear hx)
      | (go_at_call 29; refine (runB_any w2 N _ _ E l (HE.out.ext X2.out) (HL.out.ext X2.out) HOK.out.1 HOK.out.2.1 HOK.out.2.2.2 31 #[] (enters_of Tryz.func31 (by kernel_rfl) rfl) (fun V vd vm ds ms hV hsv hgd => isApartB_any V N E HOK.out.1 HOK.out.2.1 vd vm ds ms hsv hgd)).mono ?_; rintro e w3 ⟨vd, vm, ds, ms, rfl, sv, _, hx⟩; obtain ⟨a1, n1, c1', a2, n2, c2, rfl, rfl⟩ := sv.sh; have X3 := Lib.hid (X2.out.trans hx); clear hx))
    go_ret
    exact ⟨rfl, X0.out.trans (X3.out.alloc _)⟩
end Go.Proofs.YtfbambemjokmgaaGreat
