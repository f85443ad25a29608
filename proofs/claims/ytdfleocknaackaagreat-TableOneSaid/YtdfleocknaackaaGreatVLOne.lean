/- Layer 14, the law TableOne. -/
import Derived.Test.YtdfleocknaackaaGreatVI
namespace Go.Proofs.YtdfleocknaackaaGreat
open Go.RowKit

set_option maxRecDepth 100000 in
set_option maxHeartbeats 8000000 in
theorem tableOne_any (w : World) (N : Int) (o0 : Option Addr) (c0 : Nat) (E : List Edge) (o1 : Option Addr) (c1 : Nat) (l : List Ak) (h : Sl w (.slice o0 E.length c0) E) (hl : Sl w (.slice o1 l.length c1) l) :
    Calls Tryz.prog 3 #[.agg #[.int .i64 N, .slice o0 E.length c0], .slice o1 l.length c1] w fun e w' => e = .returned (.bool true) ∧ Below w.heap.size w w' := by
  have hmf : ∀ (fn : Fn) (first cap : Array Value) (w : World), (Instr.makeFunc fn first cap).run Tryz.prog w = .ok (.func fn first cap) w := fun _ _ _ _ => rfl
  obtain ⟨W0, hW0⟩ : ∃ W0, W0 = w.alloc (.cells #[.int .i64 N, .slice o0 E.length c0] 24) := ⟨_, rfl⟩
  have X0 : Hid (Ext w W0) := Lib.hid (hW0 ▸ (Ext.refl w).alloc _)
  have B0 : Hid (W0.heap[w.heap.size]? = some (.cells #[.int .i64 N, .slice o0 E.length c0] 24 (0, 0))) := Lib.hid (hW0 ▸ at0 w _)
  have HW0 := Lib.hid hW0
  have HE := Lib.hid (h.ext X0.out)
  have HL := Lib.hid (hl.ext X0.out)
  have HGC : Hid (∀ V, Ext W0 V → V.cell? ⟨w.heap.size, 0, none⟩ = some (.int .i64 N) ∧ V.cell? ⟨w.heap.size, 1, none⟩ = some (.slice o0 E.length c0)) := Lib.hid fun V hV => cells2S (keepU B0.out hV)
  have hll := hl.length_le
  obtain ⟨t, ht⟩ : ∃ t, (decide (N ≤ 10) && okG N E) = t := ⟨_, rfl⟩
  have HT := Lib.hid ht
  clear h hl hW0 ht
  go_enter Tryz.func3, Tryz.ntmps3
  go_upto_region 1 with (fail)
  rw [← HW0.out]
  cases t
  · go_wp2_with (first
      | (have hgd := X2; go_at_call 9; refine (awakeT_any _).mono ?_; rintro e w3 ⟨rfl, hx⟩; have X3 := Lib.hid (X2.out.trans hx); clear hx)
      | (go_at_call 9; refine (awakeT_any _).mono ?_; rintro e w1 ⟨rfl, hx⟩; have X1 := Lib.hid hx; obtain ⟨k0, k1⟩ := HGC.out w1 hx; clear hx)
      | (go_at_call 10; refine (refSmall_any w1 N _ E (HE.out.ext X1.out) false HT.out).mono ?_; rintro e w2 ⟨rfl, hx⟩; have X2 := Lib.hid (X1.out.trans hx); clear hx))
    go_ret
    exact ⟨rfl, X0.out.trans X3.out⟩
  have HOK : Hid (OkG N E) := Lib.hid (okG_iff.1 (by have := HT.out; simp only [Bool.and_eq_true] at this; exact this.2))
  by_cases h80 : (80 : Int) < (l.length : Int)
  · go_wp2_with (first
      | (have hgd := X2; go_at_call 9; refine (awakeT_any _).mono ?_; rintro e w3 ⟨rfl, hx⟩; have X3 := Lib.hid (X2.out.trans hx); clear hx)
      | (go_at_call 9; refine (awakeT_any _).mono ?_; rintro e w1 ⟨rfl, hx⟩; have X1 := Lib.hid hx; obtain ⟨k0, k1⟩ := HGC.out w1 hx; clear hx)
      | (go_at_call 10; refine (refSmall_any w1 N _ E (HE.out.ext X1.out) true HT.out).mono ?_; rintro e w2 ⟨rfl, hx⟩; have X2 := Lib.hid (X1.out.trans hx); clear hx))
    go_ret
    exact ⟨rfl, X0.out.trans X3.out⟩
  · go_wp2_with (first
      | (go_at_call 9; refine (awakeT_any _).mono ?_; rintro e w1 ⟨rfl, hx⟩; have X1 := Lib.hid hx; obtain ⟨k0, k1⟩ := HGC.out w1 hx; clear hx)
      | (go_at_call 10; refine (refSmall_any w1 N _ E (HE.out.ext X1.out) true HT.out).mono ?_; rintro e w2 ⟨rfl, hx⟩; have X2 := Lib.hid (X1.out.trans hx); obtain ⟨j0, j1⟩ := HGC.out w2 X2.out; clear hx)
      | (go_at_call 11; refine (runT_any w2 N _ _ E l (HE.out.ext X2.out) (HL.out.ext X2.out) HOK.out 12 #[.pointer (some ⟨w.heap.size, 0, none⟩)] (enters_of Tryz.func12 (by kernel_rfl) rfl) (fun V vd vm ds ms hV hsv hgd => isOne_any V w.heap.size N _ E HOK.out (keepU B0.out (X2.out.trans hV)) (HE.out.ext (X2.out.trans hV)) vd vm ds ms hsv hgd)).mono ?_; rintro e w3 ⟨vd, vm, ds, ms, rfl, sv, _, hx⟩; obtain ⟨a1, n1, c1', a2, n2, c2, rfl, rfl⟩ := sv.sh; have X3 := Lib.hid (X2.out.trans hx); clear hx))
    go_ret
    exact ⟨rfl, X0.out.trans (X3.out.alloc _)⟩
end Go.Proofs.YtdfleocknaackaaGreat
