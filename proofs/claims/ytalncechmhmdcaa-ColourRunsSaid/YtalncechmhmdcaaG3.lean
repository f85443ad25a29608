/- Whether a graph may be; what is told of its edges. -/
import Derived.Test.YtalncechmhmdcaaG2
namespace Go.Proofs.Ytalncechmhmdcaa
open Go.RowKit

theorem wrong_tells (w : World) (G : Nat) (N : Int) (hG : G < w.heap.size) (hc : w.cell? ⟨G, 0, none⟩ = some (.int .i64 N)) : Tells Edge.val w (.func (.func 36) #[] #[.pointer (some ⟨G, 0, none⟩)]) (fun e => !okE N e) :=
  ⟨36, _, rfl, enters_of Try.func36 (by kernel_rfl) rfl, fun W ⟨a, b⟩ hW => by
    have hc' : W.cell? ⟨G, 0, none⟩ = some (.int .i64 N) := (hW.cell (p := ⟨G, 0, none⟩) hG).trans hc
    have hG' : G < W.heap.size := Nat.lt_of_lt_of_le hG hW.size
    clear hc hG hW
    change Calls Try.prog _ #[.agg #[.int .i64 a, .int .i64 b], .pointer (some ⟨G, 0, none⟩)] W _
    by_cases h1 : a < 0
    · go_enter Try.func36, Try.ntmps36
      go_wp2
      go_ret
      exact ⟨ret_bool (by simp [okE]; try omega), (by repeat (first | exact Ext.refl _ | assumption | refine Ext.alloc ?_ _ | refine Ext.drew ?_ | refine Ext.drewN ?_ _))⟩
    · by_cases h2 : b ≤ a
      · go_enter Try.func36, Try.ntmps36
        go_wp2
        go_ret
        exact ⟨ret_bool (by simp [okE]; try omega), (by repeat (first | exact Ext.refl _ | assumption | refine Ext.alloc ?_ _ | refine Ext.drew ?_ | refine Ext.drewN ?_ _))⟩
      · by_cases h3 : N ≤ b
        · go_enter Try.func36, Try.ntmps36
          go_wp2
          go_ret
          exact ⟨ret_bool (by simp [okE]; try omega), (by repeat (first | exact Ext.refl _ | assumption | refine Ext.alloc ?_ _ | refine Ext.drew ?_ | refine Ext.drewN ?_ _))⟩
        · go_enter Try.func36, Try.ntmps36
          go_wp2
          go_ret
          exact ⟨ret_bool (by simp [okE]; try omega), (by repeat (first | exact Ext.refl _ | assumption | refine Ext.alloc ?_ _ | refine Ext.drew ?_ | refine Ext.drewN ?_ _))⟩⟩

end Go.Proofs.Ytalncechmhmdcaa
