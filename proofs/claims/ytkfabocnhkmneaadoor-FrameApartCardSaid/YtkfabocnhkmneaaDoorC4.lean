/- The program's sums, tails, and what is good. -/
import Derived.Test.YtkfabocnhkmneaaDoorC3
import Derived.Test.YtkfabocnhkmneaaDoorShelf
import Derived.Deep.RegionHeld3
import Derived.Deep.QuietTactic
import Derived.BigQuiet
namespace Go.Proofs.YtkfabocnhkmneaaDoor
open Go.RowKit

set_option maxHeartbeats 400000 in
theorem sum_any (w : World) (s : ByteArray) (ht : Tab w) (hs : s.size ≤ 9223372036854775807) :
    Calls Tryd.prog 22 #[.string s] w fun e w' => e = .returned (.int .u32 (moreN 0 (bl s) : Nat)) ∧ w = w' := by
  go_enter Tryd.func22, Tryd.ntmps22
  go_wp2_with (first | (go_at_call 31; refine (more_any _ 0 s ht (by decide) hs).mono ?_; rintro e w' ⟨rfl, rfl⟩))
  go_ret
  exact ⟨rfl, rfl⟩

set_option maxHeartbeats 400000 in
theorem tail_any (w : World) (c : Nat) (hc : c < 4294967296) :
    Calls Tryd.prog 21 #[.int .u32 (c : Int)] w fun e w' => e = .returned (.string (textN (tailN c))) ∧ Ext w w' := by
  have HCV : ∀ (W : World) (x y z u : Int), (convert 41 9 (.slice (some ⟨W.heap.size, 0, none⟩) 4 4)).run Tryd.prog (W.alloc (.cells #[.int .u8 x, .int .u8 y, .int .u8 z, .int .u8 u] 5)) = .ok (.string (strOfNums [x, y, z, u])) (W.alloc (.cells #[.int .u8 x, .int .u8 y, .int .u8 z, .int .u8 u] 5)) :=
    fun W x y z u => text_of_new [x, y, z, u] 4 rfl _ rfl W 4
  go_enter Tryd.func21, Tryd.ntmps21
  go_wp2
  go_ret
  exact ⟨rfl, (by repeat (first | exact Ext.refl _ | assumption | refine Ext.alloc ?_ _ | refine Ext.drew ?_ | refine Ext.drewN ?_ _))⟩

/-- the bytes ahead of the last four, and these -/
def ahead (s : ByteArray) : ByteArray := s.extract 0 (s.size - 4)
def last4 (s : ByteArray) : ByteArray := s.extract (s.size - 4) s.size
def goodB (s : ByteArray) : Bool := decide (4 ≤ s.size) && decide (last4 s = textN (tailN (moreN 0 (bl (ahead s)))))
def goodS (s : ByteArray) : ByteArray := if goodB s = true then ahead s else ⟨#[]⟩

set_option maxHeartbeats 400000 in
theorem clone_any (w : World) (s : ByteArray) (hs : s.size ≤ 281474976710656) :
    Calls Tryd.prog 35 #[.string s] w fun e w' => e = .returned (.string s) ∧ Ext w w' := by
  go_enter Tryd.func35, Tryd.ntmps35
  go_wp2_with (first | (go_at_call 41; refine (Tryd.stringslite_Clone s _ hs).mono ?_; rintro e w' ⟨rfl, hx⟩))
  go_ret
  exact ⟨rfl, hx⟩
end Go.Proofs.YtkfabocnhkmneaaDoor
