/- The document's tails: four bytes. -/
import Derived.Test.YtkfabocnhkmneaaDoorC1
namespace Go.Proofs.YtkfabocnhkmneaaDoor
open Go.RowKit

theorem four_joined (p q r s : UInt8) : ((⟨#[p]⟩ : ByteArray) ++ ((⟨#[q]⟩ : ByteArray) ++ ((⟨#[r]⟩ : ByteArray) ++ ((⟨#[s]⟩ : ByteArray) ++ (⟨#[]⟩ : ByteArray))))) = ⟨#[p, q, r, s]⟩ := by
  apply ByteArray.ext
  simp

/-- a sum's four bytes, the highest first -/
def tailN (c : Nat) : List Nat := [c / 16777216, c / 65536 % 256, c / 256 % 256, c % 256]

theorem tail_text (c : Nat) (hc : c < 4294967296) : ((⟨#[UInt8.ofNat (c / 256 / 256 / 256 % 256)]⟩ : ByteArray) ++ ((⟨#[UInt8.ofNat (c / 256 / 256 % 256)]⟩ : ByteArray) ++ ((⟨#[UInt8.ofNat (c / 256 % 256)]⟩ : ByteArray) ++ ((⟨#[UInt8.ofNat (c % 256)]⟩ : ByteArray) ++ (⟨#[]⟩ : ByteArray))))) = textN (tailN c) := by
  rw [four_joined]
  have h1 : c / 256 / 256 / 256 % 256 = c / 16777216 := by omega
  have h2 : c / 256 / 256 % 256 = c / 65536 % 256 := by omega
  rw [h1, h2]
  rfl

set_option maxHeartbeats 400000 in
theorem refTail_any (w : World) (c : Nat) (hc : c < 4294967296) :
    Calls Tryd.prog 25 #[.int .u32 (c : Int)] w fun e w' => e = .returned (.string (textN (tailN c))) ∧ Ext w w' := by
  have HCV := text_one
  go_enter Tryd.func25, Tryd.ntmps25
  go_wp2
  refine wp_loop_rounds 5 ?_
  iterate 4 (rw [rounds_succ]; go_wp2)
  rw [rounds_succ]
  go_wp2
  go_ret
  exact ⟨congrArg (fun x => Ending.returned (.string x)) (tail_text c hc), (by repeat (first | exact Ext.refl _ | assumption | refine Ext.alloc ?_ _ | refine Ext.drew ?_ | refine Ext.drewN ?_ _))⟩
end Go.Proofs.YtkfabocnhkmneaaDoor
