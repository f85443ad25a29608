/- The document's tails: four bytes. -/
import Derived.Test.YtboilfhggiiahaaDoorC1
import Derived.Laws.BytesArg
import Derived.Laws.BytesString
import Derived.Laws.Concat
namespace Go.Proofs.YtboilfhggiiahaaDoor
open Go.RowKit

theorem add_plain (b off i : Nat) : (⟨b, off, none⟩ : Addr).add i = ⟨b, off + i, none⟩ := by unfold Addr.add; split <;> simp_all

/-- a new block's bytes, as a text -/
theorem text_of_new (xs : List Int) (n : Nat) (hn : xs.length = n) (C : Array Value) (hC : C = (xs.map (Value.int .u8)).toArray) (W : World) (c : Nat) :
    (convert 31 9 (.slice (some ⟨W.heap.size, 0, none⟩) n c)).run Tryd.prog (W.alloc (.cells C 5)) = .ok (.string (strOfNums xs)) (W.alloc (.cells C 5)) := by
  subst hC
  refine run_convert_bytes_arg (P := Tryd.prog) (W.alloc _) 31 5 (by kernel_rfl) (by kernel_rfl) W.heap.size 0 n c xs hn (fun i hi => ?_) 9 (by kernel_rfl)
  have h : i < xs.length := by omega
  have : (W.alloc (.cells (xs.map (Value.int .u8)).toArray 5)).cell? ⟨W.heap.size, 0 + i, none⟩ = (xs.map (Value.int .u8)).toArray[0 + i]? := World.cell?_alloc_new W _ _ _
  rw [this]
  simp [h]

theorem text_one (W : World) (n : Nat) (x : Int) (hn : W.heap.size = n) :
    (convert 31 9 (.slice (some ⟨n, 0, none⟩) 1 1)).run Tryd.prog (W.alloc (.cells #[.int .u8 x] 5)) = .ok (.string ⟨#[UInt8.ofNat x.toNat]⟩) (W.alloc (.cells #[.int .u8 x] 5)) :=
  hn ▸ text_of_new [x] 1 rfl _ rfl W 1

theorem four_joined (p q r s : UInt8) : ((⟨#[p]⟩ : ByteArray) ++ ((⟨#[q]⟩ : ByteArray) ++ ((⟨#[r]⟩ : ByteArray) ++ ((⟨#[s]⟩ : ByteArray) ++ (⟨#[]⟩ : ByteArray))))) = ⟨#[p, q, r, s]⟩ := by
  apply ByteArray.ext
  simp

/-- a sum's four bytes, the highest first -/
def tailN (c : Nat) : List Nat := [c / 16777216, c / 65536 % 256, c / 256 % 256, c % 256]
def textN (l : List Nat) : ByteArray := ⟨(l.map UInt8.ofNat).toArray⟩

theorem tail_text (c : Nat) (hc : c < 4294967296) : ((⟨#[UInt8.ofNat (c / 256 / 256 / 256 % 256)]⟩ : ByteArray) ++ ((⟨#[UInt8.ofNat (c / 256 / 256 % 256)]⟩ : ByteArray) ++ ((⟨#[UInt8.ofNat (c / 256 % 256)]⟩ : ByteArray) ++ ((⟨#[UInt8.ofNat (c % 256)]⟩ : ByteArray) ++ (⟨#[]⟩ : ByteArray))))) = textN (tailN c) := by
  rw [four_joined]
  have h1 : c / 256 / 256 / 256 % 256 = c / 16777216 := by omega
  have h2 : c / 256 / 256 % 256 = c / 65536 % 256 := by omega
  rw [h1, h2]
  rfl

set_option maxHeartbeats 400000 in
theorem refTail_any (w : World) (c : Nat) (hc : c < 4294967296) :
    Calls Tryd.prog 11 #[.int .u32 (c : Int)] w fun e w' => e = .returned (.string (textN (tailN c))) ∧ Ext w w' := by
  have HCV := text_one
  go_enter Tryd.func11, Tryd.ntmps11
  go_wp2
  refine wp_loop_rounds 5 ?_
  iterate 4 (rw [rounds_succ]; go_wp2)
  rw [rounds_succ]
  go_wp2
  go_ret
  exact ⟨congrArg (fun x => Ending.returned (.string x)) (tail_text c hc), (by repeat (first | exact Ext.refl _ | assumption | refine Ext.alloc ?_ _ | refine Ext.drew ?_ | refine Ext.drewN ?_ _))⟩
end Go.Proofs.YtboilfhggiiahaaDoor
