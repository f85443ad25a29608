/- Bytes: texts as new blocks. -/
import Derived.Test.YtjnnfnmapigagaaBy0
import Derived.Laws.BytesArg
import Derived.Laws.BytesString
namespace Go.Proofs.Ytjnnfnmapigagaa
open Go.RowKit

/-- a new block's bytes, as a text -/
theorem text_of_new (xs : List Int) (n : Nat) (hn : xs.length = n) (C : Array Value) (hC : C = (xs.map (Value.int .u8)).toArray) (W : World) (c : Nat) :
    (convert 57 9 (.slice (some ⟨W.heap.size, 0, none⟩) n c)).run Try.prog (W.alloc (.cells C 5)) = .ok (.string (strOfNums xs)) (W.alloc (.cells C 5)) := by
  subst hC
  refine run_convert_bytes_arg (P := Try.prog) (W.alloc _) 57 5 (by kernel_rfl) (by kernel_rfl) W.heap.size 0 n c xs hn (fun i hi => ?_) 9 (by kernel_rfl)
  have h : i < xs.length := by omega
  have : (W.alloc (.cells (xs.map (Value.int .u8)).toArray 5)).cell? ⟨W.heap.size, 0 + i, none⟩ = (xs.map (Value.int .u8)).toArray[0 + i]? := World.cell?_alloc_new W _ _ _
  rw [this]
  simp [h]

theorem text_one (W : World) (n : Nat) (x : Int) (hn : W.heap.size = n) :
    (convert 57 9 (.slice (some ⟨n, 0, none⟩) 1 1)).run Try.prog (W.alloc (.cells #[.int .u8 x] 5)) = .ok (.string ⟨#[UInt8.ofNat x.toNat]⟩) (W.alloc (.cells #[.int .u8 x] 5)) :=
  hn ▸ text_of_new [x] 1 rfl _ rfl W 1

/-- a new block's bytes as a text, in every later world -/
theorem text_later (xs : List Int) (W W' : World) (x : Ext (W.alloc (.cells (xs.map (Value.int .u8)).toArray 5)) W') :
    (convert 57 9 (.slice (some ⟨W.heap.size, 0, none⟩) xs.length xs.length)).run Try.prog W' = .ok (.string (strOfNums xs)) W' := by
  refine run_convert_bytes_arg (P := Try.prog) W' 57 5 (by kernel_rfl) (by kernel_rfl) W.heap.size 0 xs.length xs.length xs rfl (fun i hi => ?_) 9 (by kernel_rfl)
  rw [Nat.zero_add]
  exact cell_at W' x (by simp [hi])

end Go.Proofs.Ytjnnfnmapigagaa
