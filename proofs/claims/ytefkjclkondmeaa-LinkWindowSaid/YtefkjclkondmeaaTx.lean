/- Texts as a slice's elements. -/
import Derived.Test.YtefkjclkondmeaaBase
namespace Go.Proofs.Ytefkjclkondmeaa
open Go.RowKit

instance : Elem ByteArray where
  e := 9
  t := 28
  k := 1
  bytes := 16
  z := .string ⟨#[]⟩
  enc := fun x => [.string x]
  dflt := ⟨#[]⟩
  len := fun _ => rfl
  pos := by decide
  one := fun x u hu => by simp at hu; subst hu; rfl
  row := by kernel_rfl
  info := by kernel_rfl
  zsize := rfl
  few := by decide

theorem Sl.texts {w : World} {v : Value} {xs : List ByteArray} (h : Sl w v xs) :
    (xs = [] ∧ ∃ ao c, v = .slice ao 0 c) ∨
    (∃ b off c, v = .slice (some ⟨b, off, none⟩) xs.length c ∧ xs.length ≤ c ∧ c ≤ 9223372036854775807 ∧ b < w.heap.size ∧ 0 < xs.length ∧ ∀ j, j < xs.length → w.cell? ⟨b, off + j, none⟩ = some (.string (xs.getD j ⟨#[]⟩))) := by
  rcases h.parts with h | ⟨b, off, c, h1, h2, h3, h4, h5, h6⟩
  · exact .inl h
  · refine .inr ⟨b, off, c, h1, h2, h3, h4, h5, fun j hj => ?_⟩
    have := h6 j (xs.getD j ⟨#[]⟩) (by simp [hj]) 0 _ rfl
    rwa [show off + (j * Elem.k ByteArray + 0) = off + j from by show off + (j * 1 + 0) = _; omega] at this

end Go.Proofs.Ytefkjclkondmeaa
