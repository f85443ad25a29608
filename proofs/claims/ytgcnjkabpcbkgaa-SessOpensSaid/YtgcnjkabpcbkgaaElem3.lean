/- The elements of slices here: numbers and edges; what is told of edges (the mathematics of layer 3). -/
import Derived.Test.YtgcnjkabpcbkgaaBase
namespace Go.Proofs.Ytgcnjkabpcbkgaa
open Go.RowKit

instance : Elem Int where
  e := 3
  t := 25
  k := 1
  bytes := 8
  z := .int .i64 0
  enc := fun x => [.int .i64 x]
  dflt := 0
  len := fun _ => rfl
  pos := by decide
  one := fun x u hu => by simp at hu; subst hu; rfl
  row := by kernel_rfl
  info := by kernel_rfl
  zsize := rfl
  few := by decide

theorem Sl.ints {w : World} {v : Value} {xs : List Int} (h : Sl w v xs) :
    (xs = [] ∧ ∃ ao c, v = .slice ao 0 c) ∨
    (∃ b off c, v = .slice (some ⟨b, off, none⟩) xs.length c ∧ xs.length ≤ c ∧ c ≤ 9223372036854775807 ∧ b < w.heap.size ∧ 0 < xs.length ∧ ∀ j, j < xs.length → w.cell? ⟨b, off + j, none⟩ = some (.int .i64 (xs.getD j 0))) := by
  rcases h.parts with h | ⟨b, off, c, h1, h2, h3, h4, h5, h6⟩
  · exact .inl h
  · refine .inr ⟨b, off, c, h1, h2, h3, h4, h5, fun j hj => ?_⟩
    have := h6 j (xs.getD j 0) (by simp [hj]) 0 _ rfl
    rwa [show off + (j * Elem.k Int + 0) = off + j from by show off + (j * 1 + 0) = _; omega] at this

structure Edge where
  a : Int
  b : Int
deriving DecidableEq

theorem cells_i (xs : List Int) : cellsOf xs = xs.map (Value.int .i64) := by
  induction xs with
  | nil => rfl
  | cons x xs ih => show [Value.int .i64 x] ++ cellsOf xs = _; rw [ih]; rfl

def cmpI (a b : Int) : Int := if a < b then -1 else if b < a then 1 else 0
def badEnds (N a b : Int) : Bool := decide (a = b) || (decide (min a b < 0) || decide (N ≤ max a b))
end Go.Proofs.Ytgcnjkabpcbkgaa
