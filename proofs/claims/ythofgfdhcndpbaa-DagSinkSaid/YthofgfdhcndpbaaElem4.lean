/- The elements of slices here: numbers and arcs. -/
import Derived.Test.YthofgfdhcndpbaaBase
import Derived.Test.YthofgfdhcndpbaaMath6
namespace Go.Proofs.Ythofgfdhcndpbaa
open Go.RowKit

instance : Elem Int where
  e := 3
  t := 25
  k := 1
  bytes := 8
  z := .int .i64 0
  enc := fun x => [.int .i64 x]
  dflt := 0
  len := fun _ => rfl
  pos := by decide
  one := fun x u hu => by simp at hu; subst hu; rfl
  row := by kernel_rfl
  info := by kernel_rfl
  zsize := rfl
  few := by decide

theorem Sl.ints {w : World} {v : Value} {xs : List Int} (h : Sl w v xs) :
    (xs = [] ∧ ∃ ao c, v = .slice ao 0 c) ∨
    (∃ b off c, v = .slice (some ⟨b, off, none⟩) xs.length c ∧ xs.length ≤ c ∧ c ≤ 9223372036854775807 ∧ b < w.heap.size ∧ 0 < xs.length ∧ ∀ j, j < xs.length → w.cell? ⟨b, off + j, none⟩ = some (.int .i64 (xs.getD j 0))) := by
  rcases h.parts with h | ⟨b, off, c, h1, h2, h3, h4, h5, h6⟩
  · exact .inl h
  · refine .inr ⟨b, off, c, h1, h2, h3, h4, h5, fun j hj => ?_⟩
    have := h6 j (xs.getD j 0) (by simp [hj]) 0 _ rfl
    rwa [show off + (j * Elem.k Int + 0) = off + j from by show off + (j * 1 + 0) = _; omega] at this

instance : Elem Arc where
  e := 38
  t := 22
  k := 2
  bytes := 16
  z := .agg #[.int .i64 0, .int .i64 0]
  enc := fun x => [.int .i64 x.a, .int .i64 x.b]
  dflt := ⟨0, 0⟩
  len := fun _ => rfl
  pos := by decide
  one := fun x u hu => by simp at hu; rcases hu with rfl | rfl <;> rfl
  row := by kernel_rfl
  info := by kernel_rfl
  zsize := rfl
  few := by decide

theorem Sl.arcs {w : World} {v : Value} {xs : List Arc} (h : Sl w v xs) :
    (xs = [] ∧ ∃ ao c, v = .slice ao 0 c) ∨
    (∃ b off c, v = .slice (some ⟨b, off, none⟩) xs.length c ∧ xs.length ≤ c ∧ c ≤ 9223372036854775807 ∧ b < w.heap.size ∧ 0 < xs.length ∧
      ∀ j, j < xs.length → w.cell? ⟨b, off + j * 2, none⟩ = some (.int .i64 (xs.getD j ⟨0, 0⟩).a) ∧ w.cell? ⟨b, off + j * 2 + 1, none⟩ = some (.int .i64 (xs.getD j ⟨0, 0⟩).b)) := by
  rcases h.parts with h | ⟨b, off, c, h1, h2, h3, h4, h5, h6⟩
  · exact .inl h
  · refine .inr ⟨b, off, c, h1, h2, h3, h4, h5, fun j hj => ?_⟩
    have e : xs[j]? = some (xs.getD j ⟨0, 0⟩) := by simp [hj]
    exact ⟨h6 j _ e 0 _ rfl, by have := h6 j _ e 1 _ rfl; rwa [show off + (j * Elem.k Arc + 1) = off + j * 2 + 1 from by show off + (j * 2 + 1) = _; omega] at this⟩

theorem cells_i (xs : List Int) : cellsOf xs = xs.map (Value.int .i64) := by
  induction xs with
  | nil => rfl
  | cons x xs ih => show [Value.int .i64 x] ++ cellsOf xs = _; rw [ih]; rfl


def Arc.val (x : Arc) : Value := .agg #[.int .i64 x.a, .int .i64 x.b]
def ival (x : Int) : Value := .int .i64 x

end Go.Proofs.Ythofgfdhcndpbaa
