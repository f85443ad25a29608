/- What is told of edges; whether a graph may be. -/
import Derived.Test.YtgcnjkabpcbkgaaG1
import Derived.Shelf.Abstract
namespace Go.Proofs.Ytgcnjkabpcbkgaa
open Go.RowKit

/-- What a function value tells of an element. -/
structure Tells {α : Type} (val : α → Value) (w : World) (fv : Value) (p : α → Bool) : Prop where
  any : ∃ g lb, fv = .func (.func g) #[] lb ∧ (∀ args w, (callFunc g args).run Try.prog w = .ok (.enter g args) w) ∧ ∀ W x, Ext w W → Calls Try.prog g (#[val x] ++ lb) W fun e w' => e = .returned (.bool (p x)) ∧ Ext W w'
theorem Tells.ext {α : Type} {val : α → Value} {w w' : World} {fv : Value} {p : α → Bool} (h : Tells val w fv p) (e : Ext w w') : Tells val w' fv p := by
  obtain ⟨g, lb, rfl, h2, h3⟩ := h.any
  exact ⟨g, lb, rfl, h2, fun W x hW => h3 W x (e.trans hW)⟩
theorem Tells.sh {α : Type} {val : α → Value} {w : World} {fv : Value} {p : α → Bool} (h : Tells val w fv p) : ∃ g lb, fv = .func (.func g) #[] lb := by
  obtain ⟨g, lb, rfl, _⟩ := h.any
  exact ⟨g, lb, rfl⟩
theorem any_next {α : Type} {xs : List α} {k : Nat} (p : α → Bool) (h : k < xs.length) (d : α) : (xs.take (k + 1)).any p = ((xs.take k).any p || p (xs.getD k d)) := by
  rw [List.take_succ_eq_append_getElem h, List.any_append]
  simp [h]
theorem any_of_take {α : Type} {xs : List α} {k : Nat} {p : α → Bool} (h : (xs.take k).any p = true) : xs.any p = true := by
  rw [List.any_eq_true] at *
  obtain ⟨x, h1, h2⟩ := h
  exact ⟨x, List.mem_of_mem_take h1, h2⟩
theorem filter_next {α : Type} {xs : List α} {k : Nat} (p : α → Bool) (h : k < xs.length) (d : α) : (xs.take (k + 1)).filter p = (xs.take k).filter p ++ (if p (xs.getD k d) = true then [xs.getD k d] else []) := by
  rw [List.take_succ_eq_append_getElem h, List.filter_append]
  simp [h, List.filter_cons]
theorem take_next {α : Type} {xs : List α} {k : Nat} (h : k < xs.length) (d : α) : xs.take (k + 1) = xs.take k ++ [xs.getD k d] := by
  rw [List.take_succ_eq_append_getElem h]
  simp [h]
theorem take_eq_next {α : Type} {xs ys : List α} {k : Nat} (h1 : k < xs.length) (h2 : k < ys.length) (d : α) : xs.take (k + 1) = ys.take (k + 1) ↔ xs.take k = ys.take k ∧ xs.getD k d = ys.getD k d := by
  rw [take_next h1 d, take_next h2 d]
  constructor
  · intro h
    have := List.append_inj h (by simp; omega)
    exact ⟨this.1, by simpa using this.2⟩
  · rintro ⟨ha, hb⟩
    rw [ha, hb]
theorem cell_at {w : World} {cs : Array Value} {t : TypeId} {i : Nat} {u : Value} (W : World) (h : Ext (w.alloc (.cells cs t (0, 0))) W) (hu : cs[i]? = some u) : W.cell? ⟨w.heap.size, i, none⟩ = some u :=
  blk_cell (box1 (h.mono (by rw [size_alloc]; omega))) i hu

end Go.Proofs.Ytgcnjkabpcbkgaa
