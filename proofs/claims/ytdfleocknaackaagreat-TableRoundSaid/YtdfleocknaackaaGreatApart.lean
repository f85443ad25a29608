/- Slices of the call's own that have no part in each other. -/
import Derived.Test.YtdfleocknaackaaGreatMB
namespace Go.Proofs.YtdfleocknaackaaGreat
open Go.RowKit

/-- What a slice's block has no part in. -/
def Ap (a b : Option Nat) : Prop := ∀ k, a = some k → b ≠ some k
theorem Ap.symm {a b : Option Nat} (h : Ap a b) : Ap b a := fun k e e' => h k e' e
theorem Ap.none (b : Option Nat) : Ap none b := fun k e => by cases e

section
variable {α β : Type} [Elem α] [Elem β] {w w' : World} {B : Nat} {xs : List α} {ys : List β} {v v' u : Value}
theorem Ow.keep (h : Ow w B u ys) (hk : ∀ b, u.ownBlock = some b → w'.heap[b]? = w.heap[b]?) : Ow w' B u ys := by
  refine ⟨h.1, ?_⟩
  rcases h.2 with hn | ⟨g, cap, cur, rfl, hg, hh, r⟩
  · exact .inl hn
  · exact .inr ⟨g, cap, cur, rfl, hg, by rw [hk g rfl]; exact hh, r⟩
theorem Ow.grownAp (h : Ow w B u ys) {row : Option Nat} (hg : w.grownBy w' row) (hu : Ap u.ownBlock row) : Ow w' B u ys :=
  h.keep fun b e => hg.block b (h.low b e).2 (fun e' => hu b e e'.symm)
/-- Behind an append onto v: the other slice; v itself. -/
theorem Apd.other {B' : Nat} (a : Apd B' v v' w w') (h : Ow w B u ys) (hu : Ap u.ownBlock v.ownBlock) : Ow w' B u ys := h.grownAp a.grown hu
theorem Apd.apart {B' : Nat} (a : Apd B' v v' w w') (h : Ow w B u ys) (hu : Ap u.ownBlock v.ownBlock) : Ap u.ownBlock v'.ownBlock := by
  rcases a.block with h' | h'
  · rw [h']; exact hu
  · intro k e e'; have := h' k e'; have := (h.low k e).2; omega

/-- Two slices of the call's own, apart from each other; all that was there is as it was. -/
structure Two (w wr : World) (v u : Value) (xs : List α) (ys : List β) : Prop where
  one : Ow wr w.heap.size v xs
  two : Ow wr w.heap.size u ys
  ap : Ap u.ownBlock v.ownBlock
  ext : Ext w wr
theorem Two.more {wr W : World} (h : Two w wr v u xs ys) (e : Ext wr W) : Two w W v u xs ys := ⟨h.one.ext e, h.two.ext e, h.ap, h.ext.trans e⟩
theorem Two.swap {wr : World} (h : Two w wr v u xs ys) : Two w wr u v ys xs := ⟨h.two, h.one, h.ap.symm, h.ext⟩
theorem Two.push {wr W : World} {zs : List α} (h : Two w wr v u xs ys) (ho : Ow W w.heap.size v' zs) (a : Apd w.heap.size v v' wr W) : Two w W v' u zs ys :=
  ⟨ho, a.other h.two h.ap, a.apart h.two h.ap, Below.trans h.ext a.below⟩
theorem Two.turn {wr W : World} {zs : List α} (h : Two w wr v u xs ys) (ho : Ow W w.heap.size v' zs) (hb : v'.ownBlock = v.ownBlock) (hg : wr.grownBy W v.ownBlock) : Two w W v' u zs ys :=
  ⟨ho, h.two.grownAp hg h.ap, by rw [hb]; exact h.ap, h.ext.grown hg h.ext.size fun k e => (h.one.low k e).1⟩
end

end Go.Proofs.YtdfleocknaackaaGreat
