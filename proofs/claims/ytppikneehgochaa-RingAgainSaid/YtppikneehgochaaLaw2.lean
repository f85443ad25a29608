/- The ring in a law: what holds of it at a loop's head; slices of the law's own beside it. -/
import Derived.Test.YtppikneehgochaaAwake2
import Derived.Deep.RegionWith
import Derived.Deep.RegionLaw
import Derived.Deep.RegionHeld3
import Derived.Deep.DeepCutAuto
import Derived.Deep.CutBlock
import Derived.IntWalk
namespace Go.Proofs.Ytppikneehgochaa
open Go.RowKit

section
variable {α : Type} [Elem α] {T : TypeId} {w wr W : World} {p : Nat} {q q' : Option Nat} {m : Nat} {xs ys : List α}
def RI (T : TypeId) (w wr : World) (p : Nat) (q : Option Nat) (m : Nat) (xs : List α) : Prop := RAt T wr w.heap.size p q m xs ∧ Ext w wr
theorem RI.more (h : RI T w wr p q m xs) (e : Ext wr W) : RI T w W p q m xs := ⟨h.1.ext e, h.2.trans e⟩
theorem RI.step (h : RI T w wr p q m xs) (r : RAt T W w.heap.size p q' m ys) (s : RStep p q q' wr W) : RI T w W p q' m ys := ⟨r, ext_step h.2 h.1 s⟩
theorem RI.old {β : Type} [Elem β] {l : List β} {v : Value} (h : RI T w wr p q m xs) (hl : Sl w v l) : Kp p q wr v l := Kp.old (hl.ext h.2) hl.low h.1.low (fun b e => (h.1.qlow b e).1)
theorem RI.new {β : Type} [Elem β] {l : List β} {v : Value} {w' : World} (h : RI T w wr p q m xs) (ho : Ow w' wr.heap.size v l) : Kp p q w' v l :=
  Kp.fresh ho.sl (fun b hb => (ho.low b hb).1) h.1.lt (fun b hb => (h.1.qlow b hb).2)
end

theorem getD_append_left {α : Type} {d : α} (a b : List α) {k : Nat} (h : k < a.length) : (a ++ b).getD k d = a.getD k d := by
  simp [List.getD_eq_getElem?_getD, List.getElem?_append_left h]
theorem take_push {α : Type} {d : α} {l : List α} {k : Nat} (hk : k < l.length) : l.take (k + 1) = l.take k ++ [l.getD k d] := by
  rw [List.take_succ_eq_append_getElem hk]; simp [hk]

/-- What a slice's block has no part in. -/
def Ap (a b : Option Nat) : Prop := ∀ k, a = some k → b ≠ some k
theorem Ap.symm {a b : Option Nat} (h : Ap a b) : Ap b a := fun k e e' => h k e' e

section
variable {α β : Type} [Elem α] [Elem β] {T : TypeId} {w w' : World} {B p : Nat} {q q' : Option Nat} {m : Nat} {xs : List α} {ys : List β} {v v' u : Value}
theorem Ow.keep (h : Ow w B u ys) (hk : ∀ b, u.ownBlock = some b → w'.heap[b]? = w.heap[b]?) : Ow w' B u ys := by
  refine ⟨h.1, ?_⟩
  rcases h.2 with hn | ⟨g, cap, cur, rfl, hg, hh, r⟩
  · exact .inl hn
  · exact .inr ⟨g, cap, cur, rfl, hg, by rw [hk g rfl]; exact hh, r⟩
/-- A slice of the law's own that the ring has no part in. -/
structure Oa (p : Nat) (q : Option Nat) (w : World) (B : Nat) (v : Value) (xs : List α) : Prop where
  own : Ow w B v xs
  notp : v.ownBlock ≠ some p
  notq : Ap v.ownBlock q
theorem Oa.step (h : Oa p q w B v xs) (s : RStep p q q' w w') : Oa p q' w' B v xs := by
  refine ⟨h.own.keep fun b e => s.block b (h.own.low b e).2 (fun e' => h.notp (by rw [e, e'])) (h.notq b e), h.notp, fun k e => ?_⟩
  rcases s.new with h' | h'
  · rw [h']; exact h.notq k e
  · intro e'; have := h' k e'; have := (h.own.low k e).2; omega
theorem Oa.ext (h : Oa p q w B v xs) (e : Ext w w') : Oa p q w' B v xs := ⟨h.own.ext e, h.notp, h.notq⟩
/-- Behind an append onto v: the ring; the other slice; v itself. -/
theorem Apd.ring {B' : Nat} (a : Apd B' v v' w w') (h : RAt T w B p q m xs) (hp : v.ownBlock ≠ some p) (hq : Ap v.ownBlock q) : RAt T w' B p q m xs := by
  obtain ⟨z, hb, ho, hvq, hne⟩ := h.blk
  refine ⟨h.low, h.le, h.most, z, by rw [a.grown.block p (blk_lt hb) (fun e => hp e.symm)]; exact hb, ho.keep fun b e => a.grown.block b (ho.low b e).2 (fun e' => hq b e'.symm (by rw [← hvq, e])), hvq, hne⟩
theorem Apd.other {B' : Nat} (a : Apd B' v v' w w') (h : Ow w B u ys) (hu : Ap u.ownBlock v.ownBlock) : Ow w' B u ys :=
  h.keep fun b e => a.grown.block b (h.low b e).2 (fun e' => hu b e e'.symm)
theorem Apd.apart {B' : Nat} (a : Apd B' v v' w w') (h : Ow w B u ys) (hu : Ap u.ownBlock v.ownBlock) : Ap u.ownBlock v'.ownBlock := by
  rcases a.block with h' | h'
  · rw [h']; exact hu
  · intro k e e'; have := h' k e'; have := (h.low k e).2; omega
theorem Apd.notp {B' : Nat} (a : Apd B' v v' w w') (hp : v.ownBlock ≠ some p) (hpw : p < w.heap.size) : v'.ownBlock ≠ some p := by
  rcases a.block with h' | h'
  · rw [h']; exact hp
  · intro e; have := h' p e; omega
theorem Apd.notq {B' : Nat} (a : Apd B' v v' w w') (hq : Ap v.ownBlock q) (hqw : ∀ b, q = some b → b < w.heap.size) : Ap v'.ownBlock q := by
  rcases a.block with h' | h'
  · rw [h']; exact hq
  · intro k e e'; have := h' k e; have := hqw k e'; omega
end

end Go.Proofs.Ytppikneehgochaa
