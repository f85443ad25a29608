/- Footprints: which blocks a thing in memory owns, and what changes these alone. -/
import Derived.Test.YtgcnjkabpcbkgaaBase
namespace Go.Proofs.Ytgcnjkabpcbkgaa
open Go.RowKit

/-- Only blocks of F changed, and new ones came. -/
structure Off (F : Nat → Prop) (w w' : World) : Prop where
  os : w'.os = w.os
  tape : w'.tape = w.tape
  output : w'.output = w.output
  size : w.heap.size ≤ w'.heap.size
  block : ∀ k, k < w.heap.size → ¬ F k → w'.heap[k]? = w.heap[k]?

theorem Off.refl (F : Nat → Prop) (w : World) : Off F w w := ⟨rfl, rfl, rfl, Nat.le_refl _, fun _ _ _ => rfl⟩
theorem Off.of_ext {F : Nat → Prop} {w w' : World} (e : Ext w w') : Off F w w' := ⟨e.os, e.tape, e.output, e.size, fun k hk _ => e.block k hk⟩
/-- what is the thing's then, was so, or is new -/
def Grows (F F' : Nat → Prop) (w : World) : Prop := ∀ k, F' k → F k ∨ w.heap.size ≤ k
theorem Grows.refl (F : Nat → Prop) (w : World) : Grows F F w := fun _ h => .inl h
theorem Grows.trans {F G H : Nat → Prop} {a b : World} (h : Grows F G a) (k : Grows G H b) (hs : a.heap.size ≤ b.heap.size) : Grows F H a := fun n hn => by
  rcases k n hn with h1 | h1
  · exact h n h1
  · exact .inr (Nat.le_trans hs h1)
theorem Grows.back {F G : Nat → Prop} {a b : World} (h : Grows F G b) (hs : a.heap.size ≤ b.heap.size) : Grows F G a := fun n hn => (h n hn).imp id (Nat.le_trans hs)
theorem Off.trans {F G : Nat → Prop} {a b c : World} (h : Off F a b) (k : Off G b c) (hg : Grows F G a) : Off F a c :=
  ⟨k.os.trans h.os, k.tape.trans h.tape, k.output.trans h.output, Nat.le_trans h.size k.size, fun n hn hf =>
    (k.block n (Nat.lt_of_lt_of_le hn h.size) fun hG => by rcases hg n hG with h1 | h1; exact hf h1; omega).trans (h.block n hn hf)⟩
theorem Off.ext {F : Nat → Prop} {a b c : World} (h : Off F a b) (k : Ext b c) : Off F a c :=
  ⟨k.os.trans h.os, k.tape.trans h.tape, k.output.trans h.output, Nat.le_trans h.size k.size, fun n hn hf => (k.block n (Nat.lt_of_lt_of_le hn h.size)).trans (h.block n hn hf)⟩
theorem Off.below {F : Nat → Prop} {w w' : World} {B : Nat} (h : Off F w w') (hF : ∀ k, F k → B ≤ k) (hB : B ≤ w.heap.size) : Below B w w' :=
  ⟨h.os, h.tape, h.output, h.size, fun k hk => h.block k (Nat.lt_of_lt_of_le hk hB) fun hf => by have := hF k hf; omega⟩
theorem Off.mono {F G : Nat → Prop} {w w' : World} (h : Off F w w') (hg : ∀ k, F k → G k) : Off G w w' := ⟨h.os, h.tape, h.output, h.size, fun k hk hn => h.block k hk fun hf => hn (hg k hf)⟩

theorem Off.of_below {B : Nat} {w w' : World} (h : Below B w w') : Off (fun k => B ≤ k) w w' := ⟨h.os, h.tape, h.output, h.size, fun k _ hn => h.block k (by omega)⟩
/-- a slice that lies apart from F -/
def Av {α : Type} (F : Nat → Prop) (v : Value) (xs : List α) : Prop := xs = [] ∨ ∀ b, v.ownBlock = some b → ¬ F b
/-- it reads as xs, apart from F -/
def Sa {α : Type} [Elem α] (F : Nat → Prop) (w : World) (v : Value) (xs : List α) : Prop := Sl w v xs ∧ Av F v xs

section
variable {α : Type} [Elem α] {F G : Nat → Prop} {w w' : World} {v : Value} {xs : List α}
theorem Sa.sl (h : Sa F w v xs) : Sl w v xs := h.1
theorem Sa.ext (h : Sa F w v xs) (e : Ext w w') : Sa F w' v xs := ⟨h.1.ext e, h.2⟩
theorem Sl.block_lt (h : Sl w v xs) (hx : xs ≠ []) : ∀ b, v.ownBlock = some b → b < w.heap.size := by
  rcases h.low with h1 | h1
  · exact absurd h1 hx
  · exact h1
theorem Sl.off (h : Sl w v xs) (hv : Av F v xs) (o : Off F w w') : Sl w' v xs := by
  obtain ⟨h1, ao, c, rfl, h2, h3, h4, h5 | ⟨b, off, rfl, hb, hc⟩⟩ := h
  · exact ⟨h1, ao, c, rfl, h2, h3, h4, .inl h5⟩
  · refine ⟨h1, _, c, rfl, h2, h3, h4, .inr ⟨b, off, rfl, Nat.lt_of_lt_of_le hb o.size, fun j u hj => ?_⟩⟩
    rcases hv with hv | hv
    · subst hv
      simp [cellsOf] at hj
    · exact (World.cell?_of_block (w := w) (a := ⟨b, off + j, none⟩) (o.block b hb (hv b rfl))).trans (hc j u hj)
theorem Av.grow (h : Av F v xs) (hs : Sl w v xs) (g : Grows F G w) : Av G v xs := by
  by_cases hx : xs = []
  · exact .inl hx
  · refine .inr fun b hb hG => ?_
    have hl := hs.block_lt hx b hb
    rcases g b hG with h1 | h1
    · exact (h.resolve_left hx) b hb h1
    · omega
theorem Sa.off (h : Sa F w v xs) (o : Off F w w') (g : Grows F G w) : Sa G w' v xs := ⟨h.1.off h.2 o, h.2.grow h.1 g⟩
theorem Sa.low (h : Sl w v xs) (hF : ∀ k, F k → w.heap.size ≤ k) : Sa F w v xs := by
  by_cases hx : xs = []
  · exact ⟨h, .inl hx⟩
  · exact ⟨h, .inr fun b hb hf => by have := h.block_lt hx b hb; have := hF b hf; omega⟩
/-- a new slice lies apart from what was there -/
theorem Sa.new {B : Nat} (h : Ow w B v xs) (hF : ∀ k, F k → k < B) : Sa F w v xs := ⟨h.sl, .inr fun b hb hf => by have := (h.low b hb).1; have := hF b hf; omega⟩
theorem Sa.mono (h : Sa F w v xs) (hF : ∀ k, G k → F k) : Sa G w v xs := ⟨h.1, h.2.imp id fun h2 b hb hg => h2 b hb (hF b hg)⟩
end
theorem Sa.wide {α : Type} [Elem α] {F G : Nat → Prop} {w : World} {v : Value} {xs : List α} (h : Sa F w v xs) (hG : ∀ k, k < w.heap.size → G k → F k) : Sa G w v xs := by
  refine ⟨h.1, ?_⟩
  by_cases hx : xs = []
  · exact .inl hx
  · exact .inr fun b hb hg => (h.2.resolve_left hx) b hb (hG b (h.1.block_lt hx b hb) hg)
theorem Sa.nil {α : Type} [Elem α] (F : Nat → Prop) (w : World) : Sa F w (.slice none 0 0) ([] : List α) := ⟨Sl.empty w none 0 (by decide) (fun _ => rfl), .inl rfl⟩

theorem off_set (W : World) (d : Addr) (u : Value) : Off (fun k => k = d.block) W (W.setCell d u) := ⟨rfl, rfl, rfl, by rw [set_size]; exact Nat.le_refl _, fun _ _ hn => set_other _ _ _ _ hn⟩
/-- a block apart from F stays -/
theorem Off.blk {F : Nat → Prop} {w w' : World} {g : Nat} {o : Obj} (h : Off F w w') (hb : w.heap[g]? = some o) (hf : ¬ F g) : w'.heap[g]? = some o := (h.block g (blk_lt hb) hf).trans hb
end Go.Proofs.Ytgcnjkabpcbkgaa
