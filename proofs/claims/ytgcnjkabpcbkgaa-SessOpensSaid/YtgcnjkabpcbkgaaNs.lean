/- Rows of things that hold rows themselves: what they read as, apart from some blocks; a call's own row of them. -/
import Derived.Test.YtgcnjkabpcbkgaaOff
namespace Go.Proofs.Ytgcnjkabpcbkgaa
open Go.RowKit

/-- an element x (cells) reads as d in a world, apart from F -/
class Nest (α : Type) [Elem α] (δ : outParam Type) where
  rd : (Nat → Prop) → World → α → δ → Prop
  off : ∀ {F G : Nat → Prop} {w w' : World} {x : α} {d : δ}, rd F w x d → Off F w w' → Grows F G w → rd G w' x d

/-- the slice v reads as L, and so do all that its elements hold, apart from F -/
def Ns (α : Type) {δ : Type} [Elem α] [Nest α δ] (F : Nat → Prop) (w : World) (v : Value) (L : List δ) : Prop :=
  ∃ xs : List α, Sa F w v xs ∧ xs.length = L.length ∧ ∀ (j : Nat) (x : α) (d : δ), xs[j]? = some x → L[j]? = some d → Nest.rd F w x d

section
variable {α δ : Type} [Elem α] [Nest α δ] {F G : Nat → Prop} {w w' : World} {v : Value} {L : List δ}
theorem Nest.ext {x : α} {d : δ} (h : Nest.rd F w x d) (e : Ext w w') : Nest.rd F w' x d := Nest.off h (Off.of_ext e) (Grows.refl _ _)
theorem Nest.grow {x : α} {d : δ} (h : Nest.rd F w x d) (g : Grows F G w) : Nest.rd G w x d := Nest.off h (Off.refl _ _) g
theorem Ns.off (h : Ns α F w v L) (o : Off F w w') (g : Grows F G w) : Ns α G w' v L := by
  obtain ⟨xs, h1, h2, h3⟩ := h
  exact ⟨xs, h1.off o g, h2, fun j x d hx hd => Nest.off (h3 j x d hx hd) o g⟩
theorem Ns.ext (h : Ns α F w v L) (e : Ext w w') : Ns α F w' v L := h.off (Off.of_ext e) (Grows.refl _ _)
theorem Ns.grow (h : Ns α F w v L) (g : Grows F G w) : Ns α G w v L := h.off (Off.refl _ _) g
theorem Ns.len (h : Ns α F w v L) : ∃ ao c, v = .slice ao L.length c := by
  obtain ⟨xs, h1, h2, _⟩ := h
  obtain ⟨ao, c, hv⟩ := h1.sl.len
  exact ⟨ao, c, by rw [hv, h2]⟩
theorem Ns.length_le (h : Ns α F w v L) : L.length ≤ 9223372036854775807 := by
  obtain ⟨xs, h1, h2, _⟩ := h
  rw [← h2]
  exact h1.sl.length_le
theorem Ns.nil (F : Nat → Prop) (w : World) : Ns α F w (.slice none 0 0) ([] : List δ) := ⟨[], Sa.nil F w, rfl, fun j x d hx => by simp at hx⟩
/-- its j-th element: where it lies, and what it reads as -/
theorem Ns.at {ao : Option Addr} {n c : Nat} (h : Ns α F w (.slice ao n c) L) {j : Nat} (hj : j < L.length) :
    ∃ b off, ∃ x : α, ∃ d, L[j]? = some d ∧ ao = some ⟨b, off, none⟩ ∧ n = L.length ∧ n ≤ c ∧ c ≤ 9223372036854775807 ∧ b < w.heap.size ∧ (∀ i u, (Elem.enc x)[i]? = some u → w.cell? ⟨b, off + (j * Elem.k α + i), none⟩ = some u) ∧ Nest.rd F w x d := by
  obtain ⟨xs, h1, h2, h3⟩ := h
  have hjx : j < xs.length := by omega
  rcases h1.sl.parts with ⟨rfl, _⟩ | ⟨b, off, c', hv, g1, g2, g3, _, g4⟩
  · simp at hjx
  · simp only [Value.slice.injEq] at hv
    obtain ⟨rfl, rfl, rfl⟩ := hv
    refine ⟨b, off, xs[j], L[j], List.getElem?_eq_getElem hj, rfl, h2, g1, g2, g3, fun i u hu => g4 j _ (List.getElem?_eq_getElem hjx) i u hu, ?_⟩
    exact h3 j _ _ (List.getElem?_eq_getElem hjx) (List.getElem?_eq_getElem hj)

/-- the blocks of F, and the one that v lies in -/
def Own1 (F : Nat → Prop) (v : Value) : Nat → Prop := fun k => F k ∨ v.ownBlock = some k
/-- a call's own row (its block's number is at least B) that reads as L; what its elements hold lies apart from F, and from it -/
structure Nw (α : Type) {δ : Type} [Elem α] [Nest α δ] (F : Nat → Prop) (w : World) (B : Nat) (v : Value) (L : List δ) : Prop where
  any : ∃ xs : List α, Ow w B v xs ∧ xs.length = L.length ∧ ∀ (j : Nat) (x : α) (d : δ), xs[j]? = some x → L[j]? = some d → Nest.rd (Own1 F v) w x d
theorem Nw.nil (F : Nat → Prop) (w : World) (B : Nat) : Nw α F w B (.slice none 0 0) ([] : List δ) := ⟨[], Ow.nil _ _, rfl, fun j x d hx => by simp at hx⟩
theorem Nw.lit (F : Nat → Prop) (w : World) (B n : Nat) (hn : n = w.heap.size) (hB : B ≤ w.heap.size) : Nw α F (w.alloc (.cells (cellsOf ([] : List α)).toArray (Elem.e α))) B (.slice (some ⟨n, 0, none⟩) 0 0) ([] : List δ) :=
  ⟨[], Ow.litAt w B n hn hB [] (by simp), rfl, fun j x d hx => by simp at hx⟩
theorem Nw.ext {B : Nat} (h : Nw α F w B v L) (e : Ext w w') : Nw α F w' B v L := by
  obtain ⟨xs, h1, h2, h3⟩ := h.any
  exact ⟨xs, h1.ext e, h2, fun j x d hx hd => Nest.ext (h3 j x d hx hd) e⟩
theorem Nw.sh {B : Nat} (h : Nw α F w B v L) : ∃ ao n c, v = .slice ao n c := by
  obtain ⟨xs, h1, _⟩ := h.any
  exact h1.sh
theorem Nw.mono {B B' : Nat} (h : Nw α F w B v L) (hB : B' ≤ B) : Nw α F w B' v L := by
  obtain ⟨xs, h1, h2, h3⟩ := h.any
  exact ⟨xs, h1.mono hB, h2, h3⟩
/-- a store to a block of F that isn't the row's -/
theorem Nw.set {B : Nat} (h : Nw α F w B v L) {d : Addr} (hF : F d.block) (hd : d.block < B) (u : Value) : Nw α F (w.setCell d u) B v L := by
  obtain ⟨xs, h1, h2, h3⟩ := h.any
  exact ⟨xs, h1.set hd u, h2, fun j x e hx he => Nest.off (h3 j x e hx he) ((off_set w d u).mono fun k hk => .inl (by rw [hk]; exact hF)) (Grows.refl _ _)⟩
theorem Nw.len {B : Nat} (h : Nw α F w B v L) : ∃ ao c, v = .slice ao L.length c := by
  obtain ⟨xs, h1, h2, _⟩ := h.any
  obtain ⟨ao, c, hv⟩ := h1.sl.len
  exact ⟨ao, c, by rw [hv, h2]⟩
theorem off_grown {row : Option Nat} (h : w.grownBy w' row) : Off (fun k => row = some k) w w' :=
  ⟨h.os, h.tape, h.output, h.size, fun k hk hn => h.block k hk (fun e => hn e.symm)⟩
/-- what it reads as for others, in a world where its blocks are new -/
theorem Nw.ns {B : Nat} (h : Nw α F w B v L) (hG : ∀ k, G k → F k) (hB : ∀ k, G k → k < B) : Ns α G w v L := by
  obtain ⟨xs, h1, h2, h3⟩ := h.any
  exact ⟨xs, Sa.new h1 hB, h2, fun j x d hx hd => Nest.grow (h3 j x d hx hd) fun k hk => .inl (.inl (hG k hk))⟩
/-- one more: the append of an element that lies apart -/
theorem Nw.step {B : Nat} {v2 : Value} {W : World} {xs : List α} {x : α} {d : δ} (h2 : xs.length = L.length) (h3 : ∀ (j : Nat) (x : α) (d : δ), xs[j]? = some x → L[j]? = some d → Nest.rd (Own1 F v) w x d)
    (hx : Nest.rd (Own1 F v) w x d) (ho : Ow W B v2 (xs ++ [x])) (ha : Apd B v v2 w W) : Nw α F W B v2 (L ++ [d]) := by
  have o : Off (Own1 F v) w W := (off_grown ha.grown).mono fun k hk => .inr hk
  have g : Grows (Own1 F v) (Own1 F v2) w := fun k hk => by
    rcases hk with hk | hk
    · exact .inl (.inl hk)
    · rcases ha.block with hb | hb
      · exact .inl (.inr (by rw [← hb]; exact hk))
      · exact .inr (hb k hk)
  refine ⟨xs ++ [x], ho, by simp [h2], fun j y e hy he => ?_⟩
  rcases Nat.lt_or_ge j xs.length with hj | hj
  · rw [List.getElem?_append_left hj] at hy
    rw [List.getElem?_append_left (by omega)] at he
    exact Nest.off (h3 j y e hy he) o g
  · rw [List.getElem?_append_right hj] at hy
    have hj2 : j = xs.length := by
      have := (List.getElem?_eq_some_iff.1 hy).1
      simp at this
      omega
    subst hj2
    rw [List.getElem?_append_right (by omega), h2, Nat.sub_self] at he
    rw [Nat.sub_self] at hy
    simp only [List.getElem?_cons_zero, Option.some.injEq] at hy he
    subst hy he
    exact Nest.off hx o g
end

end Go.Proofs.Ytgcnjkabpcbkgaa
