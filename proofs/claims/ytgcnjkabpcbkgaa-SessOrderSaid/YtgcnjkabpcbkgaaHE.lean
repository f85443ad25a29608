/- Rows of things that hold rows, element by element. -/
import Derived.Test.YtgcnjkabpcbkgaaH0
namespace Go.Proofs.Ytgcnjkabpcbkgaa
open Go.RowKit

/-- the elements xs read as L, one by one, apart from F -/
structure Ea {α δ : Type} [Elem α] [Nest α δ] (F : Nat → Prop) (w : World) (xs : List α) (L : List δ) : Prop where
  len : xs.length = L.length
  at_ : ∀ (j : Nat) (x : α) (d : δ), xs[j]? = some x → L[j]? = some d → Nest.rd F w x d
section
variable {α δ : Type} [Elem α] [Nest α δ] {F G : Nat → Prop} {w w' : World} {v : Value} {xs ys : List α} {L M : List δ}
theorem Ns.ea (h : Ns α F w v L) : ∃ xs : List α, Sa F w v xs ∧ Ea F w xs L := by
  obtain ⟨xs, h1, h2, h3⟩ := h
  exact ⟨xs, h1, h2, h3⟩
theorem Ea.ns (h : Ea F w xs L) (hs : Sa F w v xs) : Ns α F w v L := ⟨xs, hs, h.len, h.at_⟩
theorem Ea.off (h : Ea F w xs L) (o : Off F w w') (g : Grows F G w) : Ea G w' xs L := ⟨h.len, fun j x d hx hd => Nest.off (h.at_ j x d hx hd) o g⟩
theorem Ea.ext (h : Ea F w xs L) (e : Ext w w') : Ea F w' xs L := ⟨h.len, fun j x d hx hd => Nest.ext (h.at_ j x d hx hd) e⟩
theorem Ea.nil (F : Nat → Prop) (w : World) : Ea F w ([] : List α) ([] : List δ) := ⟨rfl, fun j x d hx => by simp at hx⟩
theorem Ea.one {x : α} {d : δ} (h : Nest.rd F w x d) : Ea F w [x] [d] := ⟨rfl, fun j y e hy he => by
  rcases j with _ | j
  · simp at hy he; subst hy he; exact h
  · simp at hy⟩
theorem Ea.take (h : Ea F w xs L) (n : Nat) : Ea F w (xs.take n) (L.take n) := by
  refine ⟨by rw [List.length_take, List.length_take, h.len], fun j x d hx hd => ?_⟩
  rw [List.getElem?_take] at hx hd
  split at hx
  · next hj => rw [if_pos hj] at hd; exact h.at_ j x d hx hd
  · cases hx
theorem Ea.drop (h : Ea F w xs L) (n : Nat) : Ea F w (xs.drop n) (L.drop n) := by
  refine ⟨by rw [List.length_drop, List.length_drop, h.len], fun j x d hx hd => ?_⟩
  rw [List.getElem?_drop] at hx hd
  exact h.at_ _ x d hx hd
theorem Ea.app (h : Ea F w xs L) (g : Ea F w ys M) : Ea F w (xs ++ ys) (L ++ M) := by
  refine ⟨by rw [List.length_append, List.length_append, h.len, g.len], fun j x d hx hd => ?_⟩
  rcases Nat.lt_or_ge j xs.length with hj | hj
  · rw [List.getElem?_append_left hj] at hx
    rw [List.getElem?_append_left (by have := h.len; omega)] at hd
    exact h.at_ j x d hx hd
  · rw [List.getElem?_append_right hj] at hx
    rw [List.getElem?_append_right (by have := h.len; omega), ← h.len] at hd
    exact g.at_ _ x d hx hd
theorem Ea.set (h : Ea F w xs L) (k : Nat) {x : α} {d : δ} (hx : Nest.rd F w x d) : Ea F w (xs.set k x) (L.set k d) := by
  refine ⟨by rw [List.length_set, List.length_set, h.len], fun j y e hy he => ?_⟩
  rw [List.getElem?_set] at hy he
  split at hy
  · next hk =>
    rw [if_pos hk] at he
    have hl := h.len
    split at hy
    · next hj => rw [if_pos (by omega)] at he; cases hy; cases he; exact hx
    · cases hy
  · next hk => rw [if_neg hk] at he; exact h.at_ j y e hy he
end
theorem sa_old {α : Type} [Elem α] {F : Nat → Prop} {w : World} {v : Value} {xs : List α} (h : Sl w v xs) (hF : ∀ k, F k → w.heap.size ≤ k) : Sa F w v xs := by
  refine ⟨h, ?_⟩
  rcases h.parts with ⟨rfl, _⟩ | ⟨b, off, c', rfl, h1, h2, h3, _, h4⟩
  · exact .inl rfl
  · refine .inr fun b' hb' hf => ?_
    obtain rfl : b = b' := by simpa [Value.ownBlock] using hb'
    have := hF _ hf
    omega
/-- what was there ahead of a call lies apart from the call's own blocks -/
theorem ea_old {F G : Nat → Prop} {w : World} {xs : List HV} {L : List Se} (h : Ea F w xs L) (hG : ∀ k, G k → w.heap.size ≤ k) : Ea G w xs L := by
  refine ⟨h.len, fun j x d hx hd => ?_⟩
  obtain ⟨e1, e2, e3, e4⟩ : RdH F w x d := h.at_ j x d hx hd
  exact (⟨e1, sa_old e2.sl hG, e3, e4⟩ : RdH G w x d)
theorem ns_old {F G : Nat → Prop} {w : World} {v : Value} {L : List Se} (h : Ns HV F w v L) (hG : ∀ k, G k → w.heap.size ≤ k) : Ns HV G w v L := by
  obtain ⟨xs, h1, h2⟩ := h.ea
  exact (ea_old h2 hG).ns (sa_old h1.sl hG)
/-- blocks of a call's own: n of them from w on -/
def Bxs (w : World) (n : Nat) : Nat → Prop := fun b => w.heap.size ≤ b ∧ b < w.heap.size + n
/-- F, and n blocks from w on -/
def OrB (F : Nat → Prop) (w : World) (n : Nat) : Nat → Prop := fun b => F b ∨ Bxs w n b
theorem ns_orB {F : Nat → Prop} {w : World} {v : Value} {L : List Se} (h : Ns HV F w v L) (n : Nat) : Ns HV (OrB F w n) w v L := h.grow fun _ hk => hk.imp id fun q => q.1
theorem ns_less {F G : Nat → Prop} {w : World} {v : Value} {L : List Se} (h : Ns HV G w v L) (hF : ∀ b, F b → G b) : Ns HV F w v L := h.grow fun _ hk => .inl (hF _ hk)
theorem ns_orB' {F : Nat → Prop} {w w' : World} {n : Nat} {v : Value} {L : List Se} (h : Ns HV (OrB F w n) w' v L) : Ns HV F w' v L := ns_less h fun _ hb => .inl hb
theorem sa_orB' {α : Type} [Elem α] {F : Nat → Prop} {w w' : World} {n : Nat} {v : Value} {L : List α} (h : Sa (OrB F w n) w' v L) : Sa F w' v L := h.off (Off.refl _ _) fun _ hk => .inl (.inl hk)
theorem ns_non {F : Nat → Prop} {w : World} {v : Value} {L : List Se} (h : Ns HV F w v L) : Ns HV Non w v L := by
  obtain ⟨xs, h1, h2⟩ := h.ea
  exact (ea_old h2 (fun k hk => hk.elim)).ns (sa_old h1.sl (fun k hk => hk.elim))
end Go.Proofs.Ytgcnjkabpcbkgaa
