/- Layer 12: by a table the arcs don't lead round, and no depth is as great as the greatest colour (mathematics, by layers 4 and 11). -/
import Derived.Test.YtpnnnbjjoimalaaPM
import Derived.Test.YtpnnnbjjoimalaaMM
namespace Go.Proofs.Ytpnnnbjjoimalaa

theorem turn_ends (c : List Int) (e : Edge) : ((turnC c e).a = e.a ∧ (turnC c e).b = e.b) ∨ ((turnC c e).a = e.b ∧ (turnC c e).b = e.a) := by
  unfold turnC
  split
  · exact .inl ⟨rfl, rfl⟩
  · exact .inr ⟨rfl, rfl⟩
theorem turn_up {N : Int} {E : List Edge} {c : List Int} (ok : OkG N E) (hne : ∀ a b : Int, btw a b ∈ E → col c a ≠ col c b) {e : Edge} (he : e ∈ E) : col c (turnC c e).a < col c (turnC c e).b := by
  have hb := ok.each e he
  have hn := hne e.a e.b (by rw [show btw e.a e.b = e by obtain ⟨p, q⟩ := e; simp only [btw, Edge.mk.injEq] at *; omega]; exact he)
  unfold turnC
  split
  · assumption
  · show col c e.b < col c e.a
    omega
theorem turn_ok {N : Int} {E : List Edge} {c : List Int} (ok : OkG N E) : OkD N (E.map (turnC c)) := by
  refine ⟨ok.n0, ok.n64, by rw [List.length_map]; exact ok.few, fun x hx => ?_, ?_⟩
  · obtain ⟨e, he, rfl⟩ := List.mem_map.1 hx
    have := ok.each e he
    rcases turn_ends c e with ⟨h1, h2⟩ | ⟨h1, h2⟩ <;> rw [h1, h2] <;> omega
  · unfold List.Nodup
    rw [List.pairwise_map]
    refine (ok.rise.imp_of_mem fun {x y} hx hy hxy => ?_)
    intro e
    have hX := ok.each x hx
    have hY := ok.each y hy
    have e1 : (turnC c x).a = (turnC c y).a := by rw [e]
    have e2 : (turnC c x).b = (turnC c y).b := by rw [e]
    have : x = y := by
      obtain ⟨p, q⟩ := x
      obtain ⟨r, s⟩ := y
      rcases turn_ends c ⟨p, q⟩ with ⟨h1, h2⟩ | ⟨h1, h2⟩ <;> rcases turn_ends c ⟨r, s⟩ with ⟨h3, h4⟩ | ⟨h3, h4⟩ <;> rw [h1, h3] at e1 <;> rw [h2, h4] at e2 <;> simp only [Edge.mk.injEq] <;> dsimp only at hX hY e1 e2 <;> omega
    rw [this, ahead_irr] at hxy
    cases hxy
theorem turn_ranked {N : Int} {E : List Edge} {c : List Int} (ok : OkG N E) (hne : ∀ a b : Int, btw a b ∈ E → col c a ≠ col c b) (h0 : ∀ a : Int, 0 ≤ a → a < N → 0 ≤ col c a) : Ranked (E.map (turnC c)) := by
  refine ⟨fun v => (col c v).toNat, fun x hx => ?_⟩
  obtain ⟨e, he, rfl⟩ := List.mem_map.1 hx
  have h1 := turn_up ok hne he
  have hb := ok.each e he
  have h2 : 0 ≤ col c (turnC c e).a := by
    rcases turn_ends c e with ⟨h, _⟩ | ⟨h, _⟩ <;> rw [h]
    · exact h0 _ (by omega) (by omega)
    · exact h0 _ (by omega) (by omega)
  show (col c (turnC c e).a).toNat < (col c (turnC c e).b).toNat
  omega
/-- a node's depth is less than its colour -/
theorem turn_deep {N : Int} {E : List Edge} {c d : List Int} (ok : OkG N E) (hne : ∀ a b : Int, btw a b ∈ E → col c a ≠ col c b) (h1 : ∀ a : Int, 0 ≤ a → a < N → 1 ≤ col c a) (hd : IsDepth N.toNat (E.map (turnC c)) d) :
    ∀ v : Nat, v < N.toNat → d.getD v 0 < col c v := by
  have key : ∀ (k : Nat) (v : Nat), v < N.toNat → col c v ≤ k → d.getD v 0 < col c v := by
    intro k
    induction k with
    | zero => intro v hv hc; have := h1 v (by omega) (by omega); omega
    | succ k ih =>
      intro v hv hc
      have hm := hd.at_ v hv
      have hv1 := h1 v (by omega) (by omega)
      rcases hm.is with h | ⟨x, hx, hxb, h⟩
      · omega
      · obtain ⟨e, he, rfl⟩ := List.mem_map.1 hx
        have hu := turn_up ok hne he
        have hb := ok.each e he
        have ha : 0 ≤ (turnC c e).a ∧ (turnC c e).a < N := by
          rcases turn_ends c e with ⟨h, _⟩ | ⟨h, _⟩ <;> rw [h] <;> omega
        rw [hxb] at hu
        have hcast : (((turnC c e).a.toNat : Nat) : Int) = (turnC c e).a := by omega
        have := ih (turnC c e).a.toNat (by omega) (by rw [hcast]; omega)
        rw [hcast] at this
        omega
  exact fun v hv => key (col c v).toNat v hv (by omega)
theorem le_most {c : List Int} : ∀ (i : Nat), i < c.length → c.getD i 0 ≤ mostL c := by
  have key : ∀ k, k ≤ c.length → ∀ i, i < k → c.getD i 0 ≤ mostL (c.take k) := by
    intro k
    induction k with
    | zero => intro _ i hi; omega
    | succ k ih =>
      intro hk i hi
      rw [mostL_next (by omega)]
      by_cases e : i = k
      · subst e; omega
      · have := ih (by omega) i (by omega); omega
  intro i hi
  have := key c.length (Nat.le_refl _) i hi
  rwa [List.take_length] at this

end Go.Proofs.Ytpnnnbjjoimalaa
