/- Texts of this seat. -/
import Derived.Test.YtfbambemjokmgaaGreatNBM
namespace Go.Proofs.YtfbambemjokmgaaGreat
section
variable {N : Int} {E : List Edge} {ds : List Dk} {ms : List Ml}
theorem GoodBE.opens (ok : OkG N E) (h : GoodBE N E ds ms) {a : Int} (ha : 0 ≤ a ∧ a < N) (ht : (ds.getD a.toNat noK).thirst = 0) (b : Int) (Q : List Int) :
    ((stepB ds ms 0 a b Q).2 = 151 ∧ ∃ p ∈ Q, btw a p ∉ E) ∨
    ((stepB ds ms 0 a b Q).2 = 0 ∧ (∀ p ∈ Q, (0 ≤ p ∧ p < N) ∧ btw a p ∈ E) ∧ GoodBE N E (stepB ds ms 0 a b Q).1.1 (stepB ds ms 0 a b Q).1.2 ∧
      ((stepB ds ms 0 a b Q).1.1.getD a.toNat noK).need = norm Q ∧ (((stepB ds ms 0 a b Q).1.1.getD a.toNat noK).thirst = 1 ∨ ((stepB ds ms 0 a b Q).1.1.getD a.toNat noK).thirst = 2) ∧ (Q = [] → ((stepB ds ms 0 a b Q).1.1.getD a.toNat noK).thirst = 2) ∧
      ∀ p : Int, (0 ≤ p ∧ p < N) → p ≠ a → ((stepB ds ms 0 a b Q).1.1.getD p.toNat noK).need = (ds.getD p.toNat noK).need) := by
  obtain ⟨X, P, T, M, rfl, hb, hr⟩ := h
  have n64 := ok.n64
  have hn := NB.ofE ok
  have hi : a.toNat < N.toNat := by omega
  have ea : ((a.toNat : Nat) : Int) = a := by omega
  rw [dr_getD hi] at ht
  have ht : T a.toNat = 0 := ht
  have hs := hb.stepOpen hn (by omega) (by omega) (by omega) hi b Q hr
  rw [ea] at hs
  have hnear : ∀ p : Int, (∃ k : Nat, k ∈ nbE N E a.toNat ∧ p = k) → (0 ≤ p ∧ p < N) ∧ btw a p ∈ E := fun p ⟨k, hk, e⟩ => by
    obtain ⟨q1, q2⟩ := mem_nbE.1 hk
    rw [ea] at q2
    subst e
    exact ⟨by omega, q2⟩
  rcases hs with ⟨q, _⟩ | ⟨_, q, e⟩ | ⟨X', P', T', ms', e, _, q1, q2, q3, q4, q5, q6⟩
  · exact absurd ht q
  · rw [e]
    refine .inl ⟨rfl, ?_⟩
    refine Classical.byContradiction fun hc => q fun p hp => ?_
    have hm : btw a p ∈ E := Classical.byContradiction fun h => hc ⟨p, hp, h⟩
    have hE := ok.each _ hm
    unfold btw at hE
    dsimp only at hE
    exact ⟨p.toNat, mem_nbE.2 ⟨by omega, by rw [ea, show ((p.toNat : Nat) : Int) = p from by omega]; exact hm⟩, by omega⟩
  · rw [e]
    dsimp only
    rw [dr_getD hi]
    refine .inr ⟨rfl, fun p hp => hnear p (q1 p hp), ⟨X', P', T', _, rfl, q5, q6⟩, ?_, q2, q3, fun p hp hne => ?_⟩
    · unfold dkOf updN
      rw [if_pos rfl]
    · have hpi : p.toNat < N.toNat := by omega
      rw [dr_getD hpi, dr_getD hpi]
      unfold dkOf updN
      dsimp only
      rw [if_neg (by omega)]
theorem thirst_who {t : Int} (h : GoodBE N E ds ms) {a : Int} (ha : 0 ≤ a ∧ a < N) : a ∈ whoK ds t ↔ (ds.getD a.toNat noK).thirst = t := by
  obtain ⟨X, P, T, M, rfl, hb, hr⟩ := h
  have hi : a.toNat < N.toNat := by omega
  rw [mem_who, dr_getD hi]
  constructor
  · rintro ⟨i, rfl, _, q⟩
    rw [Int.toNat_natCast]
    exact q
  · intro q
    exact ⟨a.toNat, by omega, hi, q⟩
theorem GoodBE.freely (ok : OkG N E) (h : GoodBE N E ds ms) {a : Int} (ha : 0 ≤ a ∧ a < N) (ht : (ds.getD a.toNat noK).thirst = 0) (b : Int) (Q : List Int) (h0 : (stepB ds ms 0 a b Q).2 = 0) {f : Nat} (hf : 11 * E.length ≤ f)
    (hq : ∀ p ∈ Q, a ∉ (ds.getD p.toNat noK).need) : ∃ ds', quietB f (stepB ds ms 0 a b Q).1.1 (stepB ds ms 0 a b Q).1.2 = some (ds', []) ∧ GoodBE N E ds' [] ∧ a ∈ whoK ds' 2 := by
  rcases h.opens ok ha ht b Q with ⟨e, _⟩ | ⟨_, q1, q2, q3, q4, _, q6⟩
  · omega
  · obtain ⟨ds', r1, r2, _, r4⟩ := q2.quiet ok hf
    refine ⟨ds', r1, r2, ?_⟩
    rw [thirst_who r2 ha]
    have hfree := r2.free ok ha fun p hp => by
      rw [(r4 a ha).1, q3, mem_norm] at hp
      obtain ⟨hpN, hpE⟩ := q1 p hp
      have hne : p ≠ a := by
        intro e
        have := ok.each _ hpE
        unfold btw at this
        dsimp only at this
        omega
      rw [(r4 p hpN).1, q6 p hpN hne]
      exact hq p hp
    have := (r4 a ha).2
    omega
theorem stepB_set {k a b : Int} {Q : List Int} (h : (stepB ds ms k a b Q).2 = 0) : ∃ d, (stepB ds ms k a b Q).1.1 = ds.set (if k = 2 then b else a).toNat d := by
  unfold stepB at h ⊢
  split at h
  · cases h
  · next hnode =>
    rw [if_neg hnode]
    by_cases hk : k = 2
    · rw [if_pos hk] at h
      rw [if_pos hk, if_pos hk]
      cases hp : pick a b ms with
      | none => rw [hp] at h; cases h
      | some t =>
        obtain ⟨l1, m, l2⟩ := t
        rw [hp] at h
        dsimp only at h ⊢
        cases hd : ds[b.toNat]? with
        | none => rw [hd] at h; cases h
        | some d =>
          rw [hd] at h
          dsimp only at h ⊢
          by_cases e : (getK d a m.kind m.epoch m.num).2 = 0
          · rw [if_pos e]; exact ⟨_, rfl⟩
          · rw [if_neg e] at h; exact absurd h e
    · rw [if_neg hk] at h
      rw [if_neg hk, if_neg hk]
      cases hd : ds[a.toNat]? with
      | none => rw [hd] at h; cases h
      | some d =>
        rw [hd] at h
        dsimp only at h ⊢
        by_cases e : (if k = 0 then openR d Q else closeR d).2 = 0
        · rw [if_pos e]; exact ⟨_, rfl⟩
        · rw [if_neg e] at h; exact absurd h e
theorem stepB_no {k a b : Int} {Q : List Int} (h : (stepB ds ms k a b Q).2 ≠ 0) : (stepB ds ms k a b Q).1 = noB := by
  unfold stepB at h ⊢
  by_cases hnode : ¬ (0 ≤ a ∧ a < ds.length) ∨ k = 2 ∧ ¬ (0 ≤ b ∧ b < ds.length)
  · rw [if_pos hnode]
  · rw [if_neg hnode] at h ⊢
    by_cases hk : k = 2
    · rw [if_pos hk] at h ⊢
      cases hp : pick a b ms with
      | none => rfl
      | some t =>
        obtain ⟨l1, m, l2⟩ := t
        rw [hp] at h
        dsimp only at h ⊢
        cases hd : ds[b.toNat]? with
        | none => rfl
        | some d =>
          rw [hd] at h
          dsimp only at h ⊢
          by_cases e : (getK d a m.kind m.epoch m.num).2 = 0
          · rw [if_pos e] at h; exact absurd rfl h
          · rw [if_neg e]
    · rw [if_neg hk] at h ⊢
      cases hd : ds[a.toNat]? with
      | none => rfl
      | some d =>
        rw [hd] at h
        dsimp only at h ⊢
        by_cases e : (if k = 0 then openR d Q else closeR d).2 = 0
        · rw [if_pos e] at h; exact absurd rfl h
        · rw [if_neg e]
end
end Go.Proofs.YtfbambemjokmgaaGreat
