/- Layer 15, the laws (mathematics): who drinks has what it needs, and keeps it; what was there is there, or went out. -/
import Derived.Test.YtpjpjchnfllcmaaX7
import Derived.Test.YtpjpjchnfllcmaaXD
namespace Go.Proofs.Ytpjpjchnfllcmaa

theorem map_set_same {α β : Type} (f : α → β) {L : List α} {i : Nat} {s t : α} (hs : L[i]? = some s) (h : f t = f s) : (L.set i t).map f = L.map f := by
  refine List.ext_getElem? fun j => ?_
  rw [List.getElem?_map, List.getElem?_map]
  by_cases e : i = j
  · subst e
    rw [List.getElem?_set_self (List.getElem?_eq_some_iff.1 hs).1, hs]
    simp [h]
  · rw [List.getElem?_set_ne e]
theorem missB_map (N : List Int) (L : List Sd) : missB N L = (L.map fun s => (s.peer, s.bottle)).any fun x => decide (x.1 ∈ N) && !x.2 := by
  unfold missB needsB
  rw [List.any_map]; rfl
theorem side_has {d : Dk} (hc : chkK d = true) (hm : missB d.need d.sides = false) {p : Int} (hp : p ∈ d.need) : ∃ s, sideR d.sides p = (s, true) ∧ s.bottle = true := by
  have hany : (d.sides.any fun s => s.peer == p) = true := by
    unfold chkK at hc
    simp only [Bool.and_eq_true, List.all_eq_true] at hc
    exact hc.1.2 p hp
  unfold sideR
  cases hf : d.sides.find? (fun s => s.peer == p) with
  | none =>
    rw [List.find?_eq_none] at hf
    obtain ⟨s, hs, e⟩ := List.any_eq_true.1 hany
    exact absurd e (hf s hs)
  | some s =>
    refine ⟨s, rfl, ?_⟩
    have hs := List.mem_of_find?_eq_some hf
    have he := List.find?_some hf
    have he : s.peer = p := by simpa using he
    unfold missB at hm
    rw [List.any_eq_false] at hm
    have := hm s hs
    unfold needsB at this
    rw [he, decide_eq_true hp] at this
    simpa using this
theorem dirt_of {id ph : Int} {L : List Sd} (h : dnOk ⟨id, ph, L⟩ = true) {k : Nat} {s : Sd} (hs : L[k]? = some s) : (s.dirty && !s.fork) = false := by
  unfold dnOk at h
  rw [Bool.and_eq_true] at h
  have key : ∀ (M : List Sd) (last : Int) (k : Nat), sidesD id last M = true → M[k]? = some s → (s.dirty && !s.fork) = false := by
    intro M
    induction M with
    | nil => intro _ _ _ h; simp at h
    | cons a M ih =>
      intro last k h hk
      obtain ⟨h1, h2⟩ := sidesD_cons.1 h
      cases k with
      | zero =>
        obtain rfl : a = s := by simpa using hk
        exact sideD_dirty h1
      | succ k => exact ih _ k h2 (by simpa using hk)
  exact key _ _ _ h.2 hs
/-- an ask that comes: nothing else is another one -/
theorem ask_way {x y : Dk} {p ep er : Int} (hc : chkK x = true) (ht : x.thirst = 2) (hm : missB x.need x.sides = false) (h : getK x p 4 ep 0 = (y, er)) : (y.sides = [] ∧ y.need = []) ∨ (chkK y = true ∧ y.thirst = 2 ∧ missB y.need y.sides = false ∧ y.need = x.need ∧ y.sides.length = x.sides.length) := by
  unfold getK at h
  rw [if_pos hc] at h
  cases hf : findS (fun s => s.peer == p && s.epoch == ep) x.sides with
  | none =>
    rw [hf] at h
    dsimp only at h
    simp only [noK, Prod.mk.injEq] at h
    rw [← h.1]; exact .inl ⟨rfl, rfl⟩
  | some q =>
    obtain ⟨i, s⟩ := q
    rw [hf] at h
    dsimp only at h
    rw [if_neg (fun q => by have := q.2; omega), if_pos ⟨rfl, rfl⟩] at h
    obtain ⟨hs, _⟩ := findS_spec hf
    by_cases ha : s.ask = true
    · rw [if_pos ha] at h
      simp only [noK, Prod.mk.injEq] at h
      rw [← h.1]; exact .inl ⟨rfl, rfl⟩
    · rw [if_neg ha] at h
      simp only [Prod.mk.injEq] at h
      obtain ⟨rfl, _⟩ := h
      right
      refine ⟨?_, ht, ?_, rfl, List.length_set ..⟩
      · have hd : dnOk ⟨x.id, x.phase, x.sides⟩ = true := chk_dn hc
        have hdirt := dirt_of hd hs
        have hd2 : dnOk ⟨x.id, x.phase, x.sides.set i { s with ask := true }⟩ = true := dnOk_set hd hs rfl rfl rfl hdirt
        unfold chkK at hc ⊢
        simp only [Bool.and_eq_true, List.all_eq_true] at hc ⊢
        refine ⟨⟨⟨⟨hd2, hc.1.1.1.2⟩, hc.1.1.2⟩, fun q hq => ?_⟩, hc.2⟩
        have e : (fun s : Sd => (s.peer, s.epoch, s.state)) { s with ask := true } = (fun s : Sd => (s.peer, s.epoch, s.state)) s := rfl
        rw [any_peer, map_set_same _ hs e, ← any_peer]
        exact hc.1.2 q hq
      · have e : (fun s : Sd => (s.peer, s.bottle)) { s with ask := true } = (fun s : Sd => (s.peer, s.bottle)) s := rfl
        rw [missB_map, map_set_same _ hs e, ← missB_map]
        exact hm
theorem drinks_on {y z : Dk} {M : List Ml} {er : Int} (hc : chkK y = true) (ht : y.thirst = 2) (hm : missB y.need y.sides = false) (h : fireKR y = (z, M, er)) : ∀ p ∈ y.need, ∃ s, sideR z.sides p = (s, true) ∧ s.bottle = true := by
  unfold fireKR at h
  rw [if_pos hc] at h
  simp only [Prod.mk.injEq] at h
  obtain ⟨rfl, _⟩ := h
  have h1 := fire_chk hc
  have h2 := fire_has (d := y) (fun _ => hm) (fire_drinks ht)
  have h3 := (fire_id y).2.1
  intro p hp
  rw [← h3] at hp
  exact side_has h1 h2 hp
theorem has_start {d x : Dk} {M : List Ml} (hc : chkK d = true) (hth : d.thirst ≠ 2) (hx : fireAll d = (x, M)) (ht : x.thirst = 2) : d.thirst = 1 ∧ x.need = d.need ∧ chkK x = true ∧ missB x.need x.sides = false ∧ x.sides.length = d.sides.length := by
  have h1 := fire_chk hc
  have h2 := fire_has (d := d) (fun e => absurd e hth)
  have h3 := fire_id d
  have h4 := fun h => fire_thirst (d := d) h
  rw [hx] at h1 h2 h3 h4
  dsimp only at h1 h2 h3 h4
  refine ⟨Classical.byContradiction fun e => ?_, h3.2.1, h1, h2 ht, by have := congrArg List.length h3.2.2; simpa using this⟩
  have := h4 e
  rw [ht] at this
  exact hth this.symm
end Go.Proofs.Ytpjpjchnfllcmaa
