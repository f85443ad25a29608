/- Layer 15 (mathematics): what was there is there, or went out, once; messages that come; who opens, who closes. -/
import Derived.Test.YtpjpjchnfllcmaaW2
namespace Go.Proofs.Ytpjpjchnfllcmaa

/-- one of its four things -/
def hadB (q : Int) (s : Sd) : Bool := if q = 1 then s.fork else if q = 2 then s.token else if q = 3 then s.bottle else s.ask
theorem fire1_count (id ph : Int) (s : Sd) {q : Int} (hq : q = 1 ∨ q = 2 ∨ q = 3 ∨ q = 4) : (cond (hadB q s) 1 0 : Nat) = cond (hadB q (fireS1 ph s)) 1 0 + (fireM1 id ph s).count ⟨id, s.peer, q, s.epoch, 0⟩ := by
  obtain ⟨p, e, t, f, di, k, b, a⟩ := s
  have key : ∀ h w : Bool, hot ph ⟨p, e, t, f, di, k, b, a⟩ = h → wants ph (gone ph ⟨p, e, t, f, di, k, b, a⟩) = w → (cond (hadB q ⟨p, e, t, f, di, k, b, a⟩) 1 0 : Nat) = cond (hadB q (fireS1 ph ⟨p, e, t, f, di, k, b, a⟩)) 1 0 + (fireM1 id ph ⟨p, e, t, f, di, k, b, a⟩).count ⟨id, p, q, e, 0⟩ := by
    intro h w h1 h2
    have hg : gone ph ⟨p, e, t, f, di, k, b, a⟩ = if h = true then ⟨p, e, t, false, false, k, b, a⟩ else ⟨p, e, t, f, di, k, b, a⟩ := by unfold gone; rw [h1]
    have hs : fireS1 ph ⟨p, e, t, f, di, k, b, a⟩ = if w = true then { gone ph ⟨p, e, t, f, di, k, b, a⟩ with token := false } else gone ph ⟨p, e, t, f, di, k, b, a⟩ := by unfold fireS1 asked; rw [h2]
    have hm : fireM1 id ph ⟨p, e, t, f, di, k, b, a⟩ = (if h = true then [⟨id, p, 1, e, 0⟩] else []) ++ (if w = true then [⟨id, p, 2, e, 0⟩] else []) := by unfold fireM1; rw [h1, h2]; rfl
    have hf : h = true → f = true := fun x => by rw [x] at h1; unfold hot at h1; simp only [Bool.and_eq_true] at h1; exact h1.1
    have hk : w = true → k = true := fun x => by
      rw [x, hg] at h2
      unfold wants at h2
      simp only [Bool.and_eq_true] at h2
      have := h2.2.1
      split at this <;> exact this
    rw [hs, hm, hg]
    cases h <;> cases w
    · rcases hq with rfl | rfl | rfl | rfl <;> simp [hadB]
    · have := hk rfl; subst this
      rcases hq with rfl | rfl | rfl | rfl <;> simp [hadB]
    · have := hf rfl; subst this
      rcases hq with rfl | rfl | rfl | rfl <;> simp [hadB]
    · have := hf rfl; have := hk rfl; subst_vars
      rcases hq with rfl | rfl | rfl | rfl <;> simp [hadB]
  exact key _ _ rfl rfl
theorem bottle_count (id t : Int) (need : List Int) (s : Sd) {q : Int} (hq : q = 1 ∨ q = 2 ∨ q = 3 ∨ q = 4) : (cond (hadB q s) 1 0 : Nat) = cond (hadB q (bottleS t need s)) 1 0 + (bottleM id t need s).count ⟨id, s.peer, q, s.epoch, 0⟩ := by
  have key : ∀ h w : Bool, pours t need s = h → asks t need (poured t need s) = w → (cond (hadB q s) 1 0 : Nat) = cond (hadB q (bottleS t need s)) 1 0 + (bottleM id t need s).count ⟨id, s.peer, q, s.epoch, 0⟩ := by
    intro h w h1 h2
    have hg : poured t need s = if h = true then { s with bottle := false } else s := by unfold poured; rw [h1]
    have hs : bottleS t need s = if w = true then { poured t need s with ask := false } else poured t need s := by unfold bottleS; rw [h2]
    have hm : bottleM id t need s = (if h = true then [⟨id, s.peer, 3, s.epoch, 0⟩] else []) ++ (if w = true then [⟨id, s.peer, 4, s.epoch, 0⟩] else []) := by unfold bottleM; rw [h1, h2]
    have hf : h = true → s.bottle = true := fun x => by rw [x] at h1; unfold pours at h1; simp only [Bool.and_eq_true] at h1; exact h1.1.1
    have hk : w = true → s.ask = true := fun x => by
      rw [x, hg] at h2
      unfold asks at h2
      simp only [Bool.and_eq_true] at h2
      have := h2.1.2
      split at this <;> exact this
    rw [hs, hm, hg]
    clear h1 h2 hg hs hm
    obtain ⟨p, e, st, f, di, k, b, a⟩ := s
    dsimp only at hf hk
    cases h <;> cases w
    · rcases hq with rfl | rfl | rfl | rfl <;> simp [hadB]
    · have := hk rfl; subst this
      rcases hq with rfl | rfl | rfl | rfl <;> simp [hadB]
    · have := hf rfl; subst this
      rcases hq with rfl | rfl | rfl | rfl <;> simp [hadB]
    · have := hf rfl; have := hk rfl; subst_vars
      rcases hq with rfl | rfl | rfl | rfl <;> simp [hadB]
  exact key _ _ rfl rfl
theorem bottleM_to (id t : Int) (need : List Int) (s : Sd) : ∀ m ∈ bottleM id t need s, m.to_ = s.peer := by
  intro m hm
  unfold bottleM at hm
  rw [List.mem_append] at hm
  rcases hm with hm | hm <;> split at hm <;> simp at hm <;> rw [hm]
/-- mail to one peer comes of one side alone -/
theorem count_side {L : List Sd} {g : Sd → List Ml} {k : Nat} {s : Sd} {m : Ml} (hs : L[k]? = some s) (hg : ∀ t ∈ L, ∀ x ∈ g t, x.to_ = t.peer) (hm : m.to_ = s.peer) (hd : ∀ (j : Nat) (t : Sd), j ≠ k → L[j]? = some t → t.peer ≠ s.peer) :
    (L.flatMap g).count m = (g s).count m := by
  have hk := (List.getElem?_eq_some_iff.1 hs).1
  have e : L = L.take k ++ s :: L.drop (k + 1) := by
    have := (List.getElem?_eq_some_iff.1 hs).2
    rw [← this, List.getElem_cons_drop hk, List.take_append_drop]
  have none : ∀ M : List Sd, (∀ t ∈ M, t ∈ L ∧ t.peer ≠ s.peer) → (M.flatMap g).count m = 0 := fun M hM => by
    rw [List.count_eq_zero]
    intro hx
    obtain ⟨t, ht, hx⟩ := List.mem_flatMap.1 hx
    obtain ⟨h1, h2⟩ := hM t ht
    exact h2 ((hg t h1 m hx).symm.trans hm)
  have n1 := none (L.take k) fun t ht => by
    obtain ⟨j, hj⟩ := List.getElem?_of_mem ht
    rw [List.getElem?_take] at hj
    split at hj
    · exact ⟨List.mem_of_getElem? hj, hd j t (by omega) hj⟩
    · cases hj
  have n2 := none (L.drop (k + 1)) fun t ht => by
    obtain ⟨j, hj⟩ := List.getElem?_of_mem ht
    rw [List.getElem?_drop] at hj
    exact ⟨List.mem_of_getElem? hj, hd _ t (by omega) hj⟩
  conv => lhs; rw [e]
  rw [List.flatMap_append, List.flatMap_cons, List.count_append, List.count_append, n1, n2]
  omega
theorem peers_apart {d : Dn} (h : dnOk d = true) {k : Nat} {s : Sd} (hs : d.sides[k]? = some s) : ∀ (j : Nat) (t : Sd), j ≠ k → d.sides[j]? = some t → t.peer ≠ s.peer := fun j t hj ht => by
  unfold dnOk at h
  rw [Bool.and_eq_true] at h
  rcases Nat.lt_or_ge j k with h1 | h1
  · have := sidesD_lt h.2 j k t s h1 ht hs; omega
  · have := sidesD_lt h.2 k j s t (by omega) hs ht; omega
/-- once: what was there is there, or went out -/
theorem once_count {d : Dk} (h : dnOk d.dn = true) {k : Nat} {s v : Sd} (hs : d.sides[k]? = some s) (hv : (onceK d).1.sides[k]? = some v) {q : Int} (hq : q = 1 ∨ q = 2 ∨ q = 3 ∨ q = 4) :
    (cond (hadB q s) 1 0 : Nat) = cond (hadB q v) 1 0 + (onceK d).2.count ⟨d.id, s.peer, q, s.epoch, 0⟩ := by
  obtain ⟨u, v', h1, ⟨e1, e2, e3, e4, e5⟩, rfl, h3⟩ := once_at hs
  rw [h3] at hv
  cases hv
  have hpre := pre_ok h
  have hps : (preK d).sides[k]? = some s := hs
  have c1 : (fireMl (preK d)).count ⟨d.id, s.peer, q, s.epoch, 0⟩ = (fireM1 d.id (preK d).phase s).count ⟨d.id, s.peer, q, s.epoch, 0⟩ :=
    count_side (L := (preK d).sides) (g := fireM1 d.id (preK d).phase) hps (fun t _ => fireM1_to _ _ t) rfl (peers_apart hpre hps)
  have hok2 := dnOk_fire hpre
  have c2 : ((fireD (preK d)).sides.flatMap (bottleM d.id d.thirst d.need)).count ⟨d.id, s.peer, q, s.epoch, 0⟩ = (bottleM d.id d.thirst d.need u).count ⟨d.id, s.peer, q, s.epoch, 0⟩ :=
    count_side h1 (fun t _ => bottleM_to _ _ _ t) e1.symm (peers_apart hok2 h1)
  have hu : hadB q u = hadB q (fireS1 (preK d).phase s) := by
    obtain ⟨_, ⟨_, w⟩ | ⟨_, _, w⟩⟩ := fireD_ways (preK d)
    · rw [w] at h1
      unfold fireSs at h1
      rw [List.getElem?_map, hps] at h1
      cases h1; rfl
    · rw [w] at h1
      unfold dirtyAll fireSs at h1
      rw [List.getElem?_map, List.getElem?_map, hps] at h1
      cases h1; rfl
  have f1 := fire1_count d.id (preK d).phase s hq
  have f2 := bottle_count d.id d.thirst d.need u hq
  rw [e1, e2] at f2
  have : (onceK d).2 = fireMl (preK d) ++ (fireD (preK d)).sides.flatMap (bottleM d.id d.thirst d.need) := rfl
  rw [this, List.count_append, c1, c2, f1, ← hu, f2]
  omega
theorem fireAll_count {q : Int} (hq : q = 1 ∨ q = 2 ∨ q = 3 ∨ q = 4) {k : Nat} : ∀ {n : Nat} {d : Dk} {s v : Sd}, leftK d < n → dnOk d.dn = true → d.sides[k]? = some s → (fireAll d).1.sides[k]? = some v →
    (cond (hadB q s) 1 0 : Nat) = cond (hadB q v) 1 0 + (fireAll d).2.count ⟨d.id, s.peer, q, s.epoch, 0⟩
  | 0, _, _, _, h, _, _, _ => by omega
  | n + 1, d, s, v, h, hok, hs, hv => by
    by_cases e : (onceK d).1 = d
    · rw [fireAll_end e] at hv ⊢
      dsimp only at hv
      rw [hs] at hv
      cases hv
      rfl
    · have hl := once_less e
      rw [fireAll_on e] at hv ⊢
      dsimp only at hv ⊢
      obtain ⟨u, v', _, ⟨e1, e2, _⟩, rfl, h3⟩ := once_at hs
      obtain ⟨f1, f2, _⟩ := bottleS_keeps d.thirst d.need u
      have c1 := once_count hok hs h3 hq
      have c2 := fireAll_count hq (n := n) (by omega) (once_ok hok) h3 hv
      have hid : (onceK d).1.id = d.id := (fireD_ways (preK d)).1
      rw [hid, f1, f2, e1, e2] at c2
      rw [List.count_append, c1, c2]
      omega
/-- all of it: each thing that was there is there, or went out once; nothing else is there, or went out -/
theorem fire_keeps {d : Dk} (h : dnOk d.dn = true) {k : Nat} {s v : Sd} (hs : d.sides[k]? = some s) (hv : (fireAll d).1.sides[k]? = some v) {q : Int} (hq : q = 1 ∨ q = 2 ∨ q = 3 ∨ q = 4) :
    (hadB q s = true → (hadB q v = true ∧ (fireAll d).2.count ⟨d.id, s.peer, q, s.epoch, 0⟩ = 0 ∨ hadB q v = false ∧ (fireAll d).2.count ⟨d.id, s.peer, q, s.epoch, 0⟩ = 1)) ∧ (hadB q s = false → hadB q v = false ∧ (fireAll d).2.count ⟨d.id, s.peer, q, s.epoch, 0⟩ = 0) := by
  have := fireAll_count hq (Nat.lt_succ_self _) h hs hv
  cases h1 : hadB q s <;> cases h2 : hadB q v <;> rw [h1, h2] at this <;> simp at this ⊢ <;> omega
end Go.Proofs.Ytpjpjchnfllcmaa
