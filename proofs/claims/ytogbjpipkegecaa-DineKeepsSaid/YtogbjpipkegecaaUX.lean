/- Layer 13 (mathematics): behind Fire nothing is to be done; what goes out goes by rising peers; what was there is there, or went out. -/
import Derived.Test.YtogbjpipkegecaaUN
namespace Go.Proofs.Ytogbjpipkegecaa

theorem fireD_calm (d : Dn) : (fireD d).sides.all (calm (fireD d).phase) = true := by
  unfold fireD
  split
  · exact eating_calm _
  · exact fireSs_all _ _
theorem fireD_stays (d : Dn) : eats (fireD d).phase (fireD d).sides = false := by
  unfold fireD
  split
  · rfl
  · next h => simpa using h
theorem fireD_still (d : Dn) : fireD (fireD d) = fireD d ∧ fireMl (fireD d) = [] :=
  (One.none (fireD_calm d) (fireD_stays d)).fire.2.2 rfl
theorem fireS1_keeps (ph : Int) (s : Sd) : (fireS1 ph s).peer = s.peer ∧ (fireS1 ph s).epoch = s.epoch ∧ (fireS1 ph s).state = s.state ∧ (fireS1 ph s).bottle = s.bottle ∧ (fireS1 ph s).ask = s.ask := by
  unfold fireS1 asked gone
  split <;> split <;> exact ⟨rfl, rfl, rfl, rfl, rfl⟩
theorem fireS1_dirty {ph : Int} {s : Sd} (h : (s.dirty && !s.fork) = false) : ((fireS1 ph s).dirty && !(fireS1 ph s).fork) = false := by
  unfold fireS1 asked gone
  split <;> split <;> simp_all
theorem sideD_of {id last : Int} {s t : Sd} (h : sideD id last s = true) (e1 : t.peer = s.peer) (e2 : t.epoch = s.epoch) (e3 : t.state = s.state) (e4 : (t.dirty && !t.fork) = false) : sideD id last t = true := by
  unfold sideD at *
  rw [e1, e2, e3, e4]
  simp only [Bool.and_eq_true] at *
  exact ⟨h.1, h.2.1, h.2.2.1, h.2.2.2.1, h.2.2.2.2.1, h.2.2.2.2.2.1, rfl⟩
theorem sideD_dirty {id last : Int} {s : Sd} (h : sideD id last s = true) : (s.dirty && !s.fork) = false := by
  unfold sideD at h
  simp only [Bool.and_eq_true] at h
  have h2 := h.2.2.2.2.2.2
  cases hd : s.dirty <;> cases hf : s.fork <;> simp_all
theorem sideD_low {id last : Int} {s : Sd} (h : sideD id last s = true) : last < s.peer := by
  unfold sideD at h
  rw [Bool.and_eq_true, decide_eq_true_eq] at h
  exact h.1
theorem sidesD_cons {id last : Int} {s : Sd} {L : List Sd} : sidesD id last (s :: L) = true ↔ sideD id last s = true ∧ sidesD id s.peer L = true := by
  show (sideD id last s && sidesD id s.peer L) = true ↔ _
  rw [Bool.and_eq_true]
theorem sidesD_map {id : Int} (f : Sd → Sd) : ∀ {L : List Sd} {last : Int}, sidesD id last L = true → (∀ s ∈ L, (f s).peer = s.peer ∧ (f s).epoch = s.epoch ∧ (f s).state = s.state ∧ ((s.dirty && !s.fork) = false → ((f s).dirty && !(f s).fork) = false)) → sidesD id last (L.map f) = true
  | [], _, _, _ => rfl
  | s :: L, last, h, hf => by
    obtain ⟨h1, h2⟩ := sidesD_cons.1 h
    obtain ⟨e1, e2, e3, e4⟩ := hf s (List.mem_cons_self ..)
    rw [List.map_cons]
    refine sidesD_cons.2 ⟨sideD_of h1 e1 e2 e3 (e4 (sideD_dirty h1)), ?_⟩
    rw [e1]
    exact sidesD_map f h2 fun t ht => hf t (List.mem_cons_of_mem _ ht)
theorem head_of {d : Dn} (h : headD d = true) {e : Dn} (h1 : e.id = d.id) (h2 : e.phase = d.phase ∨ e.phase = 2) (h3 : e.sides.length = d.sides.length) : headD e = true := by
  unfold headD at *
  rw [h1, h3]
  simp only [Bool.and_eq_true, Bool.or_eq_true, decide_eq_true_eq] at *
  rcases h2 with e | e
  · rw [e]; exact h
  · rw [e]; exact ⟨h.1, .inr rfl, h.2.2⟩
theorem fireD_len (d : Dn) : (fireD d).sides.length = d.sides.length ∧ (fireD d).id = d.id := by
  unfold fireD
  split <;> simp [dirtyAll, fireSs]
theorem dnOk_fire {d : Dn} (h : dnOk d = true) : dnOk (fireD d) = true := by
  unfold dnOk at *
  rw [Bool.and_eq_true] at *
  refine ⟨head_of h.1 (fireD_len d).2 ?_ (fireD_len d).1, ?_⟩
  · unfold fireD; split
    · exact .inr rfl
    · exact .inl rfl
  · have h1 : sidesD d.id (-1) (fireSs d.phase d.sides) = true := sidesD_map (fireS1 d.phase) h.2 fun s _ => ⟨(fireS1_keeps _ s).1, (fireS1_keeps _ s).2.1, (fireS1_keeps _ s).2.2.1, fireS1_dirty⟩
    rw [(fireD_len d).2]
    unfold fireD
    split
    · next he =>
      unfold eats at he
      rw [Bool.and_eq_true, List.all_eq_true] at he
      exact sidesD_map _ h1 fun s hs => ⟨rfl, rfl, rfl, fun _ => by simp [he.2 s hs]⟩
    · exact h1

/-- one's mail ahead of another one -/
def mlB (a b : Ml) : Prop := a.to_ < b.to_ ∨ (a.to_ = b.to_ ∧ a.kind = 1 ∧ b.kind = 2)
theorem fireM1_to (id ph : Int) (s : Sd) : ∀ m ∈ fireM1 id ph s, m.to_ = s.peer := by
  intro m hm
  unfold fireM1 at hm
  rw [List.mem_append] at hm
  rcases hm with hm | hm
  · cases h : hot ph s
    · rw [h] at hm; cases hm
    · rw [h] at hm; simp only [if_true, List.mem_singleton] at hm; rw [hm]; rfl
  · cases h : wants ph (gone ph s)
    · rw [h] at hm; cases hm
    · rw [h] at hm; simp only [if_true, List.mem_singleton] at hm; rw [hm]; rfl
theorem fireM1_pair (id ph : Int) (s : Sd) : (fireM1 id ph s).Pairwise mlB := by
  unfold fireM1
  split <;> split
  · refine List.pairwise_cons.2 ⟨fun b hb => ?_, List.pairwise_singleton _ _⟩
    have hb : b ∈ [tokenM id s] := hb
    rw [List.mem_singleton] at hb
    rw [hb]; exact .inr ⟨rfl, rfl, rfl⟩
  · exact List.pairwise_singleton _ _
  · exact List.pairwise_singleton _ _
  · exact List.Pairwise.nil
theorem fireMs_to {id ph : Int} : ∀ {L : List Sd} {last : Int}, sidesD id last L = true → ∀ m ∈ fireMs id ph L, last < m.to_
  | [], _, _, m, hm => by simp [fireMs] at hm
  | s :: L, last, h, m, hm => by
    obtain ⟨h1, h2⟩ := sidesD_cons.1 h
    have hl := sideD_low h1
    unfold fireMs at hm
    rw [List.flatMap_cons, List.mem_append] at hm
    rcases hm with hm | hm
    · rw [fireM1_to id ph s m hm]; exact hl
    · have := fireMs_to h2 m hm
      omega
theorem fireMs_row {id ph : Int} : ∀ {L : List Sd} {last : Int}, sidesD id last L = true → (fireMs id ph L).Pairwise mlB
  | [], _, _ => List.Pairwise.nil
  | s :: L, last, h => by
    obtain ⟨h1, h2⟩ := sidesD_cons.1 h
    unfold fireMs
    rw [List.flatMap_cons]
    refine List.pairwise_append.2 ⟨fireM1_pair id ph s, fireMs_row h2, fun a ha b hb => .inl ?_⟩
    rw [fireM1_to id ph s a ha]
    exact fireMs_to h2 b hb
theorem row_at {l : List Ml} (h : l.Pairwise mlB) {k : Nat} {a b : Ml} (ha : l[k]? = some a) (hb : l[k + 1]? = some b) : mlB a b := by
  obtain ⟨h1, e1⟩ := List.getElem?_eq_some_iff.1 ha
  obtain ⟨h2, e2⟩ := List.getElem?_eq_some_iff.1 hb
  rw [← e1, ← e2]
  exact List.pairwise_iff_getElem.1 h k (k + 1) h1 h2 (by omega)

/-- a side behind Fire -/
theorem fireD_at {d : Dn} {k : Nat} {s : Sd} (h : d.sides[k]? = some s) : ∃ u, (fireD d).sides[k]? = some u ∧ u.peer = s.peer ∧ u.epoch = s.epoch ∧ u.state = s.state ∧ u.bottle = s.bottle ∧ u.ask = s.ask ∧ u.fork = (s.fork && !hot d.phase s) ∧ u.token = (s.token && !wants d.phase (gone d.phase s)) := by
  have e1 : (fireS1 d.phase s).fork = (s.fork && !hot d.phase s) := by
    unfold fireS1 asked
    have : (if wants d.phase (gone d.phase s) = true then { gone d.phase s with token := false } else gone d.phase s).fork = (gone d.phase s).fork := by split <;> rfl
    rw [this]; unfold gone
    cases h : hot d.phase s <;> simp
  have e2 : (fireS1 d.phase s).token = (s.token && !wants d.phase (gone d.phase s)) := by
    unfold fireS1 asked
    have : (gone d.phase s).token = s.token := by unfold gone; split <;> rfl
    split
    · next hw => rw [hw]; simp
    · next hw => rw [this]; simp at hw; rw [hw]; simp
  obtain ⟨k1, k2, k3, k4, k5⟩ := fireS1_keeps d.phase s
  unfold fireD
  split
  · refine ⟨{ fireS1 d.phase s with dirty := true }, ?_, k1, k2, k3, k4, k5, e1, e2⟩
    show (dirtyAll (fireSs d.phase d.sides))[k]? = _
    unfold dirtyAll fireSs
    rw [List.getElem?_map, List.getElem?_map, h]; rfl
  · refine ⟨fireS1 d.phase s, ?_, k1, k2, k3, k4, k5, e1, e2⟩
    show (fireSs d.phase d.sides)[k]? = _
    unfold fireSs
    rw [List.getElem?_map, h]; rfl
theorem fireMl_at {d : Dn} {k : Nat} {s : Sd} (h : d.sides[k]? = some s) : fireMl d = fireMs d.id d.phase (d.sides.take k) ++ (fireM1 d.id d.phase s ++ fireMs d.id d.phase (d.sides.drop (k + 1))) := by
  have hk := (List.getElem?_eq_some_iff.1 h).1
  have e : d.sides = d.sides.take k ++ s :: d.sides.drop (k + 1) := by
    rw [← (List.getElem?_eq_some_iff.1 h).2, List.getElem_cons_drop hk, List.take_append_drop]
  unfold fireMl
  conv => lhs; rw [e]
  unfold fireMs
  rw [List.flatMap_append, List.flatMap_cons]

end Go.Proofs.Ytogbjpipkegecaa
