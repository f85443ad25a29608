/- Layer 15 (mathematics): who may be a drinker; behind Fire nothing is to be done; who drinks has what it needs, and keeps it. -/
import Derived.Test.YtpjpjchnfllcmaaW1
namespace Go.Proofs.Ytpjpjchnfllcmaa

def riseB : List Int → Bool
  | [] => true
  | [_] => true
  | a :: b :: l => decide (a < b) && riseB (b :: l)
def chkK (d : Dk) : Bool := dnOk d.dn && (decide (0 ≤ d.thirst) && decide (d.thirst ≤ 2)) && !(decide (d.thirst = 0) && !d.need.isEmpty) && (d.need.all fun p => d.sides.any fun s => s.peer == p) && riseB d.need
theorem bottleS_keeps (t : Int) (need : List Int) (s : Sd) : (bottleS t need s).peer = s.peer ∧ (bottleS t need s).epoch = s.epoch ∧ (bottleS t need s).state = s.state ∧ (bottleS t need s).fork = s.fork ∧ (bottleS t need s).dirty = s.dirty ∧ (bottleS t need s).token = s.token := by
  unfold bottleS poured
  split <;> split <;> exact ⟨rfl, rfl, rfl, rfl, rfl, rfl⟩
theorem dnOk_turn {d : Dn} {q : Int} (h : dnOk d = true) (hq : q = d.phase ∨ q = 0 ∨ q = 1) : dnOk ⟨d.id, q, d.sides⟩ = true := by
  rcases hq with rfl | hq
  · exact h
  · unfold dnOk headD at *
    dsimp only at *
    simp only [Bool.and_eq_true, Bool.or_eq_true, decide_eq_true_eq] at *
    exact ⟨⟨h.1.1, by rcases hq with rfl | rfl <;> simp, h.1.2.2⟩, h.2⟩
theorem pre_ok {d : Dk} (h : dnOk d.dn = true) : dnOk (preK d) = true := by
  unfold preK turnK
  refine dnOk_turn (d := d.dn) h ?_
  split
  · exact .inr (.inr rfl)
  · split
    · exact .inr (.inl rfl)
    · exact .inl rfl
/-- the sides of a diner, each turned so that its peer, epoch, state, fork, dirt stay -/
theorem dnOk_map {d : Dn} {f : Sd → Sd} (hf : ∀ s, (f s).peer = s.peer ∧ (f s).epoch = s.epoch ∧ (f s).state = s.state ∧ (f s).fork = s.fork ∧ (f s).dirty = s.dirty) (h : dnOk d = true) : dnOk ⟨d.id, d.phase, d.sides.map f⟩ = true := by
  unfold dnOk at *
  rw [Bool.and_eq_true] at *
  refine ⟨head_of h.1 rfl (.inl rfl) (by dsimp only; rw [List.length_map]), ?_⟩
  have key : ∀ (L : List Sd) (last : Int), sidesD d.id last L = true → sidesD d.id last (L.map f) = true := by
    intro L
    induction L with
    | nil => intro _ _; rfl
    | cons s L ih =>
      intro last h
      rw [sidesD_cons] at h
      rw [List.map_cons, sidesD_cons]
      obtain ⟨e1, e2, e3, e4, e5⟩ := hf s
      refine ⟨sideD_of h.1 e1 e2 e3 (by rw [e4, e5]; exact sideD_dirty h.1), ?_⟩
      rw [e1]
      exact ih _ h.2
  exact key _ _ h.2
theorem once_ok {d : Dk} (h : dnOk d.dn = true) : dnOk (onceK d).1.dn = true := by
  have h1 := dnOk_fire (pre_ok h)
  exact dnOk_map (f := bottleS d.thirst d.need) (fun s => by obtain ⟨e1, e2, e3, e4, e5, _⟩ := bottleS_keeps d.thirst d.need s; exact ⟨e1, e2, e3, e4, e5⟩) h1
/-- the k-th side, once: what stays -/
theorem once_at {d : Dk} {k : Nat} {s : Sd} (h : d.sides[k]? = some s) : ∃ u v, (fireD (preK d)).sides[k]? = some u ∧ (u.peer = s.peer ∧ u.epoch = s.epoch ∧ u.state = s.state ∧ u.bottle = s.bottle ∧ u.ask = s.ask) ∧ v = bottleS d.thirst d.need u ∧ (onceK d).1.sides[k]? = some v := by
  have hp : (preK d).sides[k]? = some s := h
  have key : ∃ u, (fireD (preK d)).sides[k]? = some u ∧ (u.peer = s.peer ∧ u.epoch = s.epoch ∧ u.state = s.state ∧ u.bottle = s.bottle ∧ u.ask = s.ask) := by
    obtain ⟨_, ⟨_, w⟩ | ⟨_, _, w⟩⟩ := fireD_ways (preK d)
    · rw [w]
      refine ⟨_, by unfold fireSs; rw [List.getElem?_map, hp]; rfl, ?_⟩
      exact fireS1_keeps _ _
    · rw [w]
      refine ⟨_, by unfold dirtyAll fireSs; rw [List.getElem?_map, List.getElem?_map, hp]; rfl, ?_⟩
      exact fireS1_keeps _ _
  obtain ⟨u, h1, h2⟩ := key
  refine ⟨u, _, h1, h2, rfl, ?_⟩
  show ((fireD (preK d)).sides.map (bottleS d.thirst d.need))[k]? = _
  rw [List.getElem?_map, h1]; rfl
theorem once_len (d : Dk) : (onceK d).1.sides.length = d.sides.length := by
  show ((fireD (preK d)).sides.map _).length = _
  rw [List.length_map, (fireD_len _).1]; rfl
theorem once_peers (d : Dk) : (onceK d).1.sides.map (fun s => (s.peer, s.epoch, s.state)) = d.sides.map (fun s => (s.peer, s.epoch, s.state)) := by
  refine List.ext_getElem? fun k => ?_
  rw [List.getElem?_map, List.getElem?_map]
  cases h : d.sides[k]? with
  | none =>
    rw [List.getElem?_eq_none (by rw [once_len]; exact List.getElem?_eq_none_iff.1 h)]
  | some s =>
    obtain ⟨u, v, _, ⟨e1, e2, e3, _⟩, rfl, hv⟩ := once_at h
    obtain ⟨f1, f2, f3, _⟩ := bottleS_keeps d.thirst d.need u
    rw [hv]
    simp only [Option.map_some, f1, f2, f3, e1, e2, e3]
theorem any_peer (p : Int) (L : List Sd) : (L.any fun s => s.peer == p) = (L.map (fun s => (s.peer, s.epoch, s.state))).any (fun x => x.1 == p) := by
  rw [List.any_map]; rfl
theorem once_thirst (d : Dk) : (onceK d).1.thirst = d.thirst ∨ d.thirst = 1 ∧ (onceK d).1.thirst = 2 ∧ missB d.need (onceK d).1.sides = false := by
  show (if d.thirst = 1 ∧ missB d.need ((fireD (preK d)).sides.map (bottleS d.thirst d.need)) = false then (2 : Int) else d.thirst) = _ ∨ _
  by_cases h : d.thirst = 1 ∧ missB d.need ((fireD (preK d)).sides.map (bottleS d.thirst d.need)) = false
  · right
    refine ⟨h.1, ?_, h.2⟩
    show (if _ then (2 : Int) else d.thirst) = 2
    rw [if_pos h]
  · left; rw [if_neg h]
theorem once_chk {d : Dk} (h : chkK d = true) : chkK (onceK d).1 = true := by
  unfold chkK at *
  simp only [Bool.and_eq_true, decide_eq_true_eq, Bool.not_eq_true', List.all_eq_true] at *
  obtain ⟨⟨⟨⟨h1, h2, h3⟩, h4⟩, h5⟩, h6⟩ := h
  refine ⟨⟨⟨⟨once_ok h1, ?_⟩, ?_⟩, fun p hp => ?_⟩, h6⟩
  · rcases once_thirst d with e | ⟨_, e, _⟩ <;> rw [e] <;> omega
  · rcases once_thirst d with e | ⟨_, e, _⟩ <;> rw [e]
    · exact h4
    · rfl
  · rw [any_peer, once_peers, ← any_peer]
    exact h5 p hp
theorem fire_chk {d : Dk} (h : chkK d = true) : chkK (fireAll d).1 = true := fireAll_keeps (I := fun d => chkK d = true) (fun _ h => once_chk h) (Nat.lt_succ_self _) h
theorem fire_id (d : Dk) : (fireAll d).1.id = d.id ∧ (fireAll d).1.need = d.need ∧ (fireAll d).1.sides.map (fun s => (s.peer, s.epoch, s.state)) = d.sides.map (fun s => (s.peer, s.epoch, s.state)) :=
  fireAll_keeps (I := fun e => e.id = d.id ∧ e.need = d.need ∧ e.sides.map (fun s => (s.peer, s.epoch, s.state)) = d.sides.map (fun s => (s.peer, s.epoch, s.state)))
    (fun e ⟨h1, h2, h3⟩ => ⟨(fireD_ways (preK e)).1.trans h1, h2, (once_peers e).trans h3⟩) (Nat.lt_succ_self _) ⟨rfl, rfl, rfl⟩

/-- where nothing changes: no wish is left, but for what is kept; one who is thirsty has asked for all, and is hungry or eats -/
theorem still_side {d : Dk} (h : (onceK d).1 = d) {s : Sd} (hs : s ∈ d.sides) : pours d.thirst d.need s = false ∧ asks d.thirst d.need s = false := by
  have hnil := once_nil h
  have hr := once_rank d
  rw [h] at hr
  rcases hr with hr | ⟨_, _, e3, e4⟩
  · omega
  · unfold onceK at hnil
    dsimp only at hnil
    rw [List.append_eq_nil_iff] at hnil
    have s1 : fireSs d.phase d.sides = d.sides := by
      have hm : d.sides.flatMap (fireM1 d.id d.phase) = [] := by
        have := hnil.1
        unfold fireMl fireMs at this
        rw [e3] at this
        exact this
      exact flat_nil (fun s hs => (fireS1_thing d.id d.phase s).2 hs) hm
    have hb := hnil.2
    rw [e4, s1, List.flatMap_eq_nil_iff] at hb
    have := hb s hs
    unfold bottleM at this
    rw [List.append_eq_nil_iff] at this
    obtain ⟨b1, b2⟩ := this
    have p1 : pours d.thirst d.need s = false := by
      cases hp : pours d.thirst d.need s
      · rfl
      · rw [hp] at b1; simp at b1
    refine ⟨p1, ?_⟩
    have hpo : poured d.thirst d.need s = s := by unfold poured; rw [p1]; rfl
    rw [hpo] at b2
    cases hp : asks d.thirst d.need s
    · rfl
    · rw [hp] at b2; simp at b2
theorem still_phase {d : Dk} (h : (onceK d).1 = d) : ¬ (d.thirst = 1 ∧ d.phase = 0) := by
  rintro ⟨h1, h2⟩
  have hr := once_rank d
  rw [h] at hr
  rcases hr with hr | ⟨_, _, e3, _⟩
  · omega
  · unfold preK turnK at e3
    dsimp only at e3
    rw [if_pos ⟨h1, h2⟩] at e3
    omega

/-- who drinks has what it needs -/
def HasK (d : Dk) : Prop := d.thirst = 2 → missB d.need d.sides = false
theorem bottle_drinks {need : List Int} {s : Sd} (h : needsB need s = true) : (bottleS 2 need s).bottle = s.bottle := by
  have h1 : keptB 2 need s = true := by unfold keptB; rw [h]; rfl
  have h2 : pours 2 need s = false := by unfold pours; rw [h1]; simp
  have h3 : poured 2 need s = s := by unfold poured; rw [h2]; rfl
  have h4 : asks 2 need s = false := by unfold asks; simp
  unfold bottleS
  rw [h3, h4]; rfl
theorem once_has {d : Dk} (h : HasK d) : HasK (onceK d).1 := by
  intro ht
  rcases once_thirst d with e | ⟨_, _, e⟩
  · rw [e] at ht
    have hm := h ht
    show missB d.need (onceK d).1.sides = false
    unfold missB at *
    rw [List.any_eq_false] at *
    intro v hv
    obtain ⟨k, hk⟩ := List.getElem?_of_mem hv
    have hkl : k < d.sides.length := by rw [← once_len]; exact (List.getElem?_eq_some_iff.1 hk).1
    obtain ⟨u, v', h1, ⟨e1, _, _, e4, _⟩, rfl, h3⟩ := once_at (List.getElem?_eq_getElem hkl)
    rw [h3] at hk
    cases hk
    have hs := hm _ (List.getElem_mem hkl)
    rw [ht]
    obtain ⟨f1, _⟩ := bottleS_keeps 2 d.need u
    have hn : needsB d.need (bottleS 2 d.need u) = needsB d.need u := by unfold needsB; rw [f1]
    have hn2 : needsB d.need u = needsB d.need d.sides[k] := by unfold needsB; rw [e1]
    rw [hn]
    cases hq : needsB d.need u
    · simp
    · rw [bottle_drinks hq, e4]
      rw [hn2] at hq
      rw [hq] at hs
      simpa using hs
  · exact e
theorem fire_has {d : Dk} (h : HasK d) : HasK (fireAll d).1 := fireAll_keeps (I := HasK) (fun _ h => once_has h) (Nat.lt_succ_self _) h
/-- who drinks drinks on -/
theorem fire_drinks {d : Dk} (h : d.thirst = 2) : (fireAll d).1.thirst = 2 := fireAll_keeps (I := fun d => d.thirst = 2) (fun d h => by
  rcases once_thirst d with e | ⟨_, e, _⟩
  · rw [e]; exact h
  · exact e) (Nat.lt_succ_self _) h
/-- who drinks then, and didn't, was thirsty -/
theorem fire_thirst {d : Dk} (h : d.thirst ≠ 1) : (fireAll d).1.thirst = d.thirst := fireAll_keeps (I := fun e => e.thirst = d.thirst) (fun e he => by
  rcases once_thirst e with q | ⟨q, _, _⟩
  · rw [q]; exact he
  · rw [he] at q; exact absurd q h) (Nat.lt_succ_self _) rfl
/-- who needs nothing drinks at once -/
theorem fire_none {d : Dk} (h : d.thirst = 1) (hn : d.need = []) : (fireAll d).1.thirst = 2 := by
  have hm : ∀ L, missB d.need L = false := fun L => by
    unfold missB needsB
    rw [hn]
    simp
  have h1 : (onceK d).1.thirst = 2 := by
    show (if d.thirst = 1 ∧ missB d.need _ = false then (2 : Int) else d.thirst) = 2
    rw [if_pos ⟨h, hm _⟩]
  have hne : (onceK d).1 ≠ d := fun e => by rw [e] at h1; omega
  rw [fireAll_on hne]
  exact fire_drinks h1
end Go.Proofs.Ytpjpjchnfllcmaa
