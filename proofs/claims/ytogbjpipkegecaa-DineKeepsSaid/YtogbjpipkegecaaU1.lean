/- Layer 13 (mathematics): which diner may be, what comes to it, what it does. -/
import Derived.Test.YtogbjpipkegecaaDin
namespace Go.Proofs.Ytogbjpipkegecaa

def sideD (id last : Int) (s : Sd) : Bool := decide (last < s.peer) && (decide (s.peer ≠ id) && (decide (0 ≤ s.epoch) && (decide (s.epoch ≤ 65535) && (decide (0 ≤ s.state) && (decide (s.state ≤ 3) && !(s.dirty && !s.fork))))))
def sidesD (id : Int) : Int → List Sd → Bool
  | _, [] => true
  | last, s :: l => sideD id last s && sidesD id s.peer l
def lastD : Int → List Sd → Int
  | last, [] => last
  | _, s :: l => lastD s.peer l
def headD (d : Dn) : Bool := decide (0 ≤ d.id) && ((decide (d.phase = 0) || decide (d.phase = 1) || decide (d.phase = 2)) && decide (d.sides.length ≤ 63))
def dnOk (d : Dn) : Bool := headD d && sidesD d.id (-1) d.sides
theorem sidesD_app (id : Int) : ∀ (l : List Sd) (last : Int) (s : Sd), sidesD id last (l ++ [s]) = (sidesD id last l && sideD id (lastD last l) s)
  | [], last, s => by simp [sidesD, lastD]
  | t :: l, last, s => by
    show (sideD id last t && sidesD id t.peer (l ++ [s])) = (sideD id last t && sidesD id t.peer l && sideD id (lastD t.peer l) s)
    rw [sidesD_app id l t.peer s, Bool.and_assoc]
theorem sidesD_pre (id : Int) : ∀ (l r : List Sd) (last : Int), sidesD id last l = false → sidesD id last (l ++ r) = false
  | [], _, _, h => by simp [sidesD] at h
  | t :: l, r, last, h => by
    show (sideD id last t && sidesD id t.peer (l ++ r)) = false
    have h : (sideD id last t && sidesD id t.peer l) = false := h
    cases e : sideD id last t with
    | false => rfl
    | true =>
      rw [e, Bool.true_and] at h
      rw [sidesD_pre id l r t.peer h]; rfl
theorem lastD_app (l : List Sd) (last : Int) (s : Sd) : lastD last (l ++ [s]) = s.peer := by
  induction l generalizing last with
  | nil => rfl
  | cons t l ih => exact ih t.peer
theorem lastD_low (id : Int) : ∀ (l : List Sd) (last : Int), sidesD id last l = true → last ≤ lastD last l
  | [], _, _ => Int.le_refl _
  | s :: l, last, h => by
    have h : (sideD id last s && sidesD id s.peer l) = true := h
    rw [Bool.and_eq_true] at h
    have h1 := lastD_low id l s.peer h.2
    have h2 := h.1
    unfold sideD at h2
    rw [Bool.and_eq_true, decide_eq_true_eq] at h2
    show last ≤ lastD last (s :: l)
    show last ≤ lastD s.peer l
    omega

-- what goes out of a side, and what is left of it
def hot (ph : Int) (s : Sd) : Bool := s.fork && (s.dirty && (s.token && decide (ph ≠ 2)))
def gone (ph : Int) (s : Sd) : Sd := if hot ph s = true then { s with fork := false, dirty := false } else s
def wants (ph : Int) (s : Sd) : Bool := !s.fork && (s.token && decide (ph = 1))
def asked (ph : Int) (s : Sd) : Sd := if wants ph s = true then { s with token := false } else s
def fireS1 (ph : Int) (s : Sd) : Sd := asked ph (gone ph s)
def forkM (id : Int) (s : Sd) : Ml := ⟨id, s.peer, 1, s.epoch, 0⟩
def tokenM (id : Int) (s : Sd) : Ml := ⟨id, s.peer, 2, s.epoch, 0⟩
def fireM1 (id ph : Int) (s : Sd) : List Ml := (if hot ph s = true then [forkM id s] else []) ++ (if wants ph (gone ph s) = true then [tokenM id s] else [])
def fireSs (ph : Int) (L : List Sd) : List Sd := L.map (fireS1 ph)
def fireMs (id ph : Int) (L : List Sd) : List Ml := L.flatMap (fireM1 id ph)
def dirtyAll (L : List Sd) : List Sd := L.map fun s => { s with dirty := true }
def eats (ph : Int) (L : List Sd) : Bool := decide (ph = 1) && L.all (·.fork)
def fireD (d : Dn) : Dn := if eats d.phase (fireSs d.phase d.sides) = true then ⟨d.id, 2, dirtyAll (fireSs d.phase d.sides)⟩ else ⟨d.id, d.phase, fireSs d.phase d.sides⟩
def fireMl (d : Dn) : List Ml := fireMs d.id d.phase d.sides

/-- nothing is to be done there -/
def calm (ph : Int) (s : Sd) : Bool := !hot ph s && !wants ph s
theorem calm_fire {ph : Int} {s : Sd} (h : calm ph s = true) (id : Int) : fireS1 ph s = s ∧ fireM1 id ph s = [] := by
  unfold calm at h
  simp only [Bool.and_eq_true, Bool.not_eq_true'] at h
  have hg : gone ph s = s := by unfold gone; rw [if_neg (by rw [h.1]; simp)]
  unfold fireS1 fireM1
  rw [hg]
  unfold asked
  rw [h.1, h.2]
  exact ⟨rfl, rfl⟩
theorem fire_calm (ph : Int) (s : Sd) : calm ph (fireS1 ph s) = true := by
  obtain ⟨p, e, t, f, di, k, b, a⟩ := s
  by_cases h1 : ph = 1
  · subst h1
    cases f <;> cases di <;> cases k <;> rfl
  · by_cases h2 : ph = 2
    · subst h2
      cases f <;> cases di <;> cases k <;> rfl
    · cases f <;> cases di <;> cases k <;> simp [fireS1, gone, asked, hot, wants, calm, h1, h2]
/-- one rule: the fork of a side goes -/
theorem fire_hot {ph : Int} {s : Sd} (h : hot ph s = true) (id : Int) : fireS1 ph { s with fork := false, dirty := false } = fireS1 ph s ∧ fireM1 id ph s = forkM id s :: fireM1 id ph { s with fork := false, dirty := false } := by
  have hg : gone ph s = { s with fork := false, dirty := false } := by unfold gone; rw [if_pos h]
  have hn : hot ph { s with fork := false, dirty := false } = false := by unfold hot; rfl
  have hg2 : gone ph { s with fork := false, dirty := false } = { s with fork := false, dirty := false } := by unfold gone; rw [if_neg (by rw [hn]; simp)]
  unfold fireS1 fireM1
  rw [hg, hg2, h, hn]
  exact ⟨rfl, rfl⟩
/-- .. the wish for it goes -/
theorem fire_wants {ph : Int} {s : Sd} (h : hot ph s = false) (hw : wants ph s = true) (id : Int) : fireS1 ph { s with token := false } = fireS1 ph s ∧ fireM1 id ph s = tokenM id s :: fireM1 id ph { s with token := false } := by
  have hg : gone ph s = s := by unfold gone; rw [if_neg (by rw [h]; simp)]
  have hn : hot ph { s with token := false } = false := by unfold hot; simp
  have hg2 : gone ph { s with token := false } = { s with token := false } := by unfold gone; rw [if_neg (by rw [hn]; simp)]
  have hw2 : wants ph { s with token := false } = false := by unfold wants; simp
  unfold fireS1 fireM1
  rw [hg, hg2, h, hn]
  unfold asked
  rw [hw, hw2]
  exact ⟨rfl, rfl⟩
theorem fireSs_calm {ph : Int} {L : List Sd} (h : L.all (calm ph) = true) (id : Int) : fireSs ph L = L ∧ fireMs id ph L = [] := by
  induction L with
  | nil => exact ⟨rfl, rfl⟩
  | cons s L ih =>
    rw [List.all_cons, Bool.and_eq_true] at h
    obtain ⟨h1, h2⟩ := calm_fire h.1 id
    obtain ⟨h3, h4⟩ := ih h.2
    unfold fireSs fireMs at *
    rw [List.map_cons, List.flatMap_cons, h1, h2, h3, h4]
    exact ⟨rfl, rfl⟩
theorem fireSs_all (ph : Int) (L : List Sd) : (fireSs ph L).all (calm ph) = true := by
  unfold fireSs
  rw [List.all_map, List.all_eq_true]
  intro s _
  exact fire_calm ph s

/-- the first side at which a rule applies: its place -/
theorem fire_at {ph : Int} {L : List Sd} {k : Nat} {s t : Sd} {m : Ml} (id : Int) (hp : (L.take k).all (calm ph) = true) (hs : L[k]? = some s) (h1 : fireS1 ph t = fireS1 ph s) (h2 : fireM1 id ph s = m :: fireM1 id ph t) :
    fireSs ph (L.set k t) = fireSs ph L ∧ fireMs id ph L = m :: fireMs id ph (L.set k t) := by
  have hk := (List.getElem?_eq_some_iff.1 hs).1
  have e : L = L.take k ++ s :: L.drop (k + 1) := by
    have := (List.getElem?_eq_some_iff.1 hs).2
    rw [← this, List.getElem_cons_drop hk, List.take_append_drop]
  have e2 : L.set k t = L.take k ++ t :: L.drop (k + 1) := by
    rw [List.set_eq_take_append_cons_drop, if_pos hk]
  obtain ⟨c1, c2⟩ := fireSs_calm hp id
  rw [e2]
  constructor
  · conv => rhs; rw [e]
    unfold fireSs at *
    rw [List.map_append, List.map_append, List.map_cons, List.map_cons, h1]
  · conv => lhs; rw [e]
    unfold fireMs at *
    rw [List.flatMap_append, List.flatMap_append, c2, List.flatMap_cons, List.flatMap_cons, h2]
    rfl

/-- the first rule that applies -/
inductive One (d : Dn) : Dn → List Ml → Bool → Prop
  | fork (k : Nat) (s : Sd) (hp : (d.sides.take k).all (calm d.phase) = true) (hs : d.sides[k]? = some s) (h : hot d.phase s = true) : One d ⟨d.id, d.phase, d.sides.set k { s with fork := false, dirty := false }⟩ [forkM d.id s] true
  | token (k : Nat) (s : Sd) (hp : (d.sides.take k).all (calm d.phase) = true) (hs : d.sides[k]? = some s) (h : hot d.phase s = false) (hw : wants d.phase s = true) : One d ⟨d.id, d.phase, d.sides.set k { s with token := false }⟩ [tokenM d.id s] true
  | eat (hc : d.sides.all (calm d.phase) = true) (h : eats d.phase d.sides = true) : One d ⟨d.id, 2, dirtyAll d.sides⟩ [] true
  | none (hc : d.sides.all (calm d.phase) = true) (h : eats d.phase d.sides = false) : One d d [] false
theorem eating_calm (L : List Sd) : L.all (calm 2) = true := by
  rw [List.all_eq_true]
  intro s _
  obtain ⟨p, e, t, f, di, k, b, a⟩ := s
  cases f <;> cases di <;> cases k <;> rfl
theorem eats_two (L : List Sd) : eats 2 L = false := rfl
/-- a rule is a part of all that is to be done -/
theorem One.fire {d e : Dn} {l : List Ml} {b : Bool} (h : One d e l b) : fireD e = fireD d ∧ fireMl d = l ++ fireMl e ∧ (b = false → fireD d = d ∧ fireMl d = []) := by
  cases h with
  | fork k s hp hs h =>
    obtain ⟨a1, a2⟩ := fire_hot h d.id
    obtain ⟨b1, b2⟩ := fire_at d.id hp hs a1 a2
    refine ⟨?_, b2, fun e => by cases e⟩
    unfold fireD
    dsimp only
    rw [b1]
  | token k s hp hs h hw =>
    obtain ⟨a1, a2⟩ := fire_wants h hw d.id
    obtain ⟨b1, b2⟩ := fire_at d.id hp hs a1 a2
    refine ⟨?_, b2, fun e => by cases e⟩
    unfold fireD
    dsimp only
    rw [b1]
  | eat hc h =>
    obtain ⟨c1, c2⟩ := fireSs_calm hc d.id
    obtain ⟨c3, c4⟩ := fireSs_calm (eating_calm (dirtyAll d.sides)) d.id
    refine ⟨?_, ?_, fun e => by cases e⟩
    · unfold fireD
      dsimp only
      rw [c1, c3, h, eats_two]
      rfl
    · unfold fireMl
      dsimp only
      rw [c2, c4]
      rfl
  | none hc h =>
    obtain ⟨c1, c2⟩ := fireSs_calm hc d.id
    refine ⟨rfl, rfl, fun _ => ⟨?_, c2⟩⟩
    unfold fireD
    rw [c1, h]
    rfl
/-- how many rules may still apply, at most -/
def todo (d : Dn) : Nat := 2 * (d.sides.countP (·.fork) + d.sides.countP (·.token)) + (if d.phase = 1 then 1 else 0)
theorem countP_set_less {L : List Sd} {k : Nat} {s t : Sd} (p : Sd → Bool) (hs : L[k]? = some s) (h1 : p s = true) (h2 : p t = false) : (L.set k t).countP p + 1 = L.countP p := by
  have hk := (List.getElem?_eq_some_iff.1 hs).1
  have e : L = L.take k ++ s :: L.drop (k + 1) := by
    have := (List.getElem?_eq_some_iff.1 hs).2
    rw [← this, List.getElem_cons_drop hk, List.take_append_drop]
  have e2 : L.set k t = L.take k ++ t :: L.drop (k + 1) := by
    rw [List.set_eq_take_append_cons_drop, if_pos hk]
  rw [e2]
  conv => rhs; rw [e]
  rw [List.countP_append, List.countP_append, List.countP_cons, List.countP_cons, h1, h2]
  simp only [if_true, Bool.false_eq_true, if_false]
  omega
theorem countP_set_same {L : List Sd} {k : Nat} {s t : Sd} (p : Sd → Bool) (hs : L[k]? = some s) (h : p t = p s) : (L.set k t).countP p = L.countP p := by
  have hk := (List.getElem?_eq_some_iff.1 hs).1
  have e : L = L.take k ++ s :: L.drop (k + 1) := by
    have := (List.getElem?_eq_some_iff.1 hs).2
    rw [← this, List.getElem_cons_drop hk, List.take_append_drop]
  have e2 : L.set k t = L.take k ++ t :: L.drop (k + 1) := by
    rw [List.set_eq_take_append_cons_drop, if_pos hk]
  rw [e2]
  conv => rhs; rw [e]
  rw [List.countP_append, List.countP_append, List.countP_cons, List.countP_cons, h]
theorem countP_dirty (L : List Sd) (p : Sd → Bool) (h : ∀ s : Sd, p { s with dirty := true } = p s) : (dirtyAll L).countP p = L.countP p := by
  unfold dirtyAll
  rw [List.countP_map]
  congr 1
  funext s
  exact h s
theorem One.less {d e : Dn} {l : List Ml} (h : One d e l true) : todo e < todo d := by
  cases h with
  | fork k s hp hs h =>
    unfold hot at h
    simp only [Bool.and_eq_true] at h
    have c1 := countP_set_less (·.fork) hs h.1 (t := { s with fork := false, dirty := false }) rfl
    have c2 := countP_set_same (·.token) hs (t := { s with fork := false, dirty := false }) rfl
    unfold todo
    dsimp only
    split <;> omega
  | token k s hp hs h hw =>
    unfold wants at hw
    simp only [Bool.and_eq_true] at hw
    have c1 := countP_set_less (·.token) hs hw.2.1 (t := { s with token := false }) rfl
    have c2 := countP_set_same (·.fork) hs (t := { s with token := false }) rfl
    unfold todo
    dsimp only
    split <;> omega
  | eat hc h =>
    have hp : d.phase = 1 := by unfold eats at h; simp only [Bool.and_eq_true, decide_eq_true_eq] at h; exact h.1
    unfold todo
    dsimp only
    rw [countP_dirty _ _ (fun s => rfl), countP_dirty _ _ (fun s => rfl), hp]
    simp
theorem One.len {d e : Dn} {l : List Ml} {b : Bool} (h : One d e l b) : e.id = d.id ∧ e.sides.length = d.sides.length ∧ l.length ≤ 1 := by
  cases h <;> simp [dirtyAll]

end Go.Proofs.Ytogbjpipkegecaa
