/- Layer 15 (mathematics): what a drinker does, once, and till nothing changes. -/
import Derived.Test.YtpjpjchnfllcmaaMUL
namespace Go.Proofs.Ytpjpjchnfllcmaa

structure Dk where
  id : Int
  phase : Int
  sides : List Sd
  thirst : Int
  need : List Int
deriving DecidableEq
def Dk.dn (d : Dk) : Dn := ⟨d.id, d.phase, d.sides⟩
def isOpening (L : List Sd) : Bool := L.any fun s => decide (s.state = 1)
/-- its phase, ahead of layer 13's rules -/
def turnK (t : Int) (op : Bool) (ph : Int) : Int := if t = 1 ∧ ph = 0 then 1 else if t ≠ 1 ∧ ph = 2 ∧ op = false then 0 else ph
def needsB (need : List Int) (s : Sd) : Bool := decide (s.peer ∈ need)
def keptB (t : Int) (need : List Int) (s : Sd) : Bool := needsB need s && (decide (t = 2) || (decide (t = 1) && s.fork))
def pours (t : Int) (need : List Int) (s : Sd) : Bool := s.bottle && s.ask && !keptB t need s
def poured (t : Int) (need : List Int) (s : Sd) : Sd := if pours t need s = true then { s with bottle := false } else s
def asks (t : Int) (need : List Int) (s : Sd) : Bool := needsB need s && decide (t = 1) && s.ask && !s.bottle
def bottleS (t : Int) (need : List Int) (s : Sd) : Sd := if asks t need (poured t need s) = true then { poured t need s with ask := false } else poured t need s
def bottleM (id t : Int) (need : List Int) (s : Sd) : List Ml := (if pours t need s = true then [⟨id, s.peer, 3, s.epoch, 0⟩] else []) ++ (if asks t need (poured t need s) = true then [⟨id, s.peer, 4, s.epoch, 0⟩] else [])
def missB (need : List Int) (L : List Sd) : Bool := L.any fun s => needsB need s && !s.bottle
def preK (d : Dk) : Dn := ⟨d.id, turnK d.thirst (isOpening d.sides) d.phase, d.sides⟩
def onceK (d : Dk) : Dk × List Ml :=
  (⟨(fireD (preK d)).id, (fireD (preK d)).phase, (fireD (preK d)).sides.map (bottleS d.thirst d.need), if d.thirst = 1 ∧ missB d.need ((fireD (preK d)).sides.map (bottleS d.thirst d.need)) = false then 2 else d.thirst, d.need⟩,
    fireMl (preK d) ++ (fireD (preK d)).sides.flatMap (bottleM d.id d.thirst d.need))

/-- how many things a side has -/
def thing (s : Sd) : Nat := cond s.fork 1 0 + cond s.token 1 0 + cond s.bottle 1 0 + cond s.ask 1 0
def things (L : List Sd) : Nat := (L.map thing).sum
def rankK (t ph : Int) : Nat := if t = 1 then (if ph = 0 then 6 else if ph = 1 then 5 else 4) else (if ph = 1 then 3 else if ph = 2 then 2 else 1)
def leftK (d : Dk) : Nat := 7 * things d.sides + rankK d.thirst d.phase

theorem fireS1_thing (id ph : Int) (s : Sd) : thing (fireS1 ph s) + (fireM1 id ph s).length = thing s ∧ ((fireM1 id ph s) = [] → fireS1 ph s = s) := by
  obtain ⟨p, e, t, f, di, k, b, a⟩ := s
  by_cases h1 : ph = 1
  · subst h1
    cases f <;> cases di <;> cases k <;> cases b <;> cases a <;> simp [fireS1, fireM1, gone, asked, hot, wants, thing]
  · by_cases h2 : ph = 2
    · subst h2
      cases f <;> cases di <;> cases k <;> cases b <;> cases a <;> simp [fireS1, fireM1, gone, asked, hot, wants, thing]
    · cases f <;> cases di <;> cases k <;> cases b <;> cases a <;> simp [fireS1, fireM1, gone, asked, hot, wants, thing, h1, h2]
theorem bottleS_thing (id t : Int) (need : List Int) (s : Sd) : thing (bottleS t need s) + (bottleM id t need s).length = thing s ∧ ((bottleM id t need s) = [] → bottleS t need s = s) := by
  unfold bottleS bottleM
  by_cases h1 : pours t need s = true
  · have hb : s.bottle = true := by unfold pours at h1; simp only [Bool.and_eq_true] at h1; exact h1.1.1
    have hp : poured t need s = { s with bottle := false } := by unfold poured; rw [if_pos h1]
    rw [if_pos h1, hp]
    have hth : thing { s with bottle := false } + 1 = thing s := by unfold thing; rw [hb]; simp; omega
    by_cases h2 : asks t need { s with bottle := false } = true
    · have ha : s.ask = true := by unfold asks at h2; simp only [Bool.and_eq_true] at h2; exact h2.1.2
      rw [if_pos h2, if_pos h2]
      refine ⟨?_, fun h => by simp at h⟩
      unfold thing at *
      rw [ha, hb]; simp <;> omega
    · rw [if_neg h2, if_neg h2]
      exact ⟨by simpa using hth, fun h => by simp at h⟩
  · have hp : poured t need s = s := by unfold poured; rw [if_neg h1]
    rw [if_neg h1, hp]
    by_cases h2 : asks t need s = true
    · have ha : s.ask = true := by unfold asks at h2; simp only [Bool.and_eq_true] at h2; exact h2.1.2
      rw [if_pos h2, if_pos h2]
      refine ⟨?_, fun h => by simp at h⟩
      unfold thing; rw [ha]; simp
    · rw [if_neg h2, if_neg h2]
      exact ⟨rfl, fun _ => rfl⟩
theorem dirty_thing (s : Sd) : thing { s with dirty := true } = thing s := rfl
theorem things_map {f : Sd → Sd} {g : Sd → List Ml} (h : ∀ s, thing (f s) + (g s).length = thing s) : ∀ L : List Sd, things (L.map f) + (L.flatMap g).length = things L
  | [] => rfl
  | s :: L => by
    have ih := things_map h L
    have hs := h s
    unfold things at *
    rw [List.map_cons, List.map_cons, List.sum_cons, List.flatMap_cons, List.length_append, List.map_cons, List.sum_cons]
    omega
theorem flat_nil {f : Sd → Sd} {g : Sd → List Ml} (h : ∀ s, g s = [] → f s = s) : ∀ {L : List Sd}, L.flatMap g = [] → L.map f = L
  | [], _ => rfl
  | s :: L, e => by
    rw [List.flatMap_cons, List.append_eq_nil_iff] at e
    rw [List.map_cons, h s e.1, flat_nil h e.2]
theorem things_dirty (L : List Sd) : things (dirtyAll L) = things L := by
  unfold things dirtyAll
  rw [List.map_map]; rfl
theorem fireD_things (d : Dn) : things (fireD d).sides + (fireMl d).length = things d.sides := by
  have h := things_map (f := fireS1 d.phase) (g := fireM1 d.id d.phase) (fun s => (fireS1_thing d.id d.phase s).1) d.sides
  unfold fireD
  split
  · dsimp only
    rw [things_dirty]; exact h
  · exact h
/-- what goes out was there -/
theorem once_things (d : Dk) : things (onceK d).1.sides + (onceK d).2.length = things d.sides := by
  have h1 := fireD_things (preK d)
  have h2 := things_map (f := bottleS d.thirst d.need) (g := bottleM d.id d.thirst d.need) (fun s => (bottleS_thing d.id d.thirst d.need s).1) (fireD (preK d)).sides
  unfold onceK
  dsimp only
  rw [List.length_append]
  have : (preK d).sides = d.sides := rfl
  rw [this] at h1
  omega
theorem fireD_ways (d : Dn) : (fireD d).id = d.id ∧ ((fireD d).phase = d.phase ∧ (fireD d).sides = fireSs d.phase d.sides ∨ d.phase = 1 ∧ (fireD d).phase = 2 ∧ (fireD d).sides = dirtyAll (fireSs d.phase d.sides)) := by
  unfold fireD
  split
  · next h =>
    refine ⟨rfl, .inr ⟨?_, rfl, rfl⟩⟩
    unfold eats at h
    simp only [Bool.and_eq_true, decide_eq_true_eq] at h
    exact h.1
  · exact ⟨rfl, .inl ⟨rfl, rfl⟩⟩
/-- what changes, once: its rank falls, or it stays -/
theorem once_rank (d : Dk) : rankK (onceK d).1.thirst (onceK d).1.phase < rankK d.thirst d.phase ∨ ((onceK d).1.thirst = d.thirst ∧ (onceK d).1.phase = d.phase ∧ (preK d).phase = d.phase ∧ (fireD (preK d)).sides = fireSs d.phase d.sides) := by
  obtain ⟨_, hw⟩ := fireD_ways (preK d)
  have ht : (onceK d).1.thirst = d.thirst ∨ d.thirst = 1 ∧ (onceK d).1.thirst = 2 := by
    unfold onceK
    dsimp only
    split
    · next h => exact .inr ⟨h.1, rfl⟩
    · exact .inl rfl
  have hp : (onceK d).1.phase = (fireD (preK d)).phase := rfl
  have hpre : (preK d).phase = d.phase ∨ d.thirst = 1 ∧ d.phase = 0 ∧ (preK d).phase = 1 ∨ d.thirst ≠ 1 ∧ d.phase = 2 ∧ (preK d).phase = 0 := by
    unfold preK turnK
    dsimp only
    split
    · next h => exact .inr (.inl ⟨h.1, h.2, rfl⟩)
    · split
      · next h => exact .inr (.inr ⟨h.1, h.2.1, rfl⟩)
      · exact .inl rfl
  rw [hp]
  have hsd : (preK d).sides = d.sides := rfl
  rcases ht with ht | ⟨ht1, ht2⟩
  · rw [ht]
    rcases hw with ⟨w1, w2⟩ | ⟨w1, w2, w3⟩
    · rcases hpre with e | ⟨e1, e2, e3⟩ | ⟨e1, e2, e3⟩
      · exact .inr ⟨rfl, w1.trans e, e, by rw [w2, e, hsd]⟩
      · left; rw [w1, e3, e1, e2]; decide
      · left; rw [w1, e3, e2]; unfold rankK; rw [if_neg e1, if_neg e1]; decide
    · left
      rw [w2]
      rcases hpre with e | ⟨e1, e2, e3⟩ | ⟨e1, e2, e3⟩
      · rw [← e, w1]; unfold rankK; split <;> decide
      · rw [e1, e2]; decide
      · rw [w1] at e3; omega
  · left
    rw [ht2, ht1]
    unfold rankK
    rw [if_neg (by omega), if_pos rfl]
    split <;> split <;> (try split) <;> (try split) <;> omega
theorem once_less {d : Dk} (h : (onceK d).1 ≠ d) : leftK (onceK d).1 < leftK d := by
  have h1 := once_things d
  unfold leftK
  have hr : ∀ t ph, rankK t ph ≤ 6 := fun t ph => by unfold rankK; split <;> split <;> (try split) <;> omega
  have hr1 : ∀ t ph, 1 ≤ rankK t ph := fun t ph => by unfold rankK; split <;> split <;> (try split) <;> omega
  rcases once_rank d with h2 | ⟨e1, e2, e3, e4⟩
  · omega
  · rw [e1, e2]
    by_cases hl : (onceK d).2.length = 0
    · exfalso
      have hnil := List.eq_nil_of_length_eq_zero hl
      unfold onceK at hnil
      dsimp only at hnil
      rw [List.append_eq_nil_iff] at hnil
      have s1 : fireSs d.phase d.sides = d.sides := by
        have hm : d.sides.flatMap (fireM1 d.id d.phase) = [] := by
          have := hnil.1
          unfold fireMl fireMs at this
          rw [e3] at this
          exact this
        exact flat_nil (fun s hs => (fireS1_thing d.id d.phase s).2 hs) hm
      have s2 : (fireD (preK d)).sides.map (bottleS d.thirst d.need) = (fireD (preK d)).sides := flat_nil (fun s hs => (bottleS_thing d.id d.thirst d.need s).2 hs) hnil.2
      apply h
      have i1 : (onceK d).1.sides = d.sides := by
        show (fireD (preK d)).sides.map (bottleS d.thirst d.need) = d.sides
        rw [s2, e4, s1]
      have i2 : (onceK d).1.id = d.id := (fireD_ways (preK d)).1
      have i3 : (onceK d).1.need = d.need := rfl
      generalize onceK d = q at *
      obtain ⟨⟨q1, q2, q3, q4, q5⟩, q6⟩ := q
      obtain ⟨d1, d2, d3, d4, d5⟩ := d
      dsimp only at *
      subst i1 i2 i3 e1 e2
      rfl
    · omega
/-- if nothing changes nothing goes out -/
theorem once_nil {d : Dk} (h : (onceK d).1 = d) : (onceK d).2 = [] := by
  have := once_things d
  rw [h] at this
  exact List.eq_nil_of_length_eq_zero (by omega)

/-- again and again, at most so often -/
def fireN : Nat → Dk → Dk × List Ml
  | 0, d => (d, [])
  | n + 1, d => if (onceK d).1 = d then (d, []) else ((fireN n (onceK d).1).1, (onceK d).2 ++ (fireN n (onceK d).1).2)
theorem fireN_same : ∀ {n m : Nat} {d : Dk}, leftK d < n → leftK d < m → fireN n d = fireN m d
  | 0, _, _, h, _ => by omega
  | _ + 1, 0, _, _, h => by omega
  | n + 1, m + 1, d, h1, h2 => by
    unfold fireN
    by_cases e : (onceK d).1 = d
    · rw [if_pos e, if_pos e]
    · have := once_less e
      rw [if_neg e, if_neg e, fireN_same (n := n) (m := m) (by omega) (by omega)]
/-- .. till nothing changes -/
def fireAll (d : Dk) : Dk × List Ml := fireN (leftK d + 1) d
theorem fireAll_end {d : Dk} (h : (onceK d).1 = d) : fireAll d = (d, []) := by
  unfold fireAll fireN
  rw [if_pos h]
theorem fireAll_on {d : Dk} (h : (onceK d).1 ≠ d) : fireAll d = ((fireAll (onceK d).1).1, (onceK d).2 ++ (fireAll (onceK d).1).2) := by
  have hl := once_less h
  have e : fireAll d = fireN (leftK d + 1) d := rfl
  rw [e]
  unfold fireN
  rw [if_neg h, fireN_same (n := leftK d) (m := leftK (onceK d).1 + 1) hl (by omega)]
  rfl
/-- what holds along, holds behind -/
theorem fireAll_keeps {I : Dk → Prop} (hI : ∀ d, I d → I (onceK d).1) : ∀ {n : Nat} {d : Dk}, leftK d < n → I d → I (fireAll d).1
  | 0, _, h, _ => by omega
  | n + 1, d, h, hd => by
    by_cases e : (onceK d).1 = d
    · rw [fireAll_end e]; exact hd
    · have := once_less e
      rw [fireAll_on e]
      exact fireAll_keeps hI (n := n) (by omega) (hI d hd)
theorem fireAll_still : ∀ {n : Nat} {d : Dk}, leftK d < n → (onceK (fireAll d).1).1 = (fireAll d).1
  | 0, _, h => by omega
  | n + 1, d, h => by
    by_cases e : (onceK d).1 = d
    · rw [fireAll_end e]; exact e
    · have := once_less e
      rw [fireAll_on e]
      exact fireAll_still (n := n) (by omega)
theorem fireAll_again (d : Dk) : fireAll (fireAll d).1 = ((fireAll d).1, []) := fireAll_end (fireAll_still (Nat.lt_succ_self _))
theorem fireAll_things : ∀ {n : Nat} {d : Dk}, leftK d < n → things (fireAll d).1.sides + (fireAll d).2.length = things d.sides
  | 0, _, h => by omega
  | n + 1, d, h => by
    by_cases e : (onceK d).1 = d
    · rw [fireAll_end e]; rfl
    · have hl := once_less e
      have h1 := once_things d
      have h2 := fireAll_things (n := n) (d := (onceK d).1) (by omega)
      rw [fireAll_on e, List.length_append]
      dsimp only
      omega
end Go.Proofs.Ytpjpjchnfllcmaa
