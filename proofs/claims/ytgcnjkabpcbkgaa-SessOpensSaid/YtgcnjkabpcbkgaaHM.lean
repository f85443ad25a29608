/- Layer 17 (mathematics): a node's sessions, as lists; what follows from acts on them. -/
import Derived.Test.YtgcnjkabpcbkgaaMath3
namespace Go.Proofs.Ytgcnjkabpcbkgaa

/-- a session -/
structure Se where
  id : Int
  need : List Int
  state : Int
  age : Int
deriving DecidableEq
abbrev Bk := Int × List Se
def needH (l : List Int) : Bool := decide (SS l) && l.all (fun x => decide (0 ≤ x)) && decide (l.length ≤ 64)
def waitH (s : Se) : Bool := decide (s.state = 0) && decide (s.age = 0)
def seH (last : Int) (s : Se) : Bool := decide (1 ≤ s.id) && decide (s.id ≤ last) && needH s.need && decide (0 ≤ s.age)
/-- may a book be? -/
def chkH (b : Bk) : Bool := decide (0 ≤ b.1) && decide (b.2.length ≤ 8) && decide (SS (b.2.map Se.id)) && b.2.all (seH b.1) && (b.2.drop 1).all waitH && (b.2.take 1).all (fun s => waitH s || decide (s.state = 1))
def noH : Bk := (0, [])
def atH (l : List Se) (id : Int) : Option Nat := l.findIdx? fun s => s.id == id
def openH (b : Bk) (id : Int) (l : List Int) : Bk × Int :=
  if chkH b = true then (if id ≤ b.1 then (noH, 171) else if needH (norm l) = true then (if 8 ≤ b.2.length then (noH, 173) else ((id, b.2 ++ [⟨id, norm l, 0, 0⟩]), 0)) else (noH, 172)) else (noH, 170)
def pollH (b : Bk) (id : Int) : Int × Int := if chkH b = true then (match atH b.2 id with | none => (0, 174) | some k => match b.2[k]? with | none => (0, 174) | some s => (s.state, 0)) else (0, 170)
def grantH (b : Bk) : Bk × Int × Int :=
  if chkH b = true then (match b.2 with | [] => (noH, 0, 175) | s :: t => if s.state = 1 then (noH, 0, 175) else ((b.1, ⟨s.id, s.need, 1, s.age⟩ :: t), s.id, 0)) else (noH, 0, 170)
def endH (b : Bk) (id want : Int) : Bk × Int :=
  if chkH b = true then (match atH b.2 id with | none => (noH, 174) | some k => match b.2[k]? with | none => (noH, 174) | some s => if s.state = want then ((b.1, b.2.eraseIdx k), 0) else (noH, 175)) else (noH, 170)
def olderH (a : Int) : Int := if a < 4611686018427387904 then a + 1 else a
def tickH (b : Bk) (hold : Int) : Bk × Int × Int :=
  if chkH b = true then (match b.2 with | [] => (b, 0, 0) | s :: t => if s.state = 1 then (if hold ≤ olderH s.age then ((b.1, t), s.id, 0) else ((b.1, ⟨s.id, s.need, 1, olderH s.age⟩ :: t), 0, 0)) else (b, 0, 0)) else (noH, 0, 170)
def goesH (p : Int) (s : Se) : Bool := decide (s.state = 0) && decide (p ∈ s.need)
def goneH (b : Bk) (p : Int) : Bk × List Int × Int :=
  if chkH b = true then ((b.1, b.2.filter fun s => !goesH p s), (b.2.filter (goesH p)).map Se.id, 0) else (noH, [], 170)
/-- an act: the book, who ends by it or who is granted, what is wrong -/
def stepH (b : Bk) (k id n : Int) (need : List Int) : Bk × List Int × Int :=
  if k = 0 then ((openH b id need).1, [], (openH b id need).2)
  else if k = 1 then ((grantH b).1, [(grantH b).2.1], (grantH b).2.2)
  else if k = 2 then ((endH b id 1).1, [], (endH b id 1).2)
  else if k = 3 then ((endH b id 0).1, [], (endH b id 0).2)
  else if k = 4 then ((tickH b n).1, [(tickH b n).2.1], (tickH b n).2.2)
  else goneH b n

structure OkH (b : Bk) : Prop where
  last : 0 ≤ b.1
  few : b.2.length ≤ 8
  rise : SS (b.2.map Se.id)
  each : ∀ s ∈ b.2, 1 ≤ s.id ∧ s.id ≤ b.1 ∧ needH s.need = true ∧ 0 ≤ s.age
  rest : ∀ s ∈ b.2.drop 1, s.state = 0 ∧ s.age = 0
  first : ∀ s ∈ b.2.take 1, (s.state = 0 ∧ s.age = 0) ∨ s.state = 1
theorem okH_iff {b : Bk} : chkH b = true ↔ OkH b := by
  unfold chkH
  simp only [Bool.and_eq_true, decide_eq_true_eq, List.all_eq_true, seH, waitH, Bool.or_eq_true]
  constructor
  · rintro ⟨⟨⟨⟨⟨h1, h2⟩, h3⟩, h4⟩, h5⟩, h6⟩
    exact ⟨h1, h2, h3, fun s hs => by obtain ⟨⟨⟨a, b⟩, c⟩, d⟩ := h4 s hs; exact ⟨a, b, c, d⟩, h5, h6⟩
  · rintro ⟨h1, h2, h3, h4, h5, h6⟩
    exact ⟨⟨⟨⟨⟨h1, h2⟩, h3⟩, fun s hs => by obtain ⟨a, b, c, d⟩ := h4 s hs; exact ⟨⟨⟨a, b⟩, c⟩, d⟩⟩, h5⟩, h6⟩
theorem OkH.no : OkH noH := ⟨Int.le_refl _, Nat.zero_le _, List.Pairwise.nil, fun _ h => (by cases h), fun _ h => (by cases h), fun _ h => (by cases h)⟩
theorem OkH.ways {b : Bk} (h : OkH b) {s : Se} (hs : s ∈ b.2) : (s.state = 0 ∧ s.age = 0) ∨ s.state = 1 := by
  rw [← List.take_append_drop 1 b.2] at hs
  rcases List.mem_append.1 hs with q | q
  · exact h.first s q
  · exact .inl (h.rest s q)
theorem OkH.sub {b : Bk} (h : OkH b) {l : List Se} (hl : l.Sublist b.2) : OkH (b.1, l) := by
  refine ⟨h.last, Nat.le_trans hl.length_le h.few, ?_, fun s hs => h.each s (hl.subset hs), fun s hs => h.rest s ((hl.drop 1).subset hs), fun s hs => h.ways (hl.subset (List.mem_of_mem_take hs))⟩
  exact List.Pairwise.sublist (hl.map _) h.rise
theorem OkH.nodup {b : Bk} (h : OkH b) : (b.2.map Se.id).Nodup := h.rise.nodup
theorem OkH.inj {b : Bk} (h : OkH b) {s t : Se} (hs : s ∈ b.2) (ht : t ∈ b.2) (e : s.id = t.id) : s = t := by
  have hr := h.rise
  unfold SS at hr
  rw [List.pairwise_map] at hr
  obtain ⟨i, hi, rfl⟩ := List.getElem_of_mem hs
  obtain ⟨j, hj, rfl⟩ := List.getElem_of_mem ht
  rw [List.pairwise_iff_getElem] at hr
  rcases Nat.lt_trichotomy i j with q | q | q
  · have := hr i j hi hj q; omega
  · subst q; rfl
  · have := hr j i hj hi q; omega
theorem atH_some {l : List Se} {id : Int} {k : Nat} (h : atH l id = some k) : ∃ s, l[k]? = some s ∧ s.id = id := by
  unfold atH at h
  obtain ⟨hk, h1, _⟩ := List.findIdx?_eq_some_iff_getElem.1 h
  exact ⟨l[k], List.getElem?_eq_getElem hk, by simpa using h1⟩
theorem atH_none {l : List Se} {id : Int} : atH l id = none ↔ ∀ s ∈ l, s.id ≠ id := by
  unfold atH
  rw [List.findIdx?_eq_none_iff]
  exact ⟨fun h s hs e => by have := h s hs; simp [e] at this, fun h s hs => by simpa using h s hs⟩
theorem OkH.head {b : Bk} {s s' : Se} {t : List Se} (h : OkH (b.1, s :: t)) (e : s'.id = s.id) (en : s'.need = s.need) (es : s'.state = 1) (ea : 0 ≤ s'.age) : OkH (b.1, s' :: t) := by
  refine ⟨h.last, h.few, ?_, fun x hx => ?_, h.rest, fun x hx => ?_⟩
  · have := h.rise
    dsimp only at this ⊢
    rw [List.map_cons] at this ⊢
    rw [e]
    exact this
  · rcases List.mem_cons.1 hx with rfl | q
    · have := h.each s (List.mem_cons_self ..)
      rw [e, en]
      exact ⟨this.1, this.2.1, this.2.2.1, ea⟩
    · exact h.each x (List.mem_cons_of_mem _ q)
  · simp at hx
    subst hx
    exact .inr es
theorem OkH.opens {b : Bk} (h : OkH b) {id : Int} {l : List Int} (hid : b.1 < id) (hl : needH l = true) (hn : b.2.length < 8) : OkH (id, b.2 ++ [⟨id, l, 0, 0⟩]) := by
  have h0 := h.last
  refine ⟨by show 0 ≤ id; omega, by show (b.2 ++ [_]).length ≤ 8; rw [List.length_append]; exact hn, ?_, fun s hs => ?_, fun s hs => ?_, fun s hs => ?_⟩
  · show SS ((b.2 ++ [_]).map Se.id)
    rw [List.map_append]
    unfold SS
    rw [List.pairwise_append]
    refine ⟨h.rise, by simp, fun x hx y hy => ?_⟩
    obtain ⟨s, hs, rfl⟩ := List.mem_map.1 hx
    have := (h.each s hs).2.1
    simp at hy
    omega
  · rcases List.mem_append.1 hs with q | q
    · have := h.each s q
      exact ⟨this.1, by show s.id ≤ id; omega, this.2.2⟩
    · simp at q
      subst q
      exact ⟨by show 1 ≤ id; omega, Int.le_refl _, hl, Int.le_refl _⟩
  · have hs' : s ∈ (b.2 ++ [(⟨id, l, 0, 0⟩ : Se)]).drop 1 := hs
    rw [List.drop_append] at hs'
    rcases List.mem_append.1 hs' with q | q
    · exact h.rest s q
    · have := List.mem_of_mem_drop q
      simp at this
      subst this
      exact ⟨rfl, rfl⟩
  · rcases List.mem_append.1 (List.mem_of_mem_take hs) with q | q
    · exact h.ways q
    · simp at q
      subst q
      exact .inl ⟨rfl, rfl⟩
/-- .. when it is opened -/
theorem openH_ok {b : Bk} {id : Int} {l : List Int} (e : (openH b id l).2 = 0) : OkH b ∧ b.1 < id ∧ needH (norm l) = true ∧ b.2.length < 8 ∧ (openH b id l).1 = (id, b.2 ++ [⟨id, norm l, 0, 0⟩]) := by
  unfold openH at e ⊢
  by_cases hc : chkH b = true
  · rw [if_pos hc] at e ⊢
    by_cases h1 : id ≤ b.1
    · rw [if_pos h1] at e; cases e
    rw [if_neg h1] at e ⊢
    by_cases h2 : needH (norm l) = true
    · rw [if_pos h2] at e ⊢
      by_cases h3 : 8 ≤ b.2.length
      · rw [if_pos h3] at e; cases e
      rw [if_neg h3]
      exact ⟨okH_iff.1 hc, by omega, h2, by omega, rfl⟩
    · rw [if_neg h2] at e; cases e
  · rw [if_neg hc] at e; cases e
theorem grantH_ok {b : Bk} (e : (grantH b).2.2 = 0) : OkH b ∧ ∃ s t, b.2 = s :: t ∧ s.state = 0 ∧ s.age = 0 ∧ grantH b = ((b.1, ⟨s.id, s.need, 1, s.age⟩ :: t), s.id, 0) := by
  unfold grantH at e ⊢
  by_cases hc : chkH b = true
  · rw [if_pos hc] at e ⊢
    obtain ⟨l, b2⟩ := b
    cases b2 with
    | nil => cases e
    | cons s t =>
      dsimp only at e ⊢
      by_cases h1 : s.state = 1
      · rw [if_pos h1] at e; cases e
      · rw [if_neg h1]
        rcases (okH_iff.1 hc).ways (List.mem_cons_self ..) with q | q
        · exact ⟨okH_iff.1 hc, s, t, rfl, q.1, q.2, rfl⟩
        · exact absurd q h1
  · rw [if_neg hc] at e; cases e
theorem endH_ok {b : Bk} {id want : Int} (e : (endH b id want).2 = 0) : OkH b ∧ ∃ k s, b.2[k]? = some s ∧ s.id = id ∧ s.state = want ∧ (endH b id want).1 = (b.1, b.2.eraseIdx k) := by
  unfold endH at e ⊢
  by_cases hc : chkH b = true
  · rw [if_pos hc] at e ⊢
    cases ha : atH b.2 id with
    | none => rw [ha] at e; cases e
    | some k =>
      obtain ⟨s, hs, hi⟩ := atH_some ha
      rw [ha] at e
      dsimp only at e ⊢
      rw [hs] at e ⊢
      dsimp only at e ⊢
      by_cases h1 : s.state = want
      · rw [if_pos h1]
        exact ⟨okH_iff.1 hc, k, s, hs, hi, h1, rfl⟩
      · rw [if_neg h1] at e; cases e
  · rw [if_neg hc] at e; cases e
theorem olderH_nn {a : Int} (h : 0 ≤ a) : 0 ≤ olderH a := by unfold olderH; split <;> omega
theorem tickH_ok {b : Bk} {hold : Int} (e : (tickH b hold).2.2 = 0) : OkH b ∧ ((tickH b hold = (b, 0, 0)) ∨ ∃ s t, b.2 = s :: t ∧ s.state = 1 ∧ (tickH b hold = ((b.1, t), s.id, 0) ∨ tickH b hold = ((b.1, ⟨s.id, s.need, 1, olderH s.age⟩ :: t), 0, 0))) := by
  unfold tickH at e ⊢
  by_cases hc : chkH b = true
  · rw [if_pos hc] at e ⊢
    refine ⟨okH_iff.1 hc, ?_⟩
    obtain ⟨l, b2⟩ := b
    cases b2 with
    | nil => exact .inl rfl
    | cons s t =>
      dsimp only
      by_cases h1 : s.state = 1
      · rw [if_pos h1]
        refine .inr ⟨s, t, rfl, h1, ?_⟩
        split
        · exact .inl rfl
        · exact .inr rfl
      · rw [if_neg h1]; exact .inl rfl
  · rw [if_neg hc] at e; cases e
theorem goneH_ok {b : Bk} {p : Int} (e : (goneH b p).2.2 = 0) : OkH b ∧ goneH b p = ((b.1, b.2.filter fun s => !goesH p s), (b.2.filter (goesH p)).map Se.id, 0) := by
  unfold goneH at e ⊢
  by_cases hc : chkH b = true
  · rw [if_pos hc]; exact ⟨okH_iff.1 hc, rfl⟩
  · rw [if_neg hc] at e; cases e

/-- granted in the order of opening -/
structure OrdH (b : Bk) (last : Int) : Prop where
  ok : OkH b
  lo : 0 ≤ last
  hi : last ≤ b.1
  wait : ∀ s ∈ b.2, s.state = 0 → last < s.id
theorem OrdH.no : OrdH noH 0 := ⟨OkH.no, Int.le_refl _, Int.le_refl _, fun _ h => (by cases h)⟩
theorem OrdH.sub {b : Bk} {last : Int} (h : OrdH b last) {l : List Se} (hl : l.Sublist b.2) : OrdH (b.1, l) last := ⟨h.ok.sub hl, h.lo, h.hi, fun s hs => h.wait s (hl.subset hs)⟩
theorem OrdH.step {b : Bk} {last : Int} (h : OrdH b last) {k id n : Int} {need : List Int} (e : (stepH b k id n need).2.2 = 0) :
    OkH (stepH b k id n need).1 ∧ (k = 1 → ∃ x, (stepH b k id n need).2.1 = [x] ∧ last < x ∧ OrdH (stepH b k id n need).1 x) ∧ (k ≠ 1 → OrdH (stepH b k id n need).1 last) := by
  suffices hs : (k = 1 → ∃ x, (stepH b k id n need).2.1 = [x] ∧ last < x ∧ OrdH (stepH b k id n need).1 x) ∧ (k ≠ 1 → OrdH (stepH b k id n need).1 last) by
    refine ⟨?_, hs⟩
    by_cases hk : k = 1
    · obtain ⟨x, _, _, q⟩ := hs.1 hk; exact q.ok
    · exact (hs.2 hk).ok
  have hlo := h.lo
  have hhi := h.hi
  unfold stepH at e ⊢
  by_cases k0 : k = 0
  · rw [if_pos k0] at e ⊢
    obtain ⟨ok, h1, h2, h3, h4⟩ := openH_ok e
    refine ⟨fun q => by omega, fun _ => ?_⟩
    dsimp only
    rw [h4]
    refine ⟨ok.opens h1 h2 h3, h.lo, by show last ≤ id; omega, fun s hs hw => ?_⟩
    rcases List.mem_append.1 hs with q | q
    · exact h.wait s q hw
    · simp at q
      subst q
      show last < id
      omega
  rw [if_neg k0] at e ⊢
  by_cases k1 : k = 1
  · rw [if_pos k1] at e ⊢
    obtain ⟨ok, s, t, hb, hst, hag, hg⟩ := grantH_ok e
    refine ⟨fun _ => ⟨s.id, by rw [hg], ?_, ?_⟩, fun q => absurd k1 q⟩
    · exact h.wait s (by rw [hb]; exact List.mem_cons_self ..) hst
    · rw [hg]
      have ok2 : OkH (b.1, s :: t) := by have := ok; rw [show b = (b.1, s :: t) from by rw [← hb]] at this; exact this
      have hsi := ok2.each s (List.mem_cons_self ..)
      refine ⟨ok2.head rfl rfl rfl (by show 0 ≤ s.age; omega), by omega, hsi.2.1, fun x hx hw => ?_⟩
      rcases List.mem_cons.1 hx with rfl | q
      · exact absurd hw (show ¬ (1 : Int) = 0 by omega)
      · have hr := ok2.rise
        unfold SS at hr
        have hr2 : (s.id :: t.map Se.id).Pairwise (· < ·) := hr
        exact (List.pairwise_cons.1 hr2).1 x.id (List.mem_map.2 ⟨x, q, rfl⟩)
  rw [if_neg k1] at e ⊢
  refine ⟨fun q => absurd q k1, fun _ => ?_⟩
  by_cases k2 : k = 2
  · rw [if_pos k2] at e ⊢
    obtain ⟨ok, j, s, _, _, _, hg⟩ := endH_ok e
    dsimp only
    rw [hg]
    exact h.sub (List.eraseIdx_sublist ..)
  rw [if_neg k2] at e ⊢
  by_cases k3 : k = 3
  · rw [if_pos k3] at e ⊢
    obtain ⟨ok, j, s, _, _, _, hg⟩ := endH_ok e
    dsimp only
    rw [hg]
    exact h.sub (List.eraseIdx_sublist ..)
  rw [if_neg k3] at e ⊢
  by_cases k4 : k = 4
  · rw [if_pos k4] at e ⊢
    obtain ⟨ok, hw⟩ := tickH_ok e
    dsimp only
    rcases hw with hg | ⟨s, t, hb, hst, hg | hg⟩
    · rw [hg]; exact h
    · rw [hg]
      exact h.sub (by rw [hb]; exact List.sublist_cons_self ..)
    · rw [hg]
      have ok2 : OkH (b.1, s :: t) := by have := ok; rw [show b = (b.1, s :: t) from by rw [← hb]] at this; exact this
      refine ⟨ok2.head rfl rfl rfl (olderH_nn (ok2.each s (List.mem_cons_self ..)).2.2.2), h.lo, h.hi, fun x hx hw => ?_⟩
      rcases List.mem_cons.1 hx with rfl | q
      · exact absurd hw (show ¬ (1 : Int) = 0 by omega)
      · exact h.wait x (by rw [hb]; exact List.mem_cons_of_mem _ q) hw
  rw [if_neg k4] at e ⊢
  obtain ⟨ok, hg⟩ := goneH_ok e
  rw [hg]
  exact h.sub (List.filter_sublist ..)

/-- each ends once -/
structure EndsH (b : Bk) (op en : List Int) : Prop where
  ok : OkH b
  le : ∀ x ∈ op, x ≤ b.1
  sub : ∀ s ∈ b.2, s.id ∈ op
  esub : ∀ x ∈ en, x ∈ op
  nd : en.Nodup
  dis : ∀ s ∈ b.2, s.id ∉ en
  len : op.length = en.length + b.2.length
theorem EndsH.no : EndsH noH [] [] := ⟨OkH.no, fun _ h => (by cases h), fun _ h => (by cases h), fun _ h => (by cases h), List.nodup_nil, fun _ h => (by cases h), rfl⟩
theorem EndsH.goes {b : Bk} {op en : List Int} (h : EndsH b op en) {l r : List Se} (hp : (l ++ r).Perm b.2) (hok : OkH (b.1, l)) : EndsH (b.1, l) op (en ++ r.map Se.id) := by
  have hn : (l.map Se.id ++ r.map Se.id).Nodup := by
    rw [← List.map_append]
    exact ((hp.map Se.id).nodup_iff).2 h.ok.nodup
  obtain ⟨n1, n2, n3⟩ := List.nodup_append.1 hn
  refine ⟨hok, h.le, fun s hs => h.sub s (hp.mem_iff.1 (List.mem_append_left _ hs)), fun x hx => ?_, ?_, fun s hs hx => ?_, ?_⟩
  · rcases List.mem_append.1 hx with q | q
    · exact h.esub x q
    · obtain ⟨s, hs, rfl⟩ := List.mem_map.1 q
      exact h.sub s (hp.mem_iff.1 (List.mem_append_right _ hs))
  · refine List.nodup_append.2 ⟨h.nd, n2, fun x hx y hy e => ?_⟩
    obtain ⟨s, hs, rfl⟩ := List.mem_map.1 hy
    exact h.dis s (hp.mem_iff.1 (List.mem_append_right _ hs)) (e ▸ hx)
  · rcases List.mem_append.1 hx with q | q
    · exact h.dis s (hp.mem_iff.1 (List.mem_append_left _ hs)) q
    · exact n3 _ (List.mem_map.2 ⟨s, hs, rfl⟩) _ q rfl
  · have := hp.length_eq
    rw [List.length_append] at this
    rw [List.length_append, List.length_map, h.len]
    show _ = _ + l.length
    omega
theorem erase_perm {l : List Se} {k : Nat} {s : Se} (h : l[k]? = some s) : (l.eraseIdx k ++ [s]).Perm l := by
  obtain ⟨hk, e⟩ := List.getElem?_eq_some_iff.1 h
  have h2 : l = l.take k ++ s :: l.drop (k + 1) := by rw [← e, List.getElem_cons_drop, List.take_append_drop]
  rw [List.eraseIdx_eq_take_drop_succ, List.append_assoc]
  conv => rhs; rw [h2]
  exact List.Perm.append_left _ (List.perm_append_singleton ..)
def opendH (k id : Int) (op : List Int) : List Int := if k = 0 then op ++ [id] else op
def endedH (k id : Int) (ids en : List Int) : List Int := if k = 2 ∨ k = 3 then en ++ [id] else if k = 4 then (if ids.headD 0 = 0 then en else en ++ [ids.headD 0]) else if k = 5 then en ++ ids else en
theorem EndsH.step {b : Bk} {op en : List Int} (h : EndsH b op en) {k id n : Int} {need : List Int} (hk : k = 0 ∨ k = 1 ∨ k = 2 ∨ k = 3 ∨ k = 4 ∨ k = 5) (e : (stepH b k id n need).2.2 = 0) :
    EndsH (stepH b k id n need).1 (opendH k id op) (endedH k id (stepH b k id n need).2.1 en) := by
  rcases hk with rfl | rfl | rfl | rfl | rfl | rfl
  · have e' : (openH b id need).2 = 0 := e
    obtain ⟨ok, h1, h2, h3, h4⟩ := openH_ok e'
    show EndsH (openH b id need).1 (op ++ [id]) en
    rw [h4]
    refine ⟨ok.opens h1 h2 h3, fun x hx => ?_, fun s hs => ?_, fun x hx => List.mem_append_left _ (h.esub x hx), h.nd, fun s hs hx => ?_, ?_⟩
    · rcases List.mem_append.1 hx with q | q
      · have := h.le x q; show x ≤ id; omega
      · simp at q; subst q; exact Int.le_refl _
    · rcases List.mem_append.1 hs with q | q
      · exact List.mem_append_left _ (h.sub s q)
      · simp at q; subst q; exact List.mem_append_right _ (List.mem_cons_self ..)
    · rcases List.mem_append.1 hs with q | q
      · exact h.dis s q hx
      · simp at q; subst q
        have := h.le _ (h.esub _ hx)
        have h5 : id ≤ b.1 := this
        omega
    · show (op ++ [id]).length = en.length + (b.2 ++ [_]).length
      rw [List.length_append, List.length_append, h.len]
      simp only [List.length_cons, List.length_nil]
      omega
  · have e' : (grantH b).2.2 = 0 := e
    obtain ⟨ok, s, t, hb, hst, hag, hg⟩ := grantH_ok e'
    show EndsH (grantH b).1 op en
    rw [hg]
    have ok2 : OkH (b.1, s :: t) := by have := ok; rw [show b = (b.1, s :: t) from by rw [← hb]] at this; exact this
    refine ⟨ok2.head rfl rfl rfl (by show 0 ≤ s.age; omega), h.le, fun x hx => ?_, h.esub, h.nd, fun x hx => ?_, by rw [h.len, hb]; rfl⟩
    · rcases List.mem_cons.1 hx with rfl | q
      · exact h.sub s (by rw [hb]; exact List.mem_cons_self ..)
      · exact h.sub x (by rw [hb]; exact List.mem_cons_of_mem _ q)
    · rcases List.mem_cons.1 hx with rfl | q
      · exact h.dis s (by rw [hb]; exact List.mem_cons_self ..)
      · exact h.dis x (by rw [hb]; exact List.mem_cons_of_mem _ q)
  · have e' : (endH b id 1).2 = 0 := e
    obtain ⟨ok, j, s, hj, hi, _, hg⟩ := endH_ok e'
    show EndsH (endH b id 1).1 op (en ++ [id])
    rw [hg, ← hi]
    exact h.goes (r := [s]) (erase_perm hj) (ok.sub (List.eraseIdx_sublist ..))
  · have e' : (endH b id 0).2 = 0 := e
    obtain ⟨ok, j, s, hj, hi, _, hg⟩ := endH_ok e'
    show EndsH (endH b id 0).1 op (en ++ [id])
    rw [hg, ← hi]
    exact h.goes (r := [s]) (erase_perm hj) (ok.sub (List.eraseIdx_sublist ..))
  · have e' : (tickH b n).2.2 = 0 := e
    obtain ⟨ok, hw⟩ := tickH_ok e'
    show EndsH (tickH b n).1 op (if (tickH b n).2.1 = 0 then en else en ++ [(tickH b n).2.1])
    rcases hw with hg | ⟨s, t, hb, hst, hg | hg⟩
    · rw [hg]; exact h
    · rw [hg]
      have hs1 := ok.each s (by rw [hb]; exact List.mem_cons_self ..)
      dsimp only
      rw [if_neg (by omega)]
      exact h.goes (r := [s]) ((List.perm_append_singleton ..).trans (by rw [hb])) (ok.sub (by rw [hb]; exact List.sublist_cons_self ..))
    · rw [hg]
      have ok2 : OkH (b.1, s :: t) := by have := ok; rw [show b = (b.1, s :: t) from by rw [← hb]] at this; exact this
      dsimp only
      rw [if_pos rfl]
      refine ⟨ok2.head rfl rfl rfl (olderH_nn (ok2.each s (List.mem_cons_self ..)).2.2.2), h.le, fun x hx => ?_, h.esub, h.nd, fun x hx => ?_, by rw [h.len, hb]; rfl⟩
      · rcases List.mem_cons.1 hx with rfl | q
        · exact h.sub s (by rw [hb]; exact List.mem_cons_self ..)
        · exact h.sub x (by rw [hb]; exact List.mem_cons_of_mem _ q)
      · rcases List.mem_cons.1 hx with rfl | q
        · exact h.dis s (by rw [hb]; exact List.mem_cons_self ..)
        · exact h.dis x (by rw [hb]; exact List.mem_cons_of_mem _ q)
  · have e' : (goneH b n).2.2 = 0 := e
    obtain ⟨ok, hg⟩ := goneH_ok e'
    show EndsH (goneH b n).1 op (en ++ (goneH b n).2.1)
    rw [hg]
    exact h.goes ((List.perm_append_comm).trans (List.filter_append_perm ..)) (ok.sub (List.filter_sublist ..))

/-- who is granted, behind i ticks -/
def heldH (l : Int) (s : Se) (t : List Se) (i : Int) : Bk := (l, ⟨s.id, s.need, 1, i⟩ :: t)
theorem heldH_ok {l : Int} {s : Se} {t : List Se} (h : OkH (l, s :: t)) {i : Int} (hi : 0 ≤ i) : OkH (heldH l s t i) := OkH.head (b := (l, s :: t)) h rfl rfl rfl hi
theorem heldH_tick {l : Int} {s : Se} {t : List Se} (h : OkH (l, s :: t)) {i hold : Int} (hi : 0 ≤ i) (h60 : i ≤ 1000) :
    tickH (heldH l s t i) hold = if hold ≤ i + 1 then ((l, t), s.id, 0) else (heldH l s t (i + 1), 0, 0) := by
  have hold' : olderH i = i + 1 := by unfold olderH; rw [if_pos (by omega)]
  unfold tickH
  rw [if_pos (okH_iff.2 (heldH_ok h hi))]
  unfold heldH
  dsimp only
  rw [if_pos rfl, hold']
theorem heldH_gone {l : Int} {s : Se} {t : List Se} (h : OkH (l, s :: t)) : atH t s.id = none := by
  refine atH_none.2 fun x hx e => ?_
  have hr : (s.id :: t.map Se.id).Pairwise (· < ·) := h.rise
  have := (List.pairwise_cons.1 hr).1 x.id (List.mem_map.2 ⟨x, hx, rfl⟩)
  omega

/-- who waits and needs a peer that is gone -/
theorem gone_ids {b : Bk} (ok : OkH b) {p : Int} {s : Se} (hs : s ∈ b.2) : s.id ∈ (b.2.filter (goesH p)).map Se.id ↔ goesH p s = true := by
  constructor
  · intro h
    obtain ⟨t, ht, e⟩ := List.mem_map.1 h
    obtain ⟨t1, t2⟩ := List.mem_filter.1 ht
    rw [← ok.inj t1 hs e]
    exact t2
  · exact fun h => List.mem_map.2 ⟨s, List.mem_filter.2 ⟨hs, h⟩, rfl⟩
theorem gone_at {b : Bk} (ok : OkH b) {p : Int} {s : Se} (hs : s ∈ b.2) : atH (b.2.filter fun s => !goesH p s) s.id = none ↔ goesH p s = true := by
  rw [atH_none]
  constructor
  · intro h
    cases hg : goesH p s
    · exact absurd rfl (h s (List.mem_filter.2 ⟨hs, by rw [hg]; rfl⟩))
    · rfl
  · intro h t ht e
    obtain ⟨t1, t2⟩ := List.mem_filter.1 ht
    rw [ok.inj t1 hs e, h] at t2
    cases t2
theorem gone_len (l : List Se) (p : Int) : (l.filter fun s => !goesH p s).length + ((l.filter (goesH p)).map Se.id).length = l.length := by
  rw [List.length_map, Nat.add_comm, ← List.length_append]
  exact (List.filter_append_perm (goesH p) l).length_eq
theorem gone_again (l : List Se) (p : Int) : ((l.filter fun s => !goesH p s).filter fun s => !goesH p s) = l.filter fun s => !goesH p s := by simp
theorem gone_none (l : List Se) (p : Int) : (l.filter fun s => !goesH p s).filter (goesH p) = [] := by
  rw [List.filter_eq_nil_iff]
  intro s hs
  have := (List.mem_filter.1 hs).2
  simpa using this

/-- who is opened: behind all others, and waits -/
theorem open_at {b : Bk} (ok : OkH b) {id : Int} {l : List Int} (hid : b.1 < id) : atH (b.2 ++ [⟨id, l, 0, 0⟩]) id = some b.2.length := by
  have h0 : atH b.2 id = none := atH_none.2 fun s hs e => by have := (ok.each s hs).2.1; omega
  unfold atH at h0 ⊢
  rw [List.findIdx?_append, h0]
  simp
theorem open_poll {b : Bk} (ok : OkH b) {id : Int} {l : List Int} (hid : b.1 < id) (hl : needH l = true) (hn : b.2.length < 8) : pollH (id, b.2 ++ [⟨id, l, 0, 0⟩]) id = (0, 0) := by
  unfold pollH
  rw [if_pos (okH_iff.2 (ok.opens hid hl hn))]
  dsimp only
  rw [open_at ok hid]
  dsimp only
  rw [List.getElem?_append_right (Nat.le_refl _), Nat.sub_self]
  rfl
theorem open_again {b : Bk} (ok : OkH b) {id : Int} {l m : List Int} (hid : b.1 < id) (hl : needH l = true) (hn : b.2.length < 8) : openH (id, b.2 ++ [⟨id, l, 0, 0⟩]) id m = (noH, 171) := by
  unfold openH
  rw [if_pos (okH_iff.2 (ok.opens hid hl hn)), if_pos (Int.le_refl _)]
/-- what is wrong: nothing becomes of it -/
theorem stepH_no {b : Bk} {k id n : Int} {need : List Int} (e : (stepH b k id n need).2.2 ≠ 0) : (stepH b k id n need).1 = noH := by
  have h1 : (openH b id need).2 ≠ 0 → (openH b id need).1 = noH := by
    unfold openH
    split
    · split
      · exact fun _ => rfl
      · split
        · split
          · exact fun _ => rfl
          · exact fun q => absurd rfl q
        · exact fun _ => rfl
    · exact fun _ => rfl
  have h2 : (grantH b).2.2 ≠ 0 → (grantH b).1 = noH := by
    unfold grantH
    split
    · split
      · exact fun _ => rfl
      · split
        · exact fun _ => rfl
        · exact fun q => absurd rfl q
    · exact fun _ => rfl
  have h3 : ∀ w, (endH b id w).2 ≠ 0 → (endH b id w).1 = noH := fun w => by
    unfold endH
    split
    · split
      · exact fun _ => rfl
      · split
        · exact fun _ => rfl
        · split
          · exact fun q => absurd rfl q
          · exact fun _ => rfl
    · exact fun _ => rfl
  have h4 : (tickH b n).2.2 ≠ 0 → (tickH b n).1 = noH := by
    unfold tickH
    split
    · split
      · exact fun q => absurd rfl q
      · split
        · split <;> exact fun q => absurd rfl q
        · exact fun q => absurd rfl q
    · exact fun _ => rfl
  have h5 : (goneH b n).2.2 ≠ 0 → (goneH b n).1 = noH := by
    unfold goneH
    split
    · exact fun q => absurd rfl q
    · exact fun _ => rfl
  unfold stepH at e ⊢
  split
  · next k0 => rw [if_pos k0] at e; exact h1 e
  · next k0 =>
    rw [if_neg k0] at e
    split
    · next k1 => rw [if_pos k1] at e; exact h2 e
    · next k1 =>
      rw [if_neg k1] at e
      split
      · next k2 => rw [if_pos k2] at e; exact h3 _ e
      · next k2 =>
        rw [if_neg k2] at e
        split
        · next k3 => rw [if_pos k3] at e; exact h3 _ e
        · next k3 =>
          rw [if_neg k3] at e
          split
          · next k4 => rw [if_pos k4] at e; exact h4 e
          · next k4 => rw [if_neg k4] at e; exact h5 e
end Go.Proofs.Ytgcnjkabpcbkgaa
