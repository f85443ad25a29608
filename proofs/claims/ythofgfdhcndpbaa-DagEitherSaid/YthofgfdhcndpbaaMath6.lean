/- The nodes that arcs lead round: plain facts, of no program. -/
import Derived.Test.YthofgfdhcndpbaaMath5
namespace Go.Proofs.Ythofgfdhcndpbaa

/-- The least one left from which an arc goes to v. -/
def nextOf (L : List Arc) (l : List Int) (v : Int) : Int := (l.find? fun u => decide ((⟨u, v⟩ : Arc) ∈ L)).getD 0
theorem next_is {L : List Arc} {l : List Int} {v : Int} (h : ∃ u ∈ l, (⟨u, v⟩ : Arc) ∈ L) : nextOf L l v ∈ l ∧ (⟨nextOf L l v, v⟩ : Arc) ∈ L := by
  unfold nextOf
  cases e : l.find? fun u => decide ((⟨u, v⟩ : Arc) ∈ L) with
  | none =>
    obtain ⟨u, hu, hv⟩ := h
    have := List.find?_eq_none.1 e u hu
    simp [hv] at this
  | some u => exact ⟨List.mem_of_find?_eq_some e, by simpa using List.find?_some e⟩
theorem next_at {L : List Arc} {l : List Int} {v : Int} {i : Nat} (hi : i < l.length) (h : (⟨l.getD i 0, v⟩ : Arc) ∈ L) (hj : ∀ j, j < i → (⟨l.getD j 0, v⟩ : Arc) ∉ L) : nextOf L l v = l.getD i 0 := by
  unfold nextOf
  have : l.find? (fun u => decide ((⟨u, v⟩ : Arc) ∈ L)) = some (l.getD i 0) := by
    refine List.find?_eq_some_iff_getElem.2 ⟨by simpa using h, i, hi, by rw [getD_at hi], fun j hji => ?_⟩
    have := hj j hji
    rw [getD_at (by omega)] at this
    simpa using this
  rw [this]
  rfl

def minI (r : List Int) : Int := r.foldl min (r.headD 0)
theorem min_snoc (r : List Int) (x : Int) (h : r ≠ []) : minI (r ++ [x]) = min (minI r) x := by
  unfold minI
  rw [List.foldl_append]
  cases r with
  | nil => exact absurd rfl h
  | cons y r => rfl
theorem min_is (r : List Int) (h : r ≠ []) : minI r ∈ r ∧ ∀ x ∈ r, minI r ≤ x := by
  refine snoc_ind (P := fun r => r ≠ [] → minI r ∈ r ∧ ∀ x ∈ r, minI r ≤ x) (fun h => absurd rfl h) (fun r x ih _ => ?_) r h
  by_cases e : r = []
  · subst e; simp [minI]
  · rw [min_snoc r x e]
    obtain ⟨h1, h2⟩ := ih e
    constructor
    · by_cases hx : minI r ≤ x
      · rw [show min (minI r) x = minI r from by omega]; exact List.mem_append_left _ h1
      · rw [show min (minI r) x = x from by omega]; simp
    · intro y hy
      rcases List.mem_append.1 hy with hy | hy
      · have := h2 y hy; omega
      · rw [List.mem_singleton] at hy; subst hy; omega

def rotate (r : List Int) (i : Nat) : List Int := r.drop i ++ r.take i
def turnedOf (s : List Int) : List Int := rotate s.reverse (s.reverse.idxOf (minI s.reverse))
def cycA (L : List Arc) (l : List Int) : Nat → List Int → Int → List Int
  | 0, _, _ => []
  | k + 1, w, a => if a ∈ w then turnedOf (w.drop (w.idxOf a)) else cycA L l k (w ++ [a]) (nextOf L l a)
def cycleOf (N : Int) (L : List Arc) : List Int := cycA L (peeled N L).2 ((peeled N L).2.length + 1) [] ((peeled N L).2.headD 0)

/-- A way so far: its nodes are left ones, each once; behind it the cycle is C. -/
structure Wy (L : List Arc) (l : List Int) (C : List Int) (w : List Int) (a : Int) : Prop where
  nodup : w.Nodup
  sub : ∀ x ∈ w, x ∈ l
  here : a ∈ l
  few : w.length ≤ l.length
  is : cycA L l (l.length + 1 - w.length) w a = C
theorem Wy.next {L : List Arc} {l C w : List Int} {a : Int} (hl : ∀ v ∈ l, ∃ u ∈ l, (⟨u, v⟩ : Arc) ∈ L) (h : Wy L l C w a) (ha : a ∉ w) : Wy L l C (w ++ [a]) (nextOf L l a) := by
  have hn : (w ++ [a]).Nodup := List.nodup_append.2 ⟨h.nodup, by simp, fun x hx y hy => by rw [List.mem_singleton] at hy; subst hy; exact fun e => ha (e ▸ hx)⟩
  have hs : ∀ x ∈ w ++ [a], x ∈ l := fun x hx => by
    rcases List.mem_append.1 hx with hx | hx
    · exact h.sub x hx
    · rw [List.mem_singleton] at hx; subst hx; exact h.here
  have hf : (w ++ [a]).length ≤ l.length := length_le_of_sub hn hs
  refine ⟨hn, hs, (next_is (hl a h.here)).1, hf, ?_⟩
  have := h.is
  rw [List.length_append, List.length_singleton] at hf ⊢
  rw [show l.length + 1 - w.length = (l.length + 1 - (w.length + 1)) + 1 from by omega] at this
  unfold cycA at this
  rwa [if_neg ha] at this
theorem Wy.stop {L : List Arc} {l C w : List Int} {a : Int} (h : Wy L l C w a) (ha : a ∈ w) : turnedOf (w.drop (w.idxOf a)) = C := by
  have := h.is
  have hf := h.few
  rw [show l.length + 1 - w.length = (l.length - w.length) + 1 from by omega] at this
  unfold cycA at this
  rwa [if_pos ha] at this
theorem Wy.start {N : Int} {L : List Arc} (h : (peeled N L).2 ≠ []) : Wy L (peeled N L).2 (cycleOf N L) [] ((peeled N L).2.headD 0) := by
  refine ⟨by simp, by simp, ?_, by simp, rfl⟩
  cases e : (peeled N L).2 with
  | nil => exact absurd e h
  | cons x l => simp

/-! the document's way of telling the same -/
theorem take_first {w : List Int} {a : Int} (hn : w.Nodup) {k : Nat} (hk : k < w.reverse.length) (ha : w.reverse.getD k 0 = a) : w.reverse.take (k + 1) = (w.drop (w.idxOf a)).reverse ∧ a ∈ w := by
  have hm : a ∈ w := by
    rw [← ha, getD_at hk]
    exact List.mem_reverse.1 (List.getElem_mem hk)
  refine ⟨?_, hm⟩
  have hl : w.reverse.length = w.length := List.length_reverse
  have hi := List.idxOf_lt_length_of_mem hm
  have e1 : w[w.idxOf a]'hi = a := List.getElem_idxOf hi
  have e2 : w[w.length - 1 - k]'(by omega) = a := by
    rw [getD_at hk, List.getElem_reverse] at ha
    exact ha
  have := (List.getElem_inj hn).1 (e1.trans e2.symm)
  rw [List.take_reverse, show w.length - (k + 1) = w.idxOf a from by omega]
theorem first_min {r : List Int} (hn : r.Nodup) {i : Nat} (hi : i < r.length) (h : ∀ j, j < r.length → r.getD i 0 ≤ r.getD j 0) : i = r.idxOf (minI r) := by
  have hne : r ≠ [] := by intro e; subst e; simp at hi
  obtain ⟨h1, h2⟩ := min_is r hne
  have e : r[i] = minI r := by
    obtain ⟨j, hj, e⟩ := List.getElem_of_mem h1
    have a := h j hj
    have b := h2 r[i] (List.getElem_mem hi)
    rw [getD_at hi, getD_at hj, e] at a
    omega
  have hk := List.idxOf_lt_length_of_mem h1
  exact (List.getElem_inj hn).1 (e.trans (List.getElem_idxOf hk).symm)

/-! what holds of it -/
def Ring (L : List Arc) (r : List Int) : Prop := ∀ j, j < r.length → (⟨r.getD j 0, r.getD (if j + 1 = r.length then 0 else j + 1) 0⟩ : Arc) ∈ L
theorem rotate_len (r : List Int) (i : Nat) : (rotate r i).length = r.length := by unfold rotate; rw [List.length_append, List.length_drop, List.length_take]; omega
theorem rotate_at {r : List Int} {i j : Nat} (hi : i < r.length) (hj : j < r.length) : (rotate r i).getD j 0 = r.getD (if i + j < r.length then i + j else i + j - r.length) 0 := by
  unfold rotate
  have hl : (r.drop i ++ r.take i).length = r.length := rotate_len r i
  rw [getD_at (by rw [hl]; exact hj)]
  by_cases h : i + j < r.length
  · rw [if_pos h, getD_at h, List.getElem_append_left (by rw [List.length_drop]; omega), List.getElem_drop]
  · rw [if_neg h, getD_at (by omega), List.getElem_append_right (by rw [List.length_drop]; omega), List.getElem_take]
    congr 1
    rw [List.length_drop]
    omega
theorem Ring.rotate {L : List Arc} {r : List Int} (h : Ring L r) {i : Nat} (hi : i < r.length) : Ring L (rotate r i) := by
  intro j hj
  rw [rotate_len] at hj ⊢
  rw [rotate_at hi hj]
  by_cases e : j + 1 = r.length
  · rw [if_pos e, rotate_at hi (by omega)]
    have := h (if i + j < r.length then i + j else i + j - r.length) (by split <;> omega)
    rw [show (if i + 0 < r.length then i + 0 else i + 0 - r.length) = (if (if i + j < r.length then i + j else i + j - r.length) + 1 = r.length then 0 else (if i + j < r.length then i + j else i + j - r.length) + 1) from by
      repeat' split
      all_goals omega]
    exact this
  · rw [if_neg e, rotate_at hi (by omega)]
    have := h (if i + j < r.length then i + j else i + j - r.length) (by split <;> omega)
    rw [show (if i + (j + 1) < r.length then i + (j + 1) else i + (j + 1) - r.length) = (if (if i + j < r.length then i + j else i + j - r.length) + 1 = r.length then 0 else (if i + j < r.length then i + j else i + j - r.length) + 1) from by
      repeat' split
      all_goals omega]
    exact this
structure IsCyc (L : List Arc) (c : List Int) : Prop where
  some : 1 ≤ c.length
  ring : Ring L c
  least : ∀ j, 0 < j → j < c.length → c.getD 0 0 < c.getD j 0
  nodup : c.Nodup
theorem nodup_drop {w : List Int} (h : w.Nodup) (i : Nat) : (w.drop i).Nodup := List.Nodup.sublist (List.drop_sublist i w) h
theorem nodup_rotate {r : List Int} (h : r.Nodup) (i : Nat) : (rotate r i).Nodup := by
  unfold rotate
  have hp : (r.drop i ++ r.take i).Perm r := by
    have := (List.perm_append_comm (l₁ := r.drop i) (l₂ := r.take i))
    rwa [List.take_append_drop] at this
  exact hp.nodup_iff.2 h
theorem turned_ok {L : List Arc} {s : List Int} (hn : s.Nodup) (hs : s ≠ []) (h : ∀ i, i + 1 < s.length → (⟨s.getD (i + 1) 0, s.getD i 0⟩ : Arc) ∈ L) (hb : (⟨s.getD 0 0, s.getD (s.length - 1) 0⟩ : Arc) ∈ L) : IsCyc L (turnedOf s) := by
  have hp : 0 < s.length := List.length_pos_iff.2 hs
  have hl : s.reverse.length = s.length := List.length_reverse
  have hr : s.reverse ≠ [] := by simpa using hs
  have hnr : s.reverse.Nodup := (List.reverse_perm s).nodup_iff.2 hn
  obtain ⟨m1, m2⟩ := min_is _ hr
  have hi := List.idxOf_lt_length_of_mem m1
  have rev : ∀ j, j < s.length → s.reverse.getD j 0 = s.getD (s.length - 1 - j) 0 := fun j hj => by
    rw [getD_at (by omega), getD_at (by omega), List.getElem_reverse]
  have ring : Ring L s.reverse := by
    intro j hj
    rw [hl] at hj ⊢
    rw [rev j hj]
    by_cases e : j + 1 = s.length
    · rw [if_pos e, rev 0 hp, show s.length - 1 - j = 0 from by omega]
      exact hb
    · rw [if_neg e, rev (j + 1) (by omega)]
      have := h (s.length - 1 - (j + 1)) (by omega)
      rwa [show s.length - 1 - (j + 1) + 1 = s.length - 1 - j from by omega] at this
  have hn' := nodup_rotate hnr (s.reverse.idxOf (minI s.reverse))
  refine ⟨by unfold turnedOf; rw [rotate_len]; omega, ring.rotate hi, fun j h0 hj => ?_, hn'⟩
  have hj' : j < s.reverse.length := by
    unfold turnedOf at hj
    rw [rotate_len] at hj
    exact hj
  have c0 : (turnedOf s).getD 0 0 = minI s.reverse := by
    unfold turnedOf
    rw [rotate_at hi (by omega), if_pos (by omega), Nat.add_zero, getD_at hi, List.getElem_idxOf]
  have hle : minI s.reverse ≤ (turnedOf s).getD j 0 := by
    unfold turnedOf
    rw [rotate_at hi hj']
    have : ∀ k, k < s.reverse.length → minI s.reverse ≤ s.reverse.getD k 0 := fun k hk => by rw [getD_at hk]; exact m2 _ (List.getElem_mem hk)
    exact this _ (by split <;> omega)
  have hne : (turnedOf s).getD 0 0 ≠ (turnedOf s).getD j 0 := by
    rw [getD_at (by omega), getD_at hj]
    intro e
    have := (List.getElem_inj hn').1 e
    omega
  omega
theorem cycA_ok {L : List Arc} {l : List Int} (hl : ∀ v ∈ l, ∃ u ∈ l, (⟨u, v⟩ : Arc) ∈ L) : ∀ (k : Nat) (w : List Int) (a : Int), k + w.length = l.length + 1 → w.Nodup → (∀ x ∈ w, x ∈ l) → a ∈ l →
    (∀ i, i + 1 < w.length → (⟨w.getD (i + 1) 0, w.getD i 0⟩ : Arc) ∈ L) → (w ≠ [] → (⟨a, w.getD (w.length - 1) 0⟩ : Arc) ∈ L) → IsCyc L (cycA L l k w a)
  | 0, w, a, hk, hn, hs, ha, _, _ => by
    have := length_le_of_sub hn hs
    omega
  | k + 1, w, a, hk, hn, hs, ha, hc, hz => by
    unfold cycA
    split
    · next hm =>
      have hi := List.idxOf_lt_length_of_mem hm
      have hw : w ≠ [] := by intro e; subst e; simp at hm
      have hd : ∀ j, j < (w.drop (w.idxOf a)).length → (w.drop (w.idxOf a)).getD j 0 = w.getD (w.idxOf a + j) 0 := fun j hj => by
        have hj' : w.idxOf a + j < w.length := by rw [List.length_drop] at hj; omega
        rw [getD_at hj, getD_at hj', List.getElem_drop]
      have hdl : (w.drop (w.idxOf a)).length = w.length - w.idxOf a := List.length_drop
      refine turned_ok (nodup_drop hn _) (by intro e; rw [e] at hdl; simp at hdl; omega) (fun i hi2 => ?_) ?_
      · rw [hd _ hi2, hd _ (by omega)]
        exact hc (w.idxOf a + i) (by omega)
      · rw [hd _ (by omega), hd _ (by omega), Nat.add_zero, getD_at hi, List.getElem_idxOf, hdl, show w.idxOf a + (w.length - w.idxOf a - 1) = w.length - 1 from by omega]
        exact hz hw
    · next hm =>
      have hn' : (w ++ [a]).Nodup := List.nodup_append.2 ⟨hn, by simp, fun x hx y hy => by rw [List.mem_singleton] at hy; subst hy; exact fun e => hm (e ▸ hx)⟩
      have nx := next_is (hl a ha)
      refine cycA_ok hl k (w ++ [a]) _ (by simp; omega) hn' (fun x hx => by
        rcases List.mem_append.1 hx with hx | hx
        · exact hs x hx
        · rw [List.mem_singleton] at hx; subst hx; exact ha) nx.1 (fun i hi => ?_) (fun _ => ?_)
      · rw [List.length_append, List.length_singleton] at hi
        have e1 : (w ++ [a]).getD i 0 = w.getD i 0 := by rw [getD_at (by simp; omega), getD_at (by omega), List.getElem_append_left]
        by_cases e : i + 1 = w.length
        · have e2 : (w ++ [a]).getD (i + 1) 0 = a := by rw [getD_at (by simp; omega), List.getElem_append_right (by omega)]; simp
          rw [e1, e2]
          have := hz (by intro e'; subst e'; simp at e)
          rwa [show w.length - 1 = i from by omega] at this
        · have e2 : (w ++ [a]).getD (i + 1) 0 = w.getD (i + 1) 0 := by rw [getD_at (by simp; omega), getD_at (by omega), List.getElem_append_left]
          rw [e1, e2]
          exact hc i (by omega)
      · have : (w ++ [a]).getD ((w ++ [a]).length - 1) 0 = a := by
          rw [List.length_append, List.length_singleton, getD_at (by simp), List.getElem_append_right (by omega)]
          simp
        rw [this]
        exact nx.2
theorem cycle_ok {N : Int} {L : List Arc} (ok : OkD N L) (h : (peeled N L).2 ≠ []) : IsCyc L (cycleOf N L) := by
  obtain ⟨_, h2⟩ := peeled_spec ok
  refine cycA_ok h2 _ [] _ (by simp) (by simp) (by simp) ?_ (by simp) (by simp)
  cases e : (peeled N L).2 with
  | nil => exact absurd e h
  | cons x l => simp
theorem IsCyc.two {N : Int} {L : List Arc} {c : List Int} (ok : OkD N L) (h : IsCyc L c) : 2 ≤ c.length := by
  have h1 := h.some
  rcases Nat.lt_or_ge 1 c.length with h2 | h2
  · exact h2
  · have := h.ring 0 (by omega)
    rw [if_pos (by omega)] at this
    have := (ok.each _ this).2.2.2.2
    exact absurd rfl this

end Go.Proofs.Ythofgfdhcndpbaa
