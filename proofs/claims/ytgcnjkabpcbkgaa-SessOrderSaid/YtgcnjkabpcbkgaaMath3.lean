/- Sets of whole numbers as lists: plain facts, of no program. -/
import Derived.Lib.SlicesCompact
namespace Go.Proofs.Ytgcnjkabpcbkgaa
open Go.Lib

/-- Each number is greater than the one ahead. -/
def SS (l : List Int) : Prop := l.Pairwise (· < ·)

instance (l : List Int) : Decidable (SS l) := inferInstanceAs (Decidable (l.Pairwise (· < ·)))

theorem SS.ext {a b : List Int} (ha : SS a) (hb : SS b) (h : ∀ x, x ∈ a ↔ x ∈ b) : a = b := by
  have na : a.Nodup := ha.imp (fun h => by omega)
  have nb : b.Nodup := hb.imp (fun h => by omega)
  exact ((List.perm_ext_iff_of_nodup na nb).2 h).eq_of_pairwise (le := (· < ·)) (fun x y _ _ h1 h2 => by omega) ha hb

theorem SS.nodup {a : List Int} (ha : SS a) : a.Nodup := ha.imp (fun h => by omega)

theorem SS.filter {a : List Int} (ha : SS a) (p : Int → Bool) : SS (a.filter p) := List.Pairwise.filter p ha

/-- What the sort and Compact make of a row. -/
def norm (l : List Int) : List Int := Lib.compact (l.mergeSort fun x y => decide (x ≤ y))

theorem sorted_le (l : List Int) : (l.mergeSort fun x y => decide (x ≤ y)).Pairwise (· ≤ ·) := by
  have := List.pairwise_mergeSort (le := fun x y : Int => decide (x ≤ y)) (fun a b c h1 h2 => by simp at *; omega) (fun a b => by simp; omega) l
  exact this.imp (fun h => by simpa using h)

theorem compact_mem (l : List Int) (x : Int) : x ∈ Lib.compact l ↔ x ∈ l := by
  unfold Lib.compact
  have key : ∀ m, m ≤ l.length → (x ∈ compactUpTo l.toArray m ↔ x ∈ l.take m) := by
    intro m
    induction m with
    | zero => intro _; simp [compactUpTo]
    | succ m ih =>
      intro hm
      have hml : m < l.length := by omega
      have hb : l.toArray[m]! = l[m] := by simp [hml]
      have ht : l.take (m + 1) = l.take m ++ [l[m]] := by rw [List.take_succ_eq_append_getElem hml]
      rw [compactUpTo_succ, ht, List.mem_append, List.mem_append, ih (by omega), hb]
      by_cases hk : keeps l.toArray m = true
      · simp [hk]
      · simp only [hk, Bool.false_eq_true, if_false, List.not_mem_nil, or_false, List.mem_singleton]
        constructor
        · exact Or.inl
        · rintro (h | h)
          · exact h
          · simp only [keeps, decide_eq_true_eq, not_or, ne_eq, Decidable.not_not] at hk
            obtain ⟨h0, h1⟩ := hk
            have hp : l.toArray[m - 1]! = l[m - 1]'(by omega) := by simp [show m - 1 < l.length by omega]
            rw [hb, hp] at h1
            rw [h, h1]
            exact List.mem_take_iff_getElem.2 ⟨m - 1, by omega, by simp⟩
  have := key l.length (Nat.le_refl _)
  rwa [List.take_of_length_le (Nat.le_refl _)] at this

theorem compact_SS (l : List Int) (hl : l.Pairwise (· ≤ ·)) : SS (Lib.compact l) := by
  unfold Lib.compact SS
  have key : ∀ m, m ≤ l.length → (compactUpTo l.toArray m).Pairwise (· < ·) := by
    intro m
    induction m with
    | zero => intro _; simp [compactUpTo]
    | succ m ih =>
      intro hm
      have hml : m < l.length := by omega
      have hb : l.toArray[m]! = l[m] := by simp [hml]
      rw [compactUpTo_succ, hb]
      by_cases hk : keeps l.toArray m = true
      · rw [if_pos hk, List.pairwise_append]
        refine ⟨ih (by omega), by simp, fun a ha b hb' => ?_⟩
        have hbe : b = l[m] := by simpa using hb'
        subst hbe
        unfold compactUpTo at ha
        obtain ⟨j, hj, rfl⟩ := List.mem_map.1 ha
        have hjm : j < m := by have := (List.mem_filter.1 hj).1; simpa using this
        have e1 : l.toArray[j]! = l[j]'(by omega) := by simp [show j < l.length by omega]
        show l.toArray[j]! < l[m]
        rw [e1]
        simp only [keeps, decide_eq_true_eq] at hk
        rcases hk with h0 | h1
        · omega
        · have hp : l.toArray[m - 1]! = l[m - 1]'(by omega) := by simp [show m - 1 < l.length by omega]
          rw [hb, hp] at h1
          have hs := List.pairwise_iff_getElem.1 hl
          have s1 : l[m - 1]'(by omega) ≤ l[m] := hs _ _ _ _ (by omega)
          by_cases hj1 : j = m - 1
          · subst hj1; omega
          · have s2 : l[j]'(by omega) ≤ l[m - 1]'(by omega) := hs _ _ _ _ (by omega)
            omega
      · simp only [hk]; simpa using ih (by omega)
  exact key l.length (Nat.le_refl _)

theorem norm_SS (l : List Int) : SS (norm l) := compact_SS _ (sorted_le l)
theorem mem_norm (l : List Int) (x : Int) : x ∈ norm l ↔ x ∈ l := by unfold norm; rw [compact_mem, List.mem_mergeSort]

theorem norm_eq {l s : List Int} (hs : SS s) (h : ∀ x, x ∈ s ↔ x ∈ l) : norm l = s := (norm_SS l).ext hs fun x => by rw [mem_norm, h]
theorem norm_of_SS {l : List Int} (hs : SS l) : norm l = l := norm_eq hs fun _ => Iff.rfl
theorem norm_congr {a b : List Int} (h : ∀ x, x ∈ a ↔ x ∈ b) : norm a = norm b := norm_eq (norm_SS b) fun x => by rw [mem_norm, h]
theorem norm_norm (l : List Int) : norm (norm l) = norm l := norm_of_SS (norm_SS l)

theorem compact_length (l : List Int) : (Lib.compact l).length ≤ l.length := by
  unfold Lib.compact compactUpTo
  rw [List.length_map]
  refine Nat.le_trans (List.length_filter_le _ _) (by simp)
theorem norm_length (l : List Int) : (norm l).length ≤ l.length := by
  unfold norm
  refine Nat.le_trans (compact_length _) (by simp)
theorem norm_nil : norm [] = [] := norm_of_SS (by unfold SS; simp)
theorem norm_filter (l : List Int) (p : Int → Bool) : norm (l.filter p) = (norm l).filter p :=
  norm_eq ((norm_SS l).filter p) fun x => by rw [List.mem_filter, List.mem_filter, mem_norm]

/-- How many of the set are less. -/
def placeOf (l : List Int) (x : Int) : Nat := (norm (l.filter fun y => decide (y < x))).length

theorem placeOf_le (l : List Int) (x : Int) : placeOf l x ≤ l.length := by
  unfold placeOf
  exact Nat.le_trans (norm_length _) (List.length_filter_le _ _)

/-- The document's own count: those that are less and weren't met ahead. -/
def lessOnce (l : List Int) (x : Int) : Nat → Nat
  | 0 => 0
  | k + 1 => lessOnce l x k + if l.getD k 0 < x ∧ l.getD k 0 ∉ l.take k then 1 else 0

theorem lessOnce_le (l : List Int) (x : Int) (k : Nat) : lessOnce l x k ≤ k := by
  induction k with
  | zero => simp [lessOnce]
  | succ k ih => simp only [lessOnce]; split <;> omega

theorem insert_length {l : List Int} {y : Int} (h : y ∉ l) : (norm (y :: l)).length = (norm l).length + 1 := by
  have hp : (norm (y :: l)).Perm (y :: norm l) := by
    refine (List.perm_ext_iff_of_nodup (norm_SS _).nodup ?_).2 fun x => by simp [mem_norm]
    exact List.nodup_cons.2 ⟨by rw [mem_norm]; exact h, (norm_SS l).nodup⟩
  simpa using hp.length_eq

theorem lessOnce_eq (l : List Int) (x : Int) (k : Nat) (hk : k ≤ l.length) : lessOnce l x k = placeOf (l.take k) x := by
  induction k with
  | zero => simp [lessOnce, placeOf, norm_nil]
  | succ k ih =>
    have hkl : k < l.length := by omega
    have hg : l.getD k 0 = l[k] := by simp [hkl]
    simp only [lessOnce]
    rw [ih (by omega), List.take_succ_eq_append_getElem hkl, hg]
    unfold placeOf
    rw [List.filter_append]
    by_cases h1 : l[k] < x
    · have e1 : [l[k]].filter (fun y => decide (y < x)) = [l[k]] := by simp [h1]
      rw [e1]
      by_cases h2 : l[k] ∈ l.take k
      · rw [if_neg (by simp [h2]), Nat.add_zero]
        congr 1
        apply norm_congr
        intro y
        simp only [List.mem_append, List.mem_singleton]
        constructor
        · exact Or.inl
        · rintro (h | rfl)
          · exact h
          · exact List.mem_filter.2 ⟨h2, by simpa using h1⟩
      · rw [if_pos ⟨h1, h2⟩]
        have hn : l[k] ∉ (l.take k).filter (fun y => decide (y < x)) := fun h => h2 (List.mem_filter.1 h).1
        rw [← insert_length hn]
        congr 1
        apply norm_congr
        intro y
        simp [or_comm]
    · have e1 : [l[k]].filter (fun y => decide (y < x)) = [] := by simp [h1]
      rw [e1, List.append_nil, if_neg (by simp [h1])]
      rfl

theorem lessOnce_all (l : List Int) (x : Int) : lessOnce l x l.length = placeOf l x := by
  rw [lessOnce_eq l x _ (Nat.le_refl _), List.take_of_length_le (Nat.le_refl _)]

/-- In a set, what is less stands ahead. -/
theorem SS.take_place {s : List Int} (hs : SS s) (x : Int) : s.take (s.filter fun y => decide (y < x)).length = s.filter fun y => decide (y < x) := by
  induction s with
  | nil => simp
  | cons a s ih =>
    have h := List.pairwise_cons.1 hs
    by_cases ha : a < x
    · simp [ha, ih h.2]
    · have : s.filter (fun y => decide (y < x)) = [] := by
        apply List.filter_eq_nil_iff.2
        intro y hy
        have := h.1 y hy
        simp; omega
      simp [ha, this]

theorem SS.drop_place {s : List Int} (hs : SS s) (x : Int) : s.drop (s.filter fun y => decide (y < x)).length = s.filter fun y => decide (x ≤ y) := by
  induction s with
  | nil => simp
  | cons a s ih =>
    have h := List.pairwise_cons.1 hs
    by_cases ha : a < x
    · have ha' : ¬ x ≤ a := by omega
      simp [ha, ha', ih h.2]
    · have e : s.filter (fun y => decide (y < x)) = [] := by
        apply List.filter_eq_nil_iff.2
        intro y hy
        have := h.1 y hy
        simp; omega
      have e2 : s.filter (fun y => decide (x ≤ y)) = s := by
        apply List.filter_eq_self.2
        intro y hy
        have := h.1 y hy
        simp; omega
      have ha' : x ≤ a := by omega
      simp [ha, ha', e, e2]

theorem placeOf_SS {s : List Int} (hs : SS s) (x : Int) : placeOf s x = (s.filter fun y => decide (y < x)).length := by
  unfold placeOf
  rw [norm_of_SS (hs.filter _)]

/-- A number put at its place into a set in which it isn't. -/
def putIn (s : List Int) (x : Int) : List Int := s.take (placeOf s x) ++ [x] ++ s.drop (placeOf s x)

theorem putIn_SS {s : List Int} (hs : SS s) {x : Int} (hx : x ∉ s) : SS (putIn s x) := by
  unfold putIn
  rw [placeOf_SS hs, hs.take_place, hs.drop_place]
  unfold SS
  rw [List.append_assoc, List.pairwise_append]
  refine ⟨hs.filter _, ?_, ?_⟩
  · rw [List.singleton_append, List.pairwise_cons]
    refine ⟨fun y hy => ?_, hs.filter _⟩
    have := List.mem_filter.1 hy
    have h2 : x ≤ y := by simpa using this.2
    have h3 : x ≠ y := fun e => hx (e ▸ this.1)
    omega
  · intro a ha b hb
    have h1 : a < x := by simpa using (List.mem_filter.1 ha).2
    rcases List.mem_append.1 hb with h | h
    · have : b = x := by simpa using h
      omega
    · have h2 : x ≤ b := by simpa using (List.mem_filter.1 h).2
      omega

theorem mem_putIn {s : List Int} (hs : SS s) {x y : Int} : y ∈ putIn s x ↔ y = x ∨ y ∈ s := by
  unfold putIn
  rw [placeOf_SS hs, hs.take_place, hs.drop_place]
  simp only [List.mem_append, List.mem_filter, List.mem_singleton, decide_eq_true_eq]
  constructor
  · rintro ((h | h) | h)
    · exact Or.inr h.1
    · exact Or.inl h
    · exact Or.inr h.1
  · rintro (h | h)
    · exact Or.inl (Or.inr h)
    · by_cases h2 : y < x
      · exact Or.inl (Or.inl ⟨h, h2⟩)
      · exact Or.inr ⟨h, by omega⟩

theorem putIn_norm {l : List Int} {x : Int} (hx : x ∉ l) : putIn (norm l) x = norm (l ++ [x]) := by
  refine (putIn_SS (norm_SS l) (by rw [mem_norm]; exact hx)).ext (norm_SS _) fun y => ?_
  rw [mem_putIn (norm_SS l), mem_norm, mem_norm]
  simp only [List.mem_append, List.mem_singleton]
  exact Or.comm

theorem norm_snoc_mem {l : List Int} {x : Int} (hx : x ∈ l) : norm (l ++ [x]) = norm l := by
  apply norm_congr
  intro y
  simp only [List.mem_append, List.mem_singleton]
  constructor
  · rintro (h | rfl)
    · exact h
    · exact hx
  · exact Or.inl


theorem SS_take_succ {xs : List Int} {k : Nat} (h1 : 1 ≤ k) (hk : k < xs.length) : SS (xs.take (k + 1)) ↔ SS (xs.take k) ∧ xs.getD (k - 1) 0 < xs.getD k 0 := by
  have e0 : xs.getD k 0 = xs[k] := by simp [hk]
  have e1 : xs.getD (k - 1) 0 = xs[k - 1]'(by omega) := by simp [show k - 1 < xs.length by omega]
  rw [e0, e1, List.take_succ_eq_append_getElem hk]
  unfold SS
  rw [List.pairwise_append]
  have hm : xs[k - 1]'(by omega) ∈ xs.take k := List.mem_take_iff_getElem.2 ⟨k - 1, by omega, rfl⟩
  constructor
  · rintro ⟨a, _, c⟩
    exact ⟨a, c _ hm _ (by simp)⟩
  · rintro ⟨a, c⟩
    refine ⟨a, by simp, fun x hx y hy => ?_⟩
    have hy' : y = xs[k] := by simpa using hy
    subst hy'
    obtain ⟨j, hj, rfl⟩ := List.mem_take_iff_getElem.1 hx
    have hjk : j < k := by omega
    by_cases e : j = k - 1
    · subst e; exact c
    · have := (List.pairwise_iff_getElem.1 a) j (k - 1) (by simp; omega) (by simp; omega) (by omega)
      simp only [List.getElem_take] at this
      omega

theorem SS_one {xs : List Int} (h : xs.length ≤ 1) : SS xs := by
  match xs, h with
  | [], _ => exact List.Pairwise.nil
  | [x], _ => exact List.pairwise_singleton _ _

end Go.Proofs.Ytgcnjkabpcbkgaa
