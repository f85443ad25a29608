/- Texts of this seat. -/
import Derived.Lib.SlicesCompact
import Derived.Lib.Hide
namespace Go.Proofs.YtfbambemjokmgaaGreat
open Go.Lib
def SS (l : List Int) : Prop := l.Pairwise (· < ·)
instance (l : List Int) : Decidable (SS l) := inferInstanceAs (Decidable (l.Pairwise (· < ·)))
theorem SS.ext {a b : List Int} (ha : SS a) (hb : SS b) (h : ∀ x, x ∈ a ↔ x ∈ b) : a = b := by
  have na : a.Nodup := ha.imp (fun h => by omega)
  have nb : b.Nodup := hb.imp (fun h => by omega)
  exact ((List.perm_ext_iff_of_nodup na nb).2 h).eq_of_pairwise (le := (· < ·)) (fun x y _ _ h1 h2 => by omega) ha hb
theorem SS.filter {a : List Int} (ha : SS a) (p : Int → Bool) : SS (a.filter p) := List.Pairwise.filter p ha
def norm (l : List Int) : List Int := Lib.compact (l.mergeSort fun x y => decide (x ≤ y))
theorem sorted_le (l : List Int) : (l.mergeSort fun x y => decide (x ≤ y)).Pairwise (· ≤ ·) := by
  have := List.pairwise_mergeSort (le := fun x y : Int => decide (x ≤ y)) (fun a b c h1 h2 => by simp at *; omega) (fun a b => by simp; omega) l
  exact this.imp (fun h => by simpa using h)
theorem compact_mem (l : List Int) (x : Int) : x ∈ Lib.compact l ↔ x ∈ l := by
  unfold Lib.compact
  have key : ∀ m, m ≤ l.length → (x ∈ compactUpTo l.toArray m ↔ x ∈ l.take m) := by
    intro m
    induction m with
    | zero => intro _; simp [compactUpTo]
    | succ m ih =>
      intro hm
      have hml : m < l.length := by omega
      have hb : l.toArray[m]! = l[m] := by simp [hml]
      have ht : l.take (m + 1) = l.take m ++ [l[m]] := by rw [List.take_succ_eq_append_getElem hml]
      rw [compactUpTo_succ, ht, List.mem_append, List.mem_append, ih (by omega), hb]
      by_cases hk : keeps l.toArray m = true
      · simp [hk]
      · simp only [hk, Bool.false_eq_true, if_false, List.not_mem_nil, or_false, List.mem_singleton]
        constructor
        · exact Or.inl
        · rintro (h | h)
          · exact h
          · simp only [keeps, decide_eq_true_eq, not_or, ne_eq, Decidable.not_not] at hk
            obtain ⟨h0, h1⟩ := hk
            have hp : l.toArray[m - 1]! = l[m - 1]'(by omega) := by simp [show m - 1 < l.length by omega]
            rw [hb, hp] at h1
            rw [h, h1]
            exact List.mem_take_iff_getElem.2 ⟨m - 1, by omega, by simp⟩
  have := key l.length (Nat.le_refl _)
  rwa [List.take_of_length_le (Nat.le_refl _)] at this
theorem compact_SS (l : List Int) (hl : l.Pairwise (· ≤ ·)) : SS (Lib.compact l) := by
  unfold Lib.compact SS
  have key : ∀ m, m ≤ l.length → (compactUpTo l.toArray m).Pairwise (· < ·) := by
    intro m
    induction m with
    | zero => intro _; simp [compactUpTo]
    | succ m ih =>
      intro hm
      have hml : m < l.length := by omega
      have hb : l.toArray[m]! = l[m] := by simp [hml]
      rw [compactUpTo_succ, hb]
      by_cases hk : keeps l.toArray m = true
      · rw [if_pos hk, List.pairwise_append]
        refine ⟨ih (by omega), by simp, fun a ha b hb' => ?_⟩
        have hbe : b = l[m] := by simpa using hb'
        subst hbe
        unfold compactUpTo at ha
        obtain ⟨j, hj, rfl⟩ := List.mem_map.1 ha
        have hjm : j < m := by have := (List.mem_filter.1 hj).1; simpa using this
        have e1 : l.toArray[j]! = l[j]'(by omega) := by simp [show j < l.length by omega]
        show l.toArray[j]! < l[m]
        rw [e1]
        simp only [keeps, decide_eq_true_eq] at hk
        rcases hk with h0 | h1
        · omega
        · have hp : l.toArray[m - 1]! = l[m - 1]'(by omega) := by simp [show m - 1 < l.length by omega]
          rw [hb, hp] at h1
          have hs := List.pairwise_iff_getElem.1 hl
          have s1 : l[m - 1]'(by omega) ≤ l[m] := hs _ _ _ _ (by omega)
          by_cases hj1 : j = m - 1
          · subst hj1; omega
          · have s2 : l[j]'(by omega) ≤ l[m - 1]'(by omega) := hs _ _ _ _ (by omega)
            omega
      · simp only [hk]; simpa using ih (by omega)
  exact key l.length (Nat.le_refl _)
theorem norm_SS (l : List Int) : SS (norm l) := compact_SS _ (sorted_le l)
theorem mem_norm (l : List Int) (x : Int) : x ∈ norm l ↔ x ∈ l := by unfold norm; rw [compact_mem, List.mem_mergeSort]
theorem norm_eq {l s : List Int} (hs : SS s) (h : ∀ x, x ∈ s ↔ x ∈ l) : norm l = s := (norm_SS l).ext hs fun x => by rw [mem_norm, h]
theorem norm_of_SS {l : List Int} (hs : SS l) : norm l = l := norm_eq hs fun _ => Iff.rfl
theorem compact_length (l : List Int) : (Lib.compact l).length ≤ l.length := by
  unfold Lib.compact compactUpTo
  rw [List.length_map]
  refine Nat.le_trans (List.length_filter_le _ _) (by simp)
theorem norm_length (l : List Int) : (norm l).length ≤ l.length := by
  unfold norm
  refine Nat.le_trans (compact_length _) (by simp)
theorem norm_nil : norm [] = [] := norm_of_SS (by unfold SS; simp)
theorem SS_take_succ {xs : List Int} {k : Nat} (h1 : 1 ≤ k) (hk : k < xs.length) : SS (xs.take (k + 1)) ↔ SS (xs.take k) ∧ xs.getD (k - 1) 0 < xs.getD k 0 := by
  have e0 : xs.getD k 0 = xs[k] := by simp [hk]
  have e1 : xs.getD (k - 1) 0 = xs[k - 1]'(by omega) := by simp [show k - 1 < xs.length by omega]
  rw [e0, e1, List.take_succ_eq_append_getElem hk]
  unfold SS
  rw [List.pairwise_append]
  have hm : xs[k - 1]'(by omega) ∈ xs.take k := List.mem_take_iff_getElem.2 ⟨k - 1, by omega, rfl⟩
  constructor
  · rintro ⟨a, _, c⟩
    exact ⟨a, c _ hm _ (by simp)⟩
  · rintro ⟨a, c⟩
    refine ⟨a, by simp, fun x hx y hy => ?_⟩
    have hy' : y = xs[k] := by simpa using hy
    subst hy'
    obtain ⟨j, hj, rfl⟩ := List.mem_take_iff_getElem.1 hx
    have hjk : j < k := by omega
    by_cases e : j = k - 1
    · subst e; exact c
    · have := (List.pairwise_iff_getElem.1 a) j (k - 1) (by simp; omega) (by simp; omega) (by omega)
      simp only [List.getElem_take] at this
      omega
theorem SS_one {xs : List Int} (h : xs.length ≤ 1) : SS xs := by
  match xs, h with
  | [], _ => exact List.Pairwise.nil
  | [x], _ => exact List.pairwise_singleton _ _
end Go.Proofs.YtfbambemjokmgaaGreat
namespace Go.Proofs.YtfbambemjokmgaaGreat
structure Arc where
  a : Int
  b : Int
deriving DecidableEq
structure OkD (N : Int) (L : List Arc) : Prop where
  n0 : 0 ≤ N
  n64 : N ≤ 64
  few : L.length ≤ 400
  each : ∀ x ∈ L, 0 ≤ x.a ∧ x.a < N ∧ 0 ≤ x.b ∧ x.b < N ∧ x.a ≠ x.b
  nodup : L.Nodup
def okA (N : Int) (x : Arc) : Bool := decide (0 ≤ x.a) && decide (x.a < N) && decide (0 ≤ x.b) && decide (x.b < N) && !decide (x.a = x.b)
def okD (N : Int) (L : List Arc) : Bool := decide (0 ≤ N) && decide (N ≤ 64) && decide (L.length ≤ 400) && L.all (okA N) && decide L.Nodup
theorem okD_iff {N : Int} {L : List Arc} : okD N L = true ↔ OkD N L := by
  simp only [okD, Bool.and_eq_true, decide_eq_true_eq, List.all_eq_true, okA, Bool.not_eq_true', decide_eq_false_iff_not]
  constructor
  · rintro ⟨⟨⟨⟨h1, h2⟩, h3⟩, h4⟩, h5⟩
    exact ⟨h1, h2, h3, fun x hx => by obtain ⟨⟨⟨⟨a, b⟩, c⟩, d⟩, e⟩ := h4 x hx; exact ⟨a, b, c, d, e⟩, h5⟩
  · rintro ⟨h1, h2, h3, h4, h5⟩
    exact ⟨⟨⟨⟨h1, h2⟩, h3⟩, fun x hx => by obtain ⟨a, b, c, d, e⟩ := h4 x hx; exact ⟨⟨⟨⟨a, b⟩, c⟩, d⟩, e⟩⟩, h5⟩
def chkD (N : Int) (L : List Arc) : Int := if okD N L = true then 0 else 40
theorem chkD_of {N : Int} {L : List Arc} (h : OkD N L) : chkD N L = 0 := by unfold chkD; rw [if_pos (okD_iff.2 h)]
theorem chkD_not {N : Int} {L : List Arc} (h : ¬ OkD N L) : chkD N L = 40 := by unfold chkD; rw [if_neg (fun e => h (okD_iff.1 e))]
def upto (n : Nat) : List Int := (List.range n).map fun (i : Nat) => (i : Int)
theorem mem_upto {n : Nat} {x : Int} : x ∈ upto n ↔ 0 ≤ x ∧ x < n := by
  simp only [upto, List.mem_map, List.mem_range]
  constructor
  · rintro ⟨i, hi, rfl⟩; omega
  · rintro ⟨h0, h1⟩; exact ⟨x.toNat, by omega, by omega⟩
theorem upto_length (n : Nat) : (upto n).length = n := by simp [upto]
theorem upto_succ (n : Nat) : upto (n + 1) = upto n ++ [(n : Int)] := by simp [upto, List.range_succ]
theorem upto_rise (n : Nat) : (upto n).Pairwise (· < ·) := by
  induction n with
  | zero => simp [upto]
  | succ n ih =>
    rw [upto_succ]
    refine List.pairwise_append.2 ⟨ih, by simp, fun a ha b hb => ?_⟩
    rw [List.mem_singleton] at hb
    have := mem_upto.1 ha
    omega
theorem rise_nodup {l : List Int} (h : l.Pairwise (· < ·)) : l.Nodup := h.imp (fun h => by omega)
theorem upto_nodup (n : Nat) : (upto n).Nodup := rise_nodup (upto_rise n)
/-! the least to which no arc goes, again and again -/
def isHit (L : List Arc) (l : List Int) (v : Int) : Bool := l.any fun f => decide ((⟨f, v⟩ : Arc) ∈ L)
theorem isHit_iff {L : List Arc} {l : List Int} {v : Int} : isHit L l v = true ↔ ∃ f ∈ l, (⟨f, v⟩ : Arc) ∈ L := by simp [isHit]
def peelN (L : List Arc) : Nat → List Int → List Int → List Int × List Int
  | 0, t, l => (t, l)
  | k + 1, t, l => match l.findIdx? (fun v => !isHit L l v) with
    | none => (t, l)
    | some i => peelN L k (t ++ [l.getD i 0]) (l.eraseIdx i)
def peeled (N : Int) (L : List Arc) : List Int × List Int := peelN L N.toNat [] (upto N.toNat)
theorem getD_at {α : Type} {l : List α} {i : Nat} (h : i < l.length) (d : α) : l.getD i d = l[i] := by simp [h]
theorem peel_stop {L : List Arc} {t l : List Int} (h : ∀ j, j < l.length → isHit L l (l.getD j 0) = true) (k : Nat) : peelN L k t l = (t, l) := by
  cases k with
  | zero => rfl
  | succ k =>
    have e : l.findIdx? (fun v => !isHit L l v) = none := List.findIdx?_eq_none_iff.2 fun v hv => by
      obtain ⟨j, hj, rfl⟩ := List.getElem_of_mem hv
      have := h j hj
      rw [getD_at hj] at this
      simp [this]
    unfold peelN
    rw [e]
theorem peel_go {L : List Arc} {t l : List Int} {i : Nat} (hi : i < l.length) (h0 : isHit L l (l.getD i 0) = false) (h : ∀ j, j < i → isHit L l (l.getD j 0) = true) (k : Nat) :
    peelN L (k + 1) t l = peelN L k (t ++ [l.getD i 0]) (l.eraseIdx i) := by
  have e : l.findIdx? (fun v => !isHit L l v) = some i := List.findIdx?_eq_some_iff_getElem.2 ⟨hi, by rw [getD_at hi] at h0; simp [h0], fun j hj => by
    have := h j hj
    rw [getD_at (by omega)] at this
    simp [this]⟩
  show (match l.findIdx? (fun v => !isHit L l v) with
    | none => (t, l)
    | some i => peelN L k (t ++ [l.getD i 0]) (l.eraseIdx i)) = _
  rw [e]
theorem peel_at {L : List Arc} {t l : List Int} {i : Nat} (hi : i < l.length) (h0 : isHit L l (l.getD i 0) = false) (h : ∀ j, j < i → isHit L l (l.getD j 0) = true) :
    peelN L l.length t l = peelN L (l.eraseIdx i).length (t ++ [l.getD i 0]) (l.eraseIdx i) := by
  have hl : l.length = (l.eraseIdx i).length + 1 := by rw [List.length_eraseIdx_of_lt hi]; omega
  conv => lhs; rw [hl]
  exact peel_go hi h0 h _
structure PI (n : Nat) (L : List Arc) (t l : List Int) : Prop where
  perm : (t ++ l).Perm (upto n)
  rise : l.Pairwise (· < ·)
  pre : ∀ p v q, t = p ++ v :: q → ∀ u, (⟨u, v⟩ : Arc) ∈ L → u ∈ p
theorem PI.start (n : Nat) (L : List Arc) : PI n L [] (upto n) := ⟨by simp, upto_rise n, fun p v q h => by simp at h⟩
theorem PI.nodup {n : Nat} {L : List Arc} {t l : List Int} (h : PI n L t l) : (t ++ l).Nodup := h.perm.nodup_iff.2 (upto_nodup n)
theorem PI.mem {n : Nat} {L : List Arc} {t l : List Int} (h : PI n L t l) {x : Int} : (x ∈ t ∨ x ∈ l) ↔ 0 ≤ x ∧ x < n := by
  rw [← mem_upto, ← h.perm.mem_iff, List.mem_append]
theorem cons_erase : ∀ (l : List Int) (i : Nat) (hi : i < l.length), ([l[i]] ++ l.eraseIdx i).Perm l
  | [], i, hi => by simp at hi
  | x :: l, 0, hi => by simp
  | x :: l, i + 1, hi => by
    have ih := cons_erase l i (by simpa using hi)
    simp only [List.getElem_cons_succ, List.eraseIdx_cons_succ, List.singleton_append] at *
    exact (List.Perm.swap _ _ _).trans (List.Perm.cons x ih)
theorem perm_move {t l : List Int} {i : Nat} (hi : i < l.length) : ((t ++ [l.getD i 0]) ++ l.eraseIdx i).Perm (t ++ l) := by
  rw [List.append_assoc]
  refine List.Perm.append_left t ?_
  rw [getD_at hi]
  exact cons_erase l i hi
theorem PI.step {N : Int} {L : List Arc} {t l : List Int} (ok : OkD N L) (h : PI N.toNat L t l) {i : Nat} (hi : i < l.length) (h0 : isHit L l (l.getD i 0) = false) : PI N.toNat L (t ++ [l.getD i 0]) (l.eraseIdx i) := by
  refine ⟨(perm_move hi).trans h.perm, h.rise.sublist (List.eraseIdx_sublist l i), fun p v q e u hu => ?_⟩
  rcases List.eq_nil_or_concat q with rfl | ⟨q', z, rfl⟩
  · obtain ⟨rfl, e2⟩ := List.append_inj' e (by simp)
    simp only [List.cons.injEq, and_true] at e2
    have hr : 0 ≤ u ∧ u < N ∧ 0 ≤ v ∧ v < N ∧ u ≠ v := ok.each _ hu
    have hm := (h.mem (x := u)).2 ⟨hr.1, by have := hr.2.1; have := ok.n0; omega⟩
    rcases hm with hm | hm
    · exact hm
    · rw [e2] at h0
      have : isHit L l v = true := isHit_iff.2 ⟨u, hm, hu⟩
      rw [this] at h0; cases h0
  · have e' : t ++ [l.getD i 0] = (p ++ v :: q') ++ [z] := by rw [e]; simp
    obtain ⟨e1, _⟩ := List.append_inj' e' (by simp)
    exact h.pre p v q' e1 u hu
theorem peelN_spec {N : Int} {L : List Arc} (ok : OkD N L) : ∀ (k : Nat) (t l : List Int), l.length ≤ k → PI N.toNat L t l →
    PI N.toNat L (peelN L k t l).1 (peelN L k t l).2 ∧ ∀ v ∈ (peelN L k t l).2, isHit L (peelN L k t l).2 v = true
  | 0, t, l, hk, h => by
    have : l = [] := List.eq_nil_of_length_eq_zero (by omega)
    subst this
    exact ⟨h, by simp [peelN]⟩
  | k + 1, t, l, hk, h => by
    cases e : l.findIdx? (fun v => !isHit L l v) with
    | none =>
      have hj := List.findIdx?_eq_none_iff.1 e
      have hall : ∀ v ∈ l, isHit L l v = true := fun v hv => by simpa using hj v hv
      rw [peel_stop (fun j hj => hall _ (by rw [getD_at hj]; exact List.getElem_mem hj))]
      exact ⟨h, hall⟩
    | some i =>
      obtain ⟨hi, h0, hj⟩ := List.findIdx?_eq_some_iff_getElem.1 e
      have h0' : isHit L l (l.getD i 0) = false := by rw [getD_at hi]; simpa using h0
      rw [peel_go hi h0' (fun j hji => by rw [getD_at (by omega)]; simpa using hj j hji)]
      exact peelN_spec ok k _ _ (by rw [List.length_eraseIdx_of_lt hi]; omega) (h.step ok hi h0')
theorem peeled_spec {N : Int} {L : List Arc} (ok : OkD N L) : PI N.toNat L (peeled N L).1 (peeled N L).2 ∧ ∀ v ∈ (peeled N L).2, ∃ u ∈ (peeled N L).2, (⟨u, v⟩ : Arc) ∈ L := by
  obtain ⟨h1, h2⟩ := peelN_spec ok N.toNat [] (upto N.toNat) (by rw [upto_length]; exact Nat.le_refl _) (PI.start _ _)
  exact ⟨h1, fun v hv => isHit_iff.1 (h2 v hv)⟩
/-! the document's way of telling the same -/
theorem PI.len {n : Nat} {L : List Arc} {t l : List Int} (h : PI n L t l) : t.length + l.length = n := by
  have := h.perm.length_eq
  rwa [List.length_append, upto_length] at this
/-! ranks -/
def Ranked (L : List Arc) : Prop := ∃ r : Int → Nat, ∀ x ∈ L, r x.a < r x.b
theorem idx_lt {t : List Int} {u v : Int} {p q : List Int} (ht : t.Nodup) (e : t = p ++ v :: q) (hu : u ∈ p) : t.idxOf u < t.idxOf v := by
  subst e
  have hn := List.nodup_append.1 ht
  have hv : v ∉ p := fun hm => hn.2.2 v hm v (by simp) rfl
  rw [List.idxOf_append, if_pos hu, List.idxOf_append, if_neg hv, List.idxOf_cons_self]
  have := List.idxOf_lt_length_of_mem hu
  omega
theorem order_idx {N : Int} {L : List Arc} {t : List Int} (ok : OkD N L) (h : PI N.toNat L t []) (x : Arc) (hx : x ∈ L) : t.idxOf x.a < t.idxOf x.b := by
  have hr := ok.each x hx
  have hm := ((h.mem (x := x.b)).2 ⟨hr.2.2.1, by have := hr.2.2.2.1; omega⟩).resolve_right (by simp)
  obtain ⟨p, q, e⟩ := List.append_of_mem hm
  have hn : t.Nodup := by have := h.nodup; simpa using this
  exact idx_lt hn e (h.pre p x.b q e x.a hx)
theorem peeled_iff {N : Int} {L : List Arc} (ok : OkD N L) : (peeled N L).2 = [] ↔ Ranked L := by
  obtain ⟨h1, h2⟩ := peeled_spec ok
  constructor
  · intro e
    rw [e] at h1
    exact ⟨fun v => (peeled N L).1.idxOf v, fun x hx => order_idx ok h1 x hx⟩
  · rintro ⟨r, hr⟩
    have key : ∀ n v, r v = n → v ∈ (peeled N L).2 → False := by
      intro n
      induction n using Nat.strongRecOn with
      | _ n ih =>
        intro v hv hm
        obtain ⟨u, hu, huv⟩ := h2 v hm
        have := hr _ huv
        exact ih (r u) (by simp at this; omega) u rfl hu
    cases e : (peeled N L).2 with
    | nil => rfl
    | cons v l => exact (key _ v rfl (by rw [e]; simp)).elim
end Go.Proofs.YtfbambemjokmgaaGreat
