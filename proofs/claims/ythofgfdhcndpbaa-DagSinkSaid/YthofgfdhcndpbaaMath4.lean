/- Arcs that lead round, or don't: plain facts, of no program. -/
import Derived.Lib.Hide
namespace Go.Proofs.Ythofgfdhcndpbaa

structure Arc where
  a : Int
  b : Int
deriving DecidableEq

structure OkD (N : Int) (L : List Arc) : Prop where
  n0 : 0 ≤ N
  n64 : N ≤ 64
  few : L.length ≤ 400
  each : ∀ x ∈ L, 0 ≤ x.a ∧ x.a < N ∧ 0 ≤ x.b ∧ x.b < N ∧ x.a ≠ x.b
  nodup : L.Nodup

def okA (N : Int) (x : Arc) : Bool := decide (0 ≤ x.a) && decide (x.a < N) && decide (0 ≤ x.b) && decide (x.b < N) && !decide (x.a = x.b)
def okD (N : Int) (L : List Arc) : Bool := decide (0 ≤ N) && decide (N ≤ 64) && decide (L.length ≤ 400) && L.all (okA N) && decide L.Nodup
theorem okD_iff {N : Int} {L : List Arc} : okD N L = true ↔ OkD N L := by
  simp only [okD, Bool.and_eq_true, decide_eq_true_eq, List.all_eq_true, okA, Bool.not_eq_true', decide_eq_false_iff_not]
  constructor
  · rintro ⟨⟨⟨⟨h1, h2⟩, h3⟩, h4⟩, h5⟩
    exact ⟨h1, h2, h3, fun x hx => by obtain ⟨⟨⟨⟨a, b⟩, c⟩, d⟩, e⟩ := h4 x hx; exact ⟨a, b, c, d, e⟩, h5⟩
  · rintro ⟨h1, h2, h3, h4, h5⟩
    exact ⟨⟨⟨⟨h1, h2⟩, h3⟩, fun x hx => by obtain ⟨a, b, c, d, e⟩ := h4 x hx; exact ⟨⟨⟨⟨a, b⟩, c⟩, d⟩, e⟩⟩, h5⟩
def chkD (N : Int) (L : List Arc) : Int := if okD N L = true then 0 else 40
theorem chkD_of {N : Int} {L : List Arc} (h : OkD N L) : chkD N L = 0 := by unfold chkD; rw [if_pos (okD_iff.2 h)]
theorem chkD_not {N : Int} {L : List Arc} (h : ¬ OkD N L) : chkD N L = 40 := by unfold chkD; rw [if_neg (fun e => h (okD_iff.1 e))]

/-- 0, 1, 2, up to below n. -/
def upto (n : Nat) : List Int := (List.range n).map fun (i : Nat) => (i : Int)
theorem mem_upto {n : Nat} {x : Int} : x ∈ upto n ↔ 0 ≤ x ∧ x < n := by
  simp only [upto, List.mem_map, List.mem_range]
  constructor
  · rintro ⟨i, hi, rfl⟩; omega
  · rintro ⟨h0, h1⟩; exact ⟨x.toNat, by omega, by omega⟩
theorem upto_length (n : Nat) : (upto n).length = n := by simp [upto]
theorem upto_succ (n : Nat) : upto (n + 1) = upto n ++ [(n : Int)] := by simp [upto, List.range_succ]
theorem upto_rise (n : Nat) : (upto n).Pairwise (· < ·) := by
  induction n with
  | zero => simp [upto]
  | succ n ih =>
    rw [upto_succ]
    refine List.pairwise_append.2 ⟨ih, by simp, fun a ha b hb => ?_⟩
    rw [List.mem_singleton] at hb
    have := mem_upto.1 ha
    omega
theorem rise_nodup {l : List Int} (h : l.Pairwise (· < ·)) : l.Nodup := h.imp (fun h => by omega)
theorem upto_nodup (n : Nat) : (upto n).Nodup := rise_nodup (upto_rise n)

theorem length_le_of_sub {xs ys : List Int} (hn : xs.Nodup) (h : ∀ x ∈ xs, x ∈ ys) : xs.length ≤ ys.length := by
  induction xs generalizing ys with
  | nil => simp
  | cons x xs ih =>
    have hx := List.nodup_cons.1 hn
    have hm : x ∈ ys := h x (by simp)
    have := ih (ys := ys.erase x) hx.2 (fun z hz => by
      have hz' := h z (List.mem_cons_of_mem _ hz)
      exact (List.mem_erase_of_ne (fun e : z = x => hx.1 (by rw [← e]; exact hz))).2 hz')
    rw [List.length_erase_of_mem hm] at this
    have hp : 0 < ys.length := List.length_pos_of_mem hm
    simp only [List.length_cons]
    omega

/-! the least to which no arc goes, again and again -/
def isHit (L : List Arc) (l : List Int) (v : Int) : Bool := l.any fun f => decide ((⟨f, v⟩ : Arc) ∈ L)
theorem isHit_iff {L : List Arc} {l : List Int} {v : Int} : isHit L l v = true ↔ ∃ f ∈ l, (⟨f, v⟩ : Arc) ∈ L := by simp [isHit]
def peelN (L : List Arc) : Nat → List Int → List Int → List Int × List Int
  | 0, t, l => (t, l)
  | k + 1, t, l => match l.findIdx? (fun v => !isHit L l v) with
    | none => (t, l)
    | some i => peelN L k (t ++ [l.getD i 0]) (l.eraseIdx i)
def peeled (N : Int) (L : List Arc) : List Int × List Int := peelN L N.toNat [] (upto N.toNat)

theorem getD_at {α : Type} {l : List α} {i : Nat} (h : i < l.length) (d : α) : l.getD i d = l[i] := by simp [h]
theorem peel_stop {L : List Arc} {t l : List Int} (h : ∀ j, j < l.length → isHit L l (l.getD j 0) = true) (k : Nat) : peelN L k t l = (t, l) := by
  cases k with
  | zero => rfl
  | succ k =>
    have e : l.findIdx? (fun v => !isHit L l v) = none := List.findIdx?_eq_none_iff.2 fun v hv => by
      obtain ⟨j, hj, rfl⟩ := List.getElem_of_mem hv
      have := h j hj
      rw [getD_at hj] at this
      simp [this]
    unfold peelN
    rw [e]
theorem peel_go {L : List Arc} {t l : List Int} {i : Nat} (hi : i < l.length) (h0 : isHit L l (l.getD i 0) = false) (h : ∀ j, j < i → isHit L l (l.getD j 0) = true) (k : Nat) :
    peelN L (k + 1) t l = peelN L k (t ++ [l.getD i 0]) (l.eraseIdx i) := by
  have e : l.findIdx? (fun v => !isHit L l v) = some i := List.findIdx?_eq_some_iff_getElem.2 ⟨hi, by rw [getD_at hi] at h0; simp [h0], fun j hj => by
    have := h j hj
    rw [getD_at (by omega)] at this
    simp [this]⟩
  show (match l.findIdx? (fun v => !isHit L l v) with
    | none => (t, l)
    | some i => peelN L k (t ++ [l.getD i 0]) (l.eraseIdx i)) = _
  rw [e]
theorem peel_at {L : List Arc} {t l : List Int} {i : Nat} (hi : i < l.length) (h0 : isHit L l (l.getD i 0) = false) (h : ∀ j, j < i → isHit L l (l.getD j 0) = true) :
    peelN L l.length t l = peelN L (l.eraseIdx i).length (t ++ [l.getD i 0]) (l.eraseIdx i) := by
  have hl : l.length = (l.eraseIdx i).length + 1 := by rw [List.length_eraseIdx_of_lt hi]; omega
  conv => lhs; rw [hl]
  exact peel_go hi h0 h _

/-- What holds of those told, and of those left. -/
structure PI (n : Nat) (L : List Arc) (t l : List Int) : Prop where
  perm : (t ++ l).Perm (upto n)
  rise : l.Pairwise (· < ·)
  pre : ∀ p v q, t = p ++ v :: q → ∀ u, (⟨u, v⟩ : Arc) ∈ L → u ∈ p

theorem PI.start (n : Nat) (L : List Arc) : PI n L [] (upto n) := ⟨by simp, upto_rise n, fun p v q h => by simp at h⟩
theorem PI.nodup {n : Nat} {L : List Arc} {t l : List Int} (h : PI n L t l) : (t ++ l).Nodup := h.perm.nodup_iff.2 (upto_nodup n)
theorem PI.mem {n : Nat} {L : List Arc} {t l : List Int} (h : PI n L t l) {x : Int} : (x ∈ t ∨ x ∈ l) ↔ 0 ≤ x ∧ x < n := by
  rw [← mem_upto, ← h.perm.mem_iff, List.mem_append]
theorem PI.apart {n : Nat} {L : List Arc} {t l : List Int} (h : PI n L t l) {x : Int} (hx : x ∈ t) (hl : x ∈ l) : False :=
  (List.nodup_append.1 h.nodup).2.2 x hx x hl rfl
theorem cons_erase : ∀ (l : List Int) (i : Nat) (hi : i < l.length), ([l[i]] ++ l.eraseIdx i).Perm l
  | [], i, hi => by simp at hi
  | x :: l, 0, hi => by simp
  | x :: l, i + 1, hi => by
    have ih := cons_erase l i (by simpa using hi)
    simp only [List.getElem_cons_succ, List.eraseIdx_cons_succ, List.singleton_append] at *
    exact (List.Perm.swap _ _ _).trans (List.Perm.cons x ih)
theorem perm_move {t l : List Int} {i : Nat} (hi : i < l.length) : ((t ++ [l.getD i 0]) ++ l.eraseIdx i).Perm (t ++ l) := by
  rw [List.append_assoc]
  refine List.Perm.append_left t ?_
  rw [getD_at hi]
  exact cons_erase l i hi
theorem PI.step {N : Int} {L : List Arc} {t l : List Int} (ok : OkD N L) (h : PI N.toNat L t l) {i : Nat} (hi : i < l.length) (h0 : isHit L l (l.getD i 0) = false) : PI N.toNat L (t ++ [l.getD i 0]) (l.eraseIdx i) := by
  refine ⟨(perm_move hi).trans h.perm, h.rise.sublist (List.eraseIdx_sublist l i), fun p v q e u hu => ?_⟩
  rcases List.eq_nil_or_concat q with rfl | ⟨q', z, rfl⟩
  · obtain ⟨rfl, e2⟩ := List.append_inj' e (by simp)
    simp only [List.cons.injEq, and_true] at e2
    have hr : 0 ≤ u ∧ u < N ∧ 0 ≤ v ∧ v < N ∧ u ≠ v := ok.each _ hu
    have hm := (h.mem (x := u)).2 ⟨hr.1, by have := hr.2.1; have := ok.n0; omega⟩
    rcases hm with hm | hm
    · exact hm
    · rw [e2] at h0
      have : isHit L l v = true := isHit_iff.2 ⟨u, hm, hu⟩
      rw [this] at h0; cases h0
  · have e' : t ++ [l.getD i 0] = (p ++ v :: q') ++ [z] := by rw [e]; simp
    obtain ⟨e1, _⟩ := List.append_inj' e' (by simp)
    exact h.pre p v q' e1 u hu

theorem peelN_spec {N : Int} {L : List Arc} (ok : OkD N L) : ∀ (k : Nat) (t l : List Int), l.length ≤ k → PI N.toNat L t l →
    PI N.toNat L (peelN L k t l).1 (peelN L k t l).2 ∧ ∀ v ∈ (peelN L k t l).2, isHit L (peelN L k t l).2 v = true
  | 0, t, l, hk, h => by
    have : l = [] := List.eq_nil_of_length_eq_zero (by omega)
    subst this
    exact ⟨h, by simp [peelN]⟩
  | k + 1, t, l, hk, h => by
    cases e : l.findIdx? (fun v => !isHit L l v) with
    | none =>
      have hj := List.findIdx?_eq_none_iff.1 e
      have hall : ∀ v ∈ l, isHit L l v = true := fun v hv => by simpa using hj v hv
      rw [peel_stop (fun j hj => hall _ (by rw [getD_at hj]; exact List.getElem_mem hj))]
      exact ⟨h, hall⟩
    | some i =>
      obtain ⟨hi, h0, hj⟩ := List.findIdx?_eq_some_iff_getElem.1 e
      have h0' : isHit L l (l.getD i 0) = false := by rw [getD_at hi]; simpa using h0
      rw [peel_go hi h0' (fun j hji => by rw [getD_at (by omega)]; simpa using hj j hji)]
      exact peelN_spec ok k _ _ (by rw [List.length_eraseIdx_of_lt hi]; omega) (h.step ok hi h0')

theorem peeled_spec {N : Int} {L : List Arc} (ok : OkD N L) : PI N.toNat L (peeled N L).1 (peeled N L).2 ∧ ∀ v ∈ (peeled N L).2, ∃ u ∈ (peeled N L).2, (⟨u, v⟩ : Arc) ∈ L := by
  obtain ⟨h1, h2⟩ := peelN_spec ok N.toNat [] (upto N.toNat) (by rw [upto_length]; exact Nat.le_refl _) (PI.start _ _)
  exact ⟨h1, fun v hv => isHit_iff.1 (h2 v hv)⟩

/-! the document's way of telling the same -/
def isFree (L : List Arc) (t : List Int) (v : Int) : Bool := L.all fun x => !(decide (x.b = v) && !decide (x.a ∈ t))
theorem isFree_iff {L : List Arc} {t : List Int} {v : Int} : isFree L t v = true ↔ ∀ u, (⟨u, v⟩ : Arc) ∈ L → u ∈ t := by
  simp only [isFree, List.all_eq_true, Bool.not_eq_true', Bool.and_eq_false_iff, decide_eq_false_iff_not, Bool.not_eq_false', decide_eq_true_eq]
  constructor
  · intro h u hu
    exact (h _ hu).resolve_left (fun e => e rfl)
  · rintro h ⟨a, b⟩ hx
    by_cases e : b = v
    · subst e; exact .inr (h a hx)
    · exact .inl e
theorem hit_free {N : Int} {L : List Arc} {t l : List Int} (ok : OkD N L) (h : PI N.toNat L t l) (v : Int) : isHit L l v = !isFree L t v := by
  have := ok.n0
  rw [Bool.eq_iff_iff, Bool.not_eq_true', ← Bool.not_eq_true, isHit_iff, isFree_iff]
  constructor
  · rintro ⟨f, hf, hfv⟩ hall
    exact h.apart (hall f hfv) hf
  · intro hn
    apply Classical.byContradiction
    intro hno
    refine hn fun u hu => ?_
    have hr : 0 ≤ u ∧ u < N ∧ 0 ≤ v ∧ v < N ∧ u ≠ v := ok.each _ hu
    rcases (h.mem (x := u)).2 ⟨hr.1, by have := hr.2.1; omega⟩ with hm | hm
    · exact hm
    · exact absurd ⟨u, hm, hu⟩ hno
theorem told_stop {N : Int} {L : List Arc} {t l : List Int} (ok : OkD N L) (h : PI N.toNat L t l) (ha : ∀ a : Nat, a < N.toNat → (a : Int) ∈ t ∨ isFree L t a = false) (k : Nat) : peelN L k t l = (t, l) := by
  refine peel_stop (fun j hj => ?_) k
  rw [getD_at hj]
  have hm : l[j] ∈ l := List.getElem_mem hj
  have hr := h.mem.1 (.inr hm)
  rw [hit_free ok h]
  have := ha (l[j]).toNat (by omega)
  rw [show (((l[j]).toNat : Nat) : Int) = l[j] from by omega] at this
  rcases this with h1 | h1
  · exact absurd hm (fun e => h.apart h1 e)
  · rw [h1]; rfl
theorem told_go {N : Int} {L : List Arc} {t l : List Int} (ok : OkD N L) (h : PI N.toNat L t l) {a : Nat} (ha : a < N.toNat) (hn : (a : Int) ∉ t) (hf : isFree L t a = true) (hb : ∀ b : Nat, b < a → (b : Int) ∈ t ∨ isFree L t b = false) :
    ∃ l', PI N.toNat L (t ++ [(a : Int)]) l' ∧ peelN L l.length t l = peelN L l'.length (t ++ [(a : Int)]) l' := by
  have hm : (a : Int) ∈ l := (h.mem.2 ⟨by omega, by omega⟩).resolve_left hn
  obtain ⟨i, hi, he⟩ := List.getElem_of_mem hm
  have eg : l.getD i 0 = (a : Int) := by rw [getD_at hi, he]
  have h0 : isHit L l (l.getD i 0) = false := by rw [hit_free ok h, eg, hf]; rfl
  have hs := h.step ok hi h0
  rw [eg] at hs
  refine ⟨l.eraseIdx i, hs, ?_⟩
  rw [← eg]
  refine peel_at hi h0 fun j hj => ?_
  have hjl : j < l.length := by omega
  rw [getD_at hjl, hit_free ok h]
  have hlt : l[j] < l[i] := List.pairwise_iff_getElem.1 h.rise j i hjl hi hj
  have hjm : l[j] ∈ l := List.getElem_mem hjl
  have hr := h.mem.1 (.inr hjm)
  have := hb (l[j]).toNat (by omega)
  rw [show (((l[j]).toNat : Nat) : Int) = l[j] from by omega] at this
  rcases this with h1 | h1
  · exact absurd hjm (fun e => h.apart h1 e)
  · rw [h1]; rfl
theorem PI.full {n : Nat} {L : List Arc} {t l : List Int} (h : PI n L t l) (ht : n ≤ t.length) : l = [] := by
  have := h.perm.length_eq
  rw [List.length_append, upto_length] at this
  exact List.eq_nil_of_length_eq_zero (by omega)
theorem PI.len {n : Nat} {L : List Arc} {t l : List Int} (h : PI n L t l) : t.length + l.length = n := by
  have := h.perm.length_eq
  rwa [List.length_append, upto_length] at this

/-! ranks -/
def Ranked (L : List Arc) : Prop := ∃ r : Int → Nat, ∀ x ∈ L, r x.a < r x.b
theorem Ranked.sub {L M : List Arc} (h : Ranked L) (hs : ∀ x ∈ M, x ∈ L) : Ranked M := by
  obtain ⟨r, hr⟩ := h
  exact ⟨r, fun x hx => hr x (hs x hx)⟩
theorem idx_lt {t : List Int} {u v : Int} {p q : List Int} (ht : t.Nodup) (e : t = p ++ v :: q) (hu : u ∈ p) : t.idxOf u < t.idxOf v := by
  subst e
  have hn := List.nodup_append.1 ht
  have hv : v ∉ p := fun hm => hn.2.2 v hm v (by simp) rfl
  rw [List.idxOf_append, if_pos hu, List.idxOf_append, if_neg hv, List.idxOf_cons_self]
  have := List.idxOf_lt_length_of_mem hu
  omega
theorem order_idx {N : Int} {L : List Arc} {t : List Int} (ok : OkD N L) (h : PI N.toNat L t []) (x : Arc) (hx : x ∈ L) : t.idxOf x.a < t.idxOf x.b := by
  have hr := ok.each x hx
  have hm := ((h.mem (x := x.b)).2 ⟨hr.2.2.1, by have := hr.2.2.2.1; omega⟩).resolve_right (by simp)
  obtain ⟨p, q, e⟩ := List.append_of_mem hm
  have hn : t.Nodup := by have := h.nodup; simpa using this
  exact idx_lt hn e (h.pre p x.b q e x.a hx)
theorem peeled_iff {N : Int} {L : List Arc} (ok : OkD N L) : (peeled N L).2 = [] ↔ Ranked L := by
  obtain ⟨h1, h2⟩ := peeled_spec ok
  constructor
  · intro e
    rw [e] at h1
    exact ⟨fun v => (peeled N L).1.idxOf v, fun x hx => order_idx ok h1 x hx⟩
  · rintro ⟨r, hr⟩
    have key : ∀ n v, r v = n → v ∈ (peeled N L).2 → False := by
      intro n
      induction n using Nat.strongRecOn with
      | _ n ih =>
        intro v hv hm
        obtain ⟨u, hu, huv⟩ := h2 v hm
        have := hr _ huv
        exact ih (r u) (by simp at this; omega) u rfl hu
    cases e : (peeled N L).2 with
    | nil => rfl
    | cons v l => exact (key _ v rfl (by rw [e]; simp)).elim

/-- By the order told: what holds of a node if it holds of all that point to it, holds of all. -/
theorem ord_all {n : Nat} {L : List Arc} {t : List Int} (h : PI n L t []) (P : Int → Prop) (step : ∀ v, (∀ x ∈ L, x.b = v → P x.a) → P v) : ∀ v ∈ t, P v := by
  have key : ∀ (p q : List Int), t = p ++ q → ∀ v ∈ p, P v := by
    intro p
    generalize hn : p.length = m
    induction m generalizing p with
    | zero => intro q _ v hv; rw [List.eq_nil_of_length_eq_zero hn] at hv; simp at hv
    | succ m ih =>
      intro q e v hv
      rcases List.eq_nil_or_concat p with rfl | ⟨p', z, rfl⟩
      · simp at hn
      · have hp' : p'.length = m := by simpa using hn
        rw [List.concat_eq_append] at hv e hn
        rw [List.mem_append, List.mem_singleton] at hv
        have e' : t = p' ++ z :: q := by rw [e]; simp
        rcases hv with hv | rfl
        · exact ih p' hp' _ e' v hv
        · exact step v fun x hx hb => ih p' hp' _ e' x.a (h.pre p' v q e' x.a (by rw [← hb]; exact hx))
  exact key t [] (by simp)

end Go.Proofs.Ythofgfdhcndpbaa
