/- Arcs that lead round, or don't: plain facts, of no program. -/
import Derived.Lib.Hide
namespace Go.Proofs.YtdfleocknaackaaGreat

structure Arc where
  a : Int
  b : Int
deriving DecidableEq

structure OkD (N : Int) (L : List Arc) : Prop where
  n0 : 0 ≤ N
  n64 : N ≤ 64
  few : L.length ≤ 400
  each : ∀ x ∈ L, 0 ≤ x.a ∧ x.a < N ∧ 0 ≤ x.b ∧ x.b < N ∧ x.a ≠ x.b
  nodup : L.Nodup

def okA (N : Int) (x : Arc) : Bool := decide (0 ≤ x.a) && decide (x.a < N) && decide (0 ≤ x.b) && decide (x.b < N) && !decide (x.a = x.b)
def okD (N : Int) (L : List Arc) : Bool := decide (0 ≤ N) && decide (N ≤ 64) && decide (L.length ≤ 400) && L.all (okA N) && decide L.Nodup
theorem okD_iff {N : Int} {L : List Arc} : okD N L = true ↔ OkD N L := by
  simp only [okD, Bool.and_eq_true, decide_eq_true_eq, List.all_eq_true, okA, Bool.not_eq_true', decide_eq_false_iff_not]
  constructor
  · rintro ⟨⟨⟨⟨h1, h2⟩, h3⟩, h4⟩, h5⟩
    exact ⟨h1, h2, h3, fun x hx => by obtain ⟨⟨⟨⟨a, b⟩, c⟩, d⟩, e⟩ := h4 x hx; exact ⟨a, b, c, d, e⟩, h5⟩
  · rintro ⟨h1, h2, h3, h4, h5⟩
    exact ⟨⟨⟨⟨h1, h2⟩, h3⟩, fun x hx => by obtain ⟨a, b, c, d, e⟩ := h4 x hx; exact ⟨⟨⟨⟨a, b⟩, c⟩, d⟩, e⟩⟩, h5⟩
def chkD (N : Int) (L : List Arc) : Int := if okD N L = true then 0 else 40
theorem chkD_of {N : Int} {L : List Arc} (h : OkD N L) : chkD N L = 0 := by unfold chkD; rw [if_pos (okD_iff.2 h)]
theorem chkD_not {N : Int} {L : List Arc} (h : ¬ OkD N L) : chkD N L = 40 := by unfold chkD; rw [if_neg (fun e => h (okD_iff.1 e))]

/-- 0, 1, 2, up to below n. -/
def upto (n : Nat) : List Int := (List.range n).map fun (i : Nat) => (i : Int)
theorem mem_upto {n : Nat} {x : Int} : x ∈ upto n ↔ 0 ≤ x ∧ x < n := by
  simp only [upto, List.mem_map, List.mem_range]
  constructor
  · rintro ⟨i, hi, rfl⟩; omega
  · rintro ⟨h0, h1⟩; exact ⟨x.toNat, by omega, by omega⟩
theorem upto_length (n : Nat) : (upto n).length = n := by simp [upto]
theorem upto_succ (n : Nat) : upto (n + 1) = upto n ++ [(n : Int)] := by simp [upto, List.range_succ]
theorem upto_rise (n : Nat) : (upto n).Pairwise (· < ·) := by
  induction n with
  | zero => simp [upto]
  | succ n ih =>
    rw [upto_succ]
    refine List.pairwise_append.2 ⟨ih, by simp, fun a ha b hb => ?_⟩
    rw [List.mem_singleton] at hb
    have := mem_upto.1 ha
    omega
theorem rise_nodup {l : List Int} (h : l.Pairwise (· < ·)) : l.Nodup := h.imp (fun h => by omega)
theorem upto_nodup (n : Nat) : (upto n).Nodup := rise_nodup (upto_rise n)

theorem length_le_of_sub {xs ys : List Int} (hn : xs.Nodup) (h : ∀ x ∈ xs, x ∈ ys) : xs.length ≤ ys.length := by
  induction xs generalizing ys with
  | nil => simp
  | cons x xs ih =>
    have hx := List.nodup_cons.1 hn
    have hm : x ∈ ys := h x (by simp)
    have := ih (ys := ys.erase x) hx.2 (fun z hz => by
      have hz' := h z (List.mem_cons_of_mem _ hz)
      exact (List.mem_erase_of_ne (fun e : z = x => hx.1 (by rw [← e]; exact hz))).2 hz')
    rw [List.length_erase_of_mem hm] at this
    have hp : 0 < ys.length := List.length_pos_of_mem hm
    simp only [List.length_cons]
    omega

/-! the least to which no arc goes, again and again -/
def isHit (L : List Arc) (l : List Int) (v : Int) : Bool := l.any fun f => decide ((⟨f, v⟩ : Arc) ∈ L)
theorem isHit_iff {L : List Arc} {l : List Int} {v : Int} : isHit L l v = true ↔ ∃ f ∈ l, (⟨f, v⟩ : Arc) ∈ L := by simp [isHit]
def peelN (L : List Arc) : Nat → List Int → List Int → List Int × List Int
  | 0, t, l => (t, l)
  | k + 1, t, l => match l.findIdx? (fun v => !isHit L l v) with
    | none => (t, l)
    | some i => peelN L k (t ++ [l.getD i 0]) (l.eraseIdx i)
def peeled (N : Int) (L : List Arc) : List Int × List Int := peelN L N.toNat [] (upto N.toNat)

theorem getD_at {α : Type} {l : List α} {i : Nat} (h : i < l.length) (d : α) : l.getD i d = l[i] := by simp [h]
theorem peel_stop {L : List Arc} {t l : List Int} (h : ∀ j, j < l.length → isHit L l (l.getD j 0) = true) (k : Nat) : peelN L k t l = (t, l) := by
  cases k with
  | zero => rfl
  | succ k =>
    have e : l.findIdx? (fun v => !isHit L l v) = none := List.findIdx?_eq_none_iff.2 fun v hv => by
      obtain ⟨j, hj, rfl⟩ := List.getElem_of_mem hv
      have := h j hj
      rw [getD_at hj] at this
      simp [this]
    unfold peelN
    rw [e]
theorem peel_go {L : List Arc} {t l : List Int} {i : Nat} (hi : i < l.length) (h0 : isHit L l (l.getD i 0) = false) (h : ∀ j, j < i → isHit L l (l.getD j 0) = true) (k : Nat) :
    peelN L (k + 1) t l = peelN L k (t ++ [l.getD i 0]) (l.eraseIdx i) := by
  have e : l.findIdx? (fun v => !isHit L l v) = some i := List.findIdx?_eq_some_iff_getElem.2 ⟨hi, by rw [getD_at hi] at h0; simp [h0], fun j hj => by
    have := h j hj
    rw [getD_at (by omega)] at this
    simp [this]⟩
  show (match l.findIdx? (fun v => !isHit L l v) with
    | none => (t, l)
    | some i => peelN L k (t ++ [l.getD i 0]) (l.eraseIdx i)) = _
  rw [e]
theorem peel_at {L : List Arc} {t l : List Int} {i : Nat} (hi : i < l.length) (h0 : isHit L l (l.getD i 0) = false) (h : ∀ j, j < i → isHit L l (l.getD j 0) = true) :
    peelN L l.length t l = peelN L (l.eraseIdx i).length (t ++ [l.getD i 0]) (l.eraseIdx i) := by
  have hl : l.length = (l.eraseIdx i).length + 1 := by rw [List.length_eraseIdx_of_lt hi]; omega
  conv => lhs; rw [hl]
  exact peel_go hi h0 h _

/-- What holds of those told, and of those left. -/
structure PI (n : Nat) (L : List Arc) (t l : List Int) : Prop where
  perm : (t ++ l).Perm (upto n)
  rise : l.Pairwise (· < ·)
  pre : ∀ p v q, t = p ++ v :: q → ∀ u, (⟨u, v⟩ : Arc) ∈ L → u ∈ p

theorem PI.start (n : Nat) (L : List Arc) : PI n L [] (upto n) := ⟨by simp, upto_rise n, fun p v q h => by simp at h⟩
theorem PI.nodup {n : Nat} {L : List Arc} {t l : List Int} (h : PI n L t l) : (t ++ l).Nodup := h.perm.nodup_iff.2 (upto_nodup n)
theorem PI.mem {n : Nat} {L : List Arc} {t l : List Int} (h : PI n L t l) {x : Int} : (x ∈ t ∨ x ∈ l) ↔ 0 ≤ x ∧ x < n := by
  rw [← mem_upto, ← h.perm.mem_iff, List.mem_append]
theorem PI.apart {n : Nat} {L : List Arc} {t l : List Int} (h : PI n L t l) {x : Int} (hx : x ∈ t) (hl : x ∈ l) : False :=
  (List.nodup_append.1 h.nodup).2.2 x hx x hl rfl
theorem cons_erase : ∀ (l : List Int) (i : Nat) (hi : i < l.length), ([l[i]] ++ l.eraseIdx i).Perm l
  | [], i, hi => by simp at hi
  | x :: l, 0, hi => by simp
  | x :: l, i + 1, hi => by
    have ih := cons_erase l i (by simpa using hi)
    simp only [List.getElem_cons_succ, List.eraseIdx_cons_succ, List.singleton_append] at *
    exact (List.Perm.swap _ _ _).trans (List.Perm.cons x ih)
theorem perm_move {t l : List Int} {i : Nat} (hi : i < l.length) : ((t ++ [l.getD i 0]) ++ l.eraseIdx i).Perm (t ++ l) := by
  rw [List.append_assoc]
  refine List.Perm.append_left t ?_
  rw [getD_at hi]
  exact cons_erase l i hi
theorem PI.step {N : Int} {L : List Arc} {t l : List Int} (ok : OkD N L) (h : PI N.toNat L t l) {i : Nat} (hi : i < l.length) (h0 : isHit L l (l.getD i 0) = false) : PI N.toNat L (t ++ [l.getD i 0]) (l.eraseIdx i) := by
  refine ⟨(perm_move hi).trans h.perm, h.rise.sublist (List.eraseIdx_sublist l i), fun p v q e u hu => ?_⟩
  rcases List.eq_nil_or_concat q with rfl | ⟨q', z, rfl⟩
  · obtain ⟨rfl, e2⟩ := List.append_inj' e (by simp)
    simp only [List.cons.injEq, and_true] at e2
    have hr : 0 ≤ u ∧ u < N ∧ 0 ≤ v ∧ v < N ∧ u ≠ v := ok.each _ hu
    have hm := (h.mem (x := u)).2 ⟨hr.1, by have := hr.2.1; have := ok.n0; omega⟩
    rcases hm with hm | hm
    · exact hm
    · rw [e2] at h0
      have : isHit L l v = true := isHit_iff.2 ⟨u, hm, hu⟩
      rw [this] at h0; cases h0
  · have e' : t ++ [l.getD i 0] = (p ++ v :: q') ++ [z] := by rw [e]; simp
    obtain ⟨e1, _⟩ := List.append_inj' e' (by simp)
    exact h.pre p v q' e1 u hu

theorem peelN_spec {N : Int} {L : List Arc} (ok : OkD N L) : ∀ (k : Nat) (t l : List Int), l.length ≤ k → PI N.toNat L t l →
    PI N.toNat L (peelN L k t l).1 (peelN L k t l).2 ∧ ∀ v ∈ (peelN L k t l).2, isHit L (peelN L k t l).2 v = true
  | 0, t, l, hk, h => by
    have : l = [] := List.eq_nil_of_length_eq_zero (by omega)
    subst this
    exact ⟨h, by simp [peelN]⟩
  | k + 1, t, l, hk, h => by
    cases e : l.findIdx? (fun v => !isHit L l v) with
    | none =>
      have hj := List.findIdx?_eq_none_iff.1 e
      have hall : ∀ v ∈ l, isHit L l v = true := fun v hv => by simpa using hj v hv
      rw [peel_stop (fun j hj => hall _ (by rw [getD_at hj]; exact List.getElem_mem hj))]
      exact ⟨h, hall⟩
    | some i =>
      obtain ⟨hi, h0, hj⟩ := List.findIdx?_eq_some_iff_getElem.1 e
      have h0' : isHit L l (l.getD i 0) = false := by rw [getD_at hi]; simpa using h0
      rw [peel_go hi h0' (fun j hji => by rw [getD_at (by omega)]; simpa using hj j hji)]
      exact peelN_spec ok k _ _ (by rw [List.length_eraseIdx_of_lt hi]; omega) (h.step ok hi h0')

theorem peeled_spec {N : Int} {L : List Arc} (ok : OkD N L) : PI N.toNat L (peeled N L).1 (peeled N L).2 ∧ ∀ v ∈ (peeled N L).2, ∃ u ∈ (peeled N L).2, (⟨u, v⟩ : Arc) ∈ L := by
  obtain ⟨h1, h2⟩ := peelN_spec ok N.toNat [] (upto N.toNat) (by rw [upto_length]; exact Nat.le_refl _) (PI.start _ _)
  exact ⟨h1, fun v hv => isHit_iff.1 (h2 v hv)⟩

/-! the document's way of telling the same -/
def isFree (L : List Arc) (t : List Int) (v : Int) : Bool := L.all fun x => !(decide (x.b = v) && !decide (x.a ∈ t))
theorem isFree_iff {L : List Arc} {t : List Int} {v : Int} : isFree L t v = true ↔ ∀ u, (⟨u, v⟩ : Arc) ∈ L → u ∈ t := by
  simp only [isFree, List.all_eq_true, Bool.not_eq_true', Bool.and_eq_false_iff, decide_eq_false_iff_not, Bool.not_eq_false', decide_eq_true_eq]
  constructor
  · intro h u hu
    exact (h _ hu).resolve_left (fun e => e rfl)
  · rintro h ⟨a, b⟩ hx
    by_cases e : b = v
    · subst e; exact .inr (h a hx)
    · exact .inl e
theorem hit_free {N : Int} {L : List Arc} {t l : List Int} (ok : OkD N L) (h : PI N.toNat L t l) (v : Int) : isHit L l v = !isFree L t v := by
  have := ok.n0
  rw [Bool.eq_iff_iff, Bool.not_eq_true', ← Bool.not_eq_true, isHit_iff, isFree_iff]
  constructor
  · rintro ⟨f, hf, hfv⟩ hall
    exact h.apart (hall f hfv) hf
  · intro hn
    apply Classical.byContradiction
    intro hno
    refine hn fun u hu => ?_
    have hr : 0 ≤ u ∧ u < N ∧ 0 ≤ v ∧ v < N ∧ u ≠ v := ok.each _ hu
    rcases (h.mem (x := u)).2 ⟨hr.1, by have := hr.2.1; omega⟩ with hm | hm
    · exact hm
    · exact absurd ⟨u, hm, hu⟩ hno
theorem told_stop {N : Int} {L : List Arc} {t l : List Int} (ok : OkD N L) (h : PI N.toNat L t l) (ha : ∀ a : Nat, a < N.toNat → (a : Int) ∈ t ∨ isFree L t a = false) (k : Nat) : peelN L k t l = (t, l) := by
  refine peel_stop (fun j hj => ?_) k
  rw [getD_at hj]
  have hm : l[j] ∈ l := List.getElem_mem hj
  have hr := h.mem.1 (.inr hm)
  rw [hit_free ok h]
  have := ha (l[j]).toNat (by omega)
  rw [show (((l[j]).toNat : Nat) : Int) = l[j] from by omega] at this
  rcases this with h1 | h1
  · exact absurd hm (fun e => h.apart h1 e)
  · rw [h1]; rfl
theorem told_go {N : Int} {L : List Arc} {t l : List Int} (ok : OkD N L) (h : PI N.toNat L t l) {a : Nat} (ha : a < N.toNat) (hn : (a : Int) ∉ t) (hf : isFree L t a = true) (hb : ∀ b : Nat, b < a → (b : Int) ∈ t ∨ isFree L t b = false) :
    ∃ l', PI N.toNat L (t ++ [(a : Int)]) l' ∧ peelN L l.length t l = peelN L l'.length (t ++ [(a : Int)]) l' := by
  have hm : (a : Int) ∈ l := (h.mem.2 ⟨by omega, by omega⟩).resolve_left hn
  obtain ⟨i, hi, he⟩ := List.getElem_of_mem hm
  have eg : l.getD i 0 = (a : Int) := by rw [getD_at hi, he]
  have h0 : isHit L l (l.getD i 0) = false := by rw [hit_free ok h, eg, hf]; rfl
  have hs := h.step ok hi h0
  rw [eg] at hs
  refine ⟨l.eraseIdx i, hs, ?_⟩
  rw [← eg]
  refine peel_at hi h0 fun j hj => ?_
  have hjl : j < l.length := by omega
  rw [getD_at hjl, hit_free ok h]
  have hlt : l[j] < l[i] := List.pairwise_iff_getElem.1 h.rise j i hjl hi hj
  have hjm : l[j] ∈ l := List.getElem_mem hjl
  have hr := h.mem.1 (.inr hjm)
  have := hb (l[j]).toNat (by omega)
  rw [show (((l[j]).toNat : Nat) : Int) = l[j] from by omega] at this
  rcases this with h1 | h1
  · exact absurd hjm (fun e => h.apart h1 e)
  · rw [h1]; rfl
theorem PI.full {n : Nat} {L : List Arc} {t l : List Int} (h : PI n L t l) (ht : n ≤ t.length) : l = [] := by
  have := h.perm.length_eq
  rw [List.length_append, upto_length] at this
  exact List.eq_nil_of_length_eq_zero (by omega)
theorem PI.len {n : Nat} {L : List Arc} {t l : List Int} (h : PI n L t l) : t.length + l.length = n := by
  have := h.perm.length_eq
  rwa [List.length_append, upto_length] at this

/-! ranks -/
def Ranked (L : List Arc) : Prop := ∃ r : Int → Nat, ∀ x ∈ L, r x.a < r x.b
theorem Ranked.sub {L M : List Arc} (h : Ranked L) (hs : ∀ x ∈ M, x ∈ L) : Ranked M := by
  obtain ⟨r, hr⟩ := h
  exact ⟨r, fun x hx => hr x (hs x hx)⟩
theorem idx_lt {t : List Int} {u v : Int} {p q : List Int} (ht : t.Nodup) (e : t = p ++ v :: q) (hu : u ∈ p) : t.idxOf u < t.idxOf v := by
  subst e
  have hn := List.nodup_append.1 ht
  have hv : v ∉ p := fun hm => hn.2.2 v hm v (by simp) rfl
  rw [List.idxOf_append, if_pos hu, List.idxOf_append, if_neg hv, List.idxOf_cons_self]
  have := List.idxOf_lt_length_of_mem hu
  omega
theorem order_idx {N : Int} {L : List Arc} {t : List Int} (ok : OkD N L) (h : PI N.toNat L t []) (x : Arc) (hx : x ∈ L) : t.idxOf x.a < t.idxOf x.b := by
  have hr := ok.each x hx
  have hm := ((h.mem (x := x.b)).2 ⟨hr.2.2.1, by have := hr.2.2.2.1; omega⟩).resolve_right (by simp)
  obtain ⟨p, q, e⟩ := List.append_of_mem hm
  have hn : t.Nodup := by have := h.nodup; simpa using this
  exact idx_lt hn e (h.pre p x.b q e x.a hx)
theorem peeled_iff {N : Int} {L : List Arc} (ok : OkD N L) : (peeled N L).2 = [] ↔ Ranked L := by
  obtain ⟨h1, h2⟩ := peeled_spec ok
  constructor
  · intro e
    rw [e] at h1
    exact ⟨fun v => (peeled N L).1.idxOf v, fun x hx => order_idx ok h1 x hx⟩
  · rintro ⟨r, hr⟩
    have key : ∀ n v, r v = n → v ∈ (peeled N L).2 → False := by
      intro n
      induction n using Nat.strongRecOn with
      | _ n ih =>
        intro v hv hm
        obtain ⟨u, hu, huv⟩ := h2 v hm
        have := hr _ huv
        exact ih (r u) (by simp at this; omega) u rfl hu
    cases e : (peeled N L).2 with
    | nil => rfl
    | cons v l => exact (key _ v rfl (by rw [e]; simp)).elim

/-- By the order told: what holds of a node if it holds of all that point to it, holds of all. -/
theorem ord_all {n : Nat} {L : List Arc} {t : List Int} (h : PI n L t []) (P : Int → Prop) (step : ∀ v, (∀ x ∈ L, x.b = v → P x.a) → P v) : ∀ v ∈ t, P v := by
  have key : ∀ (p q : List Int), t = p ++ q → ∀ v ∈ p, P v := by
    intro p
    generalize hn : p.length = m
    induction m generalizing p with
    | zero => intro q _ v hv; rw [List.eq_nil_of_length_eq_zero hn] at hv; simp at hv
    | succ m ih =>
      intro q e v hv
      rcases List.eq_nil_or_concat p with rfl | ⟨p', z, rfl⟩
      · simp at hn
      · have hp' : p'.length = m := by simpa using hn
        rw [List.concat_eq_append] at hv e hn
        rw [List.mem_append, List.mem_singleton] at hv
        have e' : t = p' ++ z :: q := by rw [e]; simp
        rcases hv with hv | rfl
        · exact ih p' hp' _ e' v hv
        · exact step v fun x hx hb => ih p' hp' _ e' x.a (h.pre p' v q e' x.a (by rw [← hb]; exact hx))
  exact key t [] (by simp)

end Go.Proofs.YtdfleocknaackaaGreat

/- How deep nodes lie: by the order, and by going through the arcs again and again; who reaches whom: plain facts, of no program. -/
namespace Go.Proofs.YtdfleocknaackaaGreat

/-- One more than the deepest of those that point to v, as d has them. -/
def mostOf (d : List Int) (v : Int) (L : List Arc) : Int := L.foldl (fun m x => if x.b = v then max m (d.getD x.a.toNat 0 + 1) else m) 0
structure IsMost (L : List Arc) (d : List Int) (v m : Int) : Prop where
  nn : 0 ≤ m
  ge : ∀ x ∈ L, x.b = v → d.getD x.a.toNat 0 + 1 ≤ m
  is : m = 0 ∨ ∃ x ∈ L, x.b = v ∧ m = d.getD x.a.toNat 0 + 1
theorem IsMost.uniq {L : List Arc} {d : List Int} {v m k : Int} (h : IsMost L d v m) (g : IsMost L d v k) : m = k := by
  have h1 := h.nn
  have h2 := g.nn
  rcases h.is with h3 | ⟨x, hx, hb, h3⟩
  · rcases g.is with g3 | ⟨y, hy, hyb, g3⟩
    · omega
    · have := h.ge y hy hyb; omega
  · have h4 := g.ge x hx hb
    rcases g.is with g3 | ⟨y, hy, hyb, g3⟩
    · omega
    · have := h.ge y hy hyb; omega
theorem mostOf_snoc (d : List Int) (v : Int) (L : List Arc) (x : Arc) : mostOf d v (L ++ [x]) = if x.b = v then max (mostOf d v L) (d.getD x.a.toNat 0 + 1) else mostOf d v L := by
  unfold mostOf
  rw [List.foldl_append]
  rfl
theorem snoc_ind {α : Type} {P : List α → Prop} (h0 : P []) (hs : ∀ l x, P l → P (l ++ [x])) (l : List α) : P l := by
  rw [← List.reverse_reverse l]
  generalize l.reverse = r
  induction r with
  | nil => exact h0
  | cons x r ih => rw [List.reverse_cons]; exact hs _ _ ih
theorem mostOf_is (d : List Int) (v : Int) (L : List Arc) : IsMost L d v (mostOf d v L) := by
  refine snoc_ind (P := fun L => IsMost L d v (mostOf d v L)) ⟨by simp [mostOf], by simp, .inl (by simp [mostOf])⟩ (fun L x ih => ?_) L
  rw [mostOf_snoc]
  have h1 := ih.nn
  split
  · next hb =>
    refine ⟨by omega, fun y hy hyb => ?_, ?_⟩
    · rcases List.mem_append.1 hy with hy | hy
      · have := ih.ge y hy hyb; omega
      · rw [List.mem_singleton] at hy; subst hy; omega
    · by_cases hle : mostOf d v L ≤ d.getD x.a.toNat 0 + 1
      · exact .inr ⟨x, by simp, hb, by omega⟩
      · rcases ih.is with h | ⟨y, hy, hyb, h⟩
        · exact .inl (by omega)
        · exact .inr ⟨y, by simp [hy], hyb, by omega⟩
  · next hb =>
    refine ⟨h1, fun y hy hyb => ?_, ?_⟩
    · rcases List.mem_append.1 hy with hy | hy
      · exact ih.ge y hy hyb
      · rw [List.mem_singleton] at hy; subst hy; exact absurd hyb hb
    · rcases ih.is with h | ⟨y, hy, hyb, h⟩
      · exact .inl h
      · exact .inr ⟨y, by simp [hy], hyb, h⟩

structure IsDepth (n : Nat) (L : List Arc) (d : List Int) : Prop where
  len : d.length = n
  at_ : ∀ v : Nat, v < n → IsMost L d v (d.getD v 0)

theorem IsDepth.uniq {N : Int} {L : List Arc} {t d e : List Int} (ok : OkD N L) (h : PI N.toNat L t []) (hd : IsDepth N.toNat L d) (he : IsDepth N.toNat L e) : d = e := by
  have key := ord_all h (fun v => 0 ≤ v → v < N → d.getD v.toNat 0 = e.getD v.toNat 0) (fun v hv h0 hN => by
    have a := hd.at_ v.toNat (by omega)
    have b := he.at_ v.toNat (by omega)
    rw [show ((v.toNat : Nat) : Int) = v from by omega] at a b
    have eq : ∀ x ∈ L, x.b = v → d.getD x.a.toNat 0 = e.getD x.a.toNat 0 := fun x hx hb => hv x hx hb (ok.each x hx).1 (ok.each x hx).2.1
    exact a.uniq ⟨b.nn, fun x hx hb => by rw [eq x hx hb]; exact b.ge x hx hb, by
      rcases b.is with h | ⟨x, hx, hb, h⟩
      · exact .inl h
      · exact .inr ⟨x, hx, hb, by rw [eq x hx hb]; exact h⟩⟩)
  refine List.ext_getElem (by rw [hd.len, he.len]) fun i h1 h2 => ?_
  have hi : i < N.toNat := by rw [← hd.len]; exact h1
  have := key i ((h.mem.2 ⟨by omega, by omega⟩).resolve_right (by simp)) (by omega) (by omega)
  rw [show ((i : Int)).toNat = i from by omega, getD_at h1, getD_at h2] at this
  exact this
theorem IsDepth.mono {N : Int} {L M : List Arc} {t d e : List Int} (ok : OkD N M) (h : PI N.toNat M t []) (hs : ∀ x ∈ M, x ∈ L) (hd : IsDepth N.toNat L d) (he : IsDepth N.toNat M e) : ∀ v : Nat, v < N.toNat → e.getD v 0 ≤ d.getD v 0 := by
  have key := ord_all h (fun v => 0 ≤ v → v < N → e.getD v.toNat 0 ≤ d.getD v.toNat 0) (fun v hv h0 hN => by
    have a := hd.at_ v.toNat (by omega)
    have b := he.at_ v.toNat (by omega)
    rw [show ((v.toNat : Nat) : Int) = v from by omega] at a b
    have a1 := a.nn
    rcases b.is with h | ⟨x, hx, hb, h⟩
    · omega
    · have h1 := hv x hx hb (ok.each x hx).1 (ok.each x hx).2.1
      have h2 := a.ge x (hs x hx) hb
      omega)
  intro v hv
  have := key v ((h.mem.2 ⟨by omega, by omega⟩).resolve_right (by simp)) (by omega) (by omega)
  rwa [show ((v : Int)).toNat = v from by omega] at this
theorem IsDepth.less {N : Int} {L : List Arc} {t d : List Int} (ok : OkD N L) (h : PI N.toNat L t []) (hd : IsDepth N.toNat L d) : ∀ v : Nat, v < N.toNat → d.getD v 0 < N := by
  have hn : t.Nodup := by have := h.nodup; simpa using this
  have hl : t.length = N.toNat := by have := h.len; simpa using this
  have key := ord_all h (fun v => 0 ≤ v → v < N → d.getD v.toNat 0 ≤ t.idxOf v) (fun v hv h0 hN => by
    have b := hd.at_ v.toNat (by omega)
    rw [show ((v.toNat : Nat) : Int) = v from by omega] at b
    rcases b.is with h1 | ⟨x, hx, hb, h1⟩
    · omega
    · have h2 := hv x hx hb (ok.each x hx).1 (ok.each x hx).2.1
      have h3 := order_idx ok h x hx
      rw [hb] at h3
      omega)
  intro v hv
  have hm := (h.mem (x := v)).2 ⟨by omega, by omega⟩ |>.resolve_right (by simp)
  have := key v hm (by omega) (by omega)
  rw [show ((v : Int)).toNat = v from by omega] at this
  have h4 := List.idxOf_lt_length_of_mem hm
  omega

/-! depths by the order told -/
/-- .. of those told, of which it goes to v. -/
def mostAt (L : List Arc) (d : List Int) (v : Int) (l : List Int) : Int := l.foldl (fun m u => if (⟨u, v⟩ : Arc) ∈ L then max m (d.getD u.toNat 0 + 1) else m) 0
theorem mostAt_snoc (L : List Arc) (d : List Int) (v : Int) (l : List Int) (u : Int) : mostAt L d v (l ++ [u]) = if (⟨u, v⟩ : Arc) ∈ L then max (mostAt L d v l) (d.getD u.toNat 0 + 1) else mostAt L d v l := by
  unfold mostAt
  rw [List.foldl_append]
  rfl
theorem mostAt_is (L : List Arc) (d : List Int) (v : Int) (l : List Int) (hl : ∀ x ∈ L, x.b = v → x.a ∈ l) : IsMost L d v (mostAt L d v l) := by
  have key : ∀ l : List Int, 0 ≤ mostAt L d v l ∧ (∀ u ∈ l, (⟨u, v⟩ : Arc) ∈ L → d.getD u.toNat 0 + 1 ≤ mostAt L d v l) ∧ (mostAt L d v l = 0 ∨ ∃ u ∈ l, (⟨u, v⟩ : Arc) ∈ L ∧ mostAt L d v l = d.getD u.toNat 0 + 1) := by
    refine snoc_ind ⟨by simp [mostAt], by simp, .inl (by simp [mostAt])⟩ fun l u ih => ?_
    rw [mostAt_snoc]
    obtain ⟨i1, i2, i3⟩ := ih
    split
    · next hb =>
      refine ⟨by omega, fun y hy hyb => ?_, ?_⟩
      · rcases List.mem_append.1 hy with hy | hy
        · have := i2 y hy hyb; omega
        · rw [List.mem_singleton] at hy; subst hy; omega
      · by_cases hle : mostAt L d v l ≤ d.getD u.toNat 0 + 1
        · exact .inr ⟨u, by simp, hb, by omega⟩
        · rcases i3 with h | ⟨y, hy, hyb, h⟩
          · exact .inl (by omega)
          · exact .inr ⟨y, by simp [hy], hyb, by omega⟩
    · next hb =>
      refine ⟨i1, fun y hy hyb => ?_, ?_⟩
      · rcases List.mem_append.1 hy with hy | hy
        · exact i2 y hy hyb
        · rw [List.mem_singleton] at hy; subst hy; exact absurd hyb hb
      · rcases i3 with h | ⟨y, hy, hyb, h⟩
        · exact .inl h
        · exact .inr ⟨y, by simp [hy], hyb, h⟩
  obtain ⟨k1, k2, k3⟩ := key l
  refine ⟨k1, ?_, ?_⟩
  · rintro ⟨a, b⟩ hx hb
    simp only at hb
    subst hb
    exact k2 a (hl _ hx rfl) hx
  · rcases k3 with h | ⟨u, hu, huv, h⟩
    · exact .inl h
    · exact .inr ⟨⟨u, v⟩, huv, rfl, h⟩

/-- What holds of the depths when the first ones of the order are through. -/
structure Deep (n : Nat) (L : List Arc) (p d : List Int) : Prop where
  len : d.length = n
  at_ : ∀ v ∈ p, IsMost L d v (d.getD v.toNat 0)
theorem getD_set_self {l : List Int} {i : Nat} (h : i < l.length) (x : Int) : (l.set i x).getD i 0 = x := by simp [h]
theorem getD_set_ne {l : List Int} {i j : Nat} (h : i ≠ j) (x : Int) : (l.set i x).getD j 0 = l.getD j 0 := by simp [List.getElem?_set_ne h]
theorem toNat_ne {a b : Int} (ha : 0 ≤ a) (hb : 0 ≤ b) (h : a ≠ b) : a.toNat ≠ b.toNat := by omega
theorem Deep.next {N : Int} {L : List Arc} {t p q d : List Int} {v : Int} (h : PI N.toNat L t []) (e : t = p ++ v :: q) (hd : Deep N.toNat L p d) : Deep N.toNat L (p ++ [v]) (d.set v.toNat (mostAt L d v p)) := by
  have hn : t.Nodup := by have := h.nodup; simpa using this
  have hnn : ∀ u ∈ t, 0 ≤ u ∧ u < N := fun u hu => by have := (h.mem (x := u)).1 (.inl hu); omega
  have hv : 0 ≤ v ∧ v < N := hnn v (by rw [e]; simp)
  have hvp : v ∉ p := fun hm => by rw [e] at hn; exact (List.nodup_append.1 hn).2.2 v hm v (by simp) rfl
  have hsame : ∀ u ∈ p, (d.set v.toNat (mostAt L d v p)).getD u.toNat 0 = d.getD u.toNat 0 := fun u hu =>
    getD_set_ne (toNat_ne hv.1 (hnn u (by rw [e]; simp [hu])).1 (fun c => hvp (c ▸ hu))) _
  have hself : (d.set v.toNat (mostAt L d v p)).getD v.toNat 0 = mostAt L d v p := getD_set_self (by rw [hd.len]; omega) _
  refine ⟨by rw [List.length_set]; exact hd.len, fun u hu => ?_⟩
  have trans : ∀ (u m : Int), (∀ x ∈ L, x.b = u → x.a ∈ p) → IsMost L d u m → IsMost L (d.set v.toNat (mostAt L d v p)) u m := fun u m hp hm =>
    ⟨hm.nn, fun x hx hb => by rw [hsame _ (hp x hx hb)]; exact hm.ge x hx hb, by
      rcases hm.is with h | ⟨x, hx, hb, h⟩
      · exact .inl h
      · exact .inr ⟨x, hx, hb, by rw [hsame _ (hp x hx hb)]; exact h⟩⟩
  rcases List.mem_append.1 hu with hu | hu
  · rw [hsame u hu]
    refine trans u _ (fun x hx hb => ?_) (hd.at_ u hu)
    obtain ⟨p1, p2, rfl⟩ := List.append_of_mem hu
    exact List.mem_append_left _ (h.pre p1 u (p2 ++ v :: q) (by rw [e]; simp) x.a (by rw [← hb]; exact hx))
  · rw [List.mem_singleton] at hu
    subst hu
    rw [hself]
    have hp : ∀ x ∈ L, x.b = u → x.a ∈ p := fun x hx hb => h.pre p u q e x.a (by rw [← hb]; exact hx)
    exact trans u _ hp (mostAt_is L d u p hp)
theorem Deep.all {N : Int} {L : List Arc} {t d : List Int} (h : PI N.toNat L t []) (hd : Deep N.toNat L t d) : IsDepth N.toNat L d :=
  ⟨hd.len, fun v hv => by
    have := hd.at_ v ((h.mem.2 ⟨by omega, by omega⟩).resolve_right (by simp))
    rwa [show ((v : Int)).toNat = v from by omega] at this⟩

theorem depth_exists {N : Int} {L : List Arc} {t : List Int} (h : PI N.toNat L t []) : ∃ d, IsDepth N.toNat L d := by
  have key : ∀ p : List Int, (∃ q, t = p ++ q) → ∃ d, Deep N.toNat L p d := by
    refine snoc_ind (fun _ => ⟨List.replicate N.toNat 0, by simp, by simp⟩) fun p v ih => ?_
    rintro ⟨q, e⟩
    obtain ⟨d, hd⟩ := ih ⟨[v] ++ q, by rw [e]; simp⟩
    exact ⟨_, hd.next h (by rw [e]; simp : t = p ++ v :: q)⟩
  obtain ⟨d, hd⟩ := key t ⟨[], by simp⟩
  exact ⟨d, hd.all h⟩

/-! depths by going through the arcs again and again -/
def relax (d : List Int) (x : Arc) : List Int := d.set x.b.toNat (max (d.getD x.b.toNat 0) (d.getD x.a.toNat 0 + 1))
def pass (L : List Arc) (d : List Int) : List Int := L.foldl relax d
def passes (L : List Arc) : Nat → List Int → List Int
  | 0, d => d
  | k + 1, d => pass L (passes L k d)
theorem relax_len (d : List Int) (x : Arc) : (relax d x).length = d.length := by simp [relax]
theorem pass_snoc (L : List Arc) (x : Arc) (d : List Int) : pass (L ++ [x]) d = relax (pass L d) x := by unfold pass; rw [List.foldl_append]; rfl
theorem pass_len (L : List Arc) (d : List Int) : (pass L d).length = d.length := snoc_ind (P := fun L => (pass L d).length = d.length) rfl (fun L x ih => by rw [pass_snoc, relax_len, ih]) L
theorem passes_len (L : List Arc) (k : Nat) (d : List Int) : (passes L k d).length = d.length := by
  induction k with
  | zero => rfl
  | succ k ih => show (pass L _).length = _; rw [pass_len, ih]

theorem passes_is {N : Int} {L : List Arc} {t D : List Int} (ok : OkD N L) (h : PI N.toNat L t []) (hD : IsDepth N.toNat L D) : passes L N.toNat (List.replicate N.toNat 0) = D := by
  have hn0 := ok.n0
  -- one pass
  have one : ∀ (k : Int) (e : List Int), e.length = N.toNat → (∀ v : Nat, v < N.toNat → e.getD v 0 ≤ D.getD v 0) → (∀ v : Nat, v < N.toNat → D.getD v 0 ≤ k → e.getD v 0 = D.getD v 0) → (∀ v : Nat, v < N.toNat → 0 ≤ e.getD v 0) →
      ∀ M : List Arc, (∀ x ∈ M, x ∈ L) → (∀ v : Nat, v < N.toNat → (pass M e).getD v 0 ≤ D.getD v 0) ∧ (∀ v : Nat, v < N.toNat → e.getD v 0 ≤ (pass M e).getD v 0) ∧ ∀ x ∈ M, D.getD x.a.toNat 0 ≤ k → D.getD x.a.toNat 0 + 1 ≤ (pass M e).getD x.b.toNat 0 := by
    intro k e hl hle hk hnn M
    refine snoc_ind (P := fun M => (∀ x ∈ M, x ∈ L) → (∀ v : Nat, v < N.toNat → (pass M e).getD v 0 ≤ D.getD v 0) ∧ (∀ v : Nat, v < N.toNat → e.getD v 0 ≤ (pass M e).getD v 0) ∧ ∀ x ∈ M, D.getD x.a.toNat 0 ≤ k → D.getD x.a.toNat 0 + 1 ≤ (pass M e).getD x.b.toNat 0) (fun _ => ⟨hle, fun _ _ => Int.le_refl _, by simp⟩) (fun M x ih hM => ?_) M
    obtain ⟨i1, i2, i3⟩ := ih (fun y hy => hM y (by simp [hy]))
    have hx := hM x (by simp)
    have hr := ok.each x hx
    have hbl : x.b.toNat < (pass M e).length := by rw [pass_len, hl]; omega
    have hself := getD_set_self hbl (max ((pass M e).getD x.b.toNat 0) ((pass M e).getD x.a.toNat 0 + 1))
    have hDx := (hD.at_ x.b.toNat (by omega)).ge x hx (by omega)
    have ha := i1 x.a.toNat (by omega)
    have hb := i1 x.b.toNat (by omega)
    have ga := i2 x.a.toNat (by omega)
    have gb := i2 x.b.toNat (by omega)
    rw [pass_snoc]
    unfold relax
    refine ⟨fun v hv => ?_, fun v hv => ?_, fun y hy hyk => ?_⟩
    · by_cases e1 : x.b.toNat = v
      · subst e1; rw [hself]; omega
      · rw [getD_set_ne e1]; exact i1 v hv
    · by_cases e1 : x.b.toNat = v
      · subst e1; rw [hself]; omega
      · rw [getD_set_ne e1]; exact i2 v hv
    · have hry := ok.each y (hM y hy)
      by_cases e1 : x.b.toNat = y.b.toNat
      · rw [← e1, hself]
        rcases List.mem_append.1 hy with hy | hy
        · have := i3 y hy hyk; rw [← e1] at this; omega
        · rw [List.mem_singleton] at hy
          subst hy
          have := hk y.a.toNat (by omega) hyk
          omega
      · rw [getD_set_ne e1]
        rcases List.mem_append.1 hy with hy | hy
        · exact i3 y hy hyk
        · rw [List.mem_singleton] at hy
          subst hy
          exact absurd rfl e1
  have key : ∀ k : Nat, (∀ v : Nat, v < N.toNat → (passes L k (List.replicate N.toNat 0)).getD v 0 ≤ D.getD v 0) ∧ (∀ v : Nat, v < N.toNat → D.getD v 0 ≤ k → (passes L k (List.replicate N.toNat 0)).getD v 0 = D.getD v 0) ∧ (∀ v : Nat, v < N.toNat → 0 ≤ (passes L k (List.replicate N.toNat 0)).getD v 0) := by
    intro k
    induction k with
    | zero =>
      have z : ∀ v : Nat, v < N.toNat → (List.replicate N.toNat (0 : Int)).getD v 0 = 0 := fun v hv => by simp [hv]
      refine ⟨fun v hv => ?_, fun v hv hk => ?_, fun v hv => ?_⟩
      · show (List.replicate N.toNat (0 : Int)).getD v 0 ≤ _
        rw [z v hv]; exact (hD.at_ v hv).nn
      · show (List.replicate N.toNat (0 : Int)).getD v 0 = _
        rw [z v hv]; have := (hD.at_ v hv).nn; omega
      · show 0 ≤ (List.replicate N.toNat (0 : Int)).getD v 0
        rw [z v hv]; omega
    | succ k ih =>
      obtain ⟨i1, i2, i3⟩ := ih
      have hl : (passes L k (List.replicate N.toNat 0)).length = N.toNat := by rw [passes_len]; simp
      obtain ⟨o1, o2, o3⟩ := one k _ hl i1 i2 i3 L (fun x hx => hx)
      refine ⟨o1, fun v hv hk => ?_, fun v hv => Int.le_trans (i3 v hv) (o2 v hv)⟩
      show (pass L (passes L k (List.replicate N.toNat 0))).getD v 0 = D.getD v 0
      have a1 := o1 v hv
      have a2 := o2 v hv
      have a3 := i3 v hv
      rcases (hD.at_ v hv).is with h | ⟨x, hx, hb, h⟩
      · omega
      · have h2 := o3 x hx (by omega)
        rw [show x.b.toNat = v from by omega] at h2
        omega
  obtain ⟨k1, k2, k3⟩ := key N.toNat
  refine List.ext_getElem (by rw [passes_len, hD.len]; simp) fun i h1 h2 => ?_
  have hi : i < N.toNat := by rw [← hD.len]; exact h2
  have := k2 i hi (by have := hD.less ok h i hi; omega)
  rwa [getD_at h1, getD_at h2] at this

/-! who reaches whom -/
def reachS (x0 : Int) (out : List Int) (x : Arc) : List Int := if (x.a = x0 ∨ x.a ∈ out) ∧ x.b ∉ out then out ++ [x.b] else out
def reachP (L : List Arc) (x0 : Int) (out : List Int) : List Int := L.foldl (reachS x0) out
def reachN (L : List Arc) (x0 : Int) : Nat → List Int
  | 0 => []
  | k + 1 => reachP L x0 (reachN L x0 k)
def reach (N : Int) (L : List Arc) (x0 : Int) : List Int := reachN L x0 (N.toNat + 1)
def roundD (N : Int) (L : List Arc) : Bool := (upto N.toNat).any fun a => decide (a ∈ reach N L a)
theorem reachP_snoc (L : List Arc) (x : Arc) (x0 : Int) (out : List Int) : reachP (L ++ [x]) x0 out = reachS x0 (reachP L x0 out) x := by unfold reachP; rw [List.foldl_append]; rfl

theorem reachS_len (x0 : Int) (out : List Int) (x : Arc) : out.length ≤ (reachS x0 out x).length ∧ ((reachS x0 out x).length = out.length → reachS x0 out x = out) := by
  unfold reachS
  split
  · simp
  · simp
theorem reachP_len (x0 : Int) (L : List Arc) (out : List Int) : out.length ≤ (reachP L x0 out).length ∧ ((reachP L x0 out).length = out.length → reachP L x0 out = out ∧ ∀ x ∈ L, (x.a = x0 ∨ x.a ∈ out) → x.b ∈ out) := by
  refine snoc_ind (P := fun L => out.length ≤ (reachP L x0 out).length ∧ ((reachP L x0 out).length = out.length → reachP L x0 out = out ∧ ∀ x ∈ L, (x.a = x0 ∨ x.a ∈ out) → x.b ∈ out)) ⟨Nat.le_refl _, fun _ => ⟨rfl, by simp⟩⟩ (fun L x ih => ?_) L
  rw [reachP_snoc]
  have h1 := reachS_len x0 (reachP L x0 out) x
  refine ⟨Nat.le_trans ih.1 h1.1, fun he => ?_⟩
  have hp := ih.2 (by have := h1.1; have := ih.1; omega)
  have hq := h1.2 (by rw [hp.1]; rw [hp.1] at he; exact he)
  rw [hp.1] at hq
  refine ⟨by rw [hp.1]; exact hq, fun y hy hya => ?_⟩
  rcases List.mem_append.1 hy with hy | hy
  · exact hp.2 y hy hya
  · rw [List.mem_singleton] at hy
    subst hy
    apply Classical.byContradiction
    intro hn
    unfold reachS at hq
    rw [if_pos ⟨hya, hn⟩] at hq
    have := congrArg List.length hq
    simp at this
theorem reachP_ok {N : Int} {L : List Arc} (ok : OkD N L) (x0 : Int) : ∀ M : List Arc, (∀ x ∈ M, x ∈ L) → ∀ out : List Int, out.Nodup → (∀ v ∈ out, 0 ≤ v ∧ v < N) → (reachP M x0 out).Nodup ∧ ∀ v ∈ reachP M x0 out, 0 ≤ v ∧ v < N := by
  intro M hM out hn hr
  refine snoc_ind (P := fun M => (∀ x ∈ M, x ∈ L) → (reachP M x0 out).Nodup ∧ ∀ v ∈ reachP M x0 out, 0 ≤ v ∧ v < N) (fun _ => ⟨hn, hr⟩) (fun M x ih hM => ?_) M hM
  obtain ⟨i1, i2⟩ := ih (fun y hy => hM y (by simp [hy]))
  rw [reachP_snoc]
  unfold reachS
  split
  · next hc =>
    refine ⟨List.nodup_append.2 ⟨i1, by simp, fun a ha b hb => ?_⟩, fun v hv => ?_⟩
    · rw [List.mem_singleton] at hb
      subst hb
      exact fun e => hc.2 (e ▸ ha)
    · rcases List.mem_append.1 hv with hv | hv
      · exact i2 v hv
      · rw [List.mem_singleton] at hv
        subst hv
        have := ok.each x (hM x (by simp))
        omega
  · exact ⟨i1, i2⟩
theorem reachN_ok {N : Int} {L : List Arc} (ok : OkD N L) (x0 : Int) (k : Nat) : (reachN L x0 k).Nodup ∧ ∀ v ∈ reachN L x0 k, 0 ≤ v ∧ v < N := by
  induction k with
  | zero => simp [reachN]
  | succ k ih => exact reachP_ok ok x0 L (fun _ h => h) _ ih.1 ih.2
theorem reachN_few {N : Int} {L : List Arc} (ok : OkD N L) (x0 : Int) (k : Nat) : (reachN L x0 k).length ≤ N.toNat := by
  obtain ⟨h1, h2⟩ := reachN_ok ok x0 k
  have := length_le_of_sub (ys := upto N.toNat) h1 (fun x hx => by rw [mem_upto]; have := h2 x hx; omega)
  rwa [upto_length] at this
theorem reach_closed {N : Int} {L : List Arc} (ok : OkD N L) (x0 : Int) : ∀ x ∈ L, (x.a = x0 ∨ x.a ∈ reach N L x0) → x.b ∈ reach N L x0 := by
  -- some pass adds none, and then none does
  have key : ∀ k, (∀ x ∈ L, (x.a = x0 ∨ x.a ∈ reachN L x0 k) → x.b ∈ reachN L x0 k) ∨ k ≤ (reachN L x0 k).length := by
    intro k
    induction k with
    | zero => exact .inr (Nat.zero_le _)
    | succ k ih =>
      have h := reachP_len x0 L (reachN L x0 k)
      by_cases he : (reachP L x0 (reachN L x0 k)).length = (reachN L x0 k).length
      · obtain ⟨h1, h2⟩ := h.2 he
        left
        show ∀ x ∈ L, (x.a = x0 ∨ x.a ∈ reachP L x0 (reachN L x0 k)) → x.b ∈ reachP L x0 (reachN L x0 k)
        rw [h1]
        exact h2
      · rcases ih with ih | ih
        · exfalso
          apply he
          have : reachP L x0 (reachN L x0 k) = reachN L x0 k := by
            have : ∀ M : List Arc, (∀ x ∈ M, x ∈ L) → reachP M x0 (reachN L x0 k) = reachN L x0 k := by
              refine snoc_ind (fun _ => rfl) fun M x ihm hM => ?_
              rw [reachP_snoc, ihm (fun y hy => hM y (by simp [hy]))]
              unfold reachS
              rw [if_neg]
              rintro ⟨a, b⟩
              exact b (ih x (hM x (by simp)) a)
            exact this L (fun _ h => h)
          rw [this]
        · right
          show k + 1 ≤ (reachP L x0 (reachN L x0 k)).length
          have := h.1
          omega
  have := key (N.toNat + 1)
  rcases this with h | h
  · exact h
  · have := reachN_few ok x0 (N.toNat + 1); omega
theorem reach_rank {L : List Arc} {r : Int → Nat} (hr : ∀ x ∈ L, r x.a < r x.b) (x0 : Int) (k : Nat) : ∀ v ∈ reachN L x0 k, r x0 < r v := by
  induction k with
  | zero => simp [reachN]
  | succ k ih =>
    have : ∀ M : List Arc, (∀ x ∈ M, x ∈ L) → ∀ v ∈ reachP M x0 (reachN L x0 k), r x0 < r v := by
      refine snoc_ind (fun _ => ih) fun M x ihm hM => ?_
      have i := ihm (fun y hy => hM y (by simp [hy]))
      rw [reachP_snoc]
      unfold reachS
      split
      · next hc =>
        intro v hv
        rcases List.mem_append.1 hv with hv | hv
        · exact i v hv
        · rw [List.mem_singleton] at hv
          subst hv
          have h1 := hr x (hM x (by simp))
          rcases hc.1 with h | h
          · rw [h] at h1; exact h1
          · have := i _ h; omega
      · exact i
    exact this L (fun _ h => h)
theorem countP_lt {l : List Int} {p q : Int → Bool} (h : ∀ u ∈ l, p u = true → q u = true) {z : Int} (hz : z ∈ l) (hp : p z = false) (hq : q z = true) : l.countP p < l.countP q := by
  induction l with
  | nil => simp at hz
  | cons u l ih =>
    have hle : l.countP p ≤ l.countP q := List.countP_mono_left fun v hv => h v (List.mem_cons_of_mem _ hv)
    rw [List.countP_cons, List.countP_cons]
    rcases List.mem_cons.1 hz with rfl | hz
    · rw [hp, hq]; simp; omega
    · have := ih (fun v hv => h v (List.mem_cons_of_mem _ hv)) hz
      have hu := h u (by simp)
      by_cases e : p u = true
      · rw [e, hu e]; simp; omega
      · rw [if_neg e]; split <;> omega
theorem round_iff {N : Int} {L : List Arc} (ok : OkD N L) : roundD N L = false ↔ Ranked L := by
  constructor
  · intro h
    have hno : ∀ a : Int, 0 ≤ a → a < N → a ∉ reach N L a := fun a h0 h1 hm => by
      have := List.any_eq_false.1 h a (by rw [mem_upto]; omega)
      simp [hm] at this
    refine ⟨fun v => (upto N.toNat).countP fun u => decide (v ∈ reach N L u), fun x hx => ?_⟩
    have hr := ok.each x hx
    refine countP_lt (z := x.a) (fun u hu hp => ?_) (by rw [mem_upto]; omega) (by simpa using hno x.a hr.1 hr.2.1) (by simpa using reach_closed ok x.a x hx (.inl rfl))
    rw [decide_eq_true_eq] at hp ⊢
    exact reach_closed ok u x hx (.inr hp)
  · rintro ⟨r, hr⟩
    refine List.any_eq_false.2 fun a ha => ?_
    rw [decide_eq_true_eq]
    intro hm
    exact Nat.lt_irrefl _ (reach_rank hr a _ a hm)

end Go.Proofs.YtdfleocknaackaaGreat

/- The nodes that arcs lead round: plain facts, of no program. -/
namespace Go.Proofs.YtdfleocknaackaaGreat

/-- The least one left from which an arc goes to v. -/
def nextOf (L : List Arc) (l : List Int) (v : Int) : Int := (l.find? fun u => decide ((⟨u, v⟩ : Arc) ∈ L)).getD 0
theorem next_is {L : List Arc} {l : List Int} {v : Int} (h : ∃ u ∈ l, (⟨u, v⟩ : Arc) ∈ L) : nextOf L l v ∈ l ∧ (⟨nextOf L l v, v⟩ : Arc) ∈ L := by
  unfold nextOf
  cases e : l.find? fun u => decide ((⟨u, v⟩ : Arc) ∈ L) with
  | none =>
    obtain ⟨u, hu, hv⟩ := h
    have := List.find?_eq_none.1 e u hu
    simp [hv] at this
  | some u => exact ⟨List.mem_of_find?_eq_some e, by simpa using List.find?_some e⟩
theorem next_at {L : List Arc} {l : List Int} {v : Int} {i : Nat} (hi : i < l.length) (h : (⟨l.getD i 0, v⟩ : Arc) ∈ L) (hj : ∀ j, j < i → (⟨l.getD j 0, v⟩ : Arc) ∉ L) : nextOf L l v = l.getD i 0 := by
  unfold nextOf
  have : l.find? (fun u => decide ((⟨u, v⟩ : Arc) ∈ L)) = some (l.getD i 0) := by
    refine List.find?_eq_some_iff_getElem.2 ⟨by simpa using h, i, hi, by rw [getD_at hi], fun j hji => ?_⟩
    have := hj j hji
    rw [getD_at (by omega)] at this
    simpa using this
  rw [this]
  rfl

def minI (r : List Int) : Int := r.foldl min (r.headD 0)
theorem min_snoc (r : List Int) (x : Int) (h : r ≠ []) : minI (r ++ [x]) = min (minI r) x := by
  unfold minI
  rw [List.foldl_append]
  cases r with
  | nil => exact absurd rfl h
  | cons y r => rfl
theorem min_is (r : List Int) (h : r ≠ []) : minI r ∈ r ∧ ∀ x ∈ r, minI r ≤ x := by
  refine snoc_ind (P := fun r => r ≠ [] → minI r ∈ r ∧ ∀ x ∈ r, minI r ≤ x) (fun h => absurd rfl h) (fun r x ih _ => ?_) r h
  by_cases e : r = []
  · subst e; simp [minI]
  · rw [min_snoc r x e]
    obtain ⟨h1, h2⟩ := ih e
    constructor
    · by_cases hx : minI r ≤ x
      · rw [show min (minI r) x = minI r from by omega]; exact List.mem_append_left _ h1
      · rw [show min (minI r) x = x from by omega]; simp
    · intro y hy
      rcases List.mem_append.1 hy with hy | hy
      · have := h2 y hy; omega
      · rw [List.mem_singleton] at hy; subst hy; omega

def rotate (r : List Int) (i : Nat) : List Int := r.drop i ++ r.take i
def turnedOf (s : List Int) : List Int := rotate s.reverse (s.reverse.idxOf (minI s.reverse))
def cycA (L : List Arc) (l : List Int) : Nat → List Int → Int → List Int
  | 0, _, _ => []
  | k + 1, w, a => if a ∈ w then turnedOf (w.drop (w.idxOf a)) else cycA L l k (w ++ [a]) (nextOf L l a)
def cycleOf (N : Int) (L : List Arc) : List Int := cycA L (peeled N L).2 ((peeled N L).2.length + 1) [] ((peeled N L).2.headD 0)

/-- A way so far: its nodes are left ones, each once; behind it the cycle is C. -/
structure Wy (L : List Arc) (l : List Int) (C : List Int) (w : List Int) (a : Int) : Prop where
  nodup : w.Nodup
  sub : ∀ x ∈ w, x ∈ l
  here : a ∈ l
  few : w.length ≤ l.length
  is : cycA L l (l.length + 1 - w.length) w a = C
theorem Wy.next {L : List Arc} {l C w : List Int} {a : Int} (hl : ∀ v ∈ l, ∃ u ∈ l, (⟨u, v⟩ : Arc) ∈ L) (h : Wy L l C w a) (ha : a ∉ w) : Wy L l C (w ++ [a]) (nextOf L l a) := by
  have hn : (w ++ [a]).Nodup := List.nodup_append.2 ⟨h.nodup, by simp, fun x hx y hy => by rw [List.mem_singleton] at hy; subst hy; exact fun e => ha (e ▸ hx)⟩
  have hs : ∀ x ∈ w ++ [a], x ∈ l := fun x hx => by
    rcases List.mem_append.1 hx with hx | hx
    · exact h.sub x hx
    · rw [List.mem_singleton] at hx; subst hx; exact h.here
  have hf : (w ++ [a]).length ≤ l.length := length_le_of_sub hn hs
  refine ⟨hn, hs, (next_is (hl a h.here)).1, hf, ?_⟩
  have := h.is
  rw [List.length_append, List.length_singleton] at hf ⊢
  rw [show l.length + 1 - w.length = (l.length + 1 - (w.length + 1)) + 1 from by omega] at this
  unfold cycA at this
  rwa [if_neg ha] at this
theorem Wy.stop {L : List Arc} {l C w : List Int} {a : Int} (h : Wy L l C w a) (ha : a ∈ w) : turnedOf (w.drop (w.idxOf a)) = C := by
  have := h.is
  have hf := h.few
  rw [show l.length + 1 - w.length = (l.length - w.length) + 1 from by omega] at this
  unfold cycA at this
  rwa [if_pos ha] at this
theorem Wy.start {N : Int} {L : List Arc} (h : (peeled N L).2 ≠ []) : Wy L (peeled N L).2 (cycleOf N L) [] ((peeled N L).2.headD 0) := by
  refine ⟨by simp, by simp, ?_, by simp, rfl⟩
  cases e : (peeled N L).2 with
  | nil => exact absurd e h
  | cons x l => simp

/-! the document's way of telling the same -/
theorem take_first {w : List Int} {a : Int} (hn : w.Nodup) {k : Nat} (hk : k < w.reverse.length) (ha : w.reverse.getD k 0 = a) : w.reverse.take (k + 1) = (w.drop (w.idxOf a)).reverse ∧ a ∈ w := by
  have hm : a ∈ w := by
    rw [← ha, getD_at hk]
    exact List.mem_reverse.1 (List.getElem_mem hk)
  refine ⟨?_, hm⟩
  have hl : w.reverse.length = w.length := List.length_reverse
  have hi := List.idxOf_lt_length_of_mem hm
  have e1 : w[w.idxOf a]'hi = a := List.getElem_idxOf hi
  have e2 : w[w.length - 1 - k]'(by omega) = a := by
    rw [getD_at hk, List.getElem_reverse] at ha
    exact ha
  have := (List.getElem_inj hn).1 (e1.trans e2.symm)
  rw [List.take_reverse, show w.length - (k + 1) = w.idxOf a from by omega]
theorem first_min {r : List Int} (hn : r.Nodup) {i : Nat} (hi : i < r.length) (h : ∀ j, j < r.length → r.getD i 0 ≤ r.getD j 0) : i = r.idxOf (minI r) := by
  have hne : r ≠ [] := by intro e; subst e; simp at hi
  obtain ⟨h1, h2⟩ := min_is r hne
  have e : r[i] = minI r := by
    obtain ⟨j, hj, e⟩ := List.getElem_of_mem h1
    have a := h j hj
    have b := h2 r[i] (List.getElem_mem hi)
    rw [getD_at hi, getD_at hj, e] at a
    omega
  have hk := List.idxOf_lt_length_of_mem h1
  exact (List.getElem_inj hn).1 (e.trans (List.getElem_idxOf hk).symm)

/-! what holds of it -/
def Ring (L : List Arc) (r : List Int) : Prop := ∀ j, j < r.length → (⟨r.getD j 0, r.getD (if j + 1 = r.length then 0 else j + 1) 0⟩ : Arc) ∈ L
theorem rotate_len (r : List Int) (i : Nat) : (rotate r i).length = r.length := by unfold rotate; rw [List.length_append, List.length_drop, List.length_take]; omega
theorem rotate_at {r : List Int} {i j : Nat} (hi : i < r.length) (hj : j < r.length) : (rotate r i).getD j 0 = r.getD (if i + j < r.length then i + j else i + j - r.length) 0 := by
  unfold rotate
  have hl : (r.drop i ++ r.take i).length = r.length := rotate_len r i
  rw [getD_at (by rw [hl]; exact hj)]
  by_cases h : i + j < r.length
  · rw [if_pos h, getD_at h, List.getElem_append_left (by rw [List.length_drop]; omega), List.getElem_drop]
  · rw [if_neg h, getD_at (by omega), List.getElem_append_right (by rw [List.length_drop]; omega), List.getElem_take]
    congr 1
    rw [List.length_drop]
    omega
theorem Ring.rotate {L : List Arc} {r : List Int} (h : Ring L r) {i : Nat} (hi : i < r.length) : Ring L (rotate r i) := by
  intro j hj
  rw [rotate_len] at hj ⊢
  rw [rotate_at hi hj]
  by_cases e : j + 1 = r.length
  · rw [if_pos e, rotate_at hi (by omega)]
    have := h (if i + j < r.length then i + j else i + j - r.length) (by split <;> omega)
    rw [show (if i + 0 < r.length then i + 0 else i + 0 - r.length) = (if (if i + j < r.length then i + j else i + j - r.length) + 1 = r.length then 0 else (if i + j < r.length then i + j else i + j - r.length) + 1) from by
      repeat' split
      all_goals omega]
    exact this
  · rw [if_neg e, rotate_at hi (by omega)]
    have := h (if i + j < r.length then i + j else i + j - r.length) (by split <;> omega)
    rw [show (if i + (j + 1) < r.length then i + (j + 1) else i + (j + 1) - r.length) = (if (if i + j < r.length then i + j else i + j - r.length) + 1 = r.length then 0 else (if i + j < r.length then i + j else i + j - r.length) + 1) from by
      repeat' split
      all_goals omega]
    exact this
structure IsCyc (L : List Arc) (c : List Int) : Prop where
  some : 1 ≤ c.length
  ring : Ring L c
  least : ∀ j, 0 < j → j < c.length → c.getD 0 0 < c.getD j 0
  nodup : c.Nodup
theorem nodup_drop {w : List Int} (h : w.Nodup) (i : Nat) : (w.drop i).Nodup := List.Nodup.sublist (List.drop_sublist i w) h
theorem nodup_rotate {r : List Int} (h : r.Nodup) (i : Nat) : (rotate r i).Nodup := by
  unfold rotate
  have hp : (r.drop i ++ r.take i).Perm r := by
    have := (List.perm_append_comm (l₁ := r.drop i) (l₂ := r.take i))
    rwa [List.take_append_drop] at this
  exact hp.nodup_iff.2 h
theorem turned_ok {L : List Arc} {s : List Int} (hn : s.Nodup) (hs : s ≠ []) (h : ∀ i, i + 1 < s.length → (⟨s.getD (i + 1) 0, s.getD i 0⟩ : Arc) ∈ L) (hb : (⟨s.getD 0 0, s.getD (s.length - 1) 0⟩ : Arc) ∈ L) : IsCyc L (turnedOf s) := by
  have hp : 0 < s.length := List.length_pos_iff.2 hs
  have hl : s.reverse.length = s.length := List.length_reverse
  have hr : s.reverse ≠ [] := by simpa using hs
  have hnr : s.reverse.Nodup := (List.reverse_perm s).nodup_iff.2 hn
  obtain ⟨m1, m2⟩ := min_is _ hr
  have hi := List.idxOf_lt_length_of_mem m1
  have rev : ∀ j, j < s.length → s.reverse.getD j 0 = s.getD (s.length - 1 - j) 0 := fun j hj => by
    rw [getD_at (by omega), getD_at (by omega), List.getElem_reverse]
  have ring : Ring L s.reverse := by
    intro j hj
    rw [hl] at hj ⊢
    rw [rev j hj]
    by_cases e : j + 1 = s.length
    · rw [if_pos e, rev 0 hp, show s.length - 1 - j = 0 from by omega]
      exact hb
    · rw [if_neg e, rev (j + 1) (by omega)]
      have := h (s.length - 1 - (j + 1)) (by omega)
      rwa [show s.length - 1 - (j + 1) + 1 = s.length - 1 - j from by omega] at this
  have hn' := nodup_rotate hnr (s.reverse.idxOf (minI s.reverse))
  refine ⟨by unfold turnedOf; rw [rotate_len]; omega, ring.rotate hi, fun j h0 hj => ?_, hn'⟩
  have hj' : j < s.reverse.length := by
    unfold turnedOf at hj
    rw [rotate_len] at hj
    exact hj
  have c0 : (turnedOf s).getD 0 0 = minI s.reverse := by
    unfold turnedOf
    rw [rotate_at hi (by omega), if_pos (by omega), Nat.add_zero, getD_at hi, List.getElem_idxOf]
  have hle : minI s.reverse ≤ (turnedOf s).getD j 0 := by
    unfold turnedOf
    rw [rotate_at hi hj']
    have : ∀ k, k < s.reverse.length → minI s.reverse ≤ s.reverse.getD k 0 := fun k hk => by rw [getD_at hk]; exact m2 _ (List.getElem_mem hk)
    exact this _ (by split <;> omega)
  have hne : (turnedOf s).getD 0 0 ≠ (turnedOf s).getD j 0 := by
    rw [getD_at (by omega), getD_at hj]
    intro e
    have := (List.getElem_inj hn').1 e
    omega
  omega
theorem cycA_ok {L : List Arc} {l : List Int} (hl : ∀ v ∈ l, ∃ u ∈ l, (⟨u, v⟩ : Arc) ∈ L) : ∀ (k : Nat) (w : List Int) (a : Int), k + w.length = l.length + 1 → w.Nodup → (∀ x ∈ w, x ∈ l) → a ∈ l →
    (∀ i, i + 1 < w.length → (⟨w.getD (i + 1) 0, w.getD i 0⟩ : Arc) ∈ L) → (w ≠ [] → (⟨a, w.getD (w.length - 1) 0⟩ : Arc) ∈ L) → IsCyc L (cycA L l k w a)
  | 0, w, a, hk, hn, hs, ha, _, _ => by
    have := length_le_of_sub hn hs
    omega
  | k + 1, w, a, hk, hn, hs, ha, hc, hz => by
    unfold cycA
    split
    · next hm =>
      have hi := List.idxOf_lt_length_of_mem hm
      have hw : w ≠ [] := by intro e; subst e; simp at hm
      have hd : ∀ j, j < (w.drop (w.idxOf a)).length → (w.drop (w.idxOf a)).getD j 0 = w.getD (w.idxOf a + j) 0 := fun j hj => by
        have hj' : w.idxOf a + j < w.length := by rw [List.length_drop] at hj; omega
        rw [getD_at hj, getD_at hj', List.getElem_drop]
      have hdl : (w.drop (w.idxOf a)).length = w.length - w.idxOf a := List.length_drop
      refine turned_ok (nodup_drop hn _) (by intro e; rw [e] at hdl; simp at hdl; omega) (fun i hi2 => ?_) ?_
      · rw [hd _ hi2, hd _ (by omega)]
        exact hc (w.idxOf a + i) (by omega)
      · rw [hd _ (by omega), hd _ (by omega), Nat.add_zero, getD_at hi, List.getElem_idxOf, hdl, show w.idxOf a + (w.length - w.idxOf a - 1) = w.length - 1 from by omega]
        exact hz hw
    · next hm =>
      have hn' : (w ++ [a]).Nodup := List.nodup_append.2 ⟨hn, by simp, fun x hx y hy => by rw [List.mem_singleton] at hy; subst hy; exact fun e => hm (e ▸ hx)⟩
      have nx := next_is (hl a ha)
      refine cycA_ok hl k (w ++ [a]) _ (by simp; omega) hn' (fun x hx => by
        rcases List.mem_append.1 hx with hx | hx
        · exact hs x hx
        · rw [List.mem_singleton] at hx; subst hx; exact ha) nx.1 (fun i hi => ?_) (fun _ => ?_)
      · rw [List.length_append, List.length_singleton] at hi
        have e1 : (w ++ [a]).getD i 0 = w.getD i 0 := by rw [getD_at (by simp; omega), getD_at (by omega), List.getElem_append_left]
        by_cases e : i + 1 = w.length
        · have e2 : (w ++ [a]).getD (i + 1) 0 = a := by rw [getD_at (by simp; omega), List.getElem_append_right (by omega)]; simp
          rw [e1, e2]
          have := hz (by intro e'; subst e'; simp at e)
          rwa [show w.length - 1 = i from by omega] at this
        · have e2 : (w ++ [a]).getD (i + 1) 0 = w.getD (i + 1) 0 := by rw [getD_at (by simp; omega), getD_at (by omega), List.getElem_append_left]
          rw [e1, e2]
          exact hc i (by omega)
      · have : (w ++ [a]).getD ((w ++ [a]).length - 1) 0 = a := by
          rw [List.length_append, List.length_singleton, getD_at (by simp), List.getElem_append_right (by omega)]
          simp
        rw [this]
        exact nx.2
theorem cycle_ok {N : Int} {L : List Arc} (ok : OkD N L) (h : (peeled N L).2 ≠ []) : IsCyc L (cycleOf N L) := by
  obtain ⟨_, h2⟩ := peeled_spec ok
  refine cycA_ok h2 _ [] _ (by simp) (by simp) (by simp) ?_ (by simp) (by simp)
  cases e : (peeled N L).2 with
  | nil => exact absurd e h
  | cons x l => simp
theorem IsCyc.two {N : Int} {L : List Arc} {c : List Int} (ok : OkD N L) (h : IsCyc L c) : 2 ≤ c.length := by
  have h1 := h.some
  rcases Nat.lt_or_ge 1 c.length with h2 | h2
  · exact h2
  · have := h.ring 0 (by omega)
    rw [if_pos (by omega)] at this
    have := (ok.each _ this).2.2.2.2
    exact absurd rfl this

end Go.Proofs.YtdfleocknaackaaGreat
