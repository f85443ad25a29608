/- Who is near whom; which nodes are joined (the mathematics of P3.3). -/
import Derived.Test.YtdfleocknaackaaGreatElem3
import Derived.Test.YtdfleocknaackaaGreatMath3
namespace Go.Proofs.YtdfleocknaackaaGreat

def endsOf (L : List Edge) : List Int := L.flatMap fun e => [e.a, e.b]
def hits (a : Int) (e : Edge) : Bool := e.a == a || e.b == a
def nearOf (E : List Edge) (a : Int) : List Int := norm ((endsOf (E.filter (hits a))).filter fun y => y != a)

theorem endsOf_snoc (L : List Edge) (e : Edge) : endsOf (L ++ [e]) = endsOf L ++ [e.a, e.b] := by unfold endsOf; simp
theorem endsOf_length (L : List Edge) : (endsOf L).length = 2 * L.length := by
  unfold endsOf
  induction L with
  | nil => rfl
  | cons e L ih => simp only [List.flatMap_cons, List.length_append, List.length_cons, List.length_nil, ih]; omega

theorem mem_nearOf {E : List Edge} (ok : ∀ e ∈ E, e.a < e.b) {a x : Int} : x ∈ nearOf E a ↔ btw a x ∈ E := by
  unfold nearOf
  rw [mem_norm]
  simp only [List.mem_filter, endsOf, List.mem_flatMap, hits, Bool.or_eq_true, beq_iff_eq, bne_iff_ne, ne_eq, List.mem_cons, List.not_mem_nil, or_false]
  constructor
  · rintro ⟨⟨e, ⟨he, h1⟩, h2⟩, h3⟩
    have := ok e he
    have : e = btw a x := by
      obtain ⟨p, q⟩ := e
      simp only [btw, Edge.mk.injEq] at *
      omega
    rw [← this]; exact he
  · intro h
    have := ok _ h
    simp only [btw] at this
    refine ⟨⟨_, ⟨h, ?_⟩, ?_⟩, ?_⟩ <;> (try simp only [btw]) <;> omega

/-- Two nodes are joined. -/
inductive Join (E : List Edge) (u : Int) : Int → Prop
  | refl : Join E u u
  | step {v x : Int} : Join E u v → btw v x ∈ E → Join E u x

theorem Join.trans {E : List Edge} {u v x : Int} (h : Join E u v) (g : Join E v x) : Join E u x := by
  induction g with
  | refl => exact h
  | step _ hm ih => exact ih.step hm
theorem Join.one {E : List Edge} {u v : Int} (h : btw u v ∈ E) : Join E u v := Join.refl.step h
theorem Join.symm {E : List Edge} {u v : Int} (h : Join E u v) : Join E v u := by
  induction h with
  | refl => exact .refl
  | step _ hm ih => exact (Join.one (by rw [btw_comm]; exact hm)).trans ih
theorem Join.mono {E D : List Edge} (hs : ∀ e ∈ E, e ∈ D) {u v : Int} (h : Join E u v) : Join D u v := by
  induction h with
  | refl => exact .refl
  | step _ hm ih => exact ih.step (hs _ hm)
theorem Join.closed {E : List Edge} {P : Int → Prop} (hc : ∀ x, P x → ∀ z, btw x z ∈ E → P z) {u v : Int} (h : Join E u v) (hu : P u) : P v := by
  induction h with
  | refl => exact hu
  | step _ hm ih => exact hc _ ih _ hm

/-- With an edge more. -/
theorem join_more {E D : List Edge} {a b : Int} (hD : ∀ e, e ∈ D ↔ e = btw a b ∨ e ∈ E) {u v : Int} : Join D u v ↔ Join E u v ∨ (Join E u a ∧ Join E b v) ∨ (Join E u b ∧ Join E a v) := by
  constructor
  · intro h
    induction h with
    | refl => exact .inl .refl
    | @step v x _ hm ih =>
      rcases (hD _).1 hm with e | e
      · rcases btw_eq.1 e with ⟨rfl, rfl⟩ | ⟨rfl, rfl⟩
        · rcases ih with h | ⟨h, _⟩ | ⟨h, _⟩
          · exact .inr (.inl ⟨h, .refl⟩)
          · exact .inr (.inl ⟨h, .refl⟩)
          · exact .inl h
        · rcases ih with h | ⟨h, _⟩ | ⟨h, _⟩
          · exact .inr (.inr ⟨h, .refl⟩)
          · exact .inl h
          · exact .inr (.inr ⟨h, .refl⟩)
      · rcases ih with h | ⟨h, g⟩ | ⟨h, g⟩
        · exact .inl (h.step e)
        · exact .inr (.inl ⟨h, g.step e⟩)
        · exact .inr (.inr ⟨h, g.step e⟩)
  · have hs : ∀ e ∈ E, e ∈ D := fun e he => (hD e).2 (.inr he)
    have hab : btw a b ∈ D := (hD _).2 (.inl rfl)
    rintro (h | ⟨h, g⟩ | ⟨h, g⟩)
    · exact h.mono hs
    · exact ((h.mono hs).step hab).trans (g.mono hs)
    · exact ((h.mono hs).step (by rw [btw_comm]; exact hab)).trans (g.mono hs)

/-- p names the least node that each is joined with. -/
structure Least (E : List Edge) (x y : Int) : Prop where
  join : Join E y x
  pos : 0 ≤ y
  least : ∀ j, 0 ≤ j → Join E j x → y ≤ j
theorem Least.uniq {E : List Edge} {x y z : Int} (h : Least E x y) (g : Least E x z) : y = z := by
  have := h.least z g.pos g.join
  have := g.least y h.pos h.join
  omega
theorem Least.of_join {E : List Edge} {x z y : Int} (h : Least E x y) (j : Join E x z) : Least E z y := ⟨h.join.trans j, h.pos, fun i hi hj => h.least i hi (hj.trans j.symm)⟩

def IsParts (E : List Edge) (N : Int) (p : List Int) : Prop := (p.length : Int) = N ∧ ∀ i : Nat, i < p.length → Least E i (p.getD i 0)

theorem parts_low {E : List Edge} {N : Int} {p : List Int} (h : IsParts E N p) {i : Nat} (hi : i < p.length) : 0 ≤ p.getD i 0 ∧ p.getD i 0 ≤ i :=
  ⟨(h.2 i hi).pos, (h.2 i hi).least i (by omega) .refl⟩
theorem parts_again {E : List Edge} {N : Int} {p : List Int} (h : IsParts E N p) {i : Nat} (hi : i < p.length) : p.getD (p.getD i 0).toNat 0 = p.getD i 0 := by
  have h0 := parts_low h hi
  have h1 := h.2 (p.getD i 0).toNat (by omega)
  rw [show (((p.getD i 0).toNat : Nat) : Int) = p.getD i 0 from by omega] at h1
  exact h1.uniq ((h.2 i hi).of_join (h.2 i hi).join.symm)
theorem parts_edge {E : List Edge} {N : Int} {p : List Int} (h : IsParts E N p) (ok : OkG N E) {e : Edge} (he : e ∈ E) : p.getD e.a.toNat 0 = p.getD e.b.toNat 0 := by
  have ⟨h1, h2, h3⟩ := ok.each e he
  have hN := h.1
  have ha := h.2 e.a.toNat (by omega)
  have hb := h.2 e.b.toNat (by omega)
  rw [show ((e.a.toNat : Nat) : Int) = e.a from by omega] at ha
  rw [show ((e.b.toNat : Nat) : Int) = e.b from by omega] at hb
  have hj : btw e.a e.b ∈ E := by
    have : btw e.a e.b = e := by obtain ⟨x, y⟩ := e; simp only [btw, Edge.mk.injEq] at *; omega
    rw [this]; exact he
  exact (ha.of_join (Join.one hj)).uniq hb
theorem parts_more {E : List Edge} {N : Int} {p q : List Int} {a b : Int} (hp : IsParts E N p) (hq : IsParts (insE (btw a b) E) N q) (ha : 0 ≤ a ∧ a < N) (hb : 0 ≤ b ∧ b < N) {i : Nat} (hi : i < p.length) (hi' : i < q.length) :
    q.getD i 0 = if p.getD i 0 = p.getD a.toNat 0 ∨ p.getD i 0 = p.getD b.toNat 0 then min (p.getD a.toNat 0) (p.getD b.toNat 0) else p.getD i 0 := by
  have hN := hp.1
  have la := hp.2 a.toNat (by omega)
  have lb := hp.2 b.toNat (by omega)
  have li := hp.2 i hi
  have ji := fun {u v : Int} => join_more (E := E) (D := insE (btw a b) E) (a := a) (b := b) (fun e => mem_insE) (u := u) (v := v)
  rw [show ((a.toNat : Nat) : Int) = a from by omega] at la
  rw [show ((b.toNat : Nat) : Int) = b from by omega] at lb
  generalize p.getD a.toNat 0 = pa at *
  generalize p.getD b.toNat 0 = pb at *
  generalize p.getD i 0 = pi at *
  refine (hq.2 i hi').uniq ?_
  have same : ∀ {x y z : Int}, Least E x z → Least E y z → Join E x y := fun h g => h.join.symm.trans g.join
  have pos := la.pos
  have pos' := lb.pos
  split
  · next hc =>
    have hm : Join (insE (btw a b) E) a i := by
      rcases hc with rfl | rfl
      · exact ji.2 (.inl (same la li))
      · exact ji.2 (.inr (.inl ⟨.refl, same lb li⟩))
    have hab : Join (insE (btw a b) E) a b := ji.2 (.inr (.inl ⟨.refl, .refl⟩))
    refine ⟨?_, by omega, fun j hj hji => ?_⟩
    · rcases Int.le_total pa pb with h | h
      · rw [Int.min_eq_left h]; exact (ji.2 (.inl la.join)).trans hm
      · rw [Int.min_eq_right h]; exact (ji.2 (.inl lb.join)).trans (hab.symm.trans hm)
    · have hja := hji.trans hm.symm
      rcases ji.1 hja with h | ⟨h, _⟩ | ⟨h, _⟩
      · have := la.least j hj h; omega
      · have := la.least j hj h; omega
      · have := lb.least j hj h; omega
  · next hc =>
    refine ⟨ji.2 (.inl li.join), li.pos, fun j hj hji => ?_⟩
    rcases ji.1 hji with h | ⟨_, h⟩ | ⟨_, h⟩
    · exact li.least j hj h
    · exact absurd (.inr ((lb.of_join h).uniq li).symm) hc
    · exact absurd (.inl ((la.of_join h).uniq li).symm) hc

/-- What is known of each node, while they are come to. -/
abbrev Known := Int → Option Int
def upd (f : Known) (v y : Int) : Known := fun x => if x = v then some y else f x
def free (N : Int) (f : Known) : Nat := ((List.range N.toNat).filter fun i : Nat => (f (i : Int)).isNone).length
theorem upd_self (f : Known) (v y : Int) : upd f v y v = some y := by simp [upd]
theorem upd_other (f : Known) {v y x : Int} (h : x ≠ v) : upd f v y x = f x := by simp [upd, h]

theorem free_mono {N : Int} {f g : Known} (h : ∀ x y, f x = some y → g x = some y) : free N g ≤ free N f := by
  unfold free
  refine List.Sublist.length_le ?_
  rw [show (fun i : Nat => (g (i : Int)).isNone) = fun i : Nat => ((g (i : Int)).isNone && (f (i : Int)).isNone) from funext fun i => by
    cases hf : f (i : Int) with
    | none => simp
    | some y => rw [h _ _ hf]; simp]
  rw [← List.filter_filter]
  exact List.filter_sublist
theorem count_one (v : Nat) : ∀ n : Nat, v < n → ((List.range n).filter fun i => i == v).length = 1 := by
  intro n
  induction n with
  | zero => intro h; omega
  | succ n ih =>
    intro h
    rw [List.range_succ, List.filter_append, List.length_append]
    by_cases e : v = n
    · subst e
      rw [List.filter_eq_nil_iff.2 (fun i hi => by have := List.mem_range.1 hi; simp; omega)]
      simp
    · rw [ih (by omega)]
      simp
      omega
theorem free_upd {N : Int} {f : Known} {v y : Int} (h0 : 0 ≤ v) (h1 : v < N) (hf : f v = none) : free N (upd f v y) + 1 = free N f := by
  unfold free
  have key : ∀ l : List Nat, (l.filter fun i : Nat => (f (i : Int)).isNone).length = (l.filter fun i : Nat => ((upd f v y) (i : Int)).isNone).length + (l.filter fun i : Nat => i == v.toNat).length := by
    intro l
    induction l with
    | nil => rfl
    | cons i l ih =>
      simp only [List.filter_cons]
      by_cases e : i = v.toNat
      · have e' : (i : Int) = v := by omega
        rw [e', hf, upd_self]
        simp [e]
        rw [ih]
        omega
      · have e' : (i : Int) ≠ v := by omega
        rw [upd_other f e']
        have e2 : (i == v.toNat) = false := by simp [e]
        rw [e2]
        split
        · simp only [List.length_cons, ih]; simp; omega
        · simpa using ih
  have := key (List.range N.toNat)
  rw [count_one v.toNat N.toNat (by omega)] at this
  omega
theorem free_pos {N : Int} {f : Known} {v : Int} (h0 : 0 ≤ v) (h1 : v < N) (hf : f v = none) : 0 < free N f := by have := free_upd (y := 0) h0 h1 hf; omega

/-- What a call of join(v, y) leaves. -/
structure Grown (E : List Edge) (N v y : Int) (f g : Known) : Prop where
  keep : ∀ x z, f x = some z → g x = some z
  here : g v ≠ none
  new : ∀ x z, g x = some z → f x = none → z = y ∧ Join E v x ∧ 0 ≤ x ∧ x < N
  closed : ∀ x, g x ≠ none → f x = none → ∀ z, btw x z ∈ E → g z ≠ none
theorem Grown.been {E : List Edge} {N v y : Int} {f : Known} (h : f v ≠ none) : Grown E N v y f f :=
  ⟨fun _ _ h => h, h, fun x z h1 h2 => (by rw [h1] at h2; cases h2), fun x h1 h2 => absurd h2 h1⟩

/-- .. in the midst of it: those of done were come to. -/
structure Mid (E : List Edge) (N v y : Int) (f g : Known) (done : List Int) : Prop where
  keep : ∀ x z, f x = some z → g x = some z
  here : g v = some y
  new : ∀ x z, g x = some z → f x = none → z = y ∧ Join E v x ∧ 0 ≤ x ∧ x < N
  closed : ∀ x, g x ≠ none → f x = none → x ≠ v → ∀ z, btw x z ∈ E → g z ≠ none
  done : ∀ z ∈ done, g z ≠ none
theorem Mid.start {E : List Edge} {N v y : Int} {f : Known} (hf : f v = none) (h0 : 0 ≤ v) (h1 : v < N) : Mid E N v y f (upd f v y) [] where
  keep := fun x z h => by
    have : x ≠ v := fun e => by rw [e, hf] at h; cases h
    rw [upd_other f this]; exact h
  here := upd_self f v y
  new := fun x z h g => by
    by_cases e : x = v
    · subst e; rw [upd_self] at h; cases h; exact ⟨rfl, .refl, h0, h1⟩
    · rw [upd_other f e, g] at h; cases h
  closed := fun x h g e => by rw [upd_other f e] at h; exact absurd g h
  done := fun z h => by cases h
theorem Mid.step {E : List Edge} {N v y x : Int} {f g g' : Known} {done : List Int} (h : Mid E N v y f g done) (hx : btw v x ∈ E) (s : Grown E N x y g g') : Mid E N v y f g' (done ++ [x]) where
  keep := fun u z hu => s.keep _ _ (h.keep _ _ hu)
  here := s.keep _ _ h.here
  new := fun u z hu hf => by
    cases e : g u with
    | none => have := s.new u z hu e; exact ⟨this.1, (Join.one hx).trans this.2.1, this.2.2⟩
    | some t => have := s.keep _ _ e; rw [hu] at this; cases this; exact h.new u z e hf
  closed := fun u hu hf hv z hz => by
    cases e : g u with
    | none => exact s.closed u hu e z hz
    | some t =>
      have hg := h.closed u (by rw [e]; simp) hf hv z hz
      cases e2 : g z with
      | none => exact absurd e2 hg
      | some r => rw [s.keep _ _ e2]; simp
  done := fun z hz => by
    rcases List.mem_append.1 hz with hz | hz
    · cases e2 : g z with
      | none => exact absurd e2 (h.done z hz)
      | some r => rw [s.keep _ _ e2]; simp
    · rw [List.mem_singleton] at hz; subst hz; exact s.here
theorem Mid.all {E : List Edge} {N v y : Int} {f g : Known} {done : List Int} (h : Mid E N v y f g done) (hd : ∀ z, btw v z ∈ E → z ∈ done) : Grown E N v y f g where
  keep := h.keep
  here := by rw [h.here]; simp
  new := h.new
  closed := fun x hx hf z hz => by
    by_cases e : x = v
    · subst e; exact h.done z (hd z hz)
    · exact h.closed x hx hf e z hz

/-- The nodes up to k were come to. -/
structure Come (E : List Edge) (N : Int) (k : Nat) (g : Known) : Prop where
  all : ∀ x : Int, 0 ≤ x → x < k → g x ≠ none
  closed : ∀ x, g x ≠ none → ∀ z, btw x z ∈ E → g z ≠ none
  least : ∀ x y, g x = some y → Least E x y
theorem Come.start {E : List Edge} {N : Int} : Come E N 0 (fun _ => none) := ⟨fun x h1 h2 => (by omega), fun x h => absurd rfl h, fun x y h => (by cases h)⟩
theorem Come.step {E : List Edge} {N : Int} {k : Nat} {g g' : Known} (h : Come E N k g) (s : Grown E N k k g g') : Come E N (k + 1) g' where
  all := fun x h1 h2 => by
    by_cases e : x = k
    · subst e; exact s.here
    · have := h.all x h1 (by omega)
      cases e2 : g x with
      | none => exact absurd e2 this
      | some r => rw [s.keep _ _ e2]; simp
  closed := fun x hx z hz => by
    cases e : g x with
    | none => exact s.closed x hx e z hz
    | some t =>
      have := h.closed x (by rw [e]; simp) z hz
      cases e2 : g z with
      | none => exact absurd e2 this
      | some r => rw [s.keep _ _ e2]; simp
  least := fun x y hx => by
    cases e : g x with
    | some t => have := s.keep _ _ e; rw [hx] at this; cases this; exact h.least x y e
    | none =>
      obtain ⟨rfl, hj, _⟩ := s.new x y hx e
      refine ⟨hj, by omega, fun j h0 hjx => ?_⟩
      rcases Int.lt_or_le j k with hlt | hge
      · exact absurd e (hjx.closed (P := fun x => g x ≠ none) h.closed (h.all j h0 hlt))
      · exact hge

end Go.Proofs.YtdfleocknaackaaGreat
