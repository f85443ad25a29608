/- The elements of slices here: numbers and edges; what is told of edges (the mathematics of layer 3). -/
import Derived.Test.YtdfleocknaackaaGreatMB
namespace Go.Proofs.YtdfleocknaackaaGreat
open Go.RowKit

instance : Elem Int where
  e := 3
  t := 43
  k := 1
  bytes := 8
  z := .int .i64 0
  enc := fun x => [.int .i64 x]
  dflt := 0
  len := fun _ => rfl
  pos := by decide
  one := fun x u hu => by simp at hu; subst hu; rfl
  row := by kernel_rfl
  info := by kernel_rfl
  zsize := rfl
  few := by decide

theorem Sl.ints {w : World} {v : Value} {xs : List Int} (h : Sl w v xs) :
    (xs = [] ∧ ∃ ao c, v = .slice ao 0 c) ∨
    (∃ b off c, v = .slice (some ⟨b, off, none⟩) xs.length c ∧ xs.length ≤ c ∧ c ≤ 9223372036854775807 ∧ b < w.heap.size ∧ 0 < xs.length ∧ ∀ j, j < xs.length → w.cell? ⟨b, off + j, none⟩ = some (.int .i64 (xs.getD j 0))) := by
  rcases h.parts with h | ⟨b, off, c, h1, h2, h3, h4, h5, h6⟩
  · exact .inl h
  · refine .inr ⟨b, off, c, h1, h2, h3, h4, h5, fun j hj => ?_⟩
    have := h6 j (xs.getD j 0) (by simp [hj]) 0 _ rfl
    rwa [show off + (j * Elem.k Int + 0) = off + j from by show off + (j * 1 + 0) = _; omega] at this

structure Edge where
  a : Int
  b : Int
deriving DecidableEq

instance : Elem Edge where
  e := 36
  t := 22
  k := 2
  bytes := 16
  z := .agg #[.int .i64 0, .int .i64 0]
  enc := fun x => [.int .i64 x.a, .int .i64 x.b]
  dflt := ⟨0, 0⟩
  len := fun _ => rfl
  pos := by decide
  one := fun x u hu => by simp at hu; rcases hu with rfl | rfl <;> rfl
  row := by kernel_rfl
  info := by kernel_rfl
  zsize := rfl
  few := by decide

theorem Sl.edges {w : World} {v : Value} {xs : List Edge} (h : Sl w v xs) :
    (xs = [] ∧ ∃ ao c, v = .slice ao 0 c) ∨
    (∃ b off c, v = .slice (some ⟨b, off, none⟩) xs.length c ∧ xs.length ≤ c ∧ c ≤ 9223372036854775807 ∧ b < w.heap.size ∧ 0 < xs.length ∧
      ∀ j, j < xs.length → w.cell? ⟨b, off + j * 2, none⟩ = some (.int .i64 (xs.getD j ⟨0, 0⟩).a) ∧ w.cell? ⟨b, off + j * 2 + 1, none⟩ = some (.int .i64 (xs.getD j ⟨0, 0⟩).b)) := by
  rcases h.parts with h | ⟨b, off, c, h1, h2, h3, h4, h5, h6⟩
  · exact .inl h
  · refine .inr ⟨b, off, c, h1, h2, h3, h4, h5, fun j hj => ?_⟩
    have e : xs[j]? = some (xs.getD j ⟨0, 0⟩) := by simp [hj]
    exact ⟨h6 j _ e 0 _ rfl, by have := h6 j _ e 1 _ rfl; rwa [show off + (j * Elem.k Edge + 1) = off + j * 2 + 1 from by show off + (j * 2 + 1) = _; omega] at this⟩

theorem cells_i (xs : List Int) : cellsOf xs = xs.map (Value.int .i64) := by
  induction xs with
  | nil => rfl
  | cons x xs ih => show [Value.int .i64 x] ++ cellsOf xs = _; rw [ih]; rfl

def ahead (x y : Edge) : Bool := decide (x.a < y.a) || (decide (x.a = y.a) && decide (x.b < y.b))
def cmpI (a b : Int) : Int := if a < b then -1 else if b < a then 1 else 0
def ord (x y : Edge) : Int := if cmpI x.a y.a ≠ 0 then cmpI x.a y.a else cmpI x.b y.b
def btw (a b : Int) : Edge := ⟨min a b, max a b⟩
def rises (E : List Edge) : Bool := decide (E.Pairwise fun x y => ahead x y = true)
def okE (N : Int) (e : Edge) : Bool := decide (0 ≤ e.a) && decide (e.a < e.b) && decide (e.b < N)
def okG (N : Int) (E : List Edge) : Bool := decide (0 ≤ N) && decide (N ≤ 64) && decide (E.length ≤ 400) && E.all (okE N) && rises E

theorem ord_lt (x y : Edge) : decide (ord x y < 0) = ahead x y := by
  unfold ord ahead cmpI
  rw [Bool.eq_iff_iff]
  simp only [decide_eq_true_eq, Bool.or_eq_true, Bool.and_eq_true]
  repeat' split
  all_goals omega
theorem ord_neg (x y : Edge) : decide (ord x y = -1) = ahead x y := by
  unfold ord ahead cmpI
  rw [Bool.eq_iff_iff]
  simp only [decide_eq_true_eq, Bool.or_eq_true, Bool.and_eq_true]
  repeat' split
  all_goals omega
theorem ord_pos (x y : Edge) : decide (ord x y = 1) = ahead y x := by
  unfold ord ahead cmpI
  rw [Bool.eq_iff_iff]
  simp only [decide_eq_true_eq, Bool.or_eq_true, Bool.and_eq_true]
  repeat' split
  all_goals omega
theorem ord_zero (x y : Edge) : decide (ord x y = 0) = decide (x = y) := by
  obtain ⟨a, b⟩ := x
  obtain ⟨c, d⟩ := y
  unfold ord cmpI
  rw [Bool.eq_iff_iff]
  simp only [decide_eq_true_eq, Edge.mk.injEq]
  repeat' split
  all_goals omega
theorem ahead_trans {x y z : Edge} (h : ahead x y = true) (g : ahead y z = true) : ahead x z = true := by
  simp only [ahead, Bool.or_eq_true, Bool.and_eq_true, decide_eq_true_eq] at *
  omega
theorem ahead_irr (x : Edge) : ahead x x = false := by simp [ahead]
theorem ahead_asymm {x y : Edge} (h : ahead x y = true) : ahead y x = false := by
  cases e : ahead y x with
  | false => rfl
  | true => have := ahead_trans h e; rw [ahead_irr] at this; cases this
theorem ahead_tri {x y : Edge} (h : x ≠ y) (g : ahead x y = false) : ahead y x = true := by
  obtain ⟨a, b⟩ := x
  obtain ⟨c, d⟩ := y
  simp only [ahead, Bool.or_eq_true, Bool.and_eq_true, decide_eq_true_eq, Bool.or_eq_false_iff, Bool.and_eq_false_iff, decide_eq_false_iff_not, ne_eq, Edge.mk.injEq] at *
  omega

theorem btw_comm (a b : Int) : btw a b = btw b a := by simp [btw, Int.min_comm, Int.max_comm]
theorem btw_eq {a b c d : Int} : btw a b = btw c d ↔ (a = c ∧ b = d) ∨ (a = d ∧ b = c) := by
  simp only [btw, Edge.mk.injEq]
  omega

def Rises (E : List Edge) : Prop := E.Pairwise fun x y => ahead x y = true
theorem rises_iff {E : List Edge} : rises E = true ↔ Rises E := by simp [rises, Rises]

/-- With one more. -/
def insE (x : Edge) : List Edge → List Edge
  | [] => [x]
  | y :: l => if ahead x y then x :: y :: l else y :: insE x l

theorem mem_insE {x z : Edge} : ∀ {l : List Edge}, z ∈ insE x l ↔ z = x ∨ z ∈ l
  | [] => by simp [insE]
  | y :: l => by
    unfold insE
    split
    · simp
    · simp only [List.mem_cons, mem_insE (l := l)]
      constructor
      · rintro (h | h | h) <;> simp [h]
      · rintro (h | h | h) <;> simp [h]
theorem length_insE {x : Edge} : ∀ {l : List Edge}, (insE x l).length = l.length + 1
  | [] => rfl
  | y :: l => by unfold insE; split <;> simp [length_insE (l := l)]
theorem rises_insE {x : Edge} : ∀ {l : List Edge}, Rises l → x ∉ l → Rises (insE x l)
  | [], _, _ => by simp [Rises, insE]
  | y :: l, h, hx => by
    have h' := List.pairwise_cons.1 h
    unfold insE
    split
    · next ha =>
      refine List.pairwise_cons.2 ⟨fun z hz => ?_, h⟩
      rcases List.mem_cons.1 hz with rfl | hz
      · exact ha
      · exact ahead_trans ha (h'.1 z hz)
    · next ha =>
      refine List.pairwise_cons.2 ⟨fun z hz => ?_, rises_insE h'.2 (fun hm => hx (List.mem_cons_of_mem _ hm))⟩
      rcases mem_insE.1 hz with rfl | hz
      · exact ahead_tri (fun e => hx (by simp [e])) (by simpa using ha)
      · exact h'.1 z hz
theorem insE_none {x : Edge} : ∀ {l : List Edge}, l.any (ahead x) = false → insE x l = l ++ [x]
  | [], _ => rfl
  | y :: l, h => by
    simp only [List.any_cons, Bool.or_eq_false_iff] at h
    unfold insE
    rw [if_neg (by simp [h.1]), insE_none h.2]
    rfl
theorem insE_snoc {x y : Edge} : ∀ {l : List Edge}, l.any (ahead x) = true → insE x (l ++ [y]) = insE x l ++ [y]
  | [], h => by simp at h
  | z :: l, h => by
    simp only [List.any_cons, Bool.or_eq_true] at h
    show insE x (z :: (l ++ [y])) = _
    unfold insE
    split
    · rfl
    · next ha => rw [insE_snoc (h.resolve_left ha)]; rfl
/-- Two that are a rise, with the same in them, are one. -/
theorem rises_ext {l m : List Edge} (hl : Rises l) (hm : Rises m) (h : ∀ x, x ∈ l ↔ x ∈ m) : l = m := by
  induction l generalizing m with
  | nil => cases m with
    | nil => rfl
    | cons y m => exact absurd ((h y).2 (by simp)) (by simp)
  | cons x l ih => cases m with
    | nil => exact absurd ((h x).1 (by simp)) (by simp)
    | cons y m =>
      have a := List.pairwise_cons.1 hl
      have b := List.pairwise_cons.1 hm
      have exy : x = y := by
        rcases List.mem_cons.1 ((h x).1 (by simp)) with e | e
        · exact e
        · rcases List.mem_cons.1 ((h y).2 (by simp)) with e' | e'
          · exact e'.symm
          · have h1 := b.1 x e
            have h2 := a.1 y e'
            rw [ahead_asymm h1] at h2; cases h2
      subst exy
      rw [ih a.2 b.2]
      intro z
      constructor
      · intro hz
        rcases List.mem_cons.1 ((h z).1 (by simp [hz])) with e | e
        · subst e; have := a.1 z hz; rw [ahead_irr] at this; cases this
        · exact e
      · intro hz
        rcases List.mem_cons.1 ((h z).2 (by simp [hz])) with e | e
        · subst e; have := b.1 z hz; rw [ahead_irr] at this; cases this
        · exact e
theorem rises_filter {l : List Edge} (h : Rises l) (p : Edge → Bool) : Rises (l.filter p) := List.Pairwise.sublist List.filter_sublist h

/-- Those ahead, it, those behind. -/
theorem insE_parts {x : Edge} : ∀ {l : List Edge}, Rises l → x ∉ l → l.filter (fun e => ahead e x) ++ ([x] ++ l.filter (fun e => ahead x e)) = insE x l := by
  intro l h hx
  refine rises_ext ?_ (rises_insE h hx) fun z => ?_
  · refine List.pairwise_append.2 ⟨rises_filter h _, List.pairwise_cons.2 ⟨fun z hz => (List.mem_filter.1 hz).2, rises_filter h _⟩, fun y hy z hz => ?_⟩
    have hy' := (List.mem_filter.1 hy).2
    rcases List.mem_cons.1 hz with rfl | hz
    · exact hy'
    · exact ahead_trans hy' (List.mem_filter.1 hz).2
  · simp only [List.mem_append, List.mem_filter, List.mem_singleton, mem_insE]
    constructor
    · rintro (⟨h, _⟩ | h | ⟨h, _⟩) <;> simp [h]
    · rintro (h | h)
      · exact .inr (.inl h)
      · by_cases e : z = x
        · exact .inr (.inl e)
        · cases ha : ahead z x with
          | true => exact .inl ⟨h, rfl⟩
          | false => exact .inr (.inr ⟨h, ahead_tri e ha⟩)

/-- What is wrong of a graph. -/
def chk (N : Int) (E : List Edge) : Int := if okG N E = true then 0 else 30
def badEnds (N a b : Int) : Bool := decide (a = b) || (decide (min a b < 0) || decide (N ≤ max a b))
def ends (N : Int) (E : List Edge) (a b : Int) : Int := if okG N E = true then (if badEnds N a b = true then 31 else 0) else 30
/-- What is wrong with an edge more, and without one. -/
def addR (N : Int) (E : List Edge) (a b : Int) : Int := if ends N E a b = 0 then (if btw a b ∈ E then 32 else if E.length = 400 then 30 else 0) else ends N E a b
def remR (N : Int) (E : List Edge) (a b : Int) : Int := if ends N E a b = 0 then (if btw a b ∈ E then 0 else 33) else ends N E a b

structure OkG (N : Int) (E : List Edge) : Prop where
  n0 : 0 ≤ N
  n64 : N ≤ 64
  few : E.length ≤ 400
  each : ∀ e ∈ E, 0 ≤ e.a ∧ e.a < e.b ∧ e.b < N
  rise : Rises E
theorem okG_iff {N : Int} {E : List Edge} : okG N E = true ↔ OkG N E := by
  simp only [okG, Bool.and_eq_true, decide_eq_true_eq, List.all_eq_true, okE, rises_iff]
  constructor
  · rintro ⟨⟨⟨⟨h1, h2⟩, h3⟩, h4⟩, h5⟩
    exact ⟨h1, h2, h3, fun e he => by have := h4 e he; omega, h5⟩
  · rintro ⟨h1, h2, h3, h4, h5⟩
    exact ⟨⟨⟨⟨h1, h2⟩, h3⟩, fun e he => by have := h4 e he; omega⟩, h5⟩

end Go.Proofs.YtdfleocknaackaaGreat
