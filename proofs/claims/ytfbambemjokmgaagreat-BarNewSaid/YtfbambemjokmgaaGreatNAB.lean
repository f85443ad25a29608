/- Texts of this seat. -/
import Derived.Test.YtfbambemjokmgaaGreatNAA
namespace Go.Proofs.YtfbambemjokmgaaGreat
open Go.RowKit Go.ChangeShapes Go.WideShapes Go.Deep
def Non : Nat → Prop := fun _ => False
theorem sa_non {α : Type} [Elem α] {w : World} {v : Value} {xs : List α} (h : Sl w v xs) : Sa Non w v xs := ⟨h, .inr fun _ _ hf => hf⟩
def DecW (α : Type) {δ : Type} [Elem α] [Nest α δ] : Prop := ∀ (H : Type) (enc : TypeId × Value → H) (w : World) (base : Nat) (spare : Nat → Bool) (held : Bool) (n : Nat) (cs : List Value) (x : DataW H × List MemPlace),
  DataW.trod enc Tryz.prog w base spare held n (Elem.e α) cs = some x → ∃ (a : α) (d : δ), cs = Elem.enc a ∧ Nest.rd Non w a d
theorem field_slice {α : Type} [Elem α] (hdec : Dec α) (hC : Tryz.prog.cellsOf (Elem.e α) = Elem.k α) {H : Type} {enc : TypeId × Value → H} {w : World} {base : Nat} {spare : Nat → Bool} {held : Bool} {v : Value} {n : Nat} {y : DataW H × List MemPlace}
    (hf : DataW.trod enc Tryz.prog w base spare held n (Elem.t α) [v] = some y) : ∃ ao c, ∃ xs : List α, v = .slice ao xs.length c ∧ Sl w (.slice ao xs.length c) xs := by
  rcases open_slice (Elem.row (α := α)) hf with ⟨hcs, _⟩ | ⟨a, len, cap, m, n, D, Pl, hcs, hb, hl, hm, hmm, hx, hi⟩
  · simp at hcs
    subst hcs
    exact ⟨none, 0, [], rfl, Sl.empty _ _ _ (by omega) (fun _ => rfl)⟩
  · simp at hcs
    subst hcs
    have hlm : len ≤ m := by rw [hmm]; split <;> omega
    have key : ∀ i, ∃ x : α, i < len → w.cells? base (a.add (i * Elem.k α)) (Elem.k α) = some (Elem.enc x) := by
      intro i
      by_cases hil : i < len
      · obtain ⟨cs', h1, h2⟩ := hi i (by omega)
        obtain ⟨x, rfl⟩ := hdec H enc w base spare held n cs' _ h2
        rw [hC] at h1
        exact ⟨x, fun _ => h1⟩
      · exact ⟨Elem.dflt, fun h => absurd h hil⟩
    obtain ⟨f, hf'⟩ := Classical.axiomOfChoice key
    have hxl : ((List.range len).map f).length = len := by simp
    refine ⟨some a, cap, (List.range len).map f, by rw [hxl], ?_⟩
    by_cases h0 : len = 0
    · subst h0
      exact ⟨by simp [cellsOf], some a, cap, rfl, by simp, hm, by simp, .inl (by simp)⟩
    · have hpos := Elem.pos (α := α)
      obtain ⟨b, off, sp⟩ := a
      have hz : w.cell? ((Addr.mk b off sp).add 0) = some ((Elem.enc (f 0))[0]'(by rw [Elem.len]; exact hpos)) := by
        have := (World.cells?_some (hf' 0 (by omega))).2.2 0 hpos
        rw [Nat.zero_mul] at this
        simpa [Addr.add] using this.trans (List.getElem?_eq_getElem (by rw [Elem.len]; exact hpos))
      have hsp : sp = none := by
        have := spot_none hz
        simpa [Addr.add] using this
      subst hsp
      obtain ⟨v0, hz'⟩ : ∃ v0, w.cell? ⟨b, off, none⟩ = some v0 := ⟨_, by simpa [Addr.add] using hz⟩
      refine ⟨cellsOf_length _, _, cap, rfl, by rw [hxl]; exact hl, hm, by simp, .inr ⟨b, off, rfl, World.block_lt_of_cell? w _ hz', fun j u hj => ?_⟩⟩
      obtain ⟨i, x, r, h1, h2, h3, rfl⟩ := cellsOf_split _ j u hj
      rw [List.getElem?_map] at h1
      have hil : i < len := by
        rcases Nat.lt_or_ge i len with h | h
        · exact h
        · rw [List.getElem?_eq_none (by simpa using h)] at h1; simp at h1
      rw [List.getElem?_range hil] at h1
      simp only [Option.map_some, Option.some.injEq] at h1
      have := (World.cells?_some (hf' i hil)).2.2 r h3
      rw [addr_add b off _, addr_add b _ r] at this
      rw [show off + (i * Elem.k α + r) = off + i * Elem.k α + r from by omega, this, h1, h2]
set_option maxRecDepth 50000 in
theorem arg_sliceW {α δ : Type} [Elem α] [Nest α δ] (hP : ∃ (a : α) (d : δ), ∀ w, Nest.rd Non w a d) (hdec : DecW α) (hC : Tryz.prog.cellsOf (Elem.e α) = Elem.k α) {H : Type} {enc : TypeId × Value → H} {w : World} {r : Reach} {b0 base : Nat} {spare : Nat → Bool} {held : Bool} {v : Value} {d : DataW H} {p : List MemPlace}
    (hv : Value.okWide Tryz.prog w r b0 (Elem.t α) v) (h : DataW.Trod enc Tryz.prog w base spare held (Elem.t α) v d p) : ∃ ao c, ∃ L : List δ, v = .slice ao L.length c ∧ Ns α Non w (.slice ao L.length c) L := by
  obtain ⟨ao, len, cap, rfl⟩ := okWide_slice (Elem.row (α := α)) hv
  obtain ⟨fuel, hf⟩ := h
  replace hP : ∃ (a : α) (d : δ), Nest.rd Non w a d := by obtain ⟨a, d, hq⟩ := hP; exact ⟨a, d, hq w⟩
  rcases open_slice (Elem.row (α := α)) hf with ⟨hcs, _⟩ | ⟨a, l, c, m, n, D, Pl, hcs, hb, hl, hm, hmm, hx, hi⟩
  · simp [Value.cells] at hcs
    obtain ⟨rfl, rfl, rfl⟩ := hcs
    exact ⟨none, 0, [], rfl, Ns.nil _ _⟩
  · simp [Value.cells] at hcs
    obtain ⟨rfl, rfl, rfl⟩ := hcs
    have hlm : len ≤ m := by rw [hmm]; split <;> omega
    have key : ∀ i, ∃ y : α × δ, Nest.rd Non w y.1 y.2 ∧ (i < len → w.cells? base (a.add (i * Elem.k α)) (Elem.k α) = some (Elem.enc y.1)) := by
      intro i
      by_cases hil : i < len
      · obtain ⟨cs', h1, h2⟩ := hi i (by omega)
        obtain ⟨x, d, rfl, hp⟩ := hdec H enc w base spare held n cs' _ h2
        rw [hC] at h1
        exact ⟨(x, d), hp, fun _ => h1⟩
      · obtain ⟨x, d, hp⟩ := hP
        exact ⟨(x, d), hp, fun h => absurd h hil⟩
    obtain ⟨f2, hf0⟩ := Classical.axiomOfChoice key
    obtain ⟨f, hff⟩ : ∃ f : Nat → α, f = fun i => (f2 i).1 := ⟨_, rfl⟩
    have hf' : ∀ i, i < len → w.cells? base (a.add (i * Elem.k α)) (Elem.k α) = some (Elem.enc (f i)) := fun i h => by rw [hff]; exact (hf0 i).2 h
    have hrd : ∀ i, Nest.rd Non w (f i) (f2 i).2 := fun i => by rw [hff]; exact (hf0 i).1
    have hxl : ((List.range len).map f).length = len := by simp
    refine ⟨some a, cap, (List.range len).map fun i => (f2 i).2, by simp, ?_⟩
    have hxl2 : ((List.range len).map fun i => (f2 i).2).length = len := by simp
    rw [hxl2]
    suffices hs : Sl w (.slice (some a) len cap) ((List.range len).map f) by
      refine ⟨(List.range len).map f, sa_non hs, by simp, fun j x d hx hd => ?_⟩
      rw [List.getElem?_map] at hx hd
      cases hq : (List.range len)[j]? with
      | none => rw [hq] at hx; simp at hx
      | some i =>
        rw [hq] at hx hd
        simp only [Option.map_some, Option.some.injEq] at hx hd
        subst hx hd
        exact hrd i
    by_cases h0 : len = 0
    · subst h0
      exact ⟨by simp [cellsOf], some a, cap, rfl, by simp, hm, by simp, .inl (by simp)⟩
    · have hpos := Elem.pos (α := α)
      obtain ⟨b, off, sp⟩ := a
      have hz : w.cell? ((Addr.mk b off sp).add 0) = some ((Elem.enc (f 0))[0]'(by rw [Elem.len]; exact hpos)) := by
        have := (World.cells?_some (hf' 0 (by omega))).2.2 0 hpos
        rw [Nat.zero_mul] at this
        simpa [Addr.add] using this.trans (List.getElem?_eq_getElem (by rw [Elem.len]; exact hpos))
      have hsp : sp = none := by
        have := spot_none hz
        simpa [Addr.add] using this
      subst hsp
      obtain ⟨v0, hz'⟩ : ∃ v0, w.cell? ⟨b, off, none⟩ = some v0 := ⟨_, by simpa [Addr.add] using hz⟩
      refine ⟨cellsOf_length _, _, cap, by rw [hxl], by rw [hxl]; exact hl, hm, by simp, .inr ⟨b, off, rfl, World.block_lt_of_cell? w _ hz', fun j u hj => ?_⟩⟩
      obtain ⟨i, x, r, h1, h2, h3, rfl⟩ := cellsOf_split _ j u hj
      rw [List.getElem?_map] at h1
      have hil : i < len := by
        rcases Nat.lt_or_ge i len with h | h
        · exact h
        · rw [List.getElem?_eq_none (by simpa using h)] at h1; simp at h1
      rw [List.getElem?_range hil] at h1
      simp only [Option.map_some, Option.some.injEq] at h1
      have := (World.cells?_some (hf' i hil)).2.2 r h3
      rw [addr_add b off _, addr_add b _ r] at this
      rw [show off + (i * Elem.k α + r) = off + i * Elem.k α + r from by omega, this, h1, h2]
set_option maxRecDepth 50000 in
theorem field_sliceW {α δ : Type} [Elem α] [Nest α δ] (hP : ∃ (a : α) (d : δ), ∀ w, Nest.rd Non w a d) (hdec : DecW α) (hC : Tryz.prog.cellsOf (Elem.e α) = Elem.k α) {H : Type} {enc : TypeId × Value → H} {w : World} {base : Nat} {spare : Nat → Bool} {held : Bool} {v : Value} {n : Nat} {y : DataW H × List MemPlace}
    (hf : DataW.trod enc Tryz.prog w base spare held n (Elem.t α) [v] = some y) : ∃ ao c, ∃ L : List δ, v = .slice ao L.length c ∧ Ns α Non w (.slice ao L.length c) L := by
  replace hP : ∃ (a : α) (d : δ), Nest.rd Non w a d := by obtain ⟨a, d, hq⟩ := hP; exact ⟨a, d, hq w⟩
  rcases open_slice (Elem.row (α := α)) hf with ⟨hcs, _⟩ | ⟨a, len, cap, m, n, D, Pl, hcs, hb, hl, hm, hmm, hx, hi⟩
  · simp at hcs
    subst hcs
    exact ⟨none, 0, [], rfl, Ns.nil _ _⟩
  · simp at hcs
    subst hcs
    have hlm : len ≤ m := by rw [hmm]; split <;> omega
    have key : ∀ i, ∃ y : α × δ, Nest.rd Non w y.1 y.2 ∧ (i < len → w.cells? base (a.add (i * Elem.k α)) (Elem.k α) = some (Elem.enc y.1)) := by
      intro i
      by_cases hil : i < len
      · obtain ⟨cs', h1, h2⟩ := hi i (by omega)
        obtain ⟨x, d, rfl, hp⟩ := hdec H enc w base spare held n cs' _ h2
        rw [hC] at h1
        exact ⟨(x, d), hp, fun _ => h1⟩
      · obtain ⟨x, d, hp⟩ := hP
        exact ⟨(x, d), hp, fun h => absurd h hil⟩
    obtain ⟨f2, hf0⟩ := Classical.axiomOfChoice key
    obtain ⟨f, hff⟩ : ∃ f : Nat → α, f = fun i => (f2 i).1 := ⟨_, rfl⟩
    have hf' : ∀ i, i < len → w.cells? base (a.add (i * Elem.k α)) (Elem.k α) = some (Elem.enc (f i)) := fun i h => by rw [hff]; exact (hf0 i).2 h
    have hrd : ∀ i, Nest.rd Non w (f i) (f2 i).2 := fun i => by rw [hff]; exact (hf0 i).1
    have hxl : ((List.range len).map f).length = len := by simp
    refine ⟨some a, cap, (List.range len).map fun i => (f2 i).2, by simp, ?_⟩
    have hxl2 : ((List.range len).map fun i => (f2 i).2).length = len := by simp
    rw [hxl2]
    suffices hs : Sl w (.slice (some a) len cap) ((List.range len).map f) by
      refine ⟨(List.range len).map f, sa_non hs, by simp, fun j x d hx hd => ?_⟩
      rw [List.getElem?_map] at hx hd
      cases hq : (List.range len)[j]? with
      | none => rw [hq] at hx; simp at hx
      | some i =>
        rw [hq] at hx hd
        simp only [Option.map_some, Option.some.injEq] at hx hd
        subst hx hd
        exact hrd i
    by_cases h0 : len = 0
    · subst h0
      exact ⟨by simp [cellsOf], some a, cap, rfl, by simp, hm, by simp, .inl (by simp)⟩
    · have hpos := Elem.pos (α := α)
      obtain ⟨b, off, sp⟩ := a
      have hz : w.cell? ((Addr.mk b off sp).add 0) = some ((Elem.enc (f 0))[0]'(by rw [Elem.len]; exact hpos)) := by
        have := (World.cells?_some (hf' 0 (by omega))).2.2 0 hpos
        rw [Nat.zero_mul] at this
        simpa [Addr.add] using this.trans (List.getElem?_eq_getElem (by rw [Elem.len]; exact hpos))
      have hsp : sp = none := by
        have := spot_none hz
        simpa [Addr.add] using this
      subst hsp
      obtain ⟨v0, hz'⟩ : ∃ v0, w.cell? ⟨b, off, none⟩ = some v0 := ⟨_, by simpa [Addr.add] using hz⟩
      refine ⟨cellsOf_length _, _, cap, by rw [hxl], by rw [hxl]; exact hl, hm, by simp, .inr ⟨b, off, rfl, World.block_lt_of_cell? w _ hz', fun j u hj => ?_⟩⟩
      obtain ⟨i, x, r, h1, h2, h3, rfl⟩ := cellsOf_split _ j u hj
      rw [List.getElem?_map] at h1
      have hil : i < len := by
        rcases Nat.lt_or_ge i len with h | h
        · exact h
        · rw [List.getElem?_eq_none (by simpa using h)] at h1; simp at h1
      rw [List.getElem?_range hil] at h1
      simp only [Option.map_some, Option.some.injEq] at h1
      have := (World.cells?_some (hf' i hil)).2.2 r h3
      rw [addr_add b off _, addr_add b _ r] at this
      rw [show off + (i * Elem.k α + r) = off + i * Elem.k α + r from by omega, this, h1, h2]
end Go.Proofs.YtfbambemjokmgaaGreat
namespace Go.Proofs.YtfbambemjokmgaaGreat
open Go.RowKit
instance : Elem Int where
  e := 3
  t := 26
  k := 1
  bytes := 8
  z := .int .i64 0
  enc := fun x => [.int .i64 x]
  dflt := 0
  len := fun _ => rfl
  pos := by decide
  one := fun x u hu => by simp at hu; subst hu; rfl
  row := by kernel_rfl
  info := by kernel_rfl
  zsize := rfl
  few := by decide
theorem Sl.ints {w : World} {v : Value} {xs : List Int} (h : Sl w v xs) :
    (xs = [] ∧ ∃ ao c, v = .slice ao 0 c) ∨
    (∃ b off c, v = .slice (some ⟨b, off, none⟩) xs.length c ∧ xs.length ≤ c ∧ c ≤ 9223372036854775807 ∧ b < w.heap.size ∧ 0 < xs.length ∧ ∀ j, j < xs.length → w.cell? ⟨b, off + j, none⟩ = some (.int .i64 (xs.getD j 0))) := by
  rcases h.parts with h | ⟨b, off, c, h1, h2, h3, h4, h5, h6⟩
  · exact .inl h
  · refine .inr ⟨b, off, c, h1, h2, h3, h4, h5, fun j hj => ?_⟩
    have := h6 j (xs.getD j 0) (by simp [hj]) 0 _ rfl
    rwa [show off + (j * Elem.k Int + 0) = off + j from by show off + (j * 1 + 0) = _; omega] at this
structure Edge where
  a : Int
  b : Int
deriving DecidableEq
instance : Elem Edge where
  e := 30
  t := 51
  k := 2
  bytes := 16
  z := .agg #[.int .i64 0, .int .i64 0]
  enc := fun x => [.int .i64 x.a, .int .i64 x.b]
  dflt := ⟨0, 0⟩
  len := fun _ => rfl
  pos := by decide
  one := fun x u hu => by simp at hu; rcases hu with rfl | rfl <;> rfl
  row := by kernel_rfl
  info := by kernel_rfl
  zsize := rfl
  few := by decide
theorem Sl.edges {w : World} {v : Value} {xs : List Edge} (h : Sl w v xs) :
    (xs = [] ∧ ∃ ao c, v = .slice ao 0 c) ∨
    (∃ b off c, v = .slice (some ⟨b, off, none⟩) xs.length c ∧ xs.length ≤ c ∧ c ≤ 9223372036854775807 ∧ b < w.heap.size ∧ 0 < xs.length ∧
      ∀ j, j < xs.length → w.cell? ⟨b, off + j * 2, none⟩ = some (.int .i64 (xs.getD j ⟨0, 0⟩).a) ∧ w.cell? ⟨b, off + j * 2 + 1, none⟩ = some (.int .i64 (xs.getD j ⟨0, 0⟩).b)) := by
  rcases h.parts with h | ⟨b, off, c, h1, h2, h3, h4, h5, h6⟩
  · exact .inl h
  · refine .inr ⟨b, off, c, h1, h2, h3, h4, h5, fun j hj => ?_⟩
    have e : xs[j]? = some (xs.getD j ⟨0, 0⟩) := by simp [hj]
    exact ⟨h6 j _ e 0 _ rfl, by have := h6 j _ e 1 _ rfl; rwa [show off + (j * Elem.k Edge + 1) = off + j * 2 + 1 from by show off + (j * 2 + 1) = _; omega] at this⟩
theorem cells_i (xs : List Int) : cellsOf xs = xs.map (Value.int .i64) := by
  induction xs with
  | nil => rfl
  | cons x xs ih => show [Value.int .i64 x] ++ cellsOf xs = _; rw [ih]; rfl
def ahead (x y : Edge) : Bool := decide (x.a < y.a) || (decide (x.a = y.a) && decide (x.b < y.b))
def cmpI (a b : Int) : Int := if a < b then -1 else if b < a then 1 else 0
def ord (x y : Edge) : Int := if cmpI x.a y.a ≠ 0 then cmpI x.a y.a else cmpI x.b y.b
def btw (a b : Int) : Edge := ⟨min a b, max a b⟩
def rises (E : List Edge) : Bool := decide (E.Pairwise fun x y => ahead x y = true)
def okE (N : Int) (e : Edge) : Bool := decide (0 ≤ e.a) && decide (e.a < e.b) && decide (e.b < N)
def okG (N : Int) (E : List Edge) : Bool := decide (0 ≤ N) && decide (N ≤ 64) && decide (E.length ≤ 400) && E.all (okE N) && rises E
theorem ord_lt (x y : Edge) : decide (ord x y < 0) = ahead x y := by
  unfold ord ahead cmpI
  rw [Bool.eq_iff_iff]
  simp only [decide_eq_true_eq, Bool.or_eq_true, Bool.and_eq_true]
  repeat' split
  all_goals omega
theorem ord_zero (x y : Edge) : decide (ord x y = 0) = decide (x = y) := by
  obtain ⟨a, b⟩ := x
  obtain ⟨c, d⟩ := y
  unfold ord cmpI
  rw [Bool.eq_iff_iff]
  simp only [decide_eq_true_eq, Edge.mk.injEq]
  repeat' split
  all_goals omega
theorem ahead_trans {x y z : Edge} (h : ahead x y = true) (g : ahead y z = true) : ahead x z = true := by
  simp only [ahead, Bool.or_eq_true, Bool.and_eq_true, decide_eq_true_eq] at *
  omega
theorem ahead_irr (x : Edge) : ahead x x = false := by simp [ahead]
theorem ahead_asymm {x y : Edge} (h : ahead x y = true) : ahead y x = false := by
  cases e : ahead y x with
  | false => rfl
  | true => have := ahead_trans h e; rw [ahead_irr] at this; cases this
theorem btw_comm (a b : Int) : btw a b = btw b a := by simp [btw, Int.min_comm, Int.max_comm]
def Rises (E : List Edge) : Prop := E.Pairwise fun x y => ahead x y = true
theorem rises_iff {E : List Edge} : rises E = true ↔ Rises E := by simp [rises, Rises]
theorem rises_ext {l m : List Edge} (hl : Rises l) (hm : Rises m) (h : ∀ x, x ∈ l ↔ x ∈ m) : l = m := by
  induction l generalizing m with
  | nil => cases m with
    | nil => rfl
    | cons y m => exact absurd ((h y).2 (by simp)) (by simp)
  | cons x l ih => cases m with
    | nil => exact absurd ((h x).1 (by simp)) (by simp)
    | cons y m =>
      have a := List.pairwise_cons.1 hl
      have b := List.pairwise_cons.1 hm
      have exy : x = y := by
        rcases List.mem_cons.1 ((h x).1 (by simp)) with e | e
        · exact e
        · rcases List.mem_cons.1 ((h y).2 (by simp)) with e' | e'
          · exact e'.symm
          · have h1 := b.1 x e
            have h2 := a.1 y e'
            rw [ahead_asymm h1] at h2; cases h2
      subst exy
      rw [ih a.2 b.2]
      intro z
      constructor
      · intro hz
        rcases List.mem_cons.1 ((h z).1 (by simp [hz])) with e | e
        · subst e; have := a.1 z hz; rw [ahead_irr] at this; cases this
        · exact e
      · intro hz
        rcases List.mem_cons.1 ((h z).2 (by simp [hz])) with e | e
        · subst e; have := b.1 z hz; rw [ahead_irr] at this; cases this
        · exact e
theorem rises_filter {l : List Edge} (h : Rises l) (p : Edge → Bool) : Rises (l.filter p) := List.Pairwise.sublist List.filter_sublist h
def chk (N : Int) (E : List Edge) : Int := if okG N E = true then 0 else 30
def badEnds (N a b : Int) : Bool := decide (a = b) || (decide (min a b < 0) || decide (N ≤ max a b))
def ends (N : Int) (E : List Edge) (a b : Int) : Int := if okG N E = true then (if badEnds N a b = true then 31 else 0) else 30
structure OkG (N : Int) (E : List Edge) : Prop where
  n0 : 0 ≤ N
  n64 : N ≤ 64
  few : E.length ≤ 400
  each : ∀ e ∈ E, 0 ≤ e.a ∧ e.a < e.b ∧ e.b < N
  rise : Rises E
theorem okG_iff {N : Int} {E : List Edge} : okG N E = true ↔ OkG N E := by
  simp only [okG, Bool.and_eq_true, decide_eq_true_eq, List.all_eq_true, okE, rises_iff]
  constructor
  · rintro ⟨⟨⟨⟨h1, h2⟩, h3⟩, h4⟩, h5⟩
    exact ⟨h1, h2, h3, fun e he => by have := h4 e he; omega, h5⟩
  · rintro ⟨h1, h2, h3, h4, h5⟩
    exact ⟨⟨⟨⟨h1, h2⟩, h3⟩, fun e he => by have := h4 e he; omega⟩, h5⟩
end Go.Proofs.YtfbambemjokmgaaGreat
namespace Go.Proofs.YtfbambemjokmgaaGreat
open Go.RowKit
structure Sd where
  peer : Int
  epoch : Int
  state : Int
  fork : Bool
  dirty : Bool
  token : Bool
  bottle : Bool
  ask : Bool
deriving DecidableEq
def Sd.zero : Sd := ⟨0, 0, 0, false, false, false, false, false⟩
def Sd.cs (x : Sd) : Array Value := #[.int .i64 x.peer, .int .i64 x.epoch, .int .i64 x.state, .bool x.fork, .bool x.dirty, .bool x.token, .bool x.bottle, .bool x.ask]
instance : Elem Sd where
  e := 66
  t := 59
  k := 8
  bytes := 32
  z := .agg #[.int .i64 0, .int .i64 0, .int .i64 0, .bool false, .bool false, .bool false, .bool false, .bool false]
  enc := fun x => [.int .i64 x.peer, .int .i64 x.epoch, .int .i64 x.state, .bool x.fork, .bool x.dirty, .bool x.token, .bool x.bottle, .bool x.ask]
  dflt := ⟨0, 0, 0, false, false, false, false, false⟩
  len := fun _ => rfl
  pos := by decide
  one := fun x u hu => by simp at hu; rcases hu with rfl | rfl | rfl | rfl | rfl | rfl | rfl | rfl <;> rfl
  row := by kernel_rfl
  info := by kernel_rfl
  zsize := rfl
  few := by decide
structure Ml where
  from_ : Int
  to_ : Int
  kind : Int
  epoch : Int
  num : Int
deriving DecidableEq
instance : Elem Ml where
  e := 95
  t := 23
  k := 5
  bytes := 40
  z := .agg #[.int .i64 0, .int .i64 0, .int .i64 0, .int .i64 0, .int .i64 0]
  enc := fun x => [.int .i64 x.from_, .int .i64 x.to_, .int .i64 x.kind, .int .i64 x.epoch, .int .i64 x.num]
  dflt := ⟨0, 0, 0, 0, 0⟩
  len := fun _ => rfl
  pos := by decide
  one := fun x u hu => by simp at hu; rcases hu with rfl | rfl | rfl | rfl | rfl <;> rfl
  row := by kernel_rfl
  info := by kernel_rfl
  zsize := rfl
  few := by decide
structure DV where
  id : Int
  phase : Int
  ao : Option Addr
  n : Nat
  c : Nat
structure Dn where
  id : Int
  phase : Int
  sides : List Sd
deriving DecidableEq
instance : Elem DV where
  e := 61
  t := 46
  k := 3
  bytes := 40
  z := .agg #[.int .i64 0, .int .i64 0, .slice none 0 0]
  enc := fun x => [.int .i64 x.id, .int .i64 x.phase, .slice x.ao x.n x.c]
  dflt := ⟨0, 0, none, 0, 0⟩
  len := fun _ => rfl
  pos := by decide
  one := fun x u hu => by simp at hu; rcases hu with rfl | rfl | rfl <;> rfl
  row := by kernel_rfl
  info := by kernel_rfl
  zsize := rfl
  few := by decide
structure RdD (F : Nat → Prop) (w : World) (x : DV) (d : Dn) : Prop where
  id : x.id = d.id
  phase : x.phase = d.phase
  sides : Sa F w (.slice x.ao x.n x.c) d.sides
instance : Nest DV Dn where
  rd := RdD
  off := fun h o g => ⟨h.id, h.phase, h.sides.off o g⟩
theorem Sl.sidesAt {w : World} {ao : Option Addr} {n c : Nat} {L : List Sd} (h : Sl w (.slice ao n c) L) {k : Nat} (hk : k < L.length) :
    ∃ b off, ∃ y : Sd, y = L.getD k Sd.zero ∧ L[k]? = some y ∧ ao = some ⟨b, off, none⟩ ∧ n = L.length ∧ n ≤ c ∧ c ≤ 9223372036854775807 ∧ b < w.heap.size ∧
      ∀ W, Ext w W → (((W.cell? ⟨b, off + k * 8, none⟩ = some (.int .i64 y.peer) ∧ W.cell? ⟨b, off + k * 8 + 1, none⟩ = some (.int .i64 y.epoch)) ∧ W.cell? ⟨b, off + k * 8 + 2, none⟩ = some (.int .i64 y.state) ∧ W.cell? ⟨b, off + k * 8 + 3, none⟩ = some (.bool y.fork)) ∧
        (W.cell? ⟨b, off + k * 8 + 4, none⟩ = some (.bool y.dirty) ∧ W.cell? ⟨b, off + k * 8 + 5, none⟩ = some (.bool y.token)) ∧ W.cell? ⟨b, off + k * 8 + 6, none⟩ = some (.bool y.bottle) ∧ W.cell? ⟨b, off + k * 8 + 7, none⟩ = some (.bool y.ask)) := by
  rcases h.parts with ⟨rfl, _⟩ | ⟨b, off, c', hv, h1, h2, h3, _, h4⟩
  · simp at hk
  · simp only [Value.slice.injEq] at hv
    obtain ⟨rfl, rfl, rfl⟩ := hv
    have e : L[k]? = some (L.getD k Sd.zero) := by simp [hk]
    refine ⟨b, off, _, rfl, e, rfl, rfl, h1, h2, h3, fun W hW => ?_⟩
    have g : ∀ i u, (Elem.enc (L.getD k Sd.zero))[i]? = some u → W.cell? ⟨b, off + k * 8 + i, none⟩ = some u := fun i u hu => by
      have := h4 k _ e i u hu
      rw [show off + (k * Elem.k Sd + i) = off + k * 8 + i from by show off + (k * 8 + i) = _; omega] at this
      exact (hW.cell (p := ⟨b, off + k * 8 + i, none⟩) h3).trans this
    exact ⟨⟨⟨g 0 _ rfl, g 1 _ rfl⟩, g 2 _ rfl, g 3 _ rfl⟩, ⟨g 4 _ rfl, g 5 _ rfl⟩, g 6 _ rfl, g 7 _ rfl⟩
theorem Sl.mailAt {w : World} {ao : Option Addr} {n c : Nat} {L : List Ml} (h : Sl w (.slice ao n c) L) {k : Nat} (hk : k < L.length) :
    ∃ b off, ∃ y : Ml, y = L.getD k ⟨0, 0, 0, 0, 0⟩ ∧ L[k]? = some y ∧ ao = some ⟨b, off, none⟩ ∧ n = L.length ∧ n ≤ c ∧ c ≤ 9223372036854775807 ∧ b < w.heap.size ∧
      ∀ W, Ext w W → (W.cell? ⟨b, off + k * 5, none⟩ = some (.int .i64 y.from_) ∧ W.cell? ⟨b, off + k * 5 + 1, none⟩ = some (.int .i64 y.to_)) ∧ W.cell? ⟨b, off + k * 5 + 2, none⟩ = some (.int .i64 y.kind) ∧ W.cell? ⟨b, off + k * 5 + 3, none⟩ = some (.int .i64 y.epoch) ∧ W.cell? ⟨b, off + k * 5 + 4, none⟩ = some (.int .i64 y.num) := by
  rcases h.parts with ⟨rfl, _⟩ | ⟨b, off, c', hv, h1, h2, h3, _, h4⟩
  · simp at hk
  · simp only [Value.slice.injEq] at hv
    obtain ⟨rfl, rfl, rfl⟩ := hv
    have e : L[k]? = some (L.getD k ⟨0, 0, 0, 0, 0⟩) := by simp [hk]
    refine ⟨b, off, _, rfl, e, rfl, rfl, h1, h2, h3, fun W hW => ?_⟩
    have g : ∀ i u, (Elem.enc (L.getD k ⟨0, 0, 0, 0, 0⟩))[i]? = some u → W.cell? ⟨b, off + k * 5 + i, none⟩ = some u := fun i u hu => by
      have := h4 k _ e i u hu
      rw [show off + (k * Elem.k Ml + i) = off + k * 5 + i from by show off + (k * 5 + i) = _; omega] at this
      exact (hW.cell (p := ⟨b, off + k * 5 + i, none⟩) h3).trans this
    exact ⟨⟨g 0 _ rfl, g 1 _ rfl⟩, g 2 _ rfl, g 3 _ rfl, g 4 _ rfl⟩
theorem Ns.dinerAt {F : Nat → Prop} {w : World} {ao : Option Addr} {n c : Nat} {L : List Dn} (h : Ns DV F w (.slice ao n c) L) {k : Nat} (hk : k < L.length) :
    ∃ b off so sc, ∃ d : Dn, L[k]? = some d ∧ ao = some ⟨b, off, none⟩ ∧ n = L.length ∧ n ≤ c ∧ c ≤ 9223372036854775807 ∧ b < w.heap.size ∧ Sa F w (.slice so d.sides.length sc) d.sides ∧
      ∀ W, Ext w W → W.cell? ⟨b, off + k * 3, none⟩ = some (.int .i64 d.id) ∧ W.cell? ⟨b, off + k * 3 + 1, none⟩ = some (.int .i64 d.phase) ∧ W.cell? ⟨b, off + k * 3 + 2, none⟩ = some (.slice so d.sides.length sc) := by
  obtain ⟨b, off, x, d, h1, h2, h3, h4, h5, h6, h7, h8⟩ := h.at hk
  obtain ⟨e1, e2, e3⟩ : RdD F w x d := h8
  obtain ⟨so, sc, hv⟩ := e3.sl.len
  refine ⟨b, off, so, sc, d, h1, h2, h3, h4, h5, h6, hv ▸ e3, fun W hW => ?_⟩
  have g : ∀ i u, (Elem.enc x)[i]? = some u → W.cell? ⟨b, off + k * 3 + i, none⟩ = some u := fun i u hu => by
    have := h7 i u hu
    rw [show off + (k * Elem.k DV + i) = off + k * 3 + i from by show off + (k * 3 + i) = _; omega] at this
    exact (hW.cell (p := ⟨b, off + k * 3 + i, none⟩) h6).trans this
  have q0 := g 0 _ rfl
  have q1 := g 1 _ rfl
  have q2 := g 2 _ rfl
  rw [e1] at q0
  rw [e2] at q1
  rw [hv] at q2
  exact ⟨q0, q1, q2⟩
end Go.Proofs.YtfbambemjokmgaaGreat
namespace Go.Proofs.YtfbambemjokmgaaGreat
open Go.RowKit
section
variable {P : Program} {ops : Array Oper} {Q : Exit → Act → World → Prop} {md : Region.Mode}
def givesV (P : Program) (v : Value) (w : World) : Result Next → Prop
  | .ok (.value u) w2 => u = v ∧ Ext w w2
  | .ok (.enter f args) w2 => Ext w w2 ∧ Calls P f args w2 (fun e w3 => e = .returned v ∧ Ext w2 w3)
  | _ => False
def Takes (P : Program) (ops : Array Oper) (o : Oper) (v : Value) (a : Act) (w : World) : Prop :=
  (Region.wanted o (yielded ops a.tmps) = true ∧ ∀ w', Ext w w' → givesV P v w' ((execOp a.eval o).run P w')) ∨
  (Region.wanted o (yielded ops a.tmps) = false ∧ v = undef)
def SameFor (ops : Array Oper) (o : Oper) (a a' : Act) : Prop :=
  execOp a'.eval o = execOp a.eval o ∧ Region.wanted o (yielded ops a'.tmps) = Region.wanted o (yielded ops a.tmps)
theorem Takes.later {o : Oper} {v : Value} {a a' : Act} {w w' : World} (h : Takes P ops o v a w) (s : SameFor ops o a a') (x : Ext w w') : Takes P ops o v a' w' := by
  unfold Takes at *
  rw [s.1, s.2]
  exact h.imp (fun ⟨h1, h2⟩ => ⟨h1, fun w2 y => h2 w2 (Ext.trans x y)⟩) id
theorem Takes.wpOp {i : Nat} {o : Oper} {v : Value} {a : Act} {w : World} (hi : ops[i]? = some o) (h : Takes P ops o v a w)
    {K : Act → World → Prop} (hK : ∀ w', Ext w w' → K (a.put o.dst v) w') : wpOp P ops Q i K a w := by
  unfold Go.wpOp
  simp only [hi]
  rcases h with ⟨hw, hv⟩ | ⟨hw, rfl⟩
  · simp only [hw, if_true]
    refine .inl ?_
    have h1 := hv w (Ext.refl _)
    unfold Oper.wp
    generalize (execOp a.eval o).run P w = r at *
    cases r with
    | ok n w' =>
      cases n <;> simp only [givesV] at h1 <;> simp only [Oper.upon]
      case value u => rw [h1.1]; exact hK _ h1.2
      case enter f args =>
        exact h1.2.mono fun e w3 ⟨he, x⟩ => by subst he; exact hK _ (Ext.trans h1.1 x)
    | halt x w' => simp only [givesV] at h1
  · simp only [hw, Bool.false_eq_true, if_false]
    exact hK _ (Ext.refl _)
theorem wpOp_apart {j : Nat} {oi oj : Oper} {v : Value} (hj : ops[j]? = some oj) (hap : oi.apart ops oj = true)
    (hsi : ∀ cs b, oi.op ≠ .select cs b) (hsj : ∀ cs b, oj.op ≠ .select cs b) (hQ : ∀ c a w, Q (.panic c) (a.put oi.dst v) w → Q (.panic c) a w)
    {K : Act → World → Prop} {a : Act} {w : World} (h : wpOp P ops Q j K (a.put oi.dst v) w) :
    wpOp P ops Q j (fun a' w' => SameFor ops oi a a' ∧ K (a'.put oi.dst v) w') a w := by
  obtain ⟨h1, h2, h3⟩ := Oper.apart_spec hap
  have keep : ∀ u, SameFor ops oi a (a.put oj.dst u) := fun u => ⟨execOp_put oi hsi a oj.dst u h3, wanted_put oi a oj.dst u h3⟩
  have keepD : ∀ d u, SameFor ops oi a (({ a with defers := d :: a.defers } : Act).put oj.dst u) := fun d u =>
    ⟨(execOp_put oi hsi { a with defers := d :: a.defers } oj.dst u h3).trans rfl, (wanted_put oi { a with defers := d :: a.defers } oj.dst u h3).trans rfl⟩
  unfold wpOp at *
  simp only [hj] at *
  rw [wanted_put oj a oi.dst v h1] at h
  by_cases hw : Region.wanted oj (yielded ops a.tmps) = true
  · simp only [hw, if_true] at h ⊢
    rcases h with h | ⟨hasks, hlets⟩
    · refine .inl ?_
      unfold Oper.wp at *
      rw [execOp_put oj hsj a oi.dst v h1] at h
      generalize (execOp a.eval oj).run P w = r at *
      cases r with
      | ok n w' =>
        cases n <;> simp only [Oper.upon] at h ⊢
        case value u => exact ⟨keep u, by rw [← Act.put_comm a v u h2]; exact h⟩
        case skip => exact ⟨keep _, by rw [← Act.put_comm a v undef h2]; exact h⟩
        case defer d =>
          refine ⟨keepD d _, ?_⟩
          rw [← Act.put_comm _ v undef h2, ← Act.put_defers]
          exact h
        case enter f args =>
          refine Calls.mono h fun e w'' he => ?_
          cases e with
          | returned u => exact ⟨keep u, by rw [← Act.put_comm a v u h2]; exact he⟩
          | panicked c => exact hQ _ _ _ he
          | outgrown => exact he
        case row row args => exact Rows.mono h fun u w'' he => ⟨keep u, by rw [← Act.put_comm a v u h2]; exact he⟩
      | halt x w' =>
        cases x <;> simp only [Oper.upon] at h ⊢
        case panic u => exact hQ _ _ _ h
    · exact .inr ⟨by unfold Oper.asks at *; rw [execOp_put oj hsj a oi.dst v h1] at hasks; exact hasks, hlets⟩
  · have hw2 : Region.wanted oj (yielded ops a.tmps) = false := by simpa using hw
    simp only [hw2, Bool.false_eq_true, if_false] at h ⊢
    exact ⟨keep _, by rw [← Act.put_comm a v undef h2]; exact h⟩
def lateAt (ops : Array Oper) (i : Nat) : Bool := match ops[i]? with
  | some o => match o.op with
    | .store .. => true
    | _ => false
  | none => false
def lateWaits (md : Region.Mode) (ops : Array Oper) (listed : Array Bool) (i : Nat) : Bool :=
  (List.range ops.size).all fun j => listed.getD j true || !lateAt ops j || match ops[j]? with
    | some oj => oj.after.any fun e => Region.binds md e && e.on == i
    | none => true
theorem lateWaits_spec {listed : Array Bool} {i j : Nat} (h : lateWaits md ops listed i = true) (hi : listed.getD i true = false) (hj : j ∈ Region.ready md ops listed) : lateAt ops j = false := by
  obtain ⟨h0, oj, hoj, hall⟩ := mem_ready.1 hj
  rw [lateWaits, List.all_eq_true] at h
  have h1 := h j (List.mem_range.2 (Array.getElem?_eq_some_iff.1 hoj).1)
  simp only [hoj, h0, Bool.false_or, Bool.or_eq_true] at h1
  rcases h1 with h1 | h1
  · simpa using h1
  · exfalso
    obtain ⟨e, he, hb⟩ := Array.any_eq_true'.1 h1
    rw [Bool.and_eq_true, beq_iff_eq] at hb
    have h2 := hall e he hb.1
    rw [hb.2] at h2
    rcases Nat.lt_or_ge i listed.size with h' | h'
    · simp [h'] at hi h2
      rw [hi] at h2
      cases h2
    · simp [Array.getElem?_eq_none h'] at h2
theorem lateWaits_more {listed : Array Bool} {i j : Nat} (h : lateWaits md ops listed i = true) : lateWaits md ops (listed.setIfInBounds j true) i = true := by
  rw [lateWaits, List.all_eq_true] at *
  intro k hk
  have h1 := h k hk
  rw [Bool.or_assoc, Bool.or_eq_true] at h1 ⊢
  rcases h1 with h1 | h1
  · refine .inl ?_
    by_cases hjk : j = k
    · subst hjk
      simp [Array.getElem?_setIfInBounds]
      split <;> rfl
    · rw [getD_set_ne true hjk]; exact h1
  · exact .inr h1
def anyM (P : Program) (md : Region.Mode) (ops : Array Oper) (Q : Exit → Act → World → Prop) : Nat → Array Bool → Act → World → Prop
  | 0, listed, a, w => Region.ready md ops listed = [] ∧ ∀ w', Ext w w' → Q .normal a w'
  | f + 1, listed, a, w => ∀ w', Ext w w' → (Region.ready md ops listed = [] → Q .normal a w') ∧
      ∀ i ∈ Region.ready md ops listed, wpOp P ops Q i (fun a2 w2 => if lateAt ops i = true then wpAny P md ops Q f (listed.setIfInBounds i true) a2 w2 else Ext w' w2 ∧ anyM P md ops Q f (listed.setIfInBounds i true) a2 w2) a w'
theorem anyM.later : ∀ {f : Nat} {listed : Array Bool} {a : Act} {w w' : World}, anyM P md ops Q f listed a w → Ext w w' → anyM P md ops Q f listed a w'
  | 0, _, _, _, _, h, x => ⟨h.1, fun _ y => h.2 _ (Ext.trans x y)⟩
  | _ + 1, _, _, _, _, h, x => fun _ y => h _ (Ext.trans x y)
theorem anyM.any : ∀ {f : Nat} {listed : Array Bool} {a : Act} {w : World}, anyM P md ops Q f listed a w → wpAny P md ops Q f listed a w
  | 0, _, _, _, h => ⟨h.1, h.2 _ (Ext.refl _)⟩
  | _ + 1, _, _, w, h => ⟨(h w (Ext.refl _)).1, fun i hi => wpOp_mono (fun _ _ h2 => by
      by_cases hl : lateAt ops i = true
      · rwa [if_pos hl] at h2
      · rw [if_neg hl] at h2; exact h2.2.any) ((h w (Ext.refl _)).2 i hi)⟩
theorem anyM_first {i : Nat} {oi : Oper} {v : Value} (hi : ops[i]? = some oi) (hsel : ∀ (j : Nat) (o : Oper) cs b, ops[j]? = some o → o.op ≠ .select cs b)
    (hQ : ∀ c a w, Q (.panic c) (a.put oi.dst v) w → Q (.panic c) a w) :
    ∀ (f : Nat) (listed : Array Bool) (a : Act) (w : World),
      (∀ j oj, ops[j]? = some oj → j ≠ i → listed.getD j true = false → (∀ e ∈ oj.after, Region.binds md e = true → e.on ≠ i) → oi.apart ops oj = true) →
      i ∈ Region.ready md ops listed → lateWaits md ops listed i = true → Takes P ops oi v a w →
      anyM P md ops Q f (listed.setIfInBounds i true) (a.put oi.dst v) w → anyM P md ops Q (f + 1) listed a w := by
  intro f
  induction f with
  | zero =>
    intro listed a w _ hr hlw ht H w' x
    refine ⟨fun h => (by rw [h] at hr; cases hr), fun j hj => ?_⟩
    by_cases hji : j = i
    · subst hji
      have hnl := lateWaits_spec hlw (mem_ready.1 hr).1 hj
      exact (ht.later ⟨rfl, rfl⟩ x).wpOp hi fun w2 y => by rw [hnl]; exact ⟨y, H.later (Ext.trans x y)⟩
    · have := ready_mono hj hji
      rw [H.1] at this
      cases this
  | succ f ih =>
    intro listed a w hfree hr hlw ht H w' x
    refine ⟨fun h => (by rw [h] at hr; cases hr), fun j hj => ?_⟩
    have hnl := lateWaits_spec hlw (mem_ready.1 hr).1 hj
    by_cases hji : j = i
    · subst hji
      exact (ht.later ⟨rfl, rfl⟩ x).wpOp hi fun w2 y => by rw [hnl]; exact ⟨y, H.later (Ext.trans x y)⟩
    · have h1 := (H w' x).2 j (ready_mono hj hji)
      obtain ⟨hjun, oj, hoj, hall⟩ := mem_ready.1 hj
      have hnot : ∀ e ∈ oj.after, Region.binds md e = true → e.on ≠ i := fun e he hb heq => by
        have h1 := hall e he hb
        have h0 := (mem_ready.1 hr).1
        rw [heq] at h1
        rcases Nat.lt_or_ge i listed.size with h' | h'
        · simp [h'] at h0 h1; rw [h0] at h1; cases h1
        · simp [Array.getElem?_eq_none h'] at h1
      have h2 := wpOp_apart hoj (hfree j oj hoj hji hjun hnot) (fun cs b => hsel i oi cs b hi) (fun cs b => hsel j oj cs b hoj) hQ h1
      refine wpOp_mono (fun a' w2 h3 => ?_) h2
      rw [hnl] at h3 ⊢
      rw [if_neg (by decide)] at h3 ⊢
      refine ⟨h3.2.1, ih (listed.setIfInBounds j true) a' w2 (fun k ok hk hki hun hno => ?_) (ready_mono hr (Ne.symm hji)) (lateWaits_more hlw) (ht.later h3.1 (Ext.trans x h3.2.1)) ?_⟩
      · refine hfree k ok hk hki ?_ hno
        by_cases hjk : j = k
        · subst hjk; exact hjun
        · rw [getD_set_ne true hjk] at hun; exact hun
      · rw [Array.setIfInBounds_comm _ _ hji]
        exact h3.2.2
/-! The moves of a walk. -/
theorem wp_region_M {id : Nat} {a : Act} {w : World} (hm : P.follows .mixedOrders = true)
    (h : anyM P .any ops (NoPanic Q) ops.size (Array.replicate ops.size false) a w) : (Code.region id ops true).wp P Q a w :=
  wp_region_noPanic (wp_region_any hm (h.later (Ext.drew (Ext.refl w))).any)
theorem wp_region_M_lit {id : Nat} {a : Act} {w : World} {l : List Oper} (hm : P.follows .mixedOrders = true)
    (h : anyM P .any l.toArray (NoPanic Q) l.length (Array.replicate l.length false) a w) : (Code.region id l.toArray true).wp P Q a w :=
  wp_region_M hm (by simpa using h)
def takeB (md : Region.Mode) (ops : Array Oper) (listed : Array Bool) (i : Nat) : Bool :=
  (Region.ready md ops listed).contains i && Region.noSelect ops && Region.free md ops listed i && lateWaits md ops listed i
theorem takeV (i : Nat) {oi : Oper} {v : Value} {f : Nat} {listed : Array Bool} {a : Act} {w : World} (hi : ops[i]? = some oi := by simp only [List.getElem?_toArray, List.getElem?_cons, reduceIte]; rfl) (hb : takeB md ops listed i = true := by kernel_rfl)
    (hw : Region.wanted oi (yielded ops a.tmps) = true := by rfl) (hv : ∀ w', Ext w w' → (execOp a.eval oi).run P w' = .ok (.value v) w')
    (h : anyM P md ops (NoPanic Q) f (listed.setIfInBounds i true) (a.put oi.dst v) w) : anyM P md ops (NoPanic Q) (f + 1) listed a w := by
  simp only [takeB, Bool.and_eq_true] at hb
  obtain ⟨⟨⟨h1, h2⟩, h3⟩, h4⟩ := hb
  exact anyM_first hi (Region.noSelect_spec h2) (fun _ _ _ h => h) f listed a w (Region.free_spec hi h3) (by simpa using h1) h4 (.inl ⟨hw, fun w' x => by rw [hv w' x]; exact ⟨rfl, Ext.refl _⟩⟩) h
theorem tv (i : Nat) {oi : Oper} {v : Value} {f : Nat} {listed : Array Bool} {a a' : Act} {w : World} (hi : ops[i]? = some oi := by simp only [List.getElem?_toArray, List.getElem?_cons, reduceIte]; rfl) (hb : takeB md ops listed i = true := by kernel_rfl)
    (hw : Region.wanted oi (yielded ops a.tmps) = true := by rfl) (hv : ∀ w', Ext w w' → (execOp a.eval oi).run P w' = .ok (.value v) w' := by intro w' hw'; go_simp; first | done | with_reducible rfl)
    (ha : a.put oi.dst v = a' := by simp only [Act.put, List.setIfInBounds_toArray, List.set]; rfl)
    (h : anyM P md ops (NoPanic Q) f (listed.setIfInBounds i true) a' w) : anyM P md ops (NoPanic Q) (f + 1) listed a w := takeV i hi hb hw hv (ha ▸ h)
theorem takeG (i : Nat) {oi : Oper} {v : Value} {f : Nat} {listed : Array Bool} {a : Act} {w : World} (hi : ops[i]? = some oi := by simp only [List.getElem?_toArray, List.getElem?_cons, reduceIte]; rfl) (hb : takeB md ops listed i = true := by kernel_rfl)
    (hw : Region.wanted oi (yielded ops a.tmps) = true := by rfl) (hv : ∀ w', Ext w w' → givesV P v w' ((execOp a.eval oi).run P w'))
    (h : anyM P md ops (NoPanic Q) f (listed.setIfInBounds i true) (a.put oi.dst v) w) : anyM P md ops (NoPanic Q) (f + 1) listed a w := by
  simp only [takeB, Bool.and_eq_true] at hb
  obtain ⟨⟨⟨h1, h2⟩, h3⟩, h4⟩ := hb
  exact anyM_first hi (Region.noSelect_spec h2) (fun _ _ _ h => h) f listed a w (Region.free_spec hi h3) (by simpa using h1) h4 (.inl ⟨hw, hv⟩) h
theorem gives_same {fn : FuncId} {args : Array Value} {v : Value} {w : World} (h : Calls P fn args w fun e w' => e = .returned v ∧ w = w') : Calls P fn args w fun e w' => e = .returned v ∧ Ext w w' :=
  h.mono fun _ _ ⟨h1, h2⟩ => ⟨h1, h2 ▸ Ext.refl _⟩
theorem takeU (i : Nat) {oi : Oper} {f : Nat} {listed : Array Bool} {a : Act} {w : World} (hi : ops[i]? = some oi := by simp only [List.getElem?_toArray, List.getElem?_cons, reduceIte]; rfl) (hb : takeB md ops listed i = true := by kernel_rfl)
    (hw : Region.wanted oi (yielded ops a.tmps) = false := by rfl)
    (h : anyM P md ops (NoPanic Q) f (listed.setIfInBounds i true) (a.put oi.dst undef) w) : anyM P md ops (NoPanic Q) (f + 1) listed a w := by
  simp only [takeB, Bool.and_eq_true] at hb
  obtain ⟨⟨⟨h1, h2⟩, h3⟩, h4⟩ := hb
  exact anyM_first hi (Region.noSelect_spec h2) (fun _ _ _ h => h) f listed a w (Region.free_spec hi h3) (by simpa using h1) h4 (.inr ⟨hw, rfl⟩) h
theorem runOne (i : Nat) {oi : Oper} {f : Nat} {listed : Array Bool} {a : Act} {w : World} (hi : ops[i]? = some oi := by simp only [List.getElem?_toArray, List.getElem?_cons, reduceIte]; rfl) (hr : Region.ready md ops listed = [i] := by kernel_rfl) (hl : lateAt ops i = false := by kernel_rfl)
    (hw : Region.wanted oi (yielded ops a.tmps) = true := by rfl)
    (h : ∀ w', Ext w w' → oi.wp P a w' (fun a2 w2 => Ext w' w2 ∧ anyM P md ops Q f (listed.setIfInBounds i true) a2 w2) Q) : anyM P md ops Q (f + 1) listed a w := fun w' x =>
  ⟨fun e => (by rw [hr] at e; cases e), fun j hj => by
    rw [hr, List.mem_singleton] at hj
    subst hj
    unfold wpOp
    simp only [hi, hw, if_true, hl, Bool.false_eq_true, if_false]
    exact .inl (h w' x)⟩
theorem runLate (i : Nat) {oi : Oper} {f : Nat} {listed : Array Bool} {a : Act} {w : World} (hi : ops[i]? = some oi := by simp only [List.getElem?_toArray, List.getElem?_cons, reduceIte]; rfl) (hr : Region.ready md ops listed = [i] := by kernel_rfl) (hl : lateAt ops i = true := by kernel_rfl)
    (hw : Region.wanted oi (yielded ops a.tmps) = true := by rfl)
    (h : ∀ w', Ext w w' → oi.wp P a w' (fun a2 w2 => wpAny P md ops Q f (listed.setIfInBounds i true) a2 w2) Q) : anyM P md ops Q (f + 1) listed a w := fun w' x =>
  ⟨fun e => (by rw [hr] at e; cases e), fun j hj => by
    rw [hr, List.mem_singleton] at hj
    subst hj
    unfold wpOp
    simp only [hi, hw, if_true, hl]
    exact .inl (h w' x)⟩
theorem lateDone {f : Nat} {listed : Array Bool} {a : Act} {w : World} (hr : Region.ready md ops listed = []) (h : Q .normal a w) : wpAny P md ops (NoPanic Q) f listed a w := by
  cases f with
  | zero => exact ⟨hr, h⟩
  | succ f => exact ⟨fun _ => h, fun j hj => by rw [hr] at hj; cases hj⟩
theorem doneM {f : Nat} {listed : Array Bool} {a : Act} {w : World} (hr : Region.ready md ops listed = []) (h : ∀ w', Ext w w' → Q .normal a w') : anyM P md ops (NoPanic Q) f listed a w := by
  cases f with
  | zero => exact ⟨hr, fun w' x => h w' x⟩
  | succ f => exact fun w' x => ⟨fun _ => h w' x, fun j hj => by rw [hr] at hj; cases hj⟩
end
end Go.Proofs.YtfbambemjokmgaaGreat
namespace Go.Proofs.YtfbambemjokmgaaGreat
def sideD (id last : Int) (s : Sd) : Bool := decide (last < s.peer) && (decide (s.peer ≠ id) && (decide (0 ≤ s.epoch) && (decide (s.epoch ≤ 65535) && (decide (0 ≤ s.state) && (decide (s.state ≤ 3) && !(s.dirty && !s.fork))))))
def sidesD (id : Int) : Int → List Sd → Bool
  | _, [] => true
  | last, s :: l => sideD id last s && sidesD id s.peer l
def lastD : Int → List Sd → Int
  | last, [] => last
  | _, s :: l => lastD s.peer l
def headD (d : Dn) : Bool := decide (0 ≤ d.id) && ((decide (d.phase = 0) || decide (d.phase = 1) || decide (d.phase = 2)) && decide (d.sides.length ≤ 63))
def dnOk (d : Dn) : Bool := headD d && sidesD d.id (-1) d.sides
theorem lastD_app (l : List Sd) (last : Int) (s : Sd) : lastD last (l ++ [s]) = s.peer := by
  induction l generalizing last with
  | nil => rfl
  | cons t l ih => exact ih t.peer
-- what goes out of a side, and what is left of it
def hot (ph : Int) (s : Sd) : Bool := s.fork && (s.dirty && (s.token && decide (ph ≠ 2)))
def gone (ph : Int) (s : Sd) : Sd := if hot ph s = true then { s with fork := false, dirty := false } else s
def wants (ph : Int) (s : Sd) : Bool := !s.fork && (s.token && decide (ph = 1))
def asked (ph : Int) (s : Sd) : Sd := if wants ph s = true then { s with token := false } else s
def fireS1 (ph : Int) (s : Sd) : Sd := asked ph (gone ph s)
def forkM (id : Int) (s : Sd) : Ml := ⟨id, s.peer, 1, s.epoch, 0⟩
def tokenM (id : Int) (s : Sd) : Ml := ⟨id, s.peer, 2, s.epoch, 0⟩
def fireM1 (id ph : Int) (s : Sd) : List Ml := (if hot ph s = true then [forkM id s] else []) ++ (if wants ph (gone ph s) = true then [tokenM id s] else [])
def fireSs (ph : Int) (L : List Sd) : List Sd := L.map (fireS1 ph)
def fireMs (id ph : Int) (L : List Sd) : List Ml := L.flatMap (fireM1 id ph)
def dirtyAll (L : List Sd) : List Sd := L.map fun s => { s with dirty := true }
def eats (ph : Int) (L : List Sd) : Bool := decide (ph = 1) && L.all (·.fork)
def fireD (d : Dn) : Dn := if eats d.phase (fireSs d.phase d.sides) = true then ⟨d.id, 2, dirtyAll (fireSs d.phase d.sides)⟩ else ⟨d.id, d.phase, fireSs d.phase d.sides⟩
def fireMl (d : Dn) : List Ml := fireMs d.id d.phase d.sides
def calm (ph : Int) (s : Sd) : Bool := !hot ph s && !wants ph s
end Go.Proofs.YtfbambemjokmgaaGreat
namespace Go.Proofs.YtfbambemjokmgaaGreat
open Go.RowKit
def hitM (f t e : Int) (y : Ml) : Bool := (y.from_ == f) && (y.to_ == t) && (y.kind == 1) && (y.epoch == e) && (y.num == 0)
def goesB (l : List Ml) (f t e : Int) : Bool := l.any (hitM f t e)
def firstI (xf xd yf yd tf to_ : Bool) : Int :=
  if (xf && !xd) = true then 1 else if (yf && yd && !xf) = true then 1 else if (!xf && !yf && tf) = true then 1
  else if ((yf && !yd) || (xf && xd && !yf) || (!xf && !yf && to_)) = true then 2 else 0
end Go.Proofs.YtfbambemjokmgaaGreat
