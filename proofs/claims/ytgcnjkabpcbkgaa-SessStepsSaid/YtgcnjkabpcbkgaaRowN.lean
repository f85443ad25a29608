/- What a row's frame hands over of rows whose elements hold rows themselves. -/
import Derived.Test.YtgcnjkabpcbkgaaRowG
import Derived.Test.YtgcnjkabpcbkgaaNs
import Derived.WalkKit
import Derived.ProofKit
import Derived.OpenShut
namespace Go.Proofs.Ytgcnjkabpcbkgaa
open Go.RowKit Go.ChangeShapes Go.WideShapes Go.Deep

/-- no block -/
def Non : Nat → Prop := fun _ => False
theorem sa_non {α : Type} [Elem α] {w : World} {v : Value} {xs : List α} (h : Sl w v xs) : Sa Non w v xs := ⟨h, .inr fun _ _ hf => hf⟩
/-- Each element's cells are some element's that reads as something. -/
def DecW (α : Type) {δ : Type} [Elem α] [Nest α δ] : Prop := ∀ (H : Type) (enc : TypeId × Value → H) (w : World) (base : Nat) (spare : Nat → Bool) (held : Bool) (n : Nat) (cs : List Value) (x : DataW H × List MemPlace),
  DataW.trod enc Try.prog w base spare held n (Elem.e α) cs = some x → ∃ (a : α) (d : δ), cs = Elem.enc a ∧ Nest.rd Non w a d

/-- A slice among a struct's fields. -/
theorem field_slice {α : Type} [Elem α] (hdec : Dec α) (hC : Try.prog.cellsOf (Elem.e α) = Elem.k α) {H : Type} {enc : TypeId × Value → H} {w : World} {base : Nat} {spare : Nat → Bool} {held : Bool} {v : Value} {n : Nat} {y : DataW H × List MemPlace}
    (hf : DataW.trod enc Try.prog w base spare held n (Elem.t α) [v] = some y) : ∃ ao c, ∃ xs : List α, v = .slice ao xs.length c ∧ Sl w (.slice ao xs.length c) xs := by
  rcases open_slice (Elem.row (α := α)) hf with ⟨hcs, _⟩ | ⟨a, len, cap, m, n, D, Pl, hcs, hb, hl, hm, hmm, hx, hi⟩
  · simp at hcs
    subst hcs
    exact ⟨none, 0, [], rfl, Sl.empty _ _ _ (by omega) (fun _ => rfl)⟩
  · simp at hcs
    subst hcs
    have hlm : len ≤ m := by rw [hmm]; split <;> omega
    have key : ∀ i, ∃ x : α, i < len → w.cells? base (a.add (i * Elem.k α)) (Elem.k α) = some (Elem.enc x) := by
      intro i
      by_cases hil : i < len
      · obtain ⟨cs', h1, h2⟩ := hi i (by omega)
        obtain ⟨x, rfl⟩ := hdec H enc w base spare held n cs' _ h2
        rw [hC] at h1
        exact ⟨x, fun _ => h1⟩
      · exact ⟨Elem.dflt, fun h => absurd h hil⟩
    obtain ⟨f, hf'⟩ := Classical.axiomOfChoice key
    have hxl : ((List.range len).map f).length = len := by simp
    refine ⟨some a, cap, (List.range len).map f, by rw [hxl], ?_⟩
    by_cases h0 : len = 0
    · subst h0
      exact ⟨by simp [cellsOf], some a, cap, rfl, by simp, hm, by simp, .inl (by simp)⟩
    · have hpos := Elem.pos (α := α)
      obtain ⟨b, off, sp⟩ := a
      have hz : w.cell? ((Addr.mk b off sp).add 0) = some ((Elem.enc (f 0))[0]'(by rw [Elem.len]; exact hpos)) := by
        have := (World.cells?_some (hf' 0 (by omega))).2.2 0 hpos
        rw [Nat.zero_mul] at this
        simpa [Addr.add] using this.trans (List.getElem?_eq_getElem (by rw [Elem.len]; exact hpos))
      have hsp : sp = none := by
        have := spot_none hz
        simpa [Addr.add] using this
      subst hsp
      obtain ⟨v0, hz'⟩ : ∃ v0, w.cell? ⟨b, off, none⟩ = some v0 := ⟨_, by simpa [Addr.add] using hz⟩
      refine ⟨cellsOf_length _, _, cap, rfl, by rw [hxl]; exact hl, hm, by simp, .inr ⟨b, off, rfl, World.block_lt_of_cell? w _ hz', fun j u hj => ?_⟩⟩
      obtain ⟨i, x, r, h1, h2, h3, rfl⟩ := cellsOf_split _ j u hj
      rw [List.getElem?_map] at h1
      have hil : i < len := by
        rcases Nat.lt_or_ge i len with h | h
        · exact h
        · rw [List.getElem?_eq_none (by simpa using h)] at h1; simp at h1
      rw [List.getElem?_range hil] at h1
      simp only [Option.map_some, Option.some.injEq] at h1
      have := (World.cells?_some (hf' i hil)).2.2 r h3
      rw [addr_add b off _, addr_add b _ r] at this
      rw [show off + (i * Elem.k α + r) = off + i * Elem.k α + r from by omega, this, h1, h2]

set_option maxRecDepth 50000 in
theorem arg_sliceW {α δ : Type} [Elem α] [Nest α δ] (hP : ∃ (a : α) (d : δ), ∀ w, Nest.rd Non w a d) (hdec : DecW α) (hC : Try.prog.cellsOf (Elem.e α) = Elem.k α) {H : Type} {enc : TypeId × Value → H} {w : World} {r : Reach} {b0 base : Nat} {spare : Nat → Bool} {held : Bool} {v : Value} {d : DataW H} {p : List MemPlace}
    (hv : Value.okWide Try.prog w r b0 (Elem.t α) v) (h : DataW.Trod enc Try.prog w base spare held (Elem.t α) v d p) : ∃ ao c, ∃ L : List δ, v = .slice ao L.length c ∧ Ns α Non w (.slice ao L.length c) L := by
  obtain ⟨ao, len, cap, rfl⟩ := okWide_slice (Elem.row (α := α)) hv
  obtain ⟨fuel, hf⟩ := h
  replace hP : ∃ (a : α) (d : δ), Nest.rd Non w a d := by obtain ⟨a, d, hq⟩ := hP; exact ⟨a, d, hq w⟩
  rcases open_slice (Elem.row (α := α)) hf with ⟨hcs, _⟩ | ⟨a, l, c, m, n, D, Pl, hcs, hb, hl, hm, hmm, hx, hi⟩
  · simp [Value.cells] at hcs
    obtain ⟨rfl, rfl, rfl⟩ := hcs
    exact ⟨none, 0, [], rfl, Ns.nil _ _⟩
  · simp [Value.cells] at hcs
    obtain ⟨rfl, rfl, rfl⟩ := hcs
    have hlm : len ≤ m := by rw [hmm]; split <;> omega
    have key : ∀ i, ∃ y : α × δ, Nest.rd Non w y.1 y.2 ∧ (i < len → w.cells? base (a.add (i * Elem.k α)) (Elem.k α) = some (Elem.enc y.1)) := by
      intro i
      by_cases hil : i < len
      · obtain ⟨cs', h1, h2⟩ := hi i (by omega)
        obtain ⟨x, d, rfl, hp⟩ := hdec H enc w base spare held n cs' _ h2
        rw [hC] at h1
        exact ⟨(x, d), hp, fun _ => h1⟩
      · obtain ⟨x, d, hp⟩ := hP
        exact ⟨(x, d), hp, fun h => absurd h hil⟩
    obtain ⟨f2, hf0⟩ := Classical.axiomOfChoice key
    obtain ⟨f, hff⟩ : ∃ f : Nat → α, f = fun i => (f2 i).1 := ⟨_, rfl⟩
    have hf' : ∀ i, i < len → w.cells? base (a.add (i * Elem.k α)) (Elem.k α) = some (Elem.enc (f i)) := fun i h => by rw [hff]; exact (hf0 i).2 h
    have hrd : ∀ i, Nest.rd Non w (f i) (f2 i).2 := fun i => by rw [hff]; exact (hf0 i).1
    have hxl : ((List.range len).map f).length = len := by simp
    refine ⟨some a, cap, (List.range len).map fun i => (f2 i).2, by simp, ?_⟩
    have hxl2 : ((List.range len).map fun i => (f2 i).2).length = len := by simp
    rw [hxl2]
    suffices hs : Sl w (.slice (some a) len cap) ((List.range len).map f) by
      refine ⟨(List.range len).map f, sa_non hs, by simp, fun j x d hx hd => ?_⟩
      rw [List.getElem?_map] at hx hd
      cases hq : (List.range len)[j]? with
      | none => rw [hq] at hx; simp at hx
      | some i =>
        rw [hq] at hx hd
        simp only [Option.map_some, Option.some.injEq] at hx hd
        subst hx hd
        exact hrd i
    by_cases h0 : len = 0
    · subst h0
      exact ⟨by simp [cellsOf], some a, cap, rfl, by simp, hm, by simp, .inl (by simp)⟩
    · have hpos := Elem.pos (α := α)
      obtain ⟨b, off, sp⟩ := a
      have hz : w.cell? ((Addr.mk b off sp).add 0) = some ((Elem.enc (f 0))[0]'(by rw [Elem.len]; exact hpos)) := by
        have := (World.cells?_some (hf' 0 (by omega))).2.2 0 hpos
        rw [Nat.zero_mul] at this
        simpa [Addr.add] using this.trans (List.getElem?_eq_getElem (by rw [Elem.len]; exact hpos))
      have hsp : sp = none := by
        have := spot_none hz
        simpa [Addr.add] using this
      subst hsp
      obtain ⟨v0, hz'⟩ : ∃ v0, w.cell? ⟨b, off, none⟩ = some v0 := ⟨_, by simpa [Addr.add] using hz⟩
      refine ⟨cellsOf_length _, _, cap, by rw [hxl], by rw [hxl]; exact hl, hm, by simp, .inr ⟨b, off, rfl, World.block_lt_of_cell? w _ hz', fun j u hj => ?_⟩⟩
      obtain ⟨i, x, r, h1, h2, h3, rfl⟩ := cellsOf_split _ j u hj
      rw [List.getElem?_map] at h1
      have hil : i < len := by
        rcases Nat.lt_or_ge i len with h | h
        · exact h
        · rw [List.getElem?_eq_none (by simpa using h)] at h1; simp at h1
      rw [List.getElem?_range hil] at h1
      simp only [Option.map_some, Option.some.injEq] at h1
      have := (World.cells?_some (hf' i hil)).2.2 r h3
      rw [addr_add b off _, addr_add b _ r] at this
      rw [show off + (i * Elem.k α + r) = off + i * Elem.k α + r from by omega, this, h1, h2]


set_option maxRecDepth 50000 in
theorem field_sliceW {α δ : Type} [Elem α] [Nest α δ] (hP : ∃ (a : α) (d : δ), ∀ w, Nest.rd Non w a d) (hdec : DecW α) (hC : Try.prog.cellsOf (Elem.e α) = Elem.k α) {H : Type} {enc : TypeId × Value → H} {w : World} {base : Nat} {spare : Nat → Bool} {held : Bool} {v : Value} {n : Nat} {y : DataW H × List MemPlace}
    (hf : DataW.trod enc Try.prog w base spare held n (Elem.t α) [v] = some y) : ∃ ao c, ∃ L : List δ, v = .slice ao L.length c ∧ Ns α Non w (.slice ao L.length c) L := by
  replace hP : ∃ (a : α) (d : δ), Nest.rd Non w a d := by obtain ⟨a, d, hq⟩ := hP; exact ⟨a, d, hq w⟩
  rcases open_slice (Elem.row (α := α)) hf with ⟨hcs, _⟩ | ⟨a, len, cap, m, n, D, Pl, hcs, hb, hl, hm, hmm, hx, hi⟩
  · simp at hcs
    subst hcs
    exact ⟨none, 0, [], rfl, Ns.nil _ _⟩
  · simp at hcs
    subst hcs
    have hlm : len ≤ m := by rw [hmm]; split <;> omega
    have key : ∀ i, ∃ y : α × δ, Nest.rd Non w y.1 y.2 ∧ (i < len → w.cells? base (a.add (i * Elem.k α)) (Elem.k α) = some (Elem.enc y.1)) := by
      intro i
      by_cases hil : i < len
      · obtain ⟨cs', h1, h2⟩ := hi i (by omega)
        obtain ⟨x, d, rfl, hp⟩ := hdec H enc w base spare held n cs' _ h2
        rw [hC] at h1
        exact ⟨(x, d), hp, fun _ => h1⟩
      · obtain ⟨x, d, hp⟩ := hP
        exact ⟨(x, d), hp, fun h => absurd h hil⟩
    obtain ⟨f2, hf0⟩ := Classical.axiomOfChoice key
    obtain ⟨f, hff⟩ : ∃ f : Nat → α, f = fun i => (f2 i).1 := ⟨_, rfl⟩
    have hf' : ∀ i, i < len → w.cells? base (a.add (i * Elem.k α)) (Elem.k α) = some (Elem.enc (f i)) := fun i h => by rw [hff]; exact (hf0 i).2 h
    have hrd : ∀ i, Nest.rd Non w (f i) (f2 i).2 := fun i => by rw [hff]; exact (hf0 i).1
    have hxl : ((List.range len).map f).length = len := by simp
    refine ⟨some a, cap, (List.range len).map fun i => (f2 i).2, by simp, ?_⟩
    have hxl2 : ((List.range len).map fun i => (f2 i).2).length = len := by simp
    rw [hxl2]
    suffices hs : Sl w (.slice (some a) len cap) ((List.range len).map f) by
      refine ⟨(List.range len).map f, sa_non hs, by simp, fun j x d hx hd => ?_⟩
      rw [List.getElem?_map] at hx hd
      cases hq : (List.range len)[j]? with
      | none => rw [hq] at hx; simp at hx
      | some i =>
        rw [hq] at hx hd
        simp only [Option.map_some, Option.some.injEq] at hx hd
        subst hx hd
        exact hrd i
    by_cases h0 : len = 0
    · subst h0
      exact ⟨by simp [cellsOf], some a, cap, rfl, by simp, hm, by simp, .inl (by simp)⟩
    · have hpos := Elem.pos (α := α)
      obtain ⟨b, off, sp⟩ := a
      have hz : w.cell? ((Addr.mk b off sp).add 0) = some ((Elem.enc (f 0))[0]'(by rw [Elem.len]; exact hpos)) := by
        have := (World.cells?_some (hf' 0 (by omega))).2.2 0 hpos
        rw [Nat.zero_mul] at this
        simpa [Addr.add] using this.trans (List.getElem?_eq_getElem (by rw [Elem.len]; exact hpos))
      have hsp : sp = none := by
        have := spot_none hz
        simpa [Addr.add] using this
      subst hsp
      obtain ⟨v0, hz'⟩ : ∃ v0, w.cell? ⟨b, off, none⟩ = some v0 := ⟨_, by simpa [Addr.add] using hz⟩
      refine ⟨cellsOf_length _, _, cap, by rw [hxl], by rw [hxl]; exact hl, hm, by simp, .inr ⟨b, off, rfl, World.block_lt_of_cell? w _ hz', fun j u hj => ?_⟩⟩
      obtain ⟨i, x, r, h1, h2, h3, rfl⟩ := cellsOf_split _ j u hj
      rw [List.getElem?_map] at h1
      have hil : i < len := by
        rcases Nat.lt_or_ge i len with h | h
        · exact h
        · rw [List.getElem?_eq_none (by simpa using h)] at h1; simp at h1
      rw [List.getElem?_range hil] at h1
      simp only [Option.map_some, Option.some.injEq] at h1
      have := (World.cells?_some (hf' i hil)).2.2 r h3
      rw [addr_add b off _, addr_add b _ r] at this
      rw [show off + (i * Elem.k α + r) = off + i * Elem.k α + r from by omega, this, h1, h2]


end Go.Proofs.Ytgcnjkabpcbkgaa
