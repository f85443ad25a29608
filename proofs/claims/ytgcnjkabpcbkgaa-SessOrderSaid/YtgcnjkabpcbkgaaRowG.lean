/- What a row's frame hands over, as what a slice reads as, whatever its elements. -/
import Derived.Test.YtgcnjkabpcbkgaaBase
import Derived.OpenShut
import Derived.Deep.Slices
import Derived.Deep.Fields
import Derived.ChangeSame
namespace Go.Proofs.Ytgcnjkabpcbkgaa
open Go.RowKit Go.ChangeShapes Go.WideShapes Go.Deep

set_option maxRecDepth 20000 in
theorem cellsOf_split {α : Type} [Elem α] : ∀ (xs : List α) (j : Nat) (u : Value), (cellsOf xs)[j]? = some u → ∃ (i : Nat) (x : α) (r : Nat), xs[i]? = some x ∧ (Elem.enc x)[r]? = some u ∧ r < Elem.k α ∧ j = i * Elem.k α + r
  | [], j, u, h => by simp [cellsOf] at h
  | x :: xs, j, u, h => by
    have hl := Elem.len x
    change (Elem.enc x ++ cellsOf xs)[j]? = some u at h
    by_cases hj : j < Elem.k α
    · rw [List.getElem?_append_left (by omega)] at h
      exact ⟨0, x, j, rfl, h, hj, by omega⟩
    · rw [List.getElem?_append_right (by omega), hl] at h
      obtain ⟨i, y, r, h1, h2, h3, h4⟩ := cellsOf_split xs _ u h
      exact ⟨i + 1, y, r, h1, h2, h3, by rw [Nat.succ_mul]; omega⟩

set_option maxRecDepth 20000 in
theorem addr_add (b off n : Nat) : (⟨b, off, none⟩ : Addr).add n = ⟨b, off + n, none⟩ := by unfold Addr.add; split <;> simp_all

/-- Each element's cells are some element's. -/
def Dec (α : Type) [Elem α] : Prop := ∀ (H : Type) (enc : TypeId × Value → H) (w : World) (base : Nat) (spare : Nat → Bool) (held : Bool) (n : Nat) (cs : List Value) (x : DataW H × List MemPlace),
  DataW.trod enc Try.prog w base spare held n (Elem.e α) cs = some x → ∃ a : α, cs = Elem.enc a

set_option maxRecDepth 20000 in
theorem spot_none {w : World} {a : Addr} {v : Value} (h : w.cell? a = some v) : a.spot = none := by
  unfold World.cell? at h
  split at h
  · cases hs : a.spot with
    | none => rfl
    | some _ => rw [hs] at h; simp at h
  · cases h

set_option maxRecDepth 20000 in
theorem arg_slice {α : Type} [Elem α] (hdec : Dec α) (hC : Try.prog.cellsOf (Elem.e α) = Elem.k α) {H : Type} {enc : TypeId × Value → H} {w : World} {r : Reach} {b0 base : Nat} {spare : Nat → Bool} {held : Bool} {v : Value} {d : DataW H} {p : List MemPlace}
    (hv : Value.okWide Try.prog w r b0 (Elem.t α) v) (h : DataW.Trod enc Try.prog w base spare held (Elem.t α) v d p) : ∃ ao c, ∃ xs : List α, v = .slice ao xs.length c ∧ Sl w (.slice ao xs.length c) xs := by
  obtain ⟨ao, len, cap, rfl⟩ := okWide_slice (Elem.row (α := α)) hv
  obtain ⟨fuel, hf⟩ := h
  rcases open_slice (Elem.row (α := α)) hf with ⟨hcs, _⟩ | ⟨a, l, c, m, n, D, Pl, hcs, hb, hl, hm, hmm, hx, hi⟩
  · simp [Value.cells] at hcs
    obtain ⟨rfl, rfl, rfl⟩ := hcs
    exact ⟨none, 0, [], rfl, Sl.empty _ _ _ (by omega) (fun _ => rfl)⟩
  · simp [Value.cells] at hcs
    obtain ⟨rfl, rfl, rfl⟩ := hcs
    have hlm : len ≤ m := by rw [hmm]; split <;> omega
    have key : ∀ i, ∃ x : α, i < len → w.cells? base (a.add (i * Elem.k α)) (Elem.k α) = some (Elem.enc x) := by
      intro i
      by_cases hil : i < len
      · obtain ⟨cs', h1, h2⟩ := hi i (by omega)
        obtain ⟨x, rfl⟩ := hdec H enc w base spare held n cs' _ h2
        rw [hC] at h1
        exact ⟨x, fun _ => h1⟩
      · exact ⟨Elem.dflt, fun h => absurd h hil⟩
    obtain ⟨f, hf'⟩ := Classical.axiomOfChoice key
    have hxl : ((List.range len).map f).length = len := by simp
    refine ⟨some a, cap, (List.range len).map f, by rw [hxl], ?_⟩
    by_cases h0 : len = 0
    · subst h0
      exact ⟨by simp [cellsOf], some a, cap, rfl, by simp, hm, by simp, .inl (by simp)⟩
    · have hpos := Elem.pos (α := α)
      obtain ⟨b, off, sp⟩ := a
      have hz : w.cell? ((Addr.mk b off sp).add 0) = some ((Elem.enc (f 0))[0]'(by rw [Elem.len]; exact hpos)) := by
        have := (World.cells?_some (hf' 0 (by omega))).2.2 0 hpos
        rw [Nat.zero_mul] at this
        simpa [Addr.add] using this.trans (List.getElem?_eq_getElem (by rw [Elem.len]; exact hpos))
      have hsp : sp = none := by
        have := spot_none hz
        simpa [Addr.add] using this
      subst hsp
      obtain ⟨v0, hz'⟩ : ∃ v0, w.cell? ⟨b, off, none⟩ = some v0 := ⟨_, by simpa [Addr.add] using hz⟩
      refine ⟨cellsOf_length _, _, cap, rfl, by rw [hxl]; exact hl, hm, by simp, .inr ⟨b, off, rfl, World.block_lt_of_cell? w _ hz', fun j u hj => ?_⟩⟩
      obtain ⟨i, x, r, h1, h2, h3, rfl⟩ := cellsOf_split _ j u hj
      rw [List.getElem?_map] at h1
      have hil : i < len := by
        rcases Nat.lt_or_ge i len with h | h
        · exact h
        · rw [List.getElem?_eq_none (by simpa using h)] at h1; simp at h1
      rw [List.getElem?_range hil] at h1
      simp only [Option.map_some, Option.some.injEq] at h1
      have := (World.cells?_some (hf' i hil)).2.2 r h3
      rw [addr_add b off _, addr_add b _ r] at this
      rw [show off + (i * Elem.k α + r) = off + i * Elem.k α + r from by omega, this, h1, h2]

end Go.Proofs.Ytgcnjkabpcbkgaa
