/- What a row's frame hands over of a graph. -/
import Derived.Test.YtalncechmhmdcaaRowG
import Derived.Test.YtalncechmhmdcaaElem3
import Derived.WalkKit
import Derived.ProofKit
import Derived.OpenShut
namespace Go.Proofs.Ytalncechmhmdcaa
open Go.RowKit Go.ChangeShapes Go.WideShapes Go.Deep

theorem dec_Edge : Dec Edge := fun H enc w base spare held n cs x h => by
  obtain ⟨xs, n', _, _, hlen, hxl, hf⟩ := DataW.trod_struct (P := Try.prog) (t := Elem.e Edge) Try.underlying44 h
  have h0 := hf 0 _ rfl
  have h1 := hf 1 _ rfl
  have hl : cs.length = 2 := hlen
  have hx2 : xs.length = 2 := hxl
  match cs, hl, xs, hx2 with
  | [a, b], _, [y0, y1], _ =>
    obtain ⟨k, hk, _⟩ := DataW.trod_int (k := .i64) (by kernel_rfl) h0
    obtain ⟨m, hm, _⟩ := DataW.trod_int (k := .i64) (by kernel_rfl) h1
    have hk' : [a] = [Value.int .i64 k] := hk
    have hm' : [b] = [Value.int .i64 m] := hm
    simp only [List.cons.injEq, and_true] at hk' hm'
    subst hk' hm'
    exact ⟨⟨k, m⟩, rfl⟩

/-- A slice among a struct's fields. -/
theorem field_slice {α : Type} [Elem α] (hdec : Dec α) (hC : Try.prog.cellsOf (Elem.e α) = Elem.k α) {H : Type} {enc : TypeId × Value → H} {w : World} {base : Nat} {spare : Nat → Bool} {held : Bool} {v : Value} {n : Nat} {y : DataW H × List MemPlace}
    (hf : DataW.trod enc Try.prog w base spare held n (Elem.t α) [v] = some y) : ∃ ao c, ∃ xs : List α, v = .slice ao xs.length c ∧ Sl w (.slice ao xs.length c) xs := by
  rcases open_slice (Elem.row (α := α)) hf with ⟨hcs, _⟩ | ⟨a, len, cap, m, n, D, Pl, hcs, hb, hl, hm, hmm, hx, hi⟩
  · simp at hcs
    subst hcs
    exact ⟨none, 0, [], rfl, Sl.empty _ _ _ (by omega) (fun _ => rfl)⟩
  · simp at hcs
    subst hcs
    have hlm : len ≤ m := by rw [hmm]; split <;> omega
    have key : ∀ i, ∃ x : α, i < len → w.cells? base (a.add (i * Elem.k α)) (Elem.k α) = some (Elem.enc x) := by
      intro i
      by_cases hil : i < len
      · obtain ⟨cs', h1, h2⟩ := hi i (by omega)
        obtain ⟨x, rfl⟩ := hdec H enc w base spare held n cs' _ h2
        rw [hC] at h1
        exact ⟨x, fun _ => h1⟩
      · exact ⟨Elem.dflt, fun h => absurd h hil⟩
    obtain ⟨f, hf'⟩ := Classical.axiomOfChoice key
    have hxl : ((List.range len).map f).length = len := by simp
    refine ⟨some a, cap, (List.range len).map f, by rw [hxl], ?_⟩
    by_cases h0 : len = 0
    · subst h0
      exact ⟨by simp [cellsOf], some a, cap, rfl, by simp, hm, by simp, .inl (by simp)⟩
    · have hpos := Elem.pos (α := α)
      obtain ⟨b, off, sp⟩ := a
      have hz : w.cell? ((Addr.mk b off sp).add 0) = some ((Elem.enc (f 0))[0]'(by rw [Elem.len]; exact hpos)) := by
        have := (World.cells?_some (hf' 0 (by omega))).2.2 0 hpos
        rw [Nat.zero_mul] at this
        simpa [Addr.add] using this.trans (List.getElem?_eq_getElem (by rw [Elem.len]; exact hpos))
      have hsp : sp = none := by
        have := spot_none hz
        simpa [Addr.add] using this
      subst hsp
      obtain ⟨v0, hz'⟩ : ∃ v0, w.cell? ⟨b, off, none⟩ = some v0 := ⟨_, by simpa [Addr.add] using hz⟩
      refine ⟨cellsOf_length _, _, cap, rfl, by rw [hxl]; exact hl, hm, by simp, .inr ⟨b, off, rfl, World.block_lt_of_cell? w _ hz', fun j u hj => ?_⟩⟩
      obtain ⟨i, x, r, h1, h2, h3, rfl⟩ := cellsOf_split _ j u hj
      rw [List.getElem?_map] at h1
      have hil : i < len := by
        rcases Nat.lt_or_ge i len with h | h
        · exact h
        · rw [List.getElem?_eq_none (by simpa using h)] at h1; simp at h1
      rw [List.getElem?_range hil] at h1
      simp only [Option.map_some, Option.some.injEq] at h1
      have := (World.cells?_some (hf' i hil)).2.2 r h3
      rw [addr_add b off _, addr_add b _ r] at this
      rw [show off + (i * Elem.k α + r) = off + i * Elem.k α + r from by omega, this, h1, h2]

theorem arg_graph {H : Type} {enc : TypeId × Value → H} {w : World} {r : Reach} {b0 base : Nat} {spare : Nat → Bool} {held : Bool} {v : Value} {d : DataW H} {p : List MemPlace}
    (hv : Value.okWide Try.prog w r b0 24 v) (h : DataW.Trod enc Try.prog w base spare held 24 v d p) : ∃ N ao c, ∃ E : List Edge, v = .agg #[.int .i64 N, .slice ao E.length c] ∧ Sl w (.slice ao E.length c) E := by
  obtain ⟨cs, rfl, hsz⟩ := okWide_struct Try.underlying24 hv
  obtain ⟨fuel, hf⟩ := h
  have hcs : (Value.agg cs).cells.toList = cs.toList := by simp [Value.cells]
  rw [hcs] at hf
  obtain ⟨y0, y1, n, _, hl, h0, h1⟩ := trod_struct2 (P := Try.prog) Try.underlying24 hf
  have hl2 : cs.toList.length = 2 := hl
  obtain ⟨l⟩ := cs
  match l, hl2 with
  | [a, b], _ =>
    obtain ⟨N, hN, _⟩ := DataW.trod_int (k := .i64) (by kernel_rfl) h0
    have hN' : [a] = [Value.int .i64 N] := hN
    simp only [List.cons.injEq, and_true] at hN'
    subst hN'
    have h1' : DataW.trod enc Try.prog w base spare held n (Elem.t Edge) [b] = some y1 := h1
    obtain ⟨ao, c, E, rfl, hE⟩ := field_slice dec_Edge (by kernel_rfl) h1'
    exact ⟨N, ao, c, E, rfl, hE⟩

end Go.Proofs.Ytalncechmhmdcaa
