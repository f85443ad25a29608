/- Texts of this seat. -/
import Derived.Test.YtfbambemjokmgaaGreatNAJ
namespace Go.Proofs.YtfbambemjokmgaaGreat
open Go.RowKit Go.ChangeShapes Go.WideShapes Go.Deep
set_option maxRecDepth 50000 in
theorem dec_Edge : Dec Edge := fun H enc w base spare held n cs x h => by
  obtain ⟨xs, n', _, _, hlen, hxl, hf⟩ := DataW.trod_struct (P := Tryz.prog) (t := Elem.e Edge) Tryz.underlying30 h
  have h0 := hf 0 _ rfl
  have h1 := hf 1 _ rfl
  have hl : cs.length = 2 := hlen
  have hx2 : xs.length = 2 := hxl
  match cs, hl, xs, hx2 with
  | [a, b], _, [y0, y1], _ =>
    obtain ⟨k, hk, _⟩ := DataW.trod_int (k := .i64) (by kernel_rfl) h0
    obtain ⟨m, hm, _⟩ := DataW.trod_int (k := .i64) (by kernel_rfl) h1
    have hk' : [a] = [Value.int .i64 k] := hk
    have hm' : [b] = [Value.int .i64 m] := hm
    simp only [List.cons.injEq, and_true] at hk' hm'
    subst hk' hm'
    exact ⟨⟨k, m⟩, rfl⟩
set_option maxRecDepth 50000 in
theorem arg_graph {H : Type} {enc : TypeId × Value → H} {w : World} {r : Reach} {b0 base : Nat} {spare : Nat → Bool} {held : Bool} {v : Value} {d : DataW H} {p : List MemPlace}
    (hv : Value.okWide Tryz.prog w r b0 53 v) (h : DataW.Trod enc Tryz.prog w base spare held 53 v d p) : ∃ N ao c, ∃ E : List Edge, v = .agg #[.int .i64 N, .slice ao E.length c] ∧ Sl w (.slice ao E.length c) E := by
  obtain ⟨cs, rfl, hsz⟩ := okWide_struct Tryz.underlying53 hv
  obtain ⟨fuel, hf⟩ := h
  have hcs : (Value.agg cs).cells.toList = cs.toList := by simp [Value.cells]
  rw [hcs] at hf
  obtain ⟨y0, y1, n, _, hl, h0, h1⟩ := trod_struct2 (P := Tryz.prog) Tryz.underlying53 hf
  have hl2 : cs.toList.length = 2 := hl
  obtain ⟨l⟩ := cs
  match l, hl2 with
  | [a, b], _ =>
    obtain ⟨N, hN, _⟩ := DataW.trod_int (k := .i64) (by kernel_rfl) h0
    have hN' : [a] = [Value.int .i64 N] := hN
    simp only [List.cons.injEq, and_true] at hN'
    subst hN'
    have h1' : DataW.trod enc Tryz.prog w base spare held n (Elem.t Edge) [b] = some y1 := h1
    obtain ⟨ao, c, E, rfl, hE⟩ := field_slice dec_Edge (by kernel_rfl) h1'
    exact ⟨N, ao, c, E, rfl, hE⟩
end Go.Proofs.YtfbambemjokmgaaGreat
