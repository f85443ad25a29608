/- What a row's frame hands over of acts. -/
import Derived.Test.YtdfleocknaackaaGreatMRW
import Derived.Test.YtdfleocknaackaaGreatVH
import Derived.WalkKit
import Derived.ProofKit
import Derived.OpenShut
namespace Go.Proofs.YtdfleocknaackaaGreat
open Go.RowKit Go.ChangeShapes Go.WideShapes Go.Deep

set_option maxRecDepth 50000 in
theorem dec_Ak : Dec Ak := fun H enc w base spare held n cs x h => by
  obtain ⟨xs, n', _, _, hlen, hxl, hf⟩ := DataW.trod_struct (P := Tryz.prog) (t := Elem.e Ak) Tryz.underlying70 h
  have h0 := hf 0 _ rfl
  have h1 := hf 1 _ rfl
  have h2 := hf 2 _ rfl
  have hl : cs.length = 3 := hlen
  have hx2 : xs.length = 3 := hxl
  match cs, hl, xs, hx2 with
  | [a0, a1, a2], _, [y0, y1, y2], _ =>
    obtain ⟨m0, e0, _⟩ := DataW.trod_int (k := .i64) (by kernel_rfl) h0
    obtain ⟨m1, e1, _⟩ := DataW.trod_int (k := .i64) (by kernel_rfl) h1
    obtain ⟨m2, e2, _⟩ := DataW.trod_int (k := .i64) (by kernel_rfl) h2
    have e0' : [a0] = [Value.int .i64 m0] := e0
    have e1' : [a1] = [Value.int .i64 m1] := e1
    have e2' : [a2] = [Value.int .i64 m2] := e2
    simp only [List.cons.injEq, and_true] at e0' e1' e2'
    subst e0' e1' e2'
    exact ⟨⟨m0, m1, m2⟩, rfl⟩

set_option maxRecDepth 50000 in
theorem arg_act {H : Type} {enc : TypeId × Value → H} {w : World} {r : Reach} {b0 base : Nat} {spare : Nat → Bool} {held : Bool} {v : Value} {d : DataW H} {p : List MemPlace}
    (hv : Value.okWide Tryz.prog w r b0 70 v) (h : DataW.Trod enc Tryz.prog w base spare held 70 v d p) : ∃ k e n, v = .agg #[.int .i64 k, .int .i64 e, .int .i64 n] := by
  obtain ⟨cs, rfl, hsz⟩ := okWide_struct Tryz.underlying70 hv
  obtain ⟨fuel, hf⟩ := h
  have hcs : (Value.agg cs).cells.toList = cs.toList := by simp [Value.cells]
  rw [hcs] at hf
  obtain ⟨xs, n', _, _, hlen, hxl, hg⟩ := DataW.trod_struct (P := Tryz.prog) (t := 70) Tryz.underlying70 hf
  have h0 := hg 0 _ rfl
  have h1 := hg 1 _ rfl
  have h2 := hg 2 _ rfl
  have hl : cs.toList.length = 3 := hlen
  have hx2 : xs.length = 3 := hxl
  obtain ⟨l, hll⟩ : ∃ l, l = cs.toList := ⟨_, rfl⟩
  have hcs2 : cs = l.toArray := by rw [hll]
  rw [← hll] at h0 h1 h2 hl
  clear hll hf hg hcs hsz hv
  match l, hl, xs, hx2 with
  | [a0, a1, a2], _, [y0, y1, y2], _ =>
    obtain ⟨m0, e0, _⟩ := DataW.trod_int (k := .i64) (by kernel_rfl) h0
    obtain ⟨m1, e1, _⟩ := DataW.trod_int (k := .i64) (by kernel_rfl) h1
    obtain ⟨m2, e2, _⟩ := DataW.trod_int (k := .i64) (by kernel_rfl) h2
    have e0' : [a0] = [Value.int .i64 m0] := e0
    have e1' : [a1] = [Value.int .i64 m1] := e1
    have e2' : [a2] = [Value.int .i64 m2] := e2
    simp only [List.cons.injEq, and_true] at e0' e1' e2'
    subst e0' e1' e2'
    exact ⟨m0, m1, m2, by rw [hcs2]⟩
end Go.Proofs.YtdfleocknaackaaGreat
