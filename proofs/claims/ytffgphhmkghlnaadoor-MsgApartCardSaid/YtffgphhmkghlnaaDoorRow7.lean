/- What a row's frame hands over of a message. -/
import Derived.Test.YtffgphhmkghlnaaDoorMP
import Derived.WalkKit
import Derived.ProofKit
import Derived.OpenShut
namespace Go.Proofs.YtffgphhmkghlnaaDoor
open Go.RowKit Go.ChangeShapes Go.WideShapes

theorem wf_i64 {a : Int} (h : (Lit.int .i64 a).wf = true) : -9223372036854775808 ≤ a ∧ a ≤ 9223372036854775807 := by
  simpa [Lit.wf, IntKind.min, IntKind.max, IntKind.signed, IntKind.bits] using h

set_option maxRecDepth 20000 in
theorem arg_msg {H : Type} {enc : TypeId × Value → H} {w : World} {r : Reach} {b0 base : Nat} {spare : Nat → Bool} {held : Bool} {v : Value} {d : DataW H} {p : List MemPlace}
    (hv : Value.okWide Tryd.prog w r b0 24 v) (h : DataW.Trod enc Tryd.prog w base spare held 24 v d p) :
    ∃ m : Mg, v = .agg #[.int .i64 m.k, .int .i64 m.e, .int .i64 m.n] ∧ InM m := by
  obtain ⟨cs, rfl, hsz⟩ := okWide_struct Tryd.underlying24 hv
  obtain ⟨fuel, hf⟩ := h
  have hcs : (Value.agg cs).cells.toList = cs.toList := by simp [Value.cells]
  rw [hcs] at hf
  obtain ⟨xs, n', _, _, hlen, hxl, hg⟩ := DataW.trod_struct (P := Tryd.prog) (t := 24) Tryd.underlying24 hf
  have h0 := hg 0 _ rfl
  have h1 := hg 1 _ rfl
  have h2 := hg 2 _ rfl
  have hl : cs.toList.length = 3 := hlen
  have hx2 : xs.length = 3 := hxl
  obtain ⟨l⟩ := cs
  match l, hl, xs, hx2 with
  | [a, b, c], _, [y0, y1, y2], _ =>
    obtain ⟨k0, e0, _, w0⟩ := DataW.trod_int (k := .i64) (by kernel_rfl) h0
    obtain ⟨k1, e1, _, w1⟩ := DataW.trod_int (k := .i64) (by kernel_rfl) h1
    obtain ⟨k2, e2, _, w2⟩ := DataW.trod_int (k := .i64) (by kernel_rfl) h2
    have e0' : [a] = [Value.int .i64 k0] := e0
    have e1' : [b] = [Value.int .i64 k1] := e1
    have e2' : [c] = [Value.int .i64 k2] := e2
    simp only [List.cons.injEq, and_true] at e0' e1' e2'
    subst e0' e1' e2'
    exact ⟨⟨k0, k1, k2⟩, rfl, wf_i64 w0, wf_i64 w1, wf_i64 w2⟩
end Go.Proofs.YtffgphhmkghlnaaDoor
