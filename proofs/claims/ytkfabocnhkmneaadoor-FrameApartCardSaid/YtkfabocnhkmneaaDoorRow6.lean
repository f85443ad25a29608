/- What a row's frame hands over of a frame; what the row lists. -/
import Derived.Test.YtkfabocnhkmneaaDoorFP5
import Derived.WalkKit
import Derived.ProofKit
import Derived.OpenShut
namespace Go.Proofs.YtkfabocnhkmneaaDoor
open Go.RowKit Go.ChangeShapes Go.WideShapes

/-- a frame's numbers are such -/
def InW (f : Fr) : Prop := (-9223372036854775808 ≤ f.k ∧ f.k ≤ 9223372036854775807) ∧ (-9223372036854775808 ≤ f.e ∧ f.e ≤ 9223372036854775807) ∧ f.q < 18446744073709551616 ∧ f.a < 18446744073709551616

theorem wf_i64 {a : Int} (h : (Lit.int .i64 a).wf = true) : -9223372036854775808 ≤ a ∧ a ≤ 9223372036854775807 := by
  simpa [Lit.wf, IntKind.min, IntKind.max, IntKind.signed, IntKind.bits] using h
theorem wf_u64 {a : Int} (h : (Lit.int .u64 a).wf = true) : ∃ A : Nat, a = (A : Int) ∧ A < 18446744073709551616 := by
  have : 0 ≤ a ∧ a ≤ 18446744073709551615 := by simpa [Lit.wf, IntKind.min, IntKind.max, IntKind.signed, IntKind.bits] using h
  exact ⟨a.toNat, by omega, by omega⟩
theorem wf_u8 {a : Int} (h : (Lit.int .u8 a).wf = true) : ∃ A : Nat, a = (A : Int) ∧ A < 256 := by
  have : 0 ≤ a ∧ a ≤ 255 := by simpa [Lit.wf, IntKind.min, IntKind.max, IntKind.signed, IntKind.bits] using h
  exact ⟨a.toNat, by omega, by omega⟩

set_option maxRecDepth 20000 in
theorem arg_frame {H : Type} {enc : TypeId × Value → H} {w : World} {r : Reach} {b0 base : Nat} {spare : Nat → Bool} {held : Bool} {v : Value} {d : DataW H} {p : List MemPlace}
    (hv : Value.okWide Tryd.prog w r b0 25 v) (h : DataW.Trod enc Tryd.prog w base spare held 25 v d p) :
    ∃ f : Fr, v = .agg #[.int .i64 f.k, .int .i64 f.e, .int .u64 (f.q : Int), .int .u64 (f.a : Int), .string f.b] ∧ InW f := by
  obtain ⟨cs, rfl, hsz⟩ := okWide_struct Tryd.underlying25 hv
  obtain ⟨fuel, hf⟩ := h
  have hcs : (Value.agg cs).cells.toList = cs.toList := by simp [Value.cells]
  rw [hcs] at hf
  obtain ⟨xs, n', _, _, hlen, hxl, hg⟩ := DataW.trod_struct (P := Tryd.prog) (t := 25) Tryd.underlying25 hf
  have h0 := hg 0 _ rfl
  have h1 := hg 1 _ rfl
  have h2 := hg 2 _ rfl
  have h3 := hg 3 _ rfl
  have h4 := hg 4 _ rfl
  have hl : cs.toList.length = 5 := hlen
  have hx2 : xs.length = 5 := hxl
  obtain ⟨l⟩ := cs
  match l, hl, xs, hx2 with
  | [a, b, c, d, e], _, [y0, y1, y2, y3, y4], _ =>
    obtain ⟨k0, e0, _, w0⟩ := DataW.trod_int (k := .i64) (by kernel_rfl) h0
    obtain ⟨k1, e1, _, w1⟩ := DataW.trod_int (k := .i64) (by kernel_rfl) h1
    obtain ⟨k2, e2, _, w2⟩ := DataW.trod_int (k := .u64) (by kernel_rfl) h2
    obtain ⟨k3, e3, _, w3⟩ := DataW.trod_int (k := .u64) (by kernel_rfl) h3
    obtain ⟨k4, e4, _, _⟩ := DataW.trod_string (by kernel_rfl) h4
    have e0' : [a] = [Value.int .i64 k0] := e0
    have e1' : [b] = [Value.int .i64 k1] := e1
    have e2' : [c] = [Value.int .u64 k2] := e2
    have e3' : [d] = [Value.int .u64 k3] := e3
    have e4' : [e] = [Value.string k4] := e4
    simp only [List.cons.injEq, and_true] at e0' e1' e2' e3' e4'
    subst e0' e1' e2' e3' e4'
    obtain ⟨q, rfl, hq⟩ := wf_u64 w2
    obtain ⟨a, rfl, ha⟩ := wf_u64 w3
    exact ⟨⟨k0, k1, q, a, k4⟩, rfl, wf_i64 w0, wf_i64 w1, hq, ha⟩
end Go.Proofs.YtkfabocnhkmneaaDoor
