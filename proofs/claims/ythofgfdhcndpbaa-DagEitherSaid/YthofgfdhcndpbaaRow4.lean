/- What a row's frame hands over of arcs. -/
import Derived.Test.YthofgfdhcndpbaaRowG
import Derived.Test.YthofgfdhcndpbaaElem4
import Derived.WalkKit
import Derived.ProofKit
import Derived.OpenShut
namespace Go.Proofs.Ythofgfdhcndpbaa
open Go.RowKit Go.ChangeShapes Go.WideShapes Go.Deep

theorem dec_Arc : Dec Arc := fun H enc w base spare held n cs x h => by
  obtain ⟨xs, n', _, _, hlen, hxl, hf⟩ := DataW.trod_struct (P := Try.prog) (t := Elem.e Arc) Try.underlying38 h
  have h0 := hf 0 _ rfl
  have h1 := hf 1 _ rfl
  have hl : cs.length = 2 := hlen
  have hx2 : xs.length = 2 := hxl
  match cs, hl, xs, hx2 with
  | [a, b], _, [y0, y1], _ =>
    obtain ⟨k, hk, _⟩ := DataW.trod_int (k := .i64) (by kernel_rfl) h0
    obtain ⟨m, hm, _⟩ := DataW.trod_int (k := .i64) (by kernel_rfl) h1
    have hk' : [a] = [Value.int .i64 k] := hk
    have hm' : [b] = [Value.int .i64 m] := hm
    simp only [List.cons.injEq, and_true] at hk' hm'
    subst hk' hm'
    exact ⟨⟨k, m⟩, rfl⟩

end Go.Proofs.Ythofgfdhcndpbaa
