/- Texts of this seat. -/
import Derived.Test.YtfbambemjokmgaaGreatNAH
namespace Go.Proofs.YtfbambemjokmgaaGreat
open Go.RowKit Go.ChangeShapes Go.WideShapes Go.Deep
set_option maxRecDepth 20000 in
theorem dec_Sd : Dec Sd := fun H enc w base spare held n cs x h => by
  obtain ⟨xs, n', _, _, hlen, hxl, hf⟩ := DataW.trod_struct (P := Tryz.prog) (t := Elem.e Sd) Tryz.underlying66 h
  have h0 := hf 0 _ rfl
  have h1 := hf 1 _ rfl
  have h2 := hf 2 _ rfl
  have h3 := hf 3 _ rfl
  have h4 := hf 4 _ rfl
  have h5 := hf 5 _ rfl
  have h6 := hf 6 _ rfl
  have h7 := hf 7 _ rfl
  have hl : cs.length = 8 := hlen
  have hx2 : xs.length = 8 := hxl
  match cs, hl, xs, hx2 with
  | [a0, a1, a2, a3, a4, a5, a6, a7], _, [y0, y1, y2, y3, y4, y5, y6, y7], _ =>
    obtain ⟨m0, e0, _⟩ := DataW.trod_int (k := .i64) (by kernel_rfl) h0
    obtain ⟨m1, e1, _⟩ := DataW.trod_int (k := .i64) (by kernel_rfl) h1
    obtain ⟨m2, e2, _⟩ := DataW.trod_int (k := .i64) (by kernel_rfl) h2
    obtain ⟨m3, e3, _⟩ := DataW.trod_bool (by kernel_rfl) h3
    obtain ⟨m4, e4, _⟩ := DataW.trod_bool (by kernel_rfl) h4
    obtain ⟨m5, e5, _⟩ := DataW.trod_bool (by kernel_rfl) h5
    obtain ⟨m6, e6, _⟩ := DataW.trod_bool (by kernel_rfl) h6
    obtain ⟨m7, e7, _⟩ := DataW.trod_bool (by kernel_rfl) h7
    have e0' : [a0] = [Value.int .i64 m0] := e0
    have e1' : [a1] = [Value.int .i64 m1] := e1
    have e2' : [a2] = [Value.int .i64 m2] := e2
    have e3' : [a3] = [Value.bool m3] := e3
    have e4' : [a4] = [Value.bool m4] := e4
    have e5' : [a5] = [Value.bool m5] := e5
    have e6' : [a6] = [Value.bool m6] := e6
    have e7' : [a7] = [Value.bool m7] := e7
    simp only [List.cons.injEq, and_true] at e0' e1' e2' e3' e4' e5' e6' e7'
    subst e0' e1' e2' e3' e4' e5' e6' e7'
    exact ⟨⟨m0, m1, m2, m3, m4, m5, m6, m7⟩, rfl⟩
set_option maxRecDepth 50000 in
theorem dec_Ml : Dec Ml := fun H enc w base spare held n cs x h => by
  obtain ⟨xs, n', _, _, hlen, hxl, hf⟩ := DataW.trod_struct (P := Tryz.prog) (t := Elem.e Ml) Tryz.underlying95 h
  have h0 := hf 0 _ rfl
  have h1 := hf 1 _ rfl
  have h2 := hf 2 _ rfl
  have hl : cs.length = 5 := hlen
  have hx2 : xs.length = 3 := hxl
  match cs, hl, xs, hx2 with
  | [a0, a1, a2, a3, a4], _, [y0, y1, y2], _ =>
    obtain ⟨m0, e0, _⟩ := DataW.trod_int (k := .i64) (by kernel_rfl) h0
    obtain ⟨m1, e1, _⟩ := DataW.trod_int (k := .i64) (by kernel_rfl) h1
    have h2' : DataW.trod enc Tryz.prog w base spare held _ 93 [a2, a3, a4] = some y2 := h2
    obtain ⟨zs, n2, _, _, hlen2, hzl, hg⟩ := DataW.trod_struct (P := Tryz.prog) (t := 93) Tryz.underlying93 h2'
    have g0 := hg 0 _ rfl
    have g1 := hg 1 _ rfl
    have g2 := hg 2 _ rfl
    have hz2 : zs.length = 3 := hzl
    match zs, hz2 with
    | [z0, z1, z2], _ =>
      obtain ⟨m2, e2, _⟩ := DataW.trod_int (k := .i64) (by kernel_rfl) g0
      obtain ⟨m3, e3, _⟩ := DataW.trod_int (k := .i64) (by kernel_rfl) g1
      obtain ⟨m4, e4, _⟩ := DataW.trod_int (k := .i64) (by kernel_rfl) g2
      have e0' : [a0] = [Value.int .i64 m0] := e0
      have e1' : [a1] = [Value.int .i64 m1] := e1
      have e2' : [a2] = [Value.int .i64 m2] := e2
      have e3' : [a3] = [Value.int .i64 m3] := e3
      have e4' : [a4] = [Value.int .i64 m4] := e4
      simp only [List.cons.injEq, and_true] at e0' e1' e2' e3' e4'
      subst e0' e1' e2' e3' e4'
      exact ⟨⟨m0, m1, m2, m3, m4⟩, rfl⟩
end Go.Proofs.YtfbambemjokmgaaGreat
