/- What a row's frame hands over of one diner, and of a message. -/
import Derived.Test.YtpjpjchnfllcmaaMRW
import Derived.Test.YtpjpjchnfllcmaaMN
namespace Go.Proofs.Ytpjpjchnfllcmaa
open Go.RowKit Go.ChangeShapes Go.WideShapes Go.Deep

set_option maxRecDepth 20000 in
theorem dec_Sd : Dec Sd := fun H enc w base spare held n cs x h => by
  obtain ⟨xs, n', _, _, hlen, hxl, hf⟩ := DataW.trod_struct (P := Try.prog) (t := Elem.e Sd) Try.underlying53 h
  have h0 := hf 0 _ rfl
  have h1 := hf 1 _ rfl
  have h2 := hf 2 _ rfl
  have h3 := hf 3 _ rfl
  have h4 := hf 4 _ rfl
  have h5 := hf 5 _ rfl
  have h6 := hf 6 _ rfl
  have h7 := hf 7 _ rfl
  have hl : cs.length = 8 := hlen
  have hx2 : xs.length = 8 := hxl
  match cs, hl, xs, hx2 with
  | [a0, a1, a2, a3, a4, a5, a6, a7], _, [y0, y1, y2, y3, y4, y5, y6, y7], _ =>
    obtain ⟨m0, e0, _⟩ := DataW.trod_int (k := .i64) (by kernel_rfl) h0
    obtain ⟨m1, e1, _⟩ := DataW.trod_int (k := .i64) (by kernel_rfl) h1
    obtain ⟨m2, e2, _⟩ := DataW.trod_int (k := .i64) (by kernel_rfl) h2
    obtain ⟨m3, e3, _⟩ := DataW.trod_bool (by kernel_rfl) h3
    obtain ⟨m4, e4, _⟩ := DataW.trod_bool (by kernel_rfl) h4
    obtain ⟨m5, e5, _⟩ := DataW.trod_bool (by kernel_rfl) h5
    obtain ⟨m6, e6, _⟩ := DataW.trod_bool (by kernel_rfl) h6
    obtain ⟨m7, e7, _⟩ := DataW.trod_bool (by kernel_rfl) h7
    have e0' : [a0] = [Value.int .i64 m0] := e0
    have e1' : [a1] = [Value.int .i64 m1] := e1
    have e2' : [a2] = [Value.int .i64 m2] := e2
    have e3' : [a3] = [Value.bool m3] := e3
    have e4' : [a4] = [Value.bool m4] := e4
    have e5' : [a5] = [Value.bool m5] := e5
    have e6' : [a6] = [Value.bool m6] := e6
    have e7' : [a7] = [Value.bool m7] := e7
    simp only [List.cons.injEq, and_true] at e0' e1' e2' e3' e4' e5' e6' e7'
    subst e0' e1' e2' e3' e4' e5' e6' e7'
    exact ⟨⟨m0, m1, m2, m3, m4, m5, m6, m7⟩, rfl⟩

set_option maxRecDepth 50000 in
theorem arg_diner {H : Type} {enc : TypeId × Value → H} {w : World} {r : Reach} {b0 base : Nat} {spare : Nat → Bool} {held : Bool} {v : Value} {d : DataW H} {p : List MemPlace}
    (hv : Value.okWide Try.prog w r b0 25 v) (h : DataW.Trod enc Try.prog w base spare held 25 v d p) : ∃ id ph ao c, ∃ L : List Sd, v = .agg #[.int .i64 id, .int .i64 ph, .slice ao L.length c] ∧ Sl w (.slice ao L.length c) L := by
  obtain ⟨cs, rfl, hsz⟩ := okWide_struct Try.underlying25 hv
  obtain ⟨fuel, hf⟩ := h
  have hcs : (Value.agg cs).cells.toList = cs.toList := by simp [Value.cells]
  rw [hcs] at hf
  obtain ⟨xs, n', _, _, hlen, hxl, hg⟩ := DataW.trod_struct (P := Try.prog) (t := 25) Try.underlying25 hf
  have h0 := hg 0 _ rfl
  have h1 := hg 1 _ rfl
  have h2 := hg 2 _ rfl
  have hl : cs.toList.length = 3 := hlen
  have hx2 : xs.length = 3 := hxl
  obtain ⟨l, hll⟩ : ∃ l, l = cs.toList := ⟨_, rfl⟩
  have hcs2 : cs = l.toArray := by rw [hll]
  rw [← hll] at h0 h1 h2 hl
  clear hll hf hg hcs hsz hv
  match l, hl, xs, hx2 with
  | [a0, a1, a2], _, [y0, y1, y2], _ =>
    obtain ⟨m0, e0, _⟩ := DataW.trod_int (k := .i64) (by kernel_rfl) h0
    obtain ⟨m1, e1, _⟩ := DataW.trod_int (k := .i64) (by kernel_rfl) h1
    have e0' : [a0] = [Value.int .i64 m0] := e0
    have e1' : [a1] = [Value.int .i64 m1] := e1
    have h2' : DataW.trod enc Try.prog w base spare held _ (Elem.t Sd) [a2] = some y2 := h2
    obtain ⟨so, sc, L, rfl, hs⟩ := field_slice dec_Sd (by kernel_rfl) h2'
    simp only [List.cons.injEq, and_true] at e0' e1'
    subst e0' e1'
    exact ⟨m0, m1, so, sc, L, by rw [hcs2], hs⟩

set_option maxRecDepth 50000 in
theorem arg_msg {H : Type} {enc : TypeId × Value → H} {w : World} {r : Reach} {b0 base : Nat} {spare : Nat → Bool} {held : Bool} {v : Value} {d : DataW H} {p : List MemPlace}
    (hv : Value.okWide Try.prog w r b0 44 v) (h : DataW.Trod enc Try.prog w base spare held 44 v d p) : ∃ k e n, v = .agg #[.int .i64 k, .int .i64 e, .int .i64 n] := by
  obtain ⟨cs, rfl, hsz⟩ := okWide_struct Try.underlying44 hv
  obtain ⟨fuel, hf⟩ := h
  have hcs : (Value.agg cs).cells.toList = cs.toList := by simp [Value.cells]
  rw [hcs] at hf
  obtain ⟨xs, n', _, _, hlen, hxl, hg⟩ := DataW.trod_struct (P := Try.prog) (t := 44) Try.underlying44 hf
  have h0 := hg 0 _ rfl
  have h1 := hg 1 _ rfl
  have h2 := hg 2 _ rfl
  have hl : cs.toList.length = 3 := hlen
  have hx2 : xs.length = 3 := hxl
  obtain ⟨l, hll⟩ : ∃ l, l = cs.toList := ⟨_, rfl⟩
  have hcs2 : cs = l.toArray := by rw [hll]
  rw [← hll] at h0 h1 h2 hl
  clear hll hf hg hcs hsz hv
  match l, hl, xs, hx2 with
  | [a0, a1, a2], _, [y0, y1, y2], _ =>
    obtain ⟨m0, e0, _⟩ := DataW.trod_int (k := .i64) (by kernel_rfl) h0
    obtain ⟨m1, e1, _⟩ := DataW.trod_int (k := .i64) (by kernel_rfl) h1
    obtain ⟨m2, e2, _⟩ := DataW.trod_int (k := .i64) (by kernel_rfl) h2
    have e0' : [a0] = [Value.int .i64 m0] := e0
    have e1' : [a1] = [Value.int .i64 m1] := e1
    have e2' : [a2] = [Value.int .i64 m2] := e2
    simp only [List.cons.injEq, and_true] at e0' e1' e2'
    subst e0' e1' e2'
    exact ⟨m0, m1, m2, by rw [hcs2]⟩

end Go.Proofs.Ytpjpjchnfllcmaa
