/- What a row's frame hands over of one drinker. -/
import Derived.Test.YtpjpjchnfllcmaaRow13
import Derived.Test.YtpjpjchnfllcmaaElem3
namespace Go.Proofs.Ytpjpjchnfllcmaa
open Go.RowKit Go.ChangeShapes Go.WideShapes Go.Deep

theorem dec_Int : Dec Int := fun _ _ _ _ _ _ _ _ _ h => by
  obtain ⟨n, rfl, _⟩ := DataW.trod_int (k := .i64) (by kernel_rfl) h
  exact ⟨n, rfl⟩

set_option maxRecDepth 50000 in
theorem arg_drinker {H : Type} {enc : TypeId × Value → H} {w : World} {r : Reach} {b0 base : Nat} {spare : Nat → Bool} {held : Bool} {v : Value} {d : DataW H} {p : List MemPlace}
    (hv : Value.okWide Try.prog w r b0 29 v) (h : DataW.Trod enc Try.prog w base spare held 29 v d p) : ∃ id ph ao c, ∃ L : List Sd, ∃ th na nc, ∃ N : List Int, v = .agg #[.int .i64 id, .int .i64 ph, .slice ao L.length c, .int .i64 th, .slice na N.length nc] ∧ Sl w (.slice ao L.length c) L ∧ Sl w (.slice na N.length nc) N := by
  obtain ⟨cs, rfl, hsz⟩ := okWide_struct Try.underlying29 hv
  obtain ⟨fuel, hf⟩ := h
  have hcs : (Value.agg cs).cells.toList = cs.toList := by simp [Value.cells]
  rw [hcs] at hf
  obtain ⟨xs, n', _, _, hlen, hxl, hg⟩ := DataW.trod_struct (P := Try.prog) (t := 29) Try.underlying29 hf
  have h0 := hg 0 _ rfl
  have h1 := hg 1 _ rfl
  have h2 := hg 2 _ rfl
  have hl : cs.toList.length = 5 := hlen
  have hx2 : xs.length = 3 := hxl
  obtain ⟨l, hll⟩ : ∃ l, l = cs.toList := ⟨_, rfl⟩
  have hcs2 : cs = l.toArray := by rw [hll]
  rw [← hll] at h0 h1 h2 hl
  clear hll hf hg hcs hsz hv
  match l, hl, xs, hx2 with
  | [a0, a1, a2, a3, a4], _, [y0, y1, y2], _ =>
    have h0' : DataW.trod enc Try.prog w base spare held _ 25 [a0, a1, a2] = some y0 := h0
    obtain ⟨zs, n2, _, _, hlen2, hzl, hg⟩ := DataW.trod_struct (P := Try.prog) (t := 25) Try.underlying25 h0'
    have g0 := hg 0 _ rfl
    have g1 := hg 1 _ rfl
    have g2 := hg 2 _ rfl
    have hz2 : zs.length = 3 := hzl
    obtain ⟨m3, e3, _⟩ := DataW.trod_int (k := .i64) (by kernel_rfl) h1
    have e3' : [a3] = [Value.int .i64 m3] := e3
    have h2' : DataW.trod enc Try.prog w base spare held _ (Elem.t Int) [a4] = some y2 := h2
    obtain ⟨no, nc, N, rfl, hN⟩ := field_slice dec_Int (by kernel_rfl) h2'
    match zs, hz2 with
    | [z0, z1, z2], _ =>
      obtain ⟨m0, e0, _⟩ := DataW.trod_int (k := .i64) (by kernel_rfl) g0
      obtain ⟨m1, e1, _⟩ := DataW.trod_int (k := .i64) (by kernel_rfl) g1
      have e0' : [a0] = [Value.int .i64 m0] := e0
      have e1' : [a1] = [Value.int .i64 m1] := e1
      have g2' : DataW.trod enc Try.prog w base spare held _ (Elem.t Sd) [a2] = some z2 := g2
      obtain ⟨so, sc, L, rfl, hs⟩ := field_slice dec_Sd (by kernel_rfl) g2'
      simp only [List.cons.injEq, and_true] at e0' e1' e3'
      subst e0' e1' e3'
      exact ⟨m0, m1, so, sc, L, m3, no, nc, N, by rw [hcs2], hs, hN⟩

end Go.Proofs.Ytpjpjchnfllcmaa
