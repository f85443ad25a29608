/- What a row's frame hands over of a graph. -/
import Derived.Test.YtdfleocknaackaaGreatMRW
import Derived.Test.YtdfleocknaackaaGreatElem3
import Derived.WalkKit
import Derived.ProofKit
import Derived.OpenShut
import Derived.Test.YtdfleocknaackaaGreatMN
namespace Go.Proofs.YtdfleocknaackaaGreat
open Go.RowKit Go.ChangeShapes Go.WideShapes Go.Deep

set_option maxRecDepth 50000 in
set_option maxRecDepth 100000 in
theorem dec_Edge : Dec Edge := fun H enc w base spare held n cs x h => by
  obtain ⟨xs, n', _, _, hlen, hxl, hf⟩ := DataW.trod_struct (P := Tryz.prog) (t := Elem.e Edge) Tryz.underlying36 h
  have h0 := hf 0 _ rfl
  have h1 := hf 1 _ rfl
  have hl : cs.length = 2 := hlen
  have hx2 : xs.length = 2 := hxl
  match cs, hl, xs, hx2 with
  | [a, b], _, [y0, y1], _ =>
    obtain ⟨k, hk, _⟩ := DataW.trod_int (k := .i64) (by kernel_rfl) h0
    obtain ⟨m, hm, _⟩ := DataW.trod_int (k := .i64) (by kernel_rfl) h1
    have hk' : [a] = [Value.int .i64 k] := hk
    have hm' : [b] = [Value.int .i64 m] := hm
    simp only [List.cons.injEq, and_true] at hk' hm'
    subst hk' hm'
    exact ⟨⟨k, m⟩, rfl⟩

set_option maxRecDepth 50000 in
set_option maxRecDepth 100000 in
theorem arg_graph {H : Type} {enc : TypeId × Value → H} {w : World} {r : Reach} {b0 base : Nat} {spare : Nat → Bool} {held : Bool} {v : Value} {d : DataW H} {p : List MemPlace}
    (hv : Value.okWide Tryz.prog w r b0 24 v) (h : DataW.Trod enc Tryz.prog w base spare held 24 v d p) : ∃ N ao c, ∃ E : List Edge, v = .agg #[.int .i64 N, .slice ao E.length c] ∧ Sl w (.slice ao E.length c) E := by
  obtain ⟨cs, rfl, hsz⟩ := okWide_struct Tryz.underlying24 hv
  obtain ⟨fuel, hf⟩ := h
  have hcs : (Value.agg cs).cells.toList = cs.toList := by simp [Value.cells]
  rw [hcs] at hf
  obtain ⟨y0, y1, n, _, hl, h0, h1⟩ := trod_struct2 (P := Tryz.prog) Tryz.underlying24 hf
  have hl2 : cs.toList.length = 2 := hl
  obtain ⟨l⟩ := cs
  match l, hl2 with
  | [a, b], _ =>
    obtain ⟨N, hN, _⟩ := DataW.trod_int (k := .i64) (by kernel_rfl) h0
    have hN' : [a] = [Value.int .i64 N] := hN
    simp only [List.cons.injEq, and_true] at hN'
    subst hN'
    have h1' : DataW.trod enc Tryz.prog w base spare held n (Elem.t Edge) [b] = some y1 := h1
    obtain ⟨ao, c, E, rfl, hE⟩ := field_slice dec_Edge (by kernel_rfl) h1'
    exact ⟨N, ao, c, E, rfl, hE⟩

end Go.Proofs.YtdfleocknaackaaGreat

/- What a row's frame hands over of diners and scenes. -/
namespace Go.Proofs.YtdfleocknaackaaGreat
open Go.RowKit Go.ChangeShapes Go.WideShapes Go.Deep

set_option maxRecDepth 20000 in
theorem dec_Sd : Dec Sd := fun H enc w base spare held n cs x h => by
  obtain ⟨xs, n', _, _, hlen, hxl, hf⟩ := DataW.trod_struct (P := Tryz.prog) (t := Elem.e Sd) Tryz.underlying52 h
  have h0 := hf 0 _ rfl
  have h1 := hf 1 _ rfl
  have h2 := hf 2 _ rfl
  have h3 := hf 3 _ rfl
  have h4 := hf 4 _ rfl
  have h5 := hf 5 _ rfl
  have h6 := hf 6 _ rfl
  have h7 := hf 7 _ rfl
  have hl : cs.length = 8 := hlen
  have hx2 : xs.length = 8 := hxl
  match cs, hl, xs, hx2 with
  | [a0, a1, a2, a3, a4, a5, a6, a7], _, [y0, y1, y2, y3, y4, y5, y6, y7], _ =>
    obtain ⟨m0, e0, _⟩ := DataW.trod_int (k := .i64) (by kernel_rfl) h0
    obtain ⟨m1, e1, _⟩ := DataW.trod_int (k := .i64) (by kernel_rfl) h1
    obtain ⟨m2, e2, _⟩ := DataW.trod_int (k := .i64) (by kernel_rfl) h2
    obtain ⟨m3, e3, _⟩ := DataW.trod_bool (by kernel_rfl) h3
    obtain ⟨m4, e4, _⟩ := DataW.trod_bool (by kernel_rfl) h4
    obtain ⟨m5, e5, _⟩ := DataW.trod_bool (by kernel_rfl) h5
    obtain ⟨m6, e6, _⟩ := DataW.trod_bool (by kernel_rfl) h6
    obtain ⟨m7, e7, _⟩ := DataW.trod_bool (by kernel_rfl) h7
    have e0' : [a0] = [Value.int .i64 m0] := e0
    have e1' : [a1] = [Value.int .i64 m1] := e1
    have e2' : [a2] = [Value.int .i64 m2] := e2
    have e3' : [a3] = [Value.bool m3] := e3
    have e4' : [a4] = [Value.bool m4] := e4
    have e5' : [a5] = [Value.bool m5] := e5
    have e6' : [a6] = [Value.bool m6] := e6
    have e7' : [a7] = [Value.bool m7] := e7
    simp only [List.cons.injEq, and_true] at e0' e1' e2' e3' e4' e5' e6' e7'
    subst e0' e1' e2' e3' e4' e5' e6' e7'
    exact ⟨⟨m0, m1, m2, m3, m4, m5, m6, m7⟩, rfl⟩

set_option maxRecDepth 20000 in
theorem dec_DV : DecW DV := fun H enc w base spare held n cs x h => by
  obtain ⟨xs, n', _, _, hlen, hxl, hf⟩ := DataW.trod_struct (P := Tryz.prog) (t := Elem.e DV) Tryz.underlying49 h
  have h0 := hf 0 _ rfl
  have h1 := hf 1 _ rfl
  have h2 := hf 2 _ rfl
  have hl : cs.length = 3 := hlen
  have hx2 : xs.length = 3 := hxl
  match cs, hl, xs, hx2 with
  | [a0, a1, a2], _, [y0, y1, y2], _ =>
    obtain ⟨m0, e0, _⟩ := DataW.trod_int (k := .i64) (by kernel_rfl) h0
    obtain ⟨m1, e1, _⟩ := DataW.trod_int (k := .i64) (by kernel_rfl) h1
    have e0' : [a0] = [Value.int .i64 m0] := e0
    have e1' : [a1] = [Value.int .i64 m1] := e1
    have h2' : DataW.trod enc Tryz.prog w base spare held _ (Elem.t Sd) [a2] = some y2 := h2
    obtain ⟨so, sc, L, rfl, hs⟩ := field_slice dec_Sd (by kernel_rfl) h2'
    simp only [List.cons.injEq, and_true] at e0' e1'
    subst e0' e1'
    exact ⟨⟨m0, m1, so, L.length, sc⟩, ⟨m0, m1, L⟩, rfl, (⟨rfl, rfl, sa_non hs⟩ : RdD _ _ _ _)⟩

theorem some_DV : ∃ (a : DV) (d : Dn), ∀ w, Nest.rd Non w a d := ⟨⟨0, 0, none, 0, 0⟩, ⟨0, 0, []⟩, fun w => (⟨rfl, rfl, Sa.nil _ w⟩ : RdD _ _ _ _)⟩
set_option maxRecDepth 50000 in
theorem arg_diners {H : Type} {enc : TypeId × Value → H} {w : World} {r : Reach} {b0 base : Nat} {spare : Nat → Bool} {held : Bool} {v : Value} {d : DataW H} {p : List MemPlace}
    (hv : Value.okWide Tryz.prog w r b0 28 v) (h : DataW.Trod enc Tryz.prog w base spare held 28 v d p) : ∃ ao c, ∃ L : List Dn, v = .slice ao L.length c ∧ Ns DV Non w (.slice ao L.length c) L :=
  arg_sliceW (α := DV) some_DV dec_DV (by kernel_rfl) hv h

set_option maxRecDepth 50000 in
theorem dec_Ml : Dec Ml := fun H enc w base spare held n cs x h => by
  obtain ⟨xs, n', _, _, hlen, hxl, hf⟩ := DataW.trod_struct (P := Tryz.prog) (t := Elem.e Ml) Tryz.underlying82 h
  have h0 := hf 0 _ rfl
  have h1 := hf 1 _ rfl
  have h2 := hf 2 _ rfl
  have hl : cs.length = 5 := hlen
  have hx2 : xs.length = 3 := hxl
  match cs, hl, xs, hx2 with
  | [a0, a1, a2, a3, a4], _, [y0, y1, y2], _ =>
    obtain ⟨m0, e0, _⟩ := DataW.trod_int (k := .i64) (by kernel_rfl) h0
    obtain ⟨m1, e1, _⟩ := DataW.trod_int (k := .i64) (by kernel_rfl) h1
    have h2' : DataW.trod enc Tryz.prog w base spare held _ 80 [a2, a3, a4] = some y2 := h2
    obtain ⟨zs, n2, _, _, hlen2, hzl, hg⟩ := DataW.trod_struct (P := Tryz.prog) (t := 80) Tryz.underlying80 h2'
    have g0 := hg 0 _ rfl
    have g1 := hg 1 _ rfl
    have g2 := hg 2 _ rfl
    have hz2 : zs.length = 3 := hzl
    match zs, hz2 with
    | [z0, z1, z2], _ =>
      obtain ⟨m2, e2, _⟩ := DataW.trod_int (k := .i64) (by kernel_rfl) g0
      obtain ⟨m3, e3, _⟩ := DataW.trod_int (k := .i64) (by kernel_rfl) g1
      obtain ⟨m4, e4, _⟩ := DataW.trod_int (k := .i64) (by kernel_rfl) g2
      have e0' : [a0] = [Value.int .i64 m0] := e0
      have e1' : [a1] = [Value.int .i64 m1] := e1
      have e2' : [a2] = [Value.int .i64 m2] := e2
      have e3' : [a3] = [Value.int .i64 m3] := e3
      have e4' : [a4] = [Value.int .i64 m4] := e4
      simp only [List.cons.injEq, and_true] at e0' e1' e2' e3' e4'
      subst e0' e1' e2' e3' e4'
      exact ⟨⟨m0, m1, m2, m3, m4⟩, rfl⟩

set_option maxRecDepth 50000 in
theorem arg_diner {H : Type} {enc : TypeId × Value → H} {w : World} {r : Reach} {b0 base : Nat} {spare : Nat → Bool} {held : Bool} {v : Value} {d : DataW H} {p : List MemPlace}
    (hv : Value.okWide Tryz.prog w r b0 49 v) (h : DataW.Trod enc Tryz.prog w base spare held 49 v d p) : ∃ id ph ao c, ∃ L : List Sd, v = .agg #[.int .i64 id, .int .i64 ph, .slice ao L.length c] ∧ Sl w (.slice ao L.length c) L := by
  obtain ⟨cs, rfl, hsz⟩ := okWide_struct Tryz.underlying49 hv
  obtain ⟨fuel, hf⟩ := h
  have hcs : (Value.agg cs).cells.toList = cs.toList := by simp [Value.cells]
  rw [hcs] at hf
  obtain ⟨a, dd, hc, hr⟩ := dec_DV H enc w base spare held _ _ _ hf
  obtain ⟨a0, a1, so, sn, sc⟩ := a
  obtain ⟨e1, e2, e3⟩ : RdD Non w _ dd := hr
  obtain ⟨ao, c, hv2⟩ := e3.sl.len
  refine ⟨a0, a1, ao, c, dd.sides, ?_, hv2 ▸ e3.sl⟩
  have hc2 : cs.toList = [.int .i64 a0, .int .i64 a1, .slice so sn sc] := hc
  have : cs = #[.int .i64 a0, .int .i64 a1, .slice so sn sc] := by rw [← Array.toList_inj]; exact hc2
  rw [this, ← hv2]

set_option maxRecDepth 50000 in
theorem arg_scene {H : Type} {enc : TypeId × Value → H} {w : World} {r : Reach} {b0 base : Nat} {spare : Nat → Bool} {held : Bool} {v : Value} {d : DataW H} {p : List MemPlace}
    (hv : Value.okWide Tryz.prog w r b0 31 v) (h : DataW.Trod enc Tryz.prog w base spare held 31 v d p) : ∃ ao c, ∃ L : List Dn, ∃ mo mc, ∃ m : List Ml, v = .agg #[.slice ao L.length c, .slice mo m.length mc] ∧ Ns DV Non w (.slice ao L.length c) L ∧ Sl w (.slice mo m.length mc) m := by
  obtain ⟨cs, rfl, hsz⟩ := okWide_struct Tryz.underlying31 hv
  obtain ⟨fuel, hf⟩ := h
  have hcs : (Value.agg cs).cells.toList = cs.toList := by simp [Value.cells]
  rw [hcs] at hf
  obtain ⟨xs, n', _, _, hlen, hxl, hg⟩ := DataW.trod_struct (P := Tryz.prog) (t := 31) Tryz.underlying31 hf
  have h0 := hg 0 _ rfl
  have h1 := hg 1 _ rfl
  have hx2 : xs.length = 2 := hxl
  have hl : cs.toList.length = 2 := hlen
  obtain ⟨l, rfl⟩ : ∃ l, cs = l.toArray := ⟨cs.toList, by simp⟩
  match l, hl, xs, hx2 with
  | [a0, a1], _, [y0, y1], _ =>
    have h0' : DataW.trod enc Tryz.prog w base spare held _ (Elem.t DV) [a0] = some y0 := h0
    have h1' : DataW.trod enc Tryz.prog w base spare held _ (Elem.t Ml) [a1] = some y1 := h1
    obtain ⟨ao, c, L, rfl, hs⟩ := field_sliceW (α := DV) some_DV dec_DV (by kernel_rfl) h0'
    obtain ⟨mo, mc, m, rfl, ht⟩ := field_slice dec_Ml (by kernel_rfl) h1'
    exact ⟨ao, c, L, mo, mc, m, rfl, hs, ht⟩
end Go.Proofs.YtdfleocknaackaaGreat
