/- What a row's frame hands over of a book, and of acts that hold rows. -/
import Derived.Test.YtgcnjkabpcbkgaaRowN
import Derived.Test.YtgcnjkabpcbkgaaHF
import Derived.WalkKit
import Derived.ProofKit
import Derived.OpenShut
namespace Go.Proofs.Ytgcnjkabpcbkgaa
open Go.RowKit Go.ChangeShapes Go.WideShapes Go.Deep

theorem dec_Int : Dec Int := fun _ _ _ _ _ _ _ _ _ h => by
  obtain ⟨n, rfl, _⟩ := DataW.trod_int (k := .i64) (by kernel_rfl) h
  exact ⟨n, rfl⟩

set_option maxRecDepth 50000 in
theorem dec_HV : DecW HV := fun H enc w base spare held n cs x h => by
  obtain ⟨xs, n', _, _, hlen, hxl, hf⟩ := DataW.trod_struct (P := Try.prog) (t := Elem.e HV) Try.underlying41 h
  have h0 := hf 0 _ rfl
  have h1 := hf 1 _ rfl
  have h2 := hf 2 _ rfl
  have h3 := hf 3 _ rfl
  have hl : cs.length = 4 := hlen
  have hx2 : xs.length = 4 := hxl
  match cs, hl, xs, hx2 with
  | [a0, a1, a2, a3], _, [y0, y1, y2, y3], _ =>
    obtain ⟨m0, e0, _⟩ := DataW.trod_int (k := .i64) (by kernel_rfl) h0
    obtain ⟨m2, e2, _⟩ := DataW.trod_int (k := .i64) (by kernel_rfl) h2
    obtain ⟨m3, e3, _⟩ := DataW.trod_int (k := .i64) (by kernel_rfl) h3
    have e0' : [a0] = [Value.int .i64 m0] := e0
    have e2' : [a2] = [Value.int .i64 m2] := e2
    have e3' : [a3] = [Value.int .i64 m3] := e3
    have h1' : DataW.trod enc Try.prog w base spare held _ (Elem.t Int) [a1] = some y1 := h1
    obtain ⟨no, nc, N, rfl, hN⟩ := field_slice dec_Int (by kernel_rfl) h1'
    simp only [List.cons.injEq, and_true] at e0' e2' e3'
    subst e0' e2' e3'
    exact ⟨⟨m0, no, N.length, nc, m2, m3⟩, ⟨m0, N, m2, m3⟩, rfl, (⟨rfl, sa_non hN, rfl, rfl⟩ : RdH _ _ _ _)⟩

theorem some_HV : ∃ (a : HV) (d : Se), ∀ w, Nest.rd Non w a d := ⟨⟨0, none, 0, 0, 0, 0⟩, ⟨0, [], 0, 0⟩, fun w => (⟨rfl, Sa.nil _ w, rfl, rfl⟩ : RdH _ _ _ _)⟩

set_option maxRecDepth 50000 in
theorem dec_AV : DecW AV := fun H enc w base spare held n cs x h => by
  obtain ⟨xs, n', _, _, hlen, hxl, hf⟩ := DataW.trod_struct (P := Try.prog) (t := Elem.e AV) Try.underlying27 h
  have h0 := hf 0 _ rfl
  have h1 := hf 1 _ rfl
  have h2 := hf 2 _ rfl
  have h3 := hf 3 _ rfl
  have hl : cs.length = 4 := hlen
  have hx2 : xs.length = 4 := hxl
  match cs, hl, xs, hx2 with
  | [a0, a1, a2, a3], _, [y0, y1, y2, y3], _ =>
    obtain ⟨m0, e0, _⟩ := DataW.trod_int (k := .i64) (by kernel_rfl) h0
    obtain ⟨m1, e1, _⟩ := DataW.trod_int (k := .i64) (by kernel_rfl) h1
    obtain ⟨m2, e2, _⟩ := DataW.trod_int (k := .i64) (by kernel_rfl) h2
    have e0' : [a0] = [Value.int .i64 m0] := e0
    have e1' : [a1] = [Value.int .i64 m1] := e1
    have e2' : [a2] = [Value.int .i64 m2] := e2
    have h3' : DataW.trod enc Try.prog w base spare held _ (Elem.t Int) [a3] = some y3 := h3
    obtain ⟨no, nc, N, rfl, hN⟩ := field_slice dec_Int (by kernel_rfl) h3'
    simp only [List.cons.injEq, and_true] at e0' e1' e2'
    subst e0' e1' e2'
    exact ⟨⟨m0, m1, m2, no, N.length, nc⟩, (m0, m1, m2, N), rfl, (⟨rfl, rfl, rfl, sa_non hN⟩ : RdA _ _ _ _)⟩

theorem some_AV : ∃ (a : AV) (d : Akt), ∀ w, Nest.rd Non w a d := ⟨⟨0, 0, 0, none, 0, 0⟩, (0, 0, 0, []), fun w => (⟨rfl, rfl, rfl, Sa.nil _ w⟩ : RdA _ _ _ _)⟩
set_option maxRecDepth 50000 in
theorem arg_acts {H : Type} {enc : TypeId × Value → H} {w : World} {r : Reach} {b0 base : Nat} {spare : Nat → Bool} {held : Bool} {v : Value} {d : DataW H} {p : List MemPlace}
    (hv : Value.okWide Try.prog w r b0 31 v) (h : DataW.Trod enc Try.prog w base spare held 31 v d p) : ∃ ao c, ∃ L : List Akt, v = .slice ao L.length c ∧ Ns AV Non w (.slice ao L.length c) L :=
  arg_sliceW (α := AV) some_AV dec_AV (by kernel_rfl) hv h

set_option maxRecDepth 50000 in
theorem arg_act4 {H : Type} {enc : TypeId × Value → H} {w : World} {r : Reach} {b0 base : Nat} {spare : Nat → Bool} {held : Bool} {v : Value} {d : DataW H} {p : List MemPlace}
    (hv : Value.okWide Try.prog w r b0 27 v) (h : DataW.Trod enc Try.prog w base spare held 27 v d p) : ∃ k e n ao c, ∃ L : List Int, v = .agg #[.int .i64 k, .int .i64 e, .int .i64 n, .slice ao L.length c] ∧ Sl w (.slice ao L.length c) L := by
  obtain ⟨cs, rfl, hsz⟩ := okWide_struct Try.underlying27 hv
  obtain ⟨fuel, hf⟩ := h
  have hcs : (Value.agg cs).cells.toList = cs.toList := by simp [Value.cells]
  rw [hcs] at hf
  obtain ⟨a, dd, hc, hr⟩ := dec_AV H enc w base spare held _ _ _ hf
  obtain ⟨a0, a1, a2, so, sn, sc⟩ := a
  obtain ⟨e1, e2, e3, e4⟩ : RdA Non w _ dd := hr
  obtain ⟨ao, c, hv2⟩ := e4.sl.len
  refine ⟨a0, a1, a2, ao, c, dd.2.2.2, ?_, hv2 ▸ e4.sl⟩
  have hc2 : cs.toList = [.int .i64 a0, .int .i64 a1, .int .i64 a2, .slice so sn sc] := hc
  have : cs = #[.int .i64 a0, .int .i64 a1, .int .i64 a2, .slice so sn sc] := by rw [← Array.toList_inj]; exact hc2
  rw [this, ← hv2]

set_option maxRecDepth 50000 in
theorem arg_book {H : Type} {enc : TypeId × Value → H} {w : World} {r : Reach} {b0 base : Nat} {spare : Nat → Bool} {held : Bool} {v : Value} {d : DataW H} {p : List MemPlace}
    (hv : Value.okWide Try.prog w r b0 24 v) (h : DataW.Trod enc Try.prog w base spare held 24 v d p) : ∃ n ao c, ∃ L : List Se, v = .agg #[.int .i64 n, .slice ao L.length c] ∧ Ns HV Non w (.slice ao L.length c) L := by
  obtain ⟨cs, rfl, hsz⟩ := okWide_struct Try.underlying24 hv
  obtain ⟨fuel, hf⟩ := h
  have hcs : (Value.agg cs).cells.toList = cs.toList := by simp [Value.cells]
  rw [hcs] at hf
  obtain ⟨xs, n', _, _, hlen, hxl, hg⟩ := DataW.trod_struct (P := Try.prog) (t := 24) Try.underlying24 hf
  have h0 := hg 0 _ rfl
  have h1 := hg 1 _ rfl
  have hx2 : xs.length = 2 := hxl
  have hl : cs.toList.length = 2 := hlen
  obtain ⟨l, rfl⟩ : ∃ l, cs = l.toArray := ⟨cs.toList, by simp⟩
  match l, hl, xs, hx2 with
  | [a0, a1], _, [y0, y1], _ =>
    obtain ⟨m0, e0, _⟩ := DataW.trod_int (k := .i64) (by kernel_rfl) h0
    have e0' : [a0] = [Value.int .i64 m0] := e0
    have h1' : DataW.trod enc Try.prog w base spare held _ (Elem.t HV) [a1] = some y1 := h1
    obtain ⟨ao, c, L, rfl, hs⟩ := field_sliceW (α := HV) some_HV dec_HV (by kernel_rfl) h1'
    simp only [List.cons.injEq, and_true] at e0'
    subst e0'
    exact ⟨m0, ao, c, L, rfl, hs⟩
theorem wf_u8 {a : Int} (h : (Lit.int .u8 a).wf = true) : ∃ A : Nat, a = (A : Int) ∧ A < 256 := by
  have : 0 ≤ a ∧ a ≤ 255 := by simpa [Lit.wf, IntKind.min, IntKind.max, IntKind.signed, IntKind.bits] using h
  exact ⟨a.toNat, by omega, by omega⟩
end Go.Proofs.Ytgcnjkabpcbkgaa
