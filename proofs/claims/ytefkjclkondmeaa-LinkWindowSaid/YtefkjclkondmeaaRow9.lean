/- What a row's frame hands over of acts (their numbers in their range) and of a frame. -/
import Derived.Test.YtefkjclkondmeaaRowG
import Derived.Test.YtefkjclkondmeaaK9
import Derived.WalkKit
import Derived.ProofKit
import Derived.OpenShut
namespace Go.Proofs.Ytefkjclkondmeaa
open Go.RowKit Go.ChangeShapes Go.WideShapes Go.Deep

/-- Each element's cells are some element's that keeps P. -/
def DecP (α : Type) [Elem α] (P : α → Prop) : Prop := ∀ (H : Type) (enc : TypeId × Value → H) (w : World) (base : Nat) (spare : Nat → Bool) (held : Bool) (n : Nat) (cs : List Value) (x : DataW H × List MemPlace),
  DataW.trod enc Try.prog w base spare held n (Elem.e α) cs = some x → ∃ a : α, cs = Elem.enc a ∧ P a

theorem dec_ByteArray : Dec ByteArray := fun _ _ _ _ _ _ _ _ _ h => by
  obtain ⟨s, rfl, _⟩ := DataW.trod_string (by kernel_rfl) h
  exact ⟨s, rfl⟩

/-- a frame's numbers are such -/
def InW (f : Fr) : Prop := (-9223372036854775808 ≤ f.k ∧ f.k ≤ 9223372036854775807) ∧ (-9223372036854775808 ≤ f.e ∧ f.e ≤ 9223372036854775807) ∧ f.q < 18446744073709551616 ∧ f.a < 18446744073709551616

theorem wf_i64 {a : Int} (h : (Lit.int .i64 a).wf = true) : -9223372036854775808 ≤ a ∧ a ≤ 9223372036854775807 := by
  simpa [Lit.wf, IntKind.min, IntKind.max, IntKind.signed, IntKind.bits] using h
theorem wf_u64 {a : Int} (h : (Lit.int .u64 a).wf = true) : ∃ A : Nat, a = (A : Int) ∧ A < 18446744073709551616 := by
  have : 0 ≤ a ∧ a ≤ 18446744073709551615 := by simpa [Lit.wf, IntKind.min, IntKind.max, IntKind.signed, IntKind.bits] using h
  exact ⟨a.toNat, by omega, by omega⟩
theorem wf_u8 {a : Int} (h : (Lit.int .u8 a).wf = true) : ∃ A : Nat, a = (A : Int) ∧ A < 256 := by
  have : 0 ≤ a ∧ a ≤ 255 := by simpa [Lit.wf, IntKind.min, IntKind.max, IntKind.signed, IntKind.bits] using h
  exact ⟨a.toNat, by omega, by omega⟩

set_option maxRecDepth 20000 in
theorem arg_frame {H : Type} {enc : TypeId × Value → H} {w : World} {r : Reach} {b0 base : Nat} {spare : Nat → Bool} {held : Bool} {v : Value} {d : DataW H} {p : List MemPlace}
    (hv : Value.okWide Try.prog w r b0 34 v) (h : DataW.Trod enc Try.prog w base spare held 34 v d p) :
    ∃ f : Fr, v = .agg #[.int .i64 f.k, .int .i64 f.e, .int .u64 (f.q : Int), .int .u64 (f.a : Int), .string f.b] ∧ InW f := by
  obtain ⟨cs, rfl, hsz⟩ := okWide_struct Try.underlying34 hv
  obtain ⟨fuel, hf⟩ := h
  have hcs : (Value.agg cs).cells.toList = cs.toList := by simp [Value.cells]
  rw [hcs] at hf
  obtain ⟨xs, n', _, _, hlen, hxl, hg⟩ := DataW.trod_struct (P := Try.prog) (t := 34) Try.underlying34 hf
  have h0 := hg 0 _ rfl
  have h1 := hg 1 _ rfl
  have h2 := hg 2 _ rfl
  have h3 := hg 3 _ rfl
  have h4 := hg 4 _ rfl
  have hl : cs.toList.length = 5 := hlen
  have hx2 : xs.length = 5 := hxl
  obtain ⟨l⟩ := cs
  match l, hl, xs, hx2 with
  | [a, b, c, d, e], _, [y0, y1, y2, y3, y4], _ =>
    obtain ⟨k0, e0, _, w0⟩ := DataW.trod_int (k := .i64) (by kernel_rfl) h0
    obtain ⟨k1, e1, _, w1⟩ := DataW.trod_int (k := .i64) (by kernel_rfl) h1
    obtain ⟨k2, e2, _, w2⟩ := DataW.trod_int (k := .u64) (by kernel_rfl) h2
    obtain ⟨k3, e3, _, w3⟩ := DataW.trod_int (k := .u64) (by kernel_rfl) h3
    obtain ⟨k4, e4, _, _⟩ := DataW.trod_string (by kernel_rfl) h4
    have e0' : [a] = [Value.int .i64 k0] := e0
    have e1' : [b] = [Value.int .i64 k1] := e1
    have e2' : [c] = [Value.int .u64 k2] := e2
    have e3' : [d] = [Value.int .u64 k3] := e3
    have e4' : [e] = [Value.string k4] := e4
    simp only [List.cons.injEq, and_true] at e0' e1' e2' e3' e4'
    subst e0' e1' e2' e3' e4'
    obtain ⟨q, rfl, hq⟩ := wf_u64 w2
    obtain ⟨a, rfl, ha⟩ := wf_u64 w3
    exact ⟨⟨k0, k1, q, a, k4⟩, rfl, wf_i64 w0, wf_i64 w1, hq, ha⟩

/-- an act's frame's numbers are such -/
def In9 (y : Act9) : Prop := y.f.q < 18446744073709551616 ∧ y.f.a < 18446744073709551616
set_option maxRecDepth 20000 in
theorem dec_Act9 : DecP Act9 In9 := fun H enc w base spare held n cs x h => by
  obtain ⟨xs, n', _, _, hlen, hxl, hf⟩ := DataW.trod_struct (P := Try.prog) (t := Elem.e Act9) Try.underlying36 h
  have h0 := hf 0 _ rfl
  have h1 := hf 1 _ rfl
  have h2 := hf 2 _ rfl
  have h3 := hf 3 _ rfl
  have h4 := hf 4 _ rfl
  have hl : cs.length = 9 := hlen
  have hx2 : xs.length = 5 := hxl
  match cs, hl, xs, hx2 with
  | [a0, a1, a2, a3, a4, a5, a6, a7, a8], _, [y0, y1, y2, y3, y4], _ =>
    obtain ⟨m0, e0, _⟩ := DataW.trod_int (k := .i64) (by kernel_rfl) h0
    obtain ⟨m1, e1, _⟩ := DataW.trod_int (k := .i64) (by kernel_rfl) h1
    obtain ⟨m2, e2, _⟩ := DataW.trod_bool (by kernel_rfl) h2
    obtain ⟨m3, e3, _⟩ := DataW.trod_string (by kernel_rfl) h3
    obtain ⟨zs, n2, _, _, hlen2, hxl2, hg⟩ := DataW.trod_struct (P := Try.prog) (t := 34) Try.underlying34 h4
    have g0 := hg 0 _ rfl
    have g1 := hg 1 _ rfl
    have g2 := hg 2 _ rfl
    have g3 := hg 3 _ rfl
    have g4 := hg 4 _ rfl
    have hz2 : zs.length = 5 := hxl2
    match zs, hz2 with
    | [z0, z1, z2, z3, z4], _ =>
    obtain ⟨k0, u0, _, _⟩ := DataW.trod_int (k := .i64) (by kernel_rfl) g0
    obtain ⟨k1, u1, _, _⟩ := DataW.trod_int (k := .i64) (by kernel_rfl) g1
    obtain ⟨k2, u2, _, w2⟩ := DataW.trod_int (k := .u64) (by kernel_rfl) g2
    obtain ⟨k3, u3, _, w3⟩ := DataW.trod_int (k := .u64) (by kernel_rfl) g3
    obtain ⟨k4, u4, _, _⟩ := DataW.trod_string (by kernel_rfl) g4
    have e0' : [a0] = [Value.int .i64 m0] := e0
    have e1' : [a1] = [Value.int .i64 m1] := e1
    have e2' : [a2] = [Value.bool m2] := e2
    have e3' : [a3] = [Value.string m3] := e3
    have u0' : [a4] = [Value.int .i64 k0] := u0
    have u1' : [a5] = [Value.int .i64 k1] := u1
    have u2' : [a6] = [Value.int .u64 k2] := u2
    have u3' : [a7] = [Value.int .u64 k3] := u3
    have u4' : [a8] = [Value.string k4] := u4
    simp only [List.cons.injEq, and_true] at e0' e1' e2' e3' u0' u1' u2' u3' u4'
    subst e0' e1' e2' e3' u0' u1' u2' u3' u4'
    obtain ⟨q, rfl, hq⟩ := wf_u64 w2
    obtain ⟨a, rfl, ha⟩ := wf_u64 w3
    exact ⟨⟨m0, m1, m2, m3, ⟨k0, k1, q, a, k4⟩⟩, rfl, hq, ha⟩

set_option maxRecDepth 20000 in
theorem arg_sliceP {α : Type} [Elem α] {P : α → Prop} (hP : P Elem.dflt) (hdec : DecP α P) (hC : Try.prog.cellsOf (Elem.e α) = Elem.k α) {H : Type} {enc : TypeId × Value → H} {w : World} {r : Reach} {b0 base : Nat} {spare : Nat → Bool} {held : Bool} {v : Value} {d : DataW H} {p : List MemPlace}
    (hv : Value.okWide Try.prog w r b0 (Elem.t α) v) (h : DataW.Trod enc Try.prog w base spare held (Elem.t α) v d p) : ∃ ao c, ∃ xs : List α, v = .slice ao xs.length c ∧ Sl w (.slice ao xs.length c) xs ∧ ∀ y ∈ xs, P y := by
  obtain ⟨ao, len, cap, rfl⟩ := okWide_slice (Elem.row (α := α)) hv
  obtain ⟨fuel, hf⟩ := h
  rcases open_slice (Elem.row (α := α)) hf with ⟨hcs, _⟩ | ⟨a, l, c, m, n, D, Pl, hcs, hb, hl, hm, hmm, hx, hi⟩
  · simp [Value.cells] at hcs
    obtain ⟨rfl, rfl, rfl⟩ := hcs
    exact ⟨none, 0, [], rfl, Sl.empty _ _ _ (by omega) (fun _ => rfl), fun y hy => by cases hy⟩
  · simp [Value.cells] at hcs
    obtain ⟨rfl, rfl, rfl⟩ := hcs
    have hlm : len ≤ m := by rw [hmm]; split <;> omega
    have key : ∀ i, ∃ x : α, P x ∧ (i < len → w.cells? base (a.add (i * Elem.k α)) (Elem.k α) = some (Elem.enc x)) := by
      intro i
      by_cases hil : i < len
      · obtain ⟨cs', h1, h2⟩ := hi i (by omega)
        obtain ⟨x, rfl, hp⟩ := hdec H enc w base spare held n cs' _ h2
        rw [hC] at h1
        exact ⟨x, hp, fun _ => h1⟩
      · exact ⟨Elem.dflt, hP, fun h => absurd h hil⟩
    obtain ⟨f, hf0⟩ := Classical.axiomOfChoice key
    have hf' := fun i => (hf0 i).2
    have hxl : ((List.range len).map f).length = len := by simp
    refine ⟨some a, cap, (List.range len).map f, by rw [hxl], ?_, fun y hy => by rw [List.mem_map] at hy; obtain ⟨i, _, rfl⟩ := hy; exact (hf0 i).1⟩
    by_cases h0 : len = 0
    · subst h0
      exact ⟨by simp [cellsOf], some a, cap, rfl, by simp, hm, by simp, .inl (by simp)⟩
    · have hpos := Elem.pos (α := α)
      obtain ⟨b, off, sp⟩ := a
      have hz : w.cell? ((Addr.mk b off sp).add 0) = some ((Elem.enc (f 0))[0]'(by rw [Elem.len]; exact hpos)) := by
        have := (World.cells?_some (hf' 0 (by omega))).2.2 0 hpos
        rw [Nat.zero_mul] at this
        simpa [Addr.add] using this.trans (List.getElem?_eq_getElem (by rw [Elem.len]; exact hpos))
      have hsp : sp = none := by
        have := spot_none hz
        simpa [Addr.add] using this
      subst hsp
      obtain ⟨v0, hz'⟩ : ∃ v0, w.cell? ⟨b, off, none⟩ = some v0 := ⟨_, by simpa [Addr.add] using hz⟩
      refine ⟨cellsOf_length _, _, cap, rfl, by rw [hxl]; exact hl, hm, by simp, .inr ⟨b, off, rfl, World.block_lt_of_cell? w _ hz', fun j u hj => ?_⟩⟩
      obtain ⟨i, x, r, h1, h2, h3, rfl⟩ := cellsOf_split _ j u hj
      rw [List.getElem?_map] at h1
      have hil : i < len := by
        rcases Nat.lt_or_ge i len with h | h
        · exact h
        · rw [List.getElem?_eq_none (by simpa using h)] at h1; simp at h1
      rw [List.getElem?_range hil] at h1
      simp only [Option.map_some, Option.some.injEq] at h1
      have := (World.cells?_some (hf' i hil)).2.2 r h3
      rw [addr_add b off _, addr_add b _ r] at this
      rw [show off + (i * Elem.k α + r) = off + i * Elem.k α + r from by omega, this, h1, h2]


end Go.Proofs.Ytefkjclkondmeaa
