/- What a row's frame hands over, as what a slice reads as, whatever its elements. -/
import Derived.Test.YtlakolkpfkakoaaGreatDoorMA
import Derived.OpenShut
import Derived.Deep.Slices
import Derived.Deep.Fields
import Derived.ChangeSame
import Derived.Test.YtlakolkpfkakoaaGreatDoorMQ
import Derived.WalkKit
import Derived.ProofKit
namespace Go.Proofs.YtlakolkpfkakoaaGreatDoor
open Go.RowKit Go.ChangeShapes Go.WideShapes Go.Deep

set_option maxRecDepth 20000 in
theorem cellsOf_split {α : Type} [Elem α] : ∀ (xs : List α) (j : Nat) (u : Value), (cellsOf xs)[j]? = some u → ∃ (i : Nat) (x : α) (r : Nat), xs[i]? = some x ∧ (Elem.enc x)[r]? = some u ∧ r < Elem.k α ∧ j = i * Elem.k α + r
  | [], j, u, h => by simp [cellsOf] at h
  | x :: xs, j, u, h => by
    have hl := Elem.len x
    change (Elem.enc x ++ cellsOf xs)[j]? = some u at h
    by_cases hj : j < Elem.k α
    · rw [List.getElem?_append_left (by omega)] at h
      exact ⟨0, x, j, rfl, h, hj, by omega⟩
    · rw [List.getElem?_append_right (by omega), hl] at h
      obtain ⟨i, y, r, h1, h2, h3, h4⟩ := cellsOf_split xs _ u h
      exact ⟨i + 1, y, r, h1, h2, h3, by rw [Nat.succ_mul]; omega⟩

set_option maxRecDepth 20000 in
theorem addr_add (b off n : Nat) : (⟨b, off, none⟩ : Addr).add n = ⟨b, off + n, none⟩ := by unfold Addr.add; split <;> simp_all

set_option maxRecDepth 20000 in
theorem spot_none {w : World} {a : Addr} {v : Value} (h : w.cell? a = some v) : a.spot = none := by
  unfold World.cell? at h
  split at h
  · cases hs : a.spot with
    | none => rfl
    | some _ => rw [hs] at h; simp at h
  · cases h

end Go.Proofs.YtlakolkpfkakoaaGreatDoor

/- What a row's frame hands over of acts on a pipe, their numbers in their range. -/
namespace Go.Proofs.YtlakolkpfkakoaaGreatDoor
open Go.RowKit Go.ChangeShapes Go.WideShapes Go.Deep
def DecP (α : Type) [Elem α] (P : α → Prop) : Prop := ∀ (H : Type) (enc : TypeId × Value → H) (w : World) (base : Nat) (spare : Nat → Bool) (held : Bool) (n : Nat) (cs : List Value) (x : DataW H × List MemPlace),
  DataW.trod enc Tryz.prog w base spare held n (Elem.e α) cs = some x → ∃ a : α, cs = Elem.enc a ∧ P a

theorem of_wf {a : Int} (h : (Lit.int .i64 a).wf = true) : -9223372036854775808 ≤ a ∧ a ≤ 9223372036854775807 := by
  simpa [Lit.wf, IntKind.min, IntKind.max, IntKind.signed, IntKind.bits] using h
def In10 (y : Act10) : Prop := (-9223372036854775808 ≤ y.x ∧ y.x ≤ 9223372036854775807) ∧ -9223372036854775808 ≤ y.sd ∧ y.sd ≤ 9223372036854775807
set_option maxRecDepth 20000 in
theorem dec_Act10 : DecP Act10 In10 := fun H enc w base spare held n cs x h => by
  obtain ⟨xs, n', _, _, hlen, hxl, hf⟩ := DataW.trod_struct (P := Tryz.prog) (t := Elem.e Act10) Tryz.underlying38 h
  have h0 := hf 0 _ rfl
  have h1 := hf 1 _ rfl
  have h2 := hf 2 _ rfl
  have h3 := hf 3 _ rfl
  have h4 := hf 4 _ rfl
  have hl : cs.length = 5 := hlen
  have hx2 : xs.length = 5 := hxl
  match cs, hl, xs, hx2 with
  | [a0, a1, a2, a3, a4], _, [y0, y1, y2, y3, y4], _ =>
    obtain ⟨m0, e0, _⟩ := DataW.trod_int (k := .i64) (by kernel_rfl) h0
    obtain ⟨m1, e1, _, hr1⟩ := DataW.trod_int (k := .i64) (by kernel_rfl) h1
    obtain ⟨m2, e2, _⟩ := DataW.trod_int (k := .i64) (by kernel_rfl) h2
    obtain ⟨m3, e3, _, hr3⟩ := DataW.trod_int (k := .i64) (by kernel_rfl) h3
    obtain ⟨m4, e4, _⟩ := DataW.trod_string (by kernel_rfl) h4
    have e0' : [a0] = [Value.int .i64 m0] := e0
    have e1' : [a1] = [Value.int .i64 m1] := e1
    have e2' : [a2] = [Value.int .i64 m2] := e2
    have e3' : [a3] = [Value.int .i64 m3] := e3
    have e4' : [a4] = [Value.string m4] := e4
    simp only [List.cons.injEq, and_true] at e0' e1' e2' e3' e4'
    subst e0' e1' e2' e3' e4'
    exact ⟨⟨m0, m1, m2, m3, m4⟩, rfl, of_wf hr3, of_wf hr1⟩

set_option maxRecDepth 50000 in
theorem arg_sliceP {α : Type} [Elem α] {P : α → Prop} (hP : P Elem.dflt) (hdec : DecP α P) (hC : Tryz.prog.cellsOf (Elem.e α) = Elem.k α) {H : Type} {enc : TypeId × Value → H} {w : World} {r : Reach} {b0 base : Nat} {spare : Nat → Bool} {held : Bool} {v : Value} {d : DataW H} {p : List MemPlace}
    (hv : Value.okWide Tryz.prog w r b0 (Elem.t α) v) (h : DataW.Trod enc Tryz.prog w base spare held (Elem.t α) v d p) : ∃ ao c, ∃ xs : List α, v = .slice ao xs.length c ∧ Sl w (.slice ao xs.length c) xs ∧ ∀ y ∈ xs, P y := by
  obtain ⟨ao, len, cap, rfl⟩ := okWide_slice (Elem.row (α := α)) hv
  obtain ⟨fuel, hf⟩ := h
  rcases open_slice (Elem.row (α := α)) hf with ⟨hcs, _⟩ | ⟨a, l, c, m, n, D, Pl, hcs, hb, hl, hm, hmm, hx, hi⟩
  · simp [Value.cells] at hcs
    obtain ⟨rfl, rfl, rfl⟩ := hcs
    exact ⟨none, 0, [], rfl, Sl.empty _ _ _ (by omega) (fun _ => rfl), fun y hy => by cases hy⟩
  · simp [Value.cells] at hcs
    obtain ⟨rfl, rfl, rfl⟩ := hcs
    have hlm : len ≤ m := by rw [hmm]; split <;> omega
    have key : ∀ i, ∃ x : α, P x ∧ (i < len → w.cells? base (a.add (i * Elem.k α)) (Elem.k α) = some (Elem.enc x)) := by
      intro i
      by_cases hil : i < len
      · obtain ⟨cs', h1, h2⟩ := hi i (by omega)
        obtain ⟨x, rfl, hp⟩ := hdec H enc w base spare held n cs' _ h2
        rw [hC] at h1
        exact ⟨x, hp, fun _ => h1⟩
      · exact ⟨Elem.dflt, hP, fun h => absurd h hil⟩
    obtain ⟨f, hf0⟩ := Classical.axiomOfChoice key
    have hf' := fun i => (hf0 i).2
    have hxl : ((List.range len).map f).length = len := by simp
    refine ⟨some a, cap, (List.range len).map f, by rw [hxl], ?_, fun y hy => by rw [List.mem_map] at hy; obtain ⟨i, _, rfl⟩ := hy; exact (hf0 i).1⟩
    by_cases h0 : len = 0
    · subst h0
      exact ⟨by simp [cellsOf], some a, cap, rfl, by simp, hm, by simp, .inl (by simp)⟩
    · have hpos := Elem.pos (α := α)
      obtain ⟨b, off, sp⟩ := a
      have hz : w.cell? ((Addr.mk b off sp).add 0) = some ((Elem.enc (f 0))[0]'(by rw [Elem.len]; exact hpos)) := by
        have := (World.cells?_some (hf' 0 (by omega))).2.2 0 hpos
        rw [Nat.zero_mul] at this
        simpa [Addr.add] using this.trans (List.getElem?_eq_getElem (by rw [Elem.len]; exact hpos))
      have hsp : sp = none := by
        have := spot_none hz
        simpa [Addr.add] using this
      subst hsp
      obtain ⟨v0, hz'⟩ : ∃ v0, w.cell? ⟨b, off, none⟩ = some v0 := ⟨_, by simpa [Addr.add] using hz⟩
      refine ⟨cellsOf_length _, _, cap, rfl, by rw [hxl]; exact hl, hm, by simp, .inr ⟨b, off, rfl, World.block_lt_of_cell? w _ hz', fun j u hj => ?_⟩⟩
      obtain ⟨i, x, r, h1, h2, h3, rfl⟩ := cellsOf_split _ j u hj
      rw [List.getElem?_map] at h1
      have hil : i < len := by
        rcases Nat.lt_or_ge i len with h | h
        · exact h
        · rw [List.getElem?_eq_none (by simpa using h)] at h1; simp at h1
      rw [List.getElem?_range hil] at h1
      simp only [Option.map_some, Option.some.injEq] at h1
      have := (World.cells?_some (hf' i hil)).2.2 r h3
      rw [addr_add b off _, addr_add b _ r] at this
      rw [show off + (i * Elem.k α + r) = off + i * Elem.k α + r from by omega, this, h1, h2]

end Go.Proofs.YtlakolkpfkakoaaGreatDoor
