/- Layer 10's document: Go. -/
import Derived.Test.YtlakolkpfkakoaaGreatDoorMJ1
import Derived.Test.YtlakolkpfkakoaaGreatDoorMP
namespace Go.Proofs.YtlakolkpfkakoaaGreatDoor
open Go.RowKit

set_option linter.unusedVariables false
theorem refPut_all (w : World) (f : Fr) (hr : rightB f = true) (hq : f.q < 18446744073709551616) (ha : f.a < 18446744073709551616) :
    Calls Tryz.prog 45 #[.agg #[.int .i64 f.k, .int .i64 f.e, .int .u64 f.q, .int .u64 f.a, .string f.b]] w fun ev w' => ev = .returned (.string (putF f)) ∧ Ext w w' := by
  have h := right_spec hr
  have e1 : ((f.k.toNat : Nat) : Int) = f.k := by omega
  have e2 : ((f.e.toNat : Nat) : Int) = f.e := by omega
  have := refPut_any w f.k.toNat f.e.toNat f.q f.a f.b (by omega) (by omega) hq ha h.2.2.1
  rw [e1, e2] at this
  unfold putF
  rw [if_pos hr]
  exact this
def gS (N : NetS) (s : Int) (FR : List Fr) (k : Nat) : NetS := (goes N s (1 - s) (FR.take k)).1
def gN (N : NetS) (s : Int) (FR : List Fr) (k : Nat) : Nat := (goes N s (1 - s) (FR.take k)).2
theorem g_next (N : NetS) (s : Int) (FR : List Fr) (k : Nat) (h : k < FR.length) : gS N s FR (k + 1) = sendF (gS N s FR k) s (1 - s) (FR.getD k Fr.zero) ∧ gN N s FR (k + 1) = gN N s FR k + wentF (gS N s FR k) s (1 - s) (FR.getD k Fr.zero) := by
  have ht : FR.take (k + 1) = FR.take k ++ [FR.getD k Fr.zero] := by rw [List.take_succ_eq_append_getElem h]; simp [h]
  unfold gS gN
  rw [ht, goes_snoc]
  exact ⟨rfl, rfl⟩
theorem gN_le (N : NetS) (s : Int) (FR : List Fr) (k : Nat) : gN N s FR k ≤ FR.length := partN_le ⟨EndS.new 0 0 0 0 0, EndS.new 0 0 0 0 0, [], [], N⟩ s FR k
structure GoQ (F : Nat → Prop) (w wr : World) (P1 : PipeS) (l0 l1 g0 g1 x : SV) (mm : Nat) (v : Value) (FR : List Fr) : Prop where
  box : wr.heap[w.heap.size]? = some (.cells (pcs P1 l0 l1 g0 g1 x) 35 (0, 0))
  res : wr.heap[w.heap.size + 1]? = some (.cells #[.int .i64 0, .int .i64 0, .int .i64 0, .int .i64 0, .slice none 0 0, .int .u64 0, .int .i64 0, .int .i64 0, .int .u64 0, .bool false, .int .i64 0, .int .i64 0, .int .i64 0, .int .i64 0, .int .i64 0, .slice none 0 0, .int .u64 0, .int .i64 0, .int .i64 0, .int .u64 0, .bool false, .int .i64 0, .slice none 0 0, .slice none 0 0, .int .i64 0, .int .i64 0, .slice none 0 0] 35 (0, 0))
  rp : RP (fun k => F k ∨ (w.heap.size ≤ k ∧ k < w.heap.size + 2)) wr P1 l0 l1 g0 g1 x mm
  fr : Sa (fun k => F k ∨ (w.heap.size ≤ k ∧ k < w.heap.size + 2)) wr v FR
  ext : Ext w wr
section
variable {F : Nat → Prop} {w wr w2 : World} {P1 : PipeS} {l0 l1 g0 g1 x : SV} {mm : Nat} {v : Value} {FR : List Fr}
theorem GoQ.more (h : GoQ F w wr P1 l0 l1 g0 g1 x mm v FR) (e : Ext wr w2) : GoQ F w w2 P1 l0 l1 g0 g1 x mm v FR := ⟨(e.block _ (blk_lt h.box)).trans h.box, (e.block _ (blk_lt h.res)).trans h.res, h.rp.ext e, h.fr.ext e, Ext.trans h.ext e⟩
theorem GoQ.aside (h : GoQ F w wr P1 l0 l1 g0 g1 x mm v FR) (Z : Obj) : GoQ (fun k => F k ∨ k = wr.heap.size) w (wr.alloc Z) P1 l0 l1 g0 g1 x mm v FR := by
  have hG : ∀ k, k < wr.heap.size → ((F k ∨ k = wr.heap.size) ∨ (w.heap.size ≤ k ∧ k < w.heap.size + 2)) → (F k ∨ (w.heap.size ≤ k ∧ k < w.heap.size + 2)) := fun k h1 h2 => by
    rcases h2 with (h2 | h2) | h2
    · exact .inl h2
    · omega
    · exact .inr h2
  exact ⟨old1 h.box _, old1 h.res _, (h.rp.wide hG).ext ((Ext.refl wr).alloc _), (h.fr.wide hG).ext ((Ext.refl wr).alloc _), Ext.trans h.ext ((Ext.refl wr).alloc _)⟩
theorem grows_back {B g : Nat} (W : World) : Grows (fun k => (F k ∨ k = g) ∨ (B ≤ k ∧ k < B + 2)) (fun k => F k ∨ (B ≤ k ∧ k < B + 2)) W := fun k hk => .inl (hk.imp .inl id)
theorem GoQ.back {W : World} {g : Nat} (h : GoQ (fun k => F k ∨ k = g) w wr P1 l0 l1 g0 g1 x mm v FR) (o : Off (fun k => k = g) wr W) (hg : w.heap.size + 2 ≤ g) : GoQ F w W P1 l0 l1 g0 g1 x mm v FR :=
  ⟨o.blk h.box (by omega), o.blk h.res (by omega), h.rp.off (o.mono fun k hk => .inl (.inr hk)) (grows_back _), h.fr.off (o.mono fun k hk => .inl (.inr hk)) (grows_back _), ext_off h.ext o (fun k hk => by omega)⟩
theorem net_aside {N : NetS} {v : Value} {B n : Nat} {wr : World} (h : RNet (fun k => F k ∨ (B ≤ k ∧ k < B + 2)) wr v N n) (hB : B + 2 ≤ wr.heap.size) (Z : Obj) : RNet (fun k => (F k ∨ k = wr.heap.size) ∨ (B ≤ k ∧ k < B + 2)) (wr.alloc Z) v N n :=
  (h.wide (fun k h1 h2 => by
    rcases h2 with (h2 | h2) | h2
    · exact .inl h2
    · omega
    · exact .inr h2)).ext ((Ext.refl wr).alloc _)
theorem GoQ.up (h : GoQ F w wr P1 l0 l1 g0 g1 x mm v FR) : GoQ F w wr P1 l0 l1 g0 g1 x (mm + 1) v FR := { h with rp := h.rp.more (Nat.le_succ _) }
end
end Go.Proofs.YtlakolkpfkakoaaGreatDoor
