/- The program's ends: settle. -/
import Derived.Test.YtefkjclkondmeaaKP1
namespace Go.Proofs.Ytefkjclkondmeaa
open Go.RowKit

/-- the front of the bodies cut off, and the end's own block stored to -/
theorem cut_end {w w1 W : World} {p : Nat} {S S' : EndS} {F : Nat → Prop} {ao a2 : Option Addr} {n c n2 c2 : Nat} (h : EndAt w p S F ao n c)
    (hg : w.grownBy w1 (Value.slice ao n c).ownBlock) (ho : Ow w1 0 (.slice a2 n2 c2) S'.l) (he : (Value.slice a2 n2 c2).ownBlock = (Value.slice ao n c).ownBlock) (o : Off (fun k => k = p) w1 W) (ok : S'.Ok)
    (hb : W.heap[p]? = some (.cells (rCells S' (.slice a2 n2 c2)) 67 (0, 0))) (r : Value) : MovesE p S' F r w (.returned r) W := by
  refine ⟨F, rfl, ⟨a2, n2, c2, ok, hb, ow_at ho fun k hk => o.block k (ho.low k hk).2 (fun e => h.ne (by rw [← he, ← e]; exact hk)), by rw [he]; exact h.ne, by rw [he]; exact h.fp⟩, ⟨o.os.trans hg.os, o.tape.trans hg.tape, o.output.trans hg.output, Nat.le_trans hg.size o.size, fun k hk hn => ?_⟩, Grows.refl _ _⟩
  rw [o.block k (Nat.lt_of_lt_of_le hk hg.size) (fun e => hn (e ▸ h.at))]
  exact hg.block k hk fun e => hn ((h.fp k).2 (.inr e.symm))

set_option maxHeartbeats 3200000 in
theorem settle_any {w : World} {p : Nat} {S : EndS} {F : Nat → Prop} (h0 : EAt w p S F) (a : Nat) (ha : a < 18446744073709551616) :
    Calls Try.prog 31 #[.pointer (some ⟨p, 0, none⟩), .int .u64 (a : Int)] w (MovesE p (S.drop (S.gone a)) F (.tuple #[]) w) := by
  have HM := Lib.hid (same_moves h0)
  obtain ⟨ao, n, c, h⟩ := h0
  obtain ⟨ao', c', hv⟩ := h.own.sl.len
  simp only [Value.slice.injEq] at hv
  obtain ⟨rfl, rfl, rfl⟩ := hv
  have ok := h.ok
  have o1 := ok.ew
  have o2 := ok.win8
  have o3 := ok.el
  have o4 := ok.oe
  have o5 := ok.first
  have hp : p < w.heap.size := blk_lt h.blk
  have H := Lib.hid h
  have hblk := h.blk
  obtain ⟨D, hD⟩ : ∃ D, D = (a + 18446744073709551616 - S.first) % 18446744073709551616 := ⟨_, rfl⟩
  have hw1 : IntKind.u64.wrap ((a : Int) - (S.first : Int)) = (D : Int) := by
    rw [hD]
    show ((a : Int) - (S.first : Int)) % 18446744073709551616 = _
    omega
  have hw2 : IntKind.u64.wrap ((S.ever : Nat) : Int) = (S.ever : Int) := by
    show ((S.ever : Nat) : Int) % 18446744073709551616 = _
    omega
  have hgone : S.gone a = if 1 ≤ D ∧ D ≤ S.ever then D else 0 := by unfold EndS.gone; rw [← hD]
  by_cases h1 : 1 ≤ D ∧ D ≤ S.ever
  · rw [if_pos h1] at hgone
    rw [hgone]
    have ok2 := ok.drop (k := D) h1.2
    have hfa : (S.first + D) % 18446744073709551616 = a := by omega
    have hdc := fun W ho => cut_front W 0 (.slice ao S.l.length c) S.l D ho h1.1 (by omega)
    have OK2 := Lib.hid ok2
    have HDC := Lib.hid hdc
    have t1 : ((D : Int) == 0) = false := beq_eq_false_iff_ne.2 (by omega)
    have t2 : ¬ (S.ever : Int) < (D : Int) := by omega
    have t3 : IntKind.i64.wrap (D : Int) = (D : Int) := wrapN _ (by omega) (by omega)
    have t4 : IntKind.i64.wrap ((S.out : Int) - (D : Int)) = (S.out : Int) - (D : Int) := wrapN _ (by omega) (by omega)
    have t5 : IntKind.i64.wrap ((S.ever : Int) - (D : Int)) = (S.ever : Int) - (D : Int) := wrapN _ (by omega) (by omega)
    have hout : max ((S.out : Int) - (D : Int)) 0 = ((S.out - D : Nat) : Int) := by omega
    have hever : (S.ever : Int) - (D : Int) = ((S.ever - D : Nat) : Int) := by omega
    have hS : S.drop D = ⟨S.e, S.win, S.qn, S.wait, S.l.drop D, a, S.out - D, S.ever - D, S.want, S.owes, 0⟩ := by
      unfold EndS.drop
      rw [if_neg (by omega), hfa]
    rw [hS] at OK2 ⊢
    have HOUT := Lib.hid hout
    have HEVER := Lib.hid hever
    have HL := Lib.hid (show S.l.length ≤ S.qn from ok.len)
    clear h ok hD hgone h1 ok2 hfa hdc o1 o2 o3 o4 o5 hout hever ha hS
    obtain ⟨e, win, qn, wait, l, first, out, ever, want, owes, age⟩ := S
    unfold rCells at hblk
    dsimp only at hblk hw1 hw2 t1 t2 t3 t4 t5 OK2 HDC HOUT HEVER ⊢
    obtain ⟨⟨c0, c1, c2, c3, c4, c5, c6, c7, c8, c9, c10⟩, ⟨f0, f1, f2, f3, f4, f5, f6, f7, f8, f9, f10⟩⟩ := cells11 hblk
    have HB := Lib.hid hblk
    clear hblk
    go_enter Try.func31, Try.ntmps31
    go_wp2_with fail
    refine (HDC.out w H.out.own).mono ?_
    rintro e1 w1 ⟨v2, rfl, ho2, hg2, he2⟩
    obtain ⟨a2, n2, c2', rfl⟩ := ho2.sh
    have hb2 := (hg2.block p hp (fun e => H.out.ne e.symm)).trans HB.out
    clear c0 c1 c2 c3 c4 c5 c6 c7 c8 c9 c10 f0 f1 f2 f3 f4 f5 f6 f7 f8 f9 f10
    obtain ⟨⟨c0, c1, c2, c3, c4, c5, c6, c7, c8, c9, c10⟩, ⟨f0, f1, f2, f3, f4, f5, f6, f7, f8, f9, f10⟩⟩ := cells11 hb2
    have HB2 := Lib.hid hb2
    have HO2 := Lib.hid ho2
    have HG2 := Lib.hid hg2
    have HE2 := Lib.hid he2
    clear hb2 ho2 hg2 he2
    go_wp2
    all_goals refine bodyPost_ret (v := .tuple #[]) (by simp [results, Try.results31, go_sem]) rfl ?_
    all_goals rw [HOUT.out, HEVER.out]
    all_goals (refine cut_end H.out HG2.out HO2.out HE2.out ?_ OK2.out ?_ _; exact (by repeat (first | exact Off.refl _ _ | refine off_two ?_ _ _ rfl | refine off_drew ?_ _)); exact blk_set (blk_set (blk_set (blk_set (blk_set HB2.out 4 _) 5 _) 6 _) 7 _) 10 _)
  · rw [if_neg h1] at hgone
    rw [hgone, EndS.drop_zero ok]
    have h2 : D = 0 ∨ S.ever < D := by omega
    clear ok hgone h1 hD o1 o2 o3 o4 o5
    obtain ⟨e, win, qn, wait, l, first, out, ever, want, owes, age⟩ := S
    unfold rCells at hblk
    dsimp only at hblk hw1 hw2 h2 ⊢
    obtain ⟨⟨c0, c1, c2, c3, c4, c5, c6, c7, c8, c9, c10⟩, _⟩ := cells11 hblk
    clear hblk h
    rcases h2 with h2 | h2
    · have t1 : ((D : Int) == 0) = true := beq_iff_eq.2 (by omega)
      clear h2
      go_enter Try.func31, Try.ntmps31
      go_wp2
      all_goals refine bodyPost_ret (v := .tuple #[]) (by simp [results, Try.results31, go_sem]) rfl ?_
      all_goals exact HM.out _ (by repeat (first | exact Ext.refl _ | assumption | refine Ext.alloc ?_ _ | refine Ext.drew ?_ | refine Ext.drewN ?_ _)) _
    · have t1 : ((D : Int) == 0) = false := beq_eq_false_iff_ne.2 (by omega)
      have t2 : (ever : Int) < (D : Int) := by omega
      clear h2
      go_enter Try.func31, Try.ntmps31
      go_wp2
      all_goals refine bodyPost_ret (v := .tuple #[]) (by simp [results, Try.results31, go_sem]) rfl ?_
      all_goals exact HM.out _ (by repeat (first | exact Ext.refl _ | assumption | refine Ext.alloc ?_ _ | refine Ext.drew ?_ | refine Ext.drewN ?_ _)) _
end Go.Proofs.Ytefkjclkondmeaa
