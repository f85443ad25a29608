/- Layer 11's laws: the chapter's example, what is few, numbers of their own memory. -/
import Derived.Test.YtalncechmhmdcaaY9
namespace Go.Proofs.Ytalncechmhmdcaa
open Go.RowKit

theorem ok3 : OkG 3 [⟨0, 1⟩, ⟨1, 2⟩] := okG_iff.1 (by decide)
theorem ends3 : Ends 3 [⟨0, 1⟩, ⟨1, 2⟩] 3 := by unfold Ends; decide
theorem itr3 : itr 3 [⟨0, 1⟩, ⟨1, 2⟩] 3 = [1, 2, 1] := by decide
theorem run3 (w : World) (v : Value) (h : Sl w v ([⟨0, 1⟩, ⟨1, 2⟩] : List Edge)) : Calls Try.prog 21 #[.agg #[.int .i64 3, v]] w (GivesRun w [1, 2, 1] 3 0) := by
  have := run_ok w 3 v [⟨0, 1⟩, ⟨1, 2⟩] h ok3 3 ends3
  rw [itr3] at this
  exact this
theorem round3 (w : World) (v cv : Value) (h : Sl w v ([⟨0, 1⟩, ⟨1, 2⟩] : List Edge)) (hc : Sl w cv ([0, 0, 0] : List Int)) : Calls Try.prog 11 #[.agg #[.int .i64 3, v], cv] w (GivesC w [0, 0, 1] 0) :=
  round_any w 3 v cv [⟨0, 1⟩, ⟨1, 2⟩] [0, 0, 0] h hc 0 (by decide) _ (by decide)

set_option maxHeartbeats 4000000 in
theorem awakeC_any (w : World) : Calls Try.prog 9 #[] w fun e w' => e = .returned (.bool true) ∧ Ext w w' := by
  have HSE : Hid (∀ W, Ext ((w.alloc (.cells #[.int .i64 0, .int .i64 1, .int .i64 1, .int .i64 2] 44)).alloc (.cells #[.int .i64 3, .slice (some ⟨w.heap.size, 0, none⟩) 2 2] 24)) W → Sl W (.slice (some ⟨w.heap.size, 0, none⟩) 2 2) ([⟨0, 1⟩, ⟨1, 2⟩] : List Edge)) := Lib.hid fun W hW => by
    have h1 : Sl (w.alloc (.cells #[.int .i64 0, .int .i64 1, .int .i64 1, .int .i64 2] 44)) (.slice (some ⟨w.heap.size, 0, none⟩) 2 2) ([⟨0, 1⟩, ⟨1, 2⟩] : List Edge) := Sl.litAt w _ rfl ([⟨0, 1⟩, ⟨1, 2⟩] : List Edge) (by simp)
    exact (h1.alloc _).ext hW
  have HG : Hid (∀ W, Ext ((w.alloc (.cells #[.int .i64 0, .int .i64 1, .int .i64 1, .int .i64 2] 44)).alloc (.cells #[.int .i64 3, .slice (some ⟨w.heap.size, 0, none⟩) 2 2] 24)) W → W.cell? ⟨w.heap.size + 1, 0, none⟩ = some (.int .i64 3) ∧ W.cell? ⟨w.heap.size + 1, 1, none⟩ = some (.slice (some ⟨w.heap.size, 0, none⟩) 2 2)) := Lib.hid fun W hW => by
    obtain ⟨_, hB⟩ := box2 (hW.mono (by rw [size_alloc, size_alloc]; omega))
    exact ⟨blk_cell hB 0 rfl, blk_cell hB 1 rfl⟩
  go_enter Try.func9, Try.ntmps9
  go_wp2_with (first
    | (go_at_call 21; refine (run3 _ _ (HSE.out _ (by repeat (first | exact Ext.refl _ | assumption | refine Ext.alloc ?_ _ | refine Ext.drew ?_ | refine Ext.drewN ?_ _)))).mono ?_; rintro e w1 ⟨v1, rfl, s1, x1⟩; obtain ⟨a1, n1, c1, rfl⟩ := s1.sh; have S1 := Lib.hid s1; have X1 := Lib.hid x1; obtain ⟨p1, q1⟩ := HG.out w1 X1.out; clear s1 x1)
    | (go_at_call 11; refine (round3 _ _ _ (HSE.out _ (Ext.alloc X1.out _)) (Sl.litAt w1 _ rfl [0, 0, 0] (by simp))).mono ?_; rintro e w2 ⟨v2, rfl, s2, x2⟩; obtain ⟨a2, n2, c2, rfl⟩ := s2.sh; have S2 := Lib.hid s2; have X2 := Lib.hid (Ext.trans (Ext.alloc X1.out _) x2); have Z2 := Lib.hid (S1.out.ext (Ext.trans (Ext.alloc (Ext.refl _) _) x2)); obtain ⟨p2, q2⟩ := HG.out w2 X2.out; clear s2 x2)
    | (go_at_call 19; have hgd := S3; refine (refSame_val true _ _ _ [0, 0, 1] [0, 0, 1] (S3.out.2.alloc _) (Sl.litAt w3 _ rfl [0, 0, 1] (by simp)) (by decide)).mono ?_; rintro e w4 ⟨rfl, d4⟩; have x4 := Ext.of_drew d4; have X4 := Lib.hid (Ext.trans (Ext.alloc X3.out _) x4); have S4 := Lib.hid (And.intro ((S3.out.1.alloc (.cells (cellsOf [(0 : Int), 0, 1]).toArray (Elem.e Int))).ext x4) ((S3.out.2.alloc (.cells (cellsOf [(0 : Int), 0, 1]).toArray (Elem.e Int))).ext x4)); obtain ⟨p4, q4⟩ := HG.out w4 X4.out; clear d4 x4 hgd)
    | (go_at_call 19; refine (refSame_val true _ _ _ [1, 2, 1] [1, 2, 1] (Z2.out.alloc _) (Sl.litAt w2 _ rfl [1, 2, 1] (by simp)) (by decide)).mono ?_; rintro e w3 ⟨rfl, d3⟩; have x3 := Ext.of_drew d3; have X3 := Lib.hid (Ext.trans (Ext.alloc X2.out _) x3); have S3 := Lib.hid (And.intro ((Z2.out.alloc (.cells (cellsOf [(1 : Int), 2, 1]).toArray (Elem.e Int))).ext x3) ((S2.out.alloc (.cells (cellsOf [(1 : Int), 2, 1]).toArray (Elem.e Int))).ext x3)); obtain ⟨p3, q3⟩ := HG.out w3 X3.out; clear d3 x3)
    | (go_at_call 14; have hgd := X5; refine (right_any _ 3 _ _ [⟨0, 1⟩, ⟨1, 2⟩] [0, 0, 1] (HSE.out _ X5.out) S5.out.2 false (by decide)).mono ?_; rintro e w6 ⟨rfl, x6⟩; have X6 := Lib.hid (Ext.trans X5.out x6); have S6 := Lib.hid (S5.out.1.ext x6); clear x6 hgd)
    | (go_at_call 14; refine (right_any _ 3 _ _ [⟨0, 1⟩, ⟨1, 2⟩] [1, 2, 1] (HSE.out _ X4.out) S4.out.1 true (by decide)).mono ?_; rintro e w5 ⟨rfl, x5⟩; have X5 := Lib.hid (Ext.trans X4.out x5); have S5 := Lib.hid (And.intro (S4.out.1.ext x5) (S4.out.2.ext x5)); obtain ⟨p5, q5⟩ := HG.out w5 X5.out; clear x5)
    | (go_at_call 16; have hgd := X7; refine (most_any _ _ [] (Sl.none _) 0 (by decide)).mono ?_; rintro e w8 ⟨rfl, x8⟩; have X8 := Lib.hid (Ext.trans X7.out x8); clear x8 hgd)
    | (go_at_call 16; refine (most_any _ _ [1, 2, 1] S6.out 2 (by decide)).mono ?_; rintro e w7 ⟨rfl, x7⟩; have X7 := Lib.hid (Ext.trans X6.out x7); clear x7))
  go_ret
  exact ⟨rfl, Ext.trans (ext_two w _ _) X8.out⟩

theorem fewC_any (w : World) (N : Int) (vo : Option Addr) (k : Nat) (co : Option Addr) (cc : Nat) (E : List Edge) (c : List Int) (h1 : E.length ≤ 9223372036854775807) (h2 : c.length ≤ 9223372036854775807) (r : Bool) (hr : (decide (E.length ≤ 60) && decide (c.length ≤ 70)) = r) :
    Calls Try.prog 10 #[.agg #[.int .i64 N, .slice vo E.length k], .slice co c.length cc] w fun e w' => e = .returned (.bool r) ∧ Ext w w' := by
  subst hr
  by_cases e1 : E.length ≤ 60
  · by_cases e2 : c.length ≤ 70
    · have f1 : (E.length : Int) ≤ 60 := by omega
      have f2 : (c.length : Int) ≤ 70 := by omega
      rw [decide_eq_true e1, decide_eq_true e2]
      clear e1 e2
      go_enter Try.func10, Try.ntmps10
      go_wp2
      go_ret
      exact ⟨rfl, (by repeat (first | exact Ext.refl _ | assumption | refine Ext.alloc ?_ _ | refine Ext.drew ?_ | refine Ext.drewN ?_ _))⟩
    · have f1 : (E.length : Int) ≤ 60 := by omega
      have f2 : ¬ (c.length : Int) ≤ 70 := by omega
      rw [decide_eq_true e1, decide_eq_false e2]
      clear e1 e2
      go_enter Try.func10, Try.ntmps10
      go_wp2
      go_ret
      exact ⟨rfl, (by repeat (first | exact Ext.refl _ | assumption | refine Ext.alloc ?_ _ | refine Ext.drew ?_ | refine Ext.drewN ?_ _))⟩
  · have f1 : ¬ (E.length : Int) ≤ 60 := by omega
    rw [decide_eq_false e1, Bool.false_and]
    clear e1
    go_enter Try.func10, Try.ntmps10
    go_wp2
    go_ret
    exact ⟨rfl, (by repeat (first | exact Ext.refl _ | assumption | refine Ext.alloc ?_ _ | refine Ext.drew ?_ | refine Ext.drewN ?_ _))⟩

theorem ownC_any (w : World) (v : Value) (c : List Int) (h : Sl w v c) (hl : c.length ≤ 1000000) : Calls Try.prog 13 #[v] w (GivesOw w c) := by
  obtain ⟨co, cc, rfl⟩ := h.len
  have HS := Lib.hid h
  clear h
  go_enter Try.func13, Try.ntmps13
  go_wp2_with (first
    | (at_builtin; refine wpList_append_sl (α := Int) rfl (.tmp 3) (.tmp 4) rfl w.heap.size _ [] rfl ?_ (.slice co c.length cc) c rfl ?_ ?_ ?_ ?_; exact (Ow.litAt w _ _ (by simp) (Nat.le_refl _) [] (by simp)); exact (HS.out.alloc _); (first | omega | (simp; omega)); exact (by first | omega | (rw [size_alloc]; omega)); intro v3 W3 ho3 ha3; have O3 := Lib.hid ho3; have X3 := Lib.hid (Below.trans ((Ext.refl w).alloc _) ha3.below); clear ho3 ha3))
  go_ret
  exact ⟨_, rfl, O3.out, X3.out⟩

end Go.Proofs.Ytalncechmhmdcaa
