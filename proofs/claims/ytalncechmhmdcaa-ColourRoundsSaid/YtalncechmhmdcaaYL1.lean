/- Layer 11's law ColourRounds, walked. -/
import Derived.Test.YtalncechmhmdcaaYA
namespace Go.Proofs.Ytalncechmhmdcaa
open Go.RowKit

set_option maxHeartbeats 8000000 in
theorem colourRounds_long (w : World) (N : Int) (ao : Option Addr) (k : Nat) (E : List Edge) (co : Option Addr) (cc : Nat) (c : List Int) (h : Sl w (.slice ao E.length k) E) (hc : Sl w (.slice co c.length cc) c) (hf : (decide (E.length ≤ 60) && decide (c.length ≤ 70)) = false) :
    Calls Try.prog 3 #[.agg #[.int .i64 N, .slice ao E.length k], .slice co c.length cc] w (GivesB w (.bool true)) := by
  have hEl := h.length_le
  have hCl := hc.length_le
  have HS := Lib.hid h
  have HC := Lib.hid hc
  have HF := Lib.hid hf
  have HG := Lib.hid (graph_at w N (.slice ao E.length k))
  clear h hf hc
  go_enter Try.func3, Try.ntmps3
  go_wp2_with (first
    | (go_at_call 9; have hgd := X2; refine (awakeC_any _).mono ?_; rintro e w3 ⟨rfl, x3⟩; have X3 := Lib.hid (Ext.trans X2.out x3); obtain ⟨p3, q3⟩ := HG.out w3 X3.out; clear x3 hgd)
    | (go_at_call 9; refine (awakeC_any _).mono ?_; rintro e w1 ⟨rfl, x1⟩; have X1 := Lib.hid (x1); obtain ⟨p1, q1⟩ := HG.out w1 X1.out; clear x1)
    | (go_at_call 10; refine (fewC_any _ N ao k co cc E c (by omega) (by omega) _ HF.out).mono ?_; rintro e w2 ⟨rfl, x2⟩; have X2 := Lib.hid (Ext.trans X1.out x2); obtain ⟨p2, q2⟩ := HG.out w2 X2.out; clear x2))
  go_ret
  exact ⟨rfl, Ext.trans ((Ext.refl w).alloc _) X3.out⟩

set_option maxHeartbeats 8000000 in
theorem colourRounds_A (w : World) (N : Int) (ao : Option Addr) (k : Nat) (E : List Edge) (co : Option Addr) (cc : Nat) (c : List Int) (h : Sl w (.slice ao E.length k) E) (hc : Sl w (.slice co c.length cc) c) (hf : (decide (E.length ≤ 60) && decide (c.length ≤ 70)) = true) (ok : ¬ OkG N E) :
    Calls Try.prog 3 #[.agg #[.int .i64 N, .slice ao E.length k], .slice co c.length cc] w (GivesB w (.bool true)) := by
  have hEl := h.length_le
  have hCl := hc.length_le
  have HS := Lib.hid h
  have HC := Lib.hid hc
  have HF := Lib.hid hf
  have HG := Lib.hid (graph_at w N (.slice ao E.length k))
  have hE60 : E.length ≤ 60 := by simp at hf; omega
  have hC70 : c.length ≤ 70 := by simp at hf; omega
  clear h hf hc
  have hr : roundR N E c = 30 := by unfold roundR; rw [okG_not ok]; rfl
  have HR := Lib.hid hr
  have HD : Hid ((if (30 : Int) = 0 then roundL N E c else []) = []) := Lib.hid rfl
  have HO := Lib.hid (okG_not ok)
  clear hr ok
  obtain ⟨M, hM⟩ : ∃ M, mostL c = M := ⟨_, rfl⟩
  obtain ⟨R, hR⟩ : ∃ R, rightB N E c = R := ⟨_, rfl⟩
  have HM := Lib.hid hM
  have HRI := Lib.hid hR
  have HRD := Lib.hid ((right_eq N E c).symm.trans hR)
  have hMM : (M != M) = false := by simp
  have hRR : (R != R) = false := by simp
  clear hM hR
  go_enter Try.func3, Try.ntmps3
  go_wp2_with (first
    | (go_at_call 9; refine (awakeC_any _).mono ?_; rintro e w1 ⟨rfl, x1⟩; have X1 := Lib.hid (x1); obtain ⟨p1, q1⟩ := HG.out w1 X1.out; clear x1)
    | (go_at_call 10; refine (fewC_any _ N ao k co cc E c (by omega) (by omega) _ HF.out).mono ?_; rintro e w2 ⟨rfl, x2⟩; have X2 := Lib.hid (Ext.trans X1.out x2); obtain ⟨p2, q2⟩ := HG.out w2 X2.out; clear x2)
    | (go_at_call 12; refine (own_any _ N _ E (HS.out.ext (Ext.trans ((Ext.refl w).alloc _) X2.out)) (by omega)).mono ?_; rintro e w3 ⟨v3, rfl, s3, x3⟩; obtain ⟨a3, n3, c3, rfl⟩ := s3.sh; have X3 := Lib.hid (Ext.trans X2.out x3); have S3 := Lib.hid s3; obtain ⟨p3, q3⟩ := HG.out w3 X3.out; clear x3 s3)
    | (go_at_call 13; refine (ownC_any _ _ c (HC.out.ext (Ext.trans ((Ext.refl w).alloc _) X3.out)) (by omega)).mono ?_; rintro e w4 ⟨v4, rfl, s4, x4⟩; obtain ⟨a4, n4, c4, rfl⟩ := s4.sh; have X4 := Lib.hid (Ext.trans X3.out x4); have x4k := Lib.hid x4; have S4 := Lib.hid s4.sl; obtain ⟨p4, q4⟩ := HG.out w4 X4.out; clear x4 s4)
    | (go_at_call 11; refine (round_any _ N _ _ E c (S3.out.ext (Below.mono (x4k.out) (Nat.le_refl _))) S4.out 30 HR.out [] HD.out).mono ?_; rintro e w5 ⟨v5, rfl, s5, x5⟩; obtain ⟨a5, c5, rfl⟩ := s5.len; have X5 := Lib.hid (Ext.trans X4.out x5); have S5 := Lib.hid s5; obtain ⟨p5, q5⟩ := HG.out w5 X5.out; clear x5 s5))
  go_loopw [7, 8] (fun s i wr => ∃ j : Nat, j ≤ c.length ∧ i = .int .i64 j ∧ s = .int .i64 (mostL (c.take j)) ∧ Hid (Ext w5 wr)) (fun _ i _ => c.length - (intOf i).toNat)
  case atStart => exact ⟨0, Nat.zero_le _, rfl, rfl, Lib.hid (Ext.refl _)⟩
  case round =>
    obtain ⟨j, hj, rfl, rfl, HX⟩ := hrel
    have X6 := Lib.hid (Ext.trans X5.out HX.out)
    obtain ⟨p6, q6⟩ := HG.out wr X6.out
    by_cases hlt : j < c.length
    · obtain ⟨b, off, rfl, hn, hnc, hc63, hb, hcell⟩ := HC.out.intsAt hlt
      have hya := (Below.cell (Ext.trans ((Ext.refl w).alloc _) X6.out) (p := ⟨b, off + j, none⟩) hb).trans hcell
      obtain ⟨y, hy⟩ : ∃ y, y = c.getD j 0 := ⟨_, rfl⟩
      rw [← hy] at hya
      have HN : Hid (mostL (c.take (j + 1)) = max (mostL (c.take j)) y) := Lib.hid (by rw [mostL_next hlt, hy])
      clear hy hcell hn
      obtain ⟨Q, hQ⟩ : ∃ Q, Q = mostL (c.take j) := ⟨_, rfl⟩
      rw [← hQ] at HN ⊢
      clear hQ
      rcases Int.lt_or_le Q y with hcmp | hcmp
      · have hmx : max Q y = y := by omega
        have HMX := Lib.hid hmx
        rw [hmx] at HN
        clear hmx
        go_wp2
        go_roundw
        case rel => exact ⟨j + 1, by omega, by go_num, by rw [HN.out]; first | rfl | (rw [HMX.out]), HX⟩
        case measure => simp [intOf]; omega
      · have hmx : max Q y = Q := by omega
        have HMX := Lib.hid hmx
        rw [hmx] at HN
        clear hmx
        go_wp2
        go_roundw
        case rel => exact ⟨j + 1, by omega, by go_num, by rw [HN.out]; first | rfl | (rw [HMX.out]), HX⟩
        case measure => simp [intOf]; omega
    · have hjl : j = c.length := by omega
      rw [hjl, List.take_length, HM.out]
      clear hj hlt hjl
      have x6 := HX.out
      clear HX
      go_wp2_with fail
      go_region_held3 (fun V => V.cell? ⟨w.heap.size, 0, none⟩ = some (.int .i64 N) ∧ V.cell? ⟨w.heap.size, 1, none⟩ = some (.slice ao E.length k)) (exact HG.out _ ((by repeat (first | exact Ext.refl _ | assumption | exact Hid.out (by assumption) | refine Ext.alloc ?_ _ | refine Ext.drew ?_ | refine Ext.drewN ?_ _ | refine Ext.trans ?_ (by assumption)))))
        (first
        | (go_at_call 13; have hgd := XR; refine (ownC_any _ _ c (HC.out.ext (Ext.trans ((Ext.refl w).alloc _) (by repeat (first | exact Ext.refl _ | assumption | exact Hid.out (by assumption) | refine Ext.alloc ?_ _ | refine Ext.drew ?_ | refine Ext.drewN ?_ _ | refine Ext.trans ?_ (by assumption))))) (by omega)).mono ?_; rintro e wD ⟨vD, rfl, sD, xD0⟩; have xD : Ext _ wD := xD0; clear xD0; obtain ⟨aD, nD, cD, rfl⟩ := sD.sh; have SD := Lib.hid sD.sl; clear sD hgd)
        | (go_at_call 13; refine (ownC_any _ _ c (HC.out.ext (Ext.trans ((Ext.refl w).alloc _) (by repeat (first | exact Ext.refl _ | assumption | exact Hid.out (by assumption) | refine Ext.alloc ?_ _ | refine Ext.drew ?_ | refine Ext.drewN ?_ _ | refine Ext.trans ?_ (by assumption))))) (by omega)).mono ?_; rintro e wB ⟨vB, rfl, sB, xB0⟩; have xB : Ext _ wB := xB0; clear xB0; obtain ⟨aB, nB, cB, rfl⟩ := sB.sh; have SB := Lib.hid sB.sl; clear sB)
        | (go_at_call 12; refine (own_any _ N _ E (HS.out.ext (Ext.trans ((Ext.refl w).alloc _) (by repeat (first | exact Ext.refl _ | assumption | exact Hid.out (by assumption) | refine Ext.alloc ?_ _ | refine Ext.drew ?_ | refine Ext.drewN ?_ _ | refine Ext.trans ?_ (by assumption))))) (by omega)).mono ?_; rintro e wA ⟨vA, rfl, sA, xA⟩; obtain ⟨aA, nA, cA, rfl⟩ := sA.sh; have SA := Lib.hid sA; clear sA)
        | (go_at_call 14; refine (right_any _ N _ _ E c (SA.out.ext (by repeat (first | exact Ext.refl _ | assumption | exact Hid.out (by assumption) | refine Ext.alloc ?_ _ | refine Ext.drew ?_ | refine Ext.drewN ?_ _ | refine Ext.trans ?_ (by assumption)))) (SB.out.ext (by repeat (first | exact Ext.refl _ | assumption | exact Hid.out (by assumption) | refine Ext.alloc ?_ _ | refine Ext.drew ?_ | refine Ext.drewN ?_ _ | refine Ext.trans ?_ (by assumption)))) R HRI.out).mono ?_; rintro e wR ⟨rfl, xR⟩; have XR := Lib.hid (rfl : 0 = 0))
        | (go_at_call 15; refine (refRight_any _ N _ _ E c (HS.out.ext (Ext.trans ((Ext.refl w).alloc _) (by repeat (first | exact Ext.refl _ | assumption | exact Hid.out (by assumption) | refine Ext.alloc ?_ _ | refine Ext.drew ?_ | refine Ext.drewN ?_ _ | refine Ext.trans ?_ (by assumption))))) (HC.out.ext (Ext.trans ((Ext.refl w).alloc _) (by repeat (first | exact Ext.refl _ | assumption | exact Hid.out (by assumption) | refine Ext.alloc ?_ _ | refine Ext.drew ?_ | refine Ext.drewN ?_ _ | refine Ext.trans ?_ (by assumption))))) R HRD.out).mono ?_; rintro e wQ ⟨rfl, xQ⟩)
        | (go_at_call 16; refine (most_any _ _ c (SD.out.ext (by repeat (first | exact Ext.refl _ | assumption | exact Hid.out (by assumption) | refine Ext.alloc ?_ _ | refine Ext.drew ?_ | refine Ext.drewN ?_ _ | refine Ext.trans ?_ (by assumption)))) M HM.out).mono ?_; rintro e wM ⟨rfl, xM⟩))
      all_goals
        go_wp2_with (first
          | (go_at_call 17; refine (refCheck_val _ N _ E (HS.out.ext (Ext.trans ((Ext.refl w).alloc _) (by repeat (first | exact Ext.refl _ | assumption | exact Hid.out (by assumption) | refine Ext.alloc ?_ _ | refine Ext.drew ?_ | refine Ext.drewN ?_ _ | refine Ext.trans ?_ (by assumption))))) false HO.out).mono ?_; rintro e wK ⟨rfl, xK⟩; obtain ⟨pK, qK⟩ := HG.out wK (by repeat (first | exact Ext.refl _ | assumption | exact Hid.out (by assumption) | refine Ext.alloc ?_ _ | refine Ext.drew ?_ | refine Ext.drewN ?_ _ | refine Ext.trans ?_ (by assumption)))))
        go_ret
        exact ⟨rfl, Ext.trans ((Ext.refl w).alloc _) (by repeat (first | exact Ext.refl _ | assumption | exact Hid.out (by assumption) | refine Ext.alloc ?_ _ | refine Ext.drew ?_ | refine Ext.drewN ?_ _ | refine Ext.trans ?_ (by assumption)))⟩

set_option maxHeartbeats 8000000 in
theorem colourRounds_B (w : World) (N : Int) (ao : Option Addr) (k : Nat) (E : List Edge) (co : Option Addr) (cc : Nat) (c : List Int) (h : Sl w (.slice ao E.length k) E) (hc : Sl w (.slice co c.length cc) c) (hf : (decide (E.length ≤ 60) && decide (c.length ≤ 70)) = true) (ok : OkG N E) (hf2 : cForm N c = false) :
    Calls Try.prog 3 #[.agg #[.int .i64 N, .slice ao E.length k], .slice co c.length cc] w (GivesB w (.bool true)) := by
  have hEl := h.length_le
  have hCl := hc.length_le
  have HS := Lib.hid h
  have HC := Lib.hid hc
  have HF := Lib.hid hf
  have HG := Lib.hid (graph_at w N (.slice ao E.length k))
  have hE60 : E.length ≤ 60 := by simp at hf; omega
  have hC70 : c.length ≤ 70 := by simp at hf; omega
  clear h hf hc
  have hr : roundR N E c = 110 := by unfold roundR; rw [okG_iff.2 ok, hf2]; rfl
  have HR := Lib.hid hr
  have HD : Hid ((if (110 : Int) = 0 then roundL N E c else []) = []) := Lib.hid rfl
  have HO := Lib.hid (okG_iff.2 ok)
  have HFM := Lib.hid hf2
  clear hr ok hf2
  obtain ⟨M, hM⟩ : ∃ M, mostL c = M := ⟨_, rfl⟩
  obtain ⟨R, hR⟩ : ∃ R, rightB N E c = R := ⟨_, rfl⟩
  have HM := Lib.hid hM
  have HRI := Lib.hid hR
  have HRD := Lib.hid ((right_eq N E c).symm.trans hR)
  have hMM : (M != M) = false := by simp
  have hRR : (R != R) = false := by simp
  clear hM hR
  go_enter Try.func3, Try.ntmps3
  go_wp2_with (first
    | (go_at_call 9; refine (awakeC_any _).mono ?_; rintro e w1 ⟨rfl, x1⟩; have X1 := Lib.hid (x1); obtain ⟨p1, q1⟩ := HG.out w1 X1.out; clear x1)
    | (go_at_call 10; refine (fewC_any _ N ao k co cc E c (by omega) (by omega) _ HF.out).mono ?_; rintro e w2 ⟨rfl, x2⟩; have X2 := Lib.hid (Ext.trans X1.out x2); obtain ⟨p2, q2⟩ := HG.out w2 X2.out; clear x2)
    | (go_at_call 12; refine (own_any _ N _ E (HS.out.ext (Ext.trans ((Ext.refl w).alloc _) X2.out)) (by omega)).mono ?_; rintro e w3 ⟨v3, rfl, s3, x3⟩; obtain ⟨a3, n3, c3, rfl⟩ := s3.sh; have X3 := Lib.hid (Ext.trans X2.out x3); have S3 := Lib.hid s3; obtain ⟨p3, q3⟩ := HG.out w3 X3.out; clear x3 s3)
    | (go_at_call 13; refine (ownC_any _ _ c (HC.out.ext (Ext.trans ((Ext.refl w).alloc _) X3.out)) (by omega)).mono ?_; rintro e w4 ⟨v4, rfl, s4, x4⟩; obtain ⟨a4, n4, c4, rfl⟩ := s4.sh; have X4 := Lib.hid (Ext.trans X3.out x4); have x4k := Lib.hid x4; have S4 := Lib.hid s4.sl; obtain ⟨p4, q4⟩ := HG.out w4 X4.out; clear x4 s4)
    | (go_at_call 11; refine (round_any _ N _ _ E c (S3.out.ext (Below.mono (x4k.out) (Nat.le_refl _))) S4.out 110 HR.out [] HD.out).mono ?_; rintro e w5 ⟨v5, rfl, s5, x5⟩; obtain ⟨a5, c5, rfl⟩ := s5.len; have X5 := Lib.hid (Ext.trans X4.out x5); have S5 := Lib.hid s5; obtain ⟨p5, q5⟩ := HG.out w5 X5.out; clear x5 s5))
  go_loopw [7, 8] (fun s i wr => ∃ j : Nat, j ≤ c.length ∧ i = .int .i64 j ∧ s = .int .i64 (mostL (c.take j)) ∧ Hid (Ext w5 wr)) (fun _ i _ => c.length - (intOf i).toNat)
  case atStart => exact ⟨0, Nat.zero_le _, rfl, rfl, Lib.hid (Ext.refl _)⟩
  case round =>
    obtain ⟨j, hj, rfl, rfl, HX⟩ := hrel
    have X6 := Lib.hid (Ext.trans X5.out HX.out)
    obtain ⟨p6, q6⟩ := HG.out wr X6.out
    by_cases hlt : j < c.length
    · obtain ⟨b, off, rfl, hn, hnc, hc63, hb, hcell⟩ := HC.out.intsAt hlt
      have hya := (Below.cell (Ext.trans ((Ext.refl w).alloc _) X6.out) (p := ⟨b, off + j, none⟩) hb).trans hcell
      obtain ⟨y, hy⟩ : ∃ y, y = c.getD j 0 := ⟨_, rfl⟩
      rw [← hy] at hya
      have HN : Hid (mostL (c.take (j + 1)) = max (mostL (c.take j)) y) := Lib.hid (by rw [mostL_next hlt, hy])
      clear hy hcell hn
      obtain ⟨Q, hQ⟩ : ∃ Q, Q = mostL (c.take j) := ⟨_, rfl⟩
      rw [← hQ] at HN ⊢
      clear hQ
      rcases Int.lt_or_le Q y with hcmp | hcmp
      · have hmx : max Q y = y := by omega
        have HMX := Lib.hid hmx
        rw [hmx] at HN
        clear hmx
        go_wp2
        go_roundw
        case rel => exact ⟨j + 1, by omega, by go_num, by rw [HN.out]; first | rfl | (rw [HMX.out]), HX⟩
        case measure => simp [intOf]; omega
      · have hmx : max Q y = Q := by omega
        have HMX := Lib.hid hmx
        rw [hmx] at HN
        clear hmx
        go_wp2
        go_roundw
        case rel => exact ⟨j + 1, by omega, by go_num, by rw [HN.out]; first | rfl | (rw [HMX.out]), HX⟩
        case measure => simp [intOf]; omega
    · have hjl : j = c.length := by omega
      rw [hjl, List.take_length, HM.out]
      clear hj hlt hjl
      have x6 := HX.out
      clear HX
      go_wp2_with fail
      go_region_held3 (fun V => V.cell? ⟨w.heap.size, 0, none⟩ = some (.int .i64 N) ∧ V.cell? ⟨w.heap.size, 1, none⟩ = some (.slice ao E.length k)) (exact HG.out _ ((by repeat (first | exact Ext.refl _ | assumption | exact Hid.out (by assumption) | refine Ext.alloc ?_ _ | refine Ext.drew ?_ | refine Ext.drewN ?_ _ | refine Ext.trans ?_ (by assumption)))))
        (first
        | (go_at_call 13; have hgd := XR; refine (ownC_any _ _ c (HC.out.ext (Ext.trans ((Ext.refl w).alloc _) (by repeat (first | exact Ext.refl _ | assumption | exact Hid.out (by assumption) | refine Ext.alloc ?_ _ | refine Ext.drew ?_ | refine Ext.drewN ?_ _ | refine Ext.trans ?_ (by assumption))))) (by omega)).mono ?_; rintro e wD ⟨vD, rfl, sD, xD0⟩; have xD : Ext _ wD := xD0; clear xD0; obtain ⟨aD, nD, cD, rfl⟩ := sD.sh; have SD := Lib.hid sD.sl; clear sD hgd)
        | (go_at_call 13; refine (ownC_any _ _ c (HC.out.ext (Ext.trans ((Ext.refl w).alloc _) (by repeat (first | exact Ext.refl _ | assumption | exact Hid.out (by assumption) | refine Ext.alloc ?_ _ | refine Ext.drew ?_ | refine Ext.drewN ?_ _ | refine Ext.trans ?_ (by assumption))))) (by omega)).mono ?_; rintro e wB ⟨vB, rfl, sB, xB0⟩; have xB : Ext _ wB := xB0; clear xB0; obtain ⟨aB, nB, cB, rfl⟩ := sB.sh; have SB := Lib.hid sB.sl; clear sB)
        | (go_at_call 12; refine (own_any _ N _ E (HS.out.ext (Ext.trans ((Ext.refl w).alloc _) (by repeat (first | exact Ext.refl _ | assumption | exact Hid.out (by assumption) | refine Ext.alloc ?_ _ | refine Ext.drew ?_ | refine Ext.drewN ?_ _ | refine Ext.trans ?_ (by assumption))))) (by omega)).mono ?_; rintro e wA ⟨vA, rfl, sA, xA⟩; obtain ⟨aA, nA, cA, rfl⟩ := sA.sh; have SA := Lib.hid sA; clear sA)
        | (go_at_call 14; refine (right_any _ N _ _ E c (SA.out.ext (by repeat (first | exact Ext.refl _ | assumption | exact Hid.out (by assumption) | refine Ext.alloc ?_ _ | refine Ext.drew ?_ | refine Ext.drewN ?_ _ | refine Ext.trans ?_ (by assumption)))) (SB.out.ext (by repeat (first | exact Ext.refl _ | assumption | exact Hid.out (by assumption) | refine Ext.alloc ?_ _ | refine Ext.drew ?_ | refine Ext.drewN ?_ _ | refine Ext.trans ?_ (by assumption)))) R HRI.out).mono ?_; rintro e wR ⟨rfl, xR⟩; have XR := Lib.hid (rfl : 0 = 0))
        | (go_at_call 15; refine (refRight_any _ N _ _ E c (HS.out.ext (Ext.trans ((Ext.refl w).alloc _) (by repeat (first | exact Ext.refl _ | assumption | exact Hid.out (by assumption) | refine Ext.alloc ?_ _ | refine Ext.drew ?_ | refine Ext.drewN ?_ _ | refine Ext.trans ?_ (by assumption))))) (HC.out.ext (Ext.trans ((Ext.refl w).alloc _) (by repeat (first | exact Ext.refl _ | assumption | exact Hid.out (by assumption) | refine Ext.alloc ?_ _ | refine Ext.drew ?_ | refine Ext.drewN ?_ _ | refine Ext.trans ?_ (by assumption))))) R HRD.out).mono ?_; rintro e wQ ⟨rfl, xQ⟩)
        | (go_at_call 16; refine (most_any _ _ c (SD.out.ext (by repeat (first | exact Ext.refl _ | assumption | exact Hid.out (by assumption) | refine Ext.alloc ?_ _ | refine Ext.drew ?_ | refine Ext.drewN ?_ _ | refine Ext.trans ?_ (by assumption)))) M HM.out).mono ?_; rintro e wM ⟨rfl, xM⟩))
      all_goals
        go_wp2_with (first
          | (go_at_call 17; refine (refCheck_val _ N _ E (HS.out.ext (Ext.trans ((Ext.refl w).alloc _) (by repeat (first | exact Ext.refl _ | assumption | exact Hid.out (by assumption) | refine Ext.alloc ?_ _ | refine Ext.drew ?_ | refine Ext.drewN ?_ _ | refine Ext.trans ?_ (by assumption))))) true HO.out).mono ?_; rintro e wK ⟨rfl, xK⟩; obtain ⟨pK, qK⟩ := HG.out wK (by repeat (first | exact Ext.refl _ | assumption | exact Hid.out (by assumption) | refine Ext.alloc ?_ _ | refine Ext.drew ?_ | refine Ext.drewN ?_ _ | refine Ext.trans ?_ (by assumption))))
          | (go_at_call 18; refine (refCheckC_any _ N _ _ c ⟨_, _, _, rfl⟩ (HC.out.ext (Ext.trans ((Ext.refl w).alloc _) (by repeat (first | exact Ext.refl _ | assumption | exact Hid.out (by assumption) | refine Ext.alloc ?_ _ | refine Ext.drew ?_ | refine Ext.drewN ?_ _ | refine Ext.trans ?_ (by assumption))))) false HFM.out).mono ?_; rintro e wL ⟨rfl, xL⟩; obtain ⟨pL, qL⟩ := HG.out wL (by repeat (first | exact Ext.refl _ | assumption | exact Hid.out (by assumption) | refine Ext.alloc ?_ _ | refine Ext.drew ?_ | refine Ext.drewN ?_ _ | refine Ext.trans ?_ (by assumption)))))
        go_ret
        exact ⟨rfl, Ext.trans ((Ext.refl w).alloc _) (by repeat (first | exact Ext.refl _ | assumption | exact Hid.out (by assumption) | refine Ext.alloc ?_ _ | refine Ext.drew ?_ | refine Ext.drewN ?_ _ | refine Ext.trans ?_ (by assumption)))⟩

set_option maxHeartbeats 8000000 in
theorem colourRounds_C (w : World) (N : Int) (ao : Option Addr) (k : Nat) (E : List Edge) (co : Option Addr) (cc : Nat) (c : List Int) (h : Sl w (.slice ao E.length k) E) (hc : Sl w (.slice co c.length cc) c) (hf : (decide (E.length ≤ 60) && decide (c.length ≤ 70)) = true) (ok : OkG N E) (hf2 : cForm N c = true) :
    Calls Try.prog 3 #[.agg #[.int .i64 N, .slice ao E.length k], .slice co c.length cc] w (GivesB w (.bool true)) := by
  have hEl := h.length_le
  have hCl := hc.length_le
  have HS := Lib.hid h
  have HC := Lib.hid hc
  have HF := Lib.hid hf
  have HG := Lib.hid (graph_at w N (.slice ao E.length k))
  have hE60 : E.length ≤ 60 := by simp at hf; omega
  have hC70 : c.length ≤ 70 := by simp at hf; omega
  clear h hf hc
  have hr : roundR N E c = 0 := by unfold roundR; rw [okG_iff.2 ok, hf2]; rfl
  have HR := Lib.hid hr
  obtain ⟨D, hD⟩ : ∃ D, D = roundL N E c := ⟨_, rfl⟩
  have HD : Hid ((if (0 : Int) = 0 then roundL N E c else []) = D) := Lib.hid (by rw [if_pos rfl, hD])
  have HDD := Lib.hid hD
  have HO := Lib.hid (okG_iff.2 ok)
  have HOK := Lib.hid ok
  have HFM := Lib.hid hf2
  have HCN := Lib.hid (form_iff.1 hf2).1
  have hDl : D.length ≤ 64 := by rw [hD, roundL_length]; have := ok.n64; omega
  clear hr ok hf2 hD
  obtain ⟨M, hM⟩ : ∃ M, mostL c = M := ⟨_, rfl⟩
  obtain ⟨R, hR⟩ : ∃ R, rightB N E c = R := ⟨_, rfl⟩
  have HM := Lib.hid hM
  have HRI := Lib.hid hR
  have HRD := Lib.hid ((right_eq N E c).symm.trans hR)
  have hMM : (M != M) = false := by simp
  have hRR : (R != R) = false := by simp
  clear hM hR
  go_enter Try.func3, Try.ntmps3
  go_wp2_with (first
    | (go_at_call 9; refine (awakeC_any _).mono ?_; rintro e w1 ⟨rfl, x1⟩; have X1 := Lib.hid (x1); obtain ⟨p1, q1⟩ := HG.out w1 X1.out; clear x1)
    | (go_at_call 10; refine (fewC_any _ N ao k co cc E c (by omega) (by omega) _ HF.out).mono ?_; rintro e w2 ⟨rfl, x2⟩; have X2 := Lib.hid (Ext.trans X1.out x2); obtain ⟨p2, q2⟩ := HG.out w2 X2.out; clear x2)
    | (go_at_call 12; refine (own_any _ N _ E (HS.out.ext (Ext.trans ((Ext.refl w).alloc _) X2.out)) (by omega)).mono ?_; rintro e w3 ⟨v3, rfl, s3, x3⟩; obtain ⟨a3, n3, c3, rfl⟩ := s3.sh; have X3 := Lib.hid (Ext.trans X2.out x3); have S3 := Lib.hid s3; obtain ⟨p3, q3⟩ := HG.out w3 X3.out; clear x3 s3)
    | (go_at_call 13; refine (ownC_any _ _ c (HC.out.ext (Ext.trans ((Ext.refl w).alloc _) X3.out)) (by omega)).mono ?_; rintro e w4 ⟨v4, rfl, s4, x4⟩; obtain ⟨a4, n4, c4, rfl⟩ := s4.sh; have X4 := Lib.hid (Ext.trans X3.out x4); have x4k := Lib.hid x4; have S4 := Lib.hid s4.sl; obtain ⟨p4, q4⟩ := HG.out w4 X4.out; clear x4 s4)
    | (go_at_call 11; refine (round_any _ N _ _ E c (S3.out.ext (Below.mono (x4k.out) (Nat.le_refl _))) S4.out 0 HR.out D HD.out).mono ?_; rintro e w5 ⟨v5, rfl, s5, x5⟩; obtain ⟨a5, c5, rfl⟩ := s5.len; have X5 := Lib.hid (Ext.trans X4.out x5); have S5 := Lib.hid s5; obtain ⟨p5, q5⟩ := HG.out w5 X5.out; clear x5 s5))
  go_loopw [7, 8] (fun s i wr => ∃ j : Nat, j ≤ c.length ∧ i = .int .i64 j ∧ s = .int .i64 (mostL (c.take j)) ∧ Hid (Ext w5 wr)) (fun _ i _ => c.length - (intOf i).toNat)
  case atStart => exact ⟨0, Nat.zero_le _, rfl, rfl, Lib.hid (Ext.refl _)⟩
  case round =>
    obtain ⟨j, hj, rfl, rfl, HX⟩ := hrel
    have X6 := Lib.hid (Ext.trans X5.out HX.out)
    obtain ⟨p6, q6⟩ := HG.out wr X6.out
    by_cases hlt : j < c.length
    · obtain ⟨b, off, rfl, hn, hnc, hc63, hb, hcell⟩ := HC.out.intsAt hlt
      have hya := (Below.cell (Ext.trans ((Ext.refl w).alloc _) X6.out) (p := ⟨b, off + j, none⟩) hb).trans hcell
      obtain ⟨y, hy⟩ : ∃ y, y = c.getD j 0 := ⟨_, rfl⟩
      rw [← hy] at hya
      have HN : Hid (mostL (c.take (j + 1)) = max (mostL (c.take j)) y) := Lib.hid (by rw [mostL_next hlt, hy])
      clear hy hcell hn
      obtain ⟨Q, hQ⟩ : ∃ Q, Q = mostL (c.take j) := ⟨_, rfl⟩
      rw [← hQ] at HN ⊢
      clear hQ
      rcases Int.lt_or_le Q y with hcmp | hcmp
      · have hmx : max Q y = y := by omega
        have HMX := Lib.hid hmx
        rw [hmx] at HN
        clear hmx
        go_wp2
        go_roundw
        case rel => exact ⟨j + 1, by omega, by go_num, by rw [HN.out]; first | rfl | (rw [HMX.out]), HX⟩
        case measure => simp [intOf]; omega
      · have hmx : max Q y = Q := by omega
        have HMX := Lib.hid hmx
        rw [hmx] at HN
        clear hmx
        go_wp2
        go_roundw
        case rel => exact ⟨j + 1, by omega, by go_num, by rw [HN.out]; first | rfl | (rw [HMX.out]), HX⟩
        case measure => simp [intOf]; omega
    · have hjl : j = c.length := by omega
      rw [hjl, List.take_length, HM.out]
      clear hj hlt hjl
      have x6 := HX.out
      clear HX
      go_wp2_with fail
      go_region_held3 (fun V => V.cell? ⟨w.heap.size, 0, none⟩ = some (.int .i64 N) ∧ V.cell? ⟨w.heap.size, 1, none⟩ = some (.slice ao E.length k)) (exact HG.out _ ((by repeat (first | exact Ext.refl _ | assumption | exact Hid.out (by assumption) | refine Ext.alloc ?_ _ | refine Ext.drew ?_ | refine Ext.drewN ?_ _ | refine Ext.trans ?_ (by assumption)))))
        (first
        | (go_at_call 13; have hgd := XR; refine (ownC_any _ _ c (HC.out.ext (Ext.trans ((Ext.refl w).alloc _) (by repeat (first | exact Ext.refl _ | assumption | exact Hid.out (by assumption) | refine Ext.alloc ?_ _ | refine Ext.drew ?_ | refine Ext.drewN ?_ _ | refine Ext.trans ?_ (by assumption))))) (by omega)).mono ?_; rintro e wD ⟨vD, rfl, sD, xD0⟩; have xD : Ext _ wD := xD0; clear xD0; obtain ⟨aD, nD, cD, rfl⟩ := sD.sh; have SD := Lib.hid sD.sl; clear sD hgd)
        | (go_at_call 13; refine (ownC_any _ _ c (HC.out.ext (Ext.trans ((Ext.refl w).alloc _) (by repeat (first | exact Ext.refl _ | assumption | exact Hid.out (by assumption) | refine Ext.alloc ?_ _ | refine Ext.drew ?_ | refine Ext.drewN ?_ _ | refine Ext.trans ?_ (by assumption))))) (by omega)).mono ?_; rintro e wB ⟨vB, rfl, sB, xB0⟩; have xB : Ext _ wB := xB0; clear xB0; obtain ⟨aB, nB, cB, rfl⟩ := sB.sh; have SB := Lib.hid sB.sl; clear sB)
        | (go_at_call 12; refine (own_any _ N _ E (HS.out.ext (Ext.trans ((Ext.refl w).alloc _) (by repeat (first | exact Ext.refl _ | assumption | exact Hid.out (by assumption) | refine Ext.alloc ?_ _ | refine Ext.drew ?_ | refine Ext.drewN ?_ _ | refine Ext.trans ?_ (by assumption))))) (by omega)).mono ?_; rintro e wA ⟨vA, rfl, sA, xA⟩; obtain ⟨aA, nA, cA, rfl⟩ := sA.sh; have SA := Lib.hid sA; clear sA)
        | (go_at_call 14; refine (right_any _ N _ _ E c (SA.out.ext (by repeat (first | exact Ext.refl _ | assumption | exact Hid.out (by assumption) | refine Ext.alloc ?_ _ | refine Ext.drew ?_ | refine Ext.drewN ?_ _ | refine Ext.trans ?_ (by assumption)))) (SB.out.ext (by repeat (first | exact Ext.refl _ | assumption | exact Hid.out (by assumption) | refine Ext.alloc ?_ _ | refine Ext.drew ?_ | refine Ext.drewN ?_ _ | refine Ext.trans ?_ (by assumption)))) R HRI.out).mono ?_; rintro e wR ⟨rfl, xR⟩; have XR := Lib.hid (rfl : 0 = 0))
        | (go_at_call 15; refine (refRight_any _ N _ _ E c (HS.out.ext (Ext.trans ((Ext.refl w).alloc _) (by repeat (first | exact Ext.refl _ | assumption | exact Hid.out (by assumption) | refine Ext.alloc ?_ _ | refine Ext.drew ?_ | refine Ext.drewN ?_ _ | refine Ext.trans ?_ (by assumption))))) (HC.out.ext (Ext.trans ((Ext.refl w).alloc _) (by repeat (first | exact Ext.refl _ | assumption | exact Hid.out (by assumption) | refine Ext.alloc ?_ _ | refine Ext.drew ?_ | refine Ext.drewN ?_ _ | refine Ext.trans ?_ (by assumption))))) R HRD.out).mono ?_; rintro e wQ ⟨rfl, xQ⟩)
        | (go_at_call 16; refine (most_any _ _ c (SD.out.ext (by repeat (first | exact Ext.refl _ | assumption | exact Hid.out (by assumption) | refine Ext.alloc ?_ _ | refine Ext.drew ?_ | refine Ext.drewN ?_ _ | refine Ext.trans ?_ (by assumption)))) M HM.out).mono ?_; rintro e wM ⟨rfl, xM⟩))
      all_goals
        go_wp2_with (first
          | (go_at_call 17; refine (refCheck_val _ N _ E (HS.out.ext (Ext.trans ((Ext.refl w).alloc _) (by repeat (first | exact Ext.refl _ | assumption | exact Hid.out (by assumption) | refine Ext.alloc ?_ _ | refine Ext.drew ?_ | refine Ext.drewN ?_ _ | refine Ext.trans ?_ (by assumption))))) true HO.out).mono ?_; rintro e wK ⟨rfl, xK⟩; obtain ⟨pK, qK⟩ := HG.out wK (by repeat (first | exact Ext.refl _ | assumption | exact Hid.out (by assumption) | refine Ext.alloc ?_ _ | refine Ext.drew ?_ | refine Ext.drewN ?_ _ | refine Ext.trans ?_ (by assumption))))
          | (go_at_call 18; refine (refCheckC_any _ N _ _ c ⟨_, _, _, rfl⟩ (HC.out.ext (Ext.trans ((Ext.refl w).alloc _) (by repeat (first | exact Ext.refl _ | assumption | exact Hid.out (by assumption) | refine Ext.alloc ?_ _ | refine Ext.drew ?_ | refine Ext.drewN ?_ _ | refine Ext.trans ?_ (by assumption))))) true HFM.out).mono ?_; rintro e wL ⟨rfl, xL⟩; obtain ⟨pL, qL⟩ := HG.out wL (by repeat (first | exact Ext.refl _ | assumption | exact Hid.out (by assumption) | refine Ext.alloc ?_ _ | refine Ext.drew ?_ | refine Ext.drewN ?_ _ | refine Ext.trans ?_ (by assumption))))
          | (go_at_call 20; refine (refRound_any _ N _ _ E c (HS.out.ext (Ext.trans ((Ext.refl w).alloc _) (by repeat (first | exact Ext.refl _ | assumption | exact Hid.out (by assumption) | refine Ext.alloc ?_ _ | refine Ext.drew ?_ | refine Ext.drewN ?_ _ | refine Ext.trans ?_ (by assumption))))) (HC.out.ext (Ext.trans ((Ext.refl w).alloc _) (by repeat (first | exact Ext.refl _ | assumption | exact Hid.out (by assumption) | refine Ext.alloc ?_ _ | refine Ext.drew ?_ | refine Ext.drewN ?_ _ | refine Ext.trans ?_ (by assumption))))) HOK.out HCN.out).mono ?_; rintro e wN ⟨vN, rfl, sN, xN0⟩; have xN : Ext _ wN := xN0; clear xN0; obtain ⟨aN, nN, cN, rfl⟩ := sN.sh; have SN := Lib.hid sN.sl; clear sN)
          | (go_at_call 19; refine (refSame_val true _ _ _ _ _ (S5.out.ext (by repeat (first | exact Ext.refl _ | assumption | exact Hid.out (by assumption) | refine Ext.alloc ?_ _ | refine Ext.drew ?_ | refine Ext.drewN ?_ _ | refine Ext.trans ?_ (by assumption)))) (SN.out.ext (by repeat (first | exact Ext.refl _ | assumption | exact Hid.out (by assumption) | refine Ext.alloc ?_ _ | refine Ext.drew ?_ | refine Ext.drewN ?_ _ | refine Ext.trans ?_ (by assumption)))) (by rw [HDD.out]; simp)).mono ?_; rintro e wO ⟨rfl, dO⟩; have xO := Ext.of_drew dO; clear dO))
        go_ret
        exact ⟨rfl, Ext.trans ((Ext.refl w).alloc _) (by repeat (first | exact Ext.refl _ | assumption | exact Hid.out (by assumption) | refine Ext.alloc ?_ _ | refine Ext.drew ?_ | refine Ext.drewN ?_ _ | refine Ext.trans ?_ (by assumption)))⟩

theorem colourRounds_any (w : World) (N : Int) (ao : Option Addr) (k : Nat) (E : List Edge) (co : Option Addr) (cc : Nat) (c : List Int) (h : Sl w (.slice ao E.length k) E) (hc : Sl w (.slice co c.length cc) c) :
    Calls Try.prog 3 #[.agg #[.int .i64 N, .slice ao E.length k], .slice co c.length cc] w (GivesB w (.bool true)) := by
  cases hf : (decide (E.length ≤ 60) && decide (c.length ≤ 70)) with
  | false => exact colourRounds_long w N ao k E co cc c h hc hf
  | true =>
    by_cases ok : OkG N E
    · cases hf2 : cForm N c with
      | false => exact colourRounds_B w N ao k E co cc c h hc hf ok hf2
      | true => exact colourRounds_C w N ao k E co cc c h hc hf ok hf2
    · exact colourRounds_A w N ao k E co cc c h hc hf ok

end Go.Proofs.Ytalncechmhmdcaa
