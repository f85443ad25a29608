/- Layer 11's law ColourRight, walked. -/
import Derived.Test.YtalncechmhmdcaaYA
namespace Go.Proofs.Ytalncechmhmdcaa
open Go.RowKit

set_option maxHeartbeats 8000000 in
theorem colourRight_long (w : World) (N : Int) (ao : Option Addr) (k : Nat) (E : List Edge) (h : Sl w (.slice ao E.length k) E) (hf : (decide (E.length ≤ 60) && decide (([] : List Int).length ≤ 70)) = false) :
    Calls Try.prog 5 #[.agg #[.int .i64 N, .slice ao E.length k]] w (GivesB w (.bool true)) := by
  have hEl := h.length_le
  have HS := Lib.hid h
  have HF := Lib.hid hf
  have HG := Lib.hid (graph_at w N (.slice ao E.length k))
  clear h hf
  go_enter Try.func5, Try.ntmps5
  go_wp2_with (first
    | (go_at_call 9; have hgd := X2; refine (awakeC_any _).mono ?_; rintro e w3 ⟨rfl, x3⟩; have X3 := Lib.hid (Ext.trans X2.out x3); obtain ⟨p3, q3⟩ := HG.out w3 X3.out; clear x3 hgd)
    | (go_at_call 9; refine (awakeC_any _).mono ?_; rintro e w1 ⟨rfl, x1⟩; have X1 := Lib.hid (x1); obtain ⟨p1, q1⟩ := HG.out w1 X1.out; clear x1)
    | (go_at_call 10; refine (fewC_any _ N ao k none 0 E [] (by omega) (by first | omega | simp) _ HF.out).mono ?_; rintro e w2 ⟨rfl, x2⟩; have X2 := Lib.hid (Ext.trans X1.out x2); obtain ⟨p2, q2⟩ := HG.out w2 X2.out; clear x2))
  go_ret
  exact ⟨rfl, Ext.trans ((Ext.refl w).alloc _) X3.out⟩

set_option maxHeartbeats 8000000 in
theorem colourRight_A (w : World) (N : Int) (ao : Option Addr) (k : Nat) (E : List Edge) (h : Sl w (.slice ao E.length k) E) (hf : (decide (E.length ≤ 60) && decide (([] : List Int).length ≤ 70)) = true) (ok : ¬ OkG N E) :
    Calls Try.prog 5 #[.agg #[.int .i64 N, .slice ao E.length k]] w (GivesB w (.bool true)) := by
  have hEl := h.length_le
  have HS := Lib.hid h
  have HF := Lib.hid hf
  have HG := Lib.hid (graph_at w N (.slice ao E.length k))
  have hE60 : E.length ≤ 60 := by simp at hf; omega
  clear h hf
  have HNK := Lib.hid ok
  clear ok
  go_enter Try.func5, Try.ntmps5
  go_wp2_with (first
    | (go_at_call 9; refine (awakeC_any _).mono ?_; rintro e w1 ⟨rfl, x1⟩; have X1 := Lib.hid (x1); obtain ⟨p1, q1⟩ := HG.out w1 X1.out; clear x1)
    | (go_at_call 10; refine (fewC_any _ N ao k none 0 E [] (by omega) (by first | omega | simp) _ HF.out).mono ?_; rintro e w2 ⟨rfl, x2⟩; have X2 := Lib.hid (Ext.trans X1.out x2); obtain ⟨p2, q2⟩ := HG.out w2 X2.out; clear x2)
    | (go_at_call 12; refine (own_any _ N _ E (HS.out.ext (Ext.trans ((Ext.refl w).alloc _) X2.out)) (by omega)).mono ?_; rintro e w3 ⟨v3, rfl, s3, x3⟩; obtain ⟨a3, n3, c3, rfl⟩ := s3.sh; have X3 := Lib.hid (Ext.trans X2.out x3); have S3 := Lib.hid s3; obtain ⟨p3, q3⟩ := HG.out w3 X3.out; clear x3 s3)
    | (go_at_call 21; refine (run_bad _ N _ E (S3.out) HNK.out).mono ?_; rintro e w4 ⟨v4, rfl, s4, x4⟩; obtain ⟨a4, c4, rfl⟩ := s4.len; have X4 := Lib.hid (Ext.trans X3.out x4); have S4 := Lib.hid s4; obtain ⟨p4, q4⟩ := HG.out w4 X4.out; clear x4 s4))
  go_ret
  exact ⟨rfl, Ext.trans ((Ext.refl w).alloc _) X4.out⟩

set_option maxHeartbeats 8000000 in
theorem colourRight_B (w : World) (N : Int) (ao : Option Addr) (k : Nat) (E : List Edge) (h : Sl w (.slice ao E.length k) E) (hf : (decide (E.length ≤ 60) && decide (([] : List Int).length ≤ 70)) = true) (ok : OkG N E) (K : Nat) (hK : Ends N E K) :
    Calls Try.prog 5 #[.agg #[.int .i64 N, .slice ao E.length k]] w (GivesB w (.bool true)) := by
  have hEl := h.length_le
  have HS := Lib.hid h
  have HF := Lib.hid hf
  have HG := Lib.hid (graph_at w N (.slice ao E.length k))
  have hE60 : E.length ≤ 60 := by simp at hf; omega
  clear h hf
  have HOK := Lib.hid ok
  have HK := Lib.hid hK
  have HO := Lib.hid (okG_iff.2 ok)
  have n0 := ok.n0
  have n64 := ok.n64
  have hKN := hK.le ok
  obtain ⟨D, hD⟩ : ∃ D, D = itr N E K := ⟨_, rfl⟩
  have HDD := Lib.hid hD
  have hDl : (D.length : Int) = N := by rw [hD, itr_length]; omega
  have HDL := Lib.hid hDl
  have hD64 : D.length ≤ 64 := by omega
  have HL : Hid (∀ a : Nat, a < D.length → 1 ≤ D.getD a 0 ∧ D.getD a 0 ≤ (rnear N E a).length + 1) := Lib.hid fun a ha => by
    have l := hK.least ok (a := (a : Int)) (by omega) (by omega)
    have f := hK.few ok (a := (a : Int)) (by omega) (by omega)
    rw [← hD] at l f
    exact ⟨l.pos, f⟩
  have HRI := Lib.hid (hD ▸ hK.right ok)
  have hpos : (0 : Int) < K ∨ ((K : Int) = 0 ∧ N = 0) := by have := hK.pos ok; omega
  clear ok hK hD hDl
  go_enter Try.func5, Try.ntmps5
  go_wp2_with (first
    | (go_at_call 9; refine (awakeC_any _).mono ?_; rintro e w1 ⟨rfl, x1⟩; have X1 := Lib.hid (x1); obtain ⟨p1, q1⟩ := HG.out w1 X1.out; clear x1)
    | (go_at_call 10; refine (fewC_any _ N ao k none 0 E [] (by omega) (by first | omega | simp) _ HF.out).mono ?_; rintro e w2 ⟨rfl, x2⟩; have X2 := Lib.hid (Ext.trans X1.out x2); obtain ⟨p2, q2⟩ := HG.out w2 X2.out; clear x2)
    | (go_at_call 12; refine (own_any _ N _ E (HS.out.ext (Ext.trans ((Ext.refl w).alloc _) X2.out)) (by omega)).mono ?_; rintro e w3 ⟨v3, rfl, s3, x3⟩; obtain ⟨a3, n3, c3, rfl⟩ := s3.sh; have X3 := Lib.hid (Ext.trans X2.out x3); have S3 := Lib.hid s3; obtain ⟨p3, q3⟩ := HG.out w3 X3.out; clear x3 s3)
    | (go_at_call 21; refine (run_ok _ N _ E (S3.out) HOK.out K HK.out).mono ?_; rintro e w4 ⟨v4, rfl, s4, x4⟩; rw [← HDD.out] at s4; obtain ⟨a4, c4, rfl⟩ := s4.len; have X4 := Lib.hid (Ext.trans X3.out x4); have S4 := Lib.hid s4; obtain ⟨p4, q4⟩ := HG.out w4 X4.out; clear x4 s4))
  go_loopw [6] (fun i wr => ∃ j : Nat, j ≤ D.length ∧ i = .int .i64 j ∧ Hid (Ext w4 wr)) (fun i _ => D.length - (intOf i).toNat)
  case atStart => exact ⟨0, Nat.zero_le _, rfl, Lib.hid (Ext.refl _)⟩
  case round =>
    obtain ⟨j, hj, rfl, HX⟩ := hrel
    have X5 := Lib.hid (Ext.trans X4.out HX.out)
    obtain ⟨p5, q5⟩ := HG.out wr X5.out
    by_cases hlt : j < D.length
    · obtain ⟨b, off, rfl, hn, hnc, hc63, hb, hcell⟩ := S4.out.intsAt hlt
      obtain ⟨hy1, hy2⟩ := HL.out j hlt
      obtain ⟨y, hy⟩ : ∃ y, y = D.getD j 0 := ⟨_, rfl⟩
      rw [← hy] at hcell hy1 hy2
      have HCC : Hid (∀ V, Ext wr V → (V.cell? ⟨w.heap.size, 0, none⟩ = some (.int .i64 N) ∧ V.cell? ⟨w.heap.size, 1, none⟩ = some (.slice ao E.length k)) ∧ V.cell? ⟨b, off + j, none⟩ = some (.int .i64 y)) := Lib.hid fun V hV => ⟨HG.out V (Ext.trans X5.out hV), (Below.cell (Ext.trans HX.out hV) (p := ⟨b, off + j, none⟩) hb).trans hcell⟩
      have HLR := Lib.hid (rnear_length N E (j : Int))
      obtain ⟨Q, hQ⟩ : ∃ Q, Q = rnear N E (j : Int) := ⟨_, rfl⟩
      rw [← hQ] at hy2 HLR
      have HQ := Lib.hid hQ
      have hQ64 : Q.length ≤ 64 := by have := HLR.out; omega
      have hw1 : IntKind.i64.wrap ((Q.length : Int) + 1) = (Q.length : Int) + 1 := wrapN _ (by omega) (by omega)
      have HT1 : Hid (decide (y < 1) = false) := Lib.hid (decide_eq_false (by omega))
      have HT2 : Hid (decide ((Q.length : Int) + 1 < y) = false) := Lib.hid (decide_eq_false (by omega))
      clear hy hcell hQ hy1 hy2 hn
      go_wp2_with fail
      (refine wp_region_X_lit (K := fun V => (V.cell? ⟨w.heap.size, 0, none⟩ = some (.int .i64 N) ∧ V.cell? ⟨w.heap.size, 1, none⟩ = some (.slice ao E.length k)) ∧ V.cell? ⟨b, off + j, none⟩ = some (.int .i64 y)) (by kernel_rfl) (fun w1 hw1 => ?_))
      have HX1 := Lib.hid (Ext.trans HX.out hw1)
      have HK1 := Lib.hid (HCC.out w1 hw1)
      have HE1 := Lib.hid hw1
      have ht1 : decide (y < 1) = false := HT1.out
      clear hw1
      refine xtv 0 (h := ?_)
      refine xtv 1 (h := ?_)
      refine xtv 2 (h := ?_)
      refine xtv 3 (hv := by intro w' hw'; have hc := hw'.2; go_simp; first | done | with_reducible rfl) (h := ?_)
      refine xtv 4 (h := ?_)
      refine xtv 5 (h := ?_)
      refine xtv 6 (h := ?_)
      refine xtv 7 (h := ?_)
      refine xtv 8 (h := ?_)
      refine xtv 9 (hv := by intro w' hw'; have hc := hw'.2; go_simp; first | done | with_reducible rfl) (h := ?_)
      refine xtv 10 (hv := by intro w' hw'; have hc := hw'.1.1; have hc2 := hw'.1.2; go_simp; first | done | with_reducible rfl) (h := ?_)
      refine xtv 11 (h := ?_)
      refine xone 12 (hk := HK1.out) (h := RunX.of 12 (h := ?_))
      go_simp
      refine (refNear_any w1 N _ E (j : Int) (HS.out.ext (Ext.trans ((Ext.refl w).alloc _) (Ext.trans X4.out HX1.out))) HOK.out).mono ?_
      rintro e2 wA ⟨vA, rfl, sA, xA0⟩
      rw [← HQ.out] at sA
      obtain ⟨aA, cA, rfl⟩ := sA.sl.len
      have HE2 := Lib.hid (Ext.trans HE1.out xA0)
      have HX2 := Lib.hid (Ext.trans HX1.out xA0)
      clear sA xA0
      dsimp only
      (try (simp only [Act.put, List.setIfInBounds_toArray, List.set]))
      have ht2 : decide ((Q.length : Int) + 1 < y) = false := HT2.out
      refine xtv 13 (h := ?_)
      refine xtv 14 (h := ?_)
      refine xtv 15 (h := ?_)
      refine xtv 16 (h := ?_)
      (refine xdone (by kernel_rfl) (HCC.out wA HE2.out) ?_)
      go_wp2
      go_roundw
      case rel => exact ⟨j + 1, by omega, by go_num, HX2⟩
      case measure => simp [intOf]; omega
    · have S5 := Lib.hid (S4.out.ext HX.out)
      rcases hpos with hp | ⟨hp, hp2⟩
      · have hq : decide ((0 : Int) < K) = true := decide_eq_true hp
        have hq2 : decide ((K : Int) ≤ N) = true := decide_eq_true hKN
        have HP := Lib.hid hp
        clear hp
        go_wp2_with (first
          | (go_at_call 12; refine (own_any _ _ _ E (HS.out.ext (Ext.trans ((Ext.refl w).alloc _) X5.out)) (by omega)).mono ?_; rintro e w6 ⟨v6, rfl, s6, x6⟩; obtain ⟨a6, n6, c6, rfl⟩ := s6.sh; have X6 := Lib.hid (Ext.trans X5.out x6); have Z6 := Lib.hid (S5.out.ext x6); have S6 := Lib.hid s6; obtain ⟨p6, q6⟩ := HG.out w6 X6.out; clear x6 s6)
          | (go_at_call 13; refine (ownC_any _ _ D Z6.out (by omega)).mono ?_; rintro e w7 ⟨v7, rfl, s7, x7⟩; obtain ⟨a7, n7, c7, rfl⟩ := s7.sh; have X7 := Lib.hid (Ext.trans X6.out x7); have Z7 := Lib.hid (S6.out.ext x7); have S7 := Lib.hid s7.sl; obtain ⟨p7, q7⟩ := HG.out w7 X7.out; clear x7 s7)
          | (go_at_call 14; refine (right_any _ _ _ _ E D Z7.out S7.out true HRI.out).mono ?_; rintro e w8 ⟨rfl, x8⟩; have X8 := Lib.hid (Ext.trans X7.out x8); obtain ⟨p8, q8⟩ := HG.out w8 X8.out; clear x8))
        all_goals first
          | (exfalso; have := HP.out; omega)
          | (go_ret; exact ⟨rfl, Ext.trans ((Ext.refl w).alloc _) X8.out⟩)
      · have hK0 : K = 0 := by omega
        subst hp2
        subst hK0
        go_wp2_with (first
          | (go_at_call 12; refine (own_any _ _ _ E (HS.out.ext (Ext.trans ((Ext.refl w).alloc _) X5.out)) (by omega)).mono ?_; rintro e w6 ⟨v6, rfl, s6, x6⟩; obtain ⟨a6, n6, c6, rfl⟩ := s6.sh; have X6 := Lib.hid (Ext.trans X5.out x6); have Z6 := Lib.hid (S5.out.ext x6); have S6 := Lib.hid s6; obtain ⟨p6, q6⟩ := HG.out w6 X6.out; clear x6 s6)
          | (go_at_call 13; refine (ownC_any _ _ D Z6.out (by omega)).mono ?_; rintro e w7 ⟨v7, rfl, s7, x7⟩; obtain ⟨a7, n7, c7, rfl⟩ := s7.sh; have X7 := Lib.hid (Ext.trans X6.out x7); have Z7 := Lib.hid (S6.out.ext x7); have S7 := Lib.hid s7.sl; obtain ⟨p7, q7⟩ := HG.out w7 X7.out; clear x7 s7)
          | (go_at_call 14; refine (right_any _ _ _ _ E D Z7.out S7.out true HRI.out).mono ?_; rintro e w8 ⟨rfl, x8⟩; have X8 := Lib.hid (Ext.trans X7.out x8); obtain ⟨p8, q8⟩ := HG.out w8 X8.out; clear x8))
        go_ret
        exact ⟨rfl, Ext.trans ((Ext.refl w).alloc _) X8.out⟩

theorem colourRight_any (w : World) (N : Int) (ao : Option Addr) (k : Nat) (E : List Edge) (h : Sl w (.slice ao E.length k) E) :
    Calls Try.prog 5 #[.agg #[.int .i64 N, .slice ao E.length k]] w (GivesB w (.bool true)) := by
  cases hf : (decide (E.length ≤ 60) && decide (([] : List Int).length ≤ 70)) with
  | false => exact colourRight_long w N ao k E h hf
  | true =>
    by_cases ok : OkG N E
    · obtain ⟨K, hK⟩ := ends_some ok
      exact colourRight_B w N ao k E h hf ok K hK
    · exact colourRight_A w N ao k E h hf ok

end Go.Proofs.Ytalncechmhmdcaa
