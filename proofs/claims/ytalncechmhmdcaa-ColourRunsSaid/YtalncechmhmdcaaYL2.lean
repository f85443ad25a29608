/- Layer 11's law ColourRuns, walked. -/
import Derived.Test.YtalncechmhmdcaaYA
namespace Go.Proofs.Ytalncechmhmdcaa
open Go.RowKit

set_option maxHeartbeats 8000000 in
theorem colourRuns_long (w : World) (N : Int) (ao : Option Addr) (k : Nat) (E : List Edge) (h : Sl w (.slice ao E.length k) E) (hf : (decide (E.length ≤ 60) && decide (([] : List Int).length ≤ 70)) = false) :
    Calls Try.prog 4 #[.agg #[.int .i64 N, .slice ao E.length k]] w (GivesB w (.bool true)) := by
  have hEl := h.length_le
  have HS := Lib.hid h
  have HF := Lib.hid hf
  have HG := Lib.hid (graph_at w N (.slice ao E.length k))
  clear h hf
  go_enter Try.func4, Try.ntmps4
  go_wp2_with (first
    | (go_at_call 9; have hgd := X2; refine (awakeC_any _).mono ?_; rintro e w3 ⟨rfl, x3⟩; have X3 := Lib.hid (Ext.trans X2.out x3); obtain ⟨p3, q3⟩ := HG.out w3 X3.out; clear x3 hgd)
    | (go_at_call 9; refine (awakeC_any _).mono ?_; rintro e w1 ⟨rfl, x1⟩; have X1 := Lib.hid (x1); obtain ⟨p1, q1⟩ := HG.out w1 X1.out; clear x1)
    | (go_at_call 10; refine (fewC_any _ N ao k none 0 E [] (by omega) (by first | omega | simp) _ HF.out).mono ?_; rintro e w2 ⟨rfl, x2⟩; have X2 := Lib.hid (Ext.trans X1.out x2); obtain ⟨p2, q2⟩ := HG.out w2 X2.out; clear x2))
  go_ret
  exact ⟨rfl, Ext.trans ((Ext.refl w).alloc _) X3.out⟩

set_option maxHeartbeats 8000000 in
theorem colourRuns_A (w : World) (N : Int) (ao : Option Addr) (k : Nat) (E : List Edge) (h : Sl w (.slice ao E.length k) E) (hf : (decide (E.length ≤ 60) && decide (([] : List Int).length ≤ 70)) = true) (ok : ¬ OkG N E) :
    Calls Try.prog 4 #[.agg #[.int .i64 N, .slice ao E.length k]] w (GivesB w (.bool true)) := by
  have hEl := h.length_le
  have HS := Lib.hid h
  have HF := Lib.hid hf
  have HG := Lib.hid (graph_at w N (.slice ao E.length k))
  have hE60 : E.length ≤ 60 := by simp at hf; omega
  clear h hf
  have HNK := Lib.hid ok
  have HO := Lib.hid (okG_not ok)
  clear ok
  go_enter Try.func4, Try.ntmps4
  go_wp2_with (first
    | (go_at_call 9; refine (awakeC_any _).mono ?_; rintro e w1 ⟨rfl, x1⟩; have X1 := Lib.hid (x1); obtain ⟨p1, q1⟩ := HG.out w1 X1.out; clear x1)
    | (go_at_call 10; refine (fewC_any _ N ao k none 0 E [] (by omega) (by first | omega | simp) _ HF.out).mono ?_; rintro e w2 ⟨rfl, x2⟩; have X2 := Lib.hid (Ext.trans X1.out x2); obtain ⟨p2, q2⟩ := HG.out w2 X2.out; clear x2)
    | (go_at_call 12; refine (own_any _ N _ E (HS.out.ext (Ext.trans ((Ext.refl w).alloc _) X2.out)) (by omega)).mono ?_; rintro e w3 ⟨v3, rfl, s3, x3⟩; obtain ⟨a3, n3, c3, rfl⟩ := s3.sh; have X3 := Lib.hid (Ext.trans X2.out x3); have S3 := Lib.hid s3; obtain ⟨p3, q3⟩ := HG.out w3 X3.out; clear x3 s3)
    | (go_at_call 21; refine (run_bad _ N _ E (S3.out) HNK.out).mono ?_; rintro e w4 ⟨v4, rfl, s4, x4⟩; obtain ⟨a4, c4, rfl⟩ := s4.len; have X4 := Lib.hid (Ext.trans X3.out x4); have S4 := Lib.hid s4; obtain ⟨p4, q4⟩ := HG.out w4 X4.out; clear x4 s4)
    | (go_at_call 17; refine (refCheck_val _ N _ E (HS.out.ext (Ext.trans ((Ext.refl w).alloc _) X4.out)) false HO.out).mono ?_; rintro e w5 ⟨rfl, x5⟩; have X5 := Lib.hid (Ext.trans X4.out x5); obtain ⟨p5, q5⟩ := HG.out w5 X5.out; clear x5))
  go_ret
  exact ⟨rfl, Ext.trans ((Ext.refl w).alloc _) X5.out⟩

set_option maxHeartbeats 8000000 in
theorem colourRuns_B (w : World) (N : Int) (ao : Option Addr) (k : Nat) (E : List Edge) (h : Sl w (.slice ao E.length k) E) (hf : (decide (E.length ≤ 60) && decide (([] : List Int).length ≤ 70)) = true) (ok : OkG N E) (K : Nat) (hK : Ends N E K) :
    Calls Try.prog 4 #[.agg #[.int .i64 N, .slice ao E.length k]] w (GivesB w (.bool true)) := by
  have hEl := h.length_le
  have HS := Lib.hid h
  have HF := Lib.hid hf
  have HG := Lib.hid (graph_at w N (.slice ao E.length k))
  have hE60 : E.length ≤ 60 := by simp at hf; omega
  clear h hf
  have HOK := Lib.hid ok
  have HK := Lib.hid hK
  have HO := Lib.hid (okG_iff.2 ok)
  have n0 := ok.n0
  have n64 := ok.n64
  have hKN := hK.le ok
  obtain ⟨D, hD⟩ : ∃ D, D = itr N E K := ⟨_, rfl⟩
  have HDD := Lib.hid hD
  have hDl : (D.length : Int) = N := by rw [hD, itr_length]; omega
  have HDL := Lib.hid hDl
  have hD64 : D.length ≤ 64 := by omega
  clear ok hK hD
  go_enter Try.func4, Try.ntmps4
  go_wp2_with (first
    | (go_at_call 9; refine (awakeC_any _).mono ?_; rintro e w1 ⟨rfl, x1⟩; have X1 := Lib.hid (x1); obtain ⟨p1, q1⟩ := HG.out w1 X1.out; clear x1)
    | (go_at_call 10; refine (fewC_any _ N ao k none 0 E [] (by omega) (by first | omega | simp) _ HF.out).mono ?_; rintro e w2 ⟨rfl, x2⟩; have X2 := Lib.hid (Ext.trans X1.out x2); obtain ⟨p2, q2⟩ := HG.out w2 X2.out; clear x2)
    | (go_at_call 12; refine (own_any _ N _ E (HS.out.ext (Ext.trans ((Ext.refl w).alloc _) X2.out)) (by omega)).mono ?_; rintro e w3 ⟨v3, rfl, s3, x3⟩; obtain ⟨a3, n3, c3, rfl⟩ := s3.sh; have X3 := Lib.hid (Ext.trans X2.out x3); have S3 := Lib.hid s3; obtain ⟨p3, q3⟩ := HG.out w3 X3.out; clear x3 s3)
    | (go_at_call 21; refine (run_ok _ N _ E (S3.out) HOK.out K HK.out).mono ?_; rintro e w4 ⟨v4, rfl, s4, x4⟩; rw [← HDD.out] at s4; obtain ⟨a4, c4, rfl⟩ := s4.len; have X4 := Lib.hid (Ext.trans X3.out x4); have S4 := Lib.hid s4; obtain ⟨p4, q4⟩ := HG.out w4 X4.out; clear x4 s4)
    | (go_at_call 17; refine (refCheck_val _ N _ E (HS.out.ext (Ext.trans ((Ext.refl w).alloc _) X4.out)) true HO.out).mono ?_; rintro e w5 ⟨rfl, x5⟩; have X5 := Lib.hid (Ext.trans X4.out x5); have x5k := Lib.hid x5; obtain ⟨p5, q5⟩ := HG.out w5 X5.out; clear x5)
    | (go_at_call 22; refine (refRun_any _ N _ E (HS.out.ext (Ext.trans ((Ext.refl w).alloc _) X5.out)) HOK.out K HK.out).mono ?_; rintro e w6 ⟨v6, rfl, s6, x6⟩; rw [← HDD.out] at s6; obtain ⟨a6, c6, rfl⟩ := s6.len; have X6 := Lib.hid (Ext.trans X5.out x6); have Z6 := Lib.hid (S4.out.ext (Ext.trans x5k.out x6)); have S6 := Lib.hid s6; clear x6 s6)
    | (go_at_call 19; refine (refSame_val true _ _ _ D D Z6.out S6.out (by simp)).mono ?_; rintro e w7 ⟨rfl, d7⟩; have X7 := Lib.hid (Ext.trans X6.out (Ext.of_drew d7)); clear d7))
  go_ret
  exact ⟨rfl, Ext.trans ((Ext.refl w).alloc _) X7.out⟩

theorem colourRuns_any (w : World) (N : Int) (ao : Option Addr) (k : Nat) (E : List Edge) (h : Sl w (.slice ao E.length k) E) :
    Calls Try.prog 4 #[.agg #[.int .i64 N, .slice ao E.length k]] w (GivesB w (.bool true)) := by
  cases hf : (decide (E.length ≤ 60) && decide (([] : List Int).length ≤ 70)) with
  | false => exact colourRuns_long w N ao k E h hf
  | true =>
    by_cases ok : OkG N E
    · obtain ⟨K, hK⟩ := ends_some ok
      exact colourRuns_B w N ao k E h hf ok K hK
    · exact colourRuns_A w N ao k E h hf ok

end Go.Proofs.Ytalncechmhmdcaa
