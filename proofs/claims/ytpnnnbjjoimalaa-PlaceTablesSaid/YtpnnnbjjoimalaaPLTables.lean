/- Layer 12's law PlaceTables, walked. -/
import Derived.Test.YtpnnnbjjoimalaaPA
import Derived.Test.YtpnnnbjjoimalaaY9
namespace Go.Proofs.Ytpnnnbjjoimalaa
open Go.RowKit

set_option maxRecDepth 100000 in
set_option maxHeartbeats 8000000 in
theorem placeTables_longE (w : World) (N : Int) (ao : Option Addr) (k : Nat) (E : List Edge) (co : Option Addr) (cc : Nat) (c : List Int) (h : Sl w (.slice ao E.length k) E) (hc : Sl w (.slice co c.length cc) c) (hf : ¬ (E.length : Int) ≤ 60) :
    Calls Try.prog 3 #[.agg #[.int .i64 N, .slice ao E.length k], .slice co c.length cc] w (GivesB w (.bool true)) := by
  have BX : Ext w (w.alloc (.cells #[.int .i64 N, .slice ao E.length k] 24)) := (Ext.refl w).alloc _
  have HD := Lib.hid (graph_at w N (.slice ao E.length k))
  have HE := Lib.hid h
  have hEl := h.length_le
  have HC := Lib.hid hc
  have hCl := hc.length_le
  clear h hc
  go_enter Try.func3, Try.ntmps3
  go_wp2_with (first
    | (have hgd := X1; clear hgd; go_at_call 9; refine (awakeP_any _).mono ?_; rintro e w2 ⟨rfl, x2⟩; have X2 : Hid (Ext (w.alloc (.cells #[.int .i64 N, .slice ao E.length k] 24)) w2) := Lib.hid (by repeat (first | exact Ext.refl _ | assumption | exact Hid.out (by assumption) | refine Ext.alloc ?_ _ | refine Ext.drew ?_ | refine Ext.drewN ?_ _ | refine Ext.trans ?_ (by assumption))); have z2 := x2; clear x2; obtain ⟨y20, y21⟩ := HD.out w2 (by repeat (first | exact Ext.refl _ | assumption | exact Hid.out (by assumption) | refine Ext.alloc ?_ _ | refine Ext.drew ?_ | refine Ext.drewN ?_ _ | refine Ext.trans ?_ (by assumption))))
    | (go_at_call 9; refine (awakeP_any _).mono ?_; rintro e w1 ⟨rfl, x1⟩; have X1 : Hid (Ext (w.alloc (.cells #[.int .i64 N, .slice ao E.length k] 24)) w1) := Lib.hid (by repeat (first | exact Ext.refl _ | assumption | exact Hid.out (by assumption) | refine Ext.alloc ?_ _ | refine Ext.drew ?_ | refine Ext.drewN ?_ _ | refine Ext.trans ?_ (by assumption))); have z1 := x1; clear x1; obtain ⟨y10, y11⟩ := HD.out w1 (by repeat (first | exact Ext.refl _ | assumption | exact Hid.out (by assumption) | refine Ext.alloc ?_ _ | refine Ext.drew ?_ | refine Ext.drewN ?_ _ | refine Ext.trans ?_ (by assumption)))))
  go_ret
  exact ⟨rfl, BX.trans (by repeat (first | exact Ext.refl _ | assumption | exact Hid.out (by assumption) | refine Ext.alloc ?_ _ | refine Ext.drew ?_ | refine Ext.drewN ?_ _ | refine Ext.trans ?_ (by assumption)))⟩

set_option maxRecDepth 100000 in
set_option maxHeartbeats 8000000 in
theorem placeTables_longC (w : World) (N : Int) (ao : Option Addr) (k : Nat) (E : List Edge) (co : Option Addr) (cc : Nat) (c : List Int) (h : Sl w (.slice ao E.length k) E) (hc : Sl w (.slice co c.length cc) c) (hf : (E.length : Int) ≤ 60) (hg : ¬ (c.length : Int) ≤ 70) :
    Calls Try.prog 3 #[.agg #[.int .i64 N, .slice ao E.length k], .slice co c.length cc] w (GivesB w (.bool true)) := by
  have BX : Ext w (w.alloc (.cells #[.int .i64 N, .slice ao E.length k] 24)) := (Ext.refl w).alloc _
  have HD := Lib.hid (graph_at w N (.slice ao E.length k))
  have HE := Lib.hid h
  have hEl := h.length_le
  have HC := Lib.hid hc
  have hCl := hc.length_le
  clear h hc
  go_enter Try.func3, Try.ntmps3
  go_wp2_with (first
    | (have hgd := X1; clear hgd; go_at_call 9; refine (awakeP_any _).mono ?_; rintro e w2 ⟨rfl, x2⟩; have X2 : Hid (Ext (w.alloc (.cells #[.int .i64 N, .slice ao E.length k] 24)) w2) := Lib.hid (by repeat (first | exact Ext.refl _ | assumption | exact Hid.out (by assumption) | refine Ext.alloc ?_ _ | refine Ext.drew ?_ | refine Ext.drewN ?_ _ | refine Ext.trans ?_ (by assumption))); have z2 := x2; clear x2; obtain ⟨y20, y21⟩ := HD.out w2 (by repeat (first | exact Ext.refl _ | assumption | exact Hid.out (by assumption) | refine Ext.alloc ?_ _ | refine Ext.drew ?_ | refine Ext.drewN ?_ _ | refine Ext.trans ?_ (by assumption))))
    | (go_at_call 9; refine (awakeP_any _).mono ?_; rintro e w1 ⟨rfl, x1⟩; have X1 : Hid (Ext (w.alloc (.cells #[.int .i64 N, .slice ao E.length k] 24)) w1) := Lib.hid (by repeat (first | exact Ext.refl _ | assumption | exact Hid.out (by assumption) | refine Ext.alloc ?_ _ | refine Ext.drew ?_ | refine Ext.drewN ?_ _ | refine Ext.trans ?_ (by assumption))); have z1 := x1; clear x1; obtain ⟨y10, y11⟩ := HD.out w1 (by repeat (first | exact Ext.refl _ | assumption | exact Hid.out (by assumption) | refine Ext.alloc ?_ _ | refine Ext.drew ?_ | refine Ext.drewN ?_ _ | refine Ext.trans ?_ (by assumption)))))
  go_ret
  exact ⟨rfl, BX.trans (by repeat (first | exact Ext.refl _ | assumption | exact Hid.out (by assumption) | refine Ext.alloc ?_ _ | refine Ext.drew ?_ | refine Ext.drewN ?_ _ | refine Ext.trans ?_ (by assumption)))⟩

set_option maxRecDepth 100000 in
set_option maxHeartbeats 8000000 in
theorem placeTables_A (w : World) (N : Int) (ao : Option Addr) (k : Nat) (E : List Edge) (co : Option Addr) (cc : Nat) (c : List Int) (h : Sl w (.slice ao E.length k) E) (hc : Sl w (.slice co c.length cc) c) (hf : (E.length : Int) ≤ 60) (hg : (c.length : Int) ≤ 70) (ho : okG N E = false) :
    Calls Try.prog 3 #[.agg #[.int .i64 N, .slice ao E.length k], .slice co c.length cc] w (GivesB w (.bool true)) := by
  have BX : Ext w (w.alloc (.cells #[.int .i64 N, .slice ao E.length k] 24)) := (Ext.refl w).alloc _
  have HD := Lib.hid (graph_at w N (.slice ao E.length k))
  have HE := Lib.hid h
  have hEl := h.length_le
  have HC := Lib.hid hc
  have hCl := hc.length_le
  have HR : Hid (placeR N E c = 30) := Lib.hid (by unfold placeR; rw [ho]; rfl)
  have HT : Hid ((if (30 : Int) = 0 then tableL N E c else []) = []) := Lib.hid rfl
  have HO := Lib.hid ho
  clear ho
  clear h hc
  go_enter Try.func3, Try.ntmps3
  go_wp2_with (first
    | (go_at_call 9; refine (awakeP_any _).mono ?_; rintro e w1 ⟨rfl, x1⟩; have X1 : Hid (Ext (w.alloc (.cells #[.int .i64 N, .slice ao E.length k] 24)) w1) := Lib.hid (by repeat (first | exact Ext.refl _ | assumption | exact Hid.out (by assumption) | refine Ext.alloc ?_ _ | refine Ext.drew ?_ | refine Ext.drewN ?_ _ | refine Ext.trans ?_ (by assumption))); have z1 := x1; clear x1; obtain ⟨y10, y11⟩ := HD.out w1 (by repeat (first | exact Ext.refl _ | assumption | exact Hid.out (by assumption) | refine Ext.alloc ?_ _ | refine Ext.drew ?_ | refine Ext.drewN ?_ _ | refine Ext.trans ?_ (by assumption))))
    | (go_at_call 11; refine (own_any _ N _ E (HE.out.ext (BX.trans (by repeat (first | exact Ext.refl _ | assumption | exact Hid.out (by assumption) | refine Ext.alloc ?_ _ | refine Ext.drew ?_ | refine Ext.drewN ?_ _ | refine Ext.trans ?_ (by assumption))))) (by omega)).mono ?_; rintro e w3 ⟨v3, rfl, s3, x3⟩; obtain ⟨a3, n3, c3, rfl⟩ := s3.sh; have S3 := Lib.hid s3; clear s3; have X3 : Hid (Ext (w.alloc (.cells #[.int .i64 N, .slice ao E.length k] 24)) w3) := Lib.hid (by repeat (first | exact Ext.refl _ | assumption | exact Hid.out (by assumption) | refine Ext.alloc ?_ _ | refine Ext.drew ?_ | refine Ext.drewN ?_ _ | refine Ext.trans ?_ (by assumption))); have z3 := x3; clear x3)
    | (at_builtin; refine wpList_append_sl (α := Int) rfl (.tmp 24) (.tmp 25) rfl w3.heap.size (.slice (some ⟨_, 0, none⟩) 0 0) [] rfl ?_ (.slice co c.length cc) c rfl ?_ ?_ ?_ ?_; exact (Ow.litAt w3 _ _ rfl (Nat.le_refl _) [] (by simp)); exact (HC.out.ext (BX.trans (by repeat (first | exact Ext.refl _ | assumption | exact Hid.out (by assumption) | refine Ext.alloc ?_ _ | refine Ext.drew ?_ | refine Ext.drewN ?_ _ | refine Ext.trans ?_ (by assumption))))); (first | omega | (simp; omega)); exact (by first | omega | (rw [size_alloc]; omega) | simp); intro v4 w4 ho4 ha4; have x4 : Ext w3 w4 := Below.trans ((Ext.refl w3).alloc _) ha4.below; obtain ⟨a4, n4, c4, rfl⟩ := ho4.sh; have S4 : Hid (Sl w4 (.slice a4 n4 c4) c) := Lib.hid ho4.sl; have X4 : Hid (Ext (w.alloc (.cells #[.int .i64 N, .slice ao E.length k] 24)) w4) := Lib.hid (by repeat (first | exact Ext.refl _ | assumption | exact Hid.out (by assumption) | refine Ext.alloc ?_ _ | refine Ext.drew ?_ | refine Ext.drewN ?_ _ | refine Ext.trans ?_ (by assumption))); have z4 := x4; clear x4; clear ho4 ha4)
    | (go_at_call 10; refine (pTable_any _ N _ _ E c (S3.out.ext (by repeat (first | exact Ext.refl _ | assumption | exact Hid.out (by assumption) | refine Ext.alloc ?_ _ | refine Ext.drew ?_ | refine Ext.drewN ?_ _ | refine Ext.trans ?_ (by assumption)))) (S4.out.ext (by repeat (first | exact Ext.refl _ | assumption | exact Hid.out (by assumption) | refine Ext.alloc ?_ _ | refine Ext.drew ?_ | refine Ext.drewN ?_ _ | refine Ext.trans ?_ (by assumption)))) 30 HR.out [] HT.out).mono ?_; rintro e w5 ⟨v5, rfl, s5, x5⟩; obtain ⟨a5, c5, rfl⟩ := s5.len; have S5 := Lib.hid s5; clear s5; have X5 : Hid (Ext (w.alloc (.cells #[.int .i64 N, .slice ao E.length k] 24)) w5) := Lib.hid (by repeat (first | exact Ext.refl _ | assumption | exact Hid.out (by assumption) | refine Ext.alloc ?_ _ | refine Ext.drew ?_ | refine Ext.drewN ?_ _ | refine Ext.trans ?_ (by assumption))); have z5 := x5; clear x5; obtain ⟨y50, y51⟩ := HD.out w5 (by repeat (first | exact Ext.refl _ | assumption | exact Hid.out (by assumption) | refine Ext.alloc ?_ _ | refine Ext.drew ?_ | refine Ext.drewN ?_ _ | refine Ext.trans ?_ (by assumption))))
    | (go_at_call 12; refine (refCheck_val _ N _ E (HE.out.ext (BX.trans (by repeat (first | exact Ext.refl _ | assumption | exact Hid.out (by assumption) | refine Ext.alloc ?_ _ | refine Ext.drew ?_ | refine Ext.drewN ?_ _ | refine Ext.trans ?_ (by assumption))))) false HO.out).mono ?_; rintro e w6 ⟨rfl, x6⟩; have X6 : Hid (Ext (w.alloc (.cells #[.int .i64 N, .slice ao E.length k] 24)) w6) := Lib.hid (by repeat (first | exact Ext.refl _ | assumption | exact Hid.out (by assumption) | refine Ext.alloc ?_ _ | refine Ext.drew ?_ | refine Ext.drewN ?_ _ | refine Ext.trans ?_ (by assumption))); have z6 := x6; clear x6; obtain ⟨y60, y61⟩ := HD.out w6 (by repeat (first | exact Ext.refl _ | assumption | exact Hid.out (by assumption) | refine Ext.alloc ?_ _ | refine Ext.drew ?_ | refine Ext.drewN ?_ _ | refine Ext.trans ?_ (by assumption)))))
  go_ret
  exact ⟨rfl, BX.trans (by repeat (first | exact Ext.refl _ | assumption | exact Hid.out (by assumption) | refine Ext.alloc ?_ _ | refine Ext.drew ?_ | refine Ext.drewN ?_ _ | refine Ext.trans ?_ (by assumption)))⟩

set_option maxRecDepth 100000 in
set_option maxHeartbeats 8000000 in
theorem placeTables_B (w : World) (N : Int) (ao : Option Addr) (k : Nat) (E : List Edge) (co : Option Addr) (cc : Nat) (c : List Int) (h : Sl w (.slice ao E.length k) E) (hc : Sl w (.slice co c.length cc) c) (hf : (E.length : Int) ≤ 60) (hg : (c.length : Int) ≤ 70) (ho : okG N E = true) (hr : rightB N E c = false) :
    Calls Try.prog 3 #[.agg #[.int .i64 N, .slice ao E.length k], .slice co c.length cc] w (GivesB w (.bool true)) := by
  have BX : Ext w (w.alloc (.cells #[.int .i64 N, .slice ao E.length k] 24)) := (Ext.refl w).alloc _
  have HD := Lib.hid (graph_at w N (.slice ao E.length k))
  have HE := Lib.hid h
  have hEl := h.length_le
  have HC := Lib.hid hc
  have hCl := hc.length_le
  have HR : Hid (placeR N E c = 120) := Lib.hid (by unfold placeR; rw [ho, hr]; rfl)
  have HT : Hid ((if (120 : Int) = 0 then tableL N E c else []) = []) := Lib.hid rfl
  have HO := Lib.hid ho
  have HRD := Lib.hid ((right_eq N E c).symm.trans hr)
  clear ho hr
  clear h hc
  go_enter Try.func3, Try.ntmps3
  go_wp2_with (first
    | (go_at_call 9; refine (awakeP_any _).mono ?_; rintro e w1 ⟨rfl, x1⟩; have X1 : Hid (Ext (w.alloc (.cells #[.int .i64 N, .slice ao E.length k] 24)) w1) := Lib.hid (by repeat (first | exact Ext.refl _ | assumption | exact Hid.out (by assumption) | refine Ext.alloc ?_ _ | refine Ext.drew ?_ | refine Ext.drewN ?_ _ | refine Ext.trans ?_ (by assumption))); have z1 := x1; clear x1; obtain ⟨y10, y11⟩ := HD.out w1 (by repeat (first | exact Ext.refl _ | assumption | exact Hid.out (by assumption) | refine Ext.alloc ?_ _ | refine Ext.drew ?_ | refine Ext.drewN ?_ _ | refine Ext.trans ?_ (by assumption))))
    | (go_at_call 11; refine (own_any _ N _ E (HE.out.ext (BX.trans (by repeat (first | exact Ext.refl _ | assumption | exact Hid.out (by assumption) | refine Ext.alloc ?_ _ | refine Ext.drew ?_ | refine Ext.drewN ?_ _ | refine Ext.trans ?_ (by assumption))))) (by omega)).mono ?_; rintro e w3 ⟨v3, rfl, s3, x3⟩; obtain ⟨a3, n3, c3, rfl⟩ := s3.sh; have S3 := Lib.hid s3; clear s3; have X3 : Hid (Ext (w.alloc (.cells #[.int .i64 N, .slice ao E.length k] 24)) w3) := Lib.hid (by repeat (first | exact Ext.refl _ | assumption | exact Hid.out (by assumption) | refine Ext.alloc ?_ _ | refine Ext.drew ?_ | refine Ext.drewN ?_ _ | refine Ext.trans ?_ (by assumption))); have z3 := x3; clear x3)
    | (at_builtin; refine wpList_append_sl (α := Int) rfl (.tmp 24) (.tmp 25) rfl w3.heap.size (.slice (some ⟨_, 0, none⟩) 0 0) [] rfl ?_ (.slice co c.length cc) c rfl ?_ ?_ ?_ ?_; exact (Ow.litAt w3 _ _ rfl (Nat.le_refl _) [] (by simp)); exact (HC.out.ext (BX.trans (by repeat (first | exact Ext.refl _ | assumption | exact Hid.out (by assumption) | refine Ext.alloc ?_ _ | refine Ext.drew ?_ | refine Ext.drewN ?_ _ | refine Ext.trans ?_ (by assumption))))); (first | omega | (simp; omega)); exact (by first | omega | (rw [size_alloc]; omega) | simp); intro v4 w4 ho4 ha4; have x4 : Ext w3 w4 := Below.trans ((Ext.refl w3).alloc _) ha4.below; obtain ⟨a4, n4, c4, rfl⟩ := ho4.sh; have S4 : Hid (Sl w4 (.slice a4 n4 c4) c) := Lib.hid ho4.sl; have X4 : Hid (Ext (w.alloc (.cells #[.int .i64 N, .slice ao E.length k] 24)) w4) := Lib.hid (by repeat (first | exact Ext.refl _ | assumption | exact Hid.out (by assumption) | refine Ext.alloc ?_ _ | refine Ext.drew ?_ | refine Ext.drewN ?_ _ | refine Ext.trans ?_ (by assumption))); have z4 := x4; clear x4; clear ho4 ha4)
    | (go_at_call 10; refine (pTable_any _ N _ _ E c (S3.out.ext (by repeat (first | exact Ext.refl _ | assumption | exact Hid.out (by assumption) | refine Ext.alloc ?_ _ | refine Ext.drew ?_ | refine Ext.drewN ?_ _ | refine Ext.trans ?_ (by assumption)))) (S4.out.ext (by repeat (first | exact Ext.refl _ | assumption | exact Hid.out (by assumption) | refine Ext.alloc ?_ _ | refine Ext.drew ?_ | refine Ext.drewN ?_ _ | refine Ext.trans ?_ (by assumption)))) 120 HR.out [] HT.out).mono ?_; rintro e w5 ⟨v5, rfl, s5, x5⟩; obtain ⟨a5, c5, rfl⟩ := s5.len; have S5 := Lib.hid s5; clear s5; have X5 : Hid (Ext (w.alloc (.cells #[.int .i64 N, .slice ao E.length k] 24)) w5) := Lib.hid (by repeat (first | exact Ext.refl _ | assumption | exact Hid.out (by assumption) | refine Ext.alloc ?_ _ | refine Ext.drew ?_ | refine Ext.drewN ?_ _ | refine Ext.trans ?_ (by assumption))); have z5 := x5; clear x5; obtain ⟨y50, y51⟩ := HD.out w5 (by repeat (first | exact Ext.refl _ | assumption | exact Hid.out (by assumption) | refine Ext.alloc ?_ _ | refine Ext.drew ?_ | refine Ext.drewN ?_ _ | refine Ext.trans ?_ (by assumption))))
    | (go_at_call 12; refine (refCheck_val _ N _ E (HE.out.ext (BX.trans (by repeat (first | exact Ext.refl _ | assumption | exact Hid.out (by assumption) | refine Ext.alloc ?_ _ | refine Ext.drew ?_ | refine Ext.drewN ?_ _ | refine Ext.trans ?_ (by assumption))))) true HO.out).mono ?_; rintro e w6 ⟨rfl, x6⟩; have X6 : Hid (Ext (w.alloc (.cells #[.int .i64 N, .slice ao E.length k] 24)) w6) := Lib.hid (by repeat (first | exact Ext.refl _ | assumption | exact Hid.out (by assumption) | refine Ext.alloc ?_ _ | refine Ext.drew ?_ | refine Ext.drewN ?_ _ | refine Ext.trans ?_ (by assumption))); have z6 := x6; clear x6; obtain ⟨y60, y61⟩ := HD.out w6 (by repeat (first | exact Ext.refl _ | assumption | exact Hid.out (by assumption) | refine Ext.alloc ?_ _ | refine Ext.drew ?_ | refine Ext.drewN ?_ _ | refine Ext.trans ?_ (by assumption))))
    | (go_at_call 13; refine (refRight_any _ N _ _ E c (HE.out.ext (BX.trans (by repeat (first | exact Ext.refl _ | assumption | exact Hid.out (by assumption) | refine Ext.alloc ?_ _ | refine Ext.drew ?_ | refine Ext.drewN ?_ _ | refine Ext.trans ?_ (by assumption))))) (HC.out.ext (BX.trans (by repeat (first | exact Ext.refl _ | assumption | exact Hid.out (by assumption) | refine Ext.alloc ?_ _ | refine Ext.drew ?_ | refine Ext.drewN ?_ _ | refine Ext.trans ?_ (by assumption))))) false HRD.out).mono ?_; rintro e w7 ⟨rfl, x7⟩; have X7 : Hid (Ext (w.alloc (.cells #[.int .i64 N, .slice ao E.length k] 24)) w7) := Lib.hid (by repeat (first | exact Ext.refl _ | assumption | exact Hid.out (by assumption) | refine Ext.alloc ?_ _ | refine Ext.drew ?_ | refine Ext.drewN ?_ _ | refine Ext.trans ?_ (by assumption))); have z7 := x7; clear x7; obtain ⟨y70, y71⟩ := HD.out w7 (by repeat (first | exact Ext.refl _ | assumption | exact Hid.out (by assumption) | refine Ext.alloc ?_ _ | refine Ext.drew ?_ | refine Ext.drewN ?_ _ | refine Ext.trans ?_ (by assumption)))))
  go_ret
  exact ⟨rfl, BX.trans (by repeat (first | exact Ext.refl _ | assumption | exact Hid.out (by assumption) | refine Ext.alloc ?_ _ | refine Ext.drew ?_ | refine Ext.drewN ?_ _ | refine Ext.trans ?_ (by assumption)))⟩

set_option maxRecDepth 100000 in
set_option maxHeartbeats 8000000 in
theorem placeTables_C (w : World) (N : Int) (ao : Option Addr) (k : Nat) (E : List Edge) (co : Option Addr) (cc : Nat) (c : List Int) (h : Sl w (.slice ao E.length k) E) (hc : Sl w (.slice co c.length cc) c) (hf : (E.length : Int) ≤ 60) (hg : (c.length : Int) ≤ 70) (ho : okG N E = true) (hr : rightB N E c = true) :
    Calls Try.prog 3 #[.agg #[.int .i64 N, .slice ao E.length k], .slice co c.length cc] w (GivesB w (.bool true)) := by
  have BX : Ext w (w.alloc (.cells #[.int .i64 N, .slice ao E.length k] 24)) := (Ext.refl w).alloc _
  have HD := Lib.hid (graph_at w N (.slice ao E.length k))
  have HE := Lib.hid h
  have hEl := h.length_le
  have HC := Lib.hid hc
  have hCl := hc.length_le
  have HR : Hid (placeR N E c = 0) := Lib.hid (by unfold placeR; rw [ho, hr]; rfl)
  have HT : Hid ((if (0 : Int) = 0 then tableL N E c else []) = tableL N E c) := Lib.hid rfl
  have HO := Lib.hid ho
  have HRD := Lib.hid ((right_eq N E c).symm.trans hr)
  have hN0 : 0 ≤ N := (okG_iff.1 ho).n0
  have hN64 : N ≤ 64 := (okG_iff.1 ho).n64
  have hCN : (c.length : Int) = N := by
    have h1 := (right_eq N E c).symm.trans hr
    unfold rightD at h1
    simp only [Bool.and_eq_true, decide_eq_true_eq] at h1
    exact h1.1.1.2.1
  have HN := Lib.hid (And.intro hN0 (And.intro hN64 hCN))
  clear ho hr hN0 hN64 hCN
  clear h hc
  go_enter Try.func3, Try.ntmps3
  go_wp2_with (first
    | (go_at_call 9; refine (awakeP_any _).mono ?_; rintro e w1 ⟨rfl, x1⟩; have X1 : Hid (Ext (w.alloc (.cells #[.int .i64 N, .slice ao E.length k] 24)) w1) := Lib.hid (by repeat (first | exact Ext.refl _ | assumption | exact Hid.out (by assumption) | refine Ext.alloc ?_ _ | refine Ext.drew ?_ | refine Ext.drewN ?_ _ | refine Ext.trans ?_ (by assumption))); have z1 := x1; clear x1; obtain ⟨y10, y11⟩ := HD.out w1 (by repeat (first | exact Ext.refl _ | assumption | exact Hid.out (by assumption) | refine Ext.alloc ?_ _ | refine Ext.drew ?_ | refine Ext.drewN ?_ _ | refine Ext.trans ?_ (by assumption))))
    | (go_at_call 11; refine (own_any _ N _ E (HE.out.ext (BX.trans (by repeat (first | exact Ext.refl _ | assumption | exact Hid.out (by assumption) | refine Ext.alloc ?_ _ | refine Ext.drew ?_ | refine Ext.drewN ?_ _ | refine Ext.trans ?_ (by assumption))))) (by omega)).mono ?_; rintro e w3 ⟨v3, rfl, s3, x3⟩; obtain ⟨a3, n3, c3, rfl⟩ := s3.sh; have S3 := Lib.hid s3; clear s3; have X3 : Hid (Ext (w.alloc (.cells #[.int .i64 N, .slice ao E.length k] 24)) w3) := Lib.hid (by repeat (first | exact Ext.refl _ | assumption | exact Hid.out (by assumption) | refine Ext.alloc ?_ _ | refine Ext.drew ?_ | refine Ext.drewN ?_ _ | refine Ext.trans ?_ (by assumption))); have z3 := x3; clear x3)
    | (at_builtin; refine wpList_append_sl (α := Int) rfl (.tmp 24) (.tmp 25) rfl w3.heap.size (.slice (some ⟨_, 0, none⟩) 0 0) [] rfl ?_ (.slice co c.length cc) c rfl ?_ ?_ ?_ ?_; exact (Ow.litAt w3 _ _ rfl (Nat.le_refl _) [] (by simp)); exact (HC.out.ext (BX.trans (by repeat (first | exact Ext.refl _ | assumption | exact Hid.out (by assumption) | refine Ext.alloc ?_ _ | refine Ext.drew ?_ | refine Ext.drewN ?_ _ | refine Ext.trans ?_ (by assumption))))); (first | omega | (simp; omega)); exact (by first | omega | (rw [size_alloc]; omega) | simp); intro v4 w4 ho4 ha4; have x4 : Ext w3 w4 := Below.trans ((Ext.refl w3).alloc _) ha4.below; obtain ⟨a4, n4, c4, rfl⟩ := ho4.sh; have S4 : Hid (Sl w4 (.slice a4 n4 c4) c) := Lib.hid ho4.sl; have X4 : Hid (Ext (w.alloc (.cells #[.int .i64 N, .slice ao E.length k] 24)) w4) := Lib.hid (by repeat (first | exact Ext.refl _ | assumption | exact Hid.out (by assumption) | refine Ext.alloc ?_ _ | refine Ext.drew ?_ | refine Ext.drewN ?_ _ | refine Ext.trans ?_ (by assumption))); have z4 := x4; clear x4; clear ho4 ha4)
    | (go_at_call 10; refine (pTable_any _ N _ _ E c (S3.out.ext (by repeat (first | exact Ext.refl _ | assumption | exact Hid.out (by assumption) | refine Ext.alloc ?_ _ | refine Ext.drew ?_ | refine Ext.drewN ?_ _ | refine Ext.trans ?_ (by assumption)))) (S4.out.ext (by repeat (first | exact Ext.refl _ | assumption | exact Hid.out (by assumption) | refine Ext.alloc ?_ _ | refine Ext.drew ?_ | refine Ext.drewN ?_ _ | refine Ext.trans ?_ (by assumption)))) 0 HR.out (tableL N E c) HT.out).mono ?_; rintro e w5 ⟨v5, rfl, s5, x5⟩; obtain ⟨a5, c5, rfl⟩ := s5.len; have S5 := Lib.hid s5; clear s5; have X5 : Hid (Ext (w.alloc (.cells #[.int .i64 N, .slice ao E.length k] 24)) w5) := Lib.hid (by repeat (first | exact Ext.refl _ | assumption | exact Hid.out (by assumption) | refine Ext.alloc ?_ _ | refine Ext.drew ?_ | refine Ext.drewN ?_ _ | refine Ext.trans ?_ (by assumption))); have z5 := x5; clear x5; obtain ⟨y50, y51⟩ := HD.out w5 (by repeat (first | exact Ext.refl _ | assumption | exact Hid.out (by assumption) | refine Ext.alloc ?_ _ | refine Ext.drew ?_ | refine Ext.drewN ?_ _ | refine Ext.trans ?_ (by assumption))))
    | (go_at_call 12; refine (refCheck_val _ N _ E (HE.out.ext (BX.trans (by repeat (first | exact Ext.refl _ | assumption | exact Hid.out (by assumption) | refine Ext.alloc ?_ _ | refine Ext.drew ?_ | refine Ext.drewN ?_ _ | refine Ext.trans ?_ (by assumption))))) true HO.out).mono ?_; rintro e w6 ⟨rfl, x6⟩; have X6 : Hid (Ext (w.alloc (.cells #[.int .i64 N, .slice ao E.length k] 24)) w6) := Lib.hid (by repeat (first | exact Ext.refl _ | assumption | exact Hid.out (by assumption) | refine Ext.alloc ?_ _ | refine Ext.drew ?_ | refine Ext.drewN ?_ _ | refine Ext.trans ?_ (by assumption))); have z6 := x6; clear x6; obtain ⟨y60, y61⟩ := HD.out w6 (by repeat (first | exact Ext.refl _ | assumption | exact Hid.out (by assumption) | refine Ext.alloc ?_ _ | refine Ext.drew ?_ | refine Ext.drewN ?_ _ | refine Ext.trans ?_ (by assumption))))
    | (go_at_call 13; refine (refRight_any _ N _ _ E c (HE.out.ext (BX.trans (by repeat (first | exact Ext.refl _ | assumption | exact Hid.out (by assumption) | refine Ext.alloc ?_ _ | refine Ext.drew ?_ | refine Ext.drewN ?_ _ | refine Ext.trans ?_ (by assumption))))) (HC.out.ext (BX.trans (by repeat (first | exact Ext.refl _ | assumption | exact Hid.out (by assumption) | refine Ext.alloc ?_ _ | refine Ext.drew ?_ | refine Ext.drewN ?_ _ | refine Ext.trans ?_ (by assumption))))) true HRD.out).mono ?_; rintro e w7 ⟨rfl, x7⟩; have X7 : Hid (Ext (w.alloc (.cells #[.int .i64 N, .slice ao E.length k] 24)) w7) := Lib.hid (by repeat (first | exact Ext.refl _ | assumption | exact Hid.out (by assumption) | refine Ext.alloc ?_ _ | refine Ext.drew ?_ | refine Ext.drewN ?_ _ | refine Ext.trans ?_ (by assumption))); have z7 := x7; clear x7; obtain ⟨y70, y71⟩ := HD.out w7 (by repeat (first | exact Ext.refl _ | assumption | exact Hid.out (by assumption) | refine Ext.alloc ?_ _ | refine Ext.drew ?_ | refine Ext.drewN ?_ _ | refine Ext.trans ?_ (by assumption))))
    | (go_at_call 15; refine (refTable_any _ N _ _ E c (HE.out.ext (BX.trans (by repeat (first | exact Ext.refl _ | assumption | exact Hid.out (by assumption) | refine Ext.alloc ?_ _ | refine Ext.drew ?_ | refine Ext.drewN ?_ _ | refine Ext.trans ?_ (by assumption))))) (HC.out.ext (BX.trans (by repeat (first | exact Ext.refl _ | assumption | exact Hid.out (by assumption) | refine Ext.alloc ?_ _ | refine Ext.drew ?_ | refine Ext.drewN ?_ _ | refine Ext.trans ?_ (by assumption))))) HN.out.1 HN.out.2.1 HN.out.2.2).mono ?_; rintro e w8 ⟨v8, rfl, s8, x8⟩; obtain ⟨a8, c8, rfl⟩ := s8.len; have S8 := Lib.hid (s8.ns (G := Non) (fun _ h => h) (fun _ h => False.elim h)); clear s8; have X8 : Hid (Ext (w.alloc (.cells #[.int .i64 N, .slice ao E.length k] 24)) w8) := Lib.hid (by repeat (first | exact Ext.refl _ | assumption | exact Hid.out (by assumption) | refine Ext.alloc ?_ _ | refine Ext.drew ?_ | refine Ext.drewN ?_ _ | refine Ext.trans ?_ (by assumption))); have z8 := x8; clear x8)
    | (go_at_call 14; refine (refSameD_any Non _ _ _ (tableL N E c) (tableL N E c) (S5.out.ext (by repeat (first | exact Ext.refl _ | assumption | exact Hid.out (by assumption) | refine Ext.alloc ?_ _ | refine Ext.drew ?_ | refine Ext.drewN ?_ _ | refine Ext.trans ?_ (by assumption)))) (S8.out.ext (by repeat (first | exact Ext.refl _ | assumption | exact Hid.out (by assumption) | refine Ext.alloc ?_ _ | refine Ext.drew ?_ | refine Ext.drewN ?_ _ | refine Ext.trans ?_ (by assumption)))) true (by simp)).mono ?_; rintro e w9 ⟨rfl, x9⟩; have X9 : Hid (Ext (w.alloc (.cells #[.int .i64 N, .slice ao E.length k] 24)) w9) := Lib.hid (by repeat (first | exact Ext.refl _ | assumption | exact Hid.out (by assumption) | refine Ext.alloc ?_ _ | refine Ext.drew ?_ | refine Ext.drewN ?_ _ | refine Ext.trans ?_ (by assumption))); have z9 := x9; clear x9))
  go_ret
  exact ⟨rfl, BX.trans (by repeat (first | exact Ext.refl _ | assumption | exact Hid.out (by assumption) | refine Ext.alloc ?_ _ | refine Ext.drew ?_ | refine Ext.drewN ?_ _ | refine Ext.trans ?_ (by assumption)))⟩

theorem placeTables_any (w : World) (N : Int) (ao : Option Addr) (k : Nat) (E : List Edge) (co : Option Addr) (cc : Nat) (c : List Int) (h : Sl w (.slice ao E.length k) E) (hc : Sl w (.slice co c.length cc) c) :
    Calls Try.prog 3 #[.agg #[.int .i64 N, .slice ao E.length k], .slice co c.length cc] w (GivesB w (.bool true)) := by
  refine (Decidable.em ((E.length : Int) ≤ 60)).elim (fun hf => ?_) (fun hf => placeTables_longE w N ao k E co cc c h hc hf)
  refine (Decidable.em ((c.length : Int) ≤ 70)).elim (fun hg => ?_) (fun hg => placeTables_longC w N ao k E co cc c h hc hf hg)
  cases ho : okG N E with
  | false => exact placeTables_A w N ao k E co cc c h hc hf hg ho
  | true =>
    cases hr : rightB N E c with
    | false => exact placeTables_B w N ao k E co cc c h hc hf hg ho hr
    | true => exact placeTables_C w N ao k E co cc c h hc hf hg ho hr

end Go.Proofs.Ytpnnnbjjoimalaa
