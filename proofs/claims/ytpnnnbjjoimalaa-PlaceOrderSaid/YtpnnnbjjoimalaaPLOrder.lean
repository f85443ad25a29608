/- Layer 12's law PlaceOrder, walked. -/
import Derived.Test.YtpnnnbjjoimalaaPA
namespace Go.Proofs.Ytpnnnbjjoimalaa
open Go.RowKit

set_option maxRecDepth 100000 in
set_option maxHeartbeats 8000000 in
theorem placeOrder_longE (w : World) (N : Int) (ao : Option Addr) (k : Nat) (E : List Edge) (co : Option Addr) (cc : Nat) (c : List Int) (h : Sl w (.slice ao E.length k) E) (hc : Sl w (.slice co c.length cc) c) (hf : ¬ (E.length : Int) ≤ 60) :
    Calls Try.prog 8 #[.agg #[.int .i64 N, .slice ao E.length k], .slice co c.length cc] w (GivesB w (.bool true)) := by
  have BX : Ext w (w.alloc (.cells #[.int .i64 N, .slice ao E.length k] 24)) := (Ext.refl w).alloc _
  have HD := Lib.hid (graph_at w N (.slice ao E.length k))
  have HE := Lib.hid h
  have hEl := h.length_le
  have HC := Lib.hid hc
  have hCl := hc.length_le
  clear h hc
  go_enter Try.func8, Try.ntmps8
  go_wp2_with (first
    | (have hgd := X1; clear hgd; go_at_call 9; refine (awakeP_any _).mono ?_; rintro e w2 ⟨rfl, x2⟩; have X2 : Hid (Ext (w.alloc (.cells #[.int .i64 N, .slice ao E.length k] 24)) w2) := Lib.hid (by repeat (first | exact Ext.refl _ | assumption | exact Hid.out (by assumption) | refine Ext.alloc ?_ _ | refine Ext.drew ?_ | refine Ext.drewN ?_ _ | refine Ext.trans ?_ (by assumption))); have z2 := x2; clear x2; obtain ⟨y20, y21⟩ := HD.out w2 (by repeat (first | exact Ext.refl _ | assumption | exact Hid.out (by assumption) | refine Ext.alloc ?_ _ | refine Ext.drew ?_ | refine Ext.drewN ?_ _ | refine Ext.trans ?_ (by assumption))))
    | (go_at_call 9; refine (awakeP_any _).mono ?_; rintro e w1 ⟨rfl, x1⟩; have X1 : Hid (Ext (w.alloc (.cells #[.int .i64 N, .slice ao E.length k] 24)) w1) := Lib.hid (by repeat (first | exact Ext.refl _ | assumption | exact Hid.out (by assumption) | refine Ext.alloc ?_ _ | refine Ext.drew ?_ | refine Ext.drewN ?_ _ | refine Ext.trans ?_ (by assumption))); have z1 := x1; clear x1; obtain ⟨y10, y11⟩ := HD.out w1 (by repeat (first | exact Ext.refl _ | assumption | exact Hid.out (by assumption) | refine Ext.alloc ?_ _ | refine Ext.drew ?_ | refine Ext.drewN ?_ _ | refine Ext.trans ?_ (by assumption)))))
  go_ret
  exact ⟨rfl, BX.trans (by repeat (first | exact Ext.refl _ | assumption | exact Hid.out (by assumption) | refine Ext.alloc ?_ _ | refine Ext.drew ?_ | refine Ext.drewN ?_ _ | refine Ext.trans ?_ (by assumption)))⟩

set_option maxRecDepth 100000 in
set_option maxHeartbeats 8000000 in
theorem placeOrder_longC (w : World) (N : Int) (ao : Option Addr) (k : Nat) (E : List Edge) (co : Option Addr) (cc : Nat) (c : List Int) (h : Sl w (.slice ao E.length k) E) (hc : Sl w (.slice co c.length cc) c) (hf : (E.length : Int) ≤ 60) (hg : ¬ (c.length : Int) ≤ 70) :
    Calls Try.prog 8 #[.agg #[.int .i64 N, .slice ao E.length k], .slice co c.length cc] w (GivesB w (.bool true)) := by
  have BX : Ext w (w.alloc (.cells #[.int .i64 N, .slice ao E.length k] 24)) := (Ext.refl w).alloc _
  have HD := Lib.hid (graph_at w N (.slice ao E.length k))
  have HE := Lib.hid h
  have hEl := h.length_le
  have HC := Lib.hid hc
  have hCl := hc.length_le
  clear h hc
  go_enter Try.func8, Try.ntmps8
  go_wp2_with (first
    | (have hgd := X1; clear hgd; go_at_call 9; refine (awakeP_any _).mono ?_; rintro e w2 ⟨rfl, x2⟩; have X2 : Hid (Ext (w.alloc (.cells #[.int .i64 N, .slice ao E.length k] 24)) w2) := Lib.hid (by repeat (first | exact Ext.refl _ | assumption | exact Hid.out (by assumption) | refine Ext.alloc ?_ _ | refine Ext.drew ?_ | refine Ext.drewN ?_ _ | refine Ext.trans ?_ (by assumption))); have z2 := x2; clear x2; obtain ⟨y20, y21⟩ := HD.out w2 (by repeat (first | exact Ext.refl _ | assumption | exact Hid.out (by assumption) | refine Ext.alloc ?_ _ | refine Ext.drew ?_ | refine Ext.drewN ?_ _ | refine Ext.trans ?_ (by assumption))))
    | (go_at_call 9; refine (awakeP_any _).mono ?_; rintro e w1 ⟨rfl, x1⟩; have X1 : Hid (Ext (w.alloc (.cells #[.int .i64 N, .slice ao E.length k] 24)) w1) := Lib.hid (by repeat (first | exact Ext.refl _ | assumption | exact Hid.out (by assumption) | refine Ext.alloc ?_ _ | refine Ext.drew ?_ | refine Ext.drewN ?_ _ | refine Ext.trans ?_ (by assumption))); have z1 := x1; clear x1; obtain ⟨y10, y11⟩ := HD.out w1 (by repeat (first | exact Ext.refl _ | assumption | exact Hid.out (by assumption) | refine Ext.alloc ?_ _ | refine Ext.drew ?_ | refine Ext.drewN ?_ _ | refine Ext.trans ?_ (by assumption)))))
  go_ret
  exact ⟨rfl, BX.trans (by repeat (first | exact Ext.refl _ | assumption | exact Hid.out (by assumption) | refine Ext.alloc ?_ _ | refine Ext.drew ?_ | refine Ext.drewN ?_ _ | refine Ext.trans ?_ (by assumption)))⟩

set_option maxRecDepth 100000 in
set_option maxHeartbeats 8000000 in
theorem placeOrder_short (w : World) (N : Int) (ao : Option Addr) (k : Nat) (E : List Edge) (co : Option Addr) (cc : Nat) (c : List Int) (h : Sl w (.slice ao E.length k) E) (hc : Sl w (.slice co c.length cc) c) (hf : (E.length : Int) ≤ 60) (hg : (c.length : Int) ≤ 70) :
    Calls Try.prog 8 #[.agg #[.int .i64 N, .slice ao E.length k], .slice co c.length cc] w (GivesB w (.bool true)) := by
  have BX : Ext w (w.alloc (.cells #[.int .i64 N, .slice ao E.length k] 24)) := (Ext.refl w).alloc _
  have HD := Lib.hid (graph_at w N (.slice ao E.length k))
  have HE := Lib.hid h
  have hEl := h.length_le
  have HC := Lib.hid hc
  have hCl := hc.length_le
  obtain ⟨r, hr⟩ : ∃ r, placeR N E c = r := ⟨_, rfl⟩
  obtain ⟨T, hT⟩ : ∃ T, (if r = 0 then tableL N E c else []) = T := ⟨_, rfl⟩
  have HR := Lib.hid hr
  have HT := Lib.hid hT
  have HR3 : Hid (placeR N E (c.map (fun x => 3 * x)) = r) := Lib.hid (by rw [← hr]; unfold placeR; rw [right3])
  have HT3 : Hid ((if r = 0 then tableL N E (c.map (fun x => 3 * x)) else []) = T) := Lib.hid (by rw [table3]; exact hT)
  have rr : (r == r) = true := by simp
  have HRR := Lib.hid rr
  clear hr hT
  clear h hc
  go_enter Try.func8, Try.ntmps8
  go_wp2_with (first
    | (go_at_call 9; refine (awakeP_any _).mono ?_; rintro e w1 ⟨rfl, x1⟩; have X1 : Hid (Ext (w.alloc (.cells #[.int .i64 N, .slice ao E.length k] 24)) w1) := Lib.hid (by repeat (first | exact Ext.refl _ | assumption | exact Hid.out (by assumption) | refine Ext.alloc ?_ _ | refine Ext.drew ?_ | refine Ext.drewN ?_ _ | refine Ext.trans ?_ (by assumption))); have z1 := x1; clear x1; obtain ⟨y10, y11⟩ := HD.out w1 (by repeat (first | exact Ext.refl _ | assumption | exact Hid.out (by assumption) | refine Ext.alloc ?_ _ | refine Ext.drew ?_ | refine Ext.drewN ?_ _ | refine Ext.trans ?_ (by assumption)))))
  go_loopw [5, 6] (fun q i wr => ∃ j : Nat, j ≤ c.length ∧ i = .int .i64 j ∧ Hid (Ow wr w1.heap.size q ((c.take j).map (fun x => 3 * x))) ∧ Hid (Ext w1 wr)) (fun _ i _ => c.length - (intOf i).toNat)
  case atStart => exact ⟨0, Nat.zero_le _, rfl, Lib.hid (Ow.litAt w1 _ _ (by simp) (Nat.le_refl _) [] (by simp)), Lib.hid ((Ext.refl _).alloc _)⟩
  case round =>
    obtain ⟨j, hj, rfl, HQ, HX⟩ := hrel
    have X2 : Hid (Ext (w.alloc (.cells #[.int .i64 N, .slice ao E.length k] 24)) wr) := Lib.hid (X1.out.trans HX.out)
    have z2 := HX.out
    obtain ⟨y20, y21⟩ := HD.out wr X2.out
    have hsz := Below.size HX.out
    by_cases hlt : j < c.length
    · obtain ⟨b, off, rfl, hn, hnc, hc63, hb, hcell⟩ := HC.out.intsAt hlt
      have hya := (Below.cell (BX.trans X2.out) (p := ⟨b, off + j, none⟩) hb).trans hcell
      obtain ⟨y, hy⟩ : ∃ y, y = c.getD j 0 := ⟨_, rfl⟩
      rw [← hy] at hya
      obtain ⟨L, hL⟩ : ∃ L, L = (c.take j).map (fun x => 3 * x) := ⟨_, rfl⟩
      have HN : Hid ((c.take (j + 1)).map (fun x => 3 * x) = L ++ [3 * y]) := Lib.hid (by rw [hL, hy, List.take_add_one, List.map_append, List.getElem?_eq_getElem hlt]; simp [List.getD_eq_getElem?_getD, List.getElem?_eq_getElem hlt])
      have hLl : L.length ≤ 70 := by rw [hL]; simp; omega
      rw [← hL] at HQ
      clear hL hy hcell hn
      rcases Int.lt_or_le y 0 with h0 | h0
      · go_wp2
        go_ret
        exact ⟨rfl, BX.trans X2.out⟩
      · rcases Int.lt_or_le 1000 y with h1 | h1
        · go_wp2
          go_ret
          exact ⟨rfl, BX.trans X2.out⟩
        · have hw1 : IntKind.i64.wrap (3 * y) = 3 * y := wrapN _ (by omega) (by omega)
          go_wp2_with (first
            | (at_builtin; refine wpList_append_sl (α := Int) rfl (.tmp 44) (.tmp 50) rfl w1.heap.size _ L rfl ?_ (.slice (some ⟨_, 0, none⟩) 1 1) [3 * y] rfl ?_ ?_ ?_ ?_; exact (HQ.out.alloc _); exact (Sl.litAt wr _ rfl [3 * y] (show (1 : Nat) ≤ 1000000 by decide)); (first | omega | (simp; omega)); exact (by first | omega | (rw [size_alloc]; omega)); intro v5 W5 ho5 ha5; have O5 := Lib.hid ho5; have Y5 := Lib.hid (Below.trans (HX.out.alloc _) (Below.mono ha5.below (Nat.le_refl _))); clear ho5 ha5))
          go_roundw
          case rel => exact ⟨j + 1, by omega, by go_num, Lib.hid (by rw [HN.out]; exact O5.out), Y5⟩
          case measure => simp [intOf]; omega
    · have hjm : j = c.length := by omega
      rw [hjm, List.take_length] at HQ
      obtain ⟨qo, qn, qc, rfl⟩ := HQ.out.sh
      have S2 := Lib.hid HQ.out.sl
      clear HQ hjm
      have rr := HRR.out
      go_wp2_with (first
        | (have hgd := X5; clear hgd; go_at_call 11; refine (own_any _ N _ E (HE.out.ext (BX.trans (by repeat (first | exact Ext.refl _ | assumption | exact Hid.out (by assumption) | refine Ext.alloc ?_ _ | refine Ext.drew ?_ | refine Ext.drewN ?_ _ | refine Ext.trans ?_ (by assumption))))) (by omega)).mono ?_; rintro e w6 ⟨v6, rfl, s6, x6⟩; obtain ⟨a6, n6, c6, rfl⟩ := s6.sh; have S6 := Lib.hid s6; clear s6; have X6 : Hid (Ext (w.alloc (.cells #[.int .i64 N, .slice ao E.length k] 24)) w6) := Lib.hid (by repeat (first | exact Ext.refl _ | assumption | exact Hid.out (by assumption) | refine Ext.alloc ?_ _ | refine Ext.drew ?_ | refine Ext.drewN ?_ _ | refine Ext.trans ?_ (by assumption))); have z6 := x6; clear x6)
        | (go_at_call 11; refine (own_any _ N _ E (HE.out.ext (BX.trans (by repeat (first | exact Ext.refl _ | assumption | exact Hid.out (by assumption) | refine Ext.alloc ?_ _ | refine Ext.drew ?_ | refine Ext.drewN ?_ _ | refine Ext.trans ?_ (by assumption))))) (by omega)).mono ?_; rintro e w3 ⟨v3, rfl, s3, x3⟩; obtain ⟨a3, n3, c3, rfl⟩ := s3.sh; have S3 := Lib.hid s3; clear s3; have X3 : Hid (Ext (w.alloc (.cells #[.int .i64 N, .slice ao E.length k] 24)) w3) := Lib.hid (by repeat (first | exact Ext.refl _ | assumption | exact Hid.out (by assumption) | refine Ext.alloc ?_ _ | refine Ext.drew ?_ | refine Ext.drewN ?_ _ | refine Ext.trans ?_ (by assumption))); have z3 := x3; clear x3)
        | (at_builtin; refine wpList_append_sl (α := Int) rfl (.tmp 55) (.tmp 56) rfl w3.heap.size (.slice (some ⟨_, 0, none⟩) 0 0) [] rfl ?_ (.slice co c.length cc) c rfl ?_ ?_ ?_ ?_; exact (Ow.litAt w3 _ _ rfl (Nat.le_refl _) [] (by simp)); exact (HC.out.ext (BX.trans (by repeat (first | exact Ext.refl _ | assumption | exact Hid.out (by assumption) | refine Ext.alloc ?_ _ | refine Ext.drew ?_ | refine Ext.drewN ?_ _ | refine Ext.trans ?_ (by assumption))))); (first | omega | (simp; omega)); exact (by first | omega | (rw [size_alloc]; omega) | simp); intro v4 w4 ho4 ha4; have x4 : Ext w3 w4 := Below.trans ((Ext.refl w3).alloc _) ha4.below; obtain ⟨a4, n4, c4, rfl⟩ := ho4.sh; have S4 : Hid (Sl w4 (.slice a4 n4 c4) c) := Lib.hid ho4.sl; have X4 : Hid (Ext (w.alloc (.cells #[.int .i64 N, .slice ao E.length k] 24)) w4) := Lib.hid (by repeat (first | exact Ext.refl _ | assumption | exact Hid.out (by assumption) | refine Ext.alloc ?_ _ | refine Ext.drew ?_ | refine Ext.drewN ?_ _ | refine Ext.trans ?_ (by assumption))); have z4 := x4; clear x4; clear ho4 ha4)
        | (have hgd := X5; clear hgd; go_at_call 10; refine (pTable_any _ N _ _ E (c.map (fun x => 3 * x)) (S6.out.ext (by repeat (first | exact Ext.refl _ | assumption | exact Hid.out (by assumption) | refine Ext.alloc ?_ _ | refine Ext.drew ?_ | refine Ext.drewN ?_ _ | refine Ext.trans ?_ (by assumption)))) (S2.out.ext (by repeat (first | exact Ext.refl _ | assumption | exact Hid.out (by assumption) | refine Ext.alloc ?_ _ | refine Ext.drew ?_ | refine Ext.drewN ?_ _ | refine Ext.trans ?_ (by assumption)))) r HR3.out T HT3.out).mono ?_; rintro e w7 ⟨v7, rfl, s7, x7⟩; obtain ⟨a7, c7, rfl⟩ := s7.len; have S7 := Lib.hid s7; clear s7; have X7 : Hid (Ext (w.alloc (.cells #[.int .i64 N, .slice ao E.length k] 24)) w7) := Lib.hid (by repeat (first | exact Ext.refl _ | assumption | exact Hid.out (by assumption) | refine Ext.alloc ?_ _ | refine Ext.drew ?_ | refine Ext.drewN ?_ _ | refine Ext.trans ?_ (by assumption))); have z7 := x7; clear x7; obtain ⟨y70, y71⟩ := HD.out w7 (by repeat (first | exact Ext.refl _ | assumption | exact Hid.out (by assumption) | refine Ext.alloc ?_ _ | refine Ext.drew ?_ | refine Ext.drewN ?_ _ | refine Ext.trans ?_ (by assumption))))
        | (go_at_call 10; refine (pTable_any _ N _ _ E c (S3.out.ext (by repeat (first | exact Ext.refl _ | assumption | exact Hid.out (by assumption) | refine Ext.alloc ?_ _ | refine Ext.drew ?_ | refine Ext.drewN ?_ _ | refine Ext.trans ?_ (by assumption)))) (S4.out.ext (by repeat (first | exact Ext.refl _ | assumption | exact Hid.out (by assumption) | refine Ext.alloc ?_ _ | refine Ext.drew ?_ | refine Ext.drewN ?_ _ | refine Ext.trans ?_ (by assumption)))) r HR.out T HT.out).mono ?_; rintro e w5 ⟨v5, rfl, s5, x5⟩; obtain ⟨a5, c5, rfl⟩ := s5.len; have S5 := Lib.hid s5; clear s5; have X5 : Hid (Ext (w.alloc (.cells #[.int .i64 N, .slice ao E.length k] 24)) w5) := Lib.hid (by repeat (first | exact Ext.refl _ | assumption | exact Hid.out (by assumption) | refine Ext.alloc ?_ _ | refine Ext.drew ?_ | refine Ext.drewN ?_ _ | refine Ext.trans ?_ (by assumption))); have z5 := x5; clear x5; obtain ⟨y50, y51⟩ := HD.out w5 (by repeat (first | exact Ext.refl _ | assumption | exact Hid.out (by assumption) | refine Ext.alloc ?_ _ | refine Ext.drew ?_ | refine Ext.drewN ?_ _ | refine Ext.trans ?_ (by assumption))))
        | (go_at_call 23; refine (pSame_any _ _ _ T T (S5.out.ext (by repeat (first | exact Ext.refl _ | assumption | exact Hid.out (by assumption) | refine Ext.alloc ?_ _ | refine Ext.drew ?_ | refine Ext.drewN ?_ _ | refine Ext.trans ?_ (by assumption)))) (S7.out.ext (by repeat (first | exact Ext.refl _ | assumption | exact Hid.out (by assumption) | refine Ext.alloc ?_ _ | refine Ext.drew ?_ | refine Ext.drewN ?_ _ | refine Ext.trans ?_ (by assumption)))) true (by simp)).mono ?_; rintro e w8 ⟨rfl, x8⟩; have X8 : Hid (Ext (w.alloc (.cells #[.int .i64 N, .slice ao E.length k] 24)) w8) := Lib.hid (by repeat (first | exact Ext.refl _ | assumption | exact Hid.out (by assumption) | refine Ext.alloc ?_ _ | refine Ext.drew ?_ | refine Ext.drewN ?_ _ | refine Ext.trans ?_ (by assumption))); have z8 := x8; clear x8))
      go_ret
      exact ⟨rfl, BX.trans (by repeat (first | exact Ext.refl _ | assumption | exact Hid.out (by assumption) | refine Ext.alloc ?_ _ | refine Ext.drew ?_ | refine Ext.drewN ?_ _ | refine Ext.trans ?_ (by assumption)))⟩

theorem placeOrder_any (w : World) (N : Int) (ao : Option Addr) (k : Nat) (E : List Edge) (co : Option Addr) (cc : Nat) (c : List Int) (h : Sl w (.slice ao E.length k) E) (hc : Sl w (.slice co c.length cc) c) :
    Calls Try.prog 8 #[.agg #[.int .i64 N, .slice ao E.length k], .slice co c.length cc] w (GivesB w (.bool true)) := by
  refine (Decidable.em ((E.length : Int) ≤ 60)).elim (fun hf => ?_) (fun hf => placeOrder_longE w N ao k E co cc c h hc hf)
  refine (Decidable.em ((c.length : Int) ≤ 70)).elim (fun hg => ?_) (fun hg => placeOrder_longC w N ao k E co cc c h hc hf hg)
  exact placeOrder_short w N ao k E co cc c h hc hf hg

end Go.Proofs.Ytpnnnbjjoimalaa
