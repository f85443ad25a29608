/- Layer 12's law PlaceRound, walked. -/
import Derived.Test.YtpnnnbjjoimalaaPA
import Derived.Test.YtpnnnbjjoimalaaY9
import Derived.Test.YtpnnnbjjoimalaaPN
import Derived.Test.YtpnnnbjjoimalaaDD
import Derived.Test.YtpnnnbjjoimalaaME
namespace Go.Proofs.Ytpnnnbjjoimalaa
open Go.RowKit

theorem right_low {N : Int} {E : List Edge} {c : List Int} (h : rightB N E c = true) : c.length = N.toNat ∧ ∀ a : Int, 0 ≤ a → a < N → 1 ≤ col c a := by
  unfold rightB at h
  simp only [Bool.and_eq_true, decide_eq_true_eq, List.all_eq_true, List.mem_range] at h
  refine ⟨h.1.2, fun a h0 h1 => ?_⟩
  have := (h.2 a.toNat (by omega)).1
  rwa [show ((a.toNat : Nat) : Int) = a by omega] at this
theorem turn_at {N : Int} {E : List Edge} {c : List Int} (ok : OkG N E) (hne : ∀ a b : Int, btw a b ∈ E → col c a ≠ col c b) {j : Nat} (hj : j < E.length) :
    ∃ p q : Nat, (E.map (turnC c)).getD j ⟨0, 0⟩ = ⟨p, q⟩ ∧ (p : Int) < N ∧ (q : Int) < N ∧ col c p < col c q ∧ btw (p : Int) q ∈ E := by
  have he : E.getD j ⟨0, 0⟩ ∈ E := getD_mem hj ⟨0, 0⟩
  obtain ⟨e, hE⟩ : ∃ e, e = E.getD j ⟨0, 0⟩ := ⟨_, rfl⟩
  rw [← hE] at he
  have h1 : (E.map (turnC c)).getD j ⟨0, 0⟩ = turnC c e := by
    rw [List.getD_eq_getElem?_getD, List.getElem?_map, hE, List.getD_eq_getElem?_getD, List.getElem?_eq_getElem hj]
    simp
  have hb := ok.each e he
  have hu := turn_up ok hne he
  have hbt : btw (turnC c e).a (turnC c e).b ∈ E := by
    have : btw (turnC c e).a (turnC c e).b = e := by
      obtain ⟨x, y⟩ := e
      dsimp only at hb
      rcases turn_ends c ⟨x, y⟩ with ⟨h1, h2⟩ | ⟨h1, h2⟩ <;> rw [h1, h2] <;> simp only [btw, Edge.mk.injEq] <;> omega
    rw [this]; exact he
  have ha : 0 ≤ (turnC c e).a ∧ (turnC c e).a < N ∧ 0 ≤ (turnC c e).b ∧ (turnC c e).b < N := by
    rcases turn_ends c e with ⟨h1, h2⟩ | ⟨h1, h2⟩ <;> rw [h1, h2] <;> omega
  refine ⟨(turnC c e).a.toNat, (turnC c e).b.toNat, ?_, ?_⟩
  · rw [h1, show (((turnC c e).a.toNat : Nat) : Int) = (turnC c e).a by omega, show (((turnC c e).b.toNat : Nat) : Int) = (turnC c e).b by omega]
  · rw [show (((turnC c e).a.toNat : Nat) : Int) = (turnC c e).a by omega, show (((turnC c e).b.toNat : Nat) : Int) = (turnC c e).b by omega]
    exact ⟨ha.2.1, ha.2.2.2, hu, hbt⟩

set_option maxRecDepth 100000 in
set_option maxHeartbeats 8000000 in
theorem placeRound_longE (w : World) (N : Int) (ao : Option Addr) (k : Nat) (E : List Edge) (h : Sl w (.slice ao E.length k) E) (hf : ¬ (E.length : Int) ≤ 60) :
    Calls Try.prog 6 #[.agg #[.int .i64 N, .slice ao E.length k]] w (GivesB w (.bool true)) := by
  have BX : Ext w (w.alloc (.cells #[.int .i64 N, .slice ao E.length k] 24)) := (Ext.refl w).alloc _
  have HD := Lib.hid (graph_at w N (.slice ao E.length k))
  have HE := Lib.hid h
  have hEl := h.length_le
  clear h
  go_enter Try.func6, Try.ntmps6
  go_wp2_with (first
    | (have hgd := X1; clear hgd; go_at_call 9; refine (awakeP_any _).mono ?_; rintro e w2 ⟨rfl, x2⟩; have X2 : Hid (Ext (w.alloc (.cells #[.int .i64 N, .slice ao E.length k] 24)) w2) := Lib.hid (by repeat (first | exact Ext.refl _ | assumption | exact Hid.out (by assumption) | refine Ext.alloc ?_ _ | refine Ext.drew ?_ | refine Ext.drewN ?_ _ | refine Ext.trans ?_ (by assumption))); have z2 := x2; clear x2; obtain ⟨y20, y21⟩ := HD.out w2 (by repeat (first | exact Ext.refl _ | assumption | exact Hid.out (by assumption) | refine Ext.alloc ?_ _ | refine Ext.drew ?_ | refine Ext.drewN ?_ _ | refine Ext.trans ?_ (by assumption))))
    | (go_at_call 9; refine (awakeP_any _).mono ?_; rintro e w1 ⟨rfl, x1⟩; have X1 : Hid (Ext (w.alloc (.cells #[.int .i64 N, .slice ao E.length k] 24)) w1) := Lib.hid (by repeat (first | exact Ext.refl _ | assumption | exact Hid.out (by assumption) | refine Ext.alloc ?_ _ | refine Ext.drew ?_ | refine Ext.drewN ?_ _ | refine Ext.trans ?_ (by assumption))); have z1 := x1; clear x1; obtain ⟨y10, y11⟩ := HD.out w1 (by repeat (first | exact Ext.refl _ | assumption | exact Hid.out (by assumption) | refine Ext.alloc ?_ _ | refine Ext.drew ?_ | refine Ext.drewN ?_ _ | refine Ext.trans ?_ (by assumption)))))
  go_ret
  exact ⟨rfl, BX.trans (by repeat (first | exact Ext.refl _ | assumption | exact Hid.out (by assumption) | refine Ext.alloc ?_ _ | refine Ext.drew ?_ | refine Ext.drewN ?_ _ | refine Ext.trans ?_ (by assumption)))⟩

set_option maxRecDepth 100000 in
set_option maxHeartbeats 8000000 in
theorem placeRound_longN (w : World) (N : Int) (ao : Option Addr) (k : Nat) (E : List Edge) (h : Sl w (.slice ao E.length k) E) (hf : (E.length : Int) ≤ 60) (hg : ¬ N ≤ 24) :
    Calls Try.prog 6 #[.agg #[.int .i64 N, .slice ao E.length k]] w (GivesB w (.bool true)) := by
  have BX : Ext w (w.alloc (.cells #[.int .i64 N, .slice ao E.length k] 24)) := (Ext.refl w).alloc _
  have HD := Lib.hid (graph_at w N (.slice ao E.length k))
  have HE := Lib.hid h
  have hEl := h.length_le
  clear h
  go_enter Try.func6, Try.ntmps6
  go_wp2_with (first
    | (have hgd := X1; clear hgd; go_at_call 9; refine (awakeP_any _).mono ?_; rintro e w2 ⟨rfl, x2⟩; have X2 : Hid (Ext (w.alloc (.cells #[.int .i64 N, .slice ao E.length k] 24)) w2) := Lib.hid (by repeat (first | exact Ext.refl _ | assumption | exact Hid.out (by assumption) | refine Ext.alloc ?_ _ | refine Ext.drew ?_ | refine Ext.drewN ?_ _ | refine Ext.trans ?_ (by assumption))); have z2 := x2; clear x2; obtain ⟨y20, y21⟩ := HD.out w2 (by repeat (first | exact Ext.refl _ | assumption | exact Hid.out (by assumption) | refine Ext.alloc ?_ _ | refine Ext.drew ?_ | refine Ext.drewN ?_ _ | refine Ext.trans ?_ (by assumption))))
    | (go_at_call 9; refine (awakeP_any _).mono ?_; rintro e w1 ⟨rfl, x1⟩; have X1 : Hid (Ext (w.alloc (.cells #[.int .i64 N, .slice ao E.length k] 24)) w1) := Lib.hid (by repeat (first | exact Ext.refl _ | assumption | exact Hid.out (by assumption) | refine Ext.alloc ?_ _ | refine Ext.drew ?_ | refine Ext.drewN ?_ _ | refine Ext.trans ?_ (by assumption))); have z1 := x1; clear x1; obtain ⟨y10, y11⟩ := HD.out w1 (by repeat (first | exact Ext.refl _ | assumption | exact Hid.out (by assumption) | refine Ext.alloc ?_ _ | refine Ext.drew ?_ | refine Ext.drewN ?_ _ | refine Ext.trans ?_ (by assumption)))))
  go_ret
  exact ⟨rfl, BX.trans (by repeat (first | exact Ext.refl _ | assumption | exact Hid.out (by assumption) | refine Ext.alloc ?_ _ | refine Ext.drew ?_ | refine Ext.drewN ?_ _ | refine Ext.trans ?_ (by assumption)))⟩

set_option maxRecDepth 100000 in
set_option maxHeartbeats 8000000 in
theorem placeRound_B (w : World) (N : Int) (ao : Option Addr) (k : Nat) (E : List Edge) (h : Sl w (.slice ao E.length k) E) (hf : (E.length : Int) ≤ 60) (hg : N ≤ 24) (ok : ¬ OkG N E) :
    Calls Try.prog 6 #[.agg #[.int .i64 N, .slice ao E.length k]] w (GivesB w (.bool true)) := by
  have BX : Ext w (w.alloc (.cells #[.int .i64 N, .slice ao E.length k] 24)) := (Ext.refl w).alloc _
  have HD := Lib.hid (graph_at w N (.slice ao E.length k))
  have HE := Lib.hid h
  have hEl := h.length_le
  have HNK := Lib.hid ok
  clear ok
  clear h
  go_enter Try.func6, Try.ntmps6
  go_wp2_with (first
    | (go_at_call 9; refine (awakeP_any _).mono ?_; rintro e w1 ⟨rfl, x1⟩; have X1 : Hid (Ext (w.alloc (.cells #[.int .i64 N, .slice ao E.length k] 24)) w1) := Lib.hid (by repeat (first | exact Ext.refl _ | assumption | exact Hid.out (by assumption) | refine Ext.alloc ?_ _ | refine Ext.drew ?_ | refine Ext.drewN ?_ _ | refine Ext.trans ?_ (by assumption))); have z1 := x1; clear x1; obtain ⟨y10, y11⟩ := HD.out w1 (by repeat (first | exact Ext.refl _ | assumption | exact Hid.out (by assumption) | refine Ext.alloc ?_ _ | refine Ext.drew ?_ | refine Ext.drewN ?_ _ | refine Ext.trans ?_ (by assumption))))
    | (go_at_call 11; refine (own_any _ N _ E (HE.out.ext (BX.trans (by repeat (first | exact Ext.refl _ | assumption | exact Hid.out (by assumption) | refine Ext.alloc ?_ _ | refine Ext.drew ?_ | refine Ext.drewN ?_ _ | refine Ext.trans ?_ (by assumption))))) (by omega)).mono ?_; rintro e w3 ⟨v3, rfl, s3, x3⟩; obtain ⟨a3, n3, c3, rfl⟩ := s3.sh; have S3 := Lib.hid s3; clear s3; have X3 : Hid (Ext (w.alloc (.cells #[.int .i64 N, .slice ao E.length k] 24)) w3) := Lib.hid (by repeat (first | exact Ext.refl _ | assumption | exact Hid.out (by assumption) | refine Ext.alloc ?_ _ | refine Ext.drew ?_ | refine Ext.drewN ?_ _ | refine Ext.trans ?_ (by assumption))); have z3 := x3; clear x3)
    | (go_at_call 27; refine (run_bad _ N _ E (S3.out.ext (by repeat (first | exact Ext.refl _ | assumption | exact Hid.out (by assumption) | refine Ext.alloc ?_ _ | refine Ext.drew ?_ | refine Ext.drewN ?_ _ | refine Ext.trans ?_ (by assumption)))) HNK.out).mono ?_; rintro e w4 ⟨v4, rfl, s4, x4⟩; obtain ⟨a4, c4, rfl⟩ := s4.len; clear s4; have X4 : Hid (Ext (w.alloc (.cells #[.int .i64 N, .slice ao E.length k] 24)) w4) := Lib.hid (by repeat (first | exact Ext.refl _ | assumption | exact Hid.out (by assumption) | refine Ext.alloc ?_ _ | refine Ext.drew ?_ | refine Ext.drewN ?_ _ | refine Ext.trans ?_ (by assumption))); have z4 := x4; clear x4; obtain ⟨y40, y41⟩ := HD.out w4 (by repeat (first | exact Ext.refl _ | assumption | exact Hid.out (by assumption) | refine Ext.alloc ?_ _ | refine Ext.drew ?_ | refine Ext.drewN ?_ _ | refine Ext.trans ?_ (by assumption)))))
  go_ret
  exact ⟨rfl, BX.trans (by repeat (first | exact Ext.refl _ | assumption | exact Hid.out (by assumption) | refine Ext.alloc ?_ _ | refine Ext.drew ?_ | refine Ext.drewN ?_ _ | refine Ext.trans ?_ (by assumption)))⟩

set_option maxRecDepth 100000 in
set_option maxHeartbeats 8000000 in
theorem placeRound_C (w : World) (N : Int) (ao : Option Addr) (k : Nat) (E : List Edge) (h : Sl w (.slice ao E.length k) E) (hf : (E.length : Int) ≤ 60) (hg : N ≤ 24) (ok : OkG N E) (K : Nat) (hK : Ends N E K) :
    Calls Try.prog 6 #[.agg #[.int .i64 N, .slice ao E.length k]] w (GivesB w (.bool true)) := by
  have BX : Ext w (w.alloc (.cells #[.int .i64 N, .slice ao E.length k] 24)) := (Ext.refl w).alloc _
  have HD := Lib.hid (graph_at w N (.slice ao E.length k))
  have HE := Lib.hid h
  have hEl := h.length_le
  obtain ⟨c, hcd⟩ : ∃ c, c = itr N E K := ⟨_, rfl⟩
  have HCD := Lib.hid hcd
  have hr : rightB N E c = true := hcd ▸ hK.right ok
  have ho : okG N E = true := okG_iff.2 ok
  have HR : Hid (placeR N E c = 0) := Lib.hid (by unfold placeR; rw [ho, hr]; rfl)
  have HT : Hid ((if (0 : Int) = 0 then tableL N E c else []) = tableL N E c) := Lib.hid rfl
  have hne := right_ne hr
  obtain ⟨hcl, hlow⟩ := right_low hr
  obtain ⟨A, hA⟩ : ∃ A, A = E.map (turnC c) := ⟨_, rfl⟩
  have HAT : Hid (arcsOf [] (tableL N E c) = A) := Lib.hid (hA ▸ arcs_table ok hne)
  have hAl : A.length = E.length := by rw [hA, List.length_map]
  have HUP : Hid (∀ j, j < E.length → ∃ p q : Nat, A.getD j ⟨0, 0⟩ = ⟨p, q⟩ ∧ (p : Int) < N ∧ (q : Int) < N ∧ col c p < col c q ∧ btw (p : Int) q ∈ E) := Lib.hid fun j hj => hA ▸ turn_at ok hne hj
  have HOB : Hid (ordB N A = true) := Lib.hid (by rw [hA]; exact ordB_iff.2 ⟨turn_ok ok, (peeled_iff (turn_ok ok)).2 (turn_ranked ok hne fun a h0 h1 => by have := hlow a h0 h1; omega)⟩)
  have HDP : Hid (∀ d, IsDD N A true d → d.length = N.toNat ∧ ∀ i : Nat, i < N.toNat → d.getD i 0 < mostL c) := Lib.hid fun d hd => by
    have h1 := hd.1 rfl
    rw [hA] at h1
    refine ⟨h1.len, fun i hi => ?_⟩
    have h2 := turn_deep ok hne hlow h1 i hi
    have h3 := le_most (c := c) i (by omega)
    have h4 : col c (i : Int) = c.getD i 0 := by unfold col; rw [Int.toNat_natCast]
    omega
  have OKG := Lib.hid ok
  have HK := Lib.hid hK
  have hN0 := ok.n0
  have hTl : (tableL N E c).length ≤ 100 := by rw [tableL_length]; omega
  have HCL : Hid (c.length = N.toNat) := Lib.hid hcl
  have hae : ((A.length : Int) != (E.length : Int)) = false := by rw [hAl]; simp
  have HAL := Lib.hid hAl
  clear hcd hr ho hne hcl hlow hA ok hK hAl
  clear h
  go_enter Try.func6, Try.ntmps6
  go_wp2_with (first
    | (go_at_call 9; refine (awakeP_any _).mono ?_; rintro e w1 ⟨rfl, x1⟩; have X1 : Hid (Ext (w.alloc (.cells #[.int .i64 N, .slice ao E.length k] 24)) w1) := Lib.hid (by repeat (first | exact Ext.refl _ | assumption | exact Hid.out (by assumption) | refine Ext.alloc ?_ _ | refine Ext.drew ?_ | refine Ext.drewN ?_ _ | refine Ext.trans ?_ (by assumption))); have z1 := x1; clear x1; obtain ⟨y10, y11⟩ := HD.out w1 (by repeat (first | exact Ext.refl _ | assumption | exact Hid.out (by assumption) | refine Ext.alloc ?_ _ | refine Ext.drew ?_ | refine Ext.drewN ?_ _ | refine Ext.trans ?_ (by assumption))))
    | (have hgd := X4; clear hgd; go_at_call 11; refine (own_any _ N _ E (HE.out.ext (BX.trans (by repeat (first | exact Ext.refl _ | assumption | exact Hid.out (by assumption) | refine Ext.alloc ?_ _ | refine Ext.drew ?_ | refine Ext.drewN ?_ _ | refine Ext.trans ?_ (by assumption))))) (by omega)).mono ?_; rintro e w5 ⟨v5, rfl, s5, x5⟩; obtain ⟨a5, n5, c5, rfl⟩ := s5.sh; have S5 := Lib.hid s5; clear s5; have X5 : Hid (Ext (w.alloc (.cells #[.int .i64 N, .slice ao E.length k] 24)) w5) := Lib.hid (by repeat (first | exact Ext.refl _ | assumption | exact Hid.out (by assumption) | refine Ext.alloc ?_ _ | refine Ext.drew ?_ | refine Ext.drewN ?_ _ | refine Ext.trans ?_ (by assumption))); have z5 := x5; clear x5)
    | (go_at_call 11; refine (own_any _ N _ E (HE.out.ext (BX.trans (by repeat (first | exact Ext.refl _ | assumption | exact Hid.out (by assumption) | refine Ext.alloc ?_ _ | refine Ext.drew ?_ | refine Ext.drewN ?_ _ | refine Ext.trans ?_ (by assumption))))) (by omega)).mono ?_; rintro e w3 ⟨v3, rfl, s3, x3⟩; obtain ⟨a3, n3, c3, rfl⟩ := s3.sh; have S3 := Lib.hid s3; clear s3; have X3 : Hid (Ext (w.alloc (.cells #[.int .i64 N, .slice ao E.length k] 24)) w3) := Lib.hid (by repeat (first | exact Ext.refl _ | assumption | exact Hid.out (by assumption) | refine Ext.alloc ?_ _ | refine Ext.drew ?_ | refine Ext.drewN ?_ _ | refine Ext.trans ?_ (by assumption))); have z3 := x3; clear x3)
    | (go_at_call 27; refine (run_ok _ N _ E (S3.out.ext (by repeat (first | exact Ext.refl _ | assumption | exact Hid.out (by assumption) | refine Ext.alloc ?_ _ | refine Ext.drew ?_ | refine Ext.drewN ?_ _ | refine Ext.trans ?_ (by assumption)))) OKG.out K HK.out).mono ?_; rintro e w4 ⟨v4, rfl, s4, x4⟩; rw [← HCD.out] at s4; obtain ⟨a4, c4, rfl⟩ := s4.len; have S4 := Lib.hid s4; clear s4; have X4 : Hid (Ext (w.alloc (.cells #[.int .i64 N, .slice ao E.length k] 24)) w4) := Lib.hid (by repeat (first | exact Ext.refl _ | assumption | exact Hid.out (by assumption) | refine Ext.alloc ?_ _ | refine Ext.drew ?_ | refine Ext.drewN ?_ _ | refine Ext.trans ?_ (by assumption))); have z4 := x4; clear x4; obtain ⟨y40, y41⟩ := HD.out w4 (by repeat (first | exact Ext.refl _ | assumption | exact Hid.out (by assumption) | refine Ext.alloc ?_ _ | refine Ext.drew ?_ | refine Ext.drewN ?_ _ | refine Ext.trans ?_ (by assumption))))
    | (go_at_call 10; refine (pTable_any _ N _ _ E c (S5.out.ext (by repeat (first | exact Ext.refl _ | assumption | exact Hid.out (by assumption) | refine Ext.alloc ?_ _ | refine Ext.drew ?_ | refine Ext.drewN ?_ _ | refine Ext.trans ?_ (by assumption)))) (S4.out.ext (by repeat (first | exact Ext.refl _ | assumption | exact Hid.out (by assumption) | refine Ext.alloc ?_ _ | refine Ext.drew ?_ | refine Ext.drewN ?_ _ | refine Ext.trans ?_ (by assumption)))) 0 HR.out (tableL N E c) HT.out).mono ?_; rintro e w6 ⟨v6, rfl, s6, x6⟩; obtain ⟨a6, c6, rfl⟩ := s6.len; have S6 := Lib.hid s6; clear s6; have X6 : Hid (Ext (w.alloc (.cells #[.int .i64 N, .slice ao E.length k] 24)) w6) := Lib.hid (by repeat (first | exact Ext.refl _ | assumption | exact Hid.out (by assumption) | refine Ext.alloc ?_ _ | refine Ext.drew ?_ | refine Ext.drewN ?_ _ | refine Ext.trans ?_ (by assumption))); have z6 := x6; clear x6; obtain ⟨y60, y61⟩ := HD.out w6 (by repeat (first | exact Ext.refl _ | assumption | exact Hid.out (by assumption) | refine Ext.alloc ?_ _ | refine Ext.drew ?_ | refine Ext.drewN ?_ _ | refine Ext.trans ?_ (by assumption))))
    | (go_at_call 25; refine (pArcs_any _ _ _ (tableL N E c) [] (S6.out.ext (by repeat (first | exact Ext.refl _ | assumption | exact Hid.out (by assumption) | refine Ext.alloc ?_ _ | refine Ext.drew ?_ | refine Ext.drewN ?_ _ | refine Ext.trans ?_ (by assumption)))) (Sl.none _) hTl).mono ?_; rintro e w7 ⟨v7, rfl, s7, x7⟩; rw [HAT.out] at s7; obtain ⟨a7, c7, rfl⟩ := s7.len; have S7 := Lib.hid s7; clear s7; have X7 : Hid (Ext (w.alloc (.cells #[.int .i64 N, .slice ao E.length k] 24)) w7) := Lib.hid (by repeat (first | exact Ext.refl _ | assumption | exact Hid.out (by assumption) | refine Ext.alloc ?_ _ | refine Ext.drew ?_ | refine Ext.drewN ?_ _ | refine Ext.trans ?_ (by assumption))); have z7 := x7; clear x7; obtain ⟨y70, y71⟩ := HD.out w7 (by repeat (first | exact Ext.refl _ | assumption | exact Hid.out (by assumption) | refine Ext.alloc ?_ _ | refine Ext.drew ?_ | refine Ext.drewN ?_ _ | refine Ext.trans ?_ (by assumption)))))
  go_loopw [9] (fun i wr => ∃ j : Nat, j ≤ A.length ∧ i = .int .i64 j ∧ Hid (Ext w7 wr)) (fun i _ => A.length - (intOf i).toNat)
  case atStart => exact ⟨0, Nat.zero_le _, rfl, Lib.hid (Ext.refl _)⟩
  case round =>
    obtain ⟨j, hj, rfl, HX⟩ := hrel
    have X8 : Hid (Ext (w.alloc (.cells #[.int .i64 N, .slice ao E.length k] 24)) wr) := Lib.hid (Ext.trans X7.out HX.out)
    obtain ⟨y80, y81⟩ := HD.out wr X8.out
    by_cases hlt : j < A.length
    · obtain ⟨b, off, ha7, hn, hnc, hc63, hb, hxa, hxb⟩ := (S7.out.ext HX.out).arcsAt hlt
      subst ha7
      obtain ⟨p, q, hpq, hp, hq, hco, hbt⟩ := HUP.out j (by have := HAL.out; omega)
      rw [hpq] at hxa hxb
      dsimp only at hxa hxb
      have S4w := S4.out.ext (Ext.trans (by exact (by repeat (first | exact Ext.refl _ | assumption | exact Hid.out (by assumption) | refine Ext.alloc ?_ _ | refine Ext.drew ?_ | refine Ext.drewN ?_ _ | refine Ext.trans ?_ (by assumption)))) HX.out)
      obtain ⟨bc, oc, nc, kc, hv, hnc2, hnk, hk63, hbc, hcp⟩ := S4w.colAtD (x := (p : Int)) (by omega) (by have := HCL.out; omega)
      obtain ⟨bc3, oc3, nc3, kc3, hv3, hnc3, hnk3, hk633, hbc3, hcq⟩ := S4w.colAtD (x := (q : Int)) (by omega) (by have := HCL.out; omega)
      simp only [Value.slice.injEq] at hv
      obtain ⟨rfl, rfl, rfl⟩ := hv
      simp only [Value.slice.injEq, Option.some.injEq, Addr.mk.injEq, and_true] at hv3
      obtain ⟨⟨rfl, rfl⟩, rfl, rfl⟩ := hv3
      rw [Int.toNat_natCast] at hcp hcq
      have hpc : p < c.length := by have := HCL.out; omega
      have hqc : q < c.length := by have := HCL.out; omega
      obtain ⟨x, hx⟩ : ∃ x, x = col c (p : Int) := ⟨_, rfl⟩
      obtain ⟨y, hy⟩ : ∃ y, y = col c (q : Int) := ⟨_, rfl⟩
      rw [← hx] at hcp hco
      rw [← hy] at hcq hco
      have HXA : Hid (∀ V, Ext wr V → V.cell? ⟨b, off + j * 2, none⟩ = some (.int .i64 (p : Int)) ∧ V.cell? ⟨b, off + j * 2 + 1, none⟩ = some (.int .i64 (q : Int))) := Lib.hid fun V hV => ⟨(Below.cell hV (p := ⟨b, off + j * 2, none⟩) hb).trans hxa, (Below.cell hV (p := ⟨b, off + j * 2 + 1, none⟩) hb).trans hxb⟩
      have HCA : Hid (∀ V, Ext wr V → V.cell? ⟨bc, oc + p, none⟩ = some (.int .i64 x) ∧ V.cell? ⟨bc, oc + q, none⟩ = some (.int .i64 y)) := Lib.hid fun V hV => ⟨(Below.cell hV (p := ⟨bc, oc + p, none⟩) hbc).trans hcp, (Below.cell hV (p := ⟨bc, oc + q, none⟩) hbc).trans hcq⟩
      have HDG : Hid (∀ V, Ext wr V → V.cell? ⟨w.heap.size, 0, none⟩ = some (.int .i64 N) ∧ V.cell? ⟨w.heap.size, 1, none⟩ = some (.slice ao E.length k)) := Lib.hid fun V hV => HD.out V (Ext.trans X8.out hV)
      have HBT : Hid (decide (btw (p : Int) (q : Int) ∈ E) = true) := Lib.hid (decide_eq_true hbt)
      have HCO := Lib.hid hco
      clear hpq hxa hxb S4w hcp hcq hx hy hbt hco hn hnc2 hnc3
      go_wp2_with fail
      (refine wp_region_X_lit (K := fun V => Ext wr V) (by kernel_rfl) (fun w1 hw1 => ?_))
      have HW1 := Lib.hid hw1
      have hle : decide (y ≤ x) = false := decide_eq_false (by have := HCO.out; omega)
      clear hw1
      refine xtv 0 (h := ?_)
      refine xtv 1 (h := ?_)
      refine xtv 2 (h := ?_)
      refine xtv 3 (h := ?_)
      refine xtv 4 (h := ?_)
      refine xtv 5 (hv := by intro w' hw'; obtain ⟨q1, q2⟩ := HXA.out w' hw'; go_simp; first | done | with_reducible rfl) (h := ?_)
      refine xtv 6 (h := ?_)
      refine xtv 7 (hv := by intro w' hw'; obtain ⟨q1, q2⟩ := HCA.out w' hw'; go_simp; first | done | with_reducible rfl) (h := ?_)
      refine xtv 8 (h := ?_)
      refine xtv 9 (h := ?_)
      refine xtv 10 (h := ?_)
      refine xtv 11 (h := ?_)
      refine xtv 12 (h := ?_)
      refine xtv 13 (hv := by intro w' hw'; obtain ⟨q1, q2⟩ := HXA.out w' hw'; go_simp; first | done | with_reducible rfl) (h := ?_)
      refine xtv 14 (h := ?_)
      refine xtv 15 (hv := by intro w' hw'; obtain ⟨q1, q2⟩ := HCA.out w' hw'; go_simp; first | done | with_reducible rfl) (h := ?_)
      refine xtv 16 (h := ?_)
      refine xtv 17 (h := ?_)
      refine xtv 18 (hv := by intro w' hw'; obtain ⟨q1, q2⟩ := HDG.out w' hw'; go_simp; first | done | with_reducible rfl) (h := ?_)
      refine xtv 19 (h := ?_)
      refine xtv 20 (h := ?_)
      refine xtv 21 (h := ?_)
      refine xtv 22 (h := ?_)
      refine xtv 23 (hv := by intro w' hw'; obtain ⟨q1, q2⟩ := HXA.out w' hw'; go_simp; first | done | with_reducible rfl) (h := ?_)
      refine xtv 24 (h := ?_)
      refine xtv 25 (h := ?_)
      refine xtv 26 (h := ?_)
      refine xtv 27 (h := ?_)
      refine xtv 28 (hv := by intro w' hw'; obtain ⟨q1, q2⟩ := HXA.out w' hw'; go_simp; first | done | with_reducible rfl) (h := ?_)
      refine xone 29 (hk := HW1.out) (h := RunX.of 29 (h := ?_))
      go_simp
      refine (refHas_val w1 N _ E (p : Int) (q : Int) (HE.out.ext (BX.trans (Ext.trans X8.out HW1.out))) true HBT.out).mono ?_
      rintro e2 wA ⟨rfl, xA⟩
      have HWA := Lib.hid (HW1.out.trans xA)
      clear xA
      dsimp only
      (try (simp only [Act.put, List.setIfInBounds_toArray, List.set]))
      refine xtv 30 (h := ?_)
      refine xtv 31 (h := ?_)
      (refine xdone (by kernel_rfl) (HWA.out) ?_)
      go_wp2
      go_roundw
      case rel => exact ⟨j + 1, by omega, by go_num, Lib.hid (HX.out.trans HWA.out)⟩
      case measure => simp [intOf]; omega
    · have hjl : ¬ (j : Int) < (A.length : Int) := by omega
      go_wp2_with (go_at_call 29; refine (depths_any _ N _ A (S7.out.ext HX.out) true HOB.out).mono ?_; rintro e w9 ⟨v9, d, rfl, o9, hd, x9⟩; obtain ⟨a9, c9, rfl⟩ := o9.sl.len; have S9 := Lib.hid o9.sl; have HDD := Lib.hid (HDP.out d hd); have X9 : Hid (Ext wr w9) := Lib.hid x9; have XW : Hid (Ext w7 w9) := Lib.hid (Ext.trans HX.out x9); clear o9 hd x9)
      go_loopw [12] (fun i wr => ∃ j : Nat, j ≤ d.length ∧ i = .int .i64 j ∧ Hid (Ext w9 wr)) (fun i _ => d.length - (intOf i).toNat)
      case atStart => exact ⟨0, Nat.zero_le _, rfl, Lib.hid (Ext.refl _)⟩
      case round =>
        obtain ⟨i, hi, rfl, HY⟩ := hrel
        by_cases hlt2 : i < d.length
        · obtain ⟨b, off, ha9, hn, hnc, hc63, hb, hxd⟩ := (S9.out.ext HY.out).intsAt hlt2
          subst ha9
          obtain ⟨z, hz⟩ : ∃ z, z = d.getD i 0 := ⟨_, rfl⟩
          have hzm := HDD.out.2 i (by have := HDD.out.1; omega)
          rw [← hz] at hxd hzm
          obtain ⟨mx, hmx⟩ : ∃ mx, mostL c = mx := ⟨_, rfl⟩
          rw [hmx] at hzm
          have HMX := Lib.hid hmx
          have HZM := Lib.hid hzm
          have HXD : Hid (∀ V, Ext wr V → V.cell? ⟨b, off + i, none⟩ = some (.int .i64 z)) := Lib.hid fun V hV => (Below.cell hV (p := ⟨b, off + i, none⟩) hb).trans hxd
          have HS4 := Lib.hid (S4.out.ext (Ext.trans (by exact (by repeat (first | exact Ext.refl _ | assumption | exact Hid.out (by assumption) | refine Ext.alloc ?_ _ | refine Ext.drew ?_ | refine Ext.drewN ?_ _ | refine Ext.trans ?_ (by assumption)))) (Ext.trans XW.out HY.out)))
          clear hz hxd hzm hmx hn
          go_wp2_with fail
          (refine wp_region_X_lit (K := fun V => Ext wr V) (by kernel_rfl) (fun w1 hw1 => ?_))
          have HW1 := Lib.hid hw1
          have hle : decide (mx ≤ z) = false := decide_eq_false (by have := HZM.out; omega)
          clear hw1
          refine xtv 0 (h := ?_)
          refine xtv 1 (h := ?_)
          refine xtv 2 (h := ?_)
          refine xtv 3 (hv := by intro w' hw'; have q1 := HXD.out w' hw'; go_simp; first | done | with_reducible rfl) (h := ?_)
          refine xtv 4 (h := ?_)
          refine xone 5 (hk := HW1.out) (h := RunX.of 5 (h := ?_))
          go_simp
          refine (most_any w1 _ c (HS4.out.ext HW1.out) mx HMX.out).mono ?_
          rintro e2 wA ⟨rfl, xA⟩
          have HWA := Lib.hid (HW1.out.trans xA)
          clear xA
          dsimp only
          (try (simp only [Act.put, List.setIfInBounds_toArray, List.set]))
          refine xtv 6 (h := ?_)
          (refine xdone (by kernel_rfl) (HWA.out) ?_)
          go_wp2
          go_roundw
          case rel => exact ⟨i + 1, by omega, by go_num, Lib.hid (HY.out.trans HWA.out)⟩
          case measure => simp [intOf]; omega
        · have hil : ¬ (i : Int) < (d.length : Int) := by omega
          go_wp2
          go_ret
          exact ⟨rfl, BX.trans (Ext.trans X8.out (Ext.trans X9.out HY.out))⟩

theorem placeRound_any (w : World) (N : Int) (ao : Option Addr) (k : Nat) (E : List Edge) (h : Sl w (.slice ao E.length k) E) :
    Calls Try.prog 6 #[.agg #[.int .i64 N, .slice ao E.length k]] w (GivesB w (.bool true)) := by
  refine (Decidable.em ((E.length : Int) ≤ 60)).elim (fun hf => ?_) (fun hf => placeRound_longE w N ao k E h hf)
  refine (Decidable.em (N ≤ 24)).elim (fun hg => ?_) (fun hg => placeRound_longN w N ao k E h hf hg)
  by_cases ok : OkG N E
  · obtain ⟨K, hK⟩ := ends_some ok
    exact placeRound_C w N ao k E h hf hg ok K hK
  · exact placeRound_B w N ao k E h hf hg ok

end Go.Proofs.Ytpnnnbjjoimalaa
