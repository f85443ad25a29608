/- Near goes both ways. -/
import Derived.Test.YtanflbjbcncklaaLMath
namespace Go.Proofs.Ytanflbjbcncklaa
open Go.RowKit

theorem graphNear_long (w : World) (N : Int) (ao : Option Addr) (c : Nat) (E : List Edge) (a b : Int) (h : Sl w (.slice ao E.length c) E) (hl : 60 < E.length) :
    Calls Try.prog 5 #[.agg #[.int .i64 N, .slice ao E.length c], .int .i64 a, .int .i64 b] w (GivesB w (.bool true)) := by
  have n1 := h.length_le
  have HGg := Lib.hid (graph_at w N (.slice ao E.length c))
  have hli : (60 : Int) < (E.length : Int) := by omega
  clear h
  go_enter Try.func5, Try.ntmps5
  go_wp2_with (first
    | (go_at_call 8; have hgd := x1; refine (awake_any _).mono ?_; rintro e w2 ⟨rfl, x2⟩; clear hgd)
    | (go_at_call 8; refine (awake_any _).mono ?_; rintro e w1 ⟨rfl, x1⟩; obtain ⟨cg0_1, cg1_1⟩ := HGg.out w1 (by repeat (first | exact Ext.refl _ | assumption | exact Hid.out (by assumption) | refine Ext.alloc ?_ _ | refine Ext.drew ?_ | refine Ext.drewN ?_ _ | refine Ext.trans ?_ (by assumption)))))
  go_ret
  exact ⟨rfl, (by repeat (first | exact Ext.refl _ | assumption | exact Hid.out (by assumption) | refine Ext.alloc ?_ _ | refine Ext.drew ?_ | refine Ext.drewN ?_ _ | refine Ext.trans ?_ (by assumption)))⟩

set_option maxHeartbeats 8000000 in
theorem graphNear_short (w : World) (N : Int) (ao : Option Addr) (c : Nat) (E : List Edge) (a b : Int) (h : Sl w (.slice ao E.length c) E) (hl : E.length ≤ 60) :
    Calls Try.prog 5 #[.agg #[.int .i64 N, .slice ao E.length c], .int .i64 a, .int .i64 b] w (GivesB w (.bool true)) := by
  have HGg := Lib.hid (graph_at w N (.slice ao E.length c))
  have hli : ¬ (60 : Int) < (E.length : Int) := by omega
  have Sg := Lib.hid h
  clear h
  by_cases ok : OkG N E
  · have HC := Lib.hid (chk_of ok)
    have OK := Lib.hid ok
    have hm := fun x y : Int => mem_nearOf (E := E) (fun e he => (ok.each e he).2.1) (a := x) (x := y)
    have V1 : Hid (decide (SS (nearOf E a)) = true) := Lib.hid (decide_eq_true (norm_SS _))
    obtain ⟨t, ht⟩ : ∃ t, decide (btw a b ∈ E) = t := ⟨_, rfl⟩
    have V2 : Hid (decide (b ∈ nearOf E a) = t) := Lib.hid (by rw [← ht]; exact decide_eq_decide.2 (hm a b))
    have V3 : Hid (decide (a ∈ nearOf E b) = t) := Lib.hid (by rw [← ht, btw_comm a b]; exact decide_eq_decide.2 (hm b a))
    have V4 : Hid (decide (a ∈ nearOf E a) = false) := Lib.hid (decide_eq_false fun e => by
      have := ok.each _ ((hm a a).1 e)
      simp only [btw] at this
      omega)
    have HT := Lib.hid ht
    have qt : (t == t) = true := by simp
    obtain ⟨L, hL⟩ : ∃ L, L = nearOf E a := ⟨_, rfl⟩
    obtain ⟨M, hM⟩ : ∃ M, M = nearOf E b := ⟨_, rfl⟩
    have HL := Lib.hid hL
    have HM := Lib.hid hM
    rw [← hL] at V1 V2 V4
    rw [← hM] at V3
    clear ht hL hM hm ok
    go_enter Try.func5, Try.ntmps5
    go_wp2_with (first
      | (go_at_call 8; refine (awake_any _).mono ?_; rintro e w1 ⟨rfl, x1⟩; obtain ⟨cg0_1, cg1_1⟩ := HGg.out w1 (by repeat (first | exact Ext.refl _ | assumption | exact Hid.out (by assumption) | refine Ext.alloc ?_ _ | refine Ext.drew ?_ | refine Ext.drewN ?_ _ | refine Ext.trans ?_ (by assumption))))
      | (go_at_call 10; refine (own_any _ N _ E (Sg.out.ext (by repeat (first | exact Ext.refl _ | assumption | exact Hid.out (by assumption) | refine Ext.alloc ?_ _ | refine Ext.drew ?_ | refine Ext.drewN ?_ _ | refine Ext.trans ?_ (by assumption)))) (by omega)).mono ?_; rintro e w2 ⟨v2, rfl, s2, x2⟩; obtain ⟨ao2, n2, c2, rfl⟩ := s2.sh; have S2 := Lib.hid s2; clear s2; obtain ⟨cg0_2, cg1_2⟩ := HGg.out w2 (by repeat (first | exact Ext.refl _ | assumption | exact Hid.out (by assumption) | refine Ext.alloc ?_ _ | refine Ext.drew ?_ | refine Ext.drewN ?_ _ | refine Ext.trans ?_ (by assumption))))
      | (go_at_call 15; refine (check_any _ N _ E (S2.out.ext (by repeat (first | exact Ext.refl _ | assumption | exact Hid.out (by assumption) | refine Ext.alloc ?_ _ | refine Ext.drew ?_ | refine Ext.drewN ?_ _ | refine Ext.trans ?_ (by assumption)))) _ HC.out).mono ?_; rintro e w3 ⟨rfl, x3⟩; obtain ⟨cg0_3, cg1_3⟩ := HGg.out w3 (by repeat (first | exact Ext.refl _ | assumption | exact Hid.out (by assumption) | refine Ext.alloc ?_ _ | refine Ext.drew ?_ | refine Ext.drewN ?_ _ | refine Ext.trans ?_ (by assumption)))))
    go_region_held3 (fun V => V.cell? ⟨w.heap.size, 0, none⟩ = some (.int .i64 N) ∧ V.cell? ⟨w.heap.size, 1, none⟩ = some (.slice ao E.length c)) (exact HGg.out _ ((by repeat (first | exact Ext.refl _ | assumption | exact Hid.out (by assumption) | refine Ext.alloc ?_ _ | refine Ext.drew ?_ | refine Ext.drewN ?_ _ | refine Ext.trans ?_ (by assumption)))))
      (first
      | (go_at_call 17; have hgd := x6; refine (near_any _ N _ E b (S6.out.ext (by repeat (first | exact Ext.refl _ | assumption | exact Hid.out (by assumption) | refine Ext.alloc ?_ _ | refine Ext.drew ?_ | refine Ext.drewN ?_ _ | refine Ext.trans ?_ (by assumption)))) OK.out).mono ?_; rintro e w7 ⟨v7, rfl, o7, x7⟩; rw [← HM.out] at o7; obtain ⟨ao7, n7, c7, rfl⟩ := o7.sh; have S7 := Lib.hid o7.sl; clear o7; clear hgd)
      | (go_at_call 10; have hgd := x5; refine (own_any _ N _ E (Sg.out.ext (by repeat (first | exact Ext.refl _ | assumption | exact Hid.out (by assumption) | refine Ext.alloc ?_ _ | refine Ext.drew ?_ | refine Ext.drewN ?_ _ | refine Ext.trans ?_ (by assumption)))) (by omega)).mono ?_; rintro e w6 ⟨v6, rfl, s6, x6⟩; obtain ⟨ao6, n6, c6, rfl⟩ := s6.sh; have S6 := Lib.hid s6; clear s6; clear hgd)
      | (go_at_call 17; have hgd := x4; refine (near_any _ N _ E a (S4.out.ext (by repeat (first | exact Ext.refl _ | assumption | exact Hid.out (by assumption) | refine Ext.alloc ?_ _ | refine Ext.drew ?_ | refine Ext.drewN ?_ _ | refine Ext.trans ?_ (by assumption)))) OK.out).mono ?_; rintro e w5 ⟨v5, rfl, o5, x5⟩; rw [← HL.out] at o5; obtain ⟨ao5, n5, c5, rfl⟩ := o5.sh; have S5 := Lib.hid o5.sl; clear o5; clear hgd)
      | (go_at_call 10; have hgd := x3; refine (own_any _ N _ E (Sg.out.ext (by repeat (first | exact Ext.refl _ | assumption | exact Hid.out (by assumption) | refine Ext.alloc ?_ _ | refine Ext.drew ?_ | refine Ext.drewN ?_ _ | refine Ext.trans ?_ (by assumption)))) (by omega)).mono ?_; rintro e w4 ⟨v4, rfl, s4, x4⟩; obtain ⟨ao4, n4, c4, rfl⟩ := s4.sh; have S4 := Lib.hid s4; clear s4; clear hgd))
    all_goals go_wp2_with fail
    all_goals
      go_region_held3 (fun V => V.cell? ⟨w.heap.size, 0, none⟩ = some (.int .i64 N) ∧ V.cell? ⟨w.heap.size, 1, none⟩ = some (.slice ao E.length c)) (exact HGg.out _ ((by repeat (first | exact Ext.refl _ | assumption | exact Hid.out (by assumption) | refine Ext.alloc ?_ _ | refine Ext.drew ?_ | refine Ext.drewN ?_ _ | refine Ext.trans ?_ (by assumption)))))
        (first
        | (go_at_call 19; have hgd := x13; refine (setHas_val _ _ (L) a (S5.out.ext (by repeat (first | exact Ext.refl _ | assumption | exact Hid.out (by assumption) | refine Ext.alloc ?_ _ | refine Ext.drew ?_ | refine Ext.drewN ?_ _ | refine Ext.trans ?_ (by assumption)))) _ V4.out).mono ?_; rintro e w14 ⟨rfl, x14⟩; clear hgd)
        | (go_at_call 16; refine (has_any _ N _ E a b (S12.out.ext (by repeat (first | exact Ext.refl _ | assumption | exact Hid.out (by assumption) | refine Ext.alloc ?_ _ | refine Ext.drew ?_ | refine Ext.drewN ?_ _ | refine Ext.trans ?_ (by assumption)))) _ HT.out).mono ?_; rintro e w13 ⟨rfl, x13⟩)
        | (go_at_call 10; have hgd := x11; refine (own_any _ N _ E (Sg.out.ext (by repeat (first | exact Ext.refl _ | assumption | exact Hid.out (by assumption) | refine Ext.alloc ?_ _ | refine Ext.drew ?_ | refine Ext.drewN ?_ _ | refine Ext.trans ?_ (by assumption)))) (by omega)).mono ?_; rintro e w12 ⟨v12, rfl, s12, x12⟩; obtain ⟨ao12, n12, c12, rfl⟩ := s12.sh; have S12 := Lib.hid s12; clear s12; clear hgd)
        | (go_at_call 19; have hgd := x10; refine (setHas_val _ _ (L) b (S5.out.ext (by repeat (first | exact Ext.refl _ | assumption | exact Hid.out (by assumption) | refine Ext.alloc ?_ _ | refine Ext.drew ?_ | refine Ext.drewN ?_ _ | refine Ext.trans ?_ (by assumption)))) _ V2.out).mono ?_; rintro e w11 ⟨rfl, x11⟩; clear hgd)
        | (go_at_call 19; have hgd := x9; refine (setHas_val _ _ (M) a (S7.out.ext (by repeat (first | exact Ext.refl _ | assumption | exact Hid.out (by assumption) | refine Ext.alloc ?_ _ | refine Ext.drew ?_ | refine Ext.drewN ?_ _ | refine Ext.trans ?_ (by assumption)))) _ V3.out).mono ?_; rintro e w10 ⟨rfl, x10⟩; clear hgd)
        | (go_at_call 19; have hgd := x8; refine (setHas_val _ _ (L) b (S5.out.ext (by repeat (first | exact Ext.refl _ | assumption | exact Hid.out (by assumption) | refine Ext.alloc ?_ _ | refine Ext.drew ?_ | refine Ext.drewN ?_ _ | refine Ext.trans ?_ (by assumption)))) _ V2.out).mono ?_; rintro e w9 ⟨rfl, x9⟩; clear hgd)
        | (go_at_call 18; refine (setValid_val _ _ L (S5.out.ext (by repeat (first | exact Ext.refl _ | assumption | exact Hid.out (by assumption) | refine Ext.alloc ?_ _ | refine Ext.drew ?_ | refine Ext.drewN ?_ _ | refine Ext.trans ?_ (by assumption)))) _ V1.out).mono ?_; rintro e w8 ⟨rfl, x8⟩))
    all_goals go_wp2
    all_goals go_ret
    all_goals exact ⟨rfl, (by repeat (first | exact Ext.refl _ | assumption | exact Hid.out (by assumption) | refine Ext.alloc ?_ _ | refine Ext.drew ?_ | refine Ext.drewN ?_ _ | refine Ext.trans ?_ (by assumption)))⟩
  · have HC := Lib.hid (chk_not ok)
    clear ok
    go_enter Try.func5, Try.ntmps5
    go_wp2_with (first
      | (go_at_call 8; have hgd := x3; refine (awake_any _).mono ?_; rintro e w4 ⟨rfl, x4⟩; clear hgd)
      | (go_at_call 8; refine (awake_any _).mono ?_; rintro e w1 ⟨rfl, x1⟩; obtain ⟨cg0_1, cg1_1⟩ := HGg.out w1 (by repeat (first | exact Ext.refl _ | assumption | exact Hid.out (by assumption) | refine Ext.alloc ?_ _ | refine Ext.drew ?_ | refine Ext.drewN ?_ _ | refine Ext.trans ?_ (by assumption))))
      | (go_at_call 10; refine (own_any _ N _ E (Sg.out.ext (by repeat (first | exact Ext.refl _ | assumption | exact Hid.out (by assumption) | refine Ext.alloc ?_ _ | refine Ext.drew ?_ | refine Ext.drewN ?_ _ | refine Ext.trans ?_ (by assumption)))) (by omega)).mono ?_; rintro e w2 ⟨v2, rfl, s2, x2⟩; obtain ⟨ao2, n2, c2, rfl⟩ := s2.sh; have S2 := Lib.hid s2; clear s2; obtain ⟨cg0_2, cg1_2⟩ := HGg.out w2 (by repeat (first | exact Ext.refl _ | assumption | exact Hid.out (by assumption) | refine Ext.alloc ?_ _ | refine Ext.drew ?_ | refine Ext.drewN ?_ _ | refine Ext.trans ?_ (by assumption))))
      | (go_at_call 15; refine (check_any _ N _ E (S2.out.ext (by repeat (first | exact Ext.refl _ | assumption | exact Hid.out (by assumption) | refine Ext.alloc ?_ _ | refine Ext.drew ?_ | refine Ext.drewN ?_ _ | refine Ext.trans ?_ (by assumption)))) _ HC.out).mono ?_; rintro e w3 ⟨rfl, x3⟩; obtain ⟨cg0_3, cg1_3⟩ := HGg.out w3 (by repeat (first | exact Ext.refl _ | assumption | exact Hid.out (by assumption) | refine Ext.alloc ?_ _ | refine Ext.drew ?_ | refine Ext.drewN ?_ _ | refine Ext.trans ?_ (by assumption)))))
    go_ret
    exact ⟨rfl, (by repeat (first | exact Ext.refl _ | assumption | exact Hid.out (by assumption) | refine Ext.alloc ?_ _ | refine Ext.drew ?_ | refine Ext.drewN ?_ _ | refine Ext.trans ?_ (by assumption)))⟩

end Go.Proofs.Ytanflbjbcncklaa
