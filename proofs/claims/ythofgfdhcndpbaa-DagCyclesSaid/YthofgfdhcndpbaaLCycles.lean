/- The document's answer of the nodes that arcs lead round. -/
import Derived.Test.YthofgfdhcndpbaaL4
namespace Go.Proofs.Ythofgfdhcndpbaa
open Go.RowKit

theorem dagCycles_long (w : World) (N : Int) (ao : Option Addr) (c : Nat) (E : List Arc)  (h : Sl w (.slice ao E.length c) E) (hf : fewB N E.length = false) :
    Calls Try.prog 4 #[.int .i64 N, .slice ao E.length c] w (GivesB w (.bool true)) := by
  have n1 := h.length_le
  have HF := Lib.hid hf
  clear h hf
  go_enter Try.func4, Try.ntmps4
  go_wp2_with (first
    | (go_at_call 10; have hgd := x1; refine (awake_any _).mono ?_; rintro e w2 ⟨rfl, x2⟩; clear hgd)
    | (go_at_call 10; refine (awake_any _).mono ?_; rintro e w1 ⟨rfl, x1⟩)
    | (go_at_call 11; refine (few_val _ N ao E.length c n1 false HF.out).mono ?_; rintro e w9 ⟨rfl, rfl⟩))
  go_ret
  exact ⟨rfl, (by repeat (first | exact Ext.refl _ | assumption | exact Hid.out (by assumption) | refine Ext.alloc ?_ _ | refine Ext.drew ?_ | refine Ext.drewN ?_ _ | refine Ext.trans ?_ (by assumption)))⟩

set_option maxRecDepth 100000 in
set_option maxHeartbeats 8000000 in
theorem dagCycles_short (w : World) (N : Int) (ao : Option Addr) (c : Nat) (E : List Arc)  (h : Sl w (.slice ao E.length c) E) (hf : fewB N E.length = true) :
    Calls Try.prog 4 #[.int .i64 N, .slice ao E.length c] w (GivesB w (.bool true)) := by
  have n1 := h.length_le
  have hl60 : E.length ≤ 60 := by simp only [fewB, Bool.and_eq_true, decide_eq_true_eq] at hf; exact hf.1
  have HF := Lib.hid hf
  have Sg := Lib.hid h
  clear h hf
  obtain ⟨X, hX⟩ : ∃ X, cycL N E = X := ⟨_, rfl⟩
  obtain ⟨b, hb⟩ : ∃ b, cycB N E = b := ⟨_, rfl⟩
  have HX := Lib.hid hX
  have HB := Lib.hid hb
  clear hX hb
  cases b
  all_goals
    go_enter Try.func4, Try.ntmps4
    go_wp2_with (first
      | (go_at_call 13; refine (own_any _ _ E (Sg.out.ext (by repeat (first | exact Ext.refl _ | assumption | exact Hid.out (by assumption) | refine Ext.alloc ?_ _ | refine Ext.drew ?_ | refine Ext.drewN ?_ _ | refine Ext.trans ?_ (by assumption)))) (by omega)).mono ?_; rintro e w2 ⟨v2, rfl, s2, x2⟩; obtain ⟨ao2, n2, c2, rfl⟩ := s2.sh; have S2 := Lib.hid s2.sl; clear s2)
      | (go_at_call 20; refine (cycle_any _ N _ E (S2.out.ext (by repeat (first | exact Ext.refl _ | assumption | exact Hid.out (by assumption) | refine Ext.alloc ?_ _ | refine Ext.drew ?_ | refine Ext.drewN ?_ _ | refine Ext.trans ?_ (by assumption)))) X _ HX.out HB.out).mono ?_; rintro e w3 ⟨v3, rfl, s3, x3⟩; obtain ⟨ao3, n3, c3, rfl⟩ := s3.sh; have S3 := Lib.hid s3.sl; clear s3)
      | (go_at_call 21; refine (refCycle_any _ N _ E (Sg.out.ext (by repeat (first | exact Ext.refl _ | assumption | exact Hid.out (by assumption) | refine Ext.alloc ?_ _ | refine Ext.drew ?_ | refine Ext.drewN ?_ _ | refine Ext.trans ?_ (by assumption)))) X _ HX.out HB.out).mono ?_; rintro e w4 ⟨v4, rfl, s4, x4⟩; obtain ⟨ao4, n4, c4, rfl⟩ := s4.sh; have S4 := Lib.hid s4.sl; clear s4)
      | (go_at_call 17; refine (refSame_val true _ _ _ X X (S3.out.ext (by repeat (first | exact Ext.refl _ | assumption | exact Hid.out (by assumption) | refine Ext.alloc ?_ _ | refine Ext.drew ?_ | refine Ext.drewN ?_ _ | refine Ext.trans ?_ (by assumption)))) (S4.out.ext (by repeat (first | exact Ext.refl _ | assumption | exact Hid.out (by assumption) | refine Ext.alloc ?_ _ | refine Ext.drew ?_ | refine Ext.drewN ?_ _ | refine Ext.trans ?_ (by assumption)))) (by simp)).mono ?_; rintro e w5 ⟨rfl, d5⟩; have x5 := Ext.of_drew d5; clear d5)
      | (go_at_call 10; refine (awake_any _).mono ?_; rintro e w1 ⟨rfl, x1⟩)
      | (go_at_call 11; refine (few_val _ N ao E.length c n1 true HF.out).mono ?_; rintro e w9 ⟨rfl, rfl⟩))
    go_ret
    exact ⟨rfl, (by repeat (first | exact Ext.refl _ | assumption | exact Hid.out (by assumption) | refine Ext.alloc ?_ _ | refine Ext.drew ?_ | refine Ext.drewN ?_ _ | refine Ext.trans ?_ (by assumption)))⟩

end Go.Proofs.Ythofgfdhcndpbaa
