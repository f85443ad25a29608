/- The document's answer of whether arcs may be, of their order and of the depths. -/
import Derived.Test.YthofgfdhcndpbaaL4
namespace Go.Proofs.Ythofgfdhcndpbaa
open Go.RowKit

theorem dagOrders_long (w : World) (N : Int) (ao : Option Addr) (c : Nat) (E : List Arc)  (h : Sl w (.slice ao E.length c) E) (hf : fewB N E.length = false) :
    Calls Try.prog 3 #[.int .i64 N, .slice ao E.length c] w (GivesB w (.bool true)) := by
  have n1 := h.length_le
  have HF := Lib.hid hf
  clear h hf
  go_enter Try.func3, Try.ntmps3
  go_wp2_with (first
    | (go_at_call 10; have hgd := x1; refine (awake_any _).mono ?_; rintro e w2 ⟨rfl, x2⟩; clear hgd)
    | (go_at_call 10; refine (awake_any _).mono ?_; rintro e w1 ⟨rfl, x1⟩)
    | (go_at_call 11; refine (few_val _ N ao E.length c n1 false HF.out).mono ?_; rintro e w9 ⟨rfl, rfl⟩))
  go_ret
  exact ⟨rfl, (by repeat (first | exact Ext.refl _ | assumption | exact Hid.out (by assumption) | refine Ext.alloc ?_ _ | refine Ext.drew ?_ | refine Ext.drewN ?_ _ | refine Ext.trans ?_ (by assumption)))⟩

set_option maxRecDepth 100000 in
set_option maxHeartbeats 8000000 in
theorem dagOrders_short (w : World) (N : Int) (ao : Option Addr) (c : Nat) (E : List Arc)  (h : Sl w (.slice ao E.length c) E) (hf : fewB N E.length = true) :
    Calls Try.prog 3 #[.int .i64 N, .slice ao E.length c] w (GivesB w (.bool true)) := by
  have n1 := h.length_le
  have hl60 : E.length ≤ 60 := by simp only [fewB, Bool.and_eq_true, decide_eq_true_eq] at hf; exact hf.1
  have HF := Lib.hid hf
  have Sg := Lib.hid h
  clear h hf
  obtain ⟨X, hX⟩ : ∃ X, ordL N E = X := ⟨_, rfl⟩
  obtain ⟨b, hb⟩ : ∃ b, ordB N E = b := ⟨_, rfl⟩
  have HU : Hid (∀ d e : List Int, IsDD N E b d → IsDD N E b e → d = e) := Lib.hid fun d e h1 h2 => h1.uniq hb h2
  have HX := Lib.hid hX
  have HB := Lib.hid hb
  by_cases ok : OkD N E
  · have HC := Lib.hid (chkD_of ok)
    have HK := Lib.hid (okD_iff.2 ok)
    clear hX hb ok
    cases b
    all_goals
      go_enter Try.func3, Try.ntmps3
      go_wp2_with (first
        | (go_at_call 13; have hgd := x11; refine (own_any _ _ E (Sg.out.ext (by repeat (first | exact Ext.refl _ | assumption | exact Hid.out (by assumption) | refine Ext.alloc ?_ _ | refine Ext.drew ?_ | refine Ext.drewN ?_ _ | refine Ext.trans ?_ (by assumption)))) (by omega)).mono ?_; rintro e w8 ⟨v8, rfl, s8, x8⟩; obtain ⟨ao8, n8, c8, rfl⟩ := s8.sh; have S8 := Lib.hid s8.sl; clear s8; clear hgd)
        | (go_at_call 13; have hgd := S4; refine (own_any _ _ E (Sg.out.ext (by repeat (first | exact Ext.refl _ | assumption | exact Hid.out (by assumption) | refine Ext.alloc ?_ _ | refine Ext.drew ?_ | refine Ext.drewN ?_ _ | refine Ext.trans ?_ (by assumption)))) (by omega)).mono ?_; rintro e w5 ⟨v5, rfl, s5, x5⟩; obtain ⟨ao5, n5, c5, rfl⟩ := s5.sh; have S5 := Lib.hid s5.sl; clear s5; clear hgd)
        | (go_at_call 13; refine (own_any _ _ E (Sg.out.ext (by repeat (first | exact Ext.refl _ | assumption | exact Hid.out (by assumption) | refine Ext.alloc ?_ _ | refine Ext.drew ?_ | refine Ext.drewN ?_ _ | refine Ext.trans ?_ (by assumption)))) (by omega)).mono ?_; rintro e w2 ⟨v2, rfl, s2, x2⟩; obtain ⟨ao2, n2, c2, rfl⟩ := s2.sh; have S2 := Lib.hid s2.sl; clear s2)
        | (go_at_call 12; refine (order_any _ N _ E (S2.out.ext (by repeat (first | exact Ext.refl _ | assumption | exact Hid.out (by assumption) | refine Ext.alloc ?_ _ | refine Ext.drew ?_ | refine Ext.drewN ?_ _ | refine Ext.trans ?_ (by assumption)))) X _ HX.out HB.out).mono ?_; rintro e w3 ⟨v3, rfl, s3, x3⟩; obtain ⟨ao3, n3, c3, rfl⟩ := s3.sh; have S3 := Lib.hid s3.sl; clear s3)
        | (go_at_call 14; refine (refOrder_any _ N _ E (Sg.out.ext (by repeat (first | exact Ext.refl _ | assumption | exact Hid.out (by assumption) | refine Ext.alloc ?_ _ | refine Ext.drew ?_ | refine Ext.drewN ?_ _ | refine Ext.trans ?_ (by assumption)))) X _ HX.out HB.out).mono ?_; rintro e w4 ⟨v4, rfl, s4, x4⟩; obtain ⟨ao4, n4, c4, rfl⟩ := s4.sh; have S4 := Lib.hid s4.sl; clear s4)
        | (go_at_call 15; refine (depths_any _ N _ E (S5.out.ext (by repeat (first | exact Ext.refl _ | assumption | exact Hid.out (by assumption) | refine Ext.alloc ?_ _ | refine Ext.drew ?_ | refine Ext.drewN ?_ _ | refine Ext.trans ?_ (by assumption)))) _ HB.out).mono ?_; rintro e w6 ⟨v6, d6, rfl, s6, hd6, x6⟩; obtain ⟨ao6, n6, c6, rfl⟩ := s6.sh; have S6 := Lib.hid s6.sl; clear s6)
        | (go_at_call 16; refine (refDepths_any _ N _ E (Sg.out.ext (by repeat (first | exact Ext.refl _ | assumption | exact Hid.out (by assumption) | refine Ext.alloc ?_ _ | refine Ext.drew ?_ | refine Ext.drewN ?_ _ | refine Ext.trans ?_ (by assumption)))) _ HB.out).mono ?_; rintro e w7 ⟨v7, d7, rfl, s7, hd7, x7⟩; have hdd := HU.out d6 d7 hd6 hd7; subst hdd; clear hd6 hd7; obtain ⟨ao7, n7, c7, rfl⟩ := s7.sh; have S7 := Lib.hid s7.sl; clear s7)
        | (go_at_call 17; have hgd := x10; refine (refSame_val true _ _ _ d6 d6 (S6.out.ext (by repeat (first | exact Ext.refl _ | assumption | exact Hid.out (by assumption) | refine Ext.alloc ?_ _ | refine Ext.drew ?_ | refine Ext.drewN ?_ _ | refine Ext.trans ?_ (by assumption)))) (S7.out.ext (by repeat (first | exact Ext.refl _ | assumption | exact Hid.out (by assumption) | refine Ext.alloc ?_ _ | refine Ext.drew ?_ | refine Ext.drewN ?_ _ | refine Ext.trans ?_ (by assumption)))) (by simp)).mono ?_; rintro e w11 ⟨rfl, d11⟩; have x11 := Ext.of_drew d11; clear d11; clear hgd)
        | (go_at_call 17; refine (refSame_val true _ _ _ X X (S3.out.ext (by repeat (first | exact Ext.refl _ | assumption | exact Hid.out (by assumption) | refine Ext.alloc ?_ _ | refine Ext.drew ?_ | refine Ext.drewN ?_ _ | refine Ext.trans ?_ (by assumption)))) (S4.out.ext (by repeat (first | exact Ext.refl _ | assumption | exact Hid.out (by assumption) | refine Ext.alloc ?_ _ | refine Ext.drew ?_ | refine Ext.drewN ?_ _ | refine Ext.trans ?_ (by assumption)))) (by simp)).mono ?_; rintro e w10 ⟨rfl, d10⟩; have x10 := Ext.of_drew d10; clear d10)
        | (go_at_call 18; have hgd := S8; refine (check_any _ N _ E (S8.out.ext (by repeat (first | exact Ext.refl _ | assumption | exact Hid.out (by assumption) | refine Ext.alloc ?_ _ | refine Ext.drew ?_ | refine Ext.drewN ?_ _ | refine Ext.trans ?_ (by assumption)))) 0 HC.out).mono ?_; rintro e w9 ⟨rfl, x9⟩)
        | (go_at_call 19; have hgd := x12; refine (refCheck_val _ N _ E (Sg.out.ext (by repeat (first | exact Ext.refl _ | assumption | exact Hid.out (by assumption) | refine Ext.alloc ?_ _ | refine Ext.drew ?_ | refine Ext.drewN ?_ _ | refine Ext.trans ?_ (by assumption)))) true HK.out).mono ?_; rintro e w13 ⟨rfl, x13⟩; clear hgd)
        | (go_at_call 19; refine (refCheck_val _ N _ E (Sg.out.ext (by repeat (first | exact Ext.refl _ | assumption | exact Hid.out (by assumption) | refine Ext.alloc ?_ _ | refine Ext.drew ?_ | refine Ext.drewN ?_ _ | refine Ext.trans ?_ (by assumption)))) true HK.out).mono ?_; rintro e w12 ⟨rfl, x12⟩)
        | (go_at_call 10; refine (awake_any _).mono ?_; rintro e w1 ⟨rfl, x1⟩)
        | (go_at_call 11; refine (few_val _ N ao E.length c n1 true HF.out).mono ?_; rintro e w9 ⟨rfl, rfl⟩))
      go_ret
      exact ⟨rfl, (by repeat (first | exact Ext.refl _ | assumption | exact Hid.out (by assumption) | refine Ext.alloc ?_ _ | refine Ext.drew ?_ | refine Ext.drewN ?_ _ | refine Ext.trans ?_ (by assumption)))⟩
  · have HC := Lib.hid (chkD_not ok)
    have HK := Lib.hid (okD_no ok)
    have hbf : b = false := by
      cases b with
      | false => rfl
      | true => exact absurd (ordB_iff.1 hb).1 ok
    subst hbf
    clear hX hb ok
    go_enter Try.func3, Try.ntmps3
    go_wp2_with (first
      | (go_at_call 13; have hgd := x11; refine (own_any _ _ E (Sg.out.ext (by repeat (first | exact Ext.refl _ | assumption | exact Hid.out (by assumption) | refine Ext.alloc ?_ _ | refine Ext.drew ?_ | refine Ext.drewN ?_ _ | refine Ext.trans ?_ (by assumption)))) (by omega)).mono ?_; rintro e w8 ⟨v8, rfl, s8, x8⟩; obtain ⟨ao8, n8, c8, rfl⟩ := s8.sh; have S8 := Lib.hid s8.sl; clear s8; clear hgd)
      | (go_at_call 13; have hgd := S4; refine (own_any _ _ E (Sg.out.ext (by repeat (first | exact Ext.refl _ | assumption | exact Hid.out (by assumption) | refine Ext.alloc ?_ _ | refine Ext.drew ?_ | refine Ext.drewN ?_ _ | refine Ext.trans ?_ (by assumption)))) (by omega)).mono ?_; rintro e w5 ⟨v5, rfl, s5, x5⟩; obtain ⟨ao5, n5, c5, rfl⟩ := s5.sh; have S5 := Lib.hid s5.sl; clear s5; clear hgd)
      | (go_at_call 13; refine (own_any _ _ E (Sg.out.ext (by repeat (first | exact Ext.refl _ | assumption | exact Hid.out (by assumption) | refine Ext.alloc ?_ _ | refine Ext.drew ?_ | refine Ext.drewN ?_ _ | refine Ext.trans ?_ (by assumption)))) (by omega)).mono ?_; rintro e w2 ⟨v2, rfl, s2, x2⟩; obtain ⟨ao2, n2, c2, rfl⟩ := s2.sh; have S2 := Lib.hid s2.sl; clear s2)
      | (go_at_call 12; refine (order_any _ N _ E (S2.out.ext (by repeat (first | exact Ext.refl _ | assumption | exact Hid.out (by assumption) | refine Ext.alloc ?_ _ | refine Ext.drew ?_ | refine Ext.drewN ?_ _ | refine Ext.trans ?_ (by assumption)))) X _ HX.out HB.out).mono ?_; rintro e w3 ⟨v3, rfl, s3, x3⟩; obtain ⟨ao3, n3, c3, rfl⟩ := s3.sh; have S3 := Lib.hid s3.sl; clear s3)
      | (go_at_call 14; refine (refOrder_any _ N _ E (Sg.out.ext (by repeat (first | exact Ext.refl _ | assumption | exact Hid.out (by assumption) | refine Ext.alloc ?_ _ | refine Ext.drew ?_ | refine Ext.drewN ?_ _ | refine Ext.trans ?_ (by assumption)))) X _ HX.out HB.out).mono ?_; rintro e w4 ⟨v4, rfl, s4, x4⟩; obtain ⟨ao4, n4, c4, rfl⟩ := s4.sh; have S4 := Lib.hid s4.sl; clear s4)
      | (go_at_call 15; refine (depths_any _ N _ E (S5.out.ext (by repeat (first | exact Ext.refl _ | assumption | exact Hid.out (by assumption) | refine Ext.alloc ?_ _ | refine Ext.drew ?_ | refine Ext.drewN ?_ _ | refine Ext.trans ?_ (by assumption)))) _ HB.out).mono ?_; rintro e w6 ⟨v6, d6, rfl, s6, hd6, x6⟩; obtain ⟨ao6, n6, c6, rfl⟩ := s6.sh; have S6 := Lib.hid s6.sl; clear s6)
      | (go_at_call 16; refine (refDepths_any _ N _ E (Sg.out.ext (by repeat (first | exact Ext.refl _ | assumption | exact Hid.out (by assumption) | refine Ext.alloc ?_ _ | refine Ext.drew ?_ | refine Ext.drewN ?_ _ | refine Ext.trans ?_ (by assumption)))) _ HB.out).mono ?_; rintro e w7 ⟨v7, d7, rfl, s7, hd7, x7⟩; have hdd := HU.out d6 d7 hd6 hd7; subst hdd; clear hd6 hd7; obtain ⟨ao7, n7, c7, rfl⟩ := s7.sh; have S7 := Lib.hid s7.sl; clear s7)
      | (go_at_call 17; have hgd := x10; refine (refSame_val true _ _ _ d6 d6 (S6.out.ext (by repeat (first | exact Ext.refl _ | assumption | exact Hid.out (by assumption) | refine Ext.alloc ?_ _ | refine Ext.drew ?_ | refine Ext.drewN ?_ _ | refine Ext.trans ?_ (by assumption)))) (S7.out.ext (by repeat (first | exact Ext.refl _ | assumption | exact Hid.out (by assumption) | refine Ext.alloc ?_ _ | refine Ext.drew ?_ | refine Ext.drewN ?_ _ | refine Ext.trans ?_ (by assumption)))) (by simp)).mono ?_; rintro e w11 ⟨rfl, d11⟩; have x11 := Ext.of_drew d11; clear d11; clear hgd)
      | (go_at_call 17; refine (refSame_val true _ _ _ X X (S3.out.ext (by repeat (first | exact Ext.refl _ | assumption | exact Hid.out (by assumption) | refine Ext.alloc ?_ _ | refine Ext.drew ?_ | refine Ext.drewN ?_ _ | refine Ext.trans ?_ (by assumption)))) (S4.out.ext (by repeat (first | exact Ext.refl _ | assumption | exact Hid.out (by assumption) | refine Ext.alloc ?_ _ | refine Ext.drew ?_ | refine Ext.drewN ?_ _ | refine Ext.trans ?_ (by assumption)))) (by simp)).mono ?_; rintro e w10 ⟨rfl, d10⟩; have x10 := Ext.of_drew d10; clear d10)
      | (go_at_call 18; have hgd := S8; refine (check_any _ N _ E (S8.out.ext (by repeat (first | exact Ext.refl _ | assumption | exact Hid.out (by assumption) | refine Ext.alloc ?_ _ | refine Ext.drew ?_ | refine Ext.drewN ?_ _ | refine Ext.trans ?_ (by assumption)))) 40 HC.out).mono ?_; rintro e w9 ⟨rfl, x9⟩)
      | (go_at_call 19; have hgd := x12; refine (refCheck_val _ N _ E (Sg.out.ext (by repeat (first | exact Ext.refl _ | assumption | exact Hid.out (by assumption) | refine Ext.alloc ?_ _ | refine Ext.drew ?_ | refine Ext.drewN ?_ _ | refine Ext.trans ?_ (by assumption)))) false HK.out).mono ?_; rintro e w13 ⟨rfl, x13⟩; clear hgd)
      | (go_at_call 19; refine (refCheck_val _ N _ E (Sg.out.ext (by repeat (first | exact Ext.refl _ | assumption | exact Hid.out (by assumption) | refine Ext.alloc ?_ _ | refine Ext.drew ?_ | refine Ext.drewN ?_ _ | refine Ext.trans ?_ (by assumption)))) false HK.out).mono ?_; rintro e w12 ⟨rfl, x12⟩)
      | (go_at_call 18; have hgd := S14; refine (check_any _ N _ E (S14.out.ext (by repeat (first | exact Ext.refl _ | assumption | exact Hid.out (by assumption) | refine Ext.alloc ?_ _ | refine Ext.drew ?_ | refine Ext.drewN ?_ _ | refine Ext.trans ?_ (by assumption)))) 40 HC.out).mono ?_; rintro e w15 ⟨rfl, x15⟩; clear hgd)
      | (go_at_call 13; have hgd := x13; refine (own_any _ _ E (Sg.out.ext (by repeat (first | exact Ext.refl _ | assumption | exact Hid.out (by assumption) | refine Ext.alloc ?_ _ | refine Ext.drew ?_ | refine Ext.drewN ?_ _ | refine Ext.trans ?_ (by assumption)))) (by omega)).mono ?_; rintro e w14 ⟨v14, rfl, s14, x14⟩; obtain ⟨ao14, n14, c14, rfl⟩ := s14.sh; have S14 := Lib.hid s14.sl; clear s14; clear hgd)
      | (go_at_call 10; refine (awake_any _).mono ?_; rintro e w1 ⟨rfl, x1⟩)
      | (go_at_call 11; refine (few_val _ N ao E.length c n1 true HF.out).mono ?_; rintro e w9 ⟨rfl, rfl⟩))
    go_ret
    exact ⟨rfl, (by repeat (first | exact Ext.refl _ | assumption | exact Hid.out (by assumption) | refine Ext.alloc ?_ _ | refine Ext.drew ?_ | refine Ext.drewN ?_ _ | refine Ext.trans ?_ (by assumption)))⟩

end Go.Proofs.Ythofgfdhcndpbaa
