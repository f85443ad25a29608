/- CrcJoins, CrcSums: walked. -/
import Derived.Test.YtboilfhggiiahaaDoorCLTails
namespace Go.Proofs.YtboilfhggiiahaaDoor
open Go.RowKit

set_option maxHeartbeats 400000 in
theorem crcJoins_short (w : World) (ht : Tab w) (a b : ByteArray) (ha : a.size ≤ 300) (hb : b.size ≤ 300) :
    Calls Tryd.prog 4 #[.string a, .string b] w fun e w' => e = .returned (.bool true) ∧ Ext w w' := by
  have HT : Hid (∀ W, Ext w W → Tab W) := Lib.hid fun W x => ht.ext x
  have n1 : moreN (moreN 0 (bl a)) (bl b) = moreN 0 (bl (a ++ b)) := by rw [moreN_join, bl_append]
  have n2 : moreN (moreN 0 (bl a)) (bl ⟨#[]⟩) = moreN 0 (bl a) := moreN_nil _
  have g1 : ¬ ((300 : Int) < (a.size : Int)) := by omega
  have g2 : ¬ ((300 : Int) < (b.size : Int)) := by omega
  have g3 : ¬ ((a.size : Int) > 300) := by omega
  have g4 : ¬ ((b.size : Int) > 300) := by omega
  have lta := sum_lt a
  clear ht
  go_enter Tryd.func4, Tryd.ntmps4
  go_wp2_with (first
    | (go_at_call 9; refine (awake_any _ (HT.out _ (Ext.refl _))).mono ?_; rintro e w1 ⟨rfl, x1⟩)
    | (go_at_call 13; refine (sum_any _ _ (HT.out _ x1) (by first | omega | (rw [ByteArray.size_append]; omega))).mono ?_; rintro e w4 ⟨rfl, rfl⟩)
    | (go_at_call 14; refine (more_any _ _ _ (HT.out _ x1) lta (by first | omega | decide)).mono ?_; rintro e w4 ⟨rfl, rfl⟩))
  go_ret
  exact ⟨rfl, x1⟩

set_option maxHeartbeats 400000 in
theorem crcJoins_long (w : World) (ht : Tab w) (a b : ByteArray) (h : ¬ (a.size ≤ 300 ∧ b.size ≤ 300)) :
    Calls Tryd.prog 4 #[.string a, .string b] w fun e w' => e = .returned (.bool true) ∧ Ext w w' := by
  have HT : Hid (∀ W, Ext w W → Tab W) := Lib.hid fun W x => ht.ext x
  clear ht
  by_cases ha : (300 : Int) < (a.size : Int)
  · clear h
    go_enter Tryd.func4, Tryd.ntmps4
    go_wp2_with (first
      | (go_at_call 9; have hgd := x1; refine (awake_any _ (HT.out _ x1)).mono ?_; rintro e w2 ⟨rfl, x2⟩)
      | (go_at_call 9; refine (awake_any _ (HT.out _ (Ext.refl _))).mono ?_; rintro e w1 ⟨rfl, x1⟩))
    go_ret
    exact ⟨rfl, Ext.trans x1 x2⟩
  · have hb : (300 : Int) < (b.size : Int) := by omega
    clear h
    go_enter Tryd.func4, Tryd.ntmps4
    go_wp2_with (first
      | (go_at_call 9; have hgd := x1; refine (awake_any _ (HT.out _ x1)).mono ?_; rintro e w2 ⟨rfl, x2⟩)
      | (go_at_call 9; refine (awake_any _ (HT.out _ (Ext.refl _))).mono ?_; rintro e w1 ⟨rfl, x1⟩))
    go_ret
    exact ⟨rfl, Ext.trans x1 x2⟩
end Go.Proofs.YtboilfhggiiahaaDoor
