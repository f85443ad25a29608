/- What the chapter's examples fix. -/
import Derived.Test.YtboilfhggiiahaaDoorC5
namespace Go.Proofs.YtboilfhggiiahaaDoor
open Go.RowKit

def nine : ByteArray := ⟨#[49, 50, 51, 52, 53, 54, 55, 56, 57]⟩
def four4 : ByteArray := ⟨#[49, 50, 51, 52]⟩
def five5 : ByteArray := ⟨#[53, 54, 55, 56, 57]⟩
theorem nine_sum : moreN 0 (bl nine) = 3421780262 := by decide +kernel
theorem none_sum : moreN 0 (bl ⟨#[]⟩) = 0 := by decide +kernel
theorem four_five : moreN (moreN 0 (bl four4)) (bl five5) = 3421780262 := by decide +kernel
theorem nine_good : goodB (nine ++ textN (tailN 3421780262)) = true ∧ goodS (nine ++ textN (tailN 3421780262)) = nine := by
  have := good_with nine
  rwa [nine_sum] at this
theorem nine_bad : goodB nine = false := by decide +kernel

set_option maxHeartbeats 400000 in
theorem awake_any (w : World) (ht : Tab w) :
    Calls Tryd.prog 9 #[] w fun e w' => e = .returned (.bool true) ∧ Ext w w' := by
  have HT : Hid (∀ W, Ext w W → Tab W) := Lib.hid fun W x => ht.ext x
  have n1 : goodB (⟨#[49, 50, 51, 52, 53, 54, 55, 56, 57]⟩ ++ textN (tailN 3421780262)) = true := nine_good.1
  have n2 : goodS (⟨#[49, 50, 51, 52, 53, 54, 55, 56, 57]⟩ ++ textN (tailN 3421780262)) = ⟨#[49, 50, 51, 52, 53, 54, 55, 56, 57]⟩ := nine_good.2
  have n3 : goodB ⟨#[49, 50, 51, 52, 53, 54, 55, 56, 57]⟩ = false := nine_bad
  have n4 : moreN 0 (bl ⟨#[49, 50, 51, 52, 53, 54, 55, 56, 57]⟩) = 3421780262 := nine_sum
  have n5 : moreN 0 (bl ⟨#[]⟩) = 0 := none_sum
  have n6 : moreN (moreN 0 (bl ⟨#[49, 50, 51, 52]⟩)) (bl ⟨#[53, 54, 55, 56, 57]⟩) = 3421780262 := four_five
  have n7 : (textN (tailN 3421780262)).size = 4 := tail_size _
  clear ht
  go_enter Tryd.func9, Tryd.ntmps9
  go_wp2_with (first
    | (go_at_call 15; refine (tail_any _ 3421780262 (by decide)).mono ?_; rintro e w1 ⟨rfl, x1⟩)
    | (go_at_call 10; have hgd := x2; refine (good_any _ _ (HT.out _ (Ext.trans x1 x2)) (by decide)).mono ?_; rintro e w3 ⟨rfl, x3⟩)
    | (go_at_call 10; refine (good_any _ _ (HT.out _ x1) (by rw [ByteArray.size_append, tail_size]; decide)).mono ?_; rintro e w2 ⟨rfl, x2⟩)
    | (go_at_call 13; refine (sum_any _ _ (HT.out _ (Ext.trans x1 (Ext.trans x2 x3))) (by decide)).mono ?_; rintro e w4 ⟨rfl, rfl⟩)
    | (go_at_call 14; refine (more_any _ _ _ (HT.out _ (Ext.trans x1 (Ext.trans x2 x3))) (moreN_lt (by decide) (bl_lt _)) (by decide)).mono ?_; rintro e w4 ⟨rfl, rfl⟩))
  go_ret
  exact ⟨rfl, Ext.trans x1 (Ext.trans x2 x3)⟩
end Go.Proofs.YtboilfhggiiahaaDoor
