/- CrcGood: walked. -/
import Derived.Test.YtboilfhggiiahaaDoorCLJoins
namespace Go.Proofs.YtboilfhggiiahaaDoor
open Go.RowKit

theorem goodS_size (s : ByteArray) : (goodS s).size ≤ s.size := by
  unfold goodS
  split
  · unfold ahead; rw [ByteArray.size_extract]; omega
  · exact Nat.zero_le _

set_option maxHeartbeats 800000 in
theorem crcGood_short (w : World) (ht : Tab w) (s : ByteArray) (hs : s.size ≤ 300) :
    Calls Tryd.prog 7 #[.string s] w fun e w' => e = .returned (.bool true) ∧ Ext w w' := by
  have HT : Hid (∀ W, Ext w W → Tab W) := Lib.hid fun W x => ht.ext x
  have lt1 := sum_lt s
  obtain ⟨M, hM⟩ : ∃ M, M = moreN 0 (bl s) := ⟨_, rfl⟩
  have g1 : goodB (s ++ textN (tailN M)) = true := by rw [hM]; exact (good_with s).1
  have g2 : goodS (s ++ textN (tailN M)) = s := by rw [hM]; exact (good_with s).2
  have g3 : (s.toList == s.toList) = true := by simp
  have g4 : ¬ ((s.size : Int) > 300) := by omega
  have g5 : ¬ ((300 : Int) < (s.size : Int)) := by omega
  have g6 : (textN (tailN M)).size = 4 := tail_size M
  have gz := goodS_size s
  have HSM : Hid (∀ W, Tab W → Calls Tryd.prog 13 #[.string s] W fun e w' => e = .returned (.int .u32 (M : Nat)) ∧ W = w') := Lib.hid fun W h => by rw [hM]; exact sum_any W s h (by omega)
  rw [← hM] at lt1
  clear ht hM
  by_cases hb : goodB s = true
  · have lt2 := sum_lt (goodS s)
    have hS := good_is hb
    obtain ⟨C, hC⟩ : ∃ C, C = goodS s := ⟨_, rfl⟩
    rw [← hC] at lt2 hS gz
    obtain ⟨K, hK⟩ : ∃ K, K = moreN 0 (bl C) := ⟨_, rfl⟩
    have HSC : Hid (∀ W, Tab W → Calls Tryd.prog 13 #[.string C] W fun e w' => e = .returned (.int .u32 (K : Nat)) ∧ W = w') := Lib.hid fun W h => by rw [hK]; exact sum_any W C h (by omega)
    rw [← hK] at lt2 hS
    have g7 : (textN (tailN K)).size = 4 := tail_size K
    have HCS := Lib.hid hC
    have HGD : Hid (∀ W, Tab W → Calls Tryd.prog 10 #[.string s] W fun e w' => e = .returned (.tuple #[.string C, .bool true]) ∧ Ext W w') := Lib.hid fun W h => by
      have := good_any W s h (by omega)
      rwa [hb, ← hC] at this
    clear hC hK hb
    go_enter Tryd.func7, Tryd.ntmps7
    go_wp2_with (first
      | (go_at_call 9; refine (awake_any _ (HT.out _ (Ext.refl _))).mono ?_; rintro e w1 ⟨rfl, x1⟩)
      | (go_at_call 13; have hgd := y4; refine (HSC.out _ (HT.out _ y4)).mono ?_; rintro e w4 ⟨rfl, rfl⟩)
      | (go_at_call 13; refine (HSM.out _ (HT.out _ x1)).mono ?_; rintro e w4 ⟨rfl, rfl⟩)
      | (go_at_call 15; have hgd := y4; refine (tail_any _ K lt2).mono ?_; rintro e w5 ⟨rfl, x5⟩; have y5 := Ext.trans y4 x5)
      | (go_at_call 15; refine (tail_any _ M lt1).mono ?_; rintro e w2 ⟨rfl, x2⟩; have y2 := Ext.trans x1 x2)
      | (go_at_call 10; have hgd := y3; refine (HGD.out _ (HT.out _ y3)).mono ?_; rintro e w4 ⟨rfl, x4⟩; have y4 := Ext.trans y3 x4)
      | (go_at_call 10; refine (good_any _ _ (HT.out _ y2) (by rw [ByteArray.size_append, g6]; omega)).mono ?_; rintro e w3 ⟨rfl, x3⟩; have y3 := Ext.trans y2 x3))
    go_ret
    exact ⟨rfl, y5⟩
  · have hbf : goodB s = false := by simpa using hb
    have HGD : Hid (∀ W, Tab W → Calls Tryd.prog 10 #[.string s] W fun e w' => e = .returned (.tuple #[.string ⟨#[]⟩, .bool false]) ∧ Ext W w') := Lib.hid fun W h => by
      have := good_any W s h (by omega)
      rwa [hbf, good_not hbf] at this
    clear hb hbf gz
    go_enter Tryd.func7, Tryd.ntmps7
    go_wp2_with (first
      | (go_at_call 9; refine (awake_any _ (HT.out _ (Ext.refl _))).mono ?_; rintro e w1 ⟨rfl, x1⟩)
      | (go_at_call 13; refine (HSM.out _ (HT.out _ x1)).mono ?_; rintro e w4 ⟨rfl, rfl⟩)
      | (go_at_call 15; refine (tail_any _ M lt1).mono ?_; rintro e w2 ⟨rfl, x2⟩; have y2 := Ext.trans x1 x2)
      | (go_at_call 10; have hgd := y3; refine (HGD.out _ (HT.out _ y3)).mono ?_; rintro e w4 ⟨rfl, x4⟩; have y4 := Ext.trans y3 x4)
      | (go_at_call 10; refine (good_any _ _ (HT.out _ y2) (by rw [ByteArray.size_append, g6]; omega)).mono ?_; rintro e w3 ⟨rfl, x3⟩; have y3 := Ext.trans y2 x3))
    go_ret
    exact ⟨rfl, y4⟩

set_option maxHeartbeats 400000 in
theorem crcGood_long (w : World) (ht : Tab w) (s : ByteArray) (h : (300 : Int) < (s.size : Int)) :
    Calls Tryd.prog 7 #[.string s] w fun e w' => e = .returned (.bool true) ∧ Ext w w' := by
  have HT : Hid (∀ W, Ext w W → Tab W) := Lib.hid fun W x => ht.ext x
  clear ht
  go_enter Tryd.func7, Tryd.ntmps7
  go_wp2_with (first
    | (go_at_call 9; have hgd := x1; refine (awake_any _ (HT.out _ x1)).mono ?_; rintro e w2 ⟨rfl, x2⟩)
    | (go_at_call 9; refine (awake_any _ (HT.out _ (Ext.refl _))).mono ?_; rintro e w1 ⟨rfl, x1⟩))
  go_ret
  exact ⟨rfl, Ext.trans x1 x2⟩
end Go.Proofs.YtboilfhggiiahaaDoor
