/- CrcSums: walked. -/
import Derived.Test.YtboilfhggiiahaaDoorCLGood
namespace Go.Proofs.YtboilfhggiiahaaDoor
open Go.RowKit

set_option maxHeartbeats 800000 in
theorem crcSums_small (w : World) (ht : Tab w) (c : Nat) (hc : c < 4294967296) (s : ByteArray) (h4 : s.size < 4) :
    Calls Tryd.prog 3 #[.int .u32 (c : Int), .string s] w fun e w' => e = .returned (.bool true) ∧ Ext w w' := by
  have HT : Hid (∀ W, Ext w W → Tab W) := Lib.hid fun W x => ht.ext x
  have hs63 : s.size ≤ 9223372036854775807 := by omega
  have hgb : goodB s = false := by unfold goodB; simp; omega
  have HGD : Hid (∀ W, Tab W → Calls Tryd.prog 10 #[.string s] W fun e w' => e = .returned (.tuple #[.string ⟨#[]⟩, .bool false]) ∧ Ext W w') := Lib.hid fun W h => by
    have := good_any W s h (by omega)
    rwa [hgb, good_not hgb] at this
  have e1 : ¬ ((4 : Int) ≤ (s.size : Int)) := by omega
  have e9 : decide ((4 : Int) ≤ (s.size : Int)) = false := decide_eq_false e1
  have e10 : decide ((s.size : Int) ≥ 4) = false := decide_eq_false (by omega)
  have e11 : (s.size : Int) < 4 := by omega
  have e7 : ¬ ((s.size : Int) > 300) := by omega
  have e8 : ¬ ((300 : Int) < (s.size : Int)) := by omega
  have lt0 := sum_lt s
  clear ht hgb
  go_enter Tryd.func3, Tryd.ntmps3
  go_wp2_with (first
    | (go_at_call 9; refine (awake_any _ (HT.out _ (Ext.refl _))).mono ?_; rintro e w1 ⟨rfl, x1⟩)
    | (go_at_call 10; refine (HGD.out _ (HT.out _ x1)).mono ?_; rintro e w2 ⟨rfl, x2⟩; have y2 := Ext.trans x1 x2))
  go_quiet (fail)
  go_wp2_with (first
    | (go_at_call 13; refine (sum_any _ s (HT.out _ (by repeat (first | exact Ext.refl _ | assumption | refine Ext.alloc ?_ _ | refine Ext.drew ?_ | refine Ext.drewN ?_ _))) hs63).mono ?_; rintro e w4 ⟨rfl, rfl⟩)
    | (go_at_call 12; have hgd := m4; refine (refMore_any _ c s hc hs63).mono ?_; rintro e w4 ⟨rfl, rfl⟩)
    | (go_at_call 12; refine (refMore_any _ 0 s (by decide) hs63).mono ?_; rintro e w4 ⟨rfl, rfl⟩)
    | (go_at_call 14; refine (more_any _ c s (HT.out _ (by repeat (first | exact Ext.refl _ | assumption | refine Ext.alloc ?_ _ | refine Ext.drew ?_ | refine Ext.drewN ?_ _))) hc hs63).mono ?_; rintro e w4 ⟨rfl, rfl⟩; have m4 := True.intro)
    | (go_at_call 15; refine (tail_any _ c hc).mono ?_; rintro e w5 ⟨rfl, x5⟩; have y5 : Ext w w5 := Ext.trans (by exact (by repeat (first | exact Ext.refl _ | assumption | refine Ext.alloc ?_ _ | refine Ext.drew ?_ | refine Ext.drewN ?_ _))) x5)
    | (go_at_call 11; refine (refTail_any _ c hc).mono ?_; rintro e w6 ⟨rfl, x6⟩; have y6 : Ext w w6 := Ext.trans y5 x6))
  go_ret
  exact ⟨rfl, y6⟩

set_option maxHeartbeats 800000 in
theorem crcSums_good (w : World) (ht : Tab w) (c : Nat) (hc : c < 4294967296) (s : ByteArray) (hs : s.size ≤ 300) (n : Nat) (hn : s.size = n + 4) (hgb : goodB s = true) :
    Calls Tryd.prog 3 #[.int .u32 (c : Int), .string s] w fun e w' => e = .returned (.bool true) ∧ Ext w w' := by
  have HT : Hid (∀ W, Ext w W → Tab W) := Lib.hid fun W x => ht.ext x
  have hs63 : s.size ≤ 9223372036854775807 := by omega
  have hn4 : s.size - 4 = n := by omega
  have hg : goodB s = decide (s.extract n s.size = textN (tailN (moreN 0 (bl (s.extract 0 n))))) := by
    unfold goodB last4 ahead
    rw [decide_eq_true (show 4 ≤ s.size by omega), Bool.true_and, hn4]
  have hgs : goodS s = s.extract 0 n := by unfold goodS ahead; rw [hgb, hn4]; rfl
  have hsz : (s.extract 0 n).size ≤ 9223372036854775807 := by rw [ByteArray.size_extract]; omega
  have hM : moreN 0 (bl (s.extract 0 n)) < 4294967296 := moreN_lt (by decide) (bl_lt _)
  have HSM := fun W => refMore_any W 0 (s.extract 0 n) (by decide) hsz
  obtain ⟨M, hM2⟩ : ∃ M, M = moreN 0 (bl (s.extract 0 n)) := ⟨_, rfl⟩
  rw [← hM2] at hg hM
  have HSM' : Hid (∀ W, Calls Tryd.prog 12 #[.int .u32 0, .string (s.extract 0 n)] W fun e w' => e = .returned (.int .u32 (M : Nat)) ∧ W = w') := Lib.hid (by rw [hM2]; exact HSM)
  have e3 : ((s.extract n s.size).toList == (textN (tailN M)).toList) = true := by rw [tl_eq, ← hg, hgb]
  have HGD : Hid (∀ W, Tab W → Calls Tryd.prog 10 #[.string s] W fun e w' => e = .returned (.tuple #[.string (s.extract 0 n), .bool true]) ∧ Ext W w') := Lib.hid fun W h => by
    have := good_any W s h (by omega)
    rwa [hgb, hgs] at this
  have e1 : (4 : Int) ≤ (s.size : Int) := by omega
  have e2 : (s.size : Int) - 4 = (n : Int) := by omega
  have e12 : IntKind.i64.wrap ((s.size : Int) - 4) = (n : Int) := by rw [e2]; simp [IntKind.wrap, IntKind.bits, IntKind.signed]; omega
  have e13 : IntKind.i64.wrap (n : Int) = (n : Int) := by simp [IntKind.wrap, IntKind.bits, IntKind.signed]; omega
  have e5 : (0 : Int) ≤ (n : Int) := by omega
  have e6 : (n : Int) ≤ (s.size : Int) := by omega
  have e7 : ¬ ((s.size : Int) > 300) := by omega
  have e8 : ¬ ((300 : Int) < (s.size : Int)) := by omega
  have e9 : decide ((4 : Int) ≤ (s.size : Int)) = true := decide_eq_true e1
  have lt0 := sum_lt s
  have HN := Lib.hid hn
  clear hg hn hn4 hM2 HSM ht hgs hgb
  go_enter Tryd.func3, Tryd.ntmps3
  go_wp2_with (first
    | (go_at_call 9; refine (awake_any _ (HT.out _ (Ext.refl _))).mono ?_; rintro e w1 ⟨rfl, x1⟩)
    | (go_at_call 10; refine (HGD.out _ (HT.out _ x1)).mono ?_; rintro e w2 ⟨rfl, x2⟩; have y2 := Ext.trans x1 x2))
  go_region_held3 (fun W => Tab W) (exact HT.out _ ((by repeat (first | exact Ext.refl _ | assumption | refine Ext.alloc ?_ _ | refine Ext.drew ?_ | refine Ext.drewN ?_ _))))
    (first
    | (go_at_call 12; refine (HSM'.out _).mono ?_; rintro e w3 ⟨rfl, rfl⟩)
    | (go_at_call 11; refine (refTail_any _ M hM).mono ?_; rintro e w3 ⟨rfl, x3⟩; have y3 : Ext w w3 := Ext.trans (by exact (by repeat (first | exact Ext.refl _ | assumption | refine Ext.alloc ?_ _ | refine Ext.drew ?_ | refine Ext.drewN ?_ _))) x3; clear x3))
  all_goals
    go_wp2_with (first
    | (go_at_call 13; refine (sum_any _ s (HT.out _ (by repeat (first | exact Ext.refl _ | assumption | refine Ext.alloc ?_ _ | refine Ext.drew ?_ | refine Ext.drewN ?_ _))) hs63).mono ?_; rintro e w4 ⟨rfl, rfl⟩)
    | (go_at_call 12; have hgd := m4; refine (refMore_any _ c s hc hs63).mono ?_; rintro e w4 ⟨rfl, rfl⟩)
    | (go_at_call 12; refine (refMore_any _ 0 s (by decide) hs63).mono ?_; rintro e w4 ⟨rfl, rfl⟩)
    | (go_at_call 14; refine (more_any _ c s (HT.out _ (by repeat (first | exact Ext.refl _ | assumption | refine Ext.alloc ?_ _ | refine Ext.drew ?_ | refine Ext.drewN ?_ _))) hc hs63).mono ?_; rintro e w4 ⟨rfl, rfl⟩; have m4 := True.intro)
    | (go_at_call 15; refine (tail_any _ c hc).mono ?_; rintro e w5 ⟨rfl, x5⟩; have y5 : Ext w w5 := Ext.trans (by exact (by repeat (first | exact Ext.refl _ | assumption | refine Ext.alloc ?_ _ | refine Ext.drew ?_ | refine Ext.drewN ?_ _))) x5)
    | (go_at_call 11; refine (refTail_any _ c hc).mono ?_; rintro e w6 ⟨rfl, x6⟩; have y6 : Ext w w6 := Ext.trans y5 x6))
    go_ret
    exact ⟨rfl, y6⟩

set_option maxHeartbeats 800000 in
theorem crcSums_bad (w : World) (ht : Tab w) (c : Nat) (hc : c < 4294967296) (s : ByteArray) (hs : s.size ≤ 300) (n : Nat) (hn : s.size = n + 4) (hgb : goodB s = false) :
    Calls Tryd.prog 3 #[.int .u32 (c : Int), .string s] w fun e w' => e = .returned (.bool true) ∧ Ext w w' := by
  have HT : Hid (∀ W, Ext w W → Tab W) := Lib.hid fun W x => ht.ext x
  have hs63 : s.size ≤ 9223372036854775807 := by omega
  have hn4 : s.size - 4 = n := by omega
  have hg : goodB s = decide (s.extract n s.size = textN (tailN (moreN 0 (bl (s.extract 0 n))))) := by
    unfold goodB last4 ahead
    rw [decide_eq_true (show 4 ≤ s.size by omega), Bool.true_and, hn4]
  have hgs : goodS s = ⟨#[]⟩ := by unfold goodS ahead; rw [hgb, hn4]; rfl
  have hsz : (s.extract 0 n).size ≤ 9223372036854775807 := by rw [ByteArray.size_extract]; omega
  have hM : moreN 0 (bl (s.extract 0 n)) < 4294967296 := moreN_lt (by decide) (bl_lt _)
  have HSM := fun W => refMore_any W 0 (s.extract 0 n) (by decide) hsz
  obtain ⟨M, hM2⟩ : ∃ M, M = moreN 0 (bl (s.extract 0 n)) := ⟨_, rfl⟩
  rw [← hM2] at hg hM
  have HSM' : Hid (∀ W, Calls Tryd.prog 12 #[.int .u32 0, .string (s.extract 0 n)] W fun e w' => e = .returned (.int .u32 (M : Nat)) ∧ W = w') := Lib.hid (by rw [hM2]; exact HSM)
  have e3 : ((s.extract n s.size).toList == (textN (tailN M)).toList) = false := by rw [tl_eq, ← hg, hgb]
  have HGD : Hid (∀ W, Tab W → Calls Tryd.prog 10 #[.string s] W fun e w' => e = .returned (.tuple #[.string (⟨#[]⟩), .bool false]) ∧ Ext W w') := Lib.hid fun W h => by
    have := good_any W s h (by omega)
    rwa [hgb, hgs] at this
  have e1 : (4 : Int) ≤ (s.size : Int) := by omega
  have e2 : (s.size : Int) - 4 = (n : Int) := by omega
  have e12 : IntKind.i64.wrap ((s.size : Int) - 4) = (n : Int) := by rw [e2]; simp [IntKind.wrap, IntKind.bits, IntKind.signed]; omega
  have e13 : IntKind.i64.wrap (n : Int) = (n : Int) := by simp [IntKind.wrap, IntKind.bits, IntKind.signed]; omega
  have e5 : (0 : Int) ≤ (n : Int) := by omega
  have e6 : (n : Int) ≤ (s.size : Int) := by omega
  have e7 : ¬ ((s.size : Int) > 300) := by omega
  have e8 : ¬ ((300 : Int) < (s.size : Int)) := by omega
  have e9 : decide ((4 : Int) ≤ (s.size : Int)) = true := decide_eq_true e1
  have lt0 := sum_lt s
  have HN := Lib.hid hn
  clear hg hn hn4 hM2 HSM ht hgs hgb
  go_enter Tryd.func3, Tryd.ntmps3
  go_wp2_with (first
    | (go_at_call 9; refine (awake_any _ (HT.out _ (Ext.refl _))).mono ?_; rintro e w1 ⟨rfl, x1⟩)
    | (go_at_call 10; refine (HGD.out _ (HT.out _ x1)).mono ?_; rintro e w2 ⟨rfl, x2⟩; have y2 := Ext.trans x1 x2))
  go_region_held3 (fun W => Tab W) (exact HT.out _ ((by repeat (first | exact Ext.refl _ | assumption | refine Ext.alloc ?_ _ | refine Ext.drew ?_ | refine Ext.drewN ?_ _))))
    (first
    | (go_at_call 12; refine (HSM'.out _).mono ?_; rintro e w3 ⟨rfl, rfl⟩)
    | (go_at_call 11; refine (refTail_any _ M hM).mono ?_; rintro e w3 ⟨rfl, x3⟩; have y3 : Ext w w3 := Ext.trans (by exact (by repeat (first | exact Ext.refl _ | assumption | refine Ext.alloc ?_ _ | refine Ext.drew ?_ | refine Ext.drewN ?_ _))) x3; clear x3))
  all_goals
    go_wp2_with (first
    | (go_at_call 13; refine (sum_any _ s (HT.out _ (by repeat (first | exact Ext.refl _ | assumption | refine Ext.alloc ?_ _ | refine Ext.drew ?_ | refine Ext.drewN ?_ _))) hs63).mono ?_; rintro e w4 ⟨rfl, rfl⟩)
    | (go_at_call 12; have hgd := m4; refine (refMore_any _ c s hc hs63).mono ?_; rintro e w4 ⟨rfl, rfl⟩)
    | (go_at_call 12; refine (refMore_any _ 0 s (by decide) hs63).mono ?_; rintro e w4 ⟨rfl, rfl⟩)
    | (go_at_call 14; refine (more_any _ c s (HT.out _ (by repeat (first | exact Ext.refl _ | assumption | refine Ext.alloc ?_ _ | refine Ext.drew ?_ | refine Ext.drewN ?_ _))) hc hs63).mono ?_; rintro e w4 ⟨rfl, rfl⟩; have m4 := True.intro)
    | (go_at_call 15; refine (tail_any _ c hc).mono ?_; rintro e w5 ⟨rfl, x5⟩; have y5 : Ext w w5 := Ext.trans (by exact (by repeat (first | exact Ext.refl _ | assumption | refine Ext.alloc ?_ _ | refine Ext.drew ?_ | refine Ext.drewN ?_ _))) x5)
    | (go_at_call 11; refine (refTail_any _ c hc).mono ?_; rintro e w6 ⟨rfl, x6⟩; have y6 : Ext w w6 := Ext.trans y5 x6))
    go_ret
    exact ⟨rfl, y6⟩

set_option maxHeartbeats 400000 in
theorem crcSums_long (w : World) (ht : Tab w) (c : Nat) (s : ByteArray) (h : (300 : Int) < (s.size : Int)) :
    Calls Tryd.prog 3 #[.int .u32 (c : Int), .string s] w fun e w' => e = .returned (.bool true) ∧ Ext w w' := by
  have HT : Hid (∀ W, Ext w W → Tab W) := Lib.hid fun W x => ht.ext x
  clear ht
  go_enter Tryd.func3, Tryd.ntmps3
  go_wp2_with (first
    | (go_at_call 9; have hgd := x1; refine (awake_any _ (HT.out _ x1)).mono ?_; rintro e w2 ⟨rfl, x2⟩)
    | (go_at_call 9; refine (awake_any _ (HT.out _ (Ext.refl _))).mono ?_; rintro e w1 ⟨rfl, x1⟩))
  go_ret
  exact ⟨rfl, Ext.trans x1 x2⟩
end Go.Proofs.YtboilfhggiiahaaDoor
