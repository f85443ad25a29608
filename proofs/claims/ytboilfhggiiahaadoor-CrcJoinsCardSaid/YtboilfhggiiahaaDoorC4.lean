/- The program's sums, tails, and what is good. -/
import Derived.Test.YtboilfhggiiahaaDoorC3
import Derived.Test.YtboilfhggiiahaaDoorShelf
import Derived.Deep.RegionHeld3
import Derived.Deep.QuietTactic
import Derived.BigQuiet
namespace Go.Proofs.YtboilfhggiiahaaDoor
open Go.RowKit

set_option maxHeartbeats 400000 in
theorem sum_any (w : World) (s : ByteArray) (ht : Tab w) (hs : s.size ≤ 9223372036854775807) :
    Calls Tryd.prog 13 #[.string s] w fun e w' => e = .returned (.int .u32 (moreN 0 (bl s) : Nat)) ∧ w = w' := by
  go_enter Tryd.func13, Tryd.ntmps13
  go_wp2_with (first | (go_at_call 14; refine (more_any _ 0 s ht (by decide) hs).mono ?_; rintro e w' ⟨rfl, rfl⟩))
  go_ret
  exact ⟨rfl, rfl⟩

set_option maxHeartbeats 400000 in
theorem tail_any (w : World) (c : Nat) (hc : c < 4294967296) :
    Calls Tryd.prog 15 #[.int .u32 (c : Int)] w fun e w' => e = .returned (.string (textN (tailN c))) ∧ Ext w w' := by
  have HCV : ∀ (W : World) (x y z u : Int), (convert 31 9 (.slice (some ⟨W.heap.size, 0, none⟩) 4 4)).run Tryd.prog (W.alloc (.cells #[.int .u8 x, .int .u8 y, .int .u8 z, .int .u8 u] 5)) = .ok (.string (strOfNums [x, y, z, u])) (W.alloc (.cells #[.int .u8 x, .int .u8 y, .int .u8 z, .int .u8 u] 5)) :=
    fun W x y z u => text_of_new [x, y, z, u] 4 rfl _ rfl W 4
  go_enter Tryd.func15, Tryd.ntmps15
  go_wp2
  go_ret
  exact ⟨rfl, (by repeat (first | exact Ext.refl _ | assumption | refine Ext.alloc ?_ _ | refine Ext.drew ?_ | refine Ext.drewN ?_ _))⟩

theorem tl_eq (a b : ByteArray) : (a.toList == b.toList) = decide (a = b) := by
  rw [ByteArray.toList_eq, ByteArray.toList_eq]
  by_cases h : a = b
  · subst h; simp
  · have : ¬ a.data.toList = b.data.toList := fun e => h (ByteArray.ext (Array.toList_inj.1 e))
    rw [decide_eq_false h]; exact beq_eq_false_iff_ne.2 this

/-- the bytes ahead of the last four, and these -/
def ahead (s : ByteArray) : ByteArray := s.extract 0 (s.size - 4)
def last4 (s : ByteArray) : ByteArray := s.extract (s.size - 4) s.size
def goodB (s : ByteArray) : Bool := decide (4 ≤ s.size) && decide (last4 s = textN (tailN (moreN 0 (bl (ahead s)))))
def goodS (s : ByteArray) : ByteArray := if goodB s = true then ahead s else ⟨#[]⟩

set_option maxHeartbeats 400000 in
theorem clone_any (w : World) (s : ByteArray) (hs : s.size ≤ 281474976710656) :
    Calls Tryd.prog 16 #[.string s] w fun e w' => e = .returned (.string s) ∧ Ext w w' := by
  go_enter Tryd.func16, Tryd.ntmps16
  go_wp2_with (first | (go_at_call 18; refine (Tryd.stringslite_Clone s _ hs).mono ?_; rintro e w' ⟨rfl, hx⟩))
  go_ret
  exact ⟨rfl, hx⟩

set_option maxHeartbeats 400000 in
theorem good_any (w : World) (s : ByteArray) (ht : Tab w) (hs : s.size ≤ 281474976710656) :
    Calls Tryd.prog 10 #[.string s] w fun e w' => e = .returned (.tuple #[.string (goodS s), .bool (goodB s)]) ∧ Ext w w' := by
  by_cases h4 : s.size < 4
  · have hb : goodB s = false := by unfold goodB; simp; omega
    have HB := Lib.hid hb
    have e1 : (s.size : Int) < 4 := by omega
    clear hb
    go_enter Tryd.func10, Tryd.ntmps10
    go_wp2
    go_ret2
    exact ⟨by unfold goodS; rw [HB.out]; rfl, by repeat (first | exact Ext.refl _ | refine Ext.drewN ?_ _ | refine Ext.drew ?_)⟩
  · obtain ⟨n, hn⟩ : ∃ n, s.size = n + 4 := ⟨s.size - 4, by omega⟩
    have hn4 : s.size - 4 = n := by omega
    have hg : goodB s = decide (s.extract n s.size = textN (tailN (moreN 0 (bl (s.extract 0 n))))) := by
      unfold goodB last4 ahead
      rw [decide_eq_true (show 4 ≤ s.size by omega), Bool.true_and, hn4]
    have hgs : goodS s = if goodB s = true then s.extract 0 n else ⟨#[]⟩ := by unfold goodS ahead; rw [hn4]
    have hsz : (s.extract 0 n).size ≤ 281474976710656 := by rw [ByteArray.size_extract]; omega
    have hM : moreN 0 (bl (s.extract 0 n)) < 4294967296 := moreN_lt (by decide) (bl_lt _)
    have HSM := fun W (h : Tab W) => sum_any W (s.extract 0 n) h (by omega)
    have HCL := Lib.hid (fun W => clone_any W (s.extract 0 n) hsz)
    obtain ⟨M, hM2⟩ : ∃ M, M = moreN 0 (bl (s.extract 0 n)) := ⟨_, rfl⟩
    rw [← hM2] at hg hM
    have HSM' : Hid (∀ W, Tab W → Calls Tryd.prog 13 #[.string (s.extract 0 n)] W fun e w' => e = .returned (.int .u32 (M : Nat)) ∧ W = w') := Lib.hid (by rw [hM2]; exact HSM)
    have e1 : ¬ ((s.size : Int) < 4) := by omega
    have e2 : (s.size : Int) - 4 = (n : Int) := by omega
    have e4 : ¬ ((n : Int) < 0) := by omega
    have e5 : (0 : Int) ≤ (n : Int) := by omega
    have e6 : (n : Int) ≤ (s.size : Int) := by omega
    have e3 : ((s.extract n s.size).toList == (textN (tailN M)).toList) = goodB s := by rw [tl_eq, hg]
    have HT : Hid (∀ W, Ext w W → Tab W) := Lib.hid fun W x => ht.ext x
    have HGS := Lib.hid hgs
    have HG := Lib.hid hg
    have HN := Lib.hid hn
    clear hg hn hn4 hM2 HSM ht hgs hsz
    go_enter Tryd.func10, Tryd.ntmps10
    go_wp2_with fail
    go_quiet (fail)
    go_wp2_with (first
      | (go_at_call 13; refine (HSM'.out _ (HT.out _ (by repeat (first | exact Ext.refl _ | assumption | refine Ext.alloc ?_ _ | refine Ext.drew ?_ | refine Ext.drewN ?_ _)))).mono ?_; rintro e w1 ⟨rfl, rfl⟩)
      | (go_at_call 15; refine (tail_any _ M hM).mono ?_; rintro e w1 ⟨rfl, hx⟩; have y1 : Ext w w1 := Ext.trans (by exact (by repeat (first | exact Ext.refl _ | assumption | refine Ext.alloc ?_ _ | refine Ext.drew ?_ | refine Ext.drewN ?_ _))) hx; clear hx)
      | (go_at_call 16; refine (HCL.out _).mono ?_; rintro e w2 ⟨rfl, hx⟩; have y2 : Ext w w2 := Ext.trans y1 hx; clear hx))
    all_goals
      go_ret2
    · rename_i hgb
      have hb : goodB s = false := by simpa using hgb
      refine ⟨?_, y1⟩
      rw [HGS.out, hb]
      rfl
    · rename_i hgb
      have hb : goodB s = true := by simpa using hgb
      refine ⟨?_, y2⟩
      rw [HGS.out, hb]
      rfl
end Go.Proofs.YtboilfhggiiahaaDoor
