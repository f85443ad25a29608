/- CrcTails, CrcJoins, CrcGood: walked. -/
import Derived.Test.YtboilfhggiiahaaDoorC6
namespace Go.Proofs.YtboilfhggiiahaaDoor
open Go.RowKit

theorem of_wf_u32 {a : Int} (h : (Lit.int .u32 a).wf = true) : ∃ n : Nat, a = (n : Int) ∧ n < 4294967296 := by
  have : 0 ≤ a ∧ a ≤ 4294967295 := by simpa [Lit.wf, IntKind.min, IntKind.max, IntKind.signed, IntKind.bits] using h
  exact ⟨a.toNat, by omega, by omega⟩

theorem of_wf_i64 {a : Int} (h : (Lit.int .i64 a).wf = true) : -9223372036854775808 ≤ a ∧ a ≤ 9223372036854775807 := by
  simpa [Lit.wf, IntKind.min, IntKind.max, IntKind.signed, IntKind.bits] using h

set_option maxHeartbeats 400000 in
theorem crcTails_any (w : World) (ht : Tab w) (A B : Nat) (hA : A < 4294967296) (hB : B < 4294967296) :
    Calls Tryd.prog 8 #[.int .u32 (A : Int), .int .u32 (B : Int)] w fun e w' => e = .returned (.bool true) ∧ Ext w w' := by
  have HT : Hid (∀ W, Ext w W → Tab W) := Lib.hid fun W x => ht.ext x
  have n1 := tail_size A
  have n2 := tail_size B
  have n3 : ((textN (tailN A)).toList == (textN (tailN B)).toList) = decide (A = B) := by
    rw [tl_eq]
    by_cases h : A = B
    · subst h; simp
    · rw [decide_eq_false h, decide_eq_false (fun e => h (tail_inj hA hB e))]
  have n4 : ((A : Int) == (B : Int)) = decide (A = B) := by
    by_cases h : A = B
    · subst h; simp
    · rw [decide_eq_false h]; exact beq_eq_false_iff_ne.2 (by omega)
  obtain ⟨q, hq⟩ : ∃ q, q = decide (A = B) := ⟨_, rfl⟩
  rw [← hq] at n3 n4
  clear hq ht
  go_enter Tryd.func8, Tryd.ntmps8
  go_wp2_with (first
    | (go_at_call 9; refine (awake_any _ (HT.out _ (Ext.refl _))).mono ?_; rintro e w1 ⟨rfl, x1⟩)
    | (go_at_call 15; have hgd := x2; refine (tail_any _ B hB).mono ?_; rintro e w3 ⟨rfl, x3⟩)
    | (go_at_call 15; refine (tail_any _ A hA).mono ?_; rintro e w2 ⟨rfl, x2⟩))
  go_ret
  exact ⟨rfl, Ext.trans x1 (Ext.trans x2 x3)⟩
end Go.Proofs.YtboilfhggiiahaaDoor
