/- What the program's messages answer. -/
import Derived.Test.YtffgphhmkghlnaaDoorB8
import Derived.Test.YtffgphhmkghlnaaDoorTex
import Derived.Test.YtffgphhmkghlnaaDoorShelf
namespace Go.Proofs.YtffgphhmkghlnaaDoor
open Go.RowKit

set_option linter.unusedVariables false

def nameTab : List (List UInt8) := [[], [102, 111, 114, 107], [116, 111, 107, 101, 110], [98, 111, 116, 116, 108, 101], [97, 115, 107], [110, 101, 119], [107, 110, 111, 119, 110], [99, 108, 111, 115, 101], [99, 108, 111, 115, 101, 100], [99, 111, 108, 111, 117, 114]]

/-- what the listed variables hold -/
def Std (w : World) : Prop := Lib.TabIs Tryd.prog w "internal/strconv.uint64pow10" .u64 Lib.pow10Tab ∧ TexIs Tryd.prog w "narthex/msg.names" nameTab
theorem Std.ext {w w' : World} (h : Std w) (x : Ext w w') : Std w' :=
  ⟨tab_later (g := 1) (by kernel_rfl) h.1 (tab_lt (by kernel_rfl) h.1) x, tex_later (g := 0) (by kernel_rfl) h.2 (tex_lt (by kernel_rfl) h.2) x⟩

def InM (m : Mg) : Prop := (-9223372036854775808 ≤ m.k ∧ m.k ≤ 9223372036854775807) ∧ (-9223372036854775808 ≤ m.e ∧ m.e ≤ 9223372036854775807) ∧ (-9223372036854775808 ≤ m.n ∧ m.n ≤ 9223372036854775807)
def putF (m : Mg) : ByteArray := if rightM m = true then putMs m else ⟨#[]⟩
def putE (m : Mg) : Nat := if rightM m = true then 0 else 70
def getE (s : ByteArray) : Nat := if gotM s = true then 0 else 71

/-- how many bytes a message of a kind has -/
def sizeM (k : Int) : Int := if k = 9 then 5 else if 1 ≤ k ∧ k ≤ 8 then 3 else 0

set_option maxHeartbeats 800000 in
theorem size_any (w : World) (k : Int) :
    Calls Tryd.prog 20 #[.int .i64 k] w fun ev w' => ev = .returned (.int .i64 (sizeM k)) ∧ w = w' := by
  have hk : k = 1 ∨ k = 2 ∨ k = 3 ∨ k = 4 ∨ k = 5 ∨ k = 6 ∨ k = 7 ∨ k = 8 ∨ k = 9 ∨ ¬ (1 ≤ k ∧ k ≤ 9) := by omega
  rcases hk with rfl | rfl | rfl | rfl | rfl | rfl | rfl | rfl | rfl | hk
  case inr.inr.inr.inr.inr.inr.inr.inr.inr =>
    have b1 : (k == 1) = false := beq_eq_false_iff_ne.2 (by omega)
    have b2 : (k == 2) = false := beq_eq_false_iff_ne.2 (by omega)
    have b3 : (k == 3) = false := beq_eq_false_iff_ne.2 (by omega)
    have b4 : (k == 4) = false := beq_eq_false_iff_ne.2 (by omega)
    have b5 : (k == 5) = false := beq_eq_false_iff_ne.2 (by omega)
    have b6 : (k == 6) = false := beq_eq_false_iff_ne.2 (by omega)
    have b7 : (k == 7) = false := beq_eq_false_iff_ne.2 (by omega)
    have b8 : (k == 8) = false := beq_eq_false_iff_ne.2 (by omega)
    have b9 : (k == 9) = false := beq_eq_false_iff_ne.2 (by omega)
    have hn := Lib.hid (show sizeM k = 0 by unfold sizeM; rw [if_neg (by omega), if_neg (by omega)])
    clear hk
    go_enter Tryd.func20, Tryd.ntmps20
    go_wp2
    go_ret
    exact ⟨by rw [hn.out]; rfl, rfl⟩
  all_goals
    go_enter Tryd.func20, Tryd.ntmps20
    go_wp2
    go_ret
    exact ⟨rfl, rfl⟩

theorem sizeM_none {k : Int} (h : ¬ (1 ≤ k ∧ k ≤ 9)) : sizeM k = 0 := by unfold sizeM; rw [if_neg (by omega), if_neg (by omega)]
theorem sizeM_some {k : Int} (h : 1 ≤ k ∧ k ≤ 9) : (sizeM k == 0) = false := by
  rw [beq_eq_false_iff_ne]
  unfold sizeM
  split
  · decide
  · rw [if_pos (by omega)]; decide

set_option maxHeartbeats 800000 in
theorem right_any (w : World) (m : Mg) :
    Calls Tryd.prog 10 #[.agg #[.int .i64 m.k, .int .i64 m.e, .int .i64 m.n]] w fun ev w' => ev = .returned (.bool (rightM m)) ∧ Ext w w' := by
  obtain ⟨k, e, n⟩ := m
  dsimp only
  have cS := Lib.hid (fun W => size_any W k)
  by_cases hk : 1 ≤ k ∧ k ≤ 9
  · have hz := sizeM_some hk
    obtain ⟨Z, hZ⟩ : ∃ Z, Z = sizeM k := ⟨_, rfl⟩
    rw [← hZ] at cS hz
    have HK := Lib.hid hk
    clear hZ hk
    go_enter Tryd.func10, Tryd.ntmps10
    go_wp2_with (first | (go_at_call 20; refine (cS.out _).mono ?_; rintro ev w' ⟨rfl, rfl⟩))
    all_goals go_ret
    all_goals refine ⟨ret_bool ?_, (by repeat (first | exact Ext.refl _ | assumption | refine Ext.alloc ?_ _ | refine Ext.drew ?_ | refine Ext.drewN ?_ _))⟩
    all_goals have hk := HK.out
    all_goals simp only [rightM]
    all_goals (rw [Bool.eq_iff_iff]; simp; try omega)
  · rw [sizeM_none hk] at cS
    have hr : rightM ⟨k, e, n⟩ = false := by
      cases h : rightM ⟨k, e, n⟩
      · rfl
      · exact absurd (rightM_spec.1 h).1 hk
    have HR := Lib.hid hr
    clear hr hk
    go_enter Tryd.func10, Tryd.ntmps10
    go_wp2_with (first | (go_at_call 20; refine (cS.out _).mono ?_; rintro ev w' ⟨rfl, rfl⟩))
    go_ret
    exact ⟨ret_bool HR.out.symm, (by repeat (first | exact Ext.refl _ | assumption | refine Ext.alloc ?_ _ | refine Ext.drew ?_ | refine Ext.drewN ?_ _))⟩
end Go.Proofs.YtffgphhmkghlnaaDoor
