/- Frames: what they are, which may be. -/
import Derived.Test.YtefkjclkondmeaaBy0
namespace Go.Proofs.Ytefkjclkondmeaa
open Go.RowKit

structure Fr where
  k : Int
  e : Int
  q : Nat
  a : Nat
  b : ByteArray
deriving DecidableEq

def Fr.v (f : Fr) : Value := .agg #[.int .i64 f.k, .int .i64 f.e, .int .u64 (f.q : Int), .int .u64 (f.a : Int), .string f.b]
def Fr.zero : Fr := ⟨0, 0, 0, 0, ⟨#[]⟩⟩

/-- the numbers are such -/
def Fr.In (f : Fr) : Prop := (-9223372036854775808 ≤ f.k ∧ f.k ≤ 9223372036854775807) ∧ (-9223372036854775808 ≤ f.e ∧ f.e ≤ 9223372036854775807) ∧ f.q < 18446744073709551616 ∧ f.a < 18446744073709551616 ∧ f.b.size ≤ 281474976710656

theorem size_zero {s : ByteArray} (h : s.size = 0) : s = ⟨#[]⟩ := by
  apply ByteArray.ext
  exact Array.eq_empty_of_size_eq_zero h

theorem empty_size (s : ByteArray) : s.toList.isEmpty = decide (s.size = 0) := by
  rw [ByteArray.toList_eq]
  have : s.data.toList.isEmpty = decide (s.data.size = 0) := by
    rw [← Array.length_toList]
    cases s.data.toList <;> simp
  exact this

/-- it may be -/
def rightB (f : Fr) : Bool := decide (0 ≤ f.e) && decide (f.e ≤ 65535) && decide (f.b.size ≤ 64) && (decide (f.k = 1) || decide (f.k = 2) && decide (f.b.size = 0))

set_option maxHeartbeats 400000 in
theorem refRight_any (w : World) (k e : Int) (q a : Nat) (b : ByteArray) :
    Calls Try.prog 32 #[.agg #[.int .i64 k, .int .i64 e, .int .u64 (q : Int), .int .u64 (a : Int), .string b]] w fun ev w' => ev = .returned (.bool (rightB ⟨k, e, q, a, b⟩)) ∧ Ext w w' := by
  go_enter Try.func32, Try.ntmps32
  go_wp2
  all_goals go_ret
  all_goals refine ⟨ret_bool ?_, (by repeat (first | exact Ext.refl _ | assumption | refine Ext.alloc ?_ _ | refine Ext.drew ?_ | refine Ext.drewN ?_ _))⟩
  all_goals (first | rw [empty_size] | skip)
  all_goals unfold rightB
  all_goals simp
  all_goals (first | omega | skip)
  all_goals (intros; first | omega | skip)
  all_goals
    have h1 : decide (0 ≤ e) = true := decide_eq_true (by omega)
    have h2 : decide (e ≤ 65535) = true := decide_eq_true (by omega)
    have h3 : decide (b.size ≤ 64) = true := decide_eq_true (by omega)
    have h4 : decide (k = 1) = false := decide_eq_false (by omega)
    have h4' : (k == 1) = false := beq_eq_false_iff_ne.2 (by omega)
    rw [h1, h2, h3, h4]
    first
    | (have h5 : decide (k = 2) = true := decide_eq_true (by omega)
       rw [h5]
       simp)
    | (have h5 : decide (k = 2) = false := decide_eq_false (by omega)
       rw [h5, h4']
       simp)

end Go.Proofs.Ytefkjclkondmeaa
