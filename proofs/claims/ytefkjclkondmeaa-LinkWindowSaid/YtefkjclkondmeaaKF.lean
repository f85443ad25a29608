/- What frame.Right answers, over Go's own errors.Is; strings.Clone; slices.Delete at the front of texts. -/
import Derived.Test.YtefkjclkondmeaaK3
import Derived.Test.YtefkjclkondmeaaE5
import Derived.Test.YtefkjclkondmeaaShelf
import Derived.Sort.OwnSorted
namespace Go.Proofs.Ytefkjclkondmeaa
open Go.RowKit Go.Sort

/-- what is wrong, as an error -/
def flt (p y : Int) : Value := .iface 85 (.agg #[.int .i64 p, .int .i64 y])
def formV (f : Fr) : Value := if rightB f = true then .nilIface else .iface 85 (.agg #[.int .i64 0, .int .i64 60])

theorem right_iff (k e : Int) (q a : Nat) (b : ByteArray) : rightB ⟨k, e, q, a, b⟩ = true ↔ 0 ≤ e ∧ e ≤ 65535 ∧ b.size ≤ 64 ∧ (k = 1 ∨ k = 2 ∧ b.size = 0) := by
  unfold rightB
  simp only [Bool.and_eq_true, Bool.or_eq_true, decide_eq_true_eq, and_assoc]
theorem form_yes (f : Fr) (h : rightB f = true) : Ending.returned Value.nilIface = .returned (formV f) := by unfold formV; rw [if_pos h]
theorem form_no (f : Fr) (h : rightB f = false) : Ending.returned (.iface 85 (.agg #[.int .i64 0, .int .i64 60])) = .returned (formV f) := by unfold formV; rw [if_neg (by rw [h]; decide)]

set_option maxHeartbeats 800000 in
theorem formFault_any (w : World) (k e : Int) (q a : Nat) (b : ByteArray) :
    Calls Try.prog 36 #[.agg #[.int .i64 k, .int .i64 e, .int .u64 (q : Int), .int .u64 (a : Int), .string b]] w fun ev w' => ev = .returned (formV ⟨k, e, q, a, b⟩) ∧ Ext w w' := by
  go_enter Try.func36, Try.ntmps36
  go_wp2
  all_goals go_ret
  all_goals refine ⟨?_, (by repeat (first | exact Ext.refl _ | assumption | refine Ext.alloc ?_ _ | refine Ext.drew ?_ | refine Ext.drewN ?_ _))⟩
  all_goals (first | rw [empty_size] at * | skip)
  all_goals (first | (simp only [Bool.not_eq_true', decide_eq_false_iff_not, Bool.not_eq_false', decide_eq_true_eq] at *) | skip)
  all_goals (first
    | exact form_yes _ ((right_iff _ _ _ _ _).2 (by omega))
    | exact form_no _ (Bool.eq_false_iff.2 fun hh => by have := (right_iff _ _ _ _ _).1 hh; omega))

theorem formV_box (f : Fr) : (formV f = .nilIface ∧ rightB f = true) ∨ (formV f = .iface 85 (.agg #[.int .i64 0, .int .i64 60]) ∧ rightB f = false) := by
  unfold formV
  by_cases h : rightB f = true
  · exact .inl ⟨if_pos h, h⟩
  · exact .inr ⟨if_neg h, by simpa using h⟩

theorem right_any (w : World) (k e : Int) (q a : Nat) (b : ByteArray) :
    Calls Try.prog 30 #[.agg #[.int .i64 k, .int .i64 e, .int .u64 (q : Int), .int .u64 (a : Int), .string b]] w fun ev w' => ev = .returned (.bool (rightB ⟨k, e, q, a, b⟩)) ∧ Ext w w' := by
  have cF := fun W => formFault_any W k e q a b
  rcases formV_box ⟨k, e, q, a, b⟩ with ⟨hv, hr⟩ | ⟨hv, hr⟩
  all_goals
    rw [hr]
    rw [hv] at cF
    replace cF := Lib.hid cF
    clear hv hr
    go_enter Try.func30, Try.ntmps30
  · go_wp2_with (first
      | (go_at_call 36; refine (cF.out _).mono ?_; rintro e w2 ⟨rfl, x2⟩; have y2 := Lib.hid (Ext.trans ((Ext.refl w).alloc _) x2); clear x2)
      | (go_at_call 35; refine (is_nil 60 _).mono ?_; rintro e w2 ⟨rfl, rfl⟩))
    go_ret
    exact ⟨rfl, y2.out⟩
  · go_wp2_with (first
      | (go_at_call 36; refine (cF.out _).mono ?_; rintro e w2 ⟨rfl, x2⟩; have y2 := Lib.hid (Ext.trans ((Ext.refl w).alloc _) x2); clear x2)
      | (go_at_call 35; refine (is_wraps 0 60 60 _).mono ?_; rintro e w2 ⟨rfl, rfl⟩))
    go_ret
    exact ⟨rfl, y2.out.alloc _⟩

set_option maxHeartbeats 400000 in
theorem clone_any (w : World) (s : ByteArray) (hs : s.size ≤ 281474976710656) :
    Calls Try.prog 28 #[.string s] w fun e w' => e = .returned (.string s) ∧ Ext w w' := by
  go_enter Try.func28, Try.ntmps28
  go_wp2_with (first | (go_at_call 34; refine (Try.stringslite_Clone s _ hs).mono ?_; rintro e w' ⟨rfl, hx⟩))
  go_ret
  exact ⟨rfl, hx⟩

theorem cells_s (xs : List ByteArray) : cellsOf xs = xs.map Value.string := by
  induction xs with
  | nil => rfl
  | cons x xs ih => show [Value.string x] ++ cellsOf xs = _; rw [ih]; rfl

theorem cut_front (w : World) (B : Nat) (v : Value) (xs : List ByteArray) (k : Nat) (h : Ow w B v xs) (hk0 : 1 ≤ k) (hk : k ≤ xs.length) :
    Calls Try.prog 37 #[v, .int .i64 0, .int .i64 k] w fun e w' => ∃ v', e = .returned v' ∧ Ow w' B v' (xs.drop k) ∧ w.grownBy w' v.ownBlock ∧ v'.ownBlock = v.ownBlock := by
  rcases h.2 with ⟨_, hz⟩ | ⟨g, cap, cur, rfl, hg, hh, hc1, hc2, hc3, hc4⟩
  · omega
  · have hc2' : cap ≤ 9223372036854775807 := by simpa only [maxLen] using hc2
    have hH := holds_of_block (ss := (xs.map fun b : ByteArray => b.data.toList)) hh (by have h4 := hc4; rw [show xs.length * Elem.k ByteArray = xs.length from Nat.mul_one _, cells_s] at h4; simpa [encStr, Function.comp_def] using h4)
    have := Try.slices_Delete_string g 0 cap 0 k (xs.map fun b : ByteArray => b.data.toList) w hH (by simpa using hc1) hc2' (by omega) (by first | omega | (simp; omega))
    try simp only [List.length_map] at this
    refine this.mono ?_
    rintro e w1 ⟨rfl, dn, rfl⟩
    have hle : (xs.drop k).length = xs.length - k := List.length_drop
    refine ⟨_, rfl, ?_, ?_, rfl⟩
    · have e0 : ∀ d, Sort.putRow (encStr) (Sort.ahead w dn) g 0 d = Sort.grow (Sort.putRow (encStr) (Sort.ahead w dn) g 0 d) #[] := fun d => by simp
      rw [e0]
      refine ⟨cellsOf_length _, .inr ⟨g, cap, _, ?_, hg, heap_sorted _ hh, by rw [hle]; omega, hc2, by simp [Sort.putCells, hc3], ?_⟩⟩
      · rw [hle]; simp
      · have ht := take_putCells cur (((xs.map fun b : ByteArray => b.data.toList)).take 0 ++ ((xs.map fun b : ByteArray => b.data.toList)).drop k ++ List.replicate (k - 0) []) (by simp; rw [hc3]; show _ ≤ cap * 1; omega)
        have ht2 := congrArg (List.take (xs.drop k).length) ht
        have hll : (((xs.map fun b : ByteArray => b.data.toList)).take 0 ++ ((xs.map fun b : ByteArray => b.data.toList)).drop k ++ List.replicate (k - 0) []).length = xs.length := by simp; omega
        rw [List.take_take, hll, Nat.min_eq_left (by rw [hle]; omega)] at ht2
        have hk1 : (xs.drop k).length * Elem.k ByteArray = (xs.drop k).length := Nat.mul_one _
        rw [hk1, ht2, ← List.map_take, cells_s, List.take_left' (by rw [hle]; simp)]
        try simp [encStr, Function.comp_def]
    · have e0 : ∀ d, Sort.putRow (encStr) (Sort.ahead w dn) g 0 d = Sort.grow (Sort.putRow (encStr) (Sort.ahead w dn) g 0 d) #[] := fun d => by simp
      rw [e0]
      exact grownBy_sorted _
end Go.Proofs.Ytefkjclkondmeaa
