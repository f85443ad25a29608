/- What the program's frames answer. -/
import Derived.Test.YtkfabocnhkmneaaDoorF6
import Derived.Test.YtkfabocnhkmneaaDoorFB
import Derived.Test.YtkfabocnhkmneaaDoorE4
namespace Go.Proofs.YtkfabocnhkmneaaDoor
open Go.RowKit

def Ety (w : World) : Prop := w.cell? ⟨0, 0, none⟩ = some (.iface 81 (.agg #[.pointer (some ⟨2, 44, none⟩)]))
def Std (w : World) : Prop := Tab w ∧ Ety w
theorem Std.ext {w w' : World} (h : Std w) (x : Ext w w') : Std w' := ⟨h.1.ext x, (Below.cell x (World.block_lt_of_cell? _ _ h.2)).trans h.2⟩

/-- what is wrong, as an error -/
def flt (p y : Int) : Value := .iface 57 (.agg #[.int .i64 p, .int .i64 y])
def formV (f : Fr) : Value := if rightB f = true then .nilIface else .iface 57 (.agg #[.int .i64 0, .int .i64 60])

theorem right_iff (k e : Int) (q a : Nat) (b : ByteArray) : rightB ⟨k, e, q, a, b⟩ = true ↔ 0 ≤ e ∧ e ≤ 65535 ∧ b.size ≤ 64 ∧ (k = 1 ∨ k = 2 ∧ b.size = 0) := by
  unfold rightB
  simp only [Bool.and_eq_true, Bool.or_eq_true, decide_eq_true_eq, and_assoc]
theorem form_yes (f : Fr) (h : rightB f = true) : Ending.returned Value.nilIface = .returned (formV f) := by unfold formV; rw [if_pos h]
theorem form_no (f : Fr) (h : rightB f = false) : Ending.returned (.iface 57 (.agg #[.int .i64 0, .int .i64 60])) = .returned (formV f) := by unfold formV; rw [if_neg (by rw [h]; decide)]

set_option maxHeartbeats 800000 in
theorem formFault_any (w : World) (k e : Int) (q a : Nat) (b : ByteArray) :
    Calls Tryd.prog 18 #[.agg #[.int .i64 k, .int .i64 e, .int .u64 (q : Int), .int .u64 (a : Int), .string b]] w fun ev w' => ev = .returned (formV ⟨k, e, q, a, b⟩) ∧ Ext w w' := by
  go_enter Tryd.func18, Tryd.ntmps18
  go_wp2
  all_goals go_ret
  all_goals refine ⟨?_, (by repeat (first | exact Ext.refl _ | assumption | refine Ext.alloc ?_ _ | refine Ext.drew ?_ | refine Ext.drewN ?_ _))⟩
  all_goals (first | rw [empty_size] at * | skip)
  all_goals (first | (simp only [Bool.not_eq_true', decide_eq_false_iff_not, Bool.not_eq_false', decide_eq_true_eq] at *) | skip)
  all_goals (first
    | exact form_yes _ ((right_iff _ _ _ _ _).2 (by omega))
    | exact form_no _ (Bool.eq_false_iff.2 fun hh => by have := (right_iff _ _ _ _ _).1 hh; omega))

theorem formV_box (f : Fr) : (formV f = .nilIface ∧ rightB f = true) ∨ (formV f = .iface 57 (.agg #[.int .i64 0, .int .i64 60]) ∧ rightB f = false) := by
  unfold formV
  by_cases h : rightB f = true
  · exact .inl ⟨if_pos h, h⟩
  · exact .inr ⟨if_neg h, by simpa using h⟩

theorem wrapped_nil (w : World) : Calls Tryd.prog 19 #[.nilIface] w fun ev w' => ev = .returned (.int .i64 0) ∧ Ext w w' := by
  go_enter Tryd.func19, Tryd.ntmps19
  go_wp2_with (first
    | (go_at_call 29; refine (as_nil _ _).mono ?_; rintro e w2 ⟨rfl, rfl⟩))
  go_ret
  exact ⟨rfl, (by repeat (first | exact Ext.refl _ | assumption | refine Ext.alloc ?_ _ | refine Ext.drew ?_ | refine Ext.drewN ?_ _))⟩

theorem wrapped_any (w : World) (h : Std w) (x y : Int) : Calls Tryd.prog 19 #[.iface 57 (.agg #[.int .i64 x, .int .i64 y])] w fun ev w' => ev = .returned (.int .i64 y) ∧ Ext w w' := by
  go_enter Tryd.func19, Tryd.ntmps19
  go_wp2_with (first
    | (go_at_call 29; refine (as_chain w.heap.size x y (.int .i64 0) _ (h.ext (by repeat (first | exact Ext.refl _ | assumption | refine Ext.alloc ?_ _ | refine Ext.drew ?_ | refine Ext.drewN ?_ _))).2 (World.block_lt_of_cell? _ _ (h.ext (by repeat (first | exact Ext.refl _ | assumption | refine Ext.alloc ?_ _ | refine Ext.drew ?_ | refine Ext.drewN ?_ _))).2) (by simp) (by simp)).mono ?_; rintro e w2 ⟨rfl, rfl⟩))
  go_ret
  exact ⟨rfl, (by repeat (first | exact Ext.refl _ | assumption | refine Ext.alloc ?_ _ | refine Ext.drew ?_ | refine Ext.drewN ?_ _))⟩

theorem right_any (w : World) (k e : Int) (q a : Nat) (b : ByteArray) :
    Calls Tryd.prog 11 #[.agg #[.int .i64 k, .int .i64 e, .int .u64 (q : Int), .int .u64 (a : Int), .string b]] w fun ev w' => ev = .returned (.bool (rightB ⟨k, e, q, a, b⟩)) ∧ Ext w w' := by
  have cF := fun W => formFault_any W k e q a b
  rcases formV_box ⟨k, e, q, a, b⟩ with ⟨hv, hr⟩ | ⟨hv, hr⟩
  all_goals
    rw [hr]
    rw [hv] at cF
    replace cF := Lib.hid cF
    clear hv hr
    go_enter Tryd.func11, Tryd.ntmps11
  · go_wp2_with (first
      | (go_at_call 18; refine (cF.out _).mono ?_; rintro e w2 ⟨rfl, x2⟩; have y2 := Lib.hid (Ext.trans ((Ext.refl w).alloc _) x2); clear x2)
      | (go_at_call 23; refine (is_nil 60 _).mono ?_; rintro e w2 ⟨rfl, rfl⟩))
    go_ret
    exact ⟨rfl, y2.out⟩
  · go_wp2_with (first
      | (go_at_call 18; refine (cF.out _).mono ?_; rintro e w2 ⟨rfl, x2⟩; have y2 := Lib.hid (Ext.trans ((Ext.refl w).alloc _) x2); clear x2)
      | (go_at_call 23; refine (is_wraps 0 60 60 _).mono ?_; rintro e w2 ⟨rfl, rfl⟩))
    go_ret
    exact ⟨rfl, y2.out.alloc _⟩

theorem same_any (w : World) (f g : Fr) :
    Calls Tryd.prog 13 #[frV f, frV g] w fun ev w' => ev = .returned (.bool (decide (f = g))) ∧ Ext w w' := by
  obtain ⟨s, hs⟩ : ∃ s, decide (f = g) = s := ⟨_, rfl⟩
  rw [hs]
  have e1 := (eq_f f g s hs).1
  have e2 := (eq_f f g s hs).2
  clear hs
  obtain ⟨fk, fe, fq, fa, fb⟩ := f
  obtain ⟨gk, ge, gq, ga, gb⟩ := g
  unfold frV
  dsimp only at e1 e2 ⊢
  cases s
  all_goals
    go_enter Tryd.func13, Tryd.ntmps13
    go_wp2
    go_ret
    exact ⟨rfl, (by repeat (first | exact Ext.refl _ | assumption | refine Ext.alloc ?_ _ | refine Ext.drew ?_ | refine Ext.drewN ?_ _))⟩
end Go.Proofs.YtkfabocnhkmneaaDoor
