/- The chapter's example; and worlds that only grow. -/
import Derived.Test.YtfhddgejedhfpaaSetC
namespace Go.Proofs.Ytfhddgejedhfpaa
open Go.RowKit

/-- All that was there is as it was. -/
def Ext (w w' : World) : Prop := Below w.heap.size w w'
theorem Ext.refl (w : World) : Ext w w := Below.refl _ _
theorem Ext.trans {a b c : World} (h : Ext a b) (k : Ext b c) : Ext a c := Below.trans h (Below.mono k h.size)
theorem Ext.alloc {a b : World} (h : Ext a b) (o : Obj) : Ext a (b.alloc o) := Below.alloc h h.size o
theorem Ext.drew {a b : World} (h : Ext a b) : Ext a b.drew := Below.drew h
theorem Ext.of_drew {a b : World} (h : Drew a b) : Ext a b := h.below _
theorem Sl.ext {w w' : World} {v : Value} {xs : List Int} (h : Sl w v xs) (e : Ext w w') : Sl w' v xs := h.below e (Nat.le_refl _)
theorem Sl.lit (w : World) (xs : List Int) (h : xs.length ≤ 1000000 := by decide) : Sl (w.alloc (.cells (xs.map (Value.int .i64)).toArray 3)) (.slice (some ⟨w.heap.size, 0, none⟩) xs.length xs.length) xs :=
  (Ow.lit w w.heap.size (Nat.le_refl _) xs h).sl

theorem refSame_val (t : Bool) (w : World) (v u : Value) (xs ys : List Int) (h : Sl w v xs) (g : Sl w u ys) (ht : decide (xs = ys) = t) :
    Calls Try.prog 11 #[v, u] w fun e w' => e = .returned (.bool t) ∧ Drew w w' :=
  (refSame_any w v u xs ys h g).mono fun _ _ ⟨he, hw⟩ => ⟨ht ▸ he, hw⟩
theorem setHas_val (t : Bool) (w : World) (v : Value) (xs : List Int) (x : Int) (h : Sl w v xs) (ht : decide (x ∈ xs) = t) :
    Calls Try.prog 15 #[v, .int .i64 x] w fun e w' => e = .returned (.bool t) ∧ w = w' :=
  (setHas_any w v xs x h).mono fun _ _ ⟨he, hw⟩ => ⟨ht ▸ he, hw⟩
theorem setValid_val (t : Bool) (w : World) (v : Value) (xs : List Int) (h : Sl w v xs) (ht : decide (SS xs) = t) :
    Calls Try.prog 19 #[v] w fun e w' => e = .returned (.bool t) ∧ Drew w w' :=
  (setValid_any w v xs h).mono fun _ _ ⟨he, hw⟩ => ⟨ht ▸ he, hw⟩
theorem setPlace_val (n : Nat) (w : World) (v : Value) (xs : List Int) (x : Int) (h : Sl w v xs) (hlen : xs.length ≤ 1000000) (hn : placeOf xs x = n) :
    Calls Try.prog 17 #[v, .int .i64 x] w (GivesB w (.int .i64 n)) :=
  (setPlace_any w v xs x h hlen).mono fun _ _ ⟨he, hw⟩ => ⟨hn ▸ he, hw⟩
theorem setWithin_val (t : Bool) (w : World) (v u : Value) (xs ys : List Int) (h : Sl w v xs) (g : Sl w u ys) (hy : ys.length ≤ 1000000) (ht : (xs.all fun x => decide (x ∈ ys)) = t) :
    Calls Try.prog 27 #[v, u] w (GivesB w (.bool t)) :=
  (setWithin_any w v u xs ys h g hy).mono fun _ _ ⟨he, hw⟩ => ⟨ht ▸ he, hw⟩

theorem e1 : norm [3, 1, 3] = [1, 3] := norm_eq (by decide) (by intro x; simp; omega)
theorem e2 : norm ([1, 3] ++ [2]) = [1, 2, 3] := norm_eq (by decide) (by intro x; simp; omega)
theorem e3 : norm ([1, 3].filter fun y => y != 1) = [3] := norm_eq (by decide) (by intro x; simp)
theorem e4 : norm ([1, 3] ++ [1, 3]) = [1, 3] := norm_eq (by decide) (by intro x; simp; omega)
theorem e5 : norm ([1, 3].filter fun x => decide (x ∈ [3])) = [3] := norm_eq (by decide) (by intro x; simp)
theorem e6 : norm ([1, 3].filter fun x => !decide (x ∈ [3])) = [1] := norm_eq (by decide) (by intro x; simp)

set_option maxHeartbeats 4000000 in
theorem awake_any (w : World) : Calls Try.prog 10 #[] w (GivesB w (.bool true)) := by
  go_enter Try.func10, Try.ntmps10
  go_wp2_with fail
  refine (setOf_any _ _ [3, 1, 3] (Sl.lit _ [3, 1, 3]) (by decide)).mono ?_
  rintro e W1 ⟨a, rfl, o, b⟩
  rw [e1] at o
  have s_a := o.sl
  have x1 : Ext _ W1 := b
  clear o b
  go_wp2_with fail
  refine (refSame_val true _ _ _ [1, 3] [1, 3] (s_a.ext (by repeat (first | exact Ext.refl _ | assumption | refine Ext.alloc ?_ _ | refine Ext.drew ?_ | refine Ext.trans ?_ (by assumption)))) (Sl.lit _ [1, 3]) (by decide)).mono ?_
  rintro e W2 ⟨rfl, d⟩
  have x2 : Ext _ W2 := Ext.of_drew d
  clear d
  go_wp2_with fail
  refine (setAdd_any _ _ [1, 3] 2 (s_a.ext (by repeat (first | exact Ext.refl _ | assumption | refine Ext.alloc ?_ _ | refine Ext.drew ?_ | refine Ext.trans ?_ (by assumption)))) (by decide)).mono ?_
  rintro e W3 ⟨c, rfl, o, b⟩
  rw [e2] at o
  have s_c := o.sl
  have x3 : Ext _ W3 := b
  clear o b
  go_wp2_with fail
  refine (refSame_val true _ _ _ [1, 2, 3] [1, 2, 3] (s_c.ext (by repeat (first | exact Ext.refl _ | assumption | refine Ext.alloc ?_ _ | refine Ext.drew ?_ | refine Ext.trans ?_ (by assumption)))) (Sl.lit _ [1, 2, 3]) (by decide)).mono ?_
  rintro e W4 ⟨rfl, d⟩
  have x4 : Ext _ W4 := Ext.of_drew d
  clear d
  go_wp2_with fail
  refine (setDel_any _ _ [1, 3] 1 (s_a.ext (by repeat (first | exact Ext.refl _ | assumption | refine Ext.alloc ?_ _ | refine Ext.drew ?_ | refine Ext.trans ?_ (by assumption)))) (by decide)).mono ?_
  rintro e W5 ⟨d, rfl, o, b⟩
  rw [e3] at o
  have s_d := o.sl
  have x5 : Ext _ W5 := b
  clear o b
  go_wp2_with fail
  refine (refSame_val true _ _ _ [3] [3] (s_d.ext (by repeat (first | exact Ext.refl _ | assumption | refine Ext.alloc ?_ _ | refine Ext.drew ?_ | refine Ext.trans ?_ (by assumption)))) (Sl.lit _ [3]) (by decide)).mono ?_
  rintro e W6 ⟨rfl, d⟩
  have x6 : Ext _ W6 := Ext.of_drew d
  clear d
  go_wp2_with fail
  refine (setValid_val true _ _ [1, 3] (s_a.ext (by repeat (first | exact Ext.refl _ | assumption | refine Ext.alloc ?_ _ | refine Ext.drew ?_ | refine Ext.trans ?_ (by assumption)))) (by decide)).mono ?_
  rintro e W7 ⟨rfl, d⟩
  have x7 : Ext _ W7 := Ext.of_drew d
  clear d
  go_wp2_with fail
  refine (setValid_val false _ _ [1, 1] (Sl.lit _ [1, 1]) (by decide)).mono ?_
  rintro e W8 ⟨rfl, d⟩
  have x8 : Ext _ W8 := Ext.of_drew d
  clear d
  go_wp2_with fail
  refine (setHas_val true _ _ [1, 3] 3 (s_a.ext (by repeat (first | exact Ext.refl _ | assumption | refine Ext.alloc ?_ _ | refine Ext.drew ?_ | refine Ext.trans ?_ (by assumption)))) (by decide)).mono ?_
  rintro e w' ⟨rfl, rfl⟩
  go_wp2_with fail
  refine (setPlace_val 1 _ _ [1, 3] 3 (s_a.ext (by repeat (first | exact Ext.refl _ | assumption | refine Ext.alloc ?_ _ | refine Ext.drew ?_ | refine Ext.trans ?_ (by assumption)))) (by decide) (by rw [placeOf_SS (by decide)]; decide)).mono ?_
  rintro e W9 ⟨rfl, b⟩
  have x9 : Ext _ W9 := b
  clear b
  go_wp2_with fail
  refine (setWithin_val true _ _ _ [1, 3] [3, 1] (s_a.ext (by repeat (first | exact Ext.refl _ | assumption | refine Ext.alloc ?_ _ | refine Ext.drew ?_ | refine Ext.trans ?_ (by assumption)))) (Sl.lit _ [3, 1]) (by decide) (by decide)).mono ?_
  rintro e W10 ⟨rfl, b⟩
  have x10 : Ext _ W10 := b
  clear b
  go_wp2_with fail
  refine (setUnion_any _ _ _ [1, 3] [1, 3] (s_a.ext (by repeat (first | exact Ext.refl _ | assumption | refine Ext.alloc ?_ _ | refine Ext.drew ?_ | refine Ext.trans ?_ (by assumption)))) (s_a.ext (by repeat (first | exact Ext.refl _ | assumption | refine Ext.alloc ?_ _ | refine Ext.drew ?_ | refine Ext.trans ?_ (by assumption)))) (by decide)).mono ?_
  rintro e W11 ⟨f, rfl, o, b⟩
  rw [e4] at o
  have s_f := o.sl
  have x11 : Ext _ W11 := b
  clear o b
  obtain ⟨ao1, c1, rfl⟩ := s_f.len
  go_wp2_with fail
  refine (setBoth_any _ _ _ [1, 3] [3] (s_a.ext (by repeat (first | exact Ext.refl _ | assumption | refine Ext.alloc ?_ _ | refine Ext.drew ?_ | refine Ext.trans ?_ (by assumption)))) (Sl.lit _ [3]) (by decide) (by decide)).mono ?_
  rintro e W12 ⟨g, rfl, o, b⟩
  rw [e5] at o
  have s_g := o.sl
  have x12 : Ext _ W12 := b
  clear o b
  obtain ⟨ao2, c2, rfl⟩ := s_g.len
  go_wp2_with fail
  refine (setMinus_any _ _ _ [1, 3] [3] (s_a.ext (by repeat (first | exact Ext.refl _ | assumption | refine Ext.alloc ?_ _ | refine Ext.drew ?_ | refine Ext.trans ?_ (by assumption)))) (Sl.lit _ [3]) (by decide) (by decide)).mono ?_
  rintro e W13 ⟨h, rfl, o, b⟩
  rw [e6] at o
  have s_h := o.sl
  have x13 : Ext _ W13 := b
  clear o b
  obtain ⟨ao3, c3, rfl⟩ := s_h.len
  go_wp2_with fail
  go_ret
  exact ⟨rfl, (by repeat (first | exact Ext.refl _ | assumption | refine Ext.alloc ?_ _ | refine Ext.drew ?_ | refine Ext.trans ?_ (by assumption)))⟩

end Go.Proofs.Ytfhddgejedhfpaa
