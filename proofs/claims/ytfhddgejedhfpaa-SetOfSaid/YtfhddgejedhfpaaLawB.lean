/- The laws of sets: each answers true. -/
import Derived.Test.YtfhddgejedhfpaaLawA
namespace Go.Proofs.Ytfhddgejedhfpaa
open Go.RowKit

theorem refHas_val (t : Bool) (w : World) (v : Value) (xs : List Int) (x : Int) (h : Sl w v xs) (ht : decide (x ∈ xs) = t) :
    Calls Try.prog 16 #[v, .int .i64 x] w fun e w' => e = .returned (.bool t) ∧ w = w' :=
  (refHas_any w v xs x h).mono fun _ _ ⟨he, hw⟩ => ⟨ht ▸ he, hw⟩
theorem refPlace_val (n : Nat) (w : World) (v : Value) (xs : List Int) (x : Int) (h : Sl w v xs) (hn : placeOf xs x = n) :
    Calls Try.prog 18 #[v, .int .i64 x] w fun e w' => e = .returned (.int .i64 n) ∧ Drew w w' :=
  (refPlace_any w v xs x h).mono fun _ _ ⟨he, hw⟩ => ⟨hn ▸ he, hw⟩

theorem filter_one (xs : List Int) (x : Int) : (xs.filter fun y => y != x) = xs.filter fun y => decide (y ∈ [x]) == false := by
  congr 1; funext y; by_cases h : y = x <;> simp [h]
theorem filter_yes (xs ys : List Int) : (xs.filter fun x => decide (x ∈ ys)) = xs.filter fun y => decide (y ∈ ys) == true := by
  congr 1; funext y; by_cases h : y ∈ ys <;> simp [h]
theorem filter_no (xs ys : List Int) : (xs.filter fun x => !decide (x ∈ ys)) = xs.filter fun y => decide (y ∈ ys) == false := by
  congr 1; funext y; by_cases h : y ∈ ys <;> simp [h]
theorem within_nil {xs ys : List Int} (h : norm (xs.filter fun y => decide (y ∈ ys) == false) = []) : (xs.all fun x => decide (x ∈ ys)) = true := by
  rw [List.all_eq_true]
  intro x hx
  by_cases hy : x ∈ ys
  · simpa using hy
  · have : x ∈ norm (xs.filter fun y => decide (y ∈ ys) == false) := by rw [mem_norm, List.mem_filter]; exact ⟨hx, by simp [hy]⟩
    rw [h] at this
    simp at this
theorem within_cons {xs ys : List Int} {z : Int} {L : List Int} (h : norm (xs.filter fun y => decide (y ∈ ys) == false) = z :: L) : (xs.all fun x => decide (x ∈ ys)) = false := by
  have hz : z ∈ norm (xs.filter fun y => decide (y ∈ ys) == false) := by rw [h]; simp
  rw [mem_norm, List.mem_filter] at hz
  rw [List.all_eq_false]
  exact ⟨z, hz.1, by simpa using hz.2⟩
theorem of_decide {p : Prop} [Decidable p] {b : Bool} (h : decide p = b) : p ↔ b = true := by rw [← h]; simp
theorem same_sets {xs ys : List Int} {p q r : Bool} (e : r = (p && q)) (hp : (xs.all fun x => decide (x ∈ ys)) = p) (hq : (ys.all fun x => decide (x ∈ xs)) = q) : decide (norm xs = norm ys) = r := by
  rw [e, ← hp, ← hq, Bool.eq_iff_iff, decide_eq_true_eq, Bool.and_eq_true, List.all_eq_true, List.all_eq_true]
  constructor
  · intro h
    have hm : ∀ x, x ∈ xs ↔ x ∈ ys := fun x => by rw [← mem_norm, h, mem_norm]
    exact ⟨fun x hx => by simpa using (hm x).1 hx, fun x hx => by simpa using (hm x).2 hx⟩
  · rintro ⟨h1, h2⟩
    exact norm_congr fun x => ⟨fun h => by simpa using h1 x h, fun h => by simpa using h2 x h⟩
theorem parts_union (xs ys : List Int) : norm (norm (xs.filter fun x => decide (x ∈ ys)) ++ norm (xs.filter fun x => !decide (x ∈ ys))) = norm xs := by
  apply norm_congr
  intro z
  rw [List.mem_append, mem_norm, mem_norm, List.mem_filter, List.mem_filter]
  by_cases h : z ∈ ys <;> simp [h]
theorem parts_apart (xs ys : List Int) : norm ((norm (xs.filter fun x => decide (x ∈ ys))).filter fun x => decide (x ∈ norm (xs.filter fun x => !decide (x ∈ ys)))) = [] := by
  apply norm_eq (by unfold SS; simp)
  intro z
  simp only [List.mem_filter, mem_norm, decide_eq_true_eq]
  by_cases h : z ∈ ys <;> simp [h]
theorem filter_parts (l : List Int) (p : Int → Bool) : (l.filter p).length + (l.filter fun x => !p x).length = l.length := by
  induction l with
  | nil => rfl
  | cons a l ih => by_cases h : p a <;> simp [h] <;> omega
theorem parts_length (xs ys : List Int) : (norm (xs.filter fun x => decide (x ∈ ys))).length + (norm (xs.filter fun x => !decide (x ∈ ys))).length = (norm xs).length := by
  rw [norm_filter, norm_filter]
  exact filter_parts _ _

set_option maxHeartbeats 1000000 in
theorem setOf_long (w : World) (ao : Option Addr) (c : Nat) (xs : List Int) (x : Int) (h : Sl w (.slice ao xs.length c) xs) (hl : 60 < xs.length) : Calls Try.prog 3 #[.slice ao xs.length c, .int .i64 x] w (GivesB w (.bool true)) := by
  have n1 := h.length_le
  clear h
  go_enter Try.func3, Try.ntmps3
  go_wp2_with fail
  refine (awake_any _).mono ?_
  rintro e W1 ⟨rfl, b⟩
  have x1 : Ext _ W1 := b
  clear b
  go_wp2_with fail
  refine (awake_any _).mono ?_
  rintro e W2 ⟨rfl, b⟩
  have x2 : Ext _ W2 := b
  clear b
  go_wp2_with fail
  go_ret
  exact ⟨rfl, (by repeat (first | exact Ext.refl _ | assumption | refine Ext.alloc ?_ _ | refine Ext.drew ?_ | refine Ext.trans ?_ (by assumption)))⟩

set_option maxHeartbeats 4000000 in
theorem setOf_short (w : World) (ao : Option Addr) (c : Nat) (xs : List Int) (x : Int) (h : Sl w (.slice ao xs.length c) xs) (hl : xs.length ≤ 60) : Calls Try.prog 3 #[.slice ao xs.length c, .int .i64 x] w (GivesB w (.bool true)) := by
  obtain ⟨t, ht⟩ : ∃ t, decide (x ∈ xs) = t := ⟨_, rfl⟩
  have HT := Lib.hid ht
  clear ht
  obtain ⟨k, hk⟩ : ∃ k, placeOf xs x = k := ⟨_, rfl⟩
  have HK := Lib.hid hk
  clear hk
  obtain ⟨u, hu⟩ : ∃ u, decide (SS xs) = u := ⟨_, rfl⟩
  have HU := Lib.hid hu
  have HV : Hid (decide (xs = norm xs) = u) := Lib.hid (by rw [← hu, decide_eq_decide]; exact ⟨fun e => by rw [e]; exact norm_SS xs, fun e => (norm_of_SS e).symm⟩)
  clear hu
  go_enter Try.func3, Try.ntmps3
  go_wp2_with fail
  refine (awake_any _).mono ?_
  rintro e W1 ⟨rfl, b⟩
  have x1 : Ext _ W1 := b
  clear b
  go_wp2_with fail
  refine (own_any _ _ xs (h.ext (by repeat (first | exact Ext.refl _ | assumption | refine Ext.alloc ?_ _ | refine Ext.drew ?_ | refine Ext.trans ?_ (by assumption)))) (by omega)).mono ?_
  rintro e W2 ⟨v2, rfl, o, b⟩
  have s_v2 := o.sl
  have x2 : Ext _ W2 := b
  clear o b
  go_wp2_with fail
  refine (setOf_any _ _ xs (s_v2.ext (by repeat (first | exact Ext.refl _ | assumption | refine Ext.alloc ?_ _ | refine Ext.drew ?_ | refine Ext.trans ?_ (by assumption)))) (by omega)).mono ?_
  rintro e W3 ⟨v3, rfl, o, b⟩
  have s_v3 := o.sl
  have x3 : Ext _ W3 := b
  clear o b
  go_wp2_with fail
  refine (refOf_any _ _ xs (h.ext (by repeat (first | exact Ext.refl _ | assumption | refine Ext.alloc ?_ _ | refine Ext.drew ?_ | refine Ext.trans ?_ (by assumption)))) (by omega)).mono ?_
  rintro e W4 ⟨v4, rfl, o, b⟩
  have s_v4 := o.sl
  have x4 : Ext _ W4 := b
  clear o b
  go_wp2_with fail
  refine (refSame_val true _ _ _ (norm xs) (norm xs) (s_v3.ext (by repeat (first | exact Ext.refl _ | assumption | refine Ext.alloc ?_ _ | refine Ext.drew ?_ | refine Ext.trans ?_ (by assumption)))) (s_v4.ext (by repeat (first | exact Ext.refl _ | assumption | refine Ext.alloc ?_ _ | refine Ext.drew ?_ | refine Ext.trans ?_ (by assumption)))) (by simp)).mono ?_
  rintro e W5 ⟨rfl, d⟩
  have x5 : Ext _ W5 := Ext.of_drew d
  clear d
  go_wp2_with fail
  refine (own_any _ _ xs (h.ext (by repeat (first | exact Ext.refl _ | assumption | refine Ext.alloc ?_ _ | refine Ext.drew ?_ | refine Ext.trans ?_ (by assumption)))) (by omega)).mono ?_
  rintro e W6 ⟨v6, rfl, o, b⟩
  have s_v6 := o.sl
  have x6 : Ext _ W6 := b
  clear o b
  go_wp2_with fail
  refine (setHas_val t _ _ xs x (s_v6.ext (by repeat (first | exact Ext.refl _ | assumption | refine Ext.alloc ?_ _ | refine Ext.drew ?_ | refine Ext.trans ?_ (by assumption)))) HT.out).mono ?_
  rintro e w' ⟨rfl, rfl⟩
  go_wp2_with fail
  refine (refHas_val t _ _ xs x (h.ext (by repeat (first | exact Ext.refl _ | assumption | refine Ext.alloc ?_ _ | refine Ext.drew ?_ | refine Ext.trans ?_ (by assumption)))) HT.out).mono ?_
  rintro e w' ⟨rfl, rfl⟩
  go_wp2_with fail
  refine (own_any _ _ xs (h.ext (by repeat (first | exact Ext.refl _ | assumption | refine Ext.alloc ?_ _ | refine Ext.drew ?_ | refine Ext.trans ?_ (by assumption)))) (by omega)).mono ?_
  rintro e W9 ⟨v9, rfl, o, b⟩
  have s_v9 := o.sl
  have x9 : Ext _ W9 := b
  clear o b
  go_wp2_with fail
  refine (setPlace_val k _ _ xs x (s_v9.ext (by repeat (first | exact Ext.refl _ | assumption | refine Ext.alloc ?_ _ | refine Ext.drew ?_ | refine Ext.trans ?_ (by assumption)))) (by omega) HK.out).mono ?_
  rintro e W10 ⟨rfl, b⟩
  have x10 : Ext _ W10 := b
  clear b
  go_wp2_with fail
  refine (refPlace_val k _ _ xs x (h.ext (by repeat (first | exact Ext.refl _ | assumption | refine Ext.alloc ?_ _ | refine Ext.drew ?_ | refine Ext.trans ?_ (by assumption)))) HK.out).mono ?_
  rintro e W11 ⟨rfl, d⟩
  have x11 : Ext _ W11 := Ext.of_drew d
  clear d
  go_wp2_with fail
  refine (own_any _ _ xs (h.ext (by repeat (first | exact Ext.refl _ | assumption | refine Ext.alloc ?_ _ | refine Ext.drew ?_ | refine Ext.trans ?_ (by assumption)))) (by omega)).mono ?_
  rintro e W12 ⟨v12, rfl, o, b⟩
  have s_v12 := o.sl
  have x12 : Ext _ W12 := b
  clear o b
  go_wp2_with fail
  refine (setValid_val u _ _ xs (s_v12.ext (by repeat (first | exact Ext.refl _ | assumption | refine Ext.alloc ?_ _ | refine Ext.drew ?_ | refine Ext.trans ?_ (by assumption)))) HU.out).mono ?_
  rintro e W13 ⟨rfl, d⟩
  have x13 : Ext _ W13 := Ext.of_drew d
  clear d
  go_wp2_with fail
  refine (refOf_any _ _ xs (h.ext (by repeat (first | exact Ext.refl _ | assumption | refine Ext.alloc ?_ _ | refine Ext.drew ?_ | refine Ext.trans ?_ (by assumption)))) (by omega)).mono ?_
  rintro e W14 ⟨v14, rfl, o, b⟩
  have s_v14 := o.sl
  have x14 : Ext _ W14 := b
  clear o b
  go_wp2_with fail
  refine (refSame_val u _ _ _ xs (norm xs) (h.ext (by repeat (first | exact Ext.refl _ | assumption | refine Ext.alloc ?_ _ | refine Ext.drew ?_ | refine Ext.trans ?_ (by assumption)))) (s_v14.ext (by repeat (first | exact Ext.refl _ | assumption | refine Ext.alloc ?_ _ | refine Ext.drew ?_ | refine Ext.trans ?_ (by assumption)))) HV.out).mono ?_
  rintro e W15 ⟨rfl, d⟩
  have x15 : Ext _ W15 := Ext.of_drew d
  clear d
  go_wp2_with fail
  go_ret
  exact ⟨rfl, (by repeat (first | exact Ext.refl _ | assumption | refine Ext.alloc ?_ _ | refine Ext.drew ?_ | refine Ext.trans ?_ (by assumption)))⟩

set_option maxHeartbeats 1000000 in
theorem setJoins_long (w : World) (ao : Option Addr) (c : Nat) (ao' : Option Addr) (c' : Nat) (xs : List Int) (ys : List Int) (x : Int) (h : Sl w (.slice ao xs.length c) xs) (g : Sl w (.slice ao' ys.length c') ys) (hl : 60 < xs.length ∨ 60 < ys.length) : Calls Try.prog 4 #[.slice ao xs.length c, .slice ao' ys.length c', .int .i64 x] w (GivesB w (.bool true)) := by
  have n1 := h.length_le
  have n2 := g.length_le
  clear h g
  by_cases hx : 60 < xs.length
  all_goals
    have hy : 60 < xs.length ∨ 60 < ys.length := hl
    have HL := Lib.hid hy
    clear hl hy
    try (have hy2 : 60 < ys.length := (by rcases HL.out with h | h; exact absurd h hx; exact h))
    go_enter Try.func4, Try.ntmps4
    go_wp2_with fail
    refine (awake_any _).mono ?_
    rintro e W1 ⟨rfl, b⟩
    have x1 : Ext _ W1 := b
    clear b
    go_wp2_with fail
    refine (awake_any _).mono ?_
    rintro e W2 ⟨rfl, b⟩
    have x2 : Ext _ W2 := b
    clear b
    go_wp2_with fail
    go_ret
    exact ⟨rfl, (by repeat (first | exact Ext.refl _ | assumption | refine Ext.alloc ?_ _ | refine Ext.drew ?_ | refine Ext.trans ?_ (by assumption)))⟩

set_option maxHeartbeats 8000000 in
theorem setJoins_short (w : World) (ao : Option Addr) (c : Nat) (ao' : Option Addr) (c' : Nat) (xs : List Int) (ys : List Int) (x : Int) (h : Sl w (.slice ao xs.length c) xs) (g : Sl w (.slice ao' ys.length c') ys) (hl : xs.length ≤ 60) (hl' : ys.length ≤ 60) : Calls Try.prog 4 #[.slice ao xs.length c, .slice ao' ys.length c', .int .i64 x] w (GivesB w (.bool true)) := by
  obtain ⟨L, hL⟩ : ∃ L, norm (xs.filter fun y => decide (y ∈ ys) == false) = L := ⟨_, rfl⟩
  cases L with
  | nil =>
    have HW : Hid ((xs.all fun x => decide (x ∈ ys)) = true) := Lib.hid (within_nil hL)
    have HL := Lib.hid hL
    clear hL
    go_enter Try.func4, Try.ntmps4
    go_wp2_with fail
    refine (awake_any _).mono ?_
    rintro e W1 ⟨rfl, b⟩
    have x1 : Ext _ W1 := b
    clear b
    go_wp2_with fail
    refine (own_any _ _ xs (h.ext (by repeat (first | exact Ext.refl _ | assumption | refine Ext.alloc ?_ _ | refine Ext.drew ?_ | refine Ext.trans ?_ (by assumption)))) (by omega)).mono ?_
    rintro e W2 ⟨v2, rfl, o, b⟩
    have s_v2 := o.sl
    have x2 : Ext _ W2 := b
    clear o b
    go_wp2_with fail
    refine (setAdd_any _ _ xs x (s_v2.ext (by repeat (first | exact Ext.refl _ | assumption | refine Ext.alloc ?_ _ | refine Ext.drew ?_ | refine Ext.trans ?_ (by assumption)))) (by omega)).mono ?_
    rintro e W3 ⟨v3, rfl, o, b⟩
    have s_v3 := o.sl
    have x3 : Ext _ W3 := b
    clear o b
    go_wp2_with fail
    refine (refUnion_any _ _ _ xs [x] (h.ext (by repeat (first | exact Ext.refl _ | assumption | refine Ext.alloc ?_ _ | refine Ext.drew ?_ | refine Ext.trans ?_ (by assumption)))) ((Sl.one W1 x).ext (by repeat (first | exact Ext.refl _ | assumption | refine Ext.alloc ?_ _ | refine Ext.drew ?_ | refine Ext.trans ?_ (by assumption)))) (by simp; omega)).mono ?_
    rintro e W4 ⟨v4, rfl, o, b⟩
    have s_v4 := o.sl
    have x4 : Ext _ W4 := b
    clear o b
    go_wp2_with fail
    refine (refSame_val true _ _ _ _ _ (s_v3.ext (by repeat (first | exact Ext.refl _ | assumption | refine Ext.alloc ?_ _ | refine Ext.drew ?_ | refine Ext.trans ?_ (by assumption)))) (s_v4.ext (by repeat (first | exact Ext.refl _ | assumption | refine Ext.alloc ?_ _ | refine Ext.drew ?_ | refine Ext.trans ?_ (by assumption)))) (by simp)).mono ?_
    rintro e W5 ⟨rfl, d⟩
    have x5 : Ext _ W5 := Ext.of_drew d
    clear d
    go_wp2_with fail
    refine (own_any _ _ xs (h.ext (by repeat (first | exact Ext.refl _ | assumption | refine Ext.alloc ?_ _ | refine Ext.drew ?_ | refine Ext.trans ?_ (by assumption)))) (by omega)).mono ?_
    rintro e W6 ⟨v6, rfl, o, b⟩
    have s_v6 := o.sl
    have x6 : Ext _ W6 := b
    clear o b
    go_wp2_with fail
    refine (setDel_any _ _ xs x (s_v6.ext (by repeat (first | exact Ext.refl _ | assumption | refine Ext.alloc ?_ _ | refine Ext.drew ?_ | refine Ext.trans ?_ (by assumption)))) (by omega)).mono ?_
    rintro e W7 ⟨v7, rfl, o, b⟩
    have s_v7 := o.sl
    have x7 : Ext _ W7 := b
    clear o b
    go_wp2_with fail
    refine (refPick_any _ _ _ xs [x] false (h.ext (by repeat (first | exact Ext.refl _ | assumption | refine Ext.alloc ?_ _ | refine Ext.drew ?_ | refine Ext.trans ?_ (by assumption)))) ((Sl.one W1 x).ext (by repeat (first | exact Ext.refl _ | assumption | refine Ext.alloc ?_ _ | refine Ext.drew ?_ | refine Ext.trans ?_ (by assumption)))) (by omega)).mono ?_
    rintro e W8 ⟨v8, rfl, o, b⟩
    have s_v8 := o.sl
    have x8 : Ext _ W8 := b
    clear o b
    go_wp2_with fail
    refine (refSame_val true _ _ _ _ _ (s_v7.ext (by repeat (first | exact Ext.refl _ | assumption | refine Ext.alloc ?_ _ | refine Ext.drew ?_ | refine Ext.trans ?_ (by assumption)))) (s_v8.ext (by repeat (first | exact Ext.refl _ | assumption | refine Ext.alloc ?_ _ | refine Ext.drew ?_ | refine Ext.trans ?_ (by assumption)))) (decide_eq_true (congrArg norm (filter_one xs x)))).mono ?_
    rintro e W9 ⟨rfl, d⟩
    have x9 : Ext _ W9 := Ext.of_drew d
    clear d
    go_wp2_with fail
    refine (own_any _ _ xs (h.ext (by repeat (first | exact Ext.refl _ | assumption | refine Ext.alloc ?_ _ | refine Ext.drew ?_ | refine Ext.trans ?_ (by assumption)))) (by omega)).mono ?_
    rintro e W10 ⟨v10, rfl, o, b⟩
    have s_v10 := o.sl
    have x10 : Ext _ W10 := b
    clear o b
    go_wp2_with fail
    refine (own_any _ _ ys (g.ext (by repeat (first | exact Ext.refl _ | assumption | refine Ext.alloc ?_ _ | refine Ext.drew ?_ | refine Ext.trans ?_ (by assumption)))) (by omega)).mono ?_
    rintro e W11 ⟨v11, rfl, o, b⟩
    have s_v11 := o.sl
    have x11 : Ext _ W11 := b
    clear o b
    go_wp2_with fail
    refine (setUnion_any _ _ _ xs ys (s_v10.ext (by repeat (first | exact Ext.refl _ | assumption | refine Ext.alloc ?_ _ | refine Ext.drew ?_ | refine Ext.trans ?_ (by assumption)))) (s_v11.ext (by repeat (first | exact Ext.refl _ | assumption | refine Ext.alloc ?_ _ | refine Ext.drew ?_ | refine Ext.trans ?_ (by assumption)))) (by omega)).mono ?_
    rintro e W12 ⟨v12, rfl, o, b⟩
    have s_v12 := o.sl
    have x12 : Ext _ W12 := b
    clear o b
    go_wp2_with fail
    refine (refUnion_any _ _ _ xs ys (h.ext (by repeat (first | exact Ext.refl _ | assumption | refine Ext.alloc ?_ _ | refine Ext.drew ?_ | refine Ext.trans ?_ (by assumption)))) (g.ext (by repeat (first | exact Ext.refl _ | assumption | refine Ext.alloc ?_ _ | refine Ext.drew ?_ | refine Ext.trans ?_ (by assumption)))) (by omega)).mono ?_
    rintro e W13 ⟨v13, rfl, o, b⟩
    have s_v13 := o.sl
    have x13 : Ext _ W13 := b
    clear o b
    go_wp2_with fail
    refine (refSame_val true _ _ _ _ _ (s_v12.ext (by repeat (first | exact Ext.refl _ | assumption | refine Ext.alloc ?_ _ | refine Ext.drew ?_ | refine Ext.trans ?_ (by assumption)))) (s_v13.ext (by repeat (first | exact Ext.refl _ | assumption | refine Ext.alloc ?_ _ | refine Ext.drew ?_ | refine Ext.trans ?_ (by assumption)))) (by simp)).mono ?_
    rintro e W14 ⟨rfl, d⟩
    have x14 : Ext _ W14 := Ext.of_drew d
    clear d
    go_wp2_with fail
    refine (own_any _ _ xs (h.ext (by repeat (first | exact Ext.refl _ | assumption | refine Ext.alloc ?_ _ | refine Ext.drew ?_ | refine Ext.trans ?_ (by assumption)))) (by omega)).mono ?_
    rintro e W15 ⟨v15, rfl, o, b⟩
    have s_v15 := o.sl
    have x15 : Ext _ W15 := b
    clear o b
    go_wp2_with fail
    refine (own_any _ _ ys (g.ext (by repeat (first | exact Ext.refl _ | assumption | refine Ext.alloc ?_ _ | refine Ext.drew ?_ | refine Ext.trans ?_ (by assumption)))) (by omega)).mono ?_
    rintro e W16 ⟨v16, rfl, o, b⟩
    have s_v16 := o.sl
    have x16 : Ext _ W16 := b
    clear o b
    go_wp2_with fail
    refine (setBoth_any _ _ _ xs ys (s_v15.ext (by repeat (first | exact Ext.refl _ | assumption | refine Ext.alloc ?_ _ | refine Ext.drew ?_ | refine Ext.trans ?_ (by assumption)))) (s_v16.ext (by repeat (first | exact Ext.refl _ | assumption | refine Ext.alloc ?_ _ | refine Ext.drew ?_ | refine Ext.trans ?_ (by assumption)))) (by omega) (by omega)).mono ?_
    rintro e W17 ⟨v17, rfl, o, b⟩
    have s_v17 := o.sl
    have x17 : Ext _ W17 := b
    clear o b
    go_wp2_with fail
    refine (refPick_any _ _ _ xs ys true (h.ext (by repeat (first | exact Ext.refl _ | assumption | refine Ext.alloc ?_ _ | refine Ext.drew ?_ | refine Ext.trans ?_ (by assumption)))) (g.ext (by repeat (first | exact Ext.refl _ | assumption | refine Ext.alloc ?_ _ | refine Ext.drew ?_ | refine Ext.trans ?_ (by assumption)))) (by omega)).mono ?_
    rintro e W18 ⟨v18, rfl, o, b⟩
    have s_v18 := o.sl
    have x18 : Ext _ W18 := b
    clear o b
    go_wp2_with fail
    refine (refSame_val true _ _ _ _ _ (s_v17.ext (by repeat (first | exact Ext.refl _ | assumption | refine Ext.alloc ?_ _ | refine Ext.drew ?_ | refine Ext.trans ?_ (by assumption)))) (s_v18.ext (by repeat (first | exact Ext.refl _ | assumption | refine Ext.alloc ?_ _ | refine Ext.drew ?_ | refine Ext.trans ?_ (by assumption)))) (decide_eq_true (congrArg norm (filter_yes xs ys)))).mono ?_
    rintro e W19 ⟨rfl, d⟩
    have x19 : Ext _ W19 := Ext.of_drew d
    clear d
    go_wp2_with fail
    refine (own_any _ _ xs (h.ext (by repeat (first | exact Ext.refl _ | assumption | refine Ext.alloc ?_ _ | refine Ext.drew ?_ | refine Ext.trans ?_ (by assumption)))) (by omega)).mono ?_
    rintro e W20 ⟨v20, rfl, o, b⟩
    have s_v20 := o.sl
    have x20 : Ext _ W20 := b
    clear o b
    go_wp2_with fail
    refine (own_any _ _ ys (g.ext (by repeat (first | exact Ext.refl _ | assumption | refine Ext.alloc ?_ _ | refine Ext.drew ?_ | refine Ext.trans ?_ (by assumption)))) (by omega)).mono ?_
    rintro e W21 ⟨v21, rfl, o, b⟩
    have s_v21 := o.sl
    have x21 : Ext _ W21 := b
    clear o b
    go_wp2_with fail
    refine (setMinus_any _ _ _ xs ys (s_v20.ext (by repeat (first | exact Ext.refl _ | assumption | refine Ext.alloc ?_ _ | refine Ext.drew ?_ | refine Ext.trans ?_ (by assumption)))) (s_v21.ext (by repeat (first | exact Ext.refl _ | assumption | refine Ext.alloc ?_ _ | refine Ext.drew ?_ | refine Ext.trans ?_ (by assumption)))) (by omega) (by omega)).mono ?_
    rintro e W22 ⟨v22, rfl, o, b⟩
    have s_v22 := o.sl
    have x22 : Ext _ W22 := b
    clear o b
    go_wp2_with fail
    refine (refPick_any _ _ _ xs ys false (h.ext (by repeat (first | exact Ext.refl _ | assumption | refine Ext.alloc ?_ _ | refine Ext.drew ?_ | refine Ext.trans ?_ (by assumption)))) (g.ext (by repeat (first | exact Ext.refl _ | assumption | refine Ext.alloc ?_ _ | refine Ext.drew ?_ | refine Ext.trans ?_ (by assumption)))) (by omega)).mono ?_
    rintro e W23 ⟨v23, rfl, o, b⟩
    have s_v23 := o.sl
    have x23 : Ext _ W23 := b
    clear o b
    go_wp2_with fail
    refine (refSame_val true _ _ _ _ _ (s_v22.ext (by repeat (first | exact Ext.refl _ | assumption | refine Ext.alloc ?_ _ | refine Ext.drew ?_ | refine Ext.trans ?_ (by assumption)))) (s_v23.ext (by repeat (first | exact Ext.refl _ | assumption | refine Ext.alloc ?_ _ | refine Ext.drew ?_ | refine Ext.trans ?_ (by assumption)))) (decide_eq_true (congrArg norm (filter_no xs ys)))).mono ?_
    rintro e W24 ⟨rfl, d⟩
    have x24 : Ext _ W24 := Ext.of_drew d
    clear d
    go_wp2_with fail
    refine (own_any _ _ xs (h.ext (by repeat (first | exact Ext.refl _ | assumption | refine Ext.alloc ?_ _ | refine Ext.drew ?_ | refine Ext.trans ?_ (by assumption)))) (by omega)).mono ?_
    rintro e W25 ⟨v25, rfl, o, b⟩
    have s_v25 := o.sl
    have x25 : Ext _ W25 := b
    clear o b
    go_wp2_with fail
    refine (own_any _ _ ys (g.ext (by repeat (first | exact Ext.refl _ | assumption | refine Ext.alloc ?_ _ | refine Ext.drew ?_ | refine Ext.trans ?_ (by assumption)))) (by omega)).mono ?_
    rintro e W26 ⟨v26, rfl, o, b⟩
    have s_v26 := o.sl
    have x26 : Ext _ W26 := b
    clear o b
    go_wp2_with fail
    refine (setWithin_val _ _ _ _ xs ys (s_v25.ext (by repeat (first | exact Ext.refl _ | assumption | refine Ext.alloc ?_ _ | refine Ext.drew ?_ | refine Ext.trans ?_ (by assumption)))) (s_v26.ext (by repeat (first | exact Ext.refl _ | assumption | refine Ext.alloc ?_ _ | refine Ext.drew ?_ | refine Ext.trans ?_ (by assumption)))) (by omega) HW.out).mono ?_
    rintro e W27 ⟨rfl, b⟩
    have x27 : Ext _ W27 := b
    clear b
    go_wp2_with fail
    refine (refPick_any _ _ _ xs ys false (h.ext (by repeat (first | exact Ext.refl _ | assumption | refine Ext.alloc ?_ _ | refine Ext.drew ?_ | refine Ext.trans ?_ (by assumption)))) (g.ext (by repeat (first | exact Ext.refl _ | assumption | refine Ext.alloc ?_ _ | refine Ext.drew ?_ | refine Ext.trans ?_ (by assumption)))) (by omega)).mono ?_
    rintro e W28 ⟨v28, rfl, o, b⟩
    rw [HL.out] at o
    have s_v28 := o.sl
    have x28 : Ext _ W28 := b
    clear o b
    obtain ⟨ao_v28, c_v28, rfl⟩ := s_v28.len
    go_wp2_with fail
    go_ret
    exact ⟨rfl, (by repeat (first | exact Ext.refl _ | assumption | refine Ext.alloc ?_ _ | refine Ext.drew ?_ | refine Ext.trans ?_ (by assumption)))⟩
  | cons z L =>
    have HW : Hid ((xs.all fun x => decide (x ∈ ys)) = false) := Lib.hid (within_cons hL)
    have HL := Lib.hid hL
    clear hL
    go_enter Try.func4, Try.ntmps4
    go_wp2_with fail
    refine (awake_any _).mono ?_
    rintro e W1 ⟨rfl, b⟩
    have x1 : Ext _ W1 := b
    clear b
    go_wp2_with fail
    refine (own_any _ _ xs (h.ext (by repeat (first | exact Ext.refl _ | assumption | refine Ext.alloc ?_ _ | refine Ext.drew ?_ | refine Ext.trans ?_ (by assumption)))) (by omega)).mono ?_
    rintro e W2 ⟨v2, rfl, o, b⟩
    have s_v2 := o.sl
    have x2 : Ext _ W2 := b
    clear o b
    go_wp2_with fail
    refine (setAdd_any _ _ xs x (s_v2.ext (by repeat (first | exact Ext.refl _ | assumption | refine Ext.alloc ?_ _ | refine Ext.drew ?_ | refine Ext.trans ?_ (by assumption)))) (by omega)).mono ?_
    rintro e W3 ⟨v3, rfl, o, b⟩
    have s_v3 := o.sl
    have x3 : Ext _ W3 := b
    clear o b
    go_wp2_with fail
    refine (refUnion_any _ _ _ xs [x] (h.ext (by repeat (first | exact Ext.refl _ | assumption | refine Ext.alloc ?_ _ | refine Ext.drew ?_ | refine Ext.trans ?_ (by assumption)))) ((Sl.one W1 x).ext (by repeat (first | exact Ext.refl _ | assumption | refine Ext.alloc ?_ _ | refine Ext.drew ?_ | refine Ext.trans ?_ (by assumption)))) (by simp; omega)).mono ?_
    rintro e W4 ⟨v4, rfl, o, b⟩
    have s_v4 := o.sl
    have x4 : Ext _ W4 := b
    clear o b
    go_wp2_with fail
    refine (refSame_val true _ _ _ _ _ (s_v3.ext (by repeat (first | exact Ext.refl _ | assumption | refine Ext.alloc ?_ _ | refine Ext.drew ?_ | refine Ext.trans ?_ (by assumption)))) (s_v4.ext (by repeat (first | exact Ext.refl _ | assumption | refine Ext.alloc ?_ _ | refine Ext.drew ?_ | refine Ext.trans ?_ (by assumption)))) (by simp)).mono ?_
    rintro e W5 ⟨rfl, d⟩
    have x5 : Ext _ W5 := Ext.of_drew d
    clear d
    go_wp2_with fail
    refine (own_any _ _ xs (h.ext (by repeat (first | exact Ext.refl _ | assumption | refine Ext.alloc ?_ _ | refine Ext.drew ?_ | refine Ext.trans ?_ (by assumption)))) (by omega)).mono ?_
    rintro e W6 ⟨v6, rfl, o, b⟩
    have s_v6 := o.sl
    have x6 : Ext _ W6 := b
    clear o b
    go_wp2_with fail
    refine (setDel_any _ _ xs x (s_v6.ext (by repeat (first | exact Ext.refl _ | assumption | refine Ext.alloc ?_ _ | refine Ext.drew ?_ | refine Ext.trans ?_ (by assumption)))) (by omega)).mono ?_
    rintro e W7 ⟨v7, rfl, o, b⟩
    have s_v7 := o.sl
    have x7 : Ext _ W7 := b
    clear o b
    go_wp2_with fail
    refine (refPick_any _ _ _ xs [x] false (h.ext (by repeat (first | exact Ext.refl _ | assumption | refine Ext.alloc ?_ _ | refine Ext.drew ?_ | refine Ext.trans ?_ (by assumption)))) ((Sl.one W1 x).ext (by repeat (first | exact Ext.refl _ | assumption | refine Ext.alloc ?_ _ | refine Ext.drew ?_ | refine Ext.trans ?_ (by assumption)))) (by omega)).mono ?_
    rintro e W8 ⟨v8, rfl, o, b⟩
    have s_v8 := o.sl
    have x8 : Ext _ W8 := b
    clear o b
    go_wp2_with fail
    refine (refSame_val true _ _ _ _ _ (s_v7.ext (by repeat (first | exact Ext.refl _ | assumption | refine Ext.alloc ?_ _ | refine Ext.drew ?_ | refine Ext.trans ?_ (by assumption)))) (s_v8.ext (by repeat (first | exact Ext.refl _ | assumption | refine Ext.alloc ?_ _ | refine Ext.drew ?_ | refine Ext.trans ?_ (by assumption)))) (decide_eq_true (congrArg norm (filter_one xs x)))).mono ?_
    rintro e W9 ⟨rfl, d⟩
    have x9 : Ext _ W9 := Ext.of_drew d
    clear d
    go_wp2_with fail
    refine (own_any _ _ xs (h.ext (by repeat (first | exact Ext.refl _ | assumption | refine Ext.alloc ?_ _ | refine Ext.drew ?_ | refine Ext.trans ?_ (by assumption)))) (by omega)).mono ?_
    rintro e W10 ⟨v10, rfl, o, b⟩
    have s_v10 := o.sl
    have x10 : Ext _ W10 := b
    clear o b
    go_wp2_with fail
    refine (own_any _ _ ys (g.ext (by repeat (first | exact Ext.refl _ | assumption | refine Ext.alloc ?_ _ | refine Ext.drew ?_ | refine Ext.trans ?_ (by assumption)))) (by omega)).mono ?_
    rintro e W11 ⟨v11, rfl, o, b⟩
    have s_v11 := o.sl
    have x11 : Ext _ W11 := b
    clear o b
    go_wp2_with fail
    refine (setUnion_any _ _ _ xs ys (s_v10.ext (by repeat (first | exact Ext.refl _ | assumption | refine Ext.alloc ?_ _ | refine Ext.drew ?_ | refine Ext.trans ?_ (by assumption)))) (s_v11.ext (by repeat (first | exact Ext.refl _ | assumption | refine Ext.alloc ?_ _ | refine Ext.drew ?_ | refine Ext.trans ?_ (by assumption)))) (by omega)).mono ?_
    rintro e W12 ⟨v12, rfl, o, b⟩
    have s_v12 := o.sl
    have x12 : Ext _ W12 := b
    clear o b
    go_wp2_with fail
    refine (refUnion_any _ _ _ xs ys (h.ext (by repeat (first | exact Ext.refl _ | assumption | refine Ext.alloc ?_ _ | refine Ext.drew ?_ | refine Ext.trans ?_ (by assumption)))) (g.ext (by repeat (first | exact Ext.refl _ | assumption | refine Ext.alloc ?_ _ | refine Ext.drew ?_ | refine Ext.trans ?_ (by assumption)))) (by omega)).mono ?_
    rintro e W13 ⟨v13, rfl, o, b⟩
    have s_v13 := o.sl
    have x13 : Ext _ W13 := b
    clear o b
    go_wp2_with fail
    refine (refSame_val true _ _ _ _ _ (s_v12.ext (by repeat (first | exact Ext.refl _ | assumption | refine Ext.alloc ?_ _ | refine Ext.drew ?_ | refine Ext.trans ?_ (by assumption)))) (s_v13.ext (by repeat (first | exact Ext.refl _ | assumption | refine Ext.alloc ?_ _ | refine Ext.drew ?_ | refine Ext.trans ?_ (by assumption)))) (by simp)).mono ?_
    rintro e W14 ⟨rfl, d⟩
    have x14 : Ext _ W14 := Ext.of_drew d
    clear d
    go_wp2_with fail
    refine (own_any _ _ xs (h.ext (by repeat (first | exact Ext.refl _ | assumption | refine Ext.alloc ?_ _ | refine Ext.drew ?_ | refine Ext.trans ?_ (by assumption)))) (by omega)).mono ?_
    rintro e W15 ⟨v15, rfl, o, b⟩
    have s_v15 := o.sl
    have x15 : Ext _ W15 := b
    clear o b
    go_wp2_with fail
    refine (own_any _ _ ys (g.ext (by repeat (first | exact Ext.refl _ | assumption | refine Ext.alloc ?_ _ | refine Ext.drew ?_ | refine Ext.trans ?_ (by assumption)))) (by omega)).mono ?_
    rintro e W16 ⟨v16, rfl, o, b⟩
    have s_v16 := o.sl
    have x16 : Ext _ W16 := b
    clear o b
    go_wp2_with fail
    refine (setBoth_any _ _ _ xs ys (s_v15.ext (by repeat (first | exact Ext.refl _ | assumption | refine Ext.alloc ?_ _ | refine Ext.drew ?_ | refine Ext.trans ?_ (by assumption)))) (s_v16.ext (by repeat (first | exact Ext.refl _ | assumption | refine Ext.alloc ?_ _ | refine Ext.drew ?_ | refine Ext.trans ?_ (by assumption)))) (by omega) (by omega)).mono ?_
    rintro e W17 ⟨v17, rfl, o, b⟩
    have s_v17 := o.sl
    have x17 : Ext _ W17 := b
    clear o b
    go_wp2_with fail
    refine (refPick_any _ _ _ xs ys true (h.ext (by repeat (first | exact Ext.refl _ | assumption | refine Ext.alloc ?_ _ | refine Ext.drew ?_ | refine Ext.trans ?_ (by assumption)))) (g.ext (by repeat (first | exact Ext.refl _ | assumption | refine Ext.alloc ?_ _ | refine Ext.drew ?_ | refine Ext.trans ?_ (by assumption)))) (by omega)).mono ?_
    rintro e W18 ⟨v18, rfl, o, b⟩
    have s_v18 := o.sl
    have x18 : Ext _ W18 := b
    clear o b
    go_wp2_with fail
    refine (refSame_val true _ _ _ _ _ (s_v17.ext (by repeat (first | exact Ext.refl _ | assumption | refine Ext.alloc ?_ _ | refine Ext.drew ?_ | refine Ext.trans ?_ (by assumption)))) (s_v18.ext (by repeat (first | exact Ext.refl _ | assumption | refine Ext.alloc ?_ _ | refine Ext.drew ?_ | refine Ext.trans ?_ (by assumption)))) (decide_eq_true (congrArg norm (filter_yes xs ys)))).mono ?_
    rintro e W19 ⟨rfl, d⟩
    have x19 : Ext _ W19 := Ext.of_drew d
    clear d
    go_wp2_with fail
    refine (own_any _ _ xs (h.ext (by repeat (first | exact Ext.refl _ | assumption | refine Ext.alloc ?_ _ | refine Ext.drew ?_ | refine Ext.trans ?_ (by assumption)))) (by omega)).mono ?_
    rintro e W20 ⟨v20, rfl, o, b⟩
    have s_v20 := o.sl
    have x20 : Ext _ W20 := b
    clear o b
    go_wp2_with fail
    refine (own_any _ _ ys (g.ext (by repeat (first | exact Ext.refl _ | assumption | refine Ext.alloc ?_ _ | refine Ext.drew ?_ | refine Ext.trans ?_ (by assumption)))) (by omega)).mono ?_
    rintro e W21 ⟨v21, rfl, o, b⟩
    have s_v21 := o.sl
    have x21 : Ext _ W21 := b
    clear o b
    go_wp2_with fail
    refine (setMinus_any _ _ _ xs ys (s_v20.ext (by repeat (first | exact Ext.refl _ | assumption | refine Ext.alloc ?_ _ | refine Ext.drew ?_ | refine Ext.trans ?_ (by assumption)))) (s_v21.ext (by repeat (first | exact Ext.refl _ | assumption | refine Ext.alloc ?_ _ | refine Ext.drew ?_ | refine Ext.trans ?_ (by assumption)))) (by omega) (by omega)).mono ?_
    rintro e W22 ⟨v22, rfl, o, b⟩
    have s_v22 := o.sl
    have x22 : Ext _ W22 := b
    clear o b
    go_wp2_with fail
    refine (refPick_any _ _ _ xs ys false (h.ext (by repeat (first | exact Ext.refl _ | assumption | refine Ext.alloc ?_ _ | refine Ext.drew ?_ | refine Ext.trans ?_ (by assumption)))) (g.ext (by repeat (first | exact Ext.refl _ | assumption | refine Ext.alloc ?_ _ | refine Ext.drew ?_ | refine Ext.trans ?_ (by assumption)))) (by omega)).mono ?_
    rintro e W23 ⟨v23, rfl, o, b⟩
    have s_v23 := o.sl
    have x23 : Ext _ W23 := b
    clear o b
    go_wp2_with fail
    refine (refSame_val true _ _ _ _ _ (s_v22.ext (by repeat (first | exact Ext.refl _ | assumption | refine Ext.alloc ?_ _ | refine Ext.drew ?_ | refine Ext.trans ?_ (by assumption)))) (s_v23.ext (by repeat (first | exact Ext.refl _ | assumption | refine Ext.alloc ?_ _ | refine Ext.drew ?_ | refine Ext.trans ?_ (by assumption)))) (decide_eq_true (congrArg norm (filter_no xs ys)))).mono ?_
    rintro e W24 ⟨rfl, d⟩
    have x24 : Ext _ W24 := Ext.of_drew d
    clear d
    go_wp2_with fail
    refine (own_any _ _ xs (h.ext (by repeat (first | exact Ext.refl _ | assumption | refine Ext.alloc ?_ _ | refine Ext.drew ?_ | refine Ext.trans ?_ (by assumption)))) (by omega)).mono ?_
    rintro e W25 ⟨v25, rfl, o, b⟩
    have s_v25 := o.sl
    have x25 : Ext _ W25 := b
    clear o b
    go_wp2_with fail
    refine (own_any _ _ ys (g.ext (by repeat (first | exact Ext.refl _ | assumption | refine Ext.alloc ?_ _ | refine Ext.drew ?_ | refine Ext.trans ?_ (by assumption)))) (by omega)).mono ?_
    rintro e W26 ⟨v26, rfl, o, b⟩
    have s_v26 := o.sl
    have x26 : Ext _ W26 := b
    clear o b
    go_wp2_with fail
    refine (setWithin_val _ _ _ _ xs ys (s_v25.ext (by repeat (first | exact Ext.refl _ | assumption | refine Ext.alloc ?_ _ | refine Ext.drew ?_ | refine Ext.trans ?_ (by assumption)))) (s_v26.ext (by repeat (first | exact Ext.refl _ | assumption | refine Ext.alloc ?_ _ | refine Ext.drew ?_ | refine Ext.trans ?_ (by assumption)))) (by omega) HW.out).mono ?_
    rintro e W27 ⟨rfl, b⟩
    have x27 : Ext _ W27 := b
    clear b
    go_wp2_with fail
    refine (refPick_any _ _ _ xs ys false (h.ext (by repeat (first | exact Ext.refl _ | assumption | refine Ext.alloc ?_ _ | refine Ext.drew ?_ | refine Ext.trans ?_ (by assumption)))) (g.ext (by repeat (first | exact Ext.refl _ | assumption | refine Ext.alloc ?_ _ | refine Ext.drew ?_ | refine Ext.trans ?_ (by assumption)))) (by omega)).mono ?_
    rintro e W28 ⟨v28, rfl, o, b⟩
    rw [HL.out] at o
    have s_v28 := o.sl
    have x28 : Ext _ W28 := b
    clear o b
    obtain ⟨ao_v28, c_v28, rfl⟩ := s_v28.len
    go_wp2_with fail
    go_ret
    exact ⟨rfl, (by repeat (first | exact Ext.refl _ | assumption | refine Ext.alloc ?_ _ | refine Ext.drew ?_ | refine Ext.trans ?_ (by assumption)))⟩

set_option maxHeartbeats 1000000 in
theorem setMembers_long (w : World) (ao : Option Addr) (c : Nat) (ao' : Option Addr) (c' : Nat) (xs : List Int) (ys : List Int) (x : Int) (h : Sl w (.slice ao xs.length c) xs) (g : Sl w (.slice ao' ys.length c') ys) (hl : 60 < xs.length ∨ 60 < ys.length) : Calls Try.prog 5 #[.slice ao xs.length c, .slice ao' ys.length c', .int .i64 x] w (GivesB w (.bool true)) := by
  have n1 := h.length_le
  have n2 := g.length_le
  clear h g
  by_cases hx : 60 < xs.length
  all_goals
    have hy : 60 < xs.length ∨ 60 < ys.length := hl
    have HL := Lib.hid hy
    clear hl hy
    try (have hy2 : 60 < ys.length := (by rcases HL.out with h | h; exact absurd h hx; exact h))
    go_enter Try.func5, Try.ntmps5
    go_wp2_with fail
    refine (awake_any _).mono ?_
    rintro e W1 ⟨rfl, b⟩
    have x1 : Ext _ W1 := b
    clear b
    go_wp2_with fail
    refine (awake_any _).mono ?_
    rintro e W2 ⟨rfl, b⟩
    have x2 : Ext _ W2 := b
    clear b
    go_wp2_with fail
    go_ret
    exact ⟨rfl, (by repeat (first | exact Ext.refl _ | assumption | refine Ext.alloc ?_ _ | refine Ext.drew ?_ | refine Ext.trans ?_ (by assumption)))⟩

set_option maxHeartbeats 8000000 in
theorem setMembers_short (w : World) (ao : Option Addr) (c : Nat) (ao' : Option Addr) (c' : Nat) (xs : List Int) (ys : List Int) (x : Int) (h : Sl w (.slice ao xs.length c) xs) (g : Sl w (.slice ao' ys.length c') ys) (hl : xs.length ≤ 60) (hl' : ys.length ≤ 60) : Calls Try.prog 5 #[.slice ao xs.length c, .slice ao' ys.length c', .int .i64 x] w (GivesB w (.bool true)) := by
  rcases hp : decide (x ∈ xs) with _ | _ <;> rcases hq : decide (x ∈ ys) with _ | _
  · have HP := Lib.hid hp
    have HQ := Lib.hid hq
    clear hp hq
    go_enter Try.func5, Try.ntmps5
    go_wp2_with fail
    refine (awake_any _).mono ?_
    rintro e W1 ⟨rfl, b⟩
    have x1 : Ext _ W1 := b
    clear b
    go_wp2_with fail
    refine (own_any _ _ xs (h.ext (by repeat (first | exact Ext.refl _ | assumption | refine Ext.alloc ?_ _ | refine Ext.drew ?_ | refine Ext.trans ?_ (by assumption)))) (by omega)).mono ?_
    rintro e W2 ⟨v2, rfl, o, b⟩
    have s_v2 := o.sl
    have x2 : Ext _ W2 := b
    clear o b
    go_wp2_with fail
    refine (setHas_val false _ _ xs x (s_v2.ext (by repeat (first | exact Ext.refl _ | assumption | refine Ext.alloc ?_ _ | refine Ext.drew ?_ | refine Ext.trans ?_ (by assumption)))) HP.out).mono ?_
    rintro e w' ⟨rfl, rfl⟩
    go_wp2_with fail
    refine (own_any _ _ ys (g.ext (by repeat (first | exact Ext.refl _ | assumption | refine Ext.alloc ?_ _ | refine Ext.drew ?_ | refine Ext.trans ?_ (by assumption)))) (by omega)).mono ?_
    rintro e W4 ⟨v4, rfl, o, b⟩
    have s_v4 := o.sl
    have x4 : Ext _ W4 := b
    clear o b
    go_wp2_with fail
    refine (setHas_val false _ _ ys x (s_v4.ext (by repeat (first | exact Ext.refl _ | assumption | refine Ext.alloc ?_ _ | refine Ext.drew ?_ | refine Ext.trans ?_ (by assumption)))) HQ.out).mono ?_
    rintro e w' ⟨rfl, rfl⟩
    go_wp2_with fail
    refine (own_any _ _ xs (h.ext (by repeat (first | exact Ext.refl _ | assumption | refine Ext.alloc ?_ _ | refine Ext.drew ?_ | refine Ext.trans ?_ (by assumption)))) (by omega)).mono ?_
    rintro e W6 ⟨v6, rfl, o, b⟩
    have s_v6 := o.sl
    have x6 : Ext _ W6 := b
    clear o b
    go_wp2_with fail
    refine (own_any _ _ ys (g.ext (by repeat (first | exact Ext.refl _ | assumption | refine Ext.alloc ?_ _ | refine Ext.drew ?_ | refine Ext.trans ?_ (by assumption)))) (by omega)).mono ?_
    rintro e W7 ⟨v7, rfl, o, b⟩
    have s_v7 := o.sl
    have x7 : Ext _ W7 := b
    clear o b
    go_wp2_with fail
    refine (setUnion_any _ _ _ xs ys (s_v6.ext (by repeat (first | exact Ext.refl _ | assumption | refine Ext.alloc ?_ _ | refine Ext.drew ?_ | refine Ext.trans ?_ (by assumption)))) (s_v7.ext (by repeat (first | exact Ext.refl _ | assumption | refine Ext.alloc ?_ _ | refine Ext.drew ?_ | refine Ext.trans ?_ (by assumption)))) (by omega)).mono ?_
    rintro e W8 ⟨v8, rfl, o, b⟩
    have s_v8 := o.sl
    have x8 : Ext _ W8 := b
    clear o b
    go_wp2_with fail
    refine (setHas_val false _ _ _ x (s_v8.ext (by repeat (first | exact Ext.refl _ | assumption | refine Ext.alloc ?_ _ | refine Ext.drew ?_ | refine Ext.trans ?_ (by assumption)))) (by simp [mem_norm, of_decide HP.out, of_decide HQ.out])).mono ?_
    rintro e w' ⟨rfl, rfl⟩
    go_wp2_with fail
    refine (own_any _ _ xs (h.ext (by repeat (first | exact Ext.refl _ | assumption | refine Ext.alloc ?_ _ | refine Ext.drew ?_ | refine Ext.trans ?_ (by assumption)))) (by omega)).mono ?_
    rintro e W10 ⟨v10, rfl, o, b⟩
    have s_v10 := o.sl
    have x10 : Ext _ W10 := b
    clear o b
    go_wp2_with fail
    refine (own_any _ _ ys (g.ext (by repeat (first | exact Ext.refl _ | assumption | refine Ext.alloc ?_ _ | refine Ext.drew ?_ | refine Ext.trans ?_ (by assumption)))) (by omega)).mono ?_
    rintro e W11 ⟨v11, rfl, o, b⟩
    have s_v11 := o.sl
    have x11 : Ext _ W11 := b
    clear o b
    go_wp2_with fail
    refine (setBoth_any _ _ _ xs ys (s_v10.ext (by repeat (first | exact Ext.refl _ | assumption | refine Ext.alloc ?_ _ | refine Ext.drew ?_ | refine Ext.trans ?_ (by assumption)))) (s_v11.ext (by repeat (first | exact Ext.refl _ | assumption | refine Ext.alloc ?_ _ | refine Ext.drew ?_ | refine Ext.trans ?_ (by assumption)))) (by omega) (by omega)).mono ?_
    rintro e W12 ⟨v12, rfl, o, b⟩
    have s_v12 := o.sl
    have x12 : Ext _ W12 := b
    clear o b
    go_wp2_with fail
    refine (setHas_val false _ _ _ x (s_v12.ext (by repeat (first | exact Ext.refl _ | assumption | refine Ext.alloc ?_ _ | refine Ext.drew ?_ | refine Ext.trans ?_ (by assumption)))) (by simp [mem_norm, of_decide HP.out, of_decide HQ.out])).mono ?_
    rintro e w' ⟨rfl, rfl⟩
    go_wp2_with fail
    refine (own_any _ _ xs (h.ext (by repeat (first | exact Ext.refl _ | assumption | refine Ext.alloc ?_ _ | refine Ext.drew ?_ | refine Ext.trans ?_ (by assumption)))) (by omega)).mono ?_
    rintro e W14 ⟨v14, rfl, o, b⟩
    have s_v14 := o.sl
    have x14 : Ext _ W14 := b
    clear o b
    go_wp2_with fail
    refine (own_any _ _ ys (g.ext (by repeat (first | exact Ext.refl _ | assumption | refine Ext.alloc ?_ _ | refine Ext.drew ?_ | refine Ext.trans ?_ (by assumption)))) (by omega)).mono ?_
    rintro e W15 ⟨v15, rfl, o, b⟩
    have s_v15 := o.sl
    have x15 : Ext _ W15 := b
    clear o b
    go_wp2_with fail
    refine (setMinus_any _ _ _ xs ys (s_v14.ext (by repeat (first | exact Ext.refl _ | assumption | refine Ext.alloc ?_ _ | refine Ext.drew ?_ | refine Ext.trans ?_ (by assumption)))) (s_v15.ext (by repeat (first | exact Ext.refl _ | assumption | refine Ext.alloc ?_ _ | refine Ext.drew ?_ | refine Ext.trans ?_ (by assumption)))) (by omega) (by omega)).mono ?_
    rintro e W16 ⟨v16, rfl, o, b⟩
    have s_v16 := o.sl
    have x16 : Ext _ W16 := b
    clear o b
    go_wp2_with fail
    refine (setHas_val false _ _ _ x (s_v16.ext (by repeat (first | exact Ext.refl _ | assumption | refine Ext.alloc ?_ _ | refine Ext.drew ?_ | refine Ext.trans ?_ (by assumption)))) (by simp [mem_norm, of_decide HP.out, of_decide HQ.out])).mono ?_
    rintro e w' ⟨rfl, rfl⟩
    go_wp2_with fail
    refine (own_any _ _ xs (h.ext (by repeat (first | exact Ext.refl _ | assumption | refine Ext.alloc ?_ _ | refine Ext.drew ?_ | refine Ext.trans ?_ (by assumption)))) (by omega)).mono ?_
    rintro e W18 ⟨v18, rfl, o, b⟩
    have s_v18 := o.sl
    have x18 : Ext _ W18 := b
    clear o b
    go_wp2_with fail
    refine (setAdd_any _ _ xs x (s_v18.ext (by repeat (first | exact Ext.refl _ | assumption | refine Ext.alloc ?_ _ | refine Ext.drew ?_ | refine Ext.trans ?_ (by assumption)))) (by omega)).mono ?_
    rintro e W19 ⟨v19, rfl, o, b⟩
    have s_v19 := o.sl
    have x19 : Ext _ W19 := b
    clear o b
    go_wp2_with fail
    refine (setHas_val true _ _ _ x (s_v19.ext (by repeat (first | exact Ext.refl _ | assumption | refine Ext.alloc ?_ _ | refine Ext.drew ?_ | refine Ext.trans ?_ (by assumption)))) (by simp [mem_norm])).mono ?_
    rintro e w' ⟨rfl, rfl⟩
    go_wp2_with fail
    refine (own_any _ _ xs (h.ext (by repeat (first | exact Ext.refl _ | assumption | refine Ext.alloc ?_ _ | refine Ext.drew ?_ | refine Ext.trans ?_ (by assumption)))) (by omega)).mono ?_
    rintro e W21 ⟨v21, rfl, o, b⟩
    have s_v21 := o.sl
    have x21 : Ext _ W21 := b
    clear o b
    go_wp2_with fail
    refine (setDel_any _ _ xs x (s_v21.ext (by repeat (first | exact Ext.refl _ | assumption | refine Ext.alloc ?_ _ | refine Ext.drew ?_ | refine Ext.trans ?_ (by assumption)))) (by omega)).mono ?_
    rintro e W22 ⟨v22, rfl, o, b⟩
    have s_v22 := o.sl
    have x22 : Ext _ W22 := b
    clear o b
    go_wp2_with fail
    refine (setHas_val false _ _ _ x (s_v22.ext (by repeat (first | exact Ext.refl _ | assumption | refine Ext.alloc ?_ _ | refine Ext.drew ?_ | refine Ext.trans ?_ (by assumption)))) (by simp [mem_norm])).mono ?_
    rintro e w' ⟨rfl, rfl⟩
    go_wp2_with fail
    go_ret
    exact ⟨rfl, (by repeat (first | exact Ext.refl _ | assumption | refine Ext.alloc ?_ _ | refine Ext.drew ?_ | refine Ext.trans ?_ (by assumption)))⟩
  · have HP := Lib.hid hp
    have HQ := Lib.hid hq
    clear hp hq
    go_enter Try.func5, Try.ntmps5
    go_wp2_with fail
    refine (awake_any _).mono ?_
    rintro e W1 ⟨rfl, b⟩
    have x1 : Ext _ W1 := b
    clear b
    go_wp2_with fail
    refine (own_any _ _ xs (h.ext (by repeat (first | exact Ext.refl _ | assumption | refine Ext.alloc ?_ _ | refine Ext.drew ?_ | refine Ext.trans ?_ (by assumption)))) (by omega)).mono ?_
    rintro e W2 ⟨v2, rfl, o, b⟩
    have s_v2 := o.sl
    have x2 : Ext _ W2 := b
    clear o b
    go_wp2_with fail
    refine (setHas_val false _ _ xs x (s_v2.ext (by repeat (first | exact Ext.refl _ | assumption | refine Ext.alloc ?_ _ | refine Ext.drew ?_ | refine Ext.trans ?_ (by assumption)))) HP.out).mono ?_
    rintro e w' ⟨rfl, rfl⟩
    go_wp2_with fail
    refine (own_any _ _ ys (g.ext (by repeat (first | exact Ext.refl _ | assumption | refine Ext.alloc ?_ _ | refine Ext.drew ?_ | refine Ext.trans ?_ (by assumption)))) (by omega)).mono ?_
    rintro e W4 ⟨v4, rfl, o, b⟩
    have s_v4 := o.sl
    have x4 : Ext _ W4 := b
    clear o b
    go_wp2_with fail
    refine (setHas_val true _ _ ys x (s_v4.ext (by repeat (first | exact Ext.refl _ | assumption | refine Ext.alloc ?_ _ | refine Ext.drew ?_ | refine Ext.trans ?_ (by assumption)))) HQ.out).mono ?_
    rintro e w' ⟨rfl, rfl⟩
    go_wp2_with fail
    refine (own_any _ _ xs (h.ext (by repeat (first | exact Ext.refl _ | assumption | refine Ext.alloc ?_ _ | refine Ext.drew ?_ | refine Ext.trans ?_ (by assumption)))) (by omega)).mono ?_
    rintro e W6 ⟨v6, rfl, o, b⟩
    have s_v6 := o.sl
    have x6 : Ext _ W6 := b
    clear o b
    go_wp2_with fail
    refine (own_any _ _ ys (g.ext (by repeat (first | exact Ext.refl _ | assumption | refine Ext.alloc ?_ _ | refine Ext.drew ?_ | refine Ext.trans ?_ (by assumption)))) (by omega)).mono ?_
    rintro e W7 ⟨v7, rfl, o, b⟩
    have s_v7 := o.sl
    have x7 : Ext _ W7 := b
    clear o b
    go_wp2_with fail
    refine (setUnion_any _ _ _ xs ys (s_v6.ext (by repeat (first | exact Ext.refl _ | assumption | refine Ext.alloc ?_ _ | refine Ext.drew ?_ | refine Ext.trans ?_ (by assumption)))) (s_v7.ext (by repeat (first | exact Ext.refl _ | assumption | refine Ext.alloc ?_ _ | refine Ext.drew ?_ | refine Ext.trans ?_ (by assumption)))) (by omega)).mono ?_
    rintro e W8 ⟨v8, rfl, o, b⟩
    have s_v8 := o.sl
    have x8 : Ext _ W8 := b
    clear o b
    go_wp2_with fail
    refine (setHas_val true _ _ _ x (s_v8.ext (by repeat (first | exact Ext.refl _ | assumption | refine Ext.alloc ?_ _ | refine Ext.drew ?_ | refine Ext.trans ?_ (by assumption)))) (by simp [mem_norm, of_decide HP.out, of_decide HQ.out])).mono ?_
    rintro e w' ⟨rfl, rfl⟩
    go_wp2_with fail
    refine (own_any _ _ xs (h.ext (by repeat (first | exact Ext.refl _ | assumption | refine Ext.alloc ?_ _ | refine Ext.drew ?_ | refine Ext.trans ?_ (by assumption)))) (by omega)).mono ?_
    rintro e W10 ⟨v10, rfl, o, b⟩
    have s_v10 := o.sl
    have x10 : Ext _ W10 := b
    clear o b
    go_wp2_with fail
    refine (own_any _ _ ys (g.ext (by repeat (first | exact Ext.refl _ | assumption | refine Ext.alloc ?_ _ | refine Ext.drew ?_ | refine Ext.trans ?_ (by assumption)))) (by omega)).mono ?_
    rintro e W11 ⟨v11, rfl, o, b⟩
    have s_v11 := o.sl
    have x11 : Ext _ W11 := b
    clear o b
    go_wp2_with fail
    refine (setBoth_any _ _ _ xs ys (s_v10.ext (by repeat (first | exact Ext.refl _ | assumption | refine Ext.alloc ?_ _ | refine Ext.drew ?_ | refine Ext.trans ?_ (by assumption)))) (s_v11.ext (by repeat (first | exact Ext.refl _ | assumption | refine Ext.alloc ?_ _ | refine Ext.drew ?_ | refine Ext.trans ?_ (by assumption)))) (by omega) (by omega)).mono ?_
    rintro e W12 ⟨v12, rfl, o, b⟩
    have s_v12 := o.sl
    have x12 : Ext _ W12 := b
    clear o b
    go_wp2_with fail
    refine (setHas_val false _ _ _ x (s_v12.ext (by repeat (first | exact Ext.refl _ | assumption | refine Ext.alloc ?_ _ | refine Ext.drew ?_ | refine Ext.trans ?_ (by assumption)))) (by simp [mem_norm, of_decide HP.out, of_decide HQ.out])).mono ?_
    rintro e w' ⟨rfl, rfl⟩
    go_wp2_with fail
    refine (own_any _ _ xs (h.ext (by repeat (first | exact Ext.refl _ | assumption | refine Ext.alloc ?_ _ | refine Ext.drew ?_ | refine Ext.trans ?_ (by assumption)))) (by omega)).mono ?_
    rintro e W14 ⟨v14, rfl, o, b⟩
    have s_v14 := o.sl
    have x14 : Ext _ W14 := b
    clear o b
    go_wp2_with fail
    refine (own_any _ _ ys (g.ext (by repeat (first | exact Ext.refl _ | assumption | refine Ext.alloc ?_ _ | refine Ext.drew ?_ | refine Ext.trans ?_ (by assumption)))) (by omega)).mono ?_
    rintro e W15 ⟨v15, rfl, o, b⟩
    have s_v15 := o.sl
    have x15 : Ext _ W15 := b
    clear o b
    go_wp2_with fail
    refine (setMinus_any _ _ _ xs ys (s_v14.ext (by repeat (first | exact Ext.refl _ | assumption | refine Ext.alloc ?_ _ | refine Ext.drew ?_ | refine Ext.trans ?_ (by assumption)))) (s_v15.ext (by repeat (first | exact Ext.refl _ | assumption | refine Ext.alloc ?_ _ | refine Ext.drew ?_ | refine Ext.trans ?_ (by assumption)))) (by omega) (by omega)).mono ?_
    rintro e W16 ⟨v16, rfl, o, b⟩
    have s_v16 := o.sl
    have x16 : Ext _ W16 := b
    clear o b
    go_wp2_with fail
    refine (setHas_val false _ _ _ x (s_v16.ext (by repeat (first | exact Ext.refl _ | assumption | refine Ext.alloc ?_ _ | refine Ext.drew ?_ | refine Ext.trans ?_ (by assumption)))) (by simp [mem_norm, of_decide HP.out, of_decide HQ.out])).mono ?_
    rintro e w' ⟨rfl, rfl⟩
    go_wp2_with fail
    refine (own_any _ _ xs (h.ext (by repeat (first | exact Ext.refl _ | assumption | refine Ext.alloc ?_ _ | refine Ext.drew ?_ | refine Ext.trans ?_ (by assumption)))) (by omega)).mono ?_
    rintro e W18 ⟨v18, rfl, o, b⟩
    have s_v18 := o.sl
    have x18 : Ext _ W18 := b
    clear o b
    go_wp2_with fail
    refine (setAdd_any _ _ xs x (s_v18.ext (by repeat (first | exact Ext.refl _ | assumption | refine Ext.alloc ?_ _ | refine Ext.drew ?_ | refine Ext.trans ?_ (by assumption)))) (by omega)).mono ?_
    rintro e W19 ⟨v19, rfl, o, b⟩
    have s_v19 := o.sl
    have x19 : Ext _ W19 := b
    clear o b
    go_wp2_with fail
    refine (setHas_val true _ _ _ x (s_v19.ext (by repeat (first | exact Ext.refl _ | assumption | refine Ext.alloc ?_ _ | refine Ext.drew ?_ | refine Ext.trans ?_ (by assumption)))) (by simp [mem_norm])).mono ?_
    rintro e w' ⟨rfl, rfl⟩
    go_wp2_with fail
    refine (own_any _ _ xs (h.ext (by repeat (first | exact Ext.refl _ | assumption | refine Ext.alloc ?_ _ | refine Ext.drew ?_ | refine Ext.trans ?_ (by assumption)))) (by omega)).mono ?_
    rintro e W21 ⟨v21, rfl, o, b⟩
    have s_v21 := o.sl
    have x21 : Ext _ W21 := b
    clear o b
    go_wp2_with fail
    refine (setDel_any _ _ xs x (s_v21.ext (by repeat (first | exact Ext.refl _ | assumption | refine Ext.alloc ?_ _ | refine Ext.drew ?_ | refine Ext.trans ?_ (by assumption)))) (by omega)).mono ?_
    rintro e W22 ⟨v22, rfl, o, b⟩
    have s_v22 := o.sl
    have x22 : Ext _ W22 := b
    clear o b
    go_wp2_with fail
    refine (setHas_val false _ _ _ x (s_v22.ext (by repeat (first | exact Ext.refl _ | assumption | refine Ext.alloc ?_ _ | refine Ext.drew ?_ | refine Ext.trans ?_ (by assumption)))) (by simp [mem_norm])).mono ?_
    rintro e w' ⟨rfl, rfl⟩
    go_wp2_with fail
    go_ret
    exact ⟨rfl, (by repeat (first | exact Ext.refl _ | assumption | refine Ext.alloc ?_ _ | refine Ext.drew ?_ | refine Ext.trans ?_ (by assumption)))⟩
  · have HP := Lib.hid hp
    have HQ := Lib.hid hq
    clear hp hq
    go_enter Try.func5, Try.ntmps5
    go_wp2_with fail
    refine (awake_any _).mono ?_
    rintro e W1 ⟨rfl, b⟩
    have x1 : Ext _ W1 := b
    clear b
    go_wp2_with fail
    refine (own_any _ _ xs (h.ext (by repeat (first | exact Ext.refl _ | assumption | refine Ext.alloc ?_ _ | refine Ext.drew ?_ | refine Ext.trans ?_ (by assumption)))) (by omega)).mono ?_
    rintro e W2 ⟨v2, rfl, o, b⟩
    have s_v2 := o.sl
    have x2 : Ext _ W2 := b
    clear o b
    go_wp2_with fail
    refine (setHas_val true _ _ xs x (s_v2.ext (by repeat (first | exact Ext.refl _ | assumption | refine Ext.alloc ?_ _ | refine Ext.drew ?_ | refine Ext.trans ?_ (by assumption)))) HP.out).mono ?_
    rintro e w' ⟨rfl, rfl⟩
    go_wp2_with fail
    refine (own_any _ _ ys (g.ext (by repeat (first | exact Ext.refl _ | assumption | refine Ext.alloc ?_ _ | refine Ext.drew ?_ | refine Ext.trans ?_ (by assumption)))) (by omega)).mono ?_
    rintro e W4 ⟨v4, rfl, o, b⟩
    have s_v4 := o.sl
    have x4 : Ext _ W4 := b
    clear o b
    go_wp2_with fail
    refine (setHas_val false _ _ ys x (s_v4.ext (by repeat (first | exact Ext.refl _ | assumption | refine Ext.alloc ?_ _ | refine Ext.drew ?_ | refine Ext.trans ?_ (by assumption)))) HQ.out).mono ?_
    rintro e w' ⟨rfl, rfl⟩
    go_wp2_with fail
    refine (own_any _ _ xs (h.ext (by repeat (first | exact Ext.refl _ | assumption | refine Ext.alloc ?_ _ | refine Ext.drew ?_ | refine Ext.trans ?_ (by assumption)))) (by omega)).mono ?_
    rintro e W6 ⟨v6, rfl, o, b⟩
    have s_v6 := o.sl
    have x6 : Ext _ W6 := b
    clear o b
    go_wp2_with fail
    refine (own_any _ _ ys (g.ext (by repeat (first | exact Ext.refl _ | assumption | refine Ext.alloc ?_ _ | refine Ext.drew ?_ | refine Ext.trans ?_ (by assumption)))) (by omega)).mono ?_
    rintro e W7 ⟨v7, rfl, o, b⟩
    have s_v7 := o.sl
    have x7 : Ext _ W7 := b
    clear o b
    go_wp2_with fail
    refine (setUnion_any _ _ _ xs ys (s_v6.ext (by repeat (first | exact Ext.refl _ | assumption | refine Ext.alloc ?_ _ | refine Ext.drew ?_ | refine Ext.trans ?_ (by assumption)))) (s_v7.ext (by repeat (first | exact Ext.refl _ | assumption | refine Ext.alloc ?_ _ | refine Ext.drew ?_ | refine Ext.trans ?_ (by assumption)))) (by omega)).mono ?_
    rintro e W8 ⟨v8, rfl, o, b⟩
    have s_v8 := o.sl
    have x8 : Ext _ W8 := b
    clear o b
    go_wp2_with fail
    refine (setHas_val true _ _ _ x (s_v8.ext (by repeat (first | exact Ext.refl _ | assumption | refine Ext.alloc ?_ _ | refine Ext.drew ?_ | refine Ext.trans ?_ (by assumption)))) (by simp [mem_norm, of_decide HP.out, of_decide HQ.out])).mono ?_
    rintro e w' ⟨rfl, rfl⟩
    go_wp2_with fail
    refine (own_any _ _ xs (h.ext (by repeat (first | exact Ext.refl _ | assumption | refine Ext.alloc ?_ _ | refine Ext.drew ?_ | refine Ext.trans ?_ (by assumption)))) (by omega)).mono ?_
    rintro e W10 ⟨v10, rfl, o, b⟩
    have s_v10 := o.sl
    have x10 : Ext _ W10 := b
    clear o b
    go_wp2_with fail
    refine (own_any _ _ ys (g.ext (by repeat (first | exact Ext.refl _ | assumption | refine Ext.alloc ?_ _ | refine Ext.drew ?_ | refine Ext.trans ?_ (by assumption)))) (by omega)).mono ?_
    rintro e W11 ⟨v11, rfl, o, b⟩
    have s_v11 := o.sl
    have x11 : Ext _ W11 := b
    clear o b
    go_wp2_with fail
    refine (setBoth_any _ _ _ xs ys (s_v10.ext (by repeat (first | exact Ext.refl _ | assumption | refine Ext.alloc ?_ _ | refine Ext.drew ?_ | refine Ext.trans ?_ (by assumption)))) (s_v11.ext (by repeat (first | exact Ext.refl _ | assumption | refine Ext.alloc ?_ _ | refine Ext.drew ?_ | refine Ext.trans ?_ (by assumption)))) (by omega) (by omega)).mono ?_
    rintro e W12 ⟨v12, rfl, o, b⟩
    have s_v12 := o.sl
    have x12 : Ext _ W12 := b
    clear o b
    go_wp2_with fail
    refine (setHas_val false _ _ _ x (s_v12.ext (by repeat (first | exact Ext.refl _ | assumption | refine Ext.alloc ?_ _ | refine Ext.drew ?_ | refine Ext.trans ?_ (by assumption)))) (by simp [mem_norm, of_decide HP.out, of_decide HQ.out])).mono ?_
    rintro e w' ⟨rfl, rfl⟩
    go_wp2_with fail
    refine (own_any _ _ xs (h.ext (by repeat (first | exact Ext.refl _ | assumption | refine Ext.alloc ?_ _ | refine Ext.drew ?_ | refine Ext.trans ?_ (by assumption)))) (by omega)).mono ?_
    rintro e W14 ⟨v14, rfl, o, b⟩
    have s_v14 := o.sl
    have x14 : Ext _ W14 := b
    clear o b
    go_wp2_with fail
    refine (own_any _ _ ys (g.ext (by repeat (first | exact Ext.refl _ | assumption | refine Ext.alloc ?_ _ | refine Ext.drew ?_ | refine Ext.trans ?_ (by assumption)))) (by omega)).mono ?_
    rintro e W15 ⟨v15, rfl, o, b⟩
    have s_v15 := o.sl
    have x15 : Ext _ W15 := b
    clear o b
    go_wp2_with fail
    refine (setMinus_any _ _ _ xs ys (s_v14.ext (by repeat (first | exact Ext.refl _ | assumption | refine Ext.alloc ?_ _ | refine Ext.drew ?_ | refine Ext.trans ?_ (by assumption)))) (s_v15.ext (by repeat (first | exact Ext.refl _ | assumption | refine Ext.alloc ?_ _ | refine Ext.drew ?_ | refine Ext.trans ?_ (by assumption)))) (by omega) (by omega)).mono ?_
    rintro e W16 ⟨v16, rfl, o, b⟩
    have s_v16 := o.sl
    have x16 : Ext _ W16 := b
    clear o b
    go_wp2_with fail
    refine (setHas_val true _ _ _ x (s_v16.ext (by repeat (first | exact Ext.refl _ | assumption | refine Ext.alloc ?_ _ | refine Ext.drew ?_ | refine Ext.trans ?_ (by assumption)))) (by simp [mem_norm, of_decide HP.out, of_decide HQ.out])).mono ?_
    rintro e w' ⟨rfl, rfl⟩
    go_wp2_with fail
    refine (own_any _ _ xs (h.ext (by repeat (first | exact Ext.refl _ | assumption | refine Ext.alloc ?_ _ | refine Ext.drew ?_ | refine Ext.trans ?_ (by assumption)))) (by omega)).mono ?_
    rintro e W18 ⟨v18, rfl, o, b⟩
    have s_v18 := o.sl
    have x18 : Ext _ W18 := b
    clear o b
    go_wp2_with fail
    refine (setAdd_any _ _ xs x (s_v18.ext (by repeat (first | exact Ext.refl _ | assumption | refine Ext.alloc ?_ _ | refine Ext.drew ?_ | refine Ext.trans ?_ (by assumption)))) (by omega)).mono ?_
    rintro e W19 ⟨v19, rfl, o, b⟩
    have s_v19 := o.sl
    have x19 : Ext _ W19 := b
    clear o b
    go_wp2_with fail
    refine (setHas_val true _ _ _ x (s_v19.ext (by repeat (first | exact Ext.refl _ | assumption | refine Ext.alloc ?_ _ | refine Ext.drew ?_ | refine Ext.trans ?_ (by assumption)))) (by simp [mem_norm])).mono ?_
    rintro e w' ⟨rfl, rfl⟩
    go_wp2_with fail
    refine (own_any _ _ xs (h.ext (by repeat (first | exact Ext.refl _ | assumption | refine Ext.alloc ?_ _ | refine Ext.drew ?_ | refine Ext.trans ?_ (by assumption)))) (by omega)).mono ?_
    rintro e W21 ⟨v21, rfl, o, b⟩
    have s_v21 := o.sl
    have x21 : Ext _ W21 := b
    clear o b
    go_wp2_with fail
    refine (setDel_any _ _ xs x (s_v21.ext (by repeat (first | exact Ext.refl _ | assumption | refine Ext.alloc ?_ _ | refine Ext.drew ?_ | refine Ext.trans ?_ (by assumption)))) (by omega)).mono ?_
    rintro e W22 ⟨v22, rfl, o, b⟩
    have s_v22 := o.sl
    have x22 : Ext _ W22 := b
    clear o b
    go_wp2_with fail
    refine (setHas_val false _ _ _ x (s_v22.ext (by repeat (first | exact Ext.refl _ | assumption | refine Ext.alloc ?_ _ | refine Ext.drew ?_ | refine Ext.trans ?_ (by assumption)))) (by simp [mem_norm])).mono ?_
    rintro e w' ⟨rfl, rfl⟩
    go_wp2_with fail
    go_ret
    exact ⟨rfl, (by repeat (first | exact Ext.refl _ | assumption | refine Ext.alloc ?_ _ | refine Ext.drew ?_ | refine Ext.trans ?_ (by assumption)))⟩
  · have HP := Lib.hid hp
    have HQ := Lib.hid hq
    clear hp hq
    go_enter Try.func5, Try.ntmps5
    go_wp2_with fail
    refine (awake_any _).mono ?_
    rintro e W1 ⟨rfl, b⟩
    have x1 : Ext _ W1 := b
    clear b
    go_wp2_with fail
    refine (own_any _ _ xs (h.ext (by repeat (first | exact Ext.refl _ | assumption | refine Ext.alloc ?_ _ | refine Ext.drew ?_ | refine Ext.trans ?_ (by assumption)))) (by omega)).mono ?_
    rintro e W2 ⟨v2, rfl, o, b⟩
    have s_v2 := o.sl
    have x2 : Ext _ W2 := b
    clear o b
    go_wp2_with fail
    refine (setHas_val true _ _ xs x (s_v2.ext (by repeat (first | exact Ext.refl _ | assumption | refine Ext.alloc ?_ _ | refine Ext.drew ?_ | refine Ext.trans ?_ (by assumption)))) HP.out).mono ?_
    rintro e w' ⟨rfl, rfl⟩
    go_wp2_with fail
    refine (own_any _ _ ys (g.ext (by repeat (first | exact Ext.refl _ | assumption | refine Ext.alloc ?_ _ | refine Ext.drew ?_ | refine Ext.trans ?_ (by assumption)))) (by omega)).mono ?_
    rintro e W4 ⟨v4, rfl, o, b⟩
    have s_v4 := o.sl
    have x4 : Ext _ W4 := b
    clear o b
    go_wp2_with fail
    refine (setHas_val true _ _ ys x (s_v4.ext (by repeat (first | exact Ext.refl _ | assumption | refine Ext.alloc ?_ _ | refine Ext.drew ?_ | refine Ext.trans ?_ (by assumption)))) HQ.out).mono ?_
    rintro e w' ⟨rfl, rfl⟩
    go_wp2_with fail
    refine (own_any _ _ xs (h.ext (by repeat (first | exact Ext.refl _ | assumption | refine Ext.alloc ?_ _ | refine Ext.drew ?_ | refine Ext.trans ?_ (by assumption)))) (by omega)).mono ?_
    rintro e W6 ⟨v6, rfl, o, b⟩
    have s_v6 := o.sl
    have x6 : Ext _ W6 := b
    clear o b
    go_wp2_with fail
    refine (own_any _ _ ys (g.ext (by repeat (first | exact Ext.refl _ | assumption | refine Ext.alloc ?_ _ | refine Ext.drew ?_ | refine Ext.trans ?_ (by assumption)))) (by omega)).mono ?_
    rintro e W7 ⟨v7, rfl, o, b⟩
    have s_v7 := o.sl
    have x7 : Ext _ W7 := b
    clear o b
    go_wp2_with fail
    refine (setUnion_any _ _ _ xs ys (s_v6.ext (by repeat (first | exact Ext.refl _ | assumption | refine Ext.alloc ?_ _ | refine Ext.drew ?_ | refine Ext.trans ?_ (by assumption)))) (s_v7.ext (by repeat (first | exact Ext.refl _ | assumption | refine Ext.alloc ?_ _ | refine Ext.drew ?_ | refine Ext.trans ?_ (by assumption)))) (by omega)).mono ?_
    rintro e W8 ⟨v8, rfl, o, b⟩
    have s_v8 := o.sl
    have x8 : Ext _ W8 := b
    clear o b
    go_wp2_with fail
    refine (setHas_val true _ _ _ x (s_v8.ext (by repeat (first | exact Ext.refl _ | assumption | refine Ext.alloc ?_ _ | refine Ext.drew ?_ | refine Ext.trans ?_ (by assumption)))) (by simp [mem_norm, of_decide HP.out, of_decide HQ.out])).mono ?_
    rintro e w' ⟨rfl, rfl⟩
    go_wp2_with fail
    refine (own_any _ _ xs (h.ext (by repeat (first | exact Ext.refl _ | assumption | refine Ext.alloc ?_ _ | refine Ext.drew ?_ | refine Ext.trans ?_ (by assumption)))) (by omega)).mono ?_
    rintro e W10 ⟨v10, rfl, o, b⟩
    have s_v10 := o.sl
    have x10 : Ext _ W10 := b
    clear o b
    go_wp2_with fail
    refine (own_any _ _ ys (g.ext (by repeat (first | exact Ext.refl _ | assumption | refine Ext.alloc ?_ _ | refine Ext.drew ?_ | refine Ext.trans ?_ (by assumption)))) (by omega)).mono ?_
    rintro e W11 ⟨v11, rfl, o, b⟩
    have s_v11 := o.sl
    have x11 : Ext _ W11 := b
    clear o b
    go_wp2_with fail
    refine (setBoth_any _ _ _ xs ys (s_v10.ext (by repeat (first | exact Ext.refl _ | assumption | refine Ext.alloc ?_ _ | refine Ext.drew ?_ | refine Ext.trans ?_ (by assumption)))) (s_v11.ext (by repeat (first | exact Ext.refl _ | assumption | refine Ext.alloc ?_ _ | refine Ext.drew ?_ | refine Ext.trans ?_ (by assumption)))) (by omega) (by omega)).mono ?_
    rintro e W12 ⟨v12, rfl, o, b⟩
    have s_v12 := o.sl
    have x12 : Ext _ W12 := b
    clear o b
    go_wp2_with fail
    refine (setHas_val true _ _ _ x (s_v12.ext (by repeat (first | exact Ext.refl _ | assumption | refine Ext.alloc ?_ _ | refine Ext.drew ?_ | refine Ext.trans ?_ (by assumption)))) (by simp [mem_norm, of_decide HP.out, of_decide HQ.out])).mono ?_
    rintro e w' ⟨rfl, rfl⟩
    go_wp2_with fail
    refine (own_any _ _ xs (h.ext (by repeat (first | exact Ext.refl _ | assumption | refine Ext.alloc ?_ _ | refine Ext.drew ?_ | refine Ext.trans ?_ (by assumption)))) (by omega)).mono ?_
    rintro e W14 ⟨v14, rfl, o, b⟩
    have s_v14 := o.sl
    have x14 : Ext _ W14 := b
    clear o b
    go_wp2_with fail
    refine (own_any _ _ ys (g.ext (by repeat (first | exact Ext.refl _ | assumption | refine Ext.alloc ?_ _ | refine Ext.drew ?_ | refine Ext.trans ?_ (by assumption)))) (by omega)).mono ?_
    rintro e W15 ⟨v15, rfl, o, b⟩
    have s_v15 := o.sl
    have x15 : Ext _ W15 := b
    clear o b
    go_wp2_with fail
    refine (setMinus_any _ _ _ xs ys (s_v14.ext (by repeat (first | exact Ext.refl _ | assumption | refine Ext.alloc ?_ _ | refine Ext.drew ?_ | refine Ext.trans ?_ (by assumption)))) (s_v15.ext (by repeat (first | exact Ext.refl _ | assumption | refine Ext.alloc ?_ _ | refine Ext.drew ?_ | refine Ext.trans ?_ (by assumption)))) (by omega) (by omega)).mono ?_
    rintro e W16 ⟨v16, rfl, o, b⟩
    have s_v16 := o.sl
    have x16 : Ext _ W16 := b
    clear o b
    go_wp2_with fail
    refine (setHas_val false _ _ _ x (s_v16.ext (by repeat (first | exact Ext.refl _ | assumption | refine Ext.alloc ?_ _ | refine Ext.drew ?_ | refine Ext.trans ?_ (by assumption)))) (by simp [mem_norm, of_decide HP.out, of_decide HQ.out])).mono ?_
    rintro e w' ⟨rfl, rfl⟩
    go_wp2_with fail
    refine (own_any _ _ xs (h.ext (by repeat (first | exact Ext.refl _ | assumption | refine Ext.alloc ?_ _ | refine Ext.drew ?_ | refine Ext.trans ?_ (by assumption)))) (by omega)).mono ?_
    rintro e W18 ⟨v18, rfl, o, b⟩
    have s_v18 := o.sl
    have x18 : Ext _ W18 := b
    clear o b
    go_wp2_with fail
    refine (setAdd_any _ _ xs x (s_v18.ext (by repeat (first | exact Ext.refl _ | assumption | refine Ext.alloc ?_ _ | refine Ext.drew ?_ | refine Ext.trans ?_ (by assumption)))) (by omega)).mono ?_
    rintro e W19 ⟨v19, rfl, o, b⟩
    have s_v19 := o.sl
    have x19 : Ext _ W19 := b
    clear o b
    go_wp2_with fail
    refine (setHas_val true _ _ _ x (s_v19.ext (by repeat (first | exact Ext.refl _ | assumption | refine Ext.alloc ?_ _ | refine Ext.drew ?_ | refine Ext.trans ?_ (by assumption)))) (by simp [mem_norm])).mono ?_
    rintro e w' ⟨rfl, rfl⟩
    go_wp2_with fail
    refine (own_any _ _ xs (h.ext (by repeat (first | exact Ext.refl _ | assumption | refine Ext.alloc ?_ _ | refine Ext.drew ?_ | refine Ext.trans ?_ (by assumption)))) (by omega)).mono ?_
    rintro e W21 ⟨v21, rfl, o, b⟩
    have s_v21 := o.sl
    have x21 : Ext _ W21 := b
    clear o b
    go_wp2_with fail
    refine (setDel_any _ _ xs x (s_v21.ext (by repeat (first | exact Ext.refl _ | assumption | refine Ext.alloc ?_ _ | refine Ext.drew ?_ | refine Ext.trans ?_ (by assumption)))) (by omega)).mono ?_
    rintro e W22 ⟨v22, rfl, o, b⟩
    have s_v22 := o.sl
    have x22 : Ext _ W22 := b
    clear o b
    go_wp2_with fail
    refine (setHas_val false _ _ _ x (s_v22.ext (by repeat (first | exact Ext.refl _ | assumption | refine Ext.alloc ?_ _ | refine Ext.drew ?_ | refine Ext.trans ?_ (by assumption)))) (by simp [mem_norm])).mono ?_
    rintro e w' ⟨rfl, rfl⟩
    go_wp2_with fail
    go_ret
    exact ⟨rfl, (by repeat (first | exact Ext.refl _ | assumption | refine Ext.alloc ?_ _ | refine Ext.drew ?_ | refine Ext.trans ?_ (by assumption)))⟩

set_option maxHeartbeats 1000000 in
theorem setStays_long (w : World) (ao : Option Addr) (c : Nat) (ao' : Option Addr) (c' : Nat) (xs : List Int) (ys : List Int) (x : Int) (h : Sl w (.slice ao xs.length c) xs) (g : Sl w (.slice ao' ys.length c') ys) (hl : 60 < xs.length ∨ 60 < ys.length) : Calls Try.prog 6 #[.slice ao xs.length c, .slice ao' ys.length c', .int .i64 x] w (GivesB w (.bool true)) := by
  have n1 := h.length_le
  have n2 := g.length_le
  clear h g
  by_cases hx : 60 < xs.length
  all_goals
    have hy : 60 < xs.length ∨ 60 < ys.length := hl
    have HL := Lib.hid hy
    clear hl hy
    try (have hy2 : 60 < ys.length := (by rcases HL.out with h | h; exact absurd h hx; exact h))
    go_enter Try.func6, Try.ntmps6
    go_wp2_with fail
    refine (awake_any _).mono ?_
    rintro e W1 ⟨rfl, b⟩
    have x1 : Ext _ W1 := b
    clear b
    go_wp2_with fail
    refine (awake_any _).mono ?_
    rintro e W2 ⟨rfl, b⟩
    have x2 : Ext _ W2 := b
    clear b
    go_wp2_with fail
    go_ret
    exact ⟨rfl, (by repeat (first | exact Ext.refl _ | assumption | refine Ext.alloc ?_ _ | refine Ext.drew ?_ | refine Ext.trans ?_ (by assumption)))⟩

set_option maxHeartbeats 8000000 in
theorem setStays_short (w : World) (ao : Option Addr) (c : Nat) (ao' : Option Addr) (c' : Nat) (xs : List Int) (ys : List Int) (x : Int) (h : Sl w (.slice ao xs.length c) xs) (g : Sl w (.slice ao' ys.length c') ys) (hl : xs.length ≤ 60) (hl' : ys.length ≤ 60) : Calls Try.prog 6 #[.slice ao xs.length c, .slice ao' ys.length c', .int .i64 x] w (GivesB w (.bool true)) := by
  go_enter Try.func6, Try.ntmps6
  go_wp2_with fail
  refine (awake_any _).mono ?_
  rintro e W1 ⟨rfl, b⟩
  have x1 : Ext _ W1 := b
  clear b
  go_wp2_with fail
  refine (own_any _ _ xs (h.ext (by repeat (first | exact Ext.refl _ | assumption | refine Ext.alloc ?_ _ | refine Ext.drew ?_ | refine Ext.trans ?_ (by assumption)))) (by omega)).mono ?_
  rintro e W2 ⟨v2, rfl, o, b⟩
  have s_v2 := o.sl
  have x2 : Ext _ W2 := b
  clear o b
  go_wp2_with fail
  refine (setOf_any _ _ xs (s_v2.ext (by repeat (first | exact Ext.refl _ | assumption | refine Ext.alloc ?_ _ | refine Ext.drew ?_ | refine Ext.trans ?_ (by assumption)))) (by omega)).mono ?_
  rintro e W3 ⟨v3, rfl, o, b⟩
  have s_v3 := o.sl
  have x3 : Ext _ W3 := b
  clear o b
  go_wp2_with fail
  refine (setValid_val true _ _ _ (s_v3.ext (by repeat (first | exact Ext.refl _ | assumption | refine Ext.alloc ?_ _ | refine Ext.drew ?_ | refine Ext.trans ?_ (by assumption)))) (decide_eq_true (norm_SS _))).mono ?_
  rintro e W4 ⟨rfl, d⟩
  have x4 : Ext _ W4 := Ext.of_drew d
  clear d
  go_wp2_with fail
  refine (own_any _ _ xs (h.ext (by repeat (first | exact Ext.refl _ | assumption | refine Ext.alloc ?_ _ | refine Ext.drew ?_ | refine Ext.trans ?_ (by assumption)))) (by omega)).mono ?_
  rintro e W5 ⟨v5, rfl, o, b⟩
  have s_v5 := o.sl
  have x5 : Ext _ W5 := b
  clear o b
  go_wp2_with fail
  refine (own_any _ _ ys (g.ext (by repeat (first | exact Ext.refl _ | assumption | refine Ext.alloc ?_ _ | refine Ext.drew ?_ | refine Ext.trans ?_ (by assumption)))) (by omega)).mono ?_
  rintro e W6 ⟨v6, rfl, o, b⟩
  have s_v6 := o.sl
  have x6 : Ext _ W6 := b
  clear o b
  go_wp2_with fail
  refine (setUnion_any _ _ _ xs ys (s_v5.ext (by repeat (first | exact Ext.refl _ | assumption | refine Ext.alloc ?_ _ | refine Ext.drew ?_ | refine Ext.trans ?_ (by assumption)))) (s_v6.ext (by repeat (first | exact Ext.refl _ | assumption | refine Ext.alloc ?_ _ | refine Ext.drew ?_ | refine Ext.trans ?_ (by assumption)))) (by omega)).mono ?_
  rintro e W7 ⟨v7, rfl, o, b⟩
  have s_v7 := o.sl
  have x7 : Ext _ W7 := b
  clear o b
  go_wp2_with fail
  refine (setValid_val true _ _ _ (s_v7.ext (by repeat (first | exact Ext.refl _ | assumption | refine Ext.alloc ?_ _ | refine Ext.drew ?_ | refine Ext.trans ?_ (by assumption)))) (decide_eq_true (norm_SS _))).mono ?_
  rintro e W8 ⟨rfl, d⟩
  have x8 : Ext _ W8 := Ext.of_drew d
  clear d
  go_wp2_with fail
  refine (own_any _ _ xs (h.ext (by repeat (first | exact Ext.refl _ | assumption | refine Ext.alloc ?_ _ | refine Ext.drew ?_ | refine Ext.trans ?_ (by assumption)))) (by omega)).mono ?_
  rintro e W9 ⟨v9, rfl, o, b⟩
  have s_v9 := o.sl
  have x9 : Ext _ W9 := b
  clear o b
  go_wp2_with fail
  refine (own_any _ _ ys (g.ext (by repeat (first | exact Ext.refl _ | assumption | refine Ext.alloc ?_ _ | refine Ext.drew ?_ | refine Ext.trans ?_ (by assumption)))) (by omega)).mono ?_
  rintro e W10 ⟨v10, rfl, o, b⟩
  have s_v10 := o.sl
  have x10 : Ext _ W10 := b
  clear o b
  go_wp2_with fail
  refine (setBoth_any _ _ _ xs ys (s_v9.ext (by repeat (first | exact Ext.refl _ | assumption | refine Ext.alloc ?_ _ | refine Ext.drew ?_ | refine Ext.trans ?_ (by assumption)))) (s_v10.ext (by repeat (first | exact Ext.refl _ | assumption | refine Ext.alloc ?_ _ | refine Ext.drew ?_ | refine Ext.trans ?_ (by assumption)))) (by omega) (by omega)).mono ?_
  rintro e W11 ⟨v11, rfl, o, b⟩
  have s_v11 := o.sl
  have x11 : Ext _ W11 := b
  clear o b
  go_wp2_with fail
  refine (setValid_val true _ _ _ (s_v11.ext (by repeat (first | exact Ext.refl _ | assumption | refine Ext.alloc ?_ _ | refine Ext.drew ?_ | refine Ext.trans ?_ (by assumption)))) (decide_eq_true (norm_SS _))).mono ?_
  rintro e W12 ⟨rfl, d⟩
  have x12 : Ext _ W12 := Ext.of_drew d
  clear d
  go_wp2_with fail
  refine (own_any _ _ xs (h.ext (by repeat (first | exact Ext.refl _ | assumption | refine Ext.alloc ?_ _ | refine Ext.drew ?_ | refine Ext.trans ?_ (by assumption)))) (by omega)).mono ?_
  rintro e W13 ⟨v13, rfl, o, b⟩
  have s_v13 := o.sl
  have x13 : Ext _ W13 := b
  clear o b
  go_wp2_with fail
  refine (own_any _ _ ys (g.ext (by repeat (first | exact Ext.refl _ | assumption | refine Ext.alloc ?_ _ | refine Ext.drew ?_ | refine Ext.trans ?_ (by assumption)))) (by omega)).mono ?_
  rintro e W14 ⟨v14, rfl, o, b⟩
  have s_v14 := o.sl
  have x14 : Ext _ W14 := b
  clear o b
  go_wp2_with fail
  refine (setMinus_any _ _ _ xs ys (s_v13.ext (by repeat (first | exact Ext.refl _ | assumption | refine Ext.alloc ?_ _ | refine Ext.drew ?_ | refine Ext.trans ?_ (by assumption)))) (s_v14.ext (by repeat (first | exact Ext.refl _ | assumption | refine Ext.alloc ?_ _ | refine Ext.drew ?_ | refine Ext.trans ?_ (by assumption)))) (by omega) (by omega)).mono ?_
  rintro e W15 ⟨v15, rfl, o, b⟩
  have s_v15 := o.sl
  have x15 : Ext _ W15 := b
  clear o b
  go_wp2_with fail
  refine (setValid_val true _ _ _ (s_v15.ext (by repeat (first | exact Ext.refl _ | assumption | refine Ext.alloc ?_ _ | refine Ext.drew ?_ | refine Ext.trans ?_ (by assumption)))) (decide_eq_true (norm_SS _))).mono ?_
  rintro e W16 ⟨rfl, d⟩
  have x16 : Ext _ W16 := Ext.of_drew d
  clear d
  go_wp2_with fail
  refine (own_any _ _ xs (h.ext (by repeat (first | exact Ext.refl _ | assumption | refine Ext.alloc ?_ _ | refine Ext.drew ?_ | refine Ext.trans ?_ (by assumption)))) (by omega)).mono ?_
  rintro e W17 ⟨v17, rfl, o, b⟩
  have s_v17 := o.sl
  have x17 : Ext _ W17 := b
  clear o b
  go_wp2_with fail
  refine (setAdd_any _ _ xs x (s_v17.ext (by repeat (first | exact Ext.refl _ | assumption | refine Ext.alloc ?_ _ | refine Ext.drew ?_ | refine Ext.trans ?_ (by assumption)))) (by omega)).mono ?_
  rintro e W18 ⟨v18, rfl, o, b⟩
  have s_v18 := o.sl
  have x18 : Ext _ W18 := b
  clear o b
  go_wp2_with fail
  refine (setValid_val true _ _ _ (s_v18.ext (by repeat (first | exact Ext.refl _ | assumption | refine Ext.alloc ?_ _ | refine Ext.drew ?_ | refine Ext.trans ?_ (by assumption)))) (decide_eq_true (norm_SS _))).mono ?_
  rintro e W19 ⟨rfl, d⟩
  have x19 : Ext _ W19 := Ext.of_drew d
  clear d
  go_wp2_with fail
  refine (own_any _ _ xs (h.ext (by repeat (first | exact Ext.refl _ | assumption | refine Ext.alloc ?_ _ | refine Ext.drew ?_ | refine Ext.trans ?_ (by assumption)))) (by omega)).mono ?_
  rintro e W20 ⟨v20, rfl, o, b⟩
  have s_v20 := o.sl
  have x20 : Ext _ W20 := b
  clear o b
  go_wp2_with fail
  refine (setDel_any _ _ xs x (s_v20.ext (by repeat (first | exact Ext.refl _ | assumption | refine Ext.alloc ?_ _ | refine Ext.drew ?_ | refine Ext.trans ?_ (by assumption)))) (by omega)).mono ?_
  rintro e W21 ⟨v21, rfl, o, b⟩
  have s_v21 := o.sl
  have x21 : Ext _ W21 := b
  clear o b
  go_wp2_with fail
  refine (setValid_val true _ _ _ (s_v21.ext (by repeat (first | exact Ext.refl _ | assumption | refine Ext.alloc ?_ _ | refine Ext.drew ?_ | refine Ext.trans ?_ (by assumption)))) (decide_eq_true (norm_SS _))).mono ?_
  rintro e W22 ⟨rfl, d⟩
  have x22 : Ext _ W22 := Ext.of_drew d
  clear d
  go_wp2_with fail
  go_ret
  exact ⟨rfl, (by repeat (first | exact Ext.refl _ | assumption | refine Ext.alloc ?_ _ | refine Ext.drew ?_ | refine Ext.trans ?_ (by assumption)))⟩

set_option maxHeartbeats 1000000 in
theorem setSame_long (w : World) (ao : Option Addr) (c : Nat) (ao' : Option Addr) (c' : Nat) (xs : List Int) (ys : List Int) (h : Sl w (.slice ao xs.length c) xs) (g : Sl w (.slice ao' ys.length c') ys) (hl : 60 < xs.length ∨ 60 < ys.length) : Calls Try.prog 7 #[.slice ao xs.length c, .slice ao' ys.length c'] w (GivesB w (.bool true)) := by
  have n1 := h.length_le
  have n2 := g.length_le
  clear h g
  by_cases hx : 60 < xs.length
  all_goals
    have hy : 60 < xs.length ∨ 60 < ys.length := hl
    have HL := Lib.hid hy
    clear hl hy
    try (have hy2 : 60 < ys.length := (by rcases HL.out with h | h; exact absurd h hx; exact h))
    go_enter Try.func7, Try.ntmps7
    go_wp2_with fail
    refine (awake_any _).mono ?_
    rintro e W1 ⟨rfl, b⟩
    have x1 : Ext _ W1 := b
    clear b
    go_wp2_with fail
    refine (awake_any _).mono ?_
    rintro e W2 ⟨rfl, b⟩
    have x2 : Ext _ W2 := b
    clear b
    go_wp2_with fail
    go_ret
    exact ⟨rfl, (by repeat (first | exact Ext.refl _ | assumption | refine Ext.alloc ?_ _ | refine Ext.drew ?_ | refine Ext.trans ?_ (by assumption)))⟩

set_option maxHeartbeats 8000000 in
theorem setSame_short (w : World) (ao : Option Addr) (c : Nat) (ao' : Option Addr) (c' : Nat) (xs : List Int) (ys : List Int) (h : Sl w (.slice ao xs.length c) xs) (g : Sl w (.slice ao' ys.length c') ys) (hl : xs.length ≤ 60) (hl' : ys.length ≤ 60) : Calls Try.prog 7 #[.slice ao xs.length c, .slice ao' ys.length c'] w (GivesB w (.bool true)) := by
  rcases hp : (xs.all fun x => decide (x ∈ ys)) with _ | _ <;> rcases hq : (ys.all fun x => decide (x ∈ xs)) with _ | _
  · have HP := Lib.hid hp
    have HQ := Lib.hid hq
    clear hp hq
    go_enter Try.func7, Try.ntmps7
    go_wp2_with fail
    refine (awake_any _).mono ?_
    rintro e W1 ⟨rfl, b⟩
    have x1 : Ext _ W1 := b
    clear b
    go_wp2_with fail
    refine (own_any _ _ xs (h.ext (by repeat (first | exact Ext.refl _ | assumption | refine Ext.alloc ?_ _ | refine Ext.drew ?_ | refine Ext.trans ?_ (by assumption)))) (by omega)).mono ?_
    rintro e W2 ⟨v2, rfl, o, b⟩
    have s_v2 := o.sl
    have x2 : Ext _ W2 := b
    clear o b
    go_wp2_with fail
    refine (own_any _ _ ys (g.ext (by repeat (first | exact Ext.refl _ | assumption | refine Ext.alloc ?_ _ | refine Ext.drew ?_ | refine Ext.trans ?_ (by assumption)))) (by omega)).mono ?_
    rintro e W3 ⟨v3, rfl, o, b⟩
    have s_v3 := o.sl
    have x3 : Ext _ W3 := b
    clear o b
    go_wp2_with fail
    refine (setWithin_val false _ _ _ xs ys (s_v2.ext (by repeat (first | exact Ext.refl _ | assumption | refine Ext.alloc ?_ _ | refine Ext.drew ?_ | refine Ext.trans ?_ (by assumption)))) (s_v3.ext (by repeat (first | exact Ext.refl _ | assumption | refine Ext.alloc ?_ _ | refine Ext.drew ?_ | refine Ext.trans ?_ (by assumption)))) (by omega) HP.out).mono ?_
    rintro e W4 ⟨rfl, b⟩
    have x4 : Ext _ W4 := b
    clear b
    go_wp2_with fail
    refine (own_any _ _ xs (h.ext (by repeat (first | exact Ext.refl _ | assumption | refine Ext.alloc ?_ _ | refine Ext.drew ?_ | refine Ext.trans ?_ (by assumption)))) (by omega)).mono ?_
    rintro e W5 ⟨v5, rfl, o, b⟩
    have s_v5 := o.sl
    have x5 : Ext _ W5 := b
    clear o b
    go_wp2_with fail
    refine (setOf_any _ _ xs (s_v5.ext (by repeat (first | exact Ext.refl _ | assumption | refine Ext.alloc ?_ _ | refine Ext.drew ?_ | refine Ext.trans ?_ (by assumption)))) (by omega)).mono ?_
    rintro e W6 ⟨v6, rfl, o, b⟩
    have s_v6 := o.sl
    have x6 : Ext _ W6 := b
    clear o b
    go_wp2_with fail
    refine (own_any _ _ ys (g.ext (by repeat (first | exact Ext.refl _ | assumption | refine Ext.alloc ?_ _ | refine Ext.drew ?_ | refine Ext.trans ?_ (by assumption)))) (by omega)).mono ?_
    rintro e W7 ⟨v7, rfl, o, b⟩
    have s_v7 := o.sl
    have x7 : Ext _ W7 := b
    clear o b
    go_wp2_with fail
    refine (setOf_any _ _ ys (s_v7.ext (by repeat (first | exact Ext.refl _ | assumption | refine Ext.alloc ?_ _ | refine Ext.drew ?_ | refine Ext.trans ?_ (by assumption)))) (by omega)).mono ?_
    rintro e W8 ⟨v8, rfl, o, b⟩
    have s_v8 := o.sl
    have x8 : Ext _ W8 := b
    clear o b
    go_wp2_with fail
    refine (refSame_val false _ _ _ _ _ (s_v6.ext (by repeat (first | exact Ext.refl _ | assumption | refine Ext.alloc ?_ _ | refine Ext.drew ?_ | refine Ext.trans ?_ (by assumption)))) (s_v8.ext (by repeat (first | exact Ext.refl _ | assumption | refine Ext.alloc ?_ _ | refine Ext.drew ?_ | refine Ext.trans ?_ (by assumption)))) (same_sets rfl HP.out HQ.out)).mono ?_
    rintro e W9 ⟨rfl, d⟩
    have x9 : Ext _ W9 := Ext.of_drew d
    clear d
    go_wp2_with fail
    refine (own_any _ _ xs (h.ext (by repeat (first | exact Ext.refl _ | assumption | refine Ext.alloc ?_ _ | refine Ext.drew ?_ | refine Ext.trans ?_ (by assumption)))) (by omega)).mono ?_
    rintro e W10 ⟨v10, rfl, o, b⟩
    have s_v10 := o.sl
    have x10 : Ext _ W10 := b
    clear o b
    go_wp2_with fail
    refine (own_any _ _ ys (g.ext (by repeat (first | exact Ext.refl _ | assumption | refine Ext.alloc ?_ _ | refine Ext.drew ?_ | refine Ext.trans ?_ (by assumption)))) (by omega)).mono ?_
    rintro e W11 ⟨v11, rfl, o, b⟩
    have s_v11 := o.sl
    have x11 : Ext _ W11 := b
    clear o b
    go_wp2_with fail
    refine (setUnion_any _ _ _ xs ys (s_v10.ext (by repeat (first | exact Ext.refl _ | assumption | refine Ext.alloc ?_ _ | refine Ext.drew ?_ | refine Ext.trans ?_ (by assumption)))) (s_v11.ext (by repeat (first | exact Ext.refl _ | assumption | refine Ext.alloc ?_ _ | refine Ext.drew ?_ | refine Ext.trans ?_ (by assumption)))) (by omega)).mono ?_
    rintro e W12 ⟨v12, rfl, o, b⟩
    have s_v12 := o.sl
    have x12 : Ext _ W12 := b
    clear o b
    go_wp2_with fail
    refine (own_any _ _ ys (g.ext (by repeat (first | exact Ext.refl _ | assumption | refine Ext.alloc ?_ _ | refine Ext.drew ?_ | refine Ext.trans ?_ (by assumption)))) (by omega)).mono ?_
    rintro e W13 ⟨v13, rfl, o, b⟩
    have s_v13 := o.sl
    have x13 : Ext _ W13 := b
    clear o b
    go_wp2_with fail
    refine (own_any _ _ xs (h.ext (by repeat (first | exact Ext.refl _ | assumption | refine Ext.alloc ?_ _ | refine Ext.drew ?_ | refine Ext.trans ?_ (by assumption)))) (by omega)).mono ?_
    rintro e W14 ⟨v14, rfl, o, b⟩
    have s_v14 := o.sl
    have x14 : Ext _ W14 := b
    clear o b
    go_wp2_with fail
    refine (setUnion_any _ _ _ ys xs (s_v13.ext (by repeat (first | exact Ext.refl _ | assumption | refine Ext.alloc ?_ _ | refine Ext.drew ?_ | refine Ext.trans ?_ (by assumption)))) (s_v14.ext (by repeat (first | exact Ext.refl _ | assumption | refine Ext.alloc ?_ _ | refine Ext.drew ?_ | refine Ext.trans ?_ (by assumption)))) (by omega)).mono ?_
    rintro e W15 ⟨v15, rfl, o, b⟩
    have s_v15 := o.sl
    have x15 : Ext _ W15 := b
    clear o b
    go_wp2_with fail
    refine (refSame_val true _ _ _ _ _ (s_v12.ext (by repeat (first | exact Ext.refl _ | assumption | refine Ext.alloc ?_ _ | refine Ext.drew ?_ | refine Ext.trans ?_ (by assumption)))) (s_v15.ext (by repeat (first | exact Ext.refl _ | assumption | refine Ext.alloc ?_ _ | refine Ext.drew ?_ | refine Ext.trans ?_ (by assumption)))) (decide_eq_true (norm_congr fun z => by simp [or_comm]))).mono ?_
    rintro e W16 ⟨rfl, d⟩
    have x16 : Ext _ W16 := Ext.of_drew d
    clear d
    go_wp2_with fail
    refine (own_any _ _ xs (h.ext (by repeat (first | exact Ext.refl _ | assumption | refine Ext.alloc ?_ _ | refine Ext.drew ?_ | refine Ext.trans ?_ (by assumption)))) (by omega)).mono ?_
    rintro e W17 ⟨v17, rfl, o, b⟩
    have s_v17 := o.sl
    have x17 : Ext _ W17 := b
    clear o b
    go_wp2_with fail
    refine (own_any _ _ ys (g.ext (by repeat (first | exact Ext.refl _ | assumption | refine Ext.alloc ?_ _ | refine Ext.drew ?_ | refine Ext.trans ?_ (by assumption)))) (by omega)).mono ?_
    rintro e W18 ⟨v18, rfl, o, b⟩
    have s_v18 := o.sl
    have x18 : Ext _ W18 := b
    clear o b
    go_wp2_with fail
    refine (setBoth_any _ _ _ xs ys (s_v17.ext (by repeat (first | exact Ext.refl _ | assumption | refine Ext.alloc ?_ _ | refine Ext.drew ?_ | refine Ext.trans ?_ (by assumption)))) (s_v18.ext (by repeat (first | exact Ext.refl _ | assumption | refine Ext.alloc ?_ _ | refine Ext.drew ?_ | refine Ext.trans ?_ (by assumption)))) (by omega) (by omega)).mono ?_
    rintro e W19 ⟨v19, rfl, o, b⟩
    have s_v19 := o.sl
    have x19 : Ext _ W19 := b
    clear o b
    go_wp2_with fail
    refine (own_any _ _ ys (g.ext (by repeat (first | exact Ext.refl _ | assumption | refine Ext.alloc ?_ _ | refine Ext.drew ?_ | refine Ext.trans ?_ (by assumption)))) (by omega)).mono ?_
    rintro e W20 ⟨v20, rfl, o, b⟩
    have s_v20 := o.sl
    have x20 : Ext _ W20 := b
    clear o b
    go_wp2_with fail
    refine (own_any _ _ xs (h.ext (by repeat (first | exact Ext.refl _ | assumption | refine Ext.alloc ?_ _ | refine Ext.drew ?_ | refine Ext.trans ?_ (by assumption)))) (by omega)).mono ?_
    rintro e W21 ⟨v21, rfl, o, b⟩
    have s_v21 := o.sl
    have x21 : Ext _ W21 := b
    clear o b
    go_wp2_with fail
    refine (setBoth_any _ _ _ ys xs (s_v20.ext (by repeat (first | exact Ext.refl _ | assumption | refine Ext.alloc ?_ _ | refine Ext.drew ?_ | refine Ext.trans ?_ (by assumption)))) (s_v21.ext (by repeat (first | exact Ext.refl _ | assumption | refine Ext.alloc ?_ _ | refine Ext.drew ?_ | refine Ext.trans ?_ (by assumption)))) (by omega) (by omega)).mono ?_
    rintro e W22 ⟨v22, rfl, o, b⟩
    have s_v22 := o.sl
    have x22 : Ext _ W22 := b
    clear o b
    go_wp2_with fail
    refine (refSame_val true _ _ _ _ _ (s_v19.ext (by repeat (first | exact Ext.refl _ | assumption | refine Ext.alloc ?_ _ | refine Ext.drew ?_ | refine Ext.trans ?_ (by assumption)))) (s_v22.ext (by repeat (first | exact Ext.refl _ | assumption | refine Ext.alloc ?_ _ | refine Ext.drew ?_ | refine Ext.trans ?_ (by assumption)))) (decide_eq_true (norm_congr fun z => by simp [and_comm]))).mono ?_
    rintro e W23 ⟨rfl, d⟩
    have x23 : Ext _ W23 := Ext.of_drew d
    clear d
    go_wp2_with fail
    go_ret
    exact ⟨rfl, (by repeat (first | exact Ext.refl _ | assumption | refine Ext.alloc ?_ _ | refine Ext.drew ?_ | refine Ext.trans ?_ (by assumption)))⟩
  · have HP := Lib.hid hp
    have HQ := Lib.hid hq
    clear hp hq
    go_enter Try.func7, Try.ntmps7
    go_wp2_with fail
    refine (awake_any _).mono ?_
    rintro e W1 ⟨rfl, b⟩
    have x1 : Ext _ W1 := b
    clear b
    go_wp2_with fail
    refine (own_any _ _ xs (h.ext (by repeat (first | exact Ext.refl _ | assumption | refine Ext.alloc ?_ _ | refine Ext.drew ?_ | refine Ext.trans ?_ (by assumption)))) (by omega)).mono ?_
    rintro e W2 ⟨v2, rfl, o, b⟩
    have s_v2 := o.sl
    have x2 : Ext _ W2 := b
    clear o b
    go_wp2_with fail
    refine (own_any _ _ ys (g.ext (by repeat (first | exact Ext.refl _ | assumption | refine Ext.alloc ?_ _ | refine Ext.drew ?_ | refine Ext.trans ?_ (by assumption)))) (by omega)).mono ?_
    rintro e W3 ⟨v3, rfl, o, b⟩
    have s_v3 := o.sl
    have x3 : Ext _ W3 := b
    clear o b
    go_wp2_with fail
    refine (setWithin_val false _ _ _ xs ys (s_v2.ext (by repeat (first | exact Ext.refl _ | assumption | refine Ext.alloc ?_ _ | refine Ext.drew ?_ | refine Ext.trans ?_ (by assumption)))) (s_v3.ext (by repeat (first | exact Ext.refl _ | assumption | refine Ext.alloc ?_ _ | refine Ext.drew ?_ | refine Ext.trans ?_ (by assumption)))) (by omega) HP.out).mono ?_
    rintro e W4 ⟨rfl, b⟩
    have x4 : Ext _ W4 := b
    clear b
    go_wp2_with fail
    refine (own_any _ _ xs (h.ext (by repeat (first | exact Ext.refl _ | assumption | refine Ext.alloc ?_ _ | refine Ext.drew ?_ | refine Ext.trans ?_ (by assumption)))) (by omega)).mono ?_
    rintro e W5 ⟨v5, rfl, o, b⟩
    have s_v5 := o.sl
    have x5 : Ext _ W5 := b
    clear o b
    go_wp2_with fail
    refine (setOf_any _ _ xs (s_v5.ext (by repeat (first | exact Ext.refl _ | assumption | refine Ext.alloc ?_ _ | refine Ext.drew ?_ | refine Ext.trans ?_ (by assumption)))) (by omega)).mono ?_
    rintro e W6 ⟨v6, rfl, o, b⟩
    have s_v6 := o.sl
    have x6 : Ext _ W6 := b
    clear o b
    go_wp2_with fail
    refine (own_any _ _ ys (g.ext (by repeat (first | exact Ext.refl _ | assumption | refine Ext.alloc ?_ _ | refine Ext.drew ?_ | refine Ext.trans ?_ (by assumption)))) (by omega)).mono ?_
    rintro e W7 ⟨v7, rfl, o, b⟩
    have s_v7 := o.sl
    have x7 : Ext _ W7 := b
    clear o b
    go_wp2_with fail
    refine (setOf_any _ _ ys (s_v7.ext (by repeat (first | exact Ext.refl _ | assumption | refine Ext.alloc ?_ _ | refine Ext.drew ?_ | refine Ext.trans ?_ (by assumption)))) (by omega)).mono ?_
    rintro e W8 ⟨v8, rfl, o, b⟩
    have s_v8 := o.sl
    have x8 : Ext _ W8 := b
    clear o b
    go_wp2_with fail
    refine (refSame_val false _ _ _ _ _ (s_v6.ext (by repeat (first | exact Ext.refl _ | assumption | refine Ext.alloc ?_ _ | refine Ext.drew ?_ | refine Ext.trans ?_ (by assumption)))) (s_v8.ext (by repeat (first | exact Ext.refl _ | assumption | refine Ext.alloc ?_ _ | refine Ext.drew ?_ | refine Ext.trans ?_ (by assumption)))) (same_sets rfl HP.out HQ.out)).mono ?_
    rintro e W9 ⟨rfl, d⟩
    have x9 : Ext _ W9 := Ext.of_drew d
    clear d
    go_wp2_with fail
    refine (own_any _ _ xs (h.ext (by repeat (first | exact Ext.refl _ | assumption | refine Ext.alloc ?_ _ | refine Ext.drew ?_ | refine Ext.trans ?_ (by assumption)))) (by omega)).mono ?_
    rintro e W10 ⟨v10, rfl, o, b⟩
    have s_v10 := o.sl
    have x10 : Ext _ W10 := b
    clear o b
    go_wp2_with fail
    refine (own_any _ _ ys (g.ext (by repeat (first | exact Ext.refl _ | assumption | refine Ext.alloc ?_ _ | refine Ext.drew ?_ | refine Ext.trans ?_ (by assumption)))) (by omega)).mono ?_
    rintro e W11 ⟨v11, rfl, o, b⟩
    have s_v11 := o.sl
    have x11 : Ext _ W11 := b
    clear o b
    go_wp2_with fail
    refine (setUnion_any _ _ _ xs ys (s_v10.ext (by repeat (first | exact Ext.refl _ | assumption | refine Ext.alloc ?_ _ | refine Ext.drew ?_ | refine Ext.trans ?_ (by assumption)))) (s_v11.ext (by repeat (first | exact Ext.refl _ | assumption | refine Ext.alloc ?_ _ | refine Ext.drew ?_ | refine Ext.trans ?_ (by assumption)))) (by omega)).mono ?_
    rintro e W12 ⟨v12, rfl, o, b⟩
    have s_v12 := o.sl
    have x12 : Ext _ W12 := b
    clear o b
    go_wp2_with fail
    refine (own_any _ _ ys (g.ext (by repeat (first | exact Ext.refl _ | assumption | refine Ext.alloc ?_ _ | refine Ext.drew ?_ | refine Ext.trans ?_ (by assumption)))) (by omega)).mono ?_
    rintro e W13 ⟨v13, rfl, o, b⟩
    have s_v13 := o.sl
    have x13 : Ext _ W13 := b
    clear o b
    go_wp2_with fail
    refine (own_any _ _ xs (h.ext (by repeat (first | exact Ext.refl _ | assumption | refine Ext.alloc ?_ _ | refine Ext.drew ?_ | refine Ext.trans ?_ (by assumption)))) (by omega)).mono ?_
    rintro e W14 ⟨v14, rfl, o, b⟩
    have s_v14 := o.sl
    have x14 : Ext _ W14 := b
    clear o b
    go_wp2_with fail
    refine (setUnion_any _ _ _ ys xs (s_v13.ext (by repeat (first | exact Ext.refl _ | assumption | refine Ext.alloc ?_ _ | refine Ext.drew ?_ | refine Ext.trans ?_ (by assumption)))) (s_v14.ext (by repeat (first | exact Ext.refl _ | assumption | refine Ext.alloc ?_ _ | refine Ext.drew ?_ | refine Ext.trans ?_ (by assumption)))) (by omega)).mono ?_
    rintro e W15 ⟨v15, rfl, o, b⟩
    have s_v15 := o.sl
    have x15 : Ext _ W15 := b
    clear o b
    go_wp2_with fail
    refine (refSame_val true _ _ _ _ _ (s_v12.ext (by repeat (first | exact Ext.refl _ | assumption | refine Ext.alloc ?_ _ | refine Ext.drew ?_ | refine Ext.trans ?_ (by assumption)))) (s_v15.ext (by repeat (first | exact Ext.refl _ | assumption | refine Ext.alloc ?_ _ | refine Ext.drew ?_ | refine Ext.trans ?_ (by assumption)))) (decide_eq_true (norm_congr fun z => by simp [or_comm]))).mono ?_
    rintro e W16 ⟨rfl, d⟩
    have x16 : Ext _ W16 := Ext.of_drew d
    clear d
    go_wp2_with fail
    refine (own_any _ _ xs (h.ext (by repeat (first | exact Ext.refl _ | assumption | refine Ext.alloc ?_ _ | refine Ext.drew ?_ | refine Ext.trans ?_ (by assumption)))) (by omega)).mono ?_
    rintro e W17 ⟨v17, rfl, o, b⟩
    have s_v17 := o.sl
    have x17 : Ext _ W17 := b
    clear o b
    go_wp2_with fail
    refine (own_any _ _ ys (g.ext (by repeat (first | exact Ext.refl _ | assumption | refine Ext.alloc ?_ _ | refine Ext.drew ?_ | refine Ext.trans ?_ (by assumption)))) (by omega)).mono ?_
    rintro e W18 ⟨v18, rfl, o, b⟩
    have s_v18 := o.sl
    have x18 : Ext _ W18 := b
    clear o b
    go_wp2_with fail
    refine (setBoth_any _ _ _ xs ys (s_v17.ext (by repeat (first | exact Ext.refl _ | assumption | refine Ext.alloc ?_ _ | refine Ext.drew ?_ | refine Ext.trans ?_ (by assumption)))) (s_v18.ext (by repeat (first | exact Ext.refl _ | assumption | refine Ext.alloc ?_ _ | refine Ext.drew ?_ | refine Ext.trans ?_ (by assumption)))) (by omega) (by omega)).mono ?_
    rintro e W19 ⟨v19, rfl, o, b⟩
    have s_v19 := o.sl
    have x19 : Ext _ W19 := b
    clear o b
    go_wp2_with fail
    refine (own_any _ _ ys (g.ext (by repeat (first | exact Ext.refl _ | assumption | refine Ext.alloc ?_ _ | refine Ext.drew ?_ | refine Ext.trans ?_ (by assumption)))) (by omega)).mono ?_
    rintro e W20 ⟨v20, rfl, o, b⟩
    have s_v20 := o.sl
    have x20 : Ext _ W20 := b
    clear o b
    go_wp2_with fail
    refine (own_any _ _ xs (h.ext (by repeat (first | exact Ext.refl _ | assumption | refine Ext.alloc ?_ _ | refine Ext.drew ?_ | refine Ext.trans ?_ (by assumption)))) (by omega)).mono ?_
    rintro e W21 ⟨v21, rfl, o, b⟩
    have s_v21 := o.sl
    have x21 : Ext _ W21 := b
    clear o b
    go_wp2_with fail
    refine (setBoth_any _ _ _ ys xs (s_v20.ext (by repeat (first | exact Ext.refl _ | assumption | refine Ext.alloc ?_ _ | refine Ext.drew ?_ | refine Ext.trans ?_ (by assumption)))) (s_v21.ext (by repeat (first | exact Ext.refl _ | assumption | refine Ext.alloc ?_ _ | refine Ext.drew ?_ | refine Ext.trans ?_ (by assumption)))) (by omega) (by omega)).mono ?_
    rintro e W22 ⟨v22, rfl, o, b⟩
    have s_v22 := o.sl
    have x22 : Ext _ W22 := b
    clear o b
    go_wp2_with fail
    refine (refSame_val true _ _ _ _ _ (s_v19.ext (by repeat (first | exact Ext.refl _ | assumption | refine Ext.alloc ?_ _ | refine Ext.drew ?_ | refine Ext.trans ?_ (by assumption)))) (s_v22.ext (by repeat (first | exact Ext.refl _ | assumption | refine Ext.alloc ?_ _ | refine Ext.drew ?_ | refine Ext.trans ?_ (by assumption)))) (decide_eq_true (norm_congr fun z => by simp [and_comm]))).mono ?_
    rintro e W23 ⟨rfl, d⟩
    have x23 : Ext _ W23 := Ext.of_drew d
    clear d
    go_wp2_with fail
    go_ret
    exact ⟨rfl, (by repeat (first | exact Ext.refl _ | assumption | refine Ext.alloc ?_ _ | refine Ext.drew ?_ | refine Ext.trans ?_ (by assumption)))⟩
  · have HP := Lib.hid hp
    have HQ := Lib.hid hq
    clear hp hq
    go_enter Try.func7, Try.ntmps7
    go_wp2_with fail
    refine (awake_any _).mono ?_
    rintro e W1 ⟨rfl, b⟩
    have x1 : Ext _ W1 := b
    clear b
    go_wp2_with fail
    refine (own_any _ _ xs (h.ext (by repeat (first | exact Ext.refl _ | assumption | refine Ext.alloc ?_ _ | refine Ext.drew ?_ | refine Ext.trans ?_ (by assumption)))) (by omega)).mono ?_
    rintro e W2 ⟨v2, rfl, o, b⟩
    have s_v2 := o.sl
    have x2 : Ext _ W2 := b
    clear o b
    go_wp2_with fail
    refine (own_any _ _ ys (g.ext (by repeat (first | exact Ext.refl _ | assumption | refine Ext.alloc ?_ _ | refine Ext.drew ?_ | refine Ext.trans ?_ (by assumption)))) (by omega)).mono ?_
    rintro e W3 ⟨v3, rfl, o, b⟩
    have s_v3 := o.sl
    have x3 : Ext _ W3 := b
    clear o b
    go_wp2_with fail
    refine (setWithin_val true _ _ _ xs ys (s_v2.ext (by repeat (first | exact Ext.refl _ | assumption | refine Ext.alloc ?_ _ | refine Ext.drew ?_ | refine Ext.trans ?_ (by assumption)))) (s_v3.ext (by repeat (first | exact Ext.refl _ | assumption | refine Ext.alloc ?_ _ | refine Ext.drew ?_ | refine Ext.trans ?_ (by assumption)))) (by omega) HP.out).mono ?_
    rintro e W4 ⟨rfl, b⟩
    have x4 : Ext _ W4 := b
    clear b
    go_wp2_with fail
    refine (own_any _ _ ys (g.ext (by repeat (first | exact Ext.refl _ | assumption | refine Ext.alloc ?_ _ | refine Ext.drew ?_ | refine Ext.trans ?_ (by assumption)))) (by omega)).mono ?_
    rintro e W5 ⟨v5, rfl, o, b⟩
    have s_v5 := o.sl
    have x5 : Ext _ W5 := b
    clear o b
    go_wp2_with fail
    refine (own_any _ _ xs (h.ext (by repeat (first | exact Ext.refl _ | assumption | refine Ext.alloc ?_ _ | refine Ext.drew ?_ | refine Ext.trans ?_ (by assumption)))) (by omega)).mono ?_
    rintro e W6 ⟨v6, rfl, o, b⟩
    have s_v6 := o.sl
    have x6 : Ext _ W6 := b
    clear o b
    go_wp2_with fail
    refine (setWithin_val false _ _ _ ys xs (s_v5.ext (by repeat (first | exact Ext.refl _ | assumption | refine Ext.alloc ?_ _ | refine Ext.drew ?_ | refine Ext.trans ?_ (by assumption)))) (s_v6.ext (by repeat (first | exact Ext.refl _ | assumption | refine Ext.alloc ?_ _ | refine Ext.drew ?_ | refine Ext.trans ?_ (by assumption)))) (by omega) HQ.out).mono ?_
    rintro e W7 ⟨rfl, b⟩
    have x7 : Ext _ W7 := b
    clear b
    go_wp2_with fail
    refine (own_any _ _ xs (h.ext (by repeat (first | exact Ext.refl _ | assumption | refine Ext.alloc ?_ _ | refine Ext.drew ?_ | refine Ext.trans ?_ (by assumption)))) (by omega)).mono ?_
    rintro e W8 ⟨v8, rfl, o, b⟩
    have s_v8 := o.sl
    have x8 : Ext _ W8 := b
    clear o b
    go_wp2_with fail
    refine (setOf_any _ _ xs (s_v8.ext (by repeat (first | exact Ext.refl _ | assumption | refine Ext.alloc ?_ _ | refine Ext.drew ?_ | refine Ext.trans ?_ (by assumption)))) (by omega)).mono ?_
    rintro e W9 ⟨v9, rfl, o, b⟩
    have s_v9 := o.sl
    have x9 : Ext _ W9 := b
    clear o b
    go_wp2_with fail
    refine (own_any _ _ ys (g.ext (by repeat (first | exact Ext.refl _ | assumption | refine Ext.alloc ?_ _ | refine Ext.drew ?_ | refine Ext.trans ?_ (by assumption)))) (by omega)).mono ?_
    rintro e W10 ⟨v10, rfl, o, b⟩
    have s_v10 := o.sl
    have x10 : Ext _ W10 := b
    clear o b
    go_wp2_with fail
    refine (setOf_any _ _ ys (s_v10.ext (by repeat (first | exact Ext.refl _ | assumption | refine Ext.alloc ?_ _ | refine Ext.drew ?_ | refine Ext.trans ?_ (by assumption)))) (by omega)).mono ?_
    rintro e W11 ⟨v11, rfl, o, b⟩
    have s_v11 := o.sl
    have x11 : Ext _ W11 := b
    clear o b
    go_wp2_with fail
    refine (refSame_val false _ _ _ _ _ (s_v9.ext (by repeat (first | exact Ext.refl _ | assumption | refine Ext.alloc ?_ _ | refine Ext.drew ?_ | refine Ext.trans ?_ (by assumption)))) (s_v11.ext (by repeat (first | exact Ext.refl _ | assumption | refine Ext.alloc ?_ _ | refine Ext.drew ?_ | refine Ext.trans ?_ (by assumption)))) (same_sets rfl HP.out HQ.out)).mono ?_
    rintro e W12 ⟨rfl, d⟩
    have x12 : Ext _ W12 := Ext.of_drew d
    clear d
    go_wp2_with fail
    refine (own_any _ _ xs (h.ext (by repeat (first | exact Ext.refl _ | assumption | refine Ext.alloc ?_ _ | refine Ext.drew ?_ | refine Ext.trans ?_ (by assumption)))) (by omega)).mono ?_
    rintro e W13 ⟨v13, rfl, o, b⟩
    have s_v13 := o.sl
    have x13 : Ext _ W13 := b
    clear o b
    go_wp2_with fail
    refine (own_any _ _ ys (g.ext (by repeat (first | exact Ext.refl _ | assumption | refine Ext.alloc ?_ _ | refine Ext.drew ?_ | refine Ext.trans ?_ (by assumption)))) (by omega)).mono ?_
    rintro e W14 ⟨v14, rfl, o, b⟩
    have s_v14 := o.sl
    have x14 : Ext _ W14 := b
    clear o b
    go_wp2_with fail
    refine (setUnion_any _ _ _ xs ys (s_v13.ext (by repeat (first | exact Ext.refl _ | assumption | refine Ext.alloc ?_ _ | refine Ext.drew ?_ | refine Ext.trans ?_ (by assumption)))) (s_v14.ext (by repeat (first | exact Ext.refl _ | assumption | refine Ext.alloc ?_ _ | refine Ext.drew ?_ | refine Ext.trans ?_ (by assumption)))) (by omega)).mono ?_
    rintro e W15 ⟨v15, rfl, o, b⟩
    have s_v15 := o.sl
    have x15 : Ext _ W15 := b
    clear o b
    go_wp2_with fail
    refine (own_any _ _ ys (g.ext (by repeat (first | exact Ext.refl _ | assumption | refine Ext.alloc ?_ _ | refine Ext.drew ?_ | refine Ext.trans ?_ (by assumption)))) (by omega)).mono ?_
    rintro e W16 ⟨v16, rfl, o, b⟩
    have s_v16 := o.sl
    have x16 : Ext _ W16 := b
    clear o b
    go_wp2_with fail
    refine (own_any _ _ xs (h.ext (by repeat (first | exact Ext.refl _ | assumption | refine Ext.alloc ?_ _ | refine Ext.drew ?_ | refine Ext.trans ?_ (by assumption)))) (by omega)).mono ?_
    rintro e W17 ⟨v17, rfl, o, b⟩
    have s_v17 := o.sl
    have x17 : Ext _ W17 := b
    clear o b
    go_wp2_with fail
    refine (setUnion_any _ _ _ ys xs (s_v16.ext (by repeat (first | exact Ext.refl _ | assumption | refine Ext.alloc ?_ _ | refine Ext.drew ?_ | refine Ext.trans ?_ (by assumption)))) (s_v17.ext (by repeat (first | exact Ext.refl _ | assumption | refine Ext.alloc ?_ _ | refine Ext.drew ?_ | refine Ext.trans ?_ (by assumption)))) (by omega)).mono ?_
    rintro e W18 ⟨v18, rfl, o, b⟩
    have s_v18 := o.sl
    have x18 : Ext _ W18 := b
    clear o b
    go_wp2_with fail
    refine (refSame_val true _ _ _ _ _ (s_v15.ext (by repeat (first | exact Ext.refl _ | assumption | refine Ext.alloc ?_ _ | refine Ext.drew ?_ | refine Ext.trans ?_ (by assumption)))) (s_v18.ext (by repeat (first | exact Ext.refl _ | assumption | refine Ext.alloc ?_ _ | refine Ext.drew ?_ | refine Ext.trans ?_ (by assumption)))) (decide_eq_true (norm_congr fun z => by simp [or_comm]))).mono ?_
    rintro e W19 ⟨rfl, d⟩
    have x19 : Ext _ W19 := Ext.of_drew d
    clear d
    go_wp2_with fail
    refine (own_any _ _ xs (h.ext (by repeat (first | exact Ext.refl _ | assumption | refine Ext.alloc ?_ _ | refine Ext.drew ?_ | refine Ext.trans ?_ (by assumption)))) (by omega)).mono ?_
    rintro e W20 ⟨v20, rfl, o, b⟩
    have s_v20 := o.sl
    have x20 : Ext _ W20 := b
    clear o b
    go_wp2_with fail
    refine (own_any _ _ ys (g.ext (by repeat (first | exact Ext.refl _ | assumption | refine Ext.alloc ?_ _ | refine Ext.drew ?_ | refine Ext.trans ?_ (by assumption)))) (by omega)).mono ?_
    rintro e W21 ⟨v21, rfl, o, b⟩
    have s_v21 := o.sl
    have x21 : Ext _ W21 := b
    clear o b
    go_wp2_with fail
    refine (setBoth_any _ _ _ xs ys (s_v20.ext (by repeat (first | exact Ext.refl _ | assumption | refine Ext.alloc ?_ _ | refine Ext.drew ?_ | refine Ext.trans ?_ (by assumption)))) (s_v21.ext (by repeat (first | exact Ext.refl _ | assumption | refine Ext.alloc ?_ _ | refine Ext.drew ?_ | refine Ext.trans ?_ (by assumption)))) (by omega) (by omega)).mono ?_
    rintro e W22 ⟨v22, rfl, o, b⟩
    have s_v22 := o.sl
    have x22 : Ext _ W22 := b
    clear o b
    go_wp2_with fail
    refine (own_any _ _ ys (g.ext (by repeat (first | exact Ext.refl _ | assumption | refine Ext.alloc ?_ _ | refine Ext.drew ?_ | refine Ext.trans ?_ (by assumption)))) (by omega)).mono ?_
    rintro e W23 ⟨v23, rfl, o, b⟩
    have s_v23 := o.sl
    have x23 : Ext _ W23 := b
    clear o b
    go_wp2_with fail
    refine (own_any _ _ xs (h.ext (by repeat (first | exact Ext.refl _ | assumption | refine Ext.alloc ?_ _ | refine Ext.drew ?_ | refine Ext.trans ?_ (by assumption)))) (by omega)).mono ?_
    rintro e W24 ⟨v24, rfl, o, b⟩
    have s_v24 := o.sl
    have x24 : Ext _ W24 := b
    clear o b
    go_wp2_with fail
    refine (setBoth_any _ _ _ ys xs (s_v23.ext (by repeat (first | exact Ext.refl _ | assumption | refine Ext.alloc ?_ _ | refine Ext.drew ?_ | refine Ext.trans ?_ (by assumption)))) (s_v24.ext (by repeat (first | exact Ext.refl _ | assumption | refine Ext.alloc ?_ _ | refine Ext.drew ?_ | refine Ext.trans ?_ (by assumption)))) (by omega) (by omega)).mono ?_
    rintro e W25 ⟨v25, rfl, o, b⟩
    have s_v25 := o.sl
    have x25 : Ext _ W25 := b
    clear o b
    go_wp2_with fail
    refine (refSame_val true _ _ _ _ _ (s_v22.ext (by repeat (first | exact Ext.refl _ | assumption | refine Ext.alloc ?_ _ | refine Ext.drew ?_ | refine Ext.trans ?_ (by assumption)))) (s_v25.ext (by repeat (first | exact Ext.refl _ | assumption | refine Ext.alloc ?_ _ | refine Ext.drew ?_ | refine Ext.trans ?_ (by assumption)))) (decide_eq_true (norm_congr fun z => by simp [and_comm]))).mono ?_
    rintro e W26 ⟨rfl, d⟩
    have x26 : Ext _ W26 := Ext.of_drew d
    clear d
    go_wp2_with fail
    go_ret
    exact ⟨rfl, (by repeat (first | exact Ext.refl _ | assumption | refine Ext.alloc ?_ _ | refine Ext.drew ?_ | refine Ext.trans ?_ (by assumption)))⟩
  · have HP := Lib.hid hp
    have HQ := Lib.hid hq
    clear hp hq
    go_enter Try.func7, Try.ntmps7
    go_wp2_with fail
    refine (awake_any _).mono ?_
    rintro e W1 ⟨rfl, b⟩
    have x1 : Ext _ W1 := b
    clear b
    go_wp2_with fail
    refine (own_any _ _ xs (h.ext (by repeat (first | exact Ext.refl _ | assumption | refine Ext.alloc ?_ _ | refine Ext.drew ?_ | refine Ext.trans ?_ (by assumption)))) (by omega)).mono ?_
    rintro e W2 ⟨v2, rfl, o, b⟩
    have s_v2 := o.sl
    have x2 : Ext _ W2 := b
    clear o b
    go_wp2_with fail
    refine (own_any _ _ ys (g.ext (by repeat (first | exact Ext.refl _ | assumption | refine Ext.alloc ?_ _ | refine Ext.drew ?_ | refine Ext.trans ?_ (by assumption)))) (by omega)).mono ?_
    rintro e W3 ⟨v3, rfl, o, b⟩
    have s_v3 := o.sl
    have x3 : Ext _ W3 := b
    clear o b
    go_wp2_with fail
    refine (setWithin_val true _ _ _ xs ys (s_v2.ext (by repeat (first | exact Ext.refl _ | assumption | refine Ext.alloc ?_ _ | refine Ext.drew ?_ | refine Ext.trans ?_ (by assumption)))) (s_v3.ext (by repeat (first | exact Ext.refl _ | assumption | refine Ext.alloc ?_ _ | refine Ext.drew ?_ | refine Ext.trans ?_ (by assumption)))) (by omega) HP.out).mono ?_
    rintro e W4 ⟨rfl, b⟩
    have x4 : Ext _ W4 := b
    clear b
    go_wp2_with fail
    refine (own_any _ _ ys (g.ext (by repeat (first | exact Ext.refl _ | assumption | refine Ext.alloc ?_ _ | refine Ext.drew ?_ | refine Ext.trans ?_ (by assumption)))) (by omega)).mono ?_
    rintro e W5 ⟨v5, rfl, o, b⟩
    have s_v5 := o.sl
    have x5 : Ext _ W5 := b
    clear o b
    go_wp2_with fail
    refine (own_any _ _ xs (h.ext (by repeat (first | exact Ext.refl _ | assumption | refine Ext.alloc ?_ _ | refine Ext.drew ?_ | refine Ext.trans ?_ (by assumption)))) (by omega)).mono ?_
    rintro e W6 ⟨v6, rfl, o, b⟩
    have s_v6 := o.sl
    have x6 : Ext _ W6 := b
    clear o b
    go_wp2_with fail
    refine (setWithin_val true _ _ _ ys xs (s_v5.ext (by repeat (first | exact Ext.refl _ | assumption | refine Ext.alloc ?_ _ | refine Ext.drew ?_ | refine Ext.trans ?_ (by assumption)))) (s_v6.ext (by repeat (first | exact Ext.refl _ | assumption | refine Ext.alloc ?_ _ | refine Ext.drew ?_ | refine Ext.trans ?_ (by assumption)))) (by omega) HQ.out).mono ?_
    rintro e W7 ⟨rfl, b⟩
    have x7 : Ext _ W7 := b
    clear b
    go_wp2_with fail
    refine (own_any _ _ xs (h.ext (by repeat (first | exact Ext.refl _ | assumption | refine Ext.alloc ?_ _ | refine Ext.drew ?_ | refine Ext.trans ?_ (by assumption)))) (by omega)).mono ?_
    rintro e W8 ⟨v8, rfl, o, b⟩
    have s_v8 := o.sl
    have x8 : Ext _ W8 := b
    clear o b
    go_wp2_with fail
    refine (setOf_any _ _ xs (s_v8.ext (by repeat (first | exact Ext.refl _ | assumption | refine Ext.alloc ?_ _ | refine Ext.drew ?_ | refine Ext.trans ?_ (by assumption)))) (by omega)).mono ?_
    rintro e W9 ⟨v9, rfl, o, b⟩
    have s_v9 := o.sl
    have x9 : Ext _ W9 := b
    clear o b
    go_wp2_with fail
    refine (own_any _ _ ys (g.ext (by repeat (first | exact Ext.refl _ | assumption | refine Ext.alloc ?_ _ | refine Ext.drew ?_ | refine Ext.trans ?_ (by assumption)))) (by omega)).mono ?_
    rintro e W10 ⟨v10, rfl, o, b⟩
    have s_v10 := o.sl
    have x10 : Ext _ W10 := b
    clear o b
    go_wp2_with fail
    refine (setOf_any _ _ ys (s_v10.ext (by repeat (first | exact Ext.refl _ | assumption | refine Ext.alloc ?_ _ | refine Ext.drew ?_ | refine Ext.trans ?_ (by assumption)))) (by omega)).mono ?_
    rintro e W11 ⟨v11, rfl, o, b⟩
    have s_v11 := o.sl
    have x11 : Ext _ W11 := b
    clear o b
    go_wp2_with fail
    refine (refSame_val true _ _ _ _ _ (s_v9.ext (by repeat (first | exact Ext.refl _ | assumption | refine Ext.alloc ?_ _ | refine Ext.drew ?_ | refine Ext.trans ?_ (by assumption)))) (s_v11.ext (by repeat (first | exact Ext.refl _ | assumption | refine Ext.alloc ?_ _ | refine Ext.drew ?_ | refine Ext.trans ?_ (by assumption)))) (same_sets rfl HP.out HQ.out)).mono ?_
    rintro e W12 ⟨rfl, d⟩
    have x12 : Ext _ W12 := Ext.of_drew d
    clear d
    go_wp2_with fail
    refine (own_any _ _ xs (h.ext (by repeat (first | exact Ext.refl _ | assumption | refine Ext.alloc ?_ _ | refine Ext.drew ?_ | refine Ext.trans ?_ (by assumption)))) (by omega)).mono ?_
    rintro e W13 ⟨v13, rfl, o, b⟩
    have s_v13 := o.sl
    have x13 : Ext _ W13 := b
    clear o b
    go_wp2_with fail
    refine (own_any _ _ ys (g.ext (by repeat (first | exact Ext.refl _ | assumption | refine Ext.alloc ?_ _ | refine Ext.drew ?_ | refine Ext.trans ?_ (by assumption)))) (by omega)).mono ?_
    rintro e W14 ⟨v14, rfl, o, b⟩
    have s_v14 := o.sl
    have x14 : Ext _ W14 := b
    clear o b
    go_wp2_with fail
    refine (setUnion_any _ _ _ xs ys (s_v13.ext (by repeat (first | exact Ext.refl _ | assumption | refine Ext.alloc ?_ _ | refine Ext.drew ?_ | refine Ext.trans ?_ (by assumption)))) (s_v14.ext (by repeat (first | exact Ext.refl _ | assumption | refine Ext.alloc ?_ _ | refine Ext.drew ?_ | refine Ext.trans ?_ (by assumption)))) (by omega)).mono ?_
    rintro e W15 ⟨v15, rfl, o, b⟩
    have s_v15 := o.sl
    have x15 : Ext _ W15 := b
    clear o b
    go_wp2_with fail
    refine (own_any _ _ ys (g.ext (by repeat (first | exact Ext.refl _ | assumption | refine Ext.alloc ?_ _ | refine Ext.drew ?_ | refine Ext.trans ?_ (by assumption)))) (by omega)).mono ?_
    rintro e W16 ⟨v16, rfl, o, b⟩
    have s_v16 := o.sl
    have x16 : Ext _ W16 := b
    clear o b
    go_wp2_with fail
    refine (own_any _ _ xs (h.ext (by repeat (first | exact Ext.refl _ | assumption | refine Ext.alloc ?_ _ | refine Ext.drew ?_ | refine Ext.trans ?_ (by assumption)))) (by omega)).mono ?_
    rintro e W17 ⟨v17, rfl, o, b⟩
    have s_v17 := o.sl
    have x17 : Ext _ W17 := b
    clear o b
    go_wp2_with fail
    refine (setUnion_any _ _ _ ys xs (s_v16.ext (by repeat (first | exact Ext.refl _ | assumption | refine Ext.alloc ?_ _ | refine Ext.drew ?_ | refine Ext.trans ?_ (by assumption)))) (s_v17.ext (by repeat (first | exact Ext.refl _ | assumption | refine Ext.alloc ?_ _ | refine Ext.drew ?_ | refine Ext.trans ?_ (by assumption)))) (by omega)).mono ?_
    rintro e W18 ⟨v18, rfl, o, b⟩
    have s_v18 := o.sl
    have x18 : Ext _ W18 := b
    clear o b
    go_wp2_with fail
    refine (refSame_val true _ _ _ _ _ (s_v15.ext (by repeat (first | exact Ext.refl _ | assumption | refine Ext.alloc ?_ _ | refine Ext.drew ?_ | refine Ext.trans ?_ (by assumption)))) (s_v18.ext (by repeat (first | exact Ext.refl _ | assumption | refine Ext.alloc ?_ _ | refine Ext.drew ?_ | refine Ext.trans ?_ (by assumption)))) (decide_eq_true (norm_congr fun z => by simp [or_comm]))).mono ?_
    rintro e W19 ⟨rfl, d⟩
    have x19 : Ext _ W19 := Ext.of_drew d
    clear d
    go_wp2_with fail
    refine (own_any _ _ xs (h.ext (by repeat (first | exact Ext.refl _ | assumption | refine Ext.alloc ?_ _ | refine Ext.drew ?_ | refine Ext.trans ?_ (by assumption)))) (by omega)).mono ?_
    rintro e W20 ⟨v20, rfl, o, b⟩
    have s_v20 := o.sl
    have x20 : Ext _ W20 := b
    clear o b
    go_wp2_with fail
    refine (own_any _ _ ys (g.ext (by repeat (first | exact Ext.refl _ | assumption | refine Ext.alloc ?_ _ | refine Ext.drew ?_ | refine Ext.trans ?_ (by assumption)))) (by omega)).mono ?_
    rintro e W21 ⟨v21, rfl, o, b⟩
    have s_v21 := o.sl
    have x21 : Ext _ W21 := b
    clear o b
    go_wp2_with fail
    refine (setBoth_any _ _ _ xs ys (s_v20.ext (by repeat (first | exact Ext.refl _ | assumption | refine Ext.alloc ?_ _ | refine Ext.drew ?_ | refine Ext.trans ?_ (by assumption)))) (s_v21.ext (by repeat (first | exact Ext.refl _ | assumption | refine Ext.alloc ?_ _ | refine Ext.drew ?_ | refine Ext.trans ?_ (by assumption)))) (by omega) (by omega)).mono ?_
    rintro e W22 ⟨v22, rfl, o, b⟩
    have s_v22 := o.sl
    have x22 : Ext _ W22 := b
    clear o b
    go_wp2_with fail
    refine (own_any _ _ ys (g.ext (by repeat (first | exact Ext.refl _ | assumption | refine Ext.alloc ?_ _ | refine Ext.drew ?_ | refine Ext.trans ?_ (by assumption)))) (by omega)).mono ?_
    rintro e W23 ⟨v23, rfl, o, b⟩
    have s_v23 := o.sl
    have x23 : Ext _ W23 := b
    clear o b
    go_wp2_with fail
    refine (own_any _ _ xs (h.ext (by repeat (first | exact Ext.refl _ | assumption | refine Ext.alloc ?_ _ | refine Ext.drew ?_ | refine Ext.trans ?_ (by assumption)))) (by omega)).mono ?_
    rintro e W24 ⟨v24, rfl, o, b⟩
    have s_v24 := o.sl
    have x24 : Ext _ W24 := b
    clear o b
    go_wp2_with fail
    refine (setBoth_any _ _ _ ys xs (s_v23.ext (by repeat (first | exact Ext.refl _ | assumption | refine Ext.alloc ?_ _ | refine Ext.drew ?_ | refine Ext.trans ?_ (by assumption)))) (s_v24.ext (by repeat (first | exact Ext.refl _ | assumption | refine Ext.alloc ?_ _ | refine Ext.drew ?_ | refine Ext.trans ?_ (by assumption)))) (by omega) (by omega)).mono ?_
    rintro e W25 ⟨v25, rfl, o, b⟩
    have s_v25 := o.sl
    have x25 : Ext _ W25 := b
    clear o b
    go_wp2_with fail
    refine (refSame_val true _ _ _ _ _ (s_v22.ext (by repeat (first | exact Ext.refl _ | assumption | refine Ext.alloc ?_ _ | refine Ext.drew ?_ | refine Ext.trans ?_ (by assumption)))) (s_v25.ext (by repeat (first | exact Ext.refl _ | assumption | refine Ext.alloc ?_ _ | refine Ext.drew ?_ | refine Ext.trans ?_ (by assumption)))) (decide_eq_true (norm_congr fun z => by simp [and_comm]))).mono ?_
    rintro e W26 ⟨rfl, d⟩
    have x26 : Ext _ W26 := Ext.of_drew d
    clear d
    go_wp2_with fail
    go_ret
    exact ⟨rfl, (by repeat (first | exact Ext.refl _ | assumption | refine Ext.alloc ?_ _ | refine Ext.drew ?_ | refine Ext.trans ?_ (by assumption)))⟩

set_option maxHeartbeats 1000000 in
theorem setParts_long (w : World) (ao : Option Addr) (c : Nat) (ao' : Option Addr) (c' : Nat) (xs : List Int) (ys : List Int) (h : Sl w (.slice ao xs.length c) xs) (g : Sl w (.slice ao' ys.length c') ys) (hl : 60 < xs.length ∨ 60 < ys.length) : Calls Try.prog 8 #[.slice ao xs.length c, .slice ao' ys.length c'] w (GivesB w (.bool true)) := by
  have n1 := h.length_le
  have n2 := g.length_le
  clear h g
  by_cases hx : 60 < xs.length
  all_goals
    have hy : 60 < xs.length ∨ 60 < ys.length := hl
    have HL := Lib.hid hy
    clear hl hy
    try (have hy2 : 60 < ys.length := (by rcases HL.out with h | h; exact absurd h hx; exact h))
    go_enter Try.func8, Try.ntmps8
    go_wp2_with fail
    refine (awake_any _).mono ?_
    rintro e W1 ⟨rfl, b⟩
    have x1 : Ext _ W1 := b
    clear b
    go_wp2_with fail
    refine (awake_any _).mono ?_
    rintro e W2 ⟨rfl, b⟩
    have x2 : Ext _ W2 := b
    clear b
    go_wp2_with fail
    go_ret
    exact ⟨rfl, (by repeat (first | exact Ext.refl _ | assumption | refine Ext.alloc ?_ _ | refine Ext.drew ?_ | refine Ext.trans ?_ (by assumption)))⟩

set_option maxHeartbeats 8000000 in
theorem setParts_short (w : World) (ao : Option Addr) (c : Nat) (ao' : Option Addr) (c' : Nat) (xs : List Int) (ys : List Int) (h : Sl w (.slice ao xs.length c) xs) (g : Sl w (.slice ao' ys.length c') ys) (hl : xs.length ≤ 60) (hl' : ys.length ≤ 60) : Calls Try.prog 8 #[.slice ao xs.length c, .slice ao' ys.length c'] w (GivesB w (.bool true)) := by
  obtain ⟨A, hA⟩ : ∃ A, norm (xs.filter fun x => decide (x ∈ ys)) = A := ⟨_, rfl⟩
  obtain ⟨B, hB⟩ : ∃ B, norm (xs.filter fun x => !decide (x ∈ ys)) = B := ⟨_, rfl⟩
  obtain ⟨C, hC⟩ : ∃ C, norm xs = C := ⟨_, rfl⟩
  have hAl : A.length ≤ 60 := by rw [← hA]; exact Nat.le_trans (norm_length _) (Nat.le_trans (List.length_filter_le _ _) hl)
  have hBl : B.length ≤ 60 := by rw [← hB]; exact Nat.le_trans (norm_length _) (Nat.le_trans (List.length_filter_le _ _) hl)
  have HU : Hid (norm (A ++ B) = norm xs) := Lib.hid (by rw [← hA, ← hB]; exact parts_union xs ys)
  have HE : Hid (norm (A.filter fun x => decide (x ∈ B)) = []) := Lib.hid (by rw [← hA, ← hB]; exact parts_apart xs ys)
  have hlen : A.length + B.length = C.length := by rw [← hA, ← hB, ← hC]; exact parts_length xs ys
  have hsum : ((A.length : Int) + (B.length : Int) == (C.length : Int)) = true := by simp; omega
  have HA := Lib.hid hA
  have HB := Lib.hid hB
  have HC := Lib.hid hC
  clear hA hB hC hlen
  go_enter Try.func8, Try.ntmps8
  go_wp2_with fail
  refine (awake_any _).mono ?_
  rintro e W1 ⟨rfl, b⟩
  have x1 : Ext _ W1 := b
  clear b
  go_wp2_with fail
  refine (own_any _ _ xs (h.ext (by repeat (first | exact Ext.refl _ | assumption | refine Ext.alloc ?_ _ | refine Ext.drew ?_ | refine Ext.trans ?_ (by assumption)))) (by omega)).mono ?_
  rintro e W2 ⟨v2, rfl, o, b⟩
  have s_v2 := o.sl
  have x2 : Ext _ W2 := b
  clear o b
  go_wp2_with fail
  refine (own_any _ _ ys (g.ext (by repeat (first | exact Ext.refl _ | assumption | refine Ext.alloc ?_ _ | refine Ext.drew ?_ | refine Ext.trans ?_ (by assumption)))) (by omega)).mono ?_
  rintro e W3 ⟨v3, rfl, o, b⟩
  have s_v3 := o.sl
  have x3 : Ext _ W3 := b
  clear o b
  go_wp2_with fail
  refine (setBoth_any _ _ _ xs ys (s_v2.ext (by repeat (first | exact Ext.refl _ | assumption | refine Ext.alloc ?_ _ | refine Ext.drew ?_ | refine Ext.trans ?_ (by assumption)))) (s_v3.ext (by repeat (first | exact Ext.refl _ | assumption | refine Ext.alloc ?_ _ | refine Ext.drew ?_ | refine Ext.trans ?_ (by assumption)))) (by omega) (by omega)).mono ?_
  rintro e W4 ⟨p, rfl, o, b⟩
  rw [HA.out] at o
  have s_p := o.sl
  have x4 : Ext _ W4 := b
  clear o b
  obtain ⟨ao_p, c_p, rfl⟩ := s_p.len
  go_wp2_with fail
  refine (own_any _ _ xs (h.ext (by repeat (first | exact Ext.refl _ | assumption | refine Ext.alloc ?_ _ | refine Ext.drew ?_ | refine Ext.trans ?_ (by assumption)))) (by omega)).mono ?_
  rintro e W5 ⟨v5, rfl, o, b⟩
  have s_v5 := o.sl
  have x5 : Ext _ W5 := b
  clear o b
  go_wp2_with fail
  refine (own_any _ _ ys (g.ext (by repeat (first | exact Ext.refl _ | assumption | refine Ext.alloc ?_ _ | refine Ext.drew ?_ | refine Ext.trans ?_ (by assumption)))) (by omega)).mono ?_
  rintro e W6 ⟨v6, rfl, o, b⟩
  have s_v6 := o.sl
  have x6 : Ext _ W6 := b
  clear o b
  go_wp2_with fail
  refine (setMinus_any _ _ _ xs ys (s_v5.ext (by repeat (first | exact Ext.refl _ | assumption | refine Ext.alloc ?_ _ | refine Ext.drew ?_ | refine Ext.trans ?_ (by assumption)))) (s_v6.ext (by repeat (first | exact Ext.refl _ | assumption | refine Ext.alloc ?_ _ | refine Ext.drew ?_ | refine Ext.trans ?_ (by assumption)))) (by omega) (by omega)).mono ?_
  rintro e W7 ⟨r, rfl, o, b⟩
  rw [HB.out] at o
  have s_r := o.sl
  have x7 : Ext _ W7 := b
  clear o b
  obtain ⟨ao_r, c_r, rfl⟩ := s_r.len
  go_wp2_with fail
  refine (setUnion_any _ _ _ A B (s_p.ext (by repeat (first | exact Ext.refl _ | assumption | refine Ext.alloc ?_ _ | refine Ext.drew ?_ | refine Ext.trans ?_ (by assumption)))) (s_r.ext (by repeat (first | exact Ext.refl _ | assumption | refine Ext.alloc ?_ _ | refine Ext.drew ?_ | refine Ext.trans ?_ (by assumption)))) (by omega)).mono ?_
  rintro e W8 ⟨v8, rfl, o, b⟩
  have s_v8 := o.sl
  have x8 : Ext _ W8 := b
  clear o b
  go_wp2_with fail
  refine (own_any _ _ xs (h.ext (by repeat (first | exact Ext.refl _ | assumption | refine Ext.alloc ?_ _ | refine Ext.drew ?_ | refine Ext.trans ?_ (by assumption)))) (by omega)).mono ?_
  rintro e W9 ⟨v9, rfl, o, b⟩
  have s_v9 := o.sl
  have x9 : Ext _ W9 := b
  clear o b
  go_wp2_with fail
  refine (setOf_any _ _ xs (s_v9.ext (by repeat (first | exact Ext.refl _ | assumption | refine Ext.alloc ?_ _ | refine Ext.drew ?_ | refine Ext.trans ?_ (by assumption)))) (by omega)).mono ?_
  rintro e W10 ⟨v10, rfl, o, b⟩
  have s_v10 := o.sl
  have x10 : Ext _ W10 := b
  clear o b
  go_wp2_with fail
  refine (refSame_val true _ _ _ _ _ (s_v8.ext (by repeat (first | exact Ext.refl _ | assumption | refine Ext.alloc ?_ _ | refine Ext.drew ?_ | refine Ext.trans ?_ (by assumption)))) (s_v10.ext (by repeat (first | exact Ext.refl _ | assumption | refine Ext.alloc ?_ _ | refine Ext.drew ?_ | refine Ext.trans ?_ (by assumption)))) (decide_eq_true HU.out)).mono ?_
  rintro e W11 ⟨rfl, d⟩
  have x11 : Ext _ W11 := Ext.of_drew d
  clear d
  go_wp2_with fail
  refine (own_any _ _ xs (h.ext (by repeat (first | exact Ext.refl _ | assumption | refine Ext.alloc ?_ _ | refine Ext.drew ?_ | refine Ext.trans ?_ (by assumption)))) (by omega)).mono ?_
  rintro e W12 ⟨v12, rfl, o, b⟩
  have s_v12 := o.sl
  have x12 : Ext _ W12 := b
  clear o b
  go_wp2_with fail
  refine (setOf_any _ _ xs (s_v12.ext (by repeat (first | exact Ext.refl _ | assumption | refine Ext.alloc ?_ _ | refine Ext.drew ?_ | refine Ext.trans ?_ (by assumption)))) (by omega)).mono ?_
  rintro e W13 ⟨v13, rfl, o, b⟩
  rw [HC.out] at o
  have s_v13 := o.sl
  have x13 : Ext _ W13 := b
  clear o b
  obtain ⟨ao_v13, c_v13, rfl⟩ := s_v13.len
  go_wp2_with fail
  refine (setBoth_any _ _ _ A B (s_p.ext (by repeat (first | exact Ext.refl _ | assumption | refine Ext.alloc ?_ _ | refine Ext.drew ?_ | refine Ext.trans ?_ (by assumption)))) (s_r.ext (by repeat (first | exact Ext.refl _ | assumption | refine Ext.alloc ?_ _ | refine Ext.drew ?_ | refine Ext.trans ?_ (by assumption)))) (by omega) (by omega)).mono ?_
  rintro e W14 ⟨v14, rfl, o, b⟩
  rw [HE.out] at o
  have s_v14 := o.sl
  have x14 : Ext _ W14 := b
  clear o b
  obtain ⟨ao_v14, c_v14, rfl⟩ := s_v14.len
  go_wp2_with fail
  go_ret
  exact ⟨rfl, (by repeat (first | exact Ext.refl _ | assumption | refine Ext.alloc ?_ _ | refine Ext.drew ?_ | refine Ext.trans ?_ (by assumption)))⟩

end Go.Proofs.Ytfhddgejedhfpaa
