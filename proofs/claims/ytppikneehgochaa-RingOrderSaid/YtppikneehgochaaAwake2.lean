/- The chapter's example of layer 2. -/
import Derived.Test.YtppikneehgochaaRing
namespace Go.Proofs.Ytppikneehgochaa
open Go.RowKit

theorem ext_step {α : Type} [Elem α] {T : TypeId} {w W W' : World} {p : Nat} {q q' : Option Nat} {room : Nat} {xs : List α} (x : Ext w W) (r : RAt T W w.heap.size p q room xs) (s : RStep p q q' W W') : Ext w W' :=
  Below.trans x (r.step s x.size)

set_option maxHeartbeats 4000000 in
theorem awake_any (w : World) : Calls Try.prog 10 #[] w (GivesB w (.bool true)) := by
  go_enter Try.func10, Try.ntmps10
  go_wp2_with fail
  refine (new_i 2 w.heap.size w (Nat.le_refl _)).mono ?_
  rintro e W1 ⟨rfl, r, x1⟩
  have r1 : RAt 57 W1 w.heap.size w.heap.size none 2 ([] : List Int) := r
  clear r
  go_wp2_with fail
  refine (push_yes_i r1 x1.size 5 (by simp)).mono ?_
  rintro e W2 ⟨rfl, q2, r2, s2⟩
  have x2 : Ext w W2 := ext_step x1 r1 s2
  clear s2
  go_wp2_with fail
  refine (push_yes_i r2 x2.size 6 (by simp)).mono ?_
  rintro e W3 ⟨rfl, q3, r3, s3⟩
  have x3 : Ext w W3 := ext_step x2 r2 s3
  clear s3
  go_wp2_with fail
  refine (push_no_i r3 7 (by simp)).mono ?_
  rintro e W4 ⟨rfl, d⟩
  have x4 : Ext w W4 := x3.trans (Ext.of_drew d)
  have r4 := r3.ext (Ext.of_drew d)
  clear d
  go_wp2_with fail
  refine (pop_yes_i (x := 5) (xs := [6]) r4).mono ?_
  rintro e W5 ⟨rfl, q5, r5, s5⟩
  have x5 : Ext w W5 := ext_step x4 r4 s5
  clear s5
  go_wp2_with fail
  refine (push_yes_i r5 x5.size 7 (by simp)).mono ?_
  rintro e W6 ⟨rfl, q6, r6, s6⟩
  have x6 : Ext w W6 := ext_step x5 r5 s6
  clear s6
  go_wp2_with fail
  refine (at_yes_i r6 1 (by simp) (by simp) 7 rfl).mono ?_
  rintro e W7 ⟨rfl, rfl⟩
  go_wp2_with fail
  refine (cut_yes_i r6 0 6 rfl).mono ?_
  rintro e W7 ⟨rfl, q7, r7, s7⟩
  have x7 : Ext w W7 := ext_step x6 r6 s7
  clear s7
  have r8 : RAt 57 W7 w.heap.size w.heap.size q7 2 ([7] : List Int) := r7
  clear r7
  go_wp2_with fail
  refine (len_i r8).mono ?_
  rintro e W8 ⟨rfl, rfl⟩
  go_wp2_with fail
  refine (room_i r8).mono ?_
  rintro e W9 ⟨rfl, d⟩
  have x9 : Ext w W9 := x7.trans (Ext.of_drew d)
  have r9 := r8.ext (Ext.of_drew d)
  clear d r8
  go_wp2_with fail
  refine (all_i r9).mono ?_
  rintro e W10 ⟨v, rfl, o, b⟩
  have x10 : Ext w W10 := x9.trans b
  obtain ⟨ao, c, rfl⟩ := o.sl.len
  clear o b
  go_wp2_with fail
  go_ret
  exact ⟨rfl, x10⟩

end Go.Proofs.Ytppikneehgochaa
