/- What the program's frames answer. -/
import Derived.Test.YtlakolkpfkakoaaGreatDoorMB
import Derived.Test.YtlakolkpfkakoaaGreatDoorME
namespace Go.Proofs.YtlakolkpfkakoaaGreatDoor
open Go.RowKit

def Ety (w : World) : Prop := w.cell? ⟨0, 0, none⟩ = some (.iface 175 (.agg #[.pointer (some ⟨2, 124, none⟩)]))
def Std (w : World) : Prop := Tab w ∧ Ety w
theorem Std.ext {w w' : World} (h : Std w) (x : Ext w w') : Std w' := ⟨h.1.ext x, (Below.cell x (World.block_lt_of_cell? _ _ h.2)).trans h.2⟩

def formV (f : Fr) : Value := if rightB f = true then .nilIface else .iface 149 (.agg #[.int .i64 0, .int .i64 60])

theorem right_iff (k e : Int) (q a : Nat) (b : ByteArray) : rightB ⟨k, e, q, a, b⟩ = true ↔ 0 ≤ e ∧ e ≤ 65535 ∧ b.size ≤ 64 ∧ (k = 1 ∨ k = 2 ∧ b.size = 0) := by
  unfold rightB
  simp only [Bool.and_eq_true, Bool.or_eq_true, decide_eq_true_eq, and_assoc]
theorem form_yes (f : Fr) (h : rightB f = true) : Ending.returned Value.nilIface = .returned (formV f) := by unfold formV; rw [if_pos h]
theorem form_no (f : Fr) (h : rightB f = false) : Ending.returned (.iface 149 (.agg #[.int .i64 0, .int .i64 60])) = .returned (formV f) := by unfold formV; rw [if_neg (by rw [h]; decide)]

set_option maxHeartbeats 800000 in
theorem formFault_any (w : World) (k e : Int) (q a : Nat) (b : ByteArray) :
    Calls Tryz.prog 64 #[.agg #[.int .i64 k, .int .i64 e, .int .u64 q, .int .u64 a, .string b]] w fun ev w' => ev = .returned (formV ⟨k, e, q, a, b⟩) ∧ Ext w w' := by
  go_enter Tryz.func64, Tryz.ntmps64
  go_wp2
  all_goals go_ret
  all_goals refine ⟨?_, (by repeat (first | exact Ext.refl _ | assumption | refine Ext.alloc ?_ _ | refine Ext.drew ?_ | refine Ext.drewN ?_ _))⟩
  all_goals (first | rw [empty_size] at * | skip)
  all_goals (first | (simp only [Bool.not_eq_true', decide_eq_false_iff_not, Bool.not_eq_false', decide_eq_true_eq] at *) | skip)
  all_goals (first
    | exact form_yes _ ((right_iff _ _ _ _ _).2 (by omega))
    | exact form_no _ (Bool.eq_false_iff.2 fun hh => by have := (right_iff _ _ _ _ _).1 hh; omega))

theorem formV_box (f : Fr) : (formV f = .nilIface ∧ rightB f = true) ∨ (formV f = .iface 149 (.agg #[.int .i64 0, .int .i64 60]) ∧ rightB f = false) := by
  unfold formV
  by_cases h : rightB f = true
  · exact .inl ⟨if_pos h, h⟩
  · exact .inr ⟨if_neg h, by simpa using h⟩

theorem wrapped_any (w : World) (h : Std w) (x y : Int) : Calls Tryz.prog 65 #[.iface 149 (.agg #[.int .i64 x, .int .i64 y])] w fun ev w' => ev = .returned (.int .i64 y) ∧ Ext w w' := by
  go_enter Tryz.func65, Tryz.ntmps65
  go_wp2_with (first
    | (go_at_call 86; refine (as_chain w.heap.size x y (.int .i64 0) _ (h.ext (by repeat (first | exact Ext.refl _ | assumption | refine Ext.alloc ?_ _ | refine Ext.drew ?_ | refine Ext.drewN ?_ _))).2 (World.block_lt_of_cell? _ _ (h.ext (by repeat (first | exact Ext.refl _ | assumption | refine Ext.alloc ?_ _ | refine Ext.drew ?_ | refine Ext.drewN ?_ _))).2) (by simp) (by simp)).mono ?_; rintro e w2 ⟨rfl, rfl⟩))
  go_ret
  exact ⟨rfl, (by repeat (first | exact Ext.refl _ | assumption | refine Ext.alloc ?_ _ | refine Ext.drew ?_ | refine Ext.drewN ?_ _))⟩

theorem right_any (w : World) (k e : Int) (q a : Nat) (b : ByteArray) :
    Calls Tryz.prog 79 #[.agg #[.int .i64 k, .int .i64 e, .int .u64 q, .int .u64 a, .string b]] w fun ev w' => ev = .returned (.bool (rightB ⟨k, e, q, a, b⟩)) ∧ Ext w w' := by
  have cF := fun W => formFault_any W k e q a b
  rcases formV_box ⟨k, e, q, a, b⟩ with ⟨hv, hr⟩ | ⟨hv, hr⟩
  all_goals
    rw [hr]
    rw [hv] at cF
    replace cF := Lib.hid cF
    clear hv hr
    go_enter Tryz.func79, Tryz.ntmps79
  · go_wp2_with (first
      | (go_at_call 64; refine (cF.out _).mono ?_; rintro e w2 ⟨rfl, x2⟩; have y2 := Lib.hid (Ext.trans ((Ext.refl w).alloc _) x2); clear x2)
      | (go_at_call 91; refine (is_nil 60 _).mono ?_; rintro e w2 ⟨rfl, rfl⟩))
    go_ret
    exact ⟨rfl, y2.out⟩
  · go_wp2_with (first
      | (go_at_call 64; refine (cF.out _).mono ?_; rintro e w2 ⟨rfl, x2⟩; have y2 := Lib.hid (Ext.trans ((Ext.refl w).alloc _) x2); clear x2)
      | (go_at_call 91; refine (is_wraps 0 60 60 _).mono ?_; rintro e w2 ⟨rfl, rfl⟩))
    go_ret
    exact ⟨rfl, y2.out.alloc _⟩

end Go.Proofs.YtlakolkpfkakoaaGreatDoor

/- What the program reads: the frame that stands in bytes, and what is wrong with them. -/
namespace Go.Proofs.YtlakolkpfkakoaaGreatDoor
open Go.RowKit

set_option maxRecDepth 100000 in
set_option maxHeartbeats 1600000 in
theorem readFrame_any (w : World) (s : ByteArray) (hs : s.size ≤ 281474976710656) (h : 27 ≤ s.size) :
    Calls Tryz.prog 78 #[.string s] w fun ev w' => ev = .returned (frV (frOf s)) ∧ Ext w w' := by
  obtain ⟨n, hn⟩ : ∃ n, s.size = n + 4 := ⟨s.size - 4, by omega⟩
  have e4 : (s.size : Int) - 4 = (n : Int) := by omega
  have e12 : IntKind.i64.wrap (n : Int) = (n : Int) := wrapN _ (by omega) (by omega)
  have hn4 : s.size - 4 = n := by omega
  have l2 : 2 < s.size := by omega
  have b2 := bl_at s l2
  have cE := fun W => readNumber_any W s 3 2 5 rfl (by omega) (by decide) (by omega)
  have cQ := fun W => readNumber_any W s 5 8 13 rfl (by omega) (by decide) (by omega)
  have cA := fun W => readNumber_any W s 13 8 21 rfl (by omega) (by decide) (by omega)
  have cC := fun W => clone_any W (s.extract 23 n) (by rw [ByteArray.size_extract]; omega)
  have hE5 : numN (((bl s).drop 3).take 2) < 65536 := by
    have h1 := numN_lt (l := ((bl s).drop 3).take 2) (fun b hb => bl_lt s b (List.mem_of_mem_drop (List.mem_of_mem_take hb)))
    have h2 : (((bl s).drop 3).take 2).length ≤ 2 := by rw [List.length_take]; omega
    have h3 : 256 ^ (((bl s).drop 3).take 2).length ≤ 256 ^ 2 := Nat.pow_le_pow_right (by decide) h2
    omega
  have hfr : frOf s = ⟨((bl s).getD 2 0 : Nat), (numN (((bl s).drop 3).take 2) : Nat), numN (((bl s).drop 5).take 8), numN (((bl s).drop 13).take 8), s.extract 23 n⟩ := by
    unfold frOf
    rw [hn4]
  obtain ⟨B2, hB2⟩ : ∃ B2, B2 = (bl s).getD 2 0 := ⟨_, rfl⟩
  obtain ⟨E, hE⟩ : ∃ E, E = numN (((bl s).drop 3).take 2) := ⟨_, rfl⟩
  obtain ⟨q, hq⟩ : ∃ q, q = numN (((bl s).drop 5).take 8) := ⟨_, rfl⟩
  obtain ⟨a, ha⟩ : ∃ a, a = numN (((bl s).drop 13).take 8) := ⟨_, rfl⟩
  rw [← hB2] at b2 hfr
  rw [← hE] at cE hfr hE5
  rw [← hq] at cQ hfr
  rw [← ha] at cA hfr
  replace cE := Lib.hid cE
  replace cQ := Lib.hid cQ
  replace cA := Lib.hid cA
  replace cC := Lib.hid cC
  have e10 : IntKind.i64.wrap (E : Int) = (E : Int) := wrapN _ (by omega) (by omega)
  have hB256 : B2 < 256 := by rw [← b2]; exact (s[2]'l2).toNat_lt
  have e11 : IntKind.i64.wrap (B2 : Int) = (B2 : Int) := wrapN _ (by omega) (by omega)
  have f0 : (2 : Int) < (s.size : Int) := by omega
  have f4 : (23 : Int) ≤ (n : Int) := by omega
  have f5 : (n : Int) ≤ (s.size : Int) := by omega
  replace hfr := Lib.hid hfr
  clear h hB2 hE hq ha
  replace hn := Lib.hid hn
  clear hn4
  go_enter Tryz.func78, Tryz.ntmps78
  go_wp2_with fail
  refine wp_region_M_lit (by kernel_rfl) ?_
  refine tv 0 (h := ?_)
  refine tv 1 (hv := by intro w' hw'; skip; go_simp; first | done | with_reducible rfl) (h := ?_)
  refine tv 2 (h := ?_)
  refine tv 3 (h := ?_)
  (refine takeG 4 (v := ?_) (hv := fun w' hw' => ?_) (h := ?_); rotate_left; focus (go_simp; refine ⟨Ext.refl _, ?_⟩; (have hq := gives_same (cE.out w'); exact hq))); (simp only [Act.put, List.setIfInBounds_toArray, List.set])
  refine tv 5 (h := ?_)
  refine tv 6 (h := ?_)
  (refine takeG 7 (v := ?_) (hv := fun w' hw' => ?_) (h := ?_); rotate_left; focus (go_simp; refine ⟨Ext.refl _, ?_⟩; (have hq := gives_same (cQ.out w'); exact hq))); (simp only [Act.put, List.setIfInBounds_toArray, List.set])
  refine tv 8 (h := ?_)
  (refine takeG 9 (v := ?_) (hv := fun w' hw' => ?_) (h := ?_); rotate_left; focus (go_simp; refine ⟨Ext.refl _, ?_⟩; (have hq := gives_same (cA.out w'); exact hq))); (simp only [Act.put, List.setIfInBounds_toArray, List.set])
  refine tv 10 (h := ?_)
  refine tv 11 (h := ?_)
  refine tv 12 (h := ?_)
  refine tv 13 (h := ?_)
  refine tv 14 (h := ?_)
  (refine takeG 15 (v := ?_) (hv := fun w' hw' => ?_) (h := ?_); rotate_left; focus (go_simp; refine ⟨Ext.refl _, ?_⟩; (exact cC.out w'))); (simp only [Act.put, List.setIfInBounds_toArray, List.set])
  refine tv 16 (h := ?_)
  (refine runLate 17 (h := ?_); intro w' hw'; obtain ⟨k5, k6⟩ := five_cells (late_blk hw'); go_simp; try (simp only [Act.put, List.setIfInBounds_toArray, List.set]))
  (refine lateDone (by kernel_rfl) ?_)
  have z := set5_blk (late_blk hw') (.int .i64 B2) (.int .i64 E) (.int .u64 q) (.int .u64 a) (.string (s.extract 23 n))
  have y3 : Ext w (set5 w' w.heap.size (.int .i64 B2) (.int .i64 E) (.int .u64 q) (.int .u64 a) (.string (s.extract 23 n))) :=
    set5_ext (Ext.trans ((Ext.refl w).alloc _) hw') (Nat.le_refl _) _ _ _ _ _
  obtain ⟨W5, hW5⟩ : ∃ W5, W5 = set5 w' w.heap.size (.int .i64 B2) (.int .i64 E) (.int .u64 q) (.int .u64 a) (.string (s.extract 23 n)) := ⟨_, rfl⟩
  rw [← hW5] at z y3
  simp only [set5] at hW5
  rw [← hW5]
  clear hW5 hw' k5 k6
  have Y3 := Lib.hid y3
  clear y3
  obtain ⟨z0, z1, z2, z3, z4⟩ := (five_cells z).1
  go_wp2
  refine bodyPost_ret (v := .agg #[.int .i64 B2, .int .i64 E, .int .u64 q, .int .u64 a, .string (s.extract 23 n)]) (by simp [results, Tryz.results78, go_sem, z0, z1, z2, z3, z4]) rfl ⟨?_, Y3.out⟩
  rw [hfr.out]
  rfl
end Go.Proofs.YtlakolkpfkakoaaGreatDoor

/- What the program says is wrong with bytes. -/
namespace Go.Proofs.YtlakolkpfkakoaaGreatDoor
open Go.RowKit

def wrongV (s : ByteArray) : Value := if whatN s = 0 then .nilIface else .iface 149 (.agg #[.int .i64 ((whereN s : Nat) : Int), .int .i64 ((whatN s : Nat) : Int)])
def WrongR (s : ByteArray) (w : World) (e : Ending) (w' : World) : Prop := e = .returned (wrongV s) ∧ Ext w w'

theorem wrong_is {s : ByteArray} {p y : Nat} {x : Int} (h1 : whatN s = y) (h2 : whereN s = p) (hy : y ≠ 0) (hx : x = (p : Int)) : Ending.returned (.iface 149 (.agg #[.int .i64 x, .int .i64 y])) = .returned (wrongV s) := by
  unfold wrongV
  rw [if_neg (by rw [h1]; exact hy), h1, h2, hx]

set_option maxHeartbeats 400000 in
theorem bytesFault_short (w : World) (s : ByteArray) (h : s.size < 27) : Calls Tryz.prog 77 #[.string s] w (WrongR s w) := by
  have e1 : (s.size : Int) < 27 := by omega
  have H1 := Lib.hid (show whatN s = 61 by unfold whatN; rw [if_pos h])
  have H2 := Lib.hid (show whereN s = s.size by unfold whereN; rw [if_pos h])
  clear h
  go_enter Tryz.func77, Tryz.ntmps77
  go_wp2
  go_ret
  exact ⟨wrong_is H1.out H2.out (by decide) rfl, (by repeat (first | exact Ext.refl _ | assumption | refine Ext.alloc ?_ _ | refine Ext.drew ?_ | refine Ext.drewN ?_ _))⟩

set_option maxHeartbeats 400000 in
theorem bytesFault_magic (w : World) (s : ByteArray) (h : ¬ s.size < 27) (h0 : (bl s).getD 0 0 ≠ 78) : Calls Tryz.prog 77 #[.string s] w (WrongR s w) := by
  have e1 : ¬ (s.size : Int) < 27 := by omega
  have H1 := Lib.hid (show whatN s = 62 by unfold whatN; rw [if_neg h, if_pos h0])
  have H2 := Lib.hid (show whereN s = 0 by unfold whereN; rw [if_neg h, if_pos h0])
  have l0 : 0 < s.size := by omega
  have b0 := bl_at s l0
  obtain ⟨B0, hB0⟩ : ∃ B0, B0 = (bl s).getD 0 0 := ⟨_, rfl⟩
  rw [← hB0] at b0 h0
  clear h hB0
  have c0 : ((B0 : Int) = 78) = False := by simp; omega
  go_enter Tryz.func77, Tryz.ntmps77
  go_wp2
  go_ret
  exact ⟨wrong_is H1.out H2.out (by decide) rfl, (by repeat (first | exact Ext.refl _ | assumption | refine Ext.alloc ?_ _ | refine Ext.drew ?_ | refine Ext.drewN ?_ _))⟩

set_option maxHeartbeats 400000 in
theorem bytesFault_version (w : World) (s : ByteArray) (h : ¬ s.size < 27) (h0 : (bl s).getD 0 0 = 78) (h1 : (bl s).getD 1 0 ≠ 1) : Calls Tryz.prog 77 #[.string s] w (WrongR s w) := by
  have e1 : ¬ (s.size : Int) < 27 := by omega
  have H1 := Lib.hid (show whatN s = 63 by unfold whatN; rw [if_neg h, if_neg (by simpa using h0), if_pos h1])
  have H2 := Lib.hid (show whereN s = 1 by unfold whereN; rw [if_neg h, if_neg (by simpa using h0), if_pos h1])
  have l0 : 0 < s.size := by omega
  have l1 : 1 < s.size := by omega
  have b0 := bl_at s l0
  have b1 := bl_at s l1
  rw [h0] at b0
  obtain ⟨B1, hB1⟩ : ∃ B1, B1 = (bl s).getD 1 0 := ⟨_, rfl⟩
  rw [← hB1] at b1 h1
  clear h hB1 h0
  have c1 : ((B1 : Int) = 1) = False := by simp; omega
  go_enter Tryz.func77, Tryz.ntmps77
  go_wp2
  go_ret
  exact ⟨wrong_is H1.out H2.out (by decide) rfl, (by repeat (first | exact Ext.refl _ | assumption | refine Ext.alloc ?_ _ | refine Ext.drew ?_ | refine Ext.drewN ?_ _))⟩

set_option maxHeartbeats 400000 in
theorem bytesFault_length (w : World) (s : ByteArray) (hs : s.size ≤ 281474976710656) (h : ¬ s.size < 27) (h0 : (bl s).getD 0 0 = 78) (h1 : (bl s).getD 1 0 = 1) (h2 : numN (((bl s).drop 21).take 2) ≠ s.size - 27) :
    Calls Tryz.prog 77 #[.string s] w (WrongR s w) := by
  have e1 : ¬ (s.size : Int) < 27 := by omega
  have H1 := Lib.hid (show whatN s = 64 by unfold whatN; rw [if_neg h, if_neg (by simpa using h0), if_neg (by simpa using h1), if_pos h2])
  have H2 := Lib.hid (show whereN s = 21 by unfold whereN; rw [if_neg h, if_neg (by simpa using h0), if_neg (by simpa using h1), if_pos h2])
  have l0 : 0 < s.size := by omega
  have l1 : 1 < s.size := by omega
  have b0 := bl_at s l0
  have b1 := bl_at s l1
  rw [h0] at b0
  rw [h1] at b1
  have cN := fun W => readNumber_any W s 21 2 23 rfl (by omega) (by decide) (by omega)
  obtain ⟨N, hN⟩ : ∃ N, N = numN (((bl s).drop 21).take 2) := ⟨_, rfl⟩
  rw [← hN] at cN h2
  replace cN := Lib.hid cN
  obtain ⟨n, hn⟩ : ∃ n, s.size = n + 27 := ⟨s.size - 27, by omega⟩
  have e4 : (s.size : Int) - 27 = (n : Int) := by omega
  have e5 : IntKind.u64.wrap (n : Int) = (n : Int) := wrapU _ (by omega) (by omega)
  have c1 : ((N : Int) != (n : Int)) = true := bne_iff_ne.2 (by omega)
  clear h hN h0 h1 h2
  replace hn := Lib.hid hn
  go_enter Tryz.func77, Tryz.ntmps77
  go_wp2_with (first
    | (go_at_call 90; refine (cN.out _).mono ?_; rintro e w2 ⟨rfl, rfl⟩))
  go_ret
  exact ⟨wrong_is H1.out H2.out (by decide) rfl, (by repeat (first | exact Ext.refl _ | assumption | refine Ext.alloc ?_ _ | refine Ext.drew ?_ | refine Ext.drewN ?_ _))⟩

set_option maxHeartbeats 800000 in
theorem bytesFault_sum (w : World) (hT : Tab w) (s : ByteArray) (hs : s.size ≤ 281474976710656) (h : ¬ s.size < 27) (h0 : (bl s).getD 0 0 = 78) (h1 : (bl s).getD 1 0 = 1) (h2 : numN (((bl s).drop 21).take 2) = s.size - 27) (h3 : goodB s = false) :
    Calls Tryz.prog 77 #[.string s] w (WrongR s w) := by
  have e1 : ¬ (s.size : Int) < 27 := by omega
  have H1 := Lib.hid (show whatN s = 65 by unfold whatN; rw [if_neg h, if_neg (by simpa using h0), if_neg (by simpa using h1), if_neg (by simpa using h2), if_pos h3])
  have H2 := Lib.hid (show whereN s = s.size - 4 by unfold whereN; rw [if_neg h, if_neg (by simpa using h0), if_neg (by simpa using h1), if_neg (by simpa using h2), if_pos h3])
  have l0 : 0 < s.size := by omega
  have l1 : 1 < s.size := by omega
  have b0 := bl_at s l0
  have b1 := bl_at s l1
  rw [h0] at b0
  rw [h1] at b1
  have cN := fun W => readNumber_any W s 21 2 23 rfl (by omega) (by decide) (by omega)
  obtain ⟨N, hN⟩ : ∃ N, N = numN (((bl s).drop 21).take 2) := ⟨_, rfl⟩
  rw [← hN] at cN h2
  replace cN := Lib.hid cN
  obtain ⟨n, hn⟩ : ∃ n, s.size = n + 4 := ⟨s.size - 4, by omega⟩
  have e4 : (s.size : Int) - 4 = (n : Int) := by omega
  have e6 : IntKind.u64.wrap ((s.size : Int) - 27) = (N : Int) := by rw [wrapU _ (by omega) (by omega)]; omega
  have c1 : ((N : Int) != (N : Int)) = false := by simp
  have hn4 : s.size - 4 = n := by omega
  have hg : goodB s = decide (s.extract n s.size = textN (tailN (moreN 0 (bl (s.extract 0 n))))) := by
    unfold goodB last4 ahead
    rw [decide_eq_true (show 4 ≤ s.size by omega), Bool.true_and, hn4]
  have hM : moreN 0 (bl (s.extract 0 n)) < 4294967296 := moreN_lt (by decide) (bl_lt _)
  have cM := fun W (hW : Tab W) => sum_any W (s.extract 0 n) hW (by rw [ByteArray.size_extract]; omega)
  obtain ⟨M, hM2⟩ : ∃ M, M = moreN 0 (bl (s.extract 0 n)) := ⟨_, rfl⟩
  rw [← hM2] at hg hM
  have cM : Hid (∀ W, Ext w W → Calls Tryz.prog 68 #[.string (s.extract 0 n)] W fun e w' => e = .returned (.int .u32 (M : Nat)) ∧ W = w') := Lib.hid (fun W x => by rw [hM2]; exact cM W (hT.ext x))
  have e7 : ((s.extract n s.size).toList == (textN (tailN M)).toList) = false := by rw [tl_eq, ← hg, h3]
  have e8 : (0 : Int) ≤ (n : Int) := by omega
  have e9 : (n : Int) ≤ (s.size : Int) := by omega
  have e10 : IntKind.i64.wrap (n : Int) = (n : Int) := wrapN _ (by omega) (by omega)
  clear h hN h0 h1 h2 hg hM2 h3
  rw [hn4] at H2
  replace hn := Lib.hid hn
  clear hn4
  go_enter Tryz.func77, Tryz.ntmps77
  go_wp2_with (first
    | (go_at_call 90; refine (cN.out _).mono ?_; rintro e w2 ⟨rfl, rfl⟩))
  refine wp_region_M_lit (by kernel_rfl) ?_
  refine tv 0 (h := ?_)
  refine tv 1 (h := ?_)
  refine tv 2 (h := ?_)
  refine tv 3 (h := ?_)
  refine tv 4 (h := ?_)
  refine tv 5 (h := ?_)
  (refine takeG 6 (v := ?_) (hv := fun w' hw' => ?_) (h := ?_); rotate_left; focus (go_simp; refine ⟨Ext.refl _, ?_⟩; (have hq := gives_same (cM.out w' hw'); exact hq))); (simp only [Act.put, List.setIfInBounds_toArray, List.set])
  (refine takeG 7 (v := ?_) (hv := fun w' hw' => ?_) (h := ?_); rotate_left; focus (go_simp; refine ⟨Ext.refl _, ?_⟩; (exact tail_any w' M hM))); (simp only [Act.put, List.setIfInBounds_toArray, List.set])
  refine tv 8 (hv := by intro w' hw'; skip; go_simp; first | done | with_reducible rfl) (h := ?_)
  (refine doneM (by kernel_rfl) ?_; intro w' hw'; show _)
  have Y1 := Lib.hid hw'
  clear hw'
  go_wp2
  go_ret
  exact ⟨wrong_is H1.out H2.out (by decide) rfl, Y1.out⟩
end Go.Proofs.YtlakolkpfkakoaaGreatDoor

/- Get and Why, whatever the bytes. -/
namespace Go.Proofs.YtlakolkpfkakoaaGreatDoor
open Go.RowKit

set_option maxHeartbeats 1600000 in
theorem bytesFault_last (w : World) (hT : Tab w) (s : ByteArray) (hs : s.size ≤ 281474976710656) (h : ¬ s.size < 27) (h0 : (bl s).getD 0 0 = 78) (h1 : (bl s).getD 1 0 = 1) (h2 : numN (((bl s).drop 21).take 2) = s.size - 27) (h3 : goodB s = true) :
    Calls Tryz.prog 77 #[.string s] w (WrongR s w) := by
  have e1 : ¬ (s.size : Int) < 27 := by omega
  have H1 := Lib.hid (show whatN s = if rightB (frOf s) = false then 66 else 0 by unfold whatN; rw [if_neg h, if_neg (by simpa using h0), if_neg (by simpa using h1), if_neg (by simpa using h2), if_neg (by rw [h3]; decide)])
  have H2 := Lib.hid (show whereN s = if rightB (frOf s) = false then 2 else 0 by unfold whereN; rw [if_neg h, if_neg (by simpa using h0), if_neg (by simpa using h1), if_neg (by simpa using h2), if_neg (by rw [h3]; decide)])
  have l0 : 0 < s.size := by omega
  have l1 : 1 < s.size := by omega
  have b0 := bl_at s l0
  have b1 := bl_at s l1
  rw [h0] at b0
  rw [h1] at b1
  have cN := fun W => readNumber_any W s 21 2 23 rfl (by omega) (by decide) (by omega)
  obtain ⟨N, hN⟩ : ∃ N, N = numN (((bl s).drop 21).take 2) := ⟨_, rfl⟩
  rw [← hN] at cN h2
  replace cN := Lib.hid cN
  have cR := Lib.hid (fun W => readFrame_any W s hs (by omega))
  obtain ⟨n, hn⟩ : ∃ n, s.size = n + 4 := ⟨s.size - 4, by omega⟩
  have e4 : (s.size : Int) - 4 = (n : Int) := by omega
  have e6 : IntKind.u64.wrap ((s.size : Int) - 27) = (N : Int) := by rw [wrapU _ (by omega) (by omega)]; omega
  have c1 : ((N : Int) != (N : Int)) = false := by simp
  have hn4 : s.size - 4 = n := by omega
  have hg : goodB s = decide (s.extract n s.size = textN (tailN (moreN 0 (bl (s.extract 0 n))))) := by
    unfold goodB last4 ahead
    rw [decide_eq_true (show 4 ≤ s.size by omega), Bool.true_and, hn4]
  have hM : moreN 0 (bl (s.extract 0 n)) < 4294967296 := moreN_lt (by decide) (bl_lt _)
  have cM := fun W (hW : Tab W) => sum_any W (s.extract 0 n) hW (by rw [ByteArray.size_extract]; omega)
  obtain ⟨M, hM2⟩ : ∃ M, M = moreN 0 (bl (s.extract 0 n)) := ⟨_, rfl⟩
  rw [← hM2] at hg hM
  have cM : Hid (∀ W, Ext w W → Calls Tryz.prog 68 #[.string (s.extract 0 n)] W fun e w' => e = .returned (.int .u32 (M : Nat)) ∧ W = w') := Lib.hid (fun W x => by rw [hM2]; exact cM W (hT.ext x))
  have e7 : ((s.extract n s.size).toList == (textN (tailN M)).toList) = true := by rw [tl_eq, ← hg, h3]
  have e8 : (0 : Int) ≤ (n : Int) := by omega
  have e9 : (n : Int) ≤ (s.size : Int) := by omega
  have e10 : IntKind.i64.wrap (n : Int) = (n : Int) := wrapN _ (by omega) (by omega)
  obtain ⟨F, hF⟩ : ∃ F, F = frOf s := ⟨_, rfl⟩
  rw [← hF] at H1 H2 cR
  clear h hN h0 h1 h2 hg hM2 h3 hn4 hF
  replace hn := Lib.hid hn
  obtain ⟨k, e, q, a, b⟩ := F
  have cF := fun W => formFault_any W k e q a b
  rcases formV_box ⟨k, e, q, a, b⟩ with ⟨hv, hr⟩ | ⟨hv, hr⟩
  all_goals
    rw [hr] at H1 H2
    rw [hv] at cF
    replace cF := Lib.hid cF
    clear hv hr
    go_enter Tryz.func77, Tryz.ntmps77
    go_wp2_with (first
      | (go_at_call 90; refine (cN.out _).mono ?_; rintro e w2 ⟨rfl, rfl⟩))
    refine wp_region_M_lit (by kernel_rfl) ?_
    refine tv 0 (h := ?_)
    refine tv 1 (h := ?_)
    refine tv 2 (h := ?_)
    refine tv 3 (h := ?_)
    refine tv 4 (h := ?_)
    refine tv 5 (h := ?_)
    (refine takeG 6 (v := ?_) (hv := fun w' hw' => ?_) (h := ?_); rotate_left; focus (go_simp; refine ⟨Ext.refl _, ?_⟩; (have hq := gives_same (cM.out w' hw'); exact hq))); (simp only [Act.put, List.setIfInBounds_toArray, List.set])
    (refine takeG 7 (v := ?_) (hv := fun w' hw' => ?_) (h := ?_); rotate_left; focus (go_simp; refine ⟨Ext.refl _, ?_⟩; (exact tail_any w' M hM))); (simp only [Act.put, List.setIfInBounds_toArray, List.set])
    refine tv 8 (hv := by intro w' hw'; skip; go_simp; first | done | with_reducible rfl) (h := ?_)
    (refine doneM (by kernel_rfl) ?_; intro w' hw'; show _)
    have Y1 := Lib.hid hw'
    clear hw'
  · go_wp2_with (first
      | (go_at_call 78; refine (cR.out _).mono ?_; rintro e w2 ⟨rfl, x2⟩; have Y2 := Lib.hid (Ext.trans Y1.out x2); clear x2)
      | (go_at_call 64; refine (cF.out _).mono ?_; rintro e w2 ⟨rfl, x2⟩; have Y3 := Lib.hid (Ext.trans Y2.out x2); clear x2)
      | (go_at_call 91; refine (is_nil 60 _).mono ?_; rintro e w2 ⟨rfl, rfl⟩))
    go_ret
    refine ⟨?_, Y3.out⟩
    unfold wrongV
    rw [if_pos (by rw [H1.out]; rfl)]
    rfl
  · go_wp2_with (first
      | (go_at_call 78; refine (cR.out _).mono ?_; rintro e w2 ⟨rfl, x2⟩; have Y2 := Lib.hid (Ext.trans Y1.out x2); clear x2)
      | (go_at_call 64; refine (cF.out _).mono ?_; rintro e w2 ⟨rfl, x2⟩; have Y3 := Lib.hid (Ext.trans Y2.out x2); clear x2)
      | (go_at_call 91; refine (is_wraps 0 60 60 _).mono ?_; rintro e w2 ⟨rfl, rfl⟩))
    go_ret
    exact ⟨wrong_is (y := 66) (p := 2) H1.out H2.out (by decide) rfl, Y3.out.alloc _⟩

theorem bytesFault_any (w : World) (hT : Tab w) (s : ByteArray) (hs : s.size ≤ 281474976710656) : Calls Tryz.prog 77 #[.string s] w (WrongR s w) := by
  by_cases h : s.size < 27
  · exact bytesFault_short w s h
  by_cases h0 : (bl s).getD 0 0 = 78
  · by_cases h1 : (bl s).getD 1 0 = 1
    · by_cases h2 : numN (((bl s).drop 21).take 2) = s.size - 27
      · by_cases h3 : goodB s = true
        · exact bytesFault_last w hT s hs h h0 h1 h2 h3
        · exact bytesFault_sum w hT s hs h h0 h1 h2 (by simpa using h3)
      · exact bytesFault_length w s hs h h0 h1 h2
    · exact bytesFault_version w s h h0 h1
  · exact bytesFault_magic w s h h0

theorem wrongV_box (s : ByteArray) : (wrongV s = .nilIface ∧ whatN s = 0) ∨ (wrongV s = .iface 149 (.agg #[.int .i64 ((whereN s : Nat) : Int), .int .i64 ((whatN s : Nat) : Int)]) ∧ whatN s ≠ 0) := by
  unfold wrongV
  by_cases h : whatN s = 0
  · exact .inl ⟨if_pos h, h⟩
  · exact .inr ⟨if_neg h, h⟩

theorem whatN_long {s : ByteArray} (h : whatN s = 0) : 27 ≤ s.size := by
  unfold whatN at h
  split at h
  · cases h
  · omega
set_option maxHeartbeats 800000 in
theorem get_any (w : World) (h : Std w) (s : ByteArray) (hs : s.size ≤ 281474976710656) :
    Calls Tryz.prog 49 #[.string s] w fun ev w' => ev = .returned (.tuple #[frV (getF s), .int .i64 (whatN s : Nat)]) ∧ Ext w w' := by
  have cB := fun W (x : Ext w W) => bytesFault_any W (h.ext x).1 s hs
  unfold WrongR at cB
  have HS : Hid (∀ W, Ext w W → Std W) := Lib.hid (fun W x => h.ext x)
  rcases wrongV_box s with ⟨hv, hr⟩ | ⟨hv, hr⟩
  · rw [hv] at cB
    replace cB := Lib.hid cB
    have cR := Lib.hid (fun W => readFrame_any W s hs (whatN_long hr))
    have HF := Lib.hid (show getF s = frOf s by unfold getF; rw [if_pos hr])
    have HR := Lib.hid hr
    clear hv hr h
    obtain ⟨F, hF⟩ : ∃ F, F = frOf s := ⟨_, rfl⟩
    rw [← hF] at cR HF
    clear hF
    obtain ⟨k, e, q, a, b⟩ := F
    unfold frV at cR
    dsimp only at cR
    go_enter Tryz.func49, Tryz.ntmps49
    go_wp2_with (first
      | (go_at_call 77; refine (cB.out _ (by repeat (first | exact Ext.refl _ | assumption | refine Ext.alloc ?_ _ | refine Ext.drew ?_ | refine Ext.drewN ?_ _))).mono ?_; rintro e w2 ⟨rfl, x2⟩; have hb := late_blk x2; have H2 := Lib.hid hb; have Y2 := Lib.hid (Ext.trans ((Ext.refl w).alloc _) x2); clear x2 hb)
      | (go_at_call 78; refine (cR.out _).mono ?_; rintro e w3 ⟨rfl, x3⟩; have Y3 := Lib.hid (Ext.trans Y2.out x3); have hb := (x3.block _ (blk_lt H2.out)).trans H2.out; have H3 := Lib.hid hb; obtain ⟨k3, k4⟩ := five_cells hb; clear x3 hb))
    have z := set5_blk H3.out (.int .i64 k) (.int .i64 e) (.int .u64 q) (.int .u64 a) (.string b)
    have y5 := set5_ext Y3.out (Nat.le_refl _) (.int .i64 k) (.int .i64 e) (.int .u64 q) (.int .u64 a) (.string b)
    obtain ⟨z0, z1, z2, z3, z4⟩ := (five_cells z).1
    simp only [set5] at z0 z1 z2 z3 z4
    refine bodyPost_ret (v := .tuple #[.agg #[.int .i64 k, .int .i64 e, .int .u64 q, .int .u64 a, .string b], .int .i64 0]) (by simp [results, Tryz.results49, go_sem, z0, z1, z2, z3, z4]) rfl ⟨?_, y5⟩
    rw [HF.out, HR.out]
    rfl
  · rw [hv] at cB
    replace cB := Lib.hid cB
    have HF := Lib.hid (show getF s = Fr.zero by unfold getF; rw [if_neg hr])
    have cW := Lib.hid (fun W (x : Ext w W) => wrapped_any W (h.ext x) ((whereN s : Nat) : Int) ((whatN s : Nat) : Int))
    clear hv hr h
    obtain ⟨P, hP⟩ : ∃ P, P = whereN s := ⟨_, rfl⟩
    obtain ⟨Y, hY⟩ : ∃ Y, Y = whatN s := ⟨_, rfl⟩
    rw [← hP, ← hY] at cB cW
    rw [← hY]
    clear hP hY
    go_enter Tryz.func49, Tryz.ntmps49
    go_wp2_with (first
      | (go_at_call 77; refine (cB.out _ (by repeat (first | exact Ext.refl _ | assumption | refine Ext.alloc ?_ _ | refine Ext.drew ?_ | refine Ext.drewN ?_ _))).mono ?_; rintro e w2 ⟨rfl, x2⟩; have hb := late_blk x2; have H2 := Lib.hid hb; have Y2 := Lib.hid (Ext.trans ((Ext.refl w).alloc _) x2); clear x2 hb)
      | (go_at_call 65; refine (cW.out _ Y2.out).mono ?_; rintro e w3 ⟨rfl, x3⟩; have Y3 := Lib.hid (Ext.trans Y2.out x3); have hb := (x3.block _ (blk_lt H2.out)).trans H2.out; have H3 := Lib.hid hb; obtain ⟨k3, k4⟩ := five_cells hb; clear x3 hb))
    have z := set5_blk H3.out (.int .i64 0) (.int .i64 0) (.int .u64 0) (.int .u64 0) (.string ⟨#[]⟩)
    have y5 := set5_ext Y3.out (Nat.le_refl _) (.int .i64 0) (.int .i64 0) (.int .u64 0) (.int .u64 0) (.string ⟨#[]⟩)
    obtain ⟨z0, z1, z2, z3, z4⟩ := (five_cells z).1
    simp only [set5] at z0 z1 z2 z3 z4
    refine bodyPost_ret (v := .tuple #[frV Fr.zero, .int .i64 Y]) (by simp [results, Tryz.results49, go_sem, frV, Fr.zero, z0, z1, z2, z3, z4]) rfl ⟨?_, y5⟩
    rw [HF.out]

end Go.Proofs.YtlakolkpfkakoaaGreatDoor

/- Put, whatever the frame. -/
namespace Go.Proofs.YtlakolkpfkakoaaGreatDoor
open Go.RowKit

theorem make_b (w : World) (n : Nat) (hn : n ≤ 1000) :
    ∃ w', (Instr.makeSlice 114 (.int .i64 0) (.int .i64 (27 + (n : Int)))).run Tryz.prog w = .ok (.slice (some ⟨w.heap.size, 0, none⟩) 0 (27 + n)) w' ∧ Ow w' w.heap.size (.slice (some ⟨w.heap.size, 0, none⟩) 0 (27 + n)) (b8 []) ∧ Ext w w' := by
  obtain ⟨i0, hi, hz0, hz1, hz2⟩ := info_parts (Elem.info (α := B8))
  have hz2 : i0.bytes = 1 := hz2
  obtain ⟨w', h1, h2, h3⟩ := run_make_own (P := Tryz.prog) w w.heap.size 114 (Elem.e B8) i0 (Elem.z B8) (Elem.k B8) (Elem.row (α := B8)) hi hz0 hz1 .i64 .i64 (27 + n) (by rw [hz2]; omega) (by unfold maxLen; omega) (Nat.le_refl _)
  refine ⟨w', ?_, ?_, (Below.refl _ w).grown h3 (Nat.le_refl _) (by simp)⟩
  · rw [← h1]
    rfl
  · exact h2

set_option maxHeartbeats 2000000 in
set_option maxRecDepth 100000 in
theorem put_good (w : World) (h : Std w) (K E q a : Nat) (b : ByteArray) (hK : K < 256) (hE : E < 65536) (hb : b.size ≤ 64) (hr : rightB ⟨K, E, q, a, b⟩ = true) :
    Calls Tryz.prog 39 #[.agg #[.int .i64 K, .int .i64 E, .int .u64 q, .int .u64 a, .string b]] w fun ev w' => ev = .returned (.tuple #[.string (putS K E q a b), .int .i64 0]) ∧ Ext w w' := by
  have cF := fun W => formFault_any W K E q a b
  rw [show formV ⟨K, E, q, a, b⟩ = .nilIface from by unfold formV; rw [if_pos hr]] at cF
  replace cF := Lib.hid cF
  have s1 : IntKind.u64.wrap (E : Int) = (E : Int) := wrapU _ (by omega) (by omega)
  have s2 : IntKind.u64.wrap (b.size : Int) = (b.size : Int) := wrapU _ (by omega) (by omega)
  have s3 : IntKind.u8.wrap (K : Int) = (K : Int) := by simp [IntKind.wrap, IntKind.bits, IntKind.signed]; omega
  have s4 : (K : Int) % 256 = (K : Int) := by omega
  have HTB : Hid (∀ W, Ext w W → Tab W) := Lib.hid (fun W x => (h.ext x).1)
  have HL3 : (b8 []).length + (b8 [78, 1, K]).length ≤ 100000000 := show (3 : Nat) ≤ 100000000 by decide
  obtain ⟨PL, hPL⟩ : ∃ PL, PL = putL K E q a b := ⟨_, rfl⟩
  have hlen : PL.length = 23 + b.size := by rw [hPL, putL_length]
  have HNE : Hid (PL ≠ []) := Lib.hid (by intro e0; rw [e0] at hlen; simp at hlen; omega)
  have HPB : ∀ x ∈ PL, x < 256 := by rw [hPL]; exact putL_lt hK
  have hM : moreN 0 PL < 4294967296 := moreN_lt (by decide) HPB
  have cM0 := fun W (hW : Tab W) => sum_any W (textN PL) hW (by rw [textN_size]; omega)
  rw [bl_textN HPB] at cM0
  obtain ⟨M, hM2⟩ : ∃ M, M = moreN 0 PL := ⟨_, rfl⟩
  rw [← hM2] at hM cM0
  have cM := Lib.hid (fun W (x : Ext w W) => cM0 W (HTB.out W x))
  have HLEN : Hid (PL.length + (tailN M).length ≤ 100000000) := Lib.hid (by rw [hlen]; show 23 + b.size + 4 ≤ _; omega)
  have HPL := Lib.hid hPL
  have HM := Lib.hid hM2
  clear h hr hPL hlen HPB hM2 cM0
  go_enter Tryz.func39, Tryz.ntmps39
  go_wp2_with (first
    | (go_at_call 64; refine (cF.out _).mono ?_; rintro e w2 ⟨rfl, x2⟩; have hb2 := late_blk x2; have H2 := Lib.hid hb2; have Y2 := Lib.hid (Ext.trans ((Ext.refl w).alloc _) x2); obtain ⟨w3, hmk, ho3, x3⟩ := make_b w2 b.size (by omega); have O3 := Lib.hid ho3; have X3 := Lib.hid x3; obtain ⟨k3, k4⟩ := five_cells hb2; obtain ⟨j3, j4⟩ := five_cells ((x3.block _ (blk_lt hb2)).trans hb2); have hs3 := x3.size; clear x2 hb2 x3 ho3)
    | (at_builtin; refine wpList_append_sl (α := B8) rfl (.tmp 17) (.tmp 21) rfl w2.heap.size _ (b8 []) rfl ?_ (.slice (some ⟨_, 0, none⟩) 3 3) (b8 [78, 1, K]) rfl ?_ ?_ ?_ ?_; exact (O3.out.alloc _); exact (Sl.litAt w3 _ rfl (b8 [78, 1, K]) (show (3 : Nat) ≤ 1000000 by decide)); (first | omega | (simp; omega)); (rw [size_alloc]; omega); intro v4 w4 ho4 ha4; rw [← b8_append] at ho4; have O4 := Lib.hid ho4; have y4 : Below w2.heap.size w2 w4 := (Below.trans (X3.out.alloc _) ha4.below); have Y4 := Lib.hid y4; obtain ⟨q3, q4⟩ := five_cells ((y4.block _ (blk_lt H2.out)).trans H2.out); have hs4 := y4.size; obtain ⟨a4, n4, c4, rfl⟩ := ho4.sh; clear ho4 ha4 y4)
    | (go_at_call 66; have hgd := gone7; refine (writeNumber_any _ w2.heap.size _ ([78, 1, K] ++ highN E 2 ++ highN q 8 ++ highN a 8) b.size 21 23 2 rfl O7.out (Nat.le_trans Y7.out.size (Nat.le_refl _)) (by decide) (by simp [highN_length])).mono ?_; rintro e w8 ⟨v8, rfl, ho8, x8⟩; have O8 := Lib.hid ho8; have y8 : Below w2.heap.size w2 w8 := Below.trans Y7.out x8; have Y8 := Lib.hid y8; obtain ⟨q3, q4⟩ := five_cells ((y8.block _ (blk_lt H2.out)).trans H2.out); obtain ⟨a8, n8, c8, rfl⟩ := ho8.sh; have gone8 := Lib.hid True.intro; clear ho8 x8 y8)
    | (go_at_call 66; have hgd := gone6; refine (writeNumber_any _ w2.heap.size _ ([78, 1, K] ++ highN E 2 ++ highN q 8) a 13 21 8 rfl O6.out (Nat.le_trans Y6.out.size (Nat.le_refl _)) (by decide) (by simp [highN_length])).mono ?_; rintro e w7 ⟨v7, rfl, ho7, x7⟩; have O7 := Lib.hid ho7; have y7 : Below w2.heap.size w2 w7 := Below.trans Y6.out x7; have Y7 := Lib.hid y7; obtain ⟨q3, q4⟩ := five_cells ((y7.block _ (blk_lt H2.out)).trans H2.out); obtain ⟨a7, n7, c7, rfl⟩ := ho7.sh; have gone7 := Lib.hid True.intro; clear ho7 x7 y7)
    | (go_at_call 66; have hgd := gone5; refine (writeNumber_any _ w2.heap.size _ ([78, 1, K] ++ highN E 2) q 5 13 8 rfl O5.out (Nat.le_trans Y5.out.size (Nat.le_refl _)) (by decide) (by simp [highN_length])).mono ?_; rintro e w6 ⟨v6, rfl, ho6, x6⟩; have O6 := Lib.hid ho6; have y6 : Below w2.heap.size w2 w6 := Below.trans Y5.out x6; have Y6 := Lib.hid y6; obtain ⟨q3, q4⟩ := five_cells ((y6.block _ (blk_lt H2.out)).trans H2.out); obtain ⟨a6, n6, c6, rfl⟩ := ho6.sh; have gone6 := Lib.hid True.intro; clear ho6 x6 y6)
    | (go_at_call 66; refine (writeNumber_any _ w2.heap.size _ ([78, 1, K]) E 3 5 2 rfl O4.out (Nat.le_trans Y4.out.size (Nat.le_refl _)) (by decide) (by simp)).mono ?_; rintro e w5 ⟨v5, rfl, ho5, x5⟩; have O5 := Lib.hid ho5; have y5 : Below w2.heap.size w2 w5 := Below.trans Y4.out x5; have Y5 := Lib.hid y5; obtain ⟨q3, q4⟩ := five_cells ((y5.block _ (blk_lt H2.out)).trans H2.out); obtain ⟨a5, n5, c5, rfl⟩ := ho5.sh; have gone5 := Lib.hid True.intro; clear ho5 x5 y5)
    | (at_builtin; have hgd := gone10; go_loud (refine wpList_append_text rfl (.tmp 46) (.tmp 50) rfl w2.heap.size _ PL rfl (O9.out.ext X10.out) (textN (tailN M)) rfl (by rw [textN_size]; exact HLEN.out) (Nat.le_trans Y9.out.size X10.out.size) ?_; intro v11 w11 ho11 x11; have hp := text_ow ho11 (by intro e0; exact HNE.out (List.append_eq_nil_iff.1 e0).1); obtain ⟨g11, c11, rfl, hg11, hcv11⟩ := hp; rw [List.length_append] at hcv11; have Y11 := Lib.hid (Below.trans (Below.trans Y9.out (X10.out.mono Y9.out.size)) x11); clear ho11 x11))
    | (at_builtin; have hgd := gone8; go_loud (refine wpList_append_text rfl (.tmp 42) (.tmp 44) rfl w2.heap.size _ ([78, 1, K] ++ highN E 2 ++ highN q 8 ++ highN a 8 ++ highN b.size 2) rfl O8.out b rfl (by simp [highN_length]; omega) Y8.out.size ?_; intro v9 w9 ho9 x9; have hp9 : Ow w9 w2.heap.size v9 (b8 (putL K E q a b)) := ho9; rw [← HPL.out] at hp9; have hp := text_ow hp9 HNE.out; obtain ⟨g9, c9, rfl, hg9, hcv9⟩ := hp; have O9 := Lib.hid hp9; have Y9 := Lib.hid (Below.trans Y8.out x9); clear ho9 x9 hp9))
    | (go_at_call 68; refine (cM.out w9 (Below.trans Y2.out (Y9.out.mono Y2.out.size))).mono ?_; rintro e w10 ⟨rfl, rfl⟩)
    | (go_at_call 67; refine (tail_any _ M hM).mono ?_; rintro e w10 ⟨rfl, x10⟩; have X10 := Lib.hid x10; have gone10 := Lib.hid True.intro; clear x10))
  go_ret2
  refine ⟨?_, Below.trans Y2.out (Y11.out.mono Y2.out.size)⟩
  have e9 : putS K E q a b = textN (PL ++ bl (textN (tailN M))) := by
    unfold putS
    rw [← HPL.out, ← HM.out, textN_append, bl_textN (tailN_lt hM)]
  rw [e9]
  rfl

set_option maxHeartbeats 800000 in
theorem put_bad (w : World) (h : Std w) (k e : Int) (q a : Nat) (b : ByteArray) (hr : rightB ⟨k, e, q, a, b⟩ = false) :
    Calls Tryz.prog 39 #[.agg #[.int .i64 k, .int .i64 e, .int .u64 q, .int .u64 a, .string b]] w fun ev w' => ev = .returned (.tuple #[.string ⟨#[]⟩, .int .i64 60]) ∧ Ext w w' := by
  have cF := fun W => formFault_any W k e q a b
  rw [show formV ⟨k, e, q, a, b⟩ = .iface 149 (.agg #[.int .i64 0, .int .i64 60]) from by unfold formV; rw [if_neg (by rw [hr]; decide)]] at cF
  replace cF := Lib.hid cF
  have cW := Lib.hid (fun W (x : Ext w W) => wrapped_any W (h.ext x) 0 60)
  clear h hr
  go_enter Tryz.func39, Tryz.ntmps39
  go_wp2_with (first
    | (go_at_call 64; refine (cF.out _).mono ?_; rintro e w2 ⟨rfl, x2⟩; have Y2 := Lib.hid (Ext.trans ((Ext.refl w).alloc _) x2); clear x2)
    | (go_at_call 65; refine (cW.out _ Y2.out).mono ?_; rintro e w3 ⟨rfl, x3⟩; have Y3 := Lib.hid (Ext.trans Y2.out x3); clear x3))
  go_ret2
  exact ⟨rfl, Y3.out⟩

end Go.Proofs.YtlakolkpfkakoaaGreatDoor
