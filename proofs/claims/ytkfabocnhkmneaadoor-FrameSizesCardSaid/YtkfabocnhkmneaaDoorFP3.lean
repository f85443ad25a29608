/- What the program says is wrong with bytes. -/
import Derived.Test.YtkfabocnhkmneaaDoorFP2
namespace Go.Proofs.YtkfabocnhkmneaaDoor
open Go.RowKit

def wrongV (s : ByteArray) : Value := if whatN s = 0 then .nilIface else .iface 57 (.agg #[.int .i64 ((whereN s : Nat) : Int), .int .i64 ((whatN s : Nat) : Int)])
def WrongR (s : ByteArray) (w : World) (e : Ending) (w' : World) : Prop := e = .returned (wrongV s) ∧ Ext w w'

theorem wrong_is {s : ByteArray} {p y : Nat} {x : Int} (h1 : whatN s = y) (h2 : whereN s = p) (hy : y ≠ 0) (hx : x = (p : Int)) : Ending.returned (.iface 57 (.agg #[.int .i64 x, .int .i64 (y : Int)])) = .returned (wrongV s) := by
  unfold wrongV
  rw [if_neg (by rw [h1]; exact hy), h1, h2, hx]

set_option maxHeartbeats 400000 in
theorem bytesFault_short (w : World) (s : ByteArray) (h : s.size < 27) : Calls Tryd.prog 27 #[.string s] w (WrongR s w) := by
  have e1 : (s.size : Int) < 27 := by omega
  have H1 := Lib.hid (show whatN s = 61 by unfold whatN; rw [if_pos h])
  have H2 := Lib.hid (show whereN s = s.size by unfold whereN; rw [if_pos h])
  clear h
  go_enter Tryd.func27, Tryd.ntmps27
  go_wp2
  go_ret
  exact ⟨wrong_is H1.out H2.out (by decide) rfl, (by repeat (first | exact Ext.refl _ | assumption | refine Ext.alloc ?_ _ | refine Ext.drew ?_ | refine Ext.drewN ?_ _))⟩

set_option maxHeartbeats 400000 in
theorem bytesFault_magic (w : World) (s : ByteArray) (h : ¬ s.size < 27) (h0 : (bl s).getD 0 0 ≠ 78) : Calls Tryd.prog 27 #[.string s] w (WrongR s w) := by
  have e1 : ¬ (s.size : Int) < 27 := by omega
  have H1 := Lib.hid (show whatN s = 62 by unfold whatN; rw [if_neg h, if_pos h0])
  have H2 := Lib.hid (show whereN s = 0 by unfold whereN; rw [if_neg h, if_pos h0])
  have l0 : 0 < s.size := by omega
  have b0 := bl_at s l0
  obtain ⟨B0, hB0⟩ : ∃ B0, B0 = (bl s).getD 0 0 := ⟨_, rfl⟩
  rw [← hB0] at b0 h0
  clear h hB0
  have c0 : ((B0 : Int) = 78) = False := by simp; omega
  go_enter Tryd.func27, Tryd.ntmps27
  go_wp2
  go_ret
  exact ⟨wrong_is H1.out H2.out (by decide) rfl, (by repeat (first | exact Ext.refl _ | assumption | refine Ext.alloc ?_ _ | refine Ext.drew ?_ | refine Ext.drewN ?_ _))⟩

set_option maxHeartbeats 400000 in
theorem bytesFault_version (w : World) (s : ByteArray) (h : ¬ s.size < 27) (h0 : (bl s).getD 0 0 = 78) (h1 : (bl s).getD 1 0 ≠ 1) : Calls Tryd.prog 27 #[.string s] w (WrongR s w) := by
  have e1 : ¬ (s.size : Int) < 27 := by omega
  have H1 := Lib.hid (show whatN s = 63 by unfold whatN; rw [if_neg h, if_neg (by simpa using h0), if_pos h1])
  have H2 := Lib.hid (show whereN s = 1 by unfold whereN; rw [if_neg h, if_neg (by simpa using h0), if_pos h1])
  have l0 : 0 < s.size := by omega
  have l1 : 1 < s.size := by omega
  have b0 := bl_at s l0
  have b1 := bl_at s l1
  rw [h0] at b0
  obtain ⟨B1, hB1⟩ : ∃ B1, B1 = (bl s).getD 1 0 := ⟨_, rfl⟩
  rw [← hB1] at b1 h1
  clear h hB1 h0
  have c1 : ((B1 : Int) = 1) = False := by simp; omega
  go_enter Tryd.func27, Tryd.ntmps27
  go_wp2
  go_ret
  exact ⟨wrong_is H1.out H2.out (by decide) rfl, (by repeat (first | exact Ext.refl _ | assumption | refine Ext.alloc ?_ _ | refine Ext.drew ?_ | refine Ext.drewN ?_ _))⟩

set_option maxHeartbeats 400000 in
theorem bytesFault_length (w : World) (s : ByteArray) (hs : s.size ≤ 281474976710656) (h : ¬ s.size < 27) (h0 : (bl s).getD 0 0 = 78) (h1 : (bl s).getD 1 0 = 1) (h2 : numN (((bl s).drop 21).take 2) ≠ s.size - 27) :
    Calls Tryd.prog 27 #[.string s] w (WrongR s w) := by
  have e1 : ¬ (s.size : Int) < 27 := by omega
  have H1 := Lib.hid (show whatN s = 64 by unfold whatN; rw [if_neg h, if_neg (by simpa using h0), if_neg (by simpa using h1), if_pos h2])
  have H2 := Lib.hid (show whereN s = 21 by unfold whereN; rw [if_neg h, if_neg (by simpa using h0), if_neg (by simpa using h1), if_pos h2])
  have l0 : 0 < s.size := by omega
  have l1 : 1 < s.size := by omega
  have b0 := bl_at s l0
  have b1 := bl_at s l1
  rw [h0] at b0
  rw [h1] at b1
  have cN := fun W => readNumber_any W s 21 2 23 rfl (by omega) (by decide) (by omega)
  obtain ⟨N, hN⟩ : ∃ N, N = numN (((bl s).drop 21).take 2) := ⟨_, rfl⟩
  rw [← hN] at cN h2
  replace cN := Lib.hid cN
  obtain ⟨n, hn⟩ : ∃ n, s.size = n + 27 := ⟨s.size - 27, by omega⟩
  have e4 : (s.size : Int) - 27 = (n : Int) := by omega
  have e5 : IntKind.u64.wrap (n : Int) = (n : Int) := wrapU _ (by omega) (by omega)
  have c1 : ((N : Int) != (n : Int)) = true := bne_iff_ne.2 (by omega)
  clear h hN h0 h1 h2
  replace hn := Lib.hid hn
  go_enter Tryd.func27, Tryd.ntmps27
  go_wp2_with (first
    | (go_at_call 34; refine (cN.out _).mono ?_; rintro e w2 ⟨rfl, rfl⟩))
  go_ret
  exact ⟨wrong_is H1.out H2.out (by decide) rfl, (by repeat (first | exact Ext.refl _ | assumption | refine Ext.alloc ?_ _ | refine Ext.drew ?_ | refine Ext.drewN ?_ _))⟩

set_option maxHeartbeats 800000 in
theorem bytesFault_sum (w : World) (hT : Tab w) (s : ByteArray) (hs : s.size ≤ 281474976710656) (h : ¬ s.size < 27) (h0 : (bl s).getD 0 0 = 78) (h1 : (bl s).getD 1 0 = 1) (h2 : numN (((bl s).drop 21).take 2) = s.size - 27) (h3 : goodB s = false) :
    Calls Tryd.prog 27 #[.string s] w (WrongR s w) := by
  have e1 : ¬ (s.size : Int) < 27 := by omega
  have H1 := Lib.hid (show whatN s = 65 by unfold whatN; rw [if_neg h, if_neg (by simpa using h0), if_neg (by simpa using h1), if_neg (by simpa using h2), if_pos h3])
  have H2 := Lib.hid (show whereN s = s.size - 4 by unfold whereN; rw [if_neg h, if_neg (by simpa using h0), if_neg (by simpa using h1), if_neg (by simpa using h2), if_pos h3])
  have l0 : 0 < s.size := by omega
  have l1 : 1 < s.size := by omega
  have b0 := bl_at s l0
  have b1 := bl_at s l1
  rw [h0] at b0
  rw [h1] at b1
  have cN := fun W => readNumber_any W s 21 2 23 rfl (by omega) (by decide) (by omega)
  obtain ⟨N, hN⟩ : ∃ N, N = numN (((bl s).drop 21).take 2) := ⟨_, rfl⟩
  rw [← hN] at cN h2
  replace cN := Lib.hid cN
  obtain ⟨n, hn⟩ : ∃ n, s.size = n + 4 := ⟨s.size - 4, by omega⟩
  have e4 : (s.size : Int) - 4 = (n : Int) := by omega
  have e6 : IntKind.u64.wrap ((s.size : Int) - 27) = (N : Int) := by rw [wrapU _ (by omega) (by omega)]; omega
  have c1 : ((N : Int) != (N : Int)) = false := by simp
  have hn4 : s.size - 4 = n := by omega
  have hg : goodB s = decide (s.extract n s.size = textN (tailN (moreN 0 (bl (s.extract 0 n))))) := by
    unfold goodB last4 ahead
    rw [decide_eq_true (show 4 ≤ s.size by omega), Bool.true_and, hn4]
  have hM : moreN 0 (bl (s.extract 0 n)) < 4294967296 := moreN_lt (by decide) (bl_lt _)
  have cM := fun W (hW : Tab W) => sum_any W (s.extract 0 n) hW (by rw [ByteArray.size_extract]; omega)
  obtain ⟨M, hM2⟩ : ∃ M, M = moreN 0 (bl (s.extract 0 n)) := ⟨_, rfl⟩
  rw [← hM2] at hg hM
  have cM : Hid (∀ W, Ext w W → Calls Tryd.prog 22 #[.string (s.extract 0 n)] W fun e w' => e = .returned (.int .u32 (M : Nat)) ∧ W = w') := Lib.hid (fun W x => by rw [hM2]; exact cM W (hT.ext x))
  have e7 : ((s.extract n s.size).toList == (textN (tailN M)).toList) = false := by rw [tl_eq, ← hg, h3]
  have e8 : (0 : Int) ≤ (n : Int) := by omega
  have e9 : (n : Int) ≤ (s.size : Int) := by omega
  have e10 : IntKind.i64.wrap (n : Int) = (n : Int) := wrapN _ (by omega) (by omega)
  clear h hN h0 h1 h2 hg hM2 h3
  rw [hn4] at H2
  replace hn := Lib.hid hn
  clear hn4
  go_enter Tryd.func27, Tryd.ntmps27
  go_wp2_with (first
    | (go_at_call 34; refine (cN.out _).mono ?_; rintro e w2 ⟨rfl, rfl⟩))
  refine wp_region_M_lit (by kernel_rfl) ?_
  (refine takeV 0 (v := ?_) (by simp only [List.getElem?_toArray, List.getElem?_cons, reduceIte]; rfl) (by kernel_rfl) (by rfl) (fun w' hw' => ?_) ?_; rotate_left; focus (skip; go_simp; first | done | with_reducible rfl)); (simp only [Act.put, List.setIfInBounds_toArray, List.set])
  (refine takeV 1 (v := ?_) (by simp only [List.getElem?_toArray, List.getElem?_cons, reduceIte]; rfl) (by kernel_rfl) (by rfl) (fun w' hw' => ?_) ?_; rotate_left; focus (skip; go_simp; first | done | with_reducible rfl)); (simp only [Act.put, List.setIfInBounds_toArray, List.set])
  (refine takeV 2 (v := ?_) (by simp only [List.getElem?_toArray, List.getElem?_cons, reduceIte]; rfl) (by kernel_rfl) (by rfl) (fun w' hw' => ?_) ?_; rotate_left; focus (skip; go_simp; first | done | with_reducible rfl)); (simp only [Act.put, List.setIfInBounds_toArray, List.set])
  (refine takeV 3 (v := ?_) (by simp only [List.getElem?_toArray, List.getElem?_cons, reduceIte]; rfl) (by kernel_rfl) (by rfl) (fun w' hw' => ?_) ?_; rotate_left; focus (skip; go_simp; first | done | with_reducible rfl)); (simp only [Act.put, List.setIfInBounds_toArray, List.set])
  (refine takeV 4 (v := ?_) (by simp only [List.getElem?_toArray, List.getElem?_cons, reduceIte]; rfl) (by kernel_rfl) (by rfl) (fun w' hw' => ?_) ?_; rotate_left; focus (skip; go_simp; first | done | with_reducible rfl)); (simp only [Act.put, List.setIfInBounds_toArray, List.set])
  (refine takeV 5 (v := ?_) (by simp only [List.getElem?_toArray, List.getElem?_cons, reduceIte]; rfl) (by kernel_rfl) (by rfl) (fun w' hw' => ?_) ?_; rotate_left; focus (skip; go_simp; first | done | with_reducible rfl)); (simp only [Act.put, List.setIfInBounds_toArray, List.set])
  (refine takeG 6 (v := ?_) (by simp only [List.getElem?_toArray, List.getElem?_cons, reduceIte]; rfl) (by kernel_rfl) (by rfl) (fun w' hw' => ?_) ?_; rotate_left; focus (go_simp; refine ⟨Ext.refl _, ?_⟩; (have hq := gives_same (cM.out w' hw'); exact hq))); (simp only [Act.put, List.setIfInBounds_toArray, List.set])
  (refine takeG 7 (v := ?_) (by simp only [List.getElem?_toArray, List.getElem?_cons, reduceIte]; rfl) (by kernel_rfl) (by rfl) (fun w' hw' => ?_) ?_; rotate_left; focus (go_simp; refine ⟨Ext.refl _, ?_⟩; (exact tail_any w' M hM))); (simp only [Act.put, List.setIfInBounds_toArray, List.set])
  (refine takeV 8 (v := ?_) (by simp only [List.getElem?_toArray, List.getElem?_cons, reduceIte]; rfl) (by kernel_rfl) (by rfl) (fun w' hw' => ?_) ?_; rotate_left; focus (skip; go_simp; first | done | with_reducible rfl)); (simp only [Act.put, List.setIfInBounds_toArray, List.set])
  (refine doneM (by kernel_rfl) ?_; intro w' hw'; show _)
  have Y1 := Lib.hid hw'
  clear hw'
  go_wp2
  go_ret
  exact ⟨wrong_is H1.out H2.out (by decide) rfl, Y1.out⟩
end Go.Proofs.YtkfabocnhkmneaaDoor
