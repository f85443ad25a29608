/- What the program reads: the frame that stands in bytes, and what is wrong with them. -/
import Derived.Test.YtkfabocnhkmneaaDoorFP
namespace Go.Proofs.YtkfabocnhkmneaaDoor
open Go.RowKit

set_option maxRecDepth 100000 in
set_option maxHeartbeats 1600000 in
theorem readFrame_any (w : World) (s : ByteArray) (hs : s.size ≤ 281474976710656) (h : 27 ≤ s.size) :
    Calls Tryd.prog 28 #[.string s] w fun ev w' => ev = .returned (frV (frOf s)) ∧ Ext w w' := by
  obtain ⟨n, hn⟩ : ∃ n, s.size = n + 4 := ⟨s.size - 4, by omega⟩
  have e4 : (s.size : Int) - 4 = (n : Int) := by omega
  have e12 : IntKind.i64.wrap (n : Int) = (n : Int) := wrapN _ (by omega) (by omega)
  have hn4 : s.size - 4 = n := by omega
  have l2 : 2 < s.size := by omega
  have b2 := bl_at s l2
  have cE := fun W => readNumber_any W s 3 2 5 rfl (by omega) (by decide) (by omega)
  have cQ := fun W => readNumber_any W s 5 8 13 rfl (by omega) (by decide) (by omega)
  have cA := fun W => readNumber_any W s 13 8 21 rfl (by omega) (by decide) (by omega)
  have cC := fun W => clone_any W (s.extract 23 n) (by rw [ByteArray.size_extract]; omega)
  have hE5 : numN (((bl s).drop 3).take 2) < 65536 := by
    have h1 := numN_lt (l := ((bl s).drop 3).take 2) (fun b hb => bl_lt s b (List.mem_of_mem_drop (List.mem_of_mem_take hb)))
    have h2 : (((bl s).drop 3).take 2).length ≤ 2 := by rw [List.length_take]; omega
    have h3 : 256 ^ (((bl s).drop 3).take 2).length ≤ 256 ^ 2 := Nat.pow_le_pow_right (by decide) h2
    omega
  have hfr : frOf s = ⟨((bl s).getD 2 0 : Nat), (numN (((bl s).drop 3).take 2) : Nat), numN (((bl s).drop 5).take 8), numN (((bl s).drop 13).take 8), s.extract 23 n⟩ := by
    unfold frOf
    rw [hn4]
  obtain ⟨B2, hB2⟩ : ∃ B2, B2 = (bl s).getD 2 0 := ⟨_, rfl⟩
  obtain ⟨E, hE⟩ : ∃ E, E = numN (((bl s).drop 3).take 2) := ⟨_, rfl⟩
  obtain ⟨q, hq⟩ : ∃ q, q = numN (((bl s).drop 5).take 8) := ⟨_, rfl⟩
  obtain ⟨a, ha⟩ : ∃ a, a = numN (((bl s).drop 13).take 8) := ⟨_, rfl⟩
  rw [← hB2] at b2 hfr
  rw [← hE] at cE hfr hE5
  rw [← hq] at cQ hfr
  rw [← ha] at cA hfr
  replace cE := Lib.hid cE
  replace cQ := Lib.hid cQ
  replace cA := Lib.hid cA
  replace cC := Lib.hid cC
  have e10 : IntKind.i64.wrap (E : Int) = (E : Int) := wrapN _ (by omega) (by omega)
  have hB256 : B2 < 256 := by rw [← b2]; exact (s[2]'l2).toNat_lt
  have e11 : IntKind.i64.wrap (B2 : Int) = (B2 : Int) := wrapN _ (by omega) (by omega)
  have f0 : (2 : Int) < (s.size : Int) := by omega
  have f4 : (23 : Int) ≤ (n : Int) := by omega
  have f5 : (n : Int) ≤ (s.size : Int) := by omega
  replace hfr := Lib.hid hfr
  clear h hB2 hE hq ha
  replace hn := Lib.hid hn
  clear hn4
  go_enter Tryd.func28, Tryd.ntmps28
  go_wp2_with fail
  refine wp_region_M_lit (by kernel_rfl) ?_
  (refine takeV 0 (v := ?_) (by simp only [List.getElem?_toArray, List.getElem?_cons, reduceIte]; rfl) (by kernel_rfl) (by rfl) (fun w' hw' => ?_) ?_; rotate_left; focus (skip; go_simp; first | done | with_reducible rfl)); (simp only [Act.put, List.setIfInBounds_toArray, List.set])
  (refine takeV 1 (v := ?_) (by simp only [List.getElem?_toArray, List.getElem?_cons, reduceIte]; rfl) (by kernel_rfl) (by rfl) (fun w' hw' => ?_) ?_; rotate_left; focus (skip; go_simp; first | done | with_reducible rfl)); (simp only [Act.put, List.setIfInBounds_toArray, List.set])
  (refine takeV 2 (v := ?_) (by simp only [List.getElem?_toArray, List.getElem?_cons, reduceIte]; rfl) (by kernel_rfl) (by rfl) (fun w' hw' => ?_) ?_; rotate_left; focus (skip; go_simp; first | done | with_reducible rfl)); (simp only [Act.put, List.setIfInBounds_toArray, List.set])
  (refine takeV 3 (v := ?_) (by simp only [List.getElem?_toArray, List.getElem?_cons, reduceIte]; rfl) (by kernel_rfl) (by rfl) (fun w' hw' => ?_) ?_; rotate_left; focus (skip; go_simp; first | done | with_reducible rfl)); (simp only [Act.put, List.setIfInBounds_toArray, List.set])
  (refine takeG 4 (v := ?_) (by simp only [List.getElem?_toArray, List.getElem?_cons, reduceIte]; rfl) (by kernel_rfl) (by rfl) (fun w' hw' => ?_) ?_; rotate_left; focus (go_simp; refine ⟨Ext.refl _, ?_⟩; (have hq := gives_same (cE.out w'); exact hq))); (simp only [Act.put, List.setIfInBounds_toArray, List.set])
  (refine takeV 5 (v := ?_) (by simp only [List.getElem?_toArray, List.getElem?_cons, reduceIte]; rfl) (by kernel_rfl) (by rfl) (fun w' hw' => ?_) ?_; rotate_left; focus (skip; go_simp; first | done | with_reducible rfl)); (simp only [Act.put, List.setIfInBounds_toArray, List.set])
  (refine takeV 6 (v := ?_) (by simp only [List.getElem?_toArray, List.getElem?_cons, reduceIte]; rfl) (by kernel_rfl) (by rfl) (fun w' hw' => ?_) ?_; rotate_left; focus (skip; go_simp; first | done | with_reducible rfl)); (simp only [Act.put, List.setIfInBounds_toArray, List.set])
  (refine takeG 7 (v := ?_) (by simp only [List.getElem?_toArray, List.getElem?_cons, reduceIte]; rfl) (by kernel_rfl) (by rfl) (fun w' hw' => ?_) ?_; rotate_left; focus (go_simp; refine ⟨Ext.refl _, ?_⟩; (have hq := gives_same (cQ.out w'); exact hq))); (simp only [Act.put, List.setIfInBounds_toArray, List.set])
  (refine takeV 8 (v := ?_) (by simp only [List.getElem?_toArray, List.getElem?_cons, reduceIte]; rfl) (by kernel_rfl) (by rfl) (fun w' hw' => ?_) ?_; rotate_left; focus (skip; go_simp; first | done | with_reducible rfl)); (simp only [Act.put, List.setIfInBounds_toArray, List.set])
  (refine takeG 9 (v := ?_) (by simp only [List.getElem?_toArray, List.getElem?_cons, reduceIte]; rfl) (by kernel_rfl) (by rfl) (fun w' hw' => ?_) ?_; rotate_left; focus (go_simp; refine ⟨Ext.refl _, ?_⟩; (have hq := gives_same (cA.out w'); exact hq))); (simp only [Act.put, List.setIfInBounds_toArray, List.set])
  (refine takeV 10 (v := ?_) (by simp only [List.getElem?_toArray, List.getElem?_cons, reduceIte]; rfl) (by kernel_rfl) (by rfl) (fun w' hw' => ?_) ?_; rotate_left; focus (skip; go_simp; first | done | with_reducible rfl)); (simp only [Act.put, List.setIfInBounds_toArray, List.set])
  (refine takeV 11 (v := ?_) (by simp only [List.getElem?_toArray, List.getElem?_cons, reduceIte]; rfl) (by kernel_rfl) (by rfl) (fun w' hw' => ?_) ?_; rotate_left; focus (skip; go_simp; first | done | with_reducible rfl)); (simp only [Act.put, List.setIfInBounds_toArray, List.set])
  (refine takeV 12 (v := ?_) (by simp only [List.getElem?_toArray, List.getElem?_cons, reduceIte]; rfl) (by kernel_rfl) (by rfl) (fun w' hw' => ?_) ?_; rotate_left; focus (skip; go_simp; first | done | with_reducible rfl)); (simp only [Act.put, List.setIfInBounds_toArray, List.set])
  (refine takeV 13 (v := ?_) (by simp only [List.getElem?_toArray, List.getElem?_cons, reduceIte]; rfl) (by kernel_rfl) (by rfl) (fun w' hw' => ?_) ?_; rotate_left; focus (skip; go_simp; first | done | with_reducible rfl)); (simp only [Act.put, List.setIfInBounds_toArray, List.set])
  (refine takeV 14 (v := ?_) (by simp only [List.getElem?_toArray, List.getElem?_cons, reduceIte]; rfl) (by kernel_rfl) (by rfl) (fun w' hw' => ?_) ?_; rotate_left; focus (skip; go_simp; first | done | with_reducible rfl)); (simp only [Act.put, List.setIfInBounds_toArray, List.set])
  (refine takeG 15 (v := ?_) (by simp only [List.getElem?_toArray, List.getElem?_cons, reduceIte]; rfl) (by kernel_rfl) (by rfl) (fun w' hw' => ?_) ?_; rotate_left; focus (go_simp; refine ⟨Ext.refl _, ?_⟩; (exact cC.out w'))); (simp only [Act.put, List.setIfInBounds_toArray, List.set])
  (refine takeV 16 (v := ?_) (by simp only [List.getElem?_toArray, List.getElem?_cons, reduceIte]; rfl) (by kernel_rfl) (by rfl) (fun w' hw' => ?_) ?_; rotate_left; focus (skip; go_simp; first | done | with_reducible rfl)); (simp only [Act.put, List.setIfInBounds_toArray, List.set])
  (refine runLate 17 (by simp only [List.getElem?_toArray, List.getElem?_cons, reduceIte]; rfl) (by kernel_rfl) (by kernel_rfl) (by rfl) ?_; intro w' hw'; obtain ⟨k5, k6⟩ := five_cells (late_blk hw'); go_simp; try (simp only [Act.put, List.setIfInBounds_toArray, List.set]))
  (refine lateDone (by kernel_rfl) ?_)
  have z := set5_blk (late_blk hw') (.int .i64 (B2 : Int)) (.int .i64 (E : Int)) (.int .u64 (q : Int)) (.int .u64 (a : Int)) (.string (s.extract 23 n))
  have y3 : Ext w (set5 w' w.heap.size (.int .i64 (B2 : Int)) (.int .i64 (E : Int)) (.int .u64 (q : Int)) (.int .u64 (a : Int)) (.string (s.extract 23 n))) :=
    set5_ext (Ext.trans ((Ext.refl w).alloc _) hw') (Nat.le_refl _) _ _ _ _ _
  obtain ⟨W5, hW5⟩ : ∃ W5, W5 = set5 w' w.heap.size (.int .i64 (B2 : Int)) (.int .i64 (E : Int)) (.int .u64 (q : Int)) (.int .u64 (a : Int)) (.string (s.extract 23 n)) := ⟨_, rfl⟩
  rw [← hW5] at z y3
  simp only [set5] at hW5
  rw [← hW5]
  clear hW5 hw' k5 k6
  have Y3 := Lib.hid y3
  clear y3
  obtain ⟨z0, z1, z2, z3, z4⟩ := (five_cells z).1
  go_wp2
  refine bodyPost_ret (v := .agg #[.int .i64 (B2 : Int), .int .i64 (E : Int), .int .u64 (q : Int), .int .u64 (a : Int), .string (s.extract 23 n)]) (by simp [results, Tryd.results28, go_sem, z0, z1, z2, z3, z4]) rfl ⟨?_, Y3.out⟩
  rw [hfr.out]
  rfl
end Go.Proofs.YtkfabocnhkmneaaDoor
