/- What the program's messages answer: the message that bytes are. -/
import Derived.Test.YtffgphhmkghlnaaDoorMP3
namespace Go.Proofs.YtffgphhmkghlnaaDoor
open Go.RowKit

set_option linter.unusedVariables false

def GetsP (s : ByteArray) (w : World) (ev : Ending) (w' : World) : Prop := ev = .returned (.tuple #[mgV (getM s), .int .i64 (getE s : Nat)]) ∧ Ext w w'

theorem not_empty {s : ByteArray} (h : 0 < s.size) : s.toList.isEmpty = false := by
  rw [ByteArray.toList_eq, List.isEmpty_eq_false_iff]
  intro e
  have : s.data.toList.length = 0 := by rw [e]; rfl
  have h2 : s.data.toList.length = s.size := rfl
  omega

set_option maxHeartbeats 800000 in
theorem get_empty (w : World) : Calls Tryd.prog 17 #[.string ⟨#[]⟩] w (GetsP ⟨#[]⟩ w) := by
  have hg : gotM ⟨#[]⟩ = false := by decide
  have H1 := Lib.hid (show getM ⟨#[]⟩ = ⟨0, 0, 0⟩ ∧ getE ⟨#[]⟩ = 71 from ⟨not_got hg, by unfold getE; rw [if_neg (by rw [hg]; decide)]⟩)
  clear hg
  go_enter Tryd.func17, Tryd.ntmps17
  go_wp2
  refine bodyPost_ret (v := .tuple #[.agg #[.int .i64 0, .int .i64 0, .int .i64 0], .int .i64 71]) (by simp [results, Tryd.results17, go_sem]) rfl ⟨?_, (by repeat (first | exact Ext.refl _ | assumption | refine Ext.alloc ?_ _ | refine Ext.drew ?_ | refine Ext.drewN ?_ _))⟩
  rw [H1.out.1, H1.out.2]
  rfl

set_option maxHeartbeats 800000 in
theorem get_len (w : World) (s : ByteArray) (h0 : 0 < s.size) (hs : s.size ≤ 9223372036854775807) {K : Nat} (hK : (bl s).getD 0 0 = K) (h : (s.size : Int) ≠ sizeM K) : Calls Tryd.prog 17 #[.string s] w (GetsP s w) := by
  have hg := got_len hK (.inr h)
  have H1 := Lib.hid (show getM s = ⟨0, 0, 0⟩ ∧ getE s = 71 from ⟨not_got hg, by unfold getE; rw [if_neg (by rw [hg]; decide)]⟩)
  have e0 := not_empty h0
  have b0 := bl_at s h0
  rw [hK] at b0
  have b0l : (s[0]'h0).toNat < 256 := (s[0]'h0).toNat_lt
  rw [b0] at b0l
  have e1 : IntKind.i64.wrap (K : Int) = (K : Int) := wrapN _ (by omega) (by omega)
  have cS := Lib.hid (fun W => size_any W (K : Int))
  obtain ⟨Z, hZ⟩ : ∃ Z, Z = sizeM (K : Int) := ⟨_, rfl⟩
  rw [← hZ] at cS h
  have b1 : ((s.size : Int) != Z) = true := bne_iff_ne.2 h
  have f0 : (0 : Int) < (s.size : Int) := by omega
  clear hg hK h hZ b0l
  go_enter Tryd.func17, Tryd.ntmps17
  go_wp2_with (first | (go_at_call 20; refine (cS.out _).mono ?_; rintro ev w' ⟨rfl, rfl⟩))
  refine bodyPost_ret (v := .tuple #[.agg #[.int .i64 0, .int .i64 0, .int .i64 0], .int .i64 71]) (by simp [results, Tryd.results17, go_sem]) rfl ⟨?_, (by repeat (first | exact Ext.refl _ | assumption | refine Ext.alloc ?_ _ | refine Ext.drew ?_ | refine Ext.drewN ?_ _))⟩
  rw [H1.out.1, H1.out.2]
  rfl

set_option maxRecDepth 100000 in
set_option maxHeartbeats 1600000 in
theorem get_three (w : World) (s : ByteArray) (h3 : s.size = 3) {K : Nat} (hK : (bl s).getD 0 0 = K) (h18 : 1 ≤ K ∧ K ≤ 8) : Calls Tryd.prog 17 #[.string s] w (GetsP s w) := by
  have h0 : 0 < s.size := by omega
  obtain ⟨hg, hm⟩ := got_three h3 hK h18
  have H1 := Lib.hid (show getM s = ⟨K, numN (((bl s).drop 1).take 2), 0⟩ ∧ getE s = 0 from ⟨hm, by unfold getE; rw [if_pos hg]⟩)
  have e0 := not_empty h0
  have b0 := bl_at s h0
  rw [hK] at b0
  have e1 : IntKind.i64.wrap (K : Int) = (K : Int) := wrapN _ (by omega) (by omega)
  have cS := Lib.hid (fun W => size_any W (K : Int))
  rw [show sizeM (K : Int) = 3 by unfold sizeM; rw [if_neg (by omega), if_pos (by omega)]] at cS
  have b1 : ((s.size : Int) != 3) = false := by rw [bne_eq_false_iff_eq]; omega
  have b9 : ((K : Int) == 9) = false := beq_eq_false_iff_ne.2 (by omega)
  have f0 : (0 : Int) < (s.size : Int) := by omega
  have cR := Lib.hid (fun W => readTwo_any W s 1 (by omega) (by omega))
  obtain ⟨E, hE⟩ : ∃ E, E = numN (((bl s).drop 1).take 2) := ⟨_, rfl⟩
  rw [← hE] at cR H1
  clear hg hm hK hE h18 h3
  go_enter Tryd.func17, Tryd.ntmps17
  go_wp2_with (first | (go_at_call 20; refine (cS.out _).mono ?_; rintro ev w' ⟨rfl, rfl⟩))
  refine wp_region_M_lit (by kernel_rfl) ?_
  (refine takeV 0 (v := ?_) (by simp only [List.getElem?_toArray, List.getElem?_cons, reduceIte]; rfl) (by kernel_rfl) (by rfl) (fun w' hw' => ?_) ?_; rotate_left; focus (skip; go_simp; first | done | with_reducible rfl)); (simp only [Act.put, List.setIfInBounds_toArray, List.set])
  (refine takeV 1 (v := ?_) (by simp only [List.getElem?_toArray, List.getElem?_cons, reduceIte]; rfl) (by kernel_rfl) (by rfl) (fun w' hw' => ?_) ?_; rotate_left; focus (skip; go_simp; first | done | with_reducible rfl)); (simp only [Act.put, List.setIfInBounds_toArray, List.set])
  (refine takeV 2 (v := ?_) (by simp only [List.getElem?_toArray, List.getElem?_cons, reduceIte]; rfl) (by kernel_rfl) (by rfl) (fun w' hw' => ?_) ?_; rotate_left; focus (skip; go_simp; first | done | with_reducible rfl)); (simp only [Act.put, List.setIfInBounds_toArray, List.set])
  (refine takeV 3 (v := ?_) (by simp only [List.getElem?_toArray, List.getElem?_cons, reduceIte]; rfl) (by kernel_rfl) (by rfl) (fun w' hw' => ?_) ?_; rotate_left; focus (skip; go_simp; first | done | with_reducible rfl)); (simp only [Act.put, List.setIfInBounds_toArray, List.set])
  (refine takeG 4 (v := ?_) (by simp only [List.getElem?_toArray, List.getElem?_cons, reduceIte]; rfl) (by kernel_rfl) (by rfl) (fun w' hw' => ?_) ?_; rotate_left; focus (go_simp; refine ⟨Ext.refl _, ?_⟩; (exact cR.out w'))); (simp only [Act.put, List.setIfInBounds_toArray, List.set])
  (refine takeV 5 (v := ?_) (by simp only [List.getElem?_toArray, List.getElem?_cons, reduceIte]; rfl) (by kernel_rfl) (by rfl) (fun w' hw' => ?_) ?_; rotate_left; focus (skip; go_simp; first | done | with_reducible rfl)); (simp only [Act.put, List.setIfInBounds_toArray, List.set])
  (refine runOne 6 (by simp only [List.getElem?_toArray, List.getElem?_cons, reduceIte]; rfl) (by kernel_rfl) (by kernel_rfl) (by rfl) ?_; intro w' hw'; go_simp; refine ⟨Ext.alloc (Ext.refl _) _, ?_⟩; try (simp only [Act.put, List.setIfInBounds_toArray, List.set]))
  have Y2 := Lib.hid hw'
  have B1 := Lib.hid (late_blk hw')
  clear hw'
  obtain ⟨wA, hA⟩ : ∃ wA, wA = w' := ⟨_, rfl⟩
  rw [← hA] at Y2 B1 ⊢
  clear hA
  (refine runLate 7 (by simp only [List.getElem?_toArray, List.getElem?_cons, reduceIte]; rfl) (by kernel_rfl) (by kernel_rfl) (by rfl) ?_; intro w' hw'; obtain ⟨k5, k6⟩ := three_cells (late_blk hw'); go_simp; try (simp only [Act.put, List.setIfInBounds_toArray, List.set]))
  (refine lateDone (by kernel_rfl) ?_)
  have z := set3_blk (late_blk hw') (.int .i64 (K : Int)) (.int .i64 (E : Int)) (.int .i64 0)
  have gA : w.heap.size < wA.heap.size := blk_lt B1.out
  have y3 : Ext w (set3 w' wA.heap.size (.int .i64 (K : Int)) (.int .i64 (E : Int)) (.int .i64 0)) :=
    set3_ext (Ext.trans (Ext.trans ((Ext.refl w).alloc _) (Ext.alloc Y2.out _)) hw') (Nat.le_of_lt gA) _ _ _
  have o1 : (set3 w' wA.heap.size (.int .i64 (K : Int)) (.int .i64 (E : Int)) (.int .i64 0)).heap[w.heap.size]? = some (.cells #[.int .i64 0, .int .i64 0, .int .i64 0] 24 (0, 0)) := by
    rw [set3_other (Nat.ne_of_lt gA)]
    exact blk_later (blk_alloc B1.out _) hw'
  obtain ⟨W5, hW5⟩ : ∃ W5, W5 = set3 w' wA.heap.size (.int .i64 (K : Int)) (.int .i64 (E : Int)) (.int .i64 0) := ⟨_, rfl⟩
  rw [← hW5] at z y3 o1
  simp only [set3] at hW5
  rw [← hW5]
  clear hW5 hw' Y2 B1 k5 k6
  have Y4 := Lib.hid y3
  have O1 := Lib.hid o1
  have m1 := (three_cells z).1
  obtain ⟨j1, j2⟩ := three_cells o1
  clear y3 o1
  have ZB := Lib.hid z
  clear z
  go_wp2
  have z := set3_blk O1.out (.int .i64 (K : Int)) (.int .i64 (E : Int)) (.int .i64 0)
  have y5 := set3_ext Y4.out (Nat.le_refl _) (.int .i64 (K : Int)) (.int .i64 (E : Int)) (.int .i64 0)
  obtain ⟨z0, z1, z2⟩ := (three_cells z).1
  simp only [set3] at z0 z1 z2
  refine bodyPost_ret (v := .tuple #[.agg #[.int .i64 (K : Int), .int .i64 (E : Int), .int .i64 0], .int .i64 0]) (by simp [results, Tryd.results17, go_sem, z0, z1, z2]) rfl ⟨?_, y5⟩
  rw [H1.out.1, H1.out.2]
  rfl

set_option maxRecDepth 100000 in
set_option maxHeartbeats 1600000 in
theorem get_five (w : World) (s : ByteArray) (h5 : s.size = 5) {K : Nat} (hK : (bl s).getD 0 0 = K) (h9 : K = 9) : Calls Tryd.prog 17 #[.string s] w (GetsP s w) := by
  have h0 : 0 < s.size := by omega
  obtain ⟨hg, hm⟩ := got_five h5 (hK.trans h9)
  have H1 := Lib.hid (show getM s = ⟨K, numN (((bl s).drop 1).take 2), numN (((bl s).drop 3).take 2)⟩ ∧ getE s = 0 from ⟨by rw [hm, h9]; rfl, by unfold getE; rw [if_pos hg]⟩)
  have e0 := not_empty h0
  have b0 := bl_at s h0
  rw [hK] at b0
  have cS := Lib.hid (fun W => size_any W (K : Int))
  rw [show sizeM (K : Int) = 5 by rw [h9]; rfl] at cS
  have e1 : IntKind.i64.wrap (K : Int) = (K : Int) := wrapN _ (by omega) (by omega)
  have b9 : ((K : Int) == 9) = true := beq_iff_eq.2 (by omega)
  have b1 : ((s.size : Int) != 5) = false := by rw [bne_eq_false_iff_eq]; omega
  have f0 : (0 : Int) < (s.size : Int) := by omega
  have cR := Lib.hid (fun W => readTwo_any W s 1 (by omega) (by omega))
  have cN := Lib.hid (fun W => readTwo_any W s 3 (by omega) (by omega))
  obtain ⟨E, hE⟩ : ∃ E, E = numN (((bl s).drop 1).take 2) := ⟨_, rfl⟩
  obtain ⟨N, hN⟩ : ∃ N, N = numN (((bl s).drop 3).take 2) := ⟨_, rfl⟩
  rw [← hE] at cR H1
  rw [← hN] at cN H1
  clear hg hm hK hE hN h5 h9
  go_enter Tryd.func17, Tryd.ntmps17
  go_wp2_with (first | (go_at_call 20; refine (cS.out _).mono ?_; rintro ev w' ⟨rfl, rfl⟩))
  refine wp_region_M_lit (by kernel_rfl) ?_
  (refine takeV 0 (v := ?_) (by simp only [List.getElem?_toArray, List.getElem?_cons, reduceIte]; rfl) (by kernel_rfl) (by rfl) (fun w' hw' => ?_) ?_; rotate_left; focus (skip; go_simp; first | done | with_reducible rfl)); (simp only [Act.put, List.setIfInBounds_toArray, List.set])
  (refine takeV 1 (v := ?_) (by simp only [List.getElem?_toArray, List.getElem?_cons, reduceIte]; rfl) (by kernel_rfl) (by rfl) (fun w' hw' => ?_) ?_; rotate_left; focus (skip; go_simp; first | done | with_reducible rfl)); (simp only [Act.put, List.setIfInBounds_toArray, List.set])
  (refine takeV 2 (v := ?_) (by simp only [List.getElem?_toArray, List.getElem?_cons, reduceIte]; rfl) (by kernel_rfl) (by rfl) (fun w' hw' => ?_) ?_; rotate_left; focus (skip; go_simp; first | done | with_reducible rfl)); (simp only [Act.put, List.setIfInBounds_toArray, List.set])
  (refine takeV 3 (v := ?_) (by simp only [List.getElem?_toArray, List.getElem?_cons, reduceIte]; rfl) (by kernel_rfl) (by rfl) (fun w' hw' => ?_) ?_; rotate_left; focus (skip; go_simp; first | done | with_reducible rfl)); (simp only [Act.put, List.setIfInBounds_toArray, List.set])
  (refine takeG 4 (v := ?_) (by simp only [List.getElem?_toArray, List.getElem?_cons, reduceIte]; rfl) (by kernel_rfl) (by rfl) (fun w' hw' => ?_) ?_; rotate_left; focus (go_simp; refine ⟨Ext.refl _, ?_⟩; (exact cR.out w'))); (simp only [Act.put, List.setIfInBounds_toArray, List.set])
  (refine takeV 5 (v := ?_) (by simp only [List.getElem?_toArray, List.getElem?_cons, reduceIte]; rfl) (by kernel_rfl) (by rfl) (fun w' hw' => ?_) ?_; rotate_left; focus (skip; go_simp; first | done | with_reducible rfl)); (simp only [Act.put, List.setIfInBounds_toArray, List.set])
  (refine runOne 6 (by simp only [List.getElem?_toArray, List.getElem?_cons, reduceIte]; rfl) (by kernel_rfl) (by kernel_rfl) (by rfl) ?_; intro w' hw'; go_simp; refine ⟨Ext.alloc (Ext.refl _) _, ?_⟩; try (simp only [Act.put, List.setIfInBounds_toArray, List.set]))
  have Y2 := Lib.hid hw'
  have B1 := Lib.hid (late_blk hw')
  clear hw'
  obtain ⟨wA, hA⟩ : ∃ wA, wA = w' := ⟨_, rfl⟩
  rw [← hA] at Y2 B1 ⊢
  clear hA
  (refine runLate 7 (by simp only [List.getElem?_toArray, List.getElem?_cons, reduceIte]; rfl) (by kernel_rfl) (by kernel_rfl) (by rfl) ?_; intro w' hw'; obtain ⟨k5, k6⟩ := three_cells (late_blk hw'); go_simp; try (simp only [Act.put, List.setIfInBounds_toArray, List.set]))
  (refine lateDone (by kernel_rfl) ?_)
  have z := set3_blk (late_blk hw') (.int .i64 (K : Int)) (.int .i64 (E : Int)) (.int .i64 0)
  have gA : w.heap.size < wA.heap.size := blk_lt B1.out
  have y3 : Ext w (set3 w' wA.heap.size (.int .i64 (K : Int)) (.int .i64 (E : Int)) (.int .i64 0)) :=
    set3_ext (Ext.trans (Ext.trans ((Ext.refl w).alloc _) (Ext.alloc Y2.out _)) hw') (Nat.le_of_lt gA) _ _ _
  have o1 : (set3 w' wA.heap.size (.int .i64 (K : Int)) (.int .i64 (E : Int)) (.int .i64 0)).heap[w.heap.size]? = some (.cells #[.int .i64 0, .int .i64 0, .int .i64 0] 24 (0, 0)) := by
    rw [set3_other (Nat.ne_of_lt gA)]
    exact blk_later (blk_alloc B1.out _) hw'
  obtain ⟨W5, hW5⟩ : ∃ W5, W5 = set3 w' wA.heap.size (.int .i64 (K : Int)) (.int .i64 (E : Int)) (.int .i64 0) := ⟨_, rfl⟩
  rw [← hW5] at z y3 o1
  simp only [set3] at hW5
  rw [← hW5]
  clear hW5 hw' Y2 B1 k5 k6
  have Y4 := Lib.hid y3
  have O1 := Lib.hid o1
  have GA := Lib.hid gA
  obtain ⟨n, hn⟩ : ∃ n, n = wA.heap.size := ⟨_, rfl⟩
  rw [← hn] at z GA ⊢
  have hne : ¬ n = w.heap.size := by have := GA.out; omega
  have hne2 : ¬ w.heap.size = n := fun e => hne e.symm
  clear hn gA
  have m1 := (three_cells z).1
  clear y3 o1
  have ZB := Lib.hid z
  clear z
  go_wp2_with (first | (go_at_call 24; refine (cN.out W5).mono ?_; rintro ev W6 ⟨rfl, x6⟩; obtain ⟨i1, i2⟩ := three_cells (blk_later ZB.out x6); obtain ⟨i3, i4⟩ := three_cells (blk_later O1.out x6); have X6 := Lib.hid x6; clear x6))
  have oN : (W6.setCell ⟨n, 2, none⟩ (.int .i64 (N : Int))).heap[w.heap.size]? = some (.cells #[.int .i64 0, .int .i64 0, .int .i64 0] 24 (0, 0)) := by
    rw [set_other _ _ _ _ hne2]
    exact blk_later O1.out X6.out
  have z := set3_blk oN (.int .i64 (K : Int)) (.int .i64 (E : Int)) (.int .i64 (N : Int))
  have y5 := set3_ext (below_set (d := ⟨n, 2, none⟩) (Ext.trans Y4.out X6.out) (Nat.le_of_lt GA.out) (.int .i64 (N : Int))) (Nat.le_refl _) (.int .i64 (K : Int)) (.int .i64 (E : Int)) (.int .i64 (N : Int))
  obtain ⟨z0, z1, z2⟩ := (three_cells z).1
  simp only [set3] at z0 z1 z2
  refine bodyPost_ret (v := .tuple #[.agg #[.int .i64 (K : Int), .int .i64 (E : Int), .int .i64 (N : Int)], .int .i64 0]) (by simp [results, Tryd.results17, go_sem, z0, z1, z2]) rfl ⟨?_, y5⟩
  rw [H1.out.1, H1.out.2]
  rfl

theorem get_any (w : World) (s : ByteArray) (hs : s.size ≤ 281474976710656) :
    Calls Tryd.prog 17 #[.string s] w fun ev w' => ev = .returned (.tuple #[mgV (getM s), .int .i64 (getE s : Nat)]) ∧ Ext w w' := by
  by_cases h0 : s.size = 0
  · obtain rfl : s = ⟨#[]⟩ := by
      apply ByteArray.ext
      exact Array.eq_empty_of_size_eq_zero h0
    exact get_empty w
  · obtain ⟨K, hK⟩ : ∃ K, (bl s).getD 0 0 = K := ⟨_, rfl⟩
    by_cases hl : (s.size : Int) = sizeM K
    · unfold sizeM at hl
      split at hl
      · exact get_five w s (by omega) hK (by omega)
      · split at hl
        · exact get_three w s (by omega) hK (by omega)
        · omega
    · exact get_len w s (by omega) (by omega) hK hl
end Go.Proofs.YtffgphhmkghlnaaDoor
