/- Messages: the document's Get, and numerals. -/
import Derived.Test.YtffgphhmkghlnaaDoorM2
namespace Go.Proofs.YtffgphhmkghlnaaDoor
open Go.RowKit

def mgV (m : Mg) : Value := .agg #[.int .i64 m.k, .int .i64 m.e, .int .i64 m.n]
def GetsM (s : ByteArray) (w : World) (e : Ending) (w' : World) : Prop := e = .returned (.tuple #[mgV (getM s), .bool (gotM s)]) ∧ Ext w w'

theorem not_got {s : ByteArray} (h : gotM s = false) : getM s = ⟨0, 0, 0⟩ := by unfold getM; rw [if_neg (by rw [h]; decide)]

theorem bl_rest (s : ByteArray) (i : Nat) : bl (s.extract i s.size) = (bl s).drop i := by
  rw [bl_extract, List.take_of_length_le (by rw [List.length_drop, bl_length]; exact Nat.le_refl _)]

theorem num_two {l : List Nat} (hl : ∀ b ∈ l, b < 256) (h2 : l.length ≤ 2) : numN l < 65536 := by
  have h1 := numN_lt hl
  have h3 : 256 ^ l.length ≤ 256 ^ 2 := Nat.pow_le_pow_right (by decide) h2
  omega

set_option maxHeartbeats 800000 in
theorem refGet_len (w : World) (s : ByteArray) (h : ¬ (s.size = 3 ∨ s.size = 5)) : Calls Tryd.prog 18 #[.string s] w (GetsM s w) := by
  have b1 : ((s.size : Int) != 3) = true := bne_iff_ne.2 (by omega)
  have b2 : ((s.size : Int) != 5) = true := bne_iff_ne.2 (by omega)
  have hg : gotM s = false := by unfold gotM; rw [decide_eq_false (show ¬ s.size = 3 by omega), decide_eq_false (show ¬ s.size = 5 by omega)]; rfl
  have H1 := Lib.hid hg
  clear h hg
  go_enter Tryd.func18, Tryd.ntmps18
  go_wp2
  refine bodyPost_ret (v := .tuple #[.agg #[.int .i64 0, .int .i64 0, .int .i64 0], .bool false]) (by simp [results, Tryd.results18, go_sem]) rfl ⟨?_, (by repeat (first | exact Ext.refl _ | assumption | refine Ext.alloc ?_ _ | refine Ext.drew ?_ | refine Ext.drewN ?_ _))⟩
  rw [not_got H1.out, H1.out]
  rfl

set_option maxRecDepth 100000 in
set_option maxHeartbeats 1600000 in
theorem refGet_no (w : World) (s : ByteArray) (h : s.size = 3 ∨ s.size = 5) (hr : rightM (msOf s) = false) : Calls Tryd.prog 18 #[.string s] w (GetsM s w) := by
  have hg : gotM s = false := by
    have h35 : (decide (s.size = 3) || decide (s.size = 5)) = true := by simpa using h
    unfold gotM
    rw [h35, hr]
    rfl
  have H1 := Lib.hid hg
  have hlt : ∀ b ∈ bl s, b < 256 := bl_lt s
  have hl := bl_length s
  have l0 : 0 < s.size := by omega
  have b0 := bl_at s l0
  have b0l : (s[0]'l0).toNat < 256 := (s[0]'l0).toNat_lt
  have cE := fun W => refNumber_any W (s.extract 1 3) (by rw [ByteArray.size_extract]; omega)
  have cN := fun W => refNumber_any W (s.extract 3 s.size) (by rw [ByteArray.size_extract]; omega)
  rw [bl_extract] at cE
  rw [bl_rest] at cN
  have hE : numN (((bl s).drop 1).take (3 - 1)) < 65536 := num_two (fun b hb => hlt b (List.mem_of_mem_drop (List.mem_of_mem_take hb))) (by rw [List.length_take]; omega)
  have hN : numN ((bl s).drop 3) < 65536 := num_two (fun b hb => hlt b (List.mem_of_mem_drop hb)) (by rw [List.length_drop]; omega)
  have hms : msOf s = ⟨((bl s).getD 0 0 : Nat), (numN (((bl s).drop 1).take (3 - 1)) : Nat), (numN ((bl s).drop 3) : Nat)⟩ := rfl
  obtain ⟨K, hK⟩ : ∃ K, K = (bl s).getD 0 0 := ⟨_, rfl⟩
  obtain ⟨E, hE2⟩ : ∃ E, E = numN (((bl s).drop 1).take (3 - 1)) := ⟨_, rfl⟩
  obtain ⟨N, hN2⟩ : ∃ N, N = numN ((bl s).drop 3) := ⟨_, rfl⟩
  rw [← hK] at b0 hms
  rw [← hE2] at cE hE hms
  rw [← hN2] at cN hN hms
  have hK256 : K < 256 := by rw [← b0]; exact b0l
  replace cE := Lib.hid cE
  replace cN := Lib.hid cN
  have cR := Lib.hid (fun W => refRight_any W (msOf s))
  rw [hr, hms] at cR
  change Hid (∀ W, Calls Tryd.prog 11 #[.agg #[.int .i64 (K : Int), .int .i64 (E : Int), .int .i64 (N : Int)]] W fun ev w' => ev = .returned (.bool false) ∧ Ext W w') at cR
  have HM := Lib.hid hms
  have e1 : IntKind.i64.wrap (E : Int) = (E : Int) := wrapN _ (by omega) (by omega)
  have e2 : IntKind.i64.wrap (N : Int) = (N : Int) := wrapN _ (by omega) (by omega)
  have e3 : IntKind.i64.wrap (K : Int) = (K : Int) := wrapN _ (by omega) (by omega)
  have f0 : (0 : Int) < (s.size : Int) := by omega
  have f3 : (3 : Int) ≤ (s.size : Int) := by omega
  have g0 : ((s.size : Int) != 3) = false ∨ ((s.size : Int) != 3) = true ∧ ((s.size : Int) != 5) = false := by
    rcases h with h | h
    · exact .inl (by rw [bne_eq_false_iff_eq]; omega)
    · exact .inr ⟨bne_iff_ne.2 (by omega), by rw [bne_eq_false_iff_eq]; omega⟩
  clear hg hms hr hlt hl hK hE2 hN2 b0l hK256 h
  rcases g0 with g1 | ⟨g1, g2⟩
  all_goals
    go_enter Tryd.func18, Tryd.ntmps18
    go_wp2_with fail
    refine wp_region_M_lit (by kernel_rfl) ?_
    (refine takeV 0 (v := ?_) (by simp only [List.getElem?_toArray, List.getElem?_cons, reduceIte]; rfl) (by kernel_rfl) (by rfl) (fun w' hw' => ?_) ?_; rotate_left; focus (skip; go_simp; first | done | with_reducible rfl)); (simp only [Act.put, List.setIfInBounds_toArray, List.set])
    (refine takeV 1 (v := ?_) (by simp only [List.getElem?_toArray, List.getElem?_cons, reduceIte]; rfl) (by kernel_rfl) (by rfl) (fun w' hw' => ?_) ?_; rotate_left; focus (skip; go_simp; first | done | with_reducible rfl)); (simp only [Act.put, List.setIfInBounds_toArray, List.set])
    (refine takeV 2 (v := ?_) (by simp only [List.getElem?_toArray, List.getElem?_cons, reduceIte]; rfl) (by kernel_rfl) (by rfl) (fun w' hw' => ?_) ?_; rotate_left; focus (skip; go_simp; first | done | with_reducible rfl)); (simp only [Act.put, List.setIfInBounds_toArray, List.set])
    (refine takeV 3 (v := ?_) (by simp only [List.getElem?_toArray, List.getElem?_cons, reduceIte]; rfl) (by kernel_rfl) (by rfl) (fun w' hw' => ?_) ?_; rotate_left; focus (skip; go_simp; first | done | with_reducible rfl)); (simp only [Act.put, List.setIfInBounds_toArray, List.set])
    (refine takeV 4 (v := ?_) (by simp only [List.getElem?_toArray, List.getElem?_cons, reduceIte]; rfl) (by kernel_rfl) (by rfl) (fun w' hw' => ?_) ?_; rotate_left; focus (skip; go_simp; first | done | with_reducible rfl)); (simp only [Act.put, List.setIfInBounds_toArray, List.set])
    (refine takeG 5 (v := ?_) (by simp only [List.getElem?_toArray, List.getElem?_cons, reduceIte]; rfl) (by kernel_rfl) (by rfl) (fun w' hw' => ?_) ?_; rotate_left; focus (go_simp; refine ⟨Ext.refl _, ?_⟩; (have hq := gives_same (cE.out w'); exact hq))); (simp only [Act.put, List.setIfInBounds_toArray, List.set])
    (refine takeV 6 (v := ?_) (by simp only [List.getElem?_toArray, List.getElem?_cons, reduceIte]; rfl) (by kernel_rfl) (by rfl) (fun w' hw' => ?_) ?_; rotate_left; focus (skip; go_simp; first | done | with_reducible rfl)); (simp only [Act.put, List.setIfInBounds_toArray, List.set])
    (refine takeV 7 (v := ?_) (by simp only [List.getElem?_toArray, List.getElem?_cons, reduceIte]; rfl) (by kernel_rfl) (by rfl) (fun w' hw' => ?_) ?_; rotate_left; focus (skip; go_simp; first | done | with_reducible rfl)); (simp only [Act.put, List.setIfInBounds_toArray, List.set])
    (refine takeV 8 (v := ?_) (by simp only [List.getElem?_toArray, List.getElem?_cons, reduceIte]; rfl) (by kernel_rfl) (by rfl) (fun w' hw' => ?_) ?_; rotate_left; focus (skip; go_simp; first | done | with_reducible rfl)); (simp only [Act.put, List.setIfInBounds_toArray, List.set])
    (refine takeG 9 (v := ?_) (by simp only [List.getElem?_toArray, List.getElem?_cons, reduceIte]; rfl) (by kernel_rfl) (by rfl) (fun w' hw' => ?_) ?_; rotate_left; focus (go_simp; refine ⟨Ext.refl _, ?_⟩; (have hq := gives_same (cN.out w'); exact hq))); (simp only [Act.put, List.setIfInBounds_toArray, List.set])
    (refine takeV 10 (v := ?_) (by simp only [List.getElem?_toArray, List.getElem?_cons, reduceIte]; rfl) (by kernel_rfl) (by rfl) (fun w' hw' => ?_) ?_; rotate_left; focus (skip; go_simp; first | done | with_reducible rfl)); (simp only [Act.put, List.setIfInBounds_toArray, List.set])
    (refine takeV 11 (v := ?_) (by simp only [List.getElem?_toArray, List.getElem?_cons, reduceIte]; rfl) (by kernel_rfl) (by rfl) (fun w' hw' => ?_) ?_; rotate_left; focus (skip; go_simp; first | done | with_reducible rfl)); (simp only [Act.put, List.setIfInBounds_toArray, List.set])
    (refine runOne 12 (by simp only [List.getElem?_toArray, List.getElem?_cons, reduceIte]; rfl) (by kernel_rfl) (by kernel_rfl) (by rfl) ?_; intro w' hw'; go_simp; refine ⟨Ext.alloc (Ext.refl _) _, ?_⟩; try (simp only [Act.put, List.setIfInBounds_toArray, List.set]))
    have Y2 := Lib.hid hw'
    have B1 := Lib.hid (late_blk hw')
    clear hw'
    obtain ⟨wA, hA⟩ : ∃ wA, wA = w' := ⟨_, rfl⟩
    rw [← hA] at Y2 B1 ⊢
    clear hA
    (refine runLate 13 (by simp only [List.getElem?_toArray, List.getElem?_cons, reduceIte]; rfl) (by kernel_rfl) (by kernel_rfl) (by rfl) ?_; intro w' hw'; obtain ⟨k5, k6⟩ := three_cells (late_blk hw'); go_simp; try (simp only [Act.put, List.setIfInBounds_toArray, List.set]))
    (refine lateDone (by kernel_rfl) ?_)
    have z := set3_blk (late_blk hw') (.int .i64 (K : Int)) (.int .i64 (E : Int)) (.int .i64 (N : Int))
    have gA : w.heap.size < wA.heap.size := blk_lt B1.out
    have y3 : Ext w (set3 w' wA.heap.size (.int .i64 (K : Int)) (.int .i64 (E : Int)) (.int .i64 (N : Int))) :=
      set3_ext (Ext.trans (Ext.trans ((Ext.refl w).alloc _) (Ext.alloc Y2.out _)) hw') (Nat.le_of_lt gA) _ _ _
    have o1 : (set3 w' wA.heap.size (.int .i64 (K : Int)) (.int .i64 (E : Int)) (.int .i64 (N : Int))).heap[w.heap.size]? = some (.cells #[.int .i64 0, .int .i64 0, .int .i64 0] 24 (0, 0)) := by
      rw [set3_other (Nat.ne_of_lt gA)]
      exact blk_later (blk_alloc B1.out _) hw'
    obtain ⟨W5, hW5⟩ : ∃ W5, W5 = set3 w' wA.heap.size (.int .i64 (K : Int)) (.int .i64 (E : Int)) (.int .i64 (N : Int)) := ⟨_, rfl⟩
    rw [← hW5] at z y3 o1
    simp only [set3] at hW5
    rw [← hW5]
    clear hW5 hw' Y2 B1 k5 k6
    have Y4 := Lib.hid y3
    have O1 := Lib.hid o1
    have ZB := Lib.hid z
    clear y3 o1 z
    have m1 := (three_cells ZB.out).1
    go_wp2_with (first
      | (go_at_call 11; refine (cR.out W5).mono ?_; rintro e w7 ⟨rfl, x7⟩; have Y7 := Lib.hid x7; obtain ⟨j1, j2⟩ := three_cells (blk_later O1.out x7); have m7 := (three_cells (blk_later ZB.out x7)).1; clear x7))
    have x8 := Y7.out
    have z := set3_blk (blk_later O1.out x8) (.int .i64 0) (.int .i64 0) (.int .i64 0)
    have y5 := set3_ext (Ext.trans Y4.out x8) (Nat.le_refl _) (.int .i64 0) (.int .i64 0) (.int .i64 0)
    obtain ⟨z0, z1, z2⟩ := (three_cells z).1
    simp only [set3] at z0 z1 z2
    refine bodyPost_ret (v := .tuple #[.agg #[.int .i64 0, .int .i64 0, .int .i64 0], .bool false]) (by simp [results, Tryd.results18, go_sem, z0, z1, z2]) rfl ⟨?_, y5⟩
    rw [not_got H1.out, H1.out]
    rfl

set_option maxRecDepth 100000 in
set_option maxHeartbeats 1600000 in
theorem refGet_ne (w : World) (s : ByteArray) (h : s.size = 3 ∨ s.size = 5) (hr : rightM (msOf s) = true) (hq : putMs (msOf s) ≠ s) : Calls Tryd.prog 18 #[.string s] w (GetsM s w) := by
  have hg : gotM s = false := by
    have h35 : (decide (s.size = 3) || decide (s.size = 5)) = true := by simpa using h
    unfold gotM
    rw [h35, hr, decide_eq_false hq]
    rfl
  have H1 := Lib.hid hg
  have hlt : ∀ b ∈ bl s, b < 256 := bl_lt s
  have hl := bl_length s
  have l0 : 0 < s.size := by omega
  have b0 := bl_at s l0
  have b0l : (s[0]'l0).toNat < 256 := (s[0]'l0).toNat_lt
  have cE := fun W => refNumber_any W (s.extract 1 3) (by rw [ByteArray.size_extract]; omega)
  have cN := fun W => refNumber_any W (s.extract 3 s.size) (by rw [ByteArray.size_extract]; omega)
  rw [bl_extract] at cE
  rw [bl_rest] at cN
  have hE : numN (((bl s).drop 1).take (3 - 1)) < 65536 := num_two (fun b hb => hlt b (List.mem_of_mem_drop (List.mem_of_mem_take hb))) (by rw [List.length_take]; omega)
  have hN : numN ((bl s).drop 3) < 65536 := num_two (fun b hb => hlt b (List.mem_of_mem_drop hb)) (by rw [List.length_drop]; omega)
  have hms : msOf s = ⟨((bl s).getD 0 0 : Nat), (numN (((bl s).drop 1).take (3 - 1)) : Nat), (numN ((bl s).drop 3) : Nat)⟩ := rfl
  obtain ⟨K, hK⟩ : ∃ K, K = (bl s).getD 0 0 := ⟨_, rfl⟩
  obtain ⟨E, hE2⟩ : ∃ E, E = numN (((bl s).drop 1).take (3 - 1)) := ⟨_, rfl⟩
  obtain ⟨N, hN2⟩ : ∃ N, N = numN ((bl s).drop 3) := ⟨_, rfl⟩
  rw [← hK] at b0 hms
  rw [← hE2] at cE hE hms
  rw [← hN2] at cN hN hms
  have hK256 : K < 256 := by rw [← b0]; exact b0l
  replace cE := Lib.hid cE
  replace cN := Lib.hid cN
  have cR := Lib.hid (fun W => refRight_any W (msOf s))
  rw [hr, hms] at cR
  change Hid (∀ W, Calls Tryd.prog 11 #[.agg #[.int .i64 (K : Int), .int .i64 (E : Int), .int .i64 (N : Int)]] W fun ev w' => ev = .returned (.bool true) ∧ Ext W w') at cR
  have cP := Lib.hid (fun W => refPut_any W K E N hK256 hE hN)
  have hp : putMs (msOf s) = textN (putM K E N) := by rw [hms]; rfl
  rw [hp] at hq
  obtain ⟨P, hP⟩ : ∃ P, P = textN (putM K E N) := ⟨_, rfl⟩
  rw [← hP] at cP hq
  have hcmp : (P.toList == s.toList) = false := by rw [tl_eq]; exact decide_eq_false hq
  clear hq hP hp
  have HM := Lib.hid hms
  have e1 : IntKind.i64.wrap (E : Int) = (E : Int) := wrapN _ (by omega) (by omega)
  have e2 : IntKind.i64.wrap (N : Int) = (N : Int) := wrapN _ (by omega) (by omega)
  have e3 : IntKind.i64.wrap (K : Int) = (K : Int) := wrapN _ (by omega) (by omega)
  have f0 : (0 : Int) < (s.size : Int) := by omega
  have f3 : (3 : Int) ≤ (s.size : Int) := by omega
  have g0 : ((s.size : Int) != 3) = false ∨ ((s.size : Int) != 3) = true ∧ ((s.size : Int) != 5) = false := by
    rcases h with h | h
    · exact .inl (by rw [bne_eq_false_iff_eq]; omega)
    · exact .inr ⟨bne_iff_ne.2 (by omega), by rw [bne_eq_false_iff_eq]; omega⟩
  clear hg hms hr hlt hl hK hE2 hN2 b0l hK256 h
  rcases g0 with g1 | ⟨g1, g2⟩
  all_goals
    go_enter Tryd.func18, Tryd.ntmps18
    go_wp2_with fail
    refine wp_region_M_lit (by kernel_rfl) ?_
    (refine takeV 0 (v := ?_) (by simp only [List.getElem?_toArray, List.getElem?_cons, reduceIte]; rfl) (by kernel_rfl) (by rfl) (fun w' hw' => ?_) ?_; rotate_left; focus (skip; go_simp; first | done | with_reducible rfl)); (simp only [Act.put, List.setIfInBounds_toArray, List.set])
    (refine takeV 1 (v := ?_) (by simp only [List.getElem?_toArray, List.getElem?_cons, reduceIte]; rfl) (by kernel_rfl) (by rfl) (fun w' hw' => ?_) ?_; rotate_left; focus (skip; go_simp; first | done | with_reducible rfl)); (simp only [Act.put, List.setIfInBounds_toArray, List.set])
    (refine takeV 2 (v := ?_) (by simp only [List.getElem?_toArray, List.getElem?_cons, reduceIte]; rfl) (by kernel_rfl) (by rfl) (fun w' hw' => ?_) ?_; rotate_left; focus (skip; go_simp; first | done | with_reducible rfl)); (simp only [Act.put, List.setIfInBounds_toArray, List.set])
    (refine takeV 3 (v := ?_) (by simp only [List.getElem?_toArray, List.getElem?_cons, reduceIte]; rfl) (by kernel_rfl) (by rfl) (fun w' hw' => ?_) ?_; rotate_left; focus (skip; go_simp; first | done | with_reducible rfl)); (simp only [Act.put, List.setIfInBounds_toArray, List.set])
    (refine takeV 4 (v := ?_) (by simp only [List.getElem?_toArray, List.getElem?_cons, reduceIte]; rfl) (by kernel_rfl) (by rfl) (fun w' hw' => ?_) ?_; rotate_left; focus (skip; go_simp; first | done | with_reducible rfl)); (simp only [Act.put, List.setIfInBounds_toArray, List.set])
    (refine takeG 5 (v := ?_) (by simp only [List.getElem?_toArray, List.getElem?_cons, reduceIte]; rfl) (by kernel_rfl) (by rfl) (fun w' hw' => ?_) ?_; rotate_left; focus (go_simp; refine ⟨Ext.refl _, ?_⟩; (have hq := gives_same (cE.out w'); exact hq))); (simp only [Act.put, List.setIfInBounds_toArray, List.set])
    (refine takeV 6 (v := ?_) (by simp only [List.getElem?_toArray, List.getElem?_cons, reduceIte]; rfl) (by kernel_rfl) (by rfl) (fun w' hw' => ?_) ?_; rotate_left; focus (skip; go_simp; first | done | with_reducible rfl)); (simp only [Act.put, List.setIfInBounds_toArray, List.set])
    (refine takeV 7 (v := ?_) (by simp only [List.getElem?_toArray, List.getElem?_cons, reduceIte]; rfl) (by kernel_rfl) (by rfl) (fun w' hw' => ?_) ?_; rotate_left; focus (skip; go_simp; first | done | with_reducible rfl)); (simp only [Act.put, List.setIfInBounds_toArray, List.set])
    (refine takeV 8 (v := ?_) (by simp only [List.getElem?_toArray, List.getElem?_cons, reduceIte]; rfl) (by kernel_rfl) (by rfl) (fun w' hw' => ?_) ?_; rotate_left; focus (skip; go_simp; first | done | with_reducible rfl)); (simp only [Act.put, List.setIfInBounds_toArray, List.set])
    (refine takeG 9 (v := ?_) (by simp only [List.getElem?_toArray, List.getElem?_cons, reduceIte]; rfl) (by kernel_rfl) (by rfl) (fun w' hw' => ?_) ?_; rotate_left; focus (go_simp; refine ⟨Ext.refl _, ?_⟩; (have hq := gives_same (cN.out w'); exact hq))); (simp only [Act.put, List.setIfInBounds_toArray, List.set])
    (refine takeV 10 (v := ?_) (by simp only [List.getElem?_toArray, List.getElem?_cons, reduceIte]; rfl) (by kernel_rfl) (by rfl) (fun w' hw' => ?_) ?_; rotate_left; focus (skip; go_simp; first | done | with_reducible rfl)); (simp only [Act.put, List.setIfInBounds_toArray, List.set])
    (refine takeV 11 (v := ?_) (by simp only [List.getElem?_toArray, List.getElem?_cons, reduceIte]; rfl) (by kernel_rfl) (by rfl) (fun w' hw' => ?_) ?_; rotate_left; focus (skip; go_simp; first | done | with_reducible rfl)); (simp only [Act.put, List.setIfInBounds_toArray, List.set])
    (refine runOne 12 (by simp only [List.getElem?_toArray, List.getElem?_cons, reduceIte]; rfl) (by kernel_rfl) (by kernel_rfl) (by rfl) ?_; intro w' hw'; go_simp; refine ⟨Ext.alloc (Ext.refl _) _, ?_⟩; try (simp only [Act.put, List.setIfInBounds_toArray, List.set]))
    have Y2 := Lib.hid hw'
    have B1 := Lib.hid (late_blk hw')
    clear hw'
    obtain ⟨wA, hA⟩ : ∃ wA, wA = w' := ⟨_, rfl⟩
    rw [← hA] at Y2 B1 ⊢
    clear hA
    (refine runLate 13 (by simp only [List.getElem?_toArray, List.getElem?_cons, reduceIte]; rfl) (by kernel_rfl) (by kernel_rfl) (by rfl) ?_; intro w' hw'; obtain ⟨k5, k6⟩ := three_cells (late_blk hw'); go_simp; try (simp only [Act.put, List.setIfInBounds_toArray, List.set]))
    (refine lateDone (by kernel_rfl) ?_)
    have z := set3_blk (late_blk hw') (.int .i64 (K : Int)) (.int .i64 (E : Int)) (.int .i64 (N : Int))
    have gA : w.heap.size < wA.heap.size := blk_lt B1.out
    have y3 : Ext w (set3 w' wA.heap.size (.int .i64 (K : Int)) (.int .i64 (E : Int)) (.int .i64 (N : Int))) :=
      set3_ext (Ext.trans (Ext.trans ((Ext.refl w).alloc _) (Ext.alloc Y2.out _)) hw') (Nat.le_of_lt gA) _ _ _
    have o1 : (set3 w' wA.heap.size (.int .i64 (K : Int)) (.int .i64 (E : Int)) (.int .i64 (N : Int))).heap[w.heap.size]? = some (.cells #[.int .i64 0, .int .i64 0, .int .i64 0] 24 (0, 0)) := by
      rw [set3_other (Nat.ne_of_lt gA)]
      exact blk_later (blk_alloc B1.out _) hw'
    obtain ⟨W5, hW5⟩ : ∃ W5, W5 = set3 w' wA.heap.size (.int .i64 (K : Int)) (.int .i64 (E : Int)) (.int .i64 (N : Int)) := ⟨_, rfl⟩
    rw [← hW5] at z y3 o1
    simp only [set3] at hW5
    rw [← hW5]
    clear hW5 hw' Y2 B1 k5 k6
    have Y4 := Lib.hid y3
    have O1 := Lib.hid o1
    have ZB := Lib.hid z
    clear y3 o1 z
    have m1 := (three_cells ZB.out).1
    go_wp2_with (first
      | (go_at_call 11; refine (cR.out W5).mono ?_; rintro e w7 ⟨rfl, x7⟩; have Y7 := Lib.hid x7; have m7 := (three_cells (blk_later ZB.out x7)).1; clear x7)
      | (go_at_call 16; refine (cP.out w7).mono ?_; rintro e w8 ⟨rfl, x8⟩; have Y8 := Lib.hid (Ext.trans Y7.out x8); obtain ⟨j1, j2⟩ := three_cells (blk_later O1.out Y8.out); have m8 := (three_cells (blk_later ZB.out Y8.out)).1; clear x8))
    have x8 := Y8.out
    have z := set3_blk (blk_later O1.out x8) (.int .i64 0) (.int .i64 0) (.int .i64 0)
    have y5 := set3_ext (Ext.trans Y4.out x8) (Nat.le_refl _) (.int .i64 0) (.int .i64 0) (.int .i64 0)
    obtain ⟨z0, z1, z2⟩ := (three_cells z).1
    simp only [set3] at z0 z1 z2
    refine bodyPost_ret (v := .tuple #[.agg #[.int .i64 0, .int .i64 0, .int .i64 0], .bool false]) (by simp [results, Tryd.results18, go_sem, z0, z1, z2]) rfl ⟨?_, y5⟩
    rw [not_got H1.out, H1.out]
    rfl

set_option maxRecDepth 100000 in
set_option maxHeartbeats 1600000 in
theorem refGet_eq (w : World) (s : ByteArray) (h : s.size = 3 ∨ s.size = 5) (hr : rightM (msOf s) = true) (hq : putMs (msOf s) = s) : Calls Tryd.prog 18 #[.string s] w (GetsM s w) := by
  have hg : gotM s = true := by
    have h35 : (decide (s.size = 3) || decide (s.size = 5)) = true := by simpa using h
    unfold gotM
    rw [h35, hr, decide_eq_true hq]
    rfl
  have H1 := Lib.hid hg
  have hlt : ∀ b ∈ bl s, b < 256 := bl_lt s
  have hl := bl_length s
  have l0 : 0 < s.size := by omega
  have b0 := bl_at s l0
  have b0l : (s[0]'l0).toNat < 256 := (s[0]'l0).toNat_lt
  have cE := fun W => refNumber_any W (s.extract 1 3) (by rw [ByteArray.size_extract]; omega)
  have cN := fun W => refNumber_any W (s.extract 3 s.size) (by rw [ByteArray.size_extract]; omega)
  rw [bl_extract] at cE
  rw [bl_rest] at cN
  have hE : numN (((bl s).drop 1).take (3 - 1)) < 65536 := num_two (fun b hb => hlt b (List.mem_of_mem_drop (List.mem_of_mem_take hb))) (by rw [List.length_take]; omega)
  have hN : numN ((bl s).drop 3) < 65536 := num_two (fun b hb => hlt b (List.mem_of_mem_drop hb)) (by rw [List.length_drop]; omega)
  have hms : msOf s = ⟨((bl s).getD 0 0 : Nat), (numN (((bl s).drop 1).take (3 - 1)) : Nat), (numN ((bl s).drop 3) : Nat)⟩ := rfl
  obtain ⟨K, hK⟩ : ∃ K, K = (bl s).getD 0 0 := ⟨_, rfl⟩
  obtain ⟨E, hE2⟩ : ∃ E, E = numN (((bl s).drop 1).take (3 - 1)) := ⟨_, rfl⟩
  obtain ⟨N, hN2⟩ : ∃ N, N = numN ((bl s).drop 3) := ⟨_, rfl⟩
  rw [← hK] at b0 hms
  rw [← hE2] at cE hE hms
  rw [← hN2] at cN hN hms
  have hK256 : K < 256 := by rw [← b0]; exact b0l
  replace cE := Lib.hid cE
  replace cN := Lib.hid cN
  have cR := Lib.hid (fun W => refRight_any W (msOf s))
  rw [hr, hms] at cR
  change Hid (∀ W, Calls Tryd.prog 11 #[.agg #[.int .i64 (K : Int), .int .i64 (E : Int), .int .i64 (N : Int)]] W fun ev w' => ev = .returned (.bool true) ∧ Ext W w') at cR
  have cP := Lib.hid (fun W => refPut_any W K E N hK256 hE hN)
  have hp : putMs (msOf s) = textN (putM K E N) := by rw [hms]; rfl
  rw [hp] at hq
  obtain ⟨P, hP⟩ : ∃ P, P = textN (putM K E N) := ⟨_, rfl⟩
  rw [← hP] at cP hq
  have hcmp : (P.toList == s.toList) = true := by rw [tl_eq]; exact decide_eq_true hq
  clear hq hP hp
  have HM := Lib.hid hms
  have e1 : IntKind.i64.wrap (E : Int) = (E : Int) := wrapN _ (by omega) (by omega)
  have e2 : IntKind.i64.wrap (N : Int) = (N : Int) := wrapN _ (by omega) (by omega)
  have e3 : IntKind.i64.wrap (K : Int) = (K : Int) := wrapN _ (by omega) (by omega)
  have f0 : (0 : Int) < (s.size : Int) := by omega
  have f3 : (3 : Int) ≤ (s.size : Int) := by omega
  have g0 : ((s.size : Int) != 3) = false ∨ ((s.size : Int) != 3) = true ∧ ((s.size : Int) != 5) = false := by
    rcases h with h | h
    · exact .inl (by rw [bne_eq_false_iff_eq]; omega)
    · exact .inr ⟨bne_iff_ne.2 (by omega), by rw [bne_eq_false_iff_eq]; omega⟩
  clear hg hms hr hlt hl hK hE2 hN2 b0l hK256 h
  rcases g0 with g1 | ⟨g1, g2⟩
  all_goals
    go_enter Tryd.func18, Tryd.ntmps18
    go_wp2_with fail
    refine wp_region_M_lit (by kernel_rfl) ?_
    (refine takeV 0 (v := ?_) (by simp only [List.getElem?_toArray, List.getElem?_cons, reduceIte]; rfl) (by kernel_rfl) (by rfl) (fun w' hw' => ?_) ?_; rotate_left; focus (skip; go_simp; first | done | with_reducible rfl)); (simp only [Act.put, List.setIfInBounds_toArray, List.set])
    (refine takeV 1 (v := ?_) (by simp only [List.getElem?_toArray, List.getElem?_cons, reduceIte]; rfl) (by kernel_rfl) (by rfl) (fun w' hw' => ?_) ?_; rotate_left; focus (skip; go_simp; first | done | with_reducible rfl)); (simp only [Act.put, List.setIfInBounds_toArray, List.set])
    (refine takeV 2 (v := ?_) (by simp only [List.getElem?_toArray, List.getElem?_cons, reduceIte]; rfl) (by kernel_rfl) (by rfl) (fun w' hw' => ?_) ?_; rotate_left; focus (skip; go_simp; first | done | with_reducible rfl)); (simp only [Act.put, List.setIfInBounds_toArray, List.set])
    (refine takeV 3 (v := ?_) (by simp only [List.getElem?_toArray, List.getElem?_cons, reduceIte]; rfl) (by kernel_rfl) (by rfl) (fun w' hw' => ?_) ?_; rotate_left; focus (skip; go_simp; first | done | with_reducible rfl)); (simp only [Act.put, List.setIfInBounds_toArray, List.set])
    (refine takeV 4 (v := ?_) (by simp only [List.getElem?_toArray, List.getElem?_cons, reduceIte]; rfl) (by kernel_rfl) (by rfl) (fun w' hw' => ?_) ?_; rotate_left; focus (skip; go_simp; first | done | with_reducible rfl)); (simp only [Act.put, List.setIfInBounds_toArray, List.set])
    (refine takeG 5 (v := ?_) (by simp only [List.getElem?_toArray, List.getElem?_cons, reduceIte]; rfl) (by kernel_rfl) (by rfl) (fun w' hw' => ?_) ?_; rotate_left; focus (go_simp; refine ⟨Ext.refl _, ?_⟩; (have hq := gives_same (cE.out w'); exact hq))); (simp only [Act.put, List.setIfInBounds_toArray, List.set])
    (refine takeV 6 (v := ?_) (by simp only [List.getElem?_toArray, List.getElem?_cons, reduceIte]; rfl) (by kernel_rfl) (by rfl) (fun w' hw' => ?_) ?_; rotate_left; focus (skip; go_simp; first | done | with_reducible rfl)); (simp only [Act.put, List.setIfInBounds_toArray, List.set])
    (refine takeV 7 (v := ?_) (by simp only [List.getElem?_toArray, List.getElem?_cons, reduceIte]; rfl) (by kernel_rfl) (by rfl) (fun w' hw' => ?_) ?_; rotate_left; focus (skip; go_simp; first | done | with_reducible rfl)); (simp only [Act.put, List.setIfInBounds_toArray, List.set])
    (refine takeV 8 (v := ?_) (by simp only [List.getElem?_toArray, List.getElem?_cons, reduceIte]; rfl) (by kernel_rfl) (by rfl) (fun w' hw' => ?_) ?_; rotate_left; focus (skip; go_simp; first | done | with_reducible rfl)); (simp only [Act.put, List.setIfInBounds_toArray, List.set])
    (refine takeG 9 (v := ?_) (by simp only [List.getElem?_toArray, List.getElem?_cons, reduceIte]; rfl) (by kernel_rfl) (by rfl) (fun w' hw' => ?_) ?_; rotate_left; focus (go_simp; refine ⟨Ext.refl _, ?_⟩; (have hq := gives_same (cN.out w'); exact hq))); (simp only [Act.put, List.setIfInBounds_toArray, List.set])
    (refine takeV 10 (v := ?_) (by simp only [List.getElem?_toArray, List.getElem?_cons, reduceIte]; rfl) (by kernel_rfl) (by rfl) (fun w' hw' => ?_) ?_; rotate_left; focus (skip; go_simp; first | done | with_reducible rfl)); (simp only [Act.put, List.setIfInBounds_toArray, List.set])
    (refine takeV 11 (v := ?_) (by simp only [List.getElem?_toArray, List.getElem?_cons, reduceIte]; rfl) (by kernel_rfl) (by rfl) (fun w' hw' => ?_) ?_; rotate_left; focus (skip; go_simp; first | done | with_reducible rfl)); (simp only [Act.put, List.setIfInBounds_toArray, List.set])
    (refine runOne 12 (by simp only [List.getElem?_toArray, List.getElem?_cons, reduceIte]; rfl) (by kernel_rfl) (by kernel_rfl) (by rfl) ?_; intro w' hw'; go_simp; refine ⟨Ext.alloc (Ext.refl _) _, ?_⟩; try (simp only [Act.put, List.setIfInBounds_toArray, List.set]))
    have Y2 := Lib.hid hw'
    have B1 := Lib.hid (late_blk hw')
    clear hw'
    obtain ⟨wA, hA⟩ : ∃ wA, wA = w' := ⟨_, rfl⟩
    rw [← hA] at Y2 B1 ⊢
    clear hA
    (refine runLate 13 (by simp only [List.getElem?_toArray, List.getElem?_cons, reduceIte]; rfl) (by kernel_rfl) (by kernel_rfl) (by rfl) ?_; intro w' hw'; obtain ⟨k5, k6⟩ := three_cells (late_blk hw'); go_simp; try (simp only [Act.put, List.setIfInBounds_toArray, List.set]))
    (refine lateDone (by kernel_rfl) ?_)
    have z := set3_blk (late_blk hw') (.int .i64 (K : Int)) (.int .i64 (E : Int)) (.int .i64 (N : Int))
    have gA : w.heap.size < wA.heap.size := blk_lt B1.out
    have y3 : Ext w (set3 w' wA.heap.size (.int .i64 (K : Int)) (.int .i64 (E : Int)) (.int .i64 (N : Int))) :=
      set3_ext (Ext.trans (Ext.trans ((Ext.refl w).alloc _) (Ext.alloc Y2.out _)) hw') (Nat.le_of_lt gA) _ _ _
    have o1 : (set3 w' wA.heap.size (.int .i64 (K : Int)) (.int .i64 (E : Int)) (.int .i64 (N : Int))).heap[w.heap.size]? = some (.cells #[.int .i64 0, .int .i64 0, .int .i64 0] 24 (0, 0)) := by
      rw [set3_other (Nat.ne_of_lt gA)]
      exact blk_later (blk_alloc B1.out _) hw'
    obtain ⟨W5, hW5⟩ : ∃ W5, W5 = set3 w' wA.heap.size (.int .i64 (K : Int)) (.int .i64 (E : Int)) (.int .i64 (N : Int)) := ⟨_, rfl⟩
    rw [← hW5] at z y3 o1
    simp only [set3] at hW5
    rw [← hW5]
    clear hW5 hw' Y2 B1 k5 k6
    have Y4 := Lib.hid y3
    have O1 := Lib.hid o1
    have ZB := Lib.hid z
    clear y3 o1 z
    have m1 := (three_cells ZB.out).1
    go_wp2_with (first
      | (go_at_call 11; refine (cR.out W5).mono ?_; rintro e w7 ⟨rfl, x7⟩; have Y7 := Lib.hid x7; have m7 := (three_cells (blk_later ZB.out x7)).1; clear x7)
      | (go_at_call 16; refine (cP.out w7).mono ?_; rintro e w8 ⟨rfl, x8⟩; have Y8 := Lib.hid (Ext.trans Y7.out x8); obtain ⟨j1, j2⟩ := three_cells (blk_later O1.out Y8.out); have m8 := (three_cells (blk_later ZB.out Y8.out)).1; clear x8))
    have x8 := Y8.out
    have z := set3_blk (blk_later O1.out x8) (.int .i64 (K : Int)) (.int .i64 (E : Int)) (.int .i64 (N : Int))
    have y5 := set3_ext (Ext.trans Y4.out x8) (Nat.le_refl _) (.int .i64 (K : Int)) (.int .i64 (E : Int)) (.int .i64 (N : Int))
    obtain ⟨z0, z1, z2⟩ := (three_cells z).1
    simp only [set3] at z0 z1 z2
    refine bodyPost_ret (v := .tuple #[.agg #[.int .i64 (K : Int), .int .i64 (E : Int), .int .i64 (N : Int)], .bool true]) (by simp [results, Tryd.results18, go_sem, z0, z1, z2]) rfl ⟨?_, y5⟩
    rw [H1.out]; unfold getM; rw [if_pos H1.out, HM.out]
    rfl

theorem refGet_any (w : World) (s : ByteArray) : Calls Tryd.prog 18 #[.string s] w (GetsM s w) := by
  by_cases h : s.size = 3 ∨ s.size = 5
  · cases hr : rightM (msOf s)
    · exact refGet_no w s h hr
    · by_cases hq : putMs (msOf s) = s
      · exact refGet_eq w s h hr hq
      · exact refGet_ne w s h hr hq
  · exact refGet_len w s h
end Go.Proofs.YtffgphhmkghlnaaDoor
