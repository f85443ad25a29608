/- What the program's messages answer: names and texts. -/
import Derived.Test.YtffgphhmkghlnaaDoorMP
namespace Go.Proofs.YtffgphhmkghlnaaDoor
open Go.RowKit

set_option linter.unusedVariables false

theorem name_none (w : World) (k : Int) (hk : ¬ (1 ≤ k ∧ k ≤ 9)) :
    Calls Tryd.prog 14 #[.int .i64 k] w fun ev w' => ev = .returned (.string (nameS k)) ∧ w = w' := by
  have cS := Lib.hid (fun W => size_any W k)
  rw [sizeM_none hk] at cS
  have hn := Lib.hid (show nameS k = ⟨#[63]⟩ by
    unfold nameS nameL
    rw [if_neg (by omega), if_neg (by omega), if_neg (by omega), if_neg (by omega), if_neg (by omega), if_neg (by omega), if_neg (by omega), if_neg (by omega), if_neg (by omega)]
    rfl)
  clear hk
  go_enter Tryd.func14, Tryd.ntmps14
  go_wp2_with (first | (go_at_call 20; refine (cS.out _).mono ?_; rintro ev w' ⟨rfl, rfl⟩))
  go_ret
  exact ⟨by rw [hn.out]; rfl, rfl⟩

theorem name_any (w : World) (h : Std w) (k : Int) :
    Calls Tryd.prog 14 #[.int .i64 k] w fun ev w' => ev = .returned (.string (nameS k)) ∧ w = w' := by
  by_cases hk : 1 ≤ k ∧ k ≤ 9
  · obtain ⟨i, hi, rfl⟩ : ∃ i : Nat, (1 ≤ i ∧ i ≤ 9) ∧ k = (i : Int) := ⟨k.toNat, by omega, by omega⟩
    have hz := sizeM_some hk
    have cS := Lib.hid (fun W => size_any W (i : Int))
    obtain ⟨Z, hZ⟩ : ∃ Z, Z = sizeM (i : Int) := ⟨_, rfl⟩
    rw [← hZ] at cS hz
    have hl : ∃ l, nameTab[i]? = some l ∧ (⟨l.toArray⟩ : ByteArray) = nameS (i : Int) := by
      have h9 : i = 1 ∨ i = 2 ∨ i = 3 ∨ i = 4 ∨ i = 5 ∨ i = 6 ∨ i = 7 ∨ i = 8 ∨ i = 9 := by omega
      rcases h9 with rfl | rfl | rfl | rfl | rfl | rfl | rfl | rfl | rfl <;> exact ⟨_, rfl, rfl⟩
    obtain ⟨l, hl1, hl2⟩ := hl
    have hc := h.2.cell (g := 0) (by kernel_rfl) i l hl1
    rw [hl2] at hc
    have i1 : (i : Int) < 10 := by omega
    have HS := Lib.hid (show (0 : Nat) = 0 from rfl)
    obtain ⟨S, hS⟩ : ∃ S, S = nameS (i : Int) := ⟨_, rfl⟩
    rw [← hS] at hc ⊢
    clear h hl1 hl2 hZ hk hS hi
    go_enter Tryd.func14, Tryd.ntmps14
    go_wp2_with (first | (go_at_call 20; refine (cS.out _).mono ?_; rintro ev w' ⟨rfl, rfl⟩))
    go_ret
    exact ⟨rfl, rfl⟩
  · exact name_none w k hk

theorem itoa_any (w : World) (h : Std w) (n : Int) (h0 : -9223372036854775808 ≤ n) (h1 : n ≤ 9223372036854775807) :
    Calls Tryd.prog 21 #[.int .i64 n] w fun ev w' => ev = .returned (.string (itoaS n)) ∧ Ext w w' := by
  refine (Tryd.strconv_Itoa n h0 h1 w h.1).mono ?_
  rintro e w' ⟨rfl, k, os, rfl⟩
  refine ⟨rfl, rfl, rfl, rfl, ?_, fun j hj => ?_⟩
  · show w.heap.size ≤ (w.heap ++ os).size
    rw [Array.size_append]
    omega
  · show (w.heap ++ os)[j]? = w.heap[j]?
    rw [Array.getElem?_append, if_pos hj]

set_option maxHeartbeats 800000 in
theorem show_any (w : World) (h : Std w) (m : Mg) (hm : InM m) :
    Calls Tryd.prog 12 #[.agg #[.int .i64 m.k, .int .i64 m.e, .int .i64 m.n]] w fun ev w' => ev = .returned (.string (showS m)) ∧ Ext w w' := by
  have H1 : Hid (∀ W, Ext (w.alloc (.cells #[.int .i64 m.k, .int .i64 m.e, .int .i64 m.n] 24)) W → W.cell? ⟨w.heap.size, 0, none⟩ = some (.int .i64 m.k) ∧ W.cell? ⟨w.heap.size, 1, none⟩ = some (.int .i64 m.e) ∧ W.cell? ⟨w.heap.size, 2, none⟩ = some (.int .i64 m.n)) := Lib.hid fun W x => (three_cells (late_blk x)).1
  have HT : Hid (∀ W, Ext (w.alloc (.cells #[.int .i64 m.k, .int .i64 m.e, .int .i64 m.n] 24)) W → Std W) := Lib.hid fun W x => h.ext (Ext.trans ((Ext.refl w).alloc _) x)
  have cN := Lib.hid (fun W (hW : Std W) => gives_same (name_any W hW m.k))
  have cE := Lib.hid (fun W (hW : Std W) => itoa_any W hW m.e hm.2.1.1 hm.2.1.2)
  have cD := Lib.hid (fun W (hW : Std W) => itoa_any W hW m.n hm.2.2.1 hm.2.2.2)
  have zA := nameS_size m.k
  have zE := itoaS_size hm.2.1.1 hm.2.1.2
  have zD := itoaS_size hm.2.2.1 hm.2.2.2
  have HS := Lib.hid (show showS m = if m.k = 9 then nameS m.k ++ ⟨#[64]⟩ ++ itoaS m.e ++ (⟨#[32]⟩ ++ itoaS m.n) else nameS m.k ++ ⟨#[64]⟩ ++ itoaS m.e by
    unfold showS
    split
    · apply ByteArray.ext
      simp only [ByteArray.data_append, Array.append_assoc]
    · rfl)
  obtain ⟨A, hA⟩ : ∃ A, A = nameS m.k := ⟨_, rfl⟩
  obtain ⟨E, hE⟩ : ∃ E, E = itoaS m.e := ⟨_, rfl⟩
  obtain ⟨D, hD⟩ : ∃ D, D = itoaS m.n := ⟨_, rfl⟩
  rw [← hA] at cN HS zA
  rw [← hE] at cE HS zE
  rw [← hD] at cD HS zD
  have z1 : ¬ 9223372036854775807 < A.size + 1 := by omega
  have z2 : ¬ 9223372036854775807 < A.size + 1 + E.size := by omega
  have z3 : ¬ 9223372036854775807 < 1 + D.size := by omega
  have z4 : ¬ 9223372036854775807 < A.size + 1 + E.size + (1 + D.size) := by omega
  clear hA hE hD zA zE zD h hm
  by_cases h9 : m.k = 9
  · have b9 : (m.k == 9) = true := beq_iff_eq.2 h9
    rw [if_pos h9] at HS
    clear h9
    go_enter Tryd.func12, Tryd.ntmps12
    go_wp2_with fail
    refine wp_region_M_lit (by kernel_rfl) ?_
    have HX : Ext (w.alloc (.cells #[.int .i64 m.k, .int .i64 m.e, .int .i64 m.n] 24)) _ := Ext.refl _
    (refine takeV 0 (v := ?_) (by simp only [List.getElem?_toArray, List.getElem?_cons, reduceIte]; rfl) (by kernel_rfl) (by rfl) (fun w' hw' => ?_) ?_; rotate_left; focus (skip; go_simp; first | done | with_reducible rfl)); (simp only [Act.put, List.setIfInBounds_toArray, List.set])
    (refine takeV 1 (v := ?_) (by simp only [List.getElem?_toArray, List.getElem?_cons, reduceIte]; rfl) (by kernel_rfl) (by rfl) (fun w' hw' => ?_) ?_; rotate_left; focus (have hc := H1.out w' (Ext.trans HX hw'); go_simp; first | done | with_reducible rfl)); (simp only [Act.put, List.setIfInBounds_toArray, List.set])
    (refine takeG 2 (v := ?_) (by simp only [List.getElem?_toArray, List.getElem?_cons, reduceIte]; rfl) (by kernel_rfl) (by rfl) (fun w' hw' => ?_) ?_; rotate_left; focus (go_simp; refine ⟨Ext.refl _, ?_⟩; (exact cN.out w' (HT.out w' (Ext.trans HX hw'))))); (simp only [Act.put, List.setIfInBounds_toArray, List.set])
    (refine takeV 3 (v := ?_) (by simp only [List.getElem?_toArray, List.getElem?_cons, reduceIte]; rfl) (by kernel_rfl) (by rfl) (fun w' hw' => ?_) ?_; rotate_left; focus (skip; go_simp; first | done | with_reducible rfl)); (simp only [Act.put, List.setIfInBounds_toArray, List.set])
    (refine takeV 4 (v := ?_) (by simp only [List.getElem?_toArray, List.getElem?_cons, reduceIte]; rfl) (by kernel_rfl) (by rfl) (fun w' hw' => ?_) ?_; rotate_left; focus (skip; go_simp; first | done | with_reducible rfl)); (simp only [Act.put, List.setIfInBounds_toArray, List.set])
    (refine takeV 5 (v := ?_) (by simp only [List.getElem?_toArray, List.getElem?_cons, reduceIte]; rfl) (by kernel_rfl) (by rfl) (fun w' hw' => ?_) ?_; rotate_left; focus (have hc := H1.out w' (Ext.trans HX hw'); go_simp; first | done | with_reducible rfl)); (simp only [Act.put, List.setIfInBounds_toArray, List.set])
    (refine takeG 6 (v := ?_) (by simp only [List.getElem?_toArray, List.getElem?_cons, reduceIte]; rfl) (by kernel_rfl) (by rfl) (fun w' hw' => ?_) ?_; rotate_left; focus (go_simp; refine ⟨Ext.refl _, ?_⟩; (exact cE.out w' (HT.out w' (Ext.trans HX hw'))))); (simp only [Act.put, List.setIfInBounds_toArray, List.set])
    (refine takeV 7 (v := ?_) (by simp only [List.getElem?_toArray, List.getElem?_cons, reduceIte]; rfl) (by kernel_rfl) (by rfl) (fun w' hw' => ?_) ?_; rotate_left; focus (skip; go_simp; first | done | with_reducible rfl)); (simp only [Act.put, List.setIfInBounds_toArray, List.set])
    (refine takeV 8 (v := ?_) (by simp only [List.getElem?_toArray, List.getElem?_cons, reduceIte]; rfl) (by kernel_rfl) (by rfl) (fun w' hw' => ?_) ?_; rotate_left; focus (skip; go_simp; first | done | with_reducible rfl)); (simp only [Act.put, List.setIfInBounds_toArray, List.set])
    (refine doneM (by kernel_rfl) ?_; intro w' hw'; show _)
    have y1 := Lib.hid (Ext.trans HX hw')
    have k1 := H1.out w' y1.out
    clear hw' HX
    go_wp2_with (first
      | (go_at_call 21; refine (cD.out _ (HT.out _ y1.out)).mono ?_; rintro e w4 ⟨rfl, x4⟩; have y4 := Lib.hid (Ext.trans y1.out x4); clear x4))
    go_ret
    exact ⟨by rw [HS.out]; rfl, Ext.trans ((Ext.refl w).alloc _) y4.out⟩
  · have b9 : (m.k == 9) = false := beq_eq_false_iff_ne.2 h9
    rw [if_neg h9] at HS
    clear h9
    go_enter Tryd.func12, Tryd.ntmps12
    go_wp2_with fail
    refine wp_region_M_lit (by kernel_rfl) ?_
    have HX : Ext (w.alloc (.cells #[.int .i64 m.k, .int .i64 m.e, .int .i64 m.n] 24)) _ := Ext.refl _
    (refine takeV 0 (v := ?_) (by simp only [List.getElem?_toArray, List.getElem?_cons, reduceIte]; rfl) (by kernel_rfl) (by rfl) (fun w' hw' => ?_) ?_; rotate_left; focus (skip; go_simp; first | done | with_reducible rfl)); (simp only [Act.put, List.setIfInBounds_toArray, List.set])
    (refine takeV 1 (v := ?_) (by simp only [List.getElem?_toArray, List.getElem?_cons, reduceIte]; rfl) (by kernel_rfl) (by rfl) (fun w' hw' => ?_) ?_; rotate_left; focus (have hc := H1.out w' (Ext.trans HX hw'); go_simp; first | done | with_reducible rfl)); (simp only [Act.put, List.setIfInBounds_toArray, List.set])
    (refine takeG 2 (v := ?_) (by simp only [List.getElem?_toArray, List.getElem?_cons, reduceIte]; rfl) (by kernel_rfl) (by rfl) (fun w' hw' => ?_) ?_; rotate_left; focus (go_simp; refine ⟨Ext.refl _, ?_⟩; (exact cN.out w' (HT.out w' (Ext.trans HX hw'))))); (simp only [Act.put, List.setIfInBounds_toArray, List.set])
    (refine takeV 3 (v := ?_) (by simp only [List.getElem?_toArray, List.getElem?_cons, reduceIte]; rfl) (by kernel_rfl) (by rfl) (fun w' hw' => ?_) ?_; rotate_left; focus (skip; go_simp; first | done | with_reducible rfl)); (simp only [Act.put, List.setIfInBounds_toArray, List.set])
    (refine takeV 4 (v := ?_) (by simp only [List.getElem?_toArray, List.getElem?_cons, reduceIte]; rfl) (by kernel_rfl) (by rfl) (fun w' hw' => ?_) ?_; rotate_left; focus (skip; go_simp; first | done | with_reducible rfl)); (simp only [Act.put, List.setIfInBounds_toArray, List.set])
    (refine takeV 5 (v := ?_) (by simp only [List.getElem?_toArray, List.getElem?_cons, reduceIte]; rfl) (by kernel_rfl) (by rfl) (fun w' hw' => ?_) ?_; rotate_left; focus (have hc := H1.out w' (Ext.trans HX hw'); go_simp; first | done | with_reducible rfl)); (simp only [Act.put, List.setIfInBounds_toArray, List.set])
    (refine takeG 6 (v := ?_) (by simp only [List.getElem?_toArray, List.getElem?_cons, reduceIte]; rfl) (by kernel_rfl) (by rfl) (fun w' hw' => ?_) ?_; rotate_left; focus (go_simp; refine ⟨Ext.refl _, ?_⟩; (exact cE.out w' (HT.out w' (Ext.trans HX hw'))))); (simp only [Act.put, List.setIfInBounds_toArray, List.set])
    (refine takeV 7 (v := ?_) (by simp only [List.getElem?_toArray, List.getElem?_cons, reduceIte]; rfl) (by kernel_rfl) (by rfl) (fun w' hw' => ?_) ?_; rotate_left; focus (skip; go_simp; first | done | with_reducible rfl)); (simp only [Act.put, List.setIfInBounds_toArray, List.set])
    (refine takeV 8 (v := ?_) (by simp only [List.getElem?_toArray, List.getElem?_cons, reduceIte]; rfl) (by kernel_rfl) (by rfl) (fun w' hw' => ?_) ?_; rotate_left; focus (skip; go_simp; first | done | with_reducible rfl)); (simp only [Act.put, List.setIfInBounds_toArray, List.set])
    (refine doneM (by kernel_rfl) ?_; intro w' hw'; show _)
    have y1 := Lib.hid (Ext.trans HX hw')
    have k1 := H1.out w' y1.out
    clear hw' HX
    go_wp2
    go_ret
    exact ⟨by rw [HS.out]; rfl, Ext.trans ((Ext.refl w).alloc _) y1.out⟩
end Go.Proofs.YtffgphhmkghlnaaDoor
