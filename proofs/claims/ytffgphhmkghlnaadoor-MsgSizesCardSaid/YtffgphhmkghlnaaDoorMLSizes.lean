/- MsgSizes: walked. -/
import Derived.Test.YtffgphhmkghlnaaDoorMLApart
namespace Go.Proofs.YtffgphhmkghlnaaDoor
open Go.RowKit

theorem show_parts (m : Mg) : ∃ R, showS m = nameS m.k ++ (⟨#[64]⟩ ++ R) := by
  unfold showS
  split
  · exact ⟨itoaS m.e ++ ⟨#[32]⟩ ++ itoaS m.n, by simp only [ByteArray.append_assoc]⟩
  · exact ⟨itoaS m.e, by simp only [ByteArray.append_assoc]⟩

theorem name_known {k : Int} (h : 1 ≤ k ∧ k ≤ 9) : nameS k ≠ ⟨#[63]⟩ := by
  intro e
  have e8 := congrArg by8 e
  rw [by8_name] at e8
  have hk : k = 1 ∨ k = 2 ∨ k = 3 ∨ k = 4 ∨ k = 5 ∨ k = 6 ∨ k = 7 ∨ k = 8 ∨ k = 9 := by omega
  rcases hk with rfl | rfl | rfl | rfl | rfl | rfl | rfl | rfl | rfl <;> exact absurd e8 (by decide)

set_option maxRecDepth 100000 in
set_option maxHeartbeats 1600000 in
theorem msgSizes_short (w : World) (hw : Std w) (m : Mg) (hm : InM m) (hr : rightM m = true) :
    Calls Tryd.prog 7 #[.agg #[.int .i64 m.k, .int .i64 m.e, .int .i64 m.n]] w fun e w' => e = .returned (.bool true) ∧ Ext w w' := by
  have HT : Hid (∀ W, Ext (w.alloc (.cells #[.int .i64 m.k, .int .i64 m.e, .int .i64 m.n] 24)) W → Std W) := Lib.hid fun W x => hw.ext (Ext.trans ((Ext.refl w).alloc _) x)
  have HK : Hid (∀ W, Ext (w.alloc (.cells #[.int .i64 m.k, .int .i64 m.e, .int .i64 m.n] 24)) W → (W.cell? ⟨w.heap.size, 0, none⟩ = some (.int .i64 m.k) ∧ W.cell? ⟨w.heap.size, 1, none⟩ = some (.int .i64 m.e) ∧ W.cell? ⟨w.heap.size, 2, none⟩ = some (.int .i64 m.n))) := Lib.hid fun W x => (three_cells (late_blk x)).1
  have HE : Hid (∀ W, Ext (w.alloc (.cells #[.int .i64 m.k, .int .i64 m.e, .int .i64 m.n] 24)) W → Ext w W) := Lib.hid fun W x => Ext.trans ((Ext.refl w).alloc _) x
  have cRm := Lib.hid (fun W => right_any W m)
  rw [hr] at cRm
  have cP := Lib.hid (fun W => put_any W m)
  have cS := Lib.hid (fun W h => show_any W h m hm)
  have cN := Lib.hid (fun W (hW : Std W) => gives_same (name_any W hW m.k))
  have p1 : putF m = putMs m := by unfold putF; rw [if_pos hr]
  have p2 : putE m = 0 := by unfold putE; rw [if_pos hr]
  have hs := rightM_spec.1 hr
  obtain ⟨R, hR⟩ := show_parts m
  have hk := name_known hs.1
  have hsz : ((putMs m).size : Int) = if m.k = 9 then 5 else 3 := by
    rw [putMs_size]
    by_cases h9 : m.k = 9
    · rw [if_pos (by omega), if_pos h9]; rfl
    · rw [if_neg (by omega), if_neg h9]; rfl
  have f1 : (showS m).extract 0 (nameS m.k).size = nameS m.k := by
    rw [hR]
    apply ByteArray.ext
    rw [ByteArray.data_extract, ByteArray.data_append, show (nameS m.k).size = (nameS m.k).data.size from rfl, Array.extract_append_left]
    simp
  have f2 : (nameS m.k).size < (showS m).size := by
    rw [hR, ByteArray.size_append, ByteArray.size_append]
    have : (⟨#[64]⟩ : ByteArray).size = 1 := rfl
    omega
  have f3 : ∀ h : (nameS m.k).size < (showS m).size, ((showS m)[(nameS m.k).size]'h).toNat = 64 := by
    intro h
    rw [bl_at _ h, hR, bl_append, bl_append]
    have hl : (bl (nameS m.k)).length = (nameS m.k).size := bl_length _
    rw [List.getD_eq_getElem?_getD, List.getElem?_append_right (by omega), hl, Nat.sub_self]
    rfl
  have hse := itoaS_size hm.2.1.1 hm.2.1.2
  rw [p1, p2] at cP
  obtain ⟨S, hS⟩ : ∃ S, S = putMs m := ⟨_, rfl⟩
  rw [← hS] at cP hsz
  obtain ⟨A, U, hAU, cS, cN, f1, f2, f3, hk⟩ : ∃ A U : ByteArray, True ∧ Hid (∀ W, Std W → Calls Tryd.prog 12 #[.agg #[.int .i64 m.k, .int .i64 m.e, .int .i64 m.n]] W fun ev w' => ev = .returned (.string A) ∧ Ext W w') ∧ Hid (∀ W, Std W → Calls Tryd.prog 14 #[.int .i64 m.k] W fun ev w' => ev = .returned (.string U) ∧ Ext W w') ∧
      A.extract 0 U.size = U ∧ U.size < A.size ∧ (∀ h : U.size < A.size, (A[U.size]'h).toNat = 64) ∧ U ≠ ⟨#[63]⟩ := ⟨showS m, nameS m.k, trivial, cS, cN, f1, f2, f3, hk⟩
  have f4 := f3 f2
  have f5 : ((A.extract 0 U.size).toList == U.toList) = true := by rw [tl_eq, f1]; simp
  have f6 : (U.toList == (⟨#[63]⟩ : ByteArray).toList) = false := by rw [tl_eq]; exact decide_eq_false hk
  rw [show (⟨#[63]⟩ : ByteArray).toList = [63] by rw [ByteArray.toList_eq]] at f6
  have f7 : (U.size : Int) < (A.size : Int) := by omega
  have f8 : (U.size : Int) ≤ (A.size : Int) := by omega
  have f9 : (0 : Int) ≤ (U.size : Int) := by omega
  clear hw hm hr p1 p2 hs hR hk hS hAU f1 f3 hse
  by_cases h9 : m.k = 9
  · have b9 : (m.k == 9) = true := beq_iff_eq.2 h9
    rw [if_pos h9] at hsz
    clear h9
    go_enter Tryd.func7, Tryd.ntmps7
    go_wp2_with (first
      | (go_at_call 8; refine (awake_any _ (HT.out _ (Ext.refl _))).mono ?_; rintro e w1 ⟨rfl, x1⟩; have y1 := Lib.hid x1; have k1 := HK.out w1 x1; clear x1)
      | (go_at_call 10; refine (cRm.out _).mono ?_; rintro e w2 ⟨rfl, x2⟩; have y2 := Lib.hid (Ext.trans y1.out x2); have k2 := HK.out w2 y2.out; clear x2 k1)
      | (go_at_call 9; refine (cP.out _).mono ?_; rintro e w3 ⟨rfl, x3⟩; have y3 := Lib.hid (Ext.trans y2.out x3); clear x3 k2))
    refine wp_region_M_lit (by kernel_rfl) ?_
    (refine takeV 0 (v := ?_) (by simp only [List.getElem?_toArray, List.getElem?_cons, reduceIte]; rfl) (by kernel_rfl) (by rfl) (fun w' hw' => ?_) ?_; rotate_left; focus (have hc := HK.out w' (Ext.trans y3.out hw'); go_simp; first | done | with_reducible rfl)); (simp only [Act.put, List.setIfInBounds_toArray, List.set])
    (refine takeG 1 (v := ?_) (by simp only [List.getElem?_toArray, List.getElem?_cons, reduceIte]; rfl) (by kernel_rfl) (by rfl) (fun w' hw' => ?_) ?_; rotate_left; focus (go_simp; refine ⟨Ext.refl _, ?_⟩; (exact cS.out w' (HT.out _ (Ext.trans y3.out hw'))))); (simp only [Act.put, List.setIfInBounds_toArray, List.set])
    (refine takeV 2 (v := ?_) (by simp only [List.getElem?_toArray, List.getElem?_cons, reduceIte]; rfl) (by kernel_rfl) (by rfl) (fun w' hw' => ?_) ?_; rotate_left; focus (skip; go_simp; first | done | with_reducible rfl)); (simp only [Act.put, List.setIfInBounds_toArray, List.set])
    (refine takeV 3 (v := ?_) (by simp only [List.getElem?_toArray, List.getElem?_cons, reduceIte]; rfl) (by kernel_rfl) (by rfl) (fun w' hw' => ?_) ?_; rotate_left; focus (have hc := HK.out w' (Ext.trans y3.out hw'); go_simp; first | done | with_reducible rfl)); (simp only [Act.put, List.setIfInBounds_toArray, List.set])
    (refine takeG 4 (v := ?_) (by simp only [List.getElem?_toArray, List.getElem?_cons, reduceIte]; rfl) (by kernel_rfl) (by rfl) (fun w' hw' => ?_) ?_; rotate_left; focus (go_simp; refine ⟨Ext.refl _, ?_⟩; (exact cN.out w' (HT.out _ (Ext.trans y3.out hw'))))); (simp only [Act.put, List.setIfInBounds_toArray, List.set])
    (refine takeV 5 (v := ?_) (by simp only [List.getElem?_toArray, List.getElem?_cons, reduceIte]; rfl) (by kernel_rfl) (by rfl) (fun w' hw' => ?_) ?_; rotate_left; focus (skip; go_simp; first | done | with_reducible rfl)); (simp only [Act.put, List.setIfInBounds_toArray, List.set])
    (refine takeV 6 (v := ?_) (by simp only [List.getElem?_toArray, List.getElem?_cons, reduceIte]; rfl) (by kernel_rfl) (by rfl) (fun w' hw' => ?_) ?_; rotate_left; focus (skip; go_simp; first | done | with_reducible rfl)); (simp only [Act.put, List.setIfInBounds_toArray, List.set])
    (refine doneM (by kernel_rfl) ?_; intro w' hw'; show _)
    have y4 := Lib.hid (Ext.trans y3.out hw')
    have k4 := HK.out w' y4.out
    clear hw'
    go_wp2
    go_ret
    exact ⟨rfl, HE.out _ y4.out⟩
  · have b9 : (m.k == 9) = false := beq_eq_false_iff_ne.2 h9
    rw [if_neg h9] at hsz
    clear h9
    go_enter Tryd.func7, Tryd.ntmps7
    go_wp2_with (first
      | (go_at_call 8; refine (awake_any _ (HT.out _ (Ext.refl _))).mono ?_; rintro e w1 ⟨rfl, x1⟩; have y1 := Lib.hid x1; have k1 := HK.out w1 x1; clear x1)
      | (go_at_call 10; refine (cRm.out _).mono ?_; rintro e w2 ⟨rfl, x2⟩; have y2 := Lib.hid (Ext.trans y1.out x2); have k2 := HK.out w2 y2.out; clear x2 k1)
      | (go_at_call 9; refine (cP.out _).mono ?_; rintro e w3 ⟨rfl, x3⟩; have y3 := Lib.hid (Ext.trans y2.out x3); clear x3 k2))
    refine wp_region_M_lit (by kernel_rfl) ?_
    (refine takeV 0 (v := ?_) (by simp only [List.getElem?_toArray, List.getElem?_cons, reduceIte]; rfl) (by kernel_rfl) (by rfl) (fun w' hw' => ?_) ?_; rotate_left; focus (have hc := HK.out w' (Ext.trans y3.out hw'); go_simp; first | done | with_reducible rfl)); (simp only [Act.put, List.setIfInBounds_toArray, List.set])
    (refine takeG 1 (v := ?_) (by simp only [List.getElem?_toArray, List.getElem?_cons, reduceIte]; rfl) (by kernel_rfl) (by rfl) (fun w' hw' => ?_) ?_; rotate_left; focus (go_simp; refine ⟨Ext.refl _, ?_⟩; (exact cS.out w' (HT.out _ (Ext.trans y3.out hw'))))); (simp only [Act.put, List.setIfInBounds_toArray, List.set])
    (refine takeV 2 (v := ?_) (by simp only [List.getElem?_toArray, List.getElem?_cons, reduceIte]; rfl) (by kernel_rfl) (by rfl) (fun w' hw' => ?_) ?_; rotate_left; focus (skip; go_simp; first | done | with_reducible rfl)); (simp only [Act.put, List.setIfInBounds_toArray, List.set])
    (refine takeV 3 (v := ?_) (by simp only [List.getElem?_toArray, List.getElem?_cons, reduceIte]; rfl) (by kernel_rfl) (by rfl) (fun w' hw' => ?_) ?_; rotate_left; focus (have hc := HK.out w' (Ext.trans y3.out hw'); go_simp; first | done | with_reducible rfl)); (simp only [Act.put, List.setIfInBounds_toArray, List.set])
    (refine takeG 4 (v := ?_) (by simp only [List.getElem?_toArray, List.getElem?_cons, reduceIte]; rfl) (by kernel_rfl) (by rfl) (fun w' hw' => ?_) ?_; rotate_left; focus (go_simp; refine ⟨Ext.refl _, ?_⟩; (exact cN.out w' (HT.out _ (Ext.trans y3.out hw'))))); (simp only [Act.put, List.setIfInBounds_toArray, List.set])
    (refine takeV 5 (v := ?_) (by simp only [List.getElem?_toArray, List.getElem?_cons, reduceIte]; rfl) (by kernel_rfl) (by rfl) (fun w' hw' => ?_) ?_; rotate_left; focus (skip; go_simp; first | done | with_reducible rfl)); (simp only [Act.put, List.setIfInBounds_toArray, List.set])
    (refine takeV 6 (v := ?_) (by simp only [List.getElem?_toArray, List.getElem?_cons, reduceIte]; rfl) (by kernel_rfl) (by rfl) (fun w' hw' => ?_) ?_; rotate_left; focus (skip; go_simp; first | done | with_reducible rfl)); (simp only [Act.put, List.setIfInBounds_toArray, List.set])
    (refine doneM (by kernel_rfl) ?_; intro w' hw'; show _)
    have y4 := Lib.hid (Ext.trans y3.out hw')
    have k4 := HK.out w' y4.out
    clear hw'
    go_wp2
    go_ret
    exact ⟨rfl, HE.out _ y4.out⟩

set_option maxRecDepth 100000 in
set_option maxHeartbeats 1600000 in
theorem msgSizes_n (w : World) (hw : Std w) (m : Mg) (hr : rightM m = false) :
    Calls Tryd.prog 7 #[.agg #[.int .i64 m.k, .int .i64 m.e, .int .i64 m.n]] w fun e w' => e = .returned (.bool true) ∧ Ext w w' := by
  have HT : Hid (∀ W, Ext (w.alloc (.cells #[.int .i64 m.k, .int .i64 m.e, .int .i64 m.n] 24)) W → Std W) := Lib.hid fun W x => hw.ext (Ext.trans ((Ext.refl w).alloc _) x)
  have HK : Hid (∀ W, Ext (w.alloc (.cells #[.int .i64 m.k, .int .i64 m.e, .int .i64 m.n] 24)) W → (W.cell? ⟨w.heap.size, 0, none⟩ = some (.int .i64 m.k) ∧ W.cell? ⟨w.heap.size, 1, none⟩ = some (.int .i64 m.e) ∧ W.cell? ⟨w.heap.size, 2, none⟩ = some (.int .i64 m.n))) := Lib.hid fun W x => (three_cells (late_blk x)).1
  have HE : Hid (∀ W, Ext (w.alloc (.cells #[.int .i64 m.k, .int .i64 m.e, .int .i64 m.n] 24)) W → Ext w W) := Lib.hid fun W x => Ext.trans ((Ext.refl w).alloc _) x
  have cRm := Lib.hid (fun W => right_any W m)
  rw [hr] at cRm
  clear hw hr
  go_enter Tryd.func7, Tryd.ntmps7
  go_wp2_with (first
    | (go_at_call 8; have hgd := y2; refine (awake_any _ (HT.out _ y2.out)).mono ?_; rintro e w9 ⟨rfl, x9⟩)
    | (go_at_call 8; refine (awake_any _ (HT.out _ (Ext.refl _))).mono ?_; rintro e w1 ⟨rfl, x1⟩; have y1 := Lib.hid x1; have k1 := HK.out w1 x1; clear x1)
    | (go_at_call 10; refine (cRm.out _).mono ?_; rintro e w2 ⟨rfl, x2⟩; have y2 := Lib.hid (Ext.trans y1.out x2); have k2 := HK.out w2 y2.out; clear x2 k1))
  go_ret
  exact ⟨rfl, HE.out _ (Ext.trans y2.out x9)⟩
end Go.Proofs.YtffgphhmkghlnaaDoor
