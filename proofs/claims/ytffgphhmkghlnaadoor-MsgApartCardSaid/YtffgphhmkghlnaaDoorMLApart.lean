/- MsgApart: walked. -/
import Derived.Test.YtffgphhmkghlnaaDoorMLBack
namespace Go.Proofs.YtffgphhmkghlnaaDoor
open Go.RowKit

set_option maxRecDepth 100000 in
set_option maxHeartbeats 1600000 in
theorem msgApart_short (w : World) (hw : Std w) (m n : Mg) (hm : InM m) (hn : InM n) (hr : rightM m = true) (hr2 : rightM n = true) :
    Calls Tryd.prog 6 #[.agg #[.int .i64 m.k, .int .i64 m.e, .int .i64 m.n], .agg #[.int .i64 n.k, .int .i64 n.e, .int .i64 n.n]] w fun e w' => e = .returned (.bool true) ∧ Ext w w' := by
  have HT : Hid (∀ W, Ext ((w.alloc (.cells #[.int .i64 m.k, .int .i64 m.e, .int .i64 m.n] 24)).alloc (.cells #[.int .i64 n.k, .int .i64 n.e, .int .i64 n.n] 24)) W → Std W) := Lib.hid fun W x => hw.ext (Ext.trans (((Ext.refl w).alloc _).alloc _) x)
  have HK : Hid (∀ W, Ext ((w.alloc (.cells #[.int .i64 m.k, .int .i64 m.e, .int .i64 m.n] 24)).alloc (.cells #[.int .i64 n.k, .int .i64 n.e, .int .i64 n.n] 24)) W → (W.cell? ⟨w.heap.size, 0, none⟩ = some (.int .i64 m.k) ∧ W.cell? ⟨w.heap.size, 1, none⟩ = some (.int .i64 m.e) ∧ W.cell? ⟨w.heap.size, 2, none⟩ = some (.int .i64 m.n)) ∧ (W.cell? ⟨w.heap.size + 1, 0, none⟩ = some (.int .i64 n.k) ∧ W.cell? ⟨w.heap.size + 1, 1, none⟩ = some (.int .i64 n.e) ∧ W.cell? ⟨w.heap.size + 1, 2, none⟩ = some (.int .i64 n.n))) := Lib.hid fun W x => by
    have hx := box2 (w := w) (Below.mono x (by simp))
    exact ⟨(three_cells hx.1).1, (three_cells hx.2).1⟩
  have HE : Hid (∀ W, Ext ((w.alloc (.cells #[.int .i64 m.k, .int .i64 m.e, .int .i64 m.n] 24)).alloc (.cells #[.int .i64 n.k, .int .i64 n.e, .int .i64 n.n] 24)) W → Ext w W) := Lib.hid fun W x => Ext.trans (((Ext.refl w).alloc _).alloc _) x
  have cRm := Lib.hid (fun W => right_any W m)
  rw [hr] at cRm
  have cRn := Lib.hid (fun W => right_any W n)
  rw [hr2] at cRn
  have cP := Lib.hid (fun W => put_any W m)
  have cQ := Lib.hid (fun W => put_any W n)
  have cS := Lib.hid (fun W h => show_any W h m hm)
  have cT := Lib.hid (fun W h => show_any W h n hn)
  obtain ⟨q, hq⟩ : ∃ q, decide (m = n) = q := ⟨_, rfl⟩
  have h1 : ((putF m).toList == (putF n).toList) = q := by
    rw [tl_eq, ← hq]
    refine decide_eq_decide.2 ?_
    unfold putF
    rw [if_pos hr, if_pos hr2]
    exact putMs_inj hr hr2
  have h2 : ((showS m).toList == (showS n).toList) = q := by
    rw [tl_eq, ← hq]
    exact decide_eq_decide.2 (showS_inj hr hr2)
  have HQ := Lib.hid (eq_m m n q hq)
  obtain ⟨S, hS⟩ : ∃ S, S = putF m := ⟨_, rfl⟩
  obtain ⟨T, hT⟩ : ∃ T, T = putF n := ⟨_, rfl⟩
  obtain ⟨A, hA⟩ : ∃ A, A = showS m := ⟨_, rfl⟩
  obtain ⟨B, hB⟩ : ∃ B, B = showS n := ⟨_, rfl⟩
  rw [← hS] at cP h1
  rw [← hT] at cQ h1
  rw [← hA] at cS h2
  rw [← hB] at cT h2
  clear hw hm hn hr hr2 hq hS hT hA hB
  cases q
  all_goals
    obtain ⟨hq, hq2⟩ := HQ.out
    go_enter Tryd.func6, Tryd.ntmps6
    go_wp2_with (first
      | (go_at_call 8; refine (awake_any _ (HT.out _ (Ext.refl _))).mono ?_; rintro e w1 ⟨rfl, x1⟩; have y1 := Lib.hid x1; have k1 := HK.out w1 x1; clear x1)
      | (go_at_call 10; have hgd := y2; refine (cRn.out _).mono ?_; rintro e w3 ⟨rfl, x3⟩; have y3 := Lib.hid (Ext.trans y2.out x3); have k3 := HK.out w3 y3.out; clear x3 k2)
      | (go_at_call 10; refine (cRm.out _).mono ?_; rintro e w2 ⟨rfl, x2⟩; have y2 := Lib.hid (Ext.trans y1.out x2); have k2 := HK.out w2 y2.out; clear x2 k1)
      | (go_at_call 9; have hgd := y4; refine (cQ.out _).mono ?_; rintro e w5 ⟨rfl, x5⟩; have y5 := Lib.hid (Ext.trans y4.out x5); clear x5 k4)
      | (go_at_call 9; refine (cP.out _).mono ?_; rintro e w4 ⟨rfl, x4⟩; have y4 := Lib.hid (Ext.trans y3.out x4); have k4 := HK.out w4 y4.out; clear x4 k3))
    refine wp_region_M_lit (by kernel_rfl) ?_
    (refine takeV 0 (v := ?_) (by simp only [List.getElem?_toArray, List.getElem?_cons, reduceIte]; rfl) (by kernel_rfl) (by rfl) (fun w' hw' => ?_) ?_; rotate_left; focus (skip; go_simp; first | done | with_reducible rfl)); (simp only [Act.put, List.setIfInBounds_toArray, List.set])
    (refine takeV 1 (v := ?_) (by simp only [List.getElem?_toArray, List.getElem?_cons, reduceIte]; rfl) (by kernel_rfl) (by rfl) (fun w' hw' => ?_) ?_; rotate_left; focus (skip; go_simp; first | done | with_reducible rfl)); (simp only [Act.put, List.setIfInBounds_toArray, List.set])
    (refine takeV 2 (v := ?_) (by simp only [List.getElem?_toArray, List.getElem?_cons, reduceIte]; rfl) (by kernel_rfl) (by rfl) (fun w' hw' => ?_) ?_; rotate_left; focus (skip; go_simp; first | done | with_reducible rfl)); (simp only [Act.put, List.setIfInBounds_toArray, List.set])
    (refine takeV 3 (v := ?_) (by simp only [List.getElem?_toArray, List.getElem?_cons, reduceIte]; rfl) (by kernel_rfl) (by rfl) (fun w' hw' => ?_) ?_; rotate_left; focus (have hc := HK.out w' (Ext.trans y5.out hw'); go_simp; first | done | with_reducible rfl)); (simp only [Act.put, List.setIfInBounds_toArray, List.set])
    (refine takeV 4 (v := ?_) (by simp only [List.getElem?_toArray, List.getElem?_cons, reduceIte]; rfl) (by kernel_rfl) (by rfl) (fun w' hw' => ?_) ?_; rotate_left; focus (have hc := HK.out w' (Ext.trans y5.out hw'); go_simp; first | done | with_reducible rfl)); (simp only [Act.put, List.setIfInBounds_toArray, List.set])
    (refine takeV 5 (v := ?_) (by simp only [List.getElem?_toArray, List.getElem?_cons, reduceIte]; rfl) (by kernel_rfl) (by rfl) (fun w' hw' => ?_) ?_; rotate_left; focus (skip; go_simp; first | done | with_reducible rfl)); (simp only [Act.put, List.setIfInBounds_toArray, List.set])
    (refine takeV 6 (v := ?_) (by simp only [List.getElem?_toArray, List.getElem?_cons, reduceIte]; rfl) (by kernel_rfl) (by rfl) (fun w' hw' => ?_) ?_; rotate_left; focus (skip; go_simp; first | done | with_reducible rfl)); (simp only [Act.put, List.setIfInBounds_toArray, List.set])
    (refine takeV 7 (v := ?_) (by simp only [List.getElem?_toArray, List.getElem?_cons, reduceIte]; rfl) (by kernel_rfl) (by rfl) (fun w' hw' => ?_) ?_; rotate_left; focus (skip; go_simp; first | done | with_reducible rfl)); (simp only [Act.put, List.setIfInBounds_toArray, List.set])
    (refine takeV 8 (v := ?_) (by simp only [List.getElem?_toArray, List.getElem?_cons, reduceIte]; rfl) (by kernel_rfl) (by rfl) (fun w' hw' => ?_) ?_; rotate_left; focus (have hc := HK.out w' (Ext.trans y5.out hw'); go_simp; first | done | with_reducible rfl)); (simp only [Act.put, List.setIfInBounds_toArray, List.set])
    (refine takeG 9 (v := ?_) (by simp only [List.getElem?_toArray, List.getElem?_cons, reduceIte]; rfl) (by kernel_rfl) (by rfl) (fun w' hw' => ?_) ?_; rotate_left; focus (go_simp; refine ⟨Ext.refl _, ?_⟩; (exact cS.out w' (HT.out _ (Ext.trans y5.out hw'))))); (simp only [Act.put, List.setIfInBounds_toArray, List.set])
    (refine takeV 10 (v := ?_) (by simp only [List.getElem?_toArray, List.getElem?_cons, reduceIte]; rfl) (by kernel_rfl) (by rfl) (fun w' hw' => ?_) ?_; rotate_left; focus (have hc := HK.out w' (Ext.trans y5.out hw'); go_simp; first | done | with_reducible rfl)); (simp only [Act.put, List.setIfInBounds_toArray, List.set])
    (refine takeG 11 (v := ?_) (by simp only [List.getElem?_toArray, List.getElem?_cons, reduceIte]; rfl) (by kernel_rfl) (by rfl) (fun w' hw' => ?_) ?_; rotate_left; focus (go_simp; refine ⟨Ext.refl _, ?_⟩; (exact cT.out w' (HT.out _ (Ext.trans y5.out hw'))))); (simp only [Act.put, List.setIfInBounds_toArray, List.set])
    (refine takeV 12 (v := ?_) (by simp only [List.getElem?_toArray, List.getElem?_cons, reduceIte]; rfl) (by kernel_rfl) (by rfl) (fun w' hw' => ?_) ?_; rotate_left; focus (skip; go_simp; first | done | with_reducible rfl)); (simp only [Act.put, List.setIfInBounds_toArray, List.set])
    (refine takeV 13 (v := ?_) (by simp only [List.getElem?_toArray, List.getElem?_cons, reduceIte]; rfl) (by kernel_rfl) (by rfl) (fun w' hw' => ?_) ?_; rotate_left; focus (have hc := HK.out w' (Ext.trans y5.out hw'); go_simp; first | done | with_reducible rfl)); (simp only [Act.put, List.setIfInBounds_toArray, List.set])
    (refine takeV 14 (v := ?_) (by simp only [List.getElem?_toArray, List.getElem?_cons, reduceIte]; rfl) (by kernel_rfl) (by rfl) (fun w' hw' => ?_) ?_; rotate_left; focus (have hc := HK.out w' (Ext.trans y5.out hw'); go_simp; first | done | with_reducible rfl)); (simp only [Act.put, List.setIfInBounds_toArray, List.set])
    (refine takeV 15 (v := ?_) (by simp only [List.getElem?_toArray, List.getElem?_cons, reduceIte]; rfl) (by kernel_rfl) (by rfl) (fun w' hw' => ?_) ?_; rotate_left; focus (skip; go_simp; first | done | with_reducible rfl)); (simp only [Act.put, List.setIfInBounds_toArray, List.set])
    (refine takeV 16 (v := ?_) (by simp only [List.getElem?_toArray, List.getElem?_cons, reduceIte]; rfl) (by kernel_rfl) (by rfl) (fun w' hw' => ?_) ?_; rotate_left; focus (skip; go_simp; first | done | with_reducible rfl)); (simp only [Act.put, List.setIfInBounds_toArray, List.set])
    (refine takeV 17 (v := ?_) (by simp only [List.getElem?_toArray, List.getElem?_cons, reduceIte]; rfl) (by kernel_rfl) (by rfl) (fun w' hw' => ?_) ?_; rotate_left; focus (skip; go_simp; first | done | with_reducible rfl)); (simp only [Act.put, List.setIfInBounds_toArray, List.set])
    (refine takeV 18 (v := ?_) (by simp only [List.getElem?_toArray, List.getElem?_cons, reduceIte]; rfl) (by kernel_rfl) (by rfl) (fun w' hw' => ?_) ?_; rotate_left; focus (skip; go_simp; first | done | with_reducible rfl)); (simp only [Act.put, List.setIfInBounds_toArray, List.set])
    (refine doneM (by kernel_rfl) ?_; intro w' hw'; show _)
    have y6 := Lib.hid (Ext.trans y5.out hw')
    clear hw'
    go_wp2
    go_ret
    exact ⟨rfl, HE.out _ y6.out⟩

set_option maxRecDepth 100000 in
set_option maxHeartbeats 1600000 in
theorem msgApart_n (w : World) (hw : Std w) (m n : Mg) (hr : rightM m = false) :
    Calls Tryd.prog 6 #[.agg #[.int .i64 m.k, .int .i64 m.e, .int .i64 m.n], .agg #[.int .i64 n.k, .int .i64 n.e, .int .i64 n.n]] w fun e w' => e = .returned (.bool true) ∧ Ext w w' := by
  have HT : Hid (∀ W, Ext ((w.alloc (.cells #[.int .i64 m.k, .int .i64 m.e, .int .i64 m.n] 24)).alloc (.cells #[.int .i64 n.k, .int .i64 n.e, .int .i64 n.n] 24)) W → Std W) := Lib.hid fun W x => hw.ext (Ext.trans (((Ext.refl w).alloc _).alloc _) x)
  have HK : Hid (∀ W, Ext ((w.alloc (.cells #[.int .i64 m.k, .int .i64 m.e, .int .i64 m.n] 24)).alloc (.cells #[.int .i64 n.k, .int .i64 n.e, .int .i64 n.n] 24)) W → (W.cell? ⟨w.heap.size, 0, none⟩ = some (.int .i64 m.k) ∧ W.cell? ⟨w.heap.size, 1, none⟩ = some (.int .i64 m.e) ∧ W.cell? ⟨w.heap.size, 2, none⟩ = some (.int .i64 m.n)) ∧ (W.cell? ⟨w.heap.size + 1, 0, none⟩ = some (.int .i64 n.k) ∧ W.cell? ⟨w.heap.size + 1, 1, none⟩ = some (.int .i64 n.e) ∧ W.cell? ⟨w.heap.size + 1, 2, none⟩ = some (.int .i64 n.n))) := Lib.hid fun W x => by
    have hx := box2 (w := w) (Below.mono x (by simp))
    exact ⟨(three_cells hx.1).1, (three_cells hx.2).1⟩
  have HE : Hid (∀ W, Ext ((w.alloc (.cells #[.int .i64 m.k, .int .i64 m.e, .int .i64 m.n] 24)).alloc (.cells #[.int .i64 n.k, .int .i64 n.e, .int .i64 n.n] 24)) W → Ext w W) := Lib.hid fun W x => Ext.trans (((Ext.refl w).alloc _).alloc _) x
  have cRm := Lib.hid (fun W => right_any W m)
  rw [hr] at cRm
  clear hw hr
  go_enter Tryd.func6, Tryd.ntmps6
  go_wp2_with (first
    | (go_at_call 8; have hgd := y2; refine (awake_any _ (HT.out _ y2.out)).mono ?_; rintro e w9 ⟨rfl, x9⟩)
    | (go_at_call 8; refine (awake_any _ (HT.out _ (Ext.refl _))).mono ?_; rintro e w1 ⟨rfl, x1⟩; have y1 := Lib.hid x1; have k1 := HK.out w1 x1; clear x1)
    | (go_at_call 10; refine (cRm.out _).mono ?_; rintro e w2 ⟨rfl, x2⟩; have y2 := Lib.hid (Ext.trans y1.out x2); have k2 := HK.out w2 y2.out; clear x2 k1))
  go_ret
  exact ⟨rfl, HE.out _ (Ext.trans y2.out x9)⟩

set_option maxRecDepth 100000 in
set_option maxHeartbeats 1600000 in
theorem msgApart_rn (w : World) (hw : Std w) (m n : Mg) (hr : rightM m = true) (hr2 : rightM n = false) :
    Calls Tryd.prog 6 #[.agg #[.int .i64 m.k, .int .i64 m.e, .int .i64 m.n], .agg #[.int .i64 n.k, .int .i64 n.e, .int .i64 n.n]] w fun e w' => e = .returned (.bool true) ∧ Ext w w' := by
  have HT : Hid (∀ W, Ext ((w.alloc (.cells #[.int .i64 m.k, .int .i64 m.e, .int .i64 m.n] 24)).alloc (.cells #[.int .i64 n.k, .int .i64 n.e, .int .i64 n.n] 24)) W → Std W) := Lib.hid fun W x => hw.ext (Ext.trans (((Ext.refl w).alloc _).alloc _) x)
  have HK : Hid (∀ W, Ext ((w.alloc (.cells #[.int .i64 m.k, .int .i64 m.e, .int .i64 m.n] 24)).alloc (.cells #[.int .i64 n.k, .int .i64 n.e, .int .i64 n.n] 24)) W → (W.cell? ⟨w.heap.size, 0, none⟩ = some (.int .i64 m.k) ∧ W.cell? ⟨w.heap.size, 1, none⟩ = some (.int .i64 m.e) ∧ W.cell? ⟨w.heap.size, 2, none⟩ = some (.int .i64 m.n)) ∧ (W.cell? ⟨w.heap.size + 1, 0, none⟩ = some (.int .i64 n.k) ∧ W.cell? ⟨w.heap.size + 1, 1, none⟩ = some (.int .i64 n.e) ∧ W.cell? ⟨w.heap.size + 1, 2, none⟩ = some (.int .i64 n.n))) := Lib.hid fun W x => by
    have hx := box2 (w := w) (Below.mono x (by simp))
    exact ⟨(three_cells hx.1).1, (three_cells hx.2).1⟩
  have HE : Hid (∀ W, Ext ((w.alloc (.cells #[.int .i64 m.k, .int .i64 m.e, .int .i64 m.n] 24)).alloc (.cells #[.int .i64 n.k, .int .i64 n.e, .int .i64 n.n] 24)) W → Ext w W) := Lib.hid fun W x => Ext.trans (((Ext.refl w).alloc _).alloc _) x
  have cRm := Lib.hid (fun W => right_any W m)
  rw [hr] at cRm
  have cRn := Lib.hid (fun W => right_any W n)
  rw [hr2] at cRn
  clear hw hr hr2
  go_enter Tryd.func6, Tryd.ntmps6
  go_wp2_with (first
    | (go_at_call 8; have hgd := y3; refine (awake_any _ (HT.out _ y3.out)).mono ?_; rintro e w9 ⟨rfl, x9⟩)
    | (go_at_call 8; refine (awake_any _ (HT.out _ (Ext.refl _))).mono ?_; rintro e w1 ⟨rfl, x1⟩; have y1 := Lib.hid x1; have k1 := HK.out w1 x1; clear x1)
    | (go_at_call 10; have hgd := y2; refine (cRn.out _).mono ?_; rintro e w3 ⟨rfl, x3⟩; have y3 := Lib.hid (Ext.trans y2.out x3); have k3 := HK.out w3 y3.out; clear x3 k2)
    | (go_at_call 10; refine (cRm.out _).mono ?_; rintro e w2 ⟨rfl, x2⟩; have y2 := Lib.hid (Ext.trans y1.out x2); have k2 := HK.out w2 y2.out; clear x2 k1))
  go_ret
  exact ⟨rfl, HE.out _ (Ext.trans y3.out x9)⟩
end Go.Proofs.YtffgphhmkghlnaaDoor
