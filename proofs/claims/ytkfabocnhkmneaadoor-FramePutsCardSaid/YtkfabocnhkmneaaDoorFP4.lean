/- Get and Why, whatever the bytes. -/
import Derived.Test.YtkfabocnhkmneaaDoorFP3
namespace Go.Proofs.YtkfabocnhkmneaaDoor
open Go.RowKit

set_option maxHeartbeats 1600000 in
theorem bytesFault_last (w : World) (hT : Tab w) (s : ByteArray) (hs : s.size ≤ 281474976710656) (h : ¬ s.size < 27) (h0 : (bl s).getD 0 0 = 78) (h1 : (bl s).getD 1 0 = 1) (h2 : numN (((bl s).drop 21).take 2) = s.size - 27) (h3 : goodB s = true) :
    Calls Tryd.prog 27 #[.string s] w (WrongR s w) := by
  have e1 : ¬ (s.size : Int) < 27 := by omega
  have H1 := Lib.hid (show whatN s = if rightB (frOf s) = false then 66 else 0 by unfold whatN; rw [if_neg h, if_neg (by simpa using h0), if_neg (by simpa using h1), if_neg (by simpa using h2), if_neg (by rw [h3]; decide)])
  have H2 := Lib.hid (show whereN s = if rightB (frOf s) = false then 2 else 0 by unfold whereN; rw [if_neg h, if_neg (by simpa using h0), if_neg (by simpa using h1), if_neg (by simpa using h2), if_neg (by rw [h3]; decide)])
  have l0 : 0 < s.size := by omega
  have l1 : 1 < s.size := by omega
  have b0 := bl_at s l0
  have b1 := bl_at s l1
  rw [h0] at b0
  rw [h1] at b1
  have cN := fun W => readNumber_any W s 21 2 23 rfl (by omega) (by decide) (by omega)
  obtain ⟨N, hN⟩ : ∃ N, N = numN (((bl s).drop 21).take 2) := ⟨_, rfl⟩
  rw [← hN] at cN h2
  replace cN := Lib.hid cN
  have cR := Lib.hid (fun W => readFrame_any W s hs (by omega))
  obtain ⟨n, hn⟩ : ∃ n, s.size = n + 4 := ⟨s.size - 4, by omega⟩
  have e4 : (s.size : Int) - 4 = (n : Int) := by omega
  have e6 : IntKind.u64.wrap ((s.size : Int) - 27) = (N : Int) := by rw [wrapU _ (by omega) (by omega)]; omega
  have c1 : ((N : Int) != (N : Int)) = false := by simp
  have hn4 : s.size - 4 = n := by omega
  have hg : goodB s = decide (s.extract n s.size = textN (tailN (moreN 0 (bl (s.extract 0 n))))) := by
    unfold goodB last4 ahead
    rw [decide_eq_true (show 4 ≤ s.size by omega), Bool.true_and, hn4]
  have hM : moreN 0 (bl (s.extract 0 n)) < 4294967296 := moreN_lt (by decide) (bl_lt _)
  have cM := fun W (hW : Tab W) => sum_any W (s.extract 0 n) hW (by rw [ByteArray.size_extract]; omega)
  obtain ⟨M, hM2⟩ : ∃ M, M = moreN 0 (bl (s.extract 0 n)) := ⟨_, rfl⟩
  rw [← hM2] at hg hM
  have cM : Hid (∀ W, Ext w W → Calls Tryd.prog 22 #[.string (s.extract 0 n)] W fun e w' => e = .returned (.int .u32 (M : Nat)) ∧ W = w') := Lib.hid (fun W x => by rw [hM2]; exact cM W (hT.ext x))
  have e7 : ((s.extract n s.size).toList == (textN (tailN M)).toList) = true := by rw [tl_eq, ← hg, h3]
  have e8 : (0 : Int) ≤ (n : Int) := by omega
  have e9 : (n : Int) ≤ (s.size : Int) := by omega
  have e10 : IntKind.i64.wrap (n : Int) = (n : Int) := wrapN _ (by omega) (by omega)
  obtain ⟨F, hF⟩ : ∃ F, F = frOf s := ⟨_, rfl⟩
  rw [← hF] at H1 H2 cR
  clear h hN h0 h1 h2 hg hM2 h3 hn4 hF
  replace hn := Lib.hid hn
  obtain ⟨k, e, q, a, b⟩ := F
  have cF := fun W => formFault_any W k e q a b
  rcases formV_box ⟨k, e, q, a, b⟩ with ⟨hv, hr⟩ | ⟨hv, hr⟩
  all_goals
    rw [hr] at H1 H2
    rw [hv] at cF
    replace cF := Lib.hid cF
    clear hv hr
    go_enter Tryd.func27, Tryd.ntmps27
    go_wp2_with (first
      | (go_at_call 34; refine (cN.out _).mono ?_; rintro e w2 ⟨rfl, rfl⟩))
    refine wp_region_M_lit (by kernel_rfl) ?_
    (refine takeV 0 (v := ?_) (by simp only [List.getElem?_toArray, List.getElem?_cons, reduceIte]; rfl) (by kernel_rfl) (by rfl) (fun w' hw' => ?_) ?_; rotate_left; focus (skip; go_simp; first | done | with_reducible rfl)); (simp only [Act.put, List.setIfInBounds_toArray, List.set])
    (refine takeV 1 (v := ?_) (by simp only [List.getElem?_toArray, List.getElem?_cons, reduceIte]; rfl) (by kernel_rfl) (by rfl) (fun w' hw' => ?_) ?_; rotate_left; focus (skip; go_simp; first | done | with_reducible rfl)); (simp only [Act.put, List.setIfInBounds_toArray, List.set])
    (refine takeV 2 (v := ?_) (by simp only [List.getElem?_toArray, List.getElem?_cons, reduceIte]; rfl) (by kernel_rfl) (by rfl) (fun w' hw' => ?_) ?_; rotate_left; focus (skip; go_simp; first | done | with_reducible rfl)); (simp only [Act.put, List.setIfInBounds_toArray, List.set])
    (refine takeV 3 (v := ?_) (by simp only [List.getElem?_toArray, List.getElem?_cons, reduceIte]; rfl) (by kernel_rfl) (by rfl) (fun w' hw' => ?_) ?_; rotate_left; focus (skip; go_simp; first | done | with_reducible rfl)); (simp only [Act.put, List.setIfInBounds_toArray, List.set])
    (refine takeV 4 (v := ?_) (by simp only [List.getElem?_toArray, List.getElem?_cons, reduceIte]; rfl) (by kernel_rfl) (by rfl) (fun w' hw' => ?_) ?_; rotate_left; focus (skip; go_simp; first | done | with_reducible rfl)); (simp only [Act.put, List.setIfInBounds_toArray, List.set])
    (refine takeV 5 (v := ?_) (by simp only [List.getElem?_toArray, List.getElem?_cons, reduceIte]; rfl) (by kernel_rfl) (by rfl) (fun w' hw' => ?_) ?_; rotate_left; focus (skip; go_simp; first | done | with_reducible rfl)); (simp only [Act.put, List.setIfInBounds_toArray, List.set])
    (refine takeG 6 (v := ?_) (by simp only [List.getElem?_toArray, List.getElem?_cons, reduceIte]; rfl) (by kernel_rfl) (by rfl) (fun w' hw' => ?_) ?_; rotate_left; focus (go_simp; refine ⟨Ext.refl _, ?_⟩; (have hq := gives_same (cM.out w' hw'); exact hq))); (simp only [Act.put, List.setIfInBounds_toArray, List.set])
    (refine takeG 7 (v := ?_) (by simp only [List.getElem?_toArray, List.getElem?_cons, reduceIte]; rfl) (by kernel_rfl) (by rfl) (fun w' hw' => ?_) ?_; rotate_left; focus (go_simp; refine ⟨Ext.refl _, ?_⟩; (exact tail_any w' M hM))); (simp only [Act.put, List.setIfInBounds_toArray, List.set])
    (refine takeV 8 (v := ?_) (by simp only [List.getElem?_toArray, List.getElem?_cons, reduceIte]; rfl) (by kernel_rfl) (by rfl) (fun w' hw' => ?_) ?_; rotate_left; focus (skip; go_simp; first | done | with_reducible rfl)); (simp only [Act.put, List.setIfInBounds_toArray, List.set])
    (refine doneM (by kernel_rfl) ?_; intro w' hw'; show _)
    have Y1 := Lib.hid hw'
    clear hw'
  · go_wp2_with (first
      | (go_at_call 28; refine (cR.out _).mono ?_; rintro e w2 ⟨rfl, x2⟩; have Y2 := Lib.hid (Ext.trans Y1.out x2); clear x2)
      | (go_at_call 18; refine (cF.out _).mono ?_; rintro e w2 ⟨rfl, x2⟩; have Y3 := Lib.hid (Ext.trans Y2.out x2); clear x2)
      | (go_at_call 23; refine (is_nil 60 _).mono ?_; rintro e w2 ⟨rfl, rfl⟩))
    go_ret
    refine ⟨?_, Y3.out⟩
    unfold wrongV
    rw [if_pos (by rw [H1.out]; rfl)]
    rfl
  · go_wp2_with (first
      | (go_at_call 28; refine (cR.out _).mono ?_; rintro e w2 ⟨rfl, x2⟩; have Y2 := Lib.hid (Ext.trans Y1.out x2); clear x2)
      | (go_at_call 18; refine (cF.out _).mono ?_; rintro e w2 ⟨rfl, x2⟩; have Y3 := Lib.hid (Ext.trans Y2.out x2); clear x2)
      | (go_at_call 23; refine (is_wraps 0 60 60 _).mono ?_; rintro e w2 ⟨rfl, rfl⟩))
    go_ret
    exact ⟨wrong_is (y := 66) (p := 2) H1.out H2.out (by decide) rfl, Y3.out.alloc _⟩

theorem bytesFault_any (w : World) (hT : Tab w) (s : ByteArray) (hs : s.size ≤ 281474976710656) : Calls Tryd.prog 27 #[.string s] w (WrongR s w) := by
  by_cases h : s.size < 27
  · exact bytesFault_short w s h
  by_cases h0 : (bl s).getD 0 0 = 78
  · by_cases h1 : (bl s).getD 1 0 = 1
    · by_cases h2 : numN (((bl s).drop 21).take 2) = s.size - 27
      · by_cases h3 : goodB s = true
        · exact bytesFault_last w hT s hs h h0 h1 h2 h3
        · exact bytesFault_sum w hT s hs h h0 h1 h2 (by simpa using h3)
      · exact bytesFault_length w s hs h h0 h1 h2
    · exact bytesFault_version w s h h0 h1
  · exact bytesFault_magic w s h h0

theorem wrongV_box (s : ByteArray) : (wrongV s = .nilIface ∧ whatN s = 0) ∨ (wrongV s = .iface 57 (.agg #[.int .i64 ((whereN s : Nat) : Int), .int .i64 ((whatN s : Nat) : Int)]) ∧ whatN s ≠ 0) := by
  unfold wrongV
  by_cases h : whatN s = 0
  · exact .inl ⟨if_pos h, h⟩
  · exact .inr ⟨if_neg h, h⟩

theorem whatN_long {s : ByteArray} (h : whatN s = 0) : 27 ≤ s.size := by
  unfold whatN at h
  split at h
  · cases h
  · omega
theorem whereN_zero {s : ByteArray} (h : whatN s = 0) : whereN s = 0 := by
  unfold whatN at h
  unfold whereN
  repeat' (split at h)
  all_goals first
    | omega
    | (simp_all; done)
    | (simp_all; intro _; omega)

set_option maxHeartbeats 800000 in
theorem get_any (w : World) (h : Std w) (s : ByteArray) (hs : s.size ≤ 281474976710656) :
    Calls Tryd.prog 15 #[.string s] w fun ev w' => ev = .returned (.tuple #[frV (getF s), .int .i64 (whatN s : Nat)]) ∧ Ext w w' := by
  have cB := fun W (x : Ext w W) => bytesFault_any W (h.ext x).1 s hs
  unfold WrongR at cB
  have HS : Hid (∀ W, Ext w W → Std W) := Lib.hid (fun W x => h.ext x)
  rcases wrongV_box s with ⟨hv, hr⟩ | ⟨hv, hr⟩
  · rw [hv] at cB
    replace cB := Lib.hid cB
    have cR := Lib.hid (fun W => readFrame_any W s hs (whatN_long hr))
    have HF := Lib.hid (show getF s = frOf s by unfold getF; rw [if_pos hr])
    have HR := Lib.hid hr
    clear hv hr h
    obtain ⟨F, hF⟩ : ∃ F, F = frOf s := ⟨_, rfl⟩
    rw [← hF] at cR HF
    clear hF
    obtain ⟨k, e, q, a, b⟩ := F
    unfold frV at cR
    dsimp only at cR
    go_enter Tryd.func15, Tryd.ntmps15
    go_wp2_with (first
      | (go_at_call 27; refine (cB.out _ (by repeat (first | exact Ext.refl _ | assumption | refine Ext.alloc ?_ _ | refine Ext.drew ?_ | refine Ext.drewN ?_ _))).mono ?_; rintro e w2 ⟨rfl, x2⟩; have hb := late_blk x2; have H2 := Lib.hid hb; have Y2 := Lib.hid (Ext.trans ((Ext.refl w).alloc _) x2); clear x2 hb)
      | (go_at_call 28; refine (cR.out _).mono ?_; rintro e w3 ⟨rfl, x3⟩; have Y3 := Lib.hid (Ext.trans Y2.out x3); have hb := (x3.block _ (blk_lt H2.out)).trans H2.out; have H3 := Lib.hid hb; obtain ⟨k3, k4⟩ := five_cells hb; clear x3 hb))
    have z := set5_blk H3.out (.int .i64 k) (.int .i64 e) (.int .u64 (q : Int)) (.int .u64 (a : Int)) (.string b)
    have y5 := set5_ext Y3.out (Nat.le_refl _) (.int .i64 k) (.int .i64 e) (.int .u64 (q : Int)) (.int .u64 (a : Int)) (.string b)
    obtain ⟨z0, z1, z2, z3, z4⟩ := (five_cells z).1
    simp only [set5] at z0 z1 z2 z3 z4
    refine bodyPost_ret (v := .tuple #[.agg #[.int .i64 k, .int .i64 e, .int .u64 (q : Int), .int .u64 (a : Int), .string b], .int .i64 0]) (by simp [results, Tryd.results15, go_sem, z0, z1, z2, z3, z4]) rfl ⟨?_, y5⟩
    rw [HF.out, HR.out]
    rfl
  · rw [hv] at cB
    replace cB := Lib.hid cB
    have HF := Lib.hid (show getF s = Fr.zero by unfold getF; rw [if_neg hr])
    have cW := Lib.hid (fun W (x : Ext w W) => wrapped_any W (h.ext x) ((whereN s : Nat) : Int) ((whatN s : Nat) : Int))
    clear hv hr h
    obtain ⟨P, hP⟩ : ∃ P, P = whereN s := ⟨_, rfl⟩
    obtain ⟨Y, hY⟩ : ∃ Y, Y = whatN s := ⟨_, rfl⟩
    rw [← hP, ← hY] at cB cW
    rw [← hY]
    clear hP hY
    go_enter Tryd.func15, Tryd.ntmps15
    go_wp2_with (first
      | (go_at_call 27; refine (cB.out _ (by repeat (first | exact Ext.refl _ | assumption | refine Ext.alloc ?_ _ | refine Ext.drew ?_ | refine Ext.drewN ?_ _))).mono ?_; rintro e w2 ⟨rfl, x2⟩; have hb := late_blk x2; have H2 := Lib.hid hb; have Y2 := Lib.hid (Ext.trans ((Ext.refl w).alloc _) x2); clear x2 hb)
      | (go_at_call 19; refine (cW.out _ Y2.out).mono ?_; rintro e w3 ⟨rfl, x3⟩; have Y3 := Lib.hid (Ext.trans Y2.out x3); have hb := (x3.block _ (blk_lt H2.out)).trans H2.out; have H3 := Lib.hid hb; obtain ⟨k3, k4⟩ := five_cells hb; clear x3 hb))
    have z := set5_blk H3.out (.int .i64 0) (.int .i64 0) (.int .u64 0) (.int .u64 0) (.string ⟨#[]⟩)
    have y5 := set5_ext Y3.out (Nat.le_refl _) (.int .i64 0) (.int .i64 0) (.int .u64 0) (.int .u64 0) (.string ⟨#[]⟩)
    obtain ⟨z0, z1, z2, z3, z4⟩ := (five_cells z).1
    simp only [set5] at z0 z1 z2 z3 z4
    refine bodyPost_ret (v := .tuple #[frV Fr.zero, .int .i64 (Y : Int)]) (by simp [results, Tryd.results15, go_sem, frV, Fr.zero, z0, z1, z2, z3, z4]) rfl ⟨?_, y5⟩
    rw [HF.out]

/-- what errors.As leaves where it hits -/
theorem as_after {w w' X : World} {g : Nat} {u0 u1 v0 v1 : Value} {t : TypeId} (h : w.heap[g]? = some (.cells #[u0, u1] t (0, 0))) (x : Ext w X) (hw : w' = (X.setCell ⟨g, 0, none⟩ v0).setCell ⟨g, 1, none⟩ v1) :
    w'.heap[g]? = some (.cells #[v0, v1] t (0, 0)) := by
  have h1 := (x.block g (blk_lt h)).trans h
  have h2 := blk_set (blk_set h1 0 v0) 1 v1
  rw [hw]
  simpa using h2

set_option maxHeartbeats 800000 in
theorem why_any (w : World) (h : Std w) (s : ByteArray) (hs : s.size ≤ 281474976710656) :
    Calls Tryd.prog 16 #[.string s] w fun ev w' => ev = .returned (.tuple #[.int .i64 (whereN s : Nat), .int .i64 (whatN s : Nat)]) ∧ Ext w w' := by
  have cB := fun W (x : Ext w W) => bytesFault_any W (h.ext x).1 s hs
  unfold WrongR at cB
  rcases wrongV_box s with ⟨hv, hr⟩ | ⟨hv, hr⟩
  · rw [hv] at cB
    replace cB := Lib.hid cB
    have HP := Lib.hid (whereN_zero hr)
    have HR := Lib.hid hr
    clear hv hr h
    go_enter Tryd.func16, Tryd.ntmps16
    go_wp2_with (first
      | (go_at_call 27; refine (cB.out _ (by repeat (first | exact Ext.refl _ | assumption | refine Ext.alloc ?_ _ | refine Ext.drew ?_ | refine Ext.drewN ?_ _))).mono ?_; rintro e w2 ⟨rfl, x2⟩; have Y2 := Lib.hid (Ext.trans ((Ext.refl w).alloc _) x2); clear x2)
      | (go_at_call 29; refine (as_nil _ _).mono ?_; rintro e w2 ⟨rfl, rfl⟩))
    go_ret2
    refine ⟨?_, Y2.out⟩
    rw [HP.out, HR.out]
    rfl
  · rw [hv] at cB
    replace cB := Lib.hid cB
    have cW := Lib.hid (fun W (x : Ext w W) => wrapped_any W (h.ext x) ((whereN s : Nat) : Int) ((whatN s : Nat) : Int))
    have HS : Hid (∀ W, Ext w W → Std W) := Lib.hid (fun W x => h.ext x)
    clear hv hr h
    obtain ⟨P, hP⟩ : ∃ P, P = whereN s := ⟨_, rfl⟩
    obtain ⟨Y, hY⟩ : ∃ Y, Y = whatN s := ⟨_, rfl⟩
    rw [← hP, ← hY] at cB cW
    rw [← hP, ← hY]
    clear hP hY
    go_enter Tryd.func16, Tryd.ntmps16
    go_wp2_with (first
      | (go_at_call 27; refine (cB.out _ (by repeat (first | exact Ext.refl _ | assumption | refine Ext.alloc ?_ _ | refine Ext.drew ?_ | refine Ext.drewN ?_ _))).mono ?_; rintro e w2 ⟨rfl, x2⟩; have hb := late_blk x2; have H2 := Lib.hid hb; have Y2 := Lib.hid (Ext.trans ((Ext.refl w).alloc _) x2); clear x2 hb)
      | (go_at_call 29; refine (as_hit w.heap.size (P : Int) (Y : Int) (.int .i64 0) (.int .i64 0) _ (HS.out _ Y2.out).2 (World.block_lt_of_cell? _ _ (HS.out _ Y2.out).2) (blk_cell H2.out 0 rfl) (blk_cell H2.out 1 rfl) (blk_free H2.out 0) (blk_free H2.out 1)).mono ?_; rintro e w3 ⟨rfl, hw3⟩; have h3 := as_after H2.out (by repeat (first | exact Ext.refl _ | assumption | refine Ext.alloc ?_ _ | refine Ext.drew ?_ | refine Ext.drewN ?_ _)) hw3; have Y3 : Hid (Ext w w3) := Lib.hid (by rw [hw3]; exact below_set (below_set (Ext.trans Y2.out (by repeat (first | exact Ext.refl _ | assumption | refine Ext.alloc ?_ _ | refine Ext.drew ?_ | refine Ext.drewN ?_ _))) (Nat.le_refl _) _) (Nat.le_refl _) _); have H3 := Lib.hid h3; clear hw3 h3))
    refine wp_region_M_lit (by kernel_rfl) ?_
    have HK : Hid (∀ W, Ext w3 W → W.cell? ⟨w.heap.size, 0, none⟩ = some (.int .i64 (P : Int)) ∧ W.cell? ⟨w.heap.size, 1, none⟩ = some (.int .i64 (Y : Int))) := Lib.hid (fun W x => by
      have hb := (x.block _ (blk_lt H3.out)).trans H3.out
      exact ⟨blk_cell hb 0 rfl, blk_cell hb 1 rfl⟩)
    (refine takeV 0 (v := ?_) (by simp only [List.getElem?_toArray, List.getElem?_cons, reduceIte]; rfl) (by kernel_rfl) (by rfl) (fun w' hw' => ?_) ?_; rotate_left; focus (skip; go_simp; first | done | with_reducible rfl)); (simp only [Act.put, List.setIfInBounds_toArray, List.set])
    (refine takeV 1 (v := ?_) (by simp only [List.getElem?_toArray, List.getElem?_cons, reduceIte]; rfl) (by kernel_rfl) (by rfl) (fun w' hw' => ?_) ?_; rotate_left; focus (have hc := HK.out w' hw'; go_simp; first | done | with_reducible rfl)); (simp only [Act.put, List.setIfInBounds_toArray, List.set])
    (refine takeV 2 (v := ?_) (by simp only [List.getElem?_toArray, List.getElem?_cons, reduceIte]; rfl) (by kernel_rfl) (by rfl) (fun w' hw' => ?_) ?_; rotate_left; focus (have hc := HK.out w' hw'; go_simp; first | done | with_reducible rfl)); (simp only [Act.put, List.setIfInBounds_toArray, List.set])
    (refine takeV 3 (v := ?_) (by simp only [List.getElem?_toArray, List.getElem?_cons, reduceIte]; rfl) (by kernel_rfl) (by rfl) (fun w' hw' => ?_) ?_; rotate_left; focus (skip; go_simp; first | done | with_reducible rfl)); (simp only [Act.put, List.setIfInBounds_toArray, List.set])
    (refine takeG 4 (v := ?_) (by simp only [List.getElem?_toArray, List.getElem?_cons, reduceIte]; rfl) (by kernel_rfl) (by rfl) (fun w' hw' => ?_) ?_; rotate_left; focus (go_simp; refine ⟨Ext.refl _, ?_⟩; (exact cW.out w' (Ext.trans Y3.out hw')))); (simp only [Act.put, List.setIfInBounds_toArray, List.set])
    (refine takeV 5 (v := ?_) (by simp only [List.getElem?_toArray, List.getElem?_cons, reduceIte]; rfl) (by kernel_rfl) (by rfl) (fun w' hw' => ?_) ?_; rotate_left; focus (skip; go_simp; first | done | with_reducible rfl)); (simp only [Act.put, List.setIfInBounds_toArray, List.set])
    (refine takeV 6 (v := ?_) (by simp only [List.getElem?_toArray, List.getElem?_cons, reduceIte]; rfl) (by kernel_rfl) (by rfl) (fun w' hw' => ?_) ?_; rotate_left; focus (skip; go_simp; first | done | with_reducible rfl)); (simp only [Act.put, List.setIfInBounds_toArray, List.set])
    (refine doneM (by kernel_rfl) ?_; intro w' hw'; show _)
    have Y4 := Lib.hid (Ext.trans Y3.out hw')
    clear hw'
    go_wp2
    go_ret2
    exact ⟨rfl, Y4.out⟩
end Go.Proofs.YtkfabocnhkmneaaDoor
