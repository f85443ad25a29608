/- Messages: the document's answers. -/
import Derived.Test.YtffgphhmkghlnaaDoorM1
namespace Go.Proofs.YtffgphhmkghlnaaDoor
open Go.RowKit

theorem three_cells {W : World} {g : Nat} {v0 v1 v2 : Value} {t : TypeId} (h : W.heap[g]? = some (.cells #[v0, v1, v2] t (0, 0))) :
    (W.cell? ⟨g, 0, none⟩ = some v0 ∧ W.cell? ⟨g, 1, none⟩ = some v1 ∧ W.cell? ⟨g, 2, none⟩ = some v2) ∧
    (W.frozen? ⟨g, 0, none⟩ = false ∧ W.frozen? ⟨g, 1, none⟩ = false ∧ W.frozen? ⟨g, 2, none⟩ = false) :=
  ⟨⟨blk_cell h 0 rfl, blk_cell h 1 rfl, blk_cell h 2 rfl⟩, blk_free h 0, blk_free h 1, blk_free h 2⟩

def set3 (W : World) (g : Nat) (u0 u1 u2 : Value) : World := ((W.setCell ⟨g, 0, none⟩ u0).setCell ⟨g, 1, none⟩ u1).setCell ⟨g, 2, none⟩ u2
theorem set3_blk {W : World} {g : Nat} {v0 v1 v2 : Value} {t : TypeId} (h : W.heap[g]? = some (.cells #[v0, v1, v2] t (0, 0))) (u0 u1 u2 : Value) : (set3 W g u0 u1 u2).heap[g]? = some (.cells #[u0, u1, u2] t (0, 0)) := by
  have h2 := blk_set (blk_set (blk_set h 0 u0) 1 u1) 2 u2
  simpa [set3] using h2
theorem set3_other {W : World} {g b : Nat} (h : b ≠ g) (u0 u1 u2 : Value) : (set3 W g u0 u1 u2).heap[b]? = W.heap[b]? := by
  unfold set3
  rw [set_other _ _ _ _ h, set_other _ _ _ _ h, set_other _ _ _ _ h]
theorem set3_ext {w W : World} {g : Nat} (x : Ext w W) (hg : w.heap.size ≤ g) (u0 u1 u2 : Value) : Ext w (set3 W g u0 u1 u2) := below_set (below_set (below_set x hg _) hg _) hg _
theorem late_blk {W W' : World} {C : Array Value} {t : TypeId} (x : Ext (W.alloc (.cells C t (0, 0))) W') : W'.heap[W.heap.size]? = some (.cells C t (0, 0)) :=
  box1 (x.mono (by rw [size_alloc]; omega))
theorem blk_later {W W' : World} {g : Nat} {O : Obj} (h : W.heap[g]? = some O) (x : Ext W W') : W'.heap[g]? = some O := (x.block g (blk_lt h)).trans h
theorem blk_alloc {W : World} {g : Nat} {O : Obj} (h : W.heap[g]? = some O) (o : Obj) : (W.alloc o).heap[g]? = some O := (get_alloc_old (blk_lt h)).trans h
theorem wrapN (x : Int) (h1 : -9223372036854775808 ≤ x) (h2 : x ≤ 9223372036854775807) : IntKind.i64.wrap x = x := by
  simp [IntKind.wrap, IntKind.bits, IntKind.signed]; omega
theorem wrapU (x : Int) (h1 : 0 ≤ x) (h2 : x ≤ 18446744073709551615) : IntKind.u64.wrap x = x := by
  simp [IntKind.wrap, IntKind.bits, IntKind.signed]; omega
theorem wrapB (x : Int) (h1 : 0 ≤ x) (h2 : x ≤ 255) : IntKind.u8.wrap x = x := by
  simp [IntKind.wrap, IntKind.bits, IntKind.signed]; omega

set_option maxHeartbeats 800000 in
theorem refRight_any (w : World) (m : Mg) :
    Calls Tryd.prog 11 #[.agg #[.int .i64 m.k, .int .i64 m.e, .int .i64 m.n]] w fun ev w' => ev = .returned (.bool (rightM m)) ∧ Ext w w' := by
  obtain ⟨k, e, n⟩ := m
  dsimp only
  go_enter Tryd.func11, Tryd.ntmps11
  go_wp2
  all_goals go_ret
  all_goals refine ⟨ret_bool ?_, (by repeat (first | exact Ext.refl _ | assumption | refine Ext.alloc ?_ _ | refine Ext.drew ?_ | refine Ext.drewN ?_ _))⟩
  all_goals simp only [rightM]
  all_goals (rw [Bool.eq_iff_iff]; simp; try omega)

set_option maxHeartbeats 800000 in
theorem refName_any (w : World) (k : Int) :
    Calls Tryd.prog 15 #[.int .i64 k] w fun ev w' => ev = .returned (.string (nameS k)) ∧ w = w' := by
  have hk : k = 1 ∨ k = 2 ∨ k = 3 ∨ k = 4 ∨ k = 5 ∨ k = 6 ∨ k = 7 ∨ k = 8 ∨ k = 9 ∨ ¬ (1 ≤ k ∧ k ≤ 9) := by omega
  rcases hk with rfl | rfl | rfl | rfl | rfl | rfl | rfl | rfl | rfl | hk
  case inr.inr.inr.inr.inr.inr.inr.inr.inr =>
    have b1 : (k == 1) = false := beq_eq_false_iff_ne.2 (by omega)
    have b2 : (k == 2) = false := beq_eq_false_iff_ne.2 (by omega)
    have b3 : (k == 3) = false := beq_eq_false_iff_ne.2 (by omega)
    have b4 : (k == 4) = false := beq_eq_false_iff_ne.2 (by omega)
    have b5 : (k == 5) = false := beq_eq_false_iff_ne.2 (by omega)
    have b6 : (k == 6) = false := beq_eq_false_iff_ne.2 (by omega)
    have b7 : (k == 7) = false := beq_eq_false_iff_ne.2 (by omega)
    have b8 : (k == 8) = false := beq_eq_false_iff_ne.2 (by omega)
    have b9 : (k == 9) = false := beq_eq_false_iff_ne.2 (by omega)
    have hn := Lib.hid (show nameS k = ⟨#[63]⟩ by
      unfold nameS nameL
      rw [if_neg (by omega), if_neg (by omega), if_neg (by omega), if_neg (by omega), if_neg (by omega), if_neg (by omega), if_neg (by omega), if_neg (by omega), if_neg (by omega)]
      rfl)
    clear hk
    go_enter Tryd.func15, Tryd.ntmps15
    go_wp2
    go_ret
    exact ⟨by rw [hn.out]; rfl, rfl⟩
  all_goals
    go_enter Tryd.func15, Tryd.ntmps15
    go_wp2
    go_ret
    exact ⟨rfl, rfl⟩

theorem nameS_size (k : Int) : (nameS k).size ≤ 6 ∧ 1 ≤ (nameS k).size := by
  unfold nameS
  rw [textN_size]
  exact name_cases (P := fun l => l.length ≤ 6 ∧ 1 ≤ l.length) k (by decide) (by decide) (by decide) (by decide) (by decide) (by decide) (by decide) (by decide) (by decide) (by decide)

theorem itoaS_size {n : Int} (h0 : -9223372036854775808 ≤ n) (h1 : n ≤ 9223372036854775807) : (itoaS n).size ≤ 21 := Lib.itoa_length_le n h0 h1

set_option maxHeartbeats 800000 in
theorem refPut_any (w : World) (K E N : Nat) (hK : K < 256) (hE : E < 65536) (hN : N < 65536) :
    Calls Tryd.prog 16 #[.agg #[.int .i64 (K : Int), .int .i64 (E : Int), .int .i64 (N : Int)]] w fun ev w' => ev = .returned (.string (textN (putM K E N))) ∧ Ext w w' := by
  have H1 : Hid (∀ W, Ext (w.alloc (.cells #[.int .i64 (K : Int), .int .i64 (E : Int), .int .i64 (N : Int)] 24)) W → W.cell? ⟨w.heap.size, 0, none⟩ = some (.int .i64 (K : Int)) ∧ W.cell? ⟨w.heap.size, 1, none⟩ = some (.int .i64 (E : Int)) ∧ W.cell? ⟨w.heap.size, 2, none⟩ = some (.int .i64 (N : Int))) := Lib.hid fun W x => (three_cells (late_blk x)).1
  have s1 : IntKind.u64.wrap (E : Int) = (E : Int) := wrapU _ (by omega) (by omega)
  have s2 : IntKind.u64.wrap (N : Int) = (N : Int) := wrapU _ (by omega) (by omega)
  have s3 : IntKind.u8.wrap (K : Int) = (K : Int) := wrapB _ (by omega) (by omega)
  obtain ⟨A, hA⟩ : ∃ A, A = (⟨#[UInt8.ofNat K]⟩ : ByteArray) := ⟨_, rfl⟩
  obtain ⟨B, hB⟩ : ∃ B, B = textN (highN E 2) := ⟨_, rfl⟩
  obtain ⟨C, hC⟩ : ∃ C, C = textN (highN N 2) := ⟨_, rfl⟩
  have zA : A.size = 1 := by rw [hA]; rfl
  have zB : B.size = 2 := by rw [hB, textN_size, highN_length]
  have zC : C.size = 2 := by rw [hC, textN_size, highN_length]
  have cB := Lib.hid (fun W => refHigh_any W E 2 (by omega) (by decide))
  have cC := Lib.hid (fun W => refHigh_any W N 2 (by omega) (by decide))
  rw [← hB] at cB
  rw [← hC] at cC
  have HCV : ∀ W W' : World, Ext (W.alloc (.cells #[.int .u8 (K : Int)] 5)) W' → (convert 39 9 (.slice (some ⟨W.heap.size, 0, none⟩) 1 1)).run Tryd.prog W' = .ok (.string A) W' := fun W W' x => by
    rw [hA]
    exact text_later [(K : Int)] W W' x
  have HCV := Lib.hid HCV
  have HS := Lib.hid (show textN (putM K E N) = if K = 9 then A ++ B ++ C else A ++ B by
    rw [hA, hB, hC, show (⟨#[UInt8.ofNat K]⟩ : ByteArray) = textN [K] from rfl, textN_append, textN_append]
    unfold putM
    split <;> simp)
  clear hA hB hC
  by_cases h9 : K = 9
  · have b9 : ((K : Int) == 9) = true := beq_iff_eq.2 (by omega)
    rw [if_pos h9] at HS
    clear h9
    go_enter Tryd.func16, Tryd.ntmps16
    go_wp2_with fail
    refine wp_region_M_lit (by kernel_rfl) ?_
    have HX : Ext (w.alloc (.cells #[.int .i64 (K : Int), .int .i64 (E : Int), .int .i64 (N : Int)] 24)) _ := Ext.refl _
    (refine takeV 0 (v := ?_) (by simp only [List.getElem?_toArray, List.getElem?_cons, reduceIte]; rfl) (by kernel_rfl) (by rfl) (fun w' hw' => ?_) ?_; rotate_left; focus (skip; go_simp; first | done | with_reducible rfl)); (simp only [Act.put, List.setIfInBounds_toArray, List.set])
    (refine takeV 1 (v := ?_) (by simp only [List.getElem?_toArray, List.getElem?_cons, reduceIte]; rfl) (by kernel_rfl) (by rfl) (fun w' hw' => ?_) ?_; rotate_left; focus (have hc := H1.out w' (Ext.trans HX hw'); go_simp; first | done | with_reducible rfl)); (simp only [Act.put, List.setIfInBounds_toArray, List.set])
    (refine takeV 2 (v := ?_) (by simp only [List.getElem?_toArray, List.getElem?_cons, reduceIte]; rfl) (by kernel_rfl) (by rfl) (fun w' hw' => ?_) ?_; rotate_left; focus (skip; go_simp; first | done | with_reducible rfl)); (simp only [Act.put, List.setIfInBounds_toArray, List.set])
    (refine takeV 5 (v := ?_) (by simp only [List.getElem?_toArray, List.getElem?_cons, reduceIte]; rfl) (by kernel_rfl) (by rfl) (fun w' hw' => ?_) ?_; rotate_left; focus (skip; go_simp; first | done | with_reducible rfl)); (simp only [Act.put, List.setIfInBounds_toArray, List.set])
    (refine takeV 6 (v := ?_) (by simp only [List.getElem?_toArray, List.getElem?_cons, reduceIte]; rfl) (by kernel_rfl) (by rfl) (fun w' hw' => ?_) ?_; rotate_left; focus (have hc := H1.out w' (Ext.trans HX hw'); go_simp; first | done | with_reducible rfl)); (simp only [Act.put, List.setIfInBounds_toArray, List.set])
    (refine takeV 7 (v := ?_) (by simp only [List.getElem?_toArray, List.getElem?_cons, reduceIte]; rfl) (by kernel_rfl) (by rfl) (fun w' hw' => ?_) ?_; rotate_left; focus (skip; go_simp; first | done | with_reducible rfl)); (simp only [Act.put, List.setIfInBounds_toArray, List.set])
    (refine takeG 8 (v := ?_) (by simp only [List.getElem?_toArray, List.getElem?_cons, reduceIte]; rfl) (by kernel_rfl) (by rfl) (fun w' hw' => ?_) ?_; rotate_left; focus (go_simp; refine ⟨Ext.refl _, ?_⟩; (exact cB.out w'))); (simp only [Act.put, List.setIfInBounds_toArray, List.set])
    (refine runOne 3 (by simp only [List.getElem?_toArray, List.getElem?_cons, reduceIte]; rfl) (by kernel_rfl) (by kernel_rfl) (by rfl) ?_; intro w' hw'; go_simp; refine ⟨Ext.alloc (Ext.refl _) _, ?_⟩; try (simp only [Act.put, List.setIfInBounds_toArray, List.set]))
    have HX2 := Lib.hid (Ext.alloc (Ext.trans HX hw') (.cells #[.int .u8 (K : Int)] 5))
    have HCW := Lib.hid (HCV.out w')
    clear HX hw'
    obtain ⟨n, hn⟩ : ∃ n, n = w'.heap.size := ⟨_, rfl⟩
    obtain ⟨w1, hw1⟩ : ∃ w1, w1 = w'.alloc (.cells #[.int .u8 (K : Int)] 5) := ⟨_, rfl⟩
    rw [← hn, ← hw1] at HCW
    rw [← hw1] at HX2 ⊢
    rw [← hn]
    clear hn hw1
    (refine takeV 4 (v := ?_) (by simp only [List.getElem?_toArray, List.getElem?_cons, reduceIte]; rfl) (by kernel_rfl) (by rfl) (fun w' hw' => ?_) ?_; rotate_left; focus (have hc := HCW.out w' hw'; go_simp; first | done | with_reducible rfl)); (simp only [Act.put, List.setIfInBounds_toArray, List.set])
    (refine takeV 9 (v := ?_) (by simp only [List.getElem?_toArray, List.getElem?_cons, reduceIte]; rfl) (by kernel_rfl) (by rfl) (fun w' hw' => ?_) ?_; rotate_left; focus (skip; go_simp; first | done | with_reducible rfl)); (simp only [Act.put, List.setIfInBounds_toArray, List.set])
    (refine takeV 10 (v := ?_) (by simp only [List.getElem?_toArray, List.getElem?_cons, reduceIte]; rfl) (by kernel_rfl) (by rfl) (fun w' hw' => ?_) ?_; rotate_left; focus (skip; go_simp; first | done | with_reducible rfl)); (simp only [Act.put, List.setIfInBounds_toArray, List.set])
    (refine doneM (by kernel_rfl) ?_; intro w' hw'; show _)
    have y1 := Lib.hid (Ext.trans HX2.out hw')
    have k1 := H1.out w' y1.out
    clear hw'
    go_wp2_with (first
      | (go_at_call 23; refine (cC.out _).mono ?_; rintro e w4 ⟨rfl, x4⟩; have y4 := Lib.hid (Ext.trans y1.out x4); clear x4))
    go_ret
    exact ⟨by rw [HS.out]; rfl, Ext.trans ((Ext.refl w).alloc _) y4.out⟩
  · have b9 : ((K : Int) == 9) = false := beq_eq_false_iff_ne.2 (by omega)
    rw [if_neg h9] at HS
    clear h9
    go_enter Tryd.func16, Tryd.ntmps16
    go_wp2_with fail
    refine wp_region_M_lit (by kernel_rfl) ?_
    have HX : Ext (w.alloc (.cells #[.int .i64 (K : Int), .int .i64 (E : Int), .int .i64 (N : Int)] 24)) _ := Ext.refl _
    (refine takeV 0 (v := ?_) (by simp only [List.getElem?_toArray, List.getElem?_cons, reduceIte]; rfl) (by kernel_rfl) (by rfl) (fun w' hw' => ?_) ?_; rotate_left; focus (skip; go_simp; first | done | with_reducible rfl)); (simp only [Act.put, List.setIfInBounds_toArray, List.set])
    (refine takeV 1 (v := ?_) (by simp only [List.getElem?_toArray, List.getElem?_cons, reduceIte]; rfl) (by kernel_rfl) (by rfl) (fun w' hw' => ?_) ?_; rotate_left; focus (have hc := H1.out w' (Ext.trans HX hw'); go_simp; first | done | with_reducible rfl)); (simp only [Act.put, List.setIfInBounds_toArray, List.set])
    (refine takeV 2 (v := ?_) (by simp only [List.getElem?_toArray, List.getElem?_cons, reduceIte]; rfl) (by kernel_rfl) (by rfl) (fun w' hw' => ?_) ?_; rotate_left; focus (skip; go_simp; first | done | with_reducible rfl)); (simp only [Act.put, List.setIfInBounds_toArray, List.set])
    (refine takeV 5 (v := ?_) (by simp only [List.getElem?_toArray, List.getElem?_cons, reduceIte]; rfl) (by kernel_rfl) (by rfl) (fun w' hw' => ?_) ?_; rotate_left; focus (skip; go_simp; first | done | with_reducible rfl)); (simp only [Act.put, List.setIfInBounds_toArray, List.set])
    (refine takeV 6 (v := ?_) (by simp only [List.getElem?_toArray, List.getElem?_cons, reduceIte]; rfl) (by kernel_rfl) (by rfl) (fun w' hw' => ?_) ?_; rotate_left; focus (have hc := H1.out w' (Ext.trans HX hw'); go_simp; first | done | with_reducible rfl)); (simp only [Act.put, List.setIfInBounds_toArray, List.set])
    (refine takeV 7 (v := ?_) (by simp only [List.getElem?_toArray, List.getElem?_cons, reduceIte]; rfl) (by kernel_rfl) (by rfl) (fun w' hw' => ?_) ?_; rotate_left; focus (skip; go_simp; first | done | with_reducible rfl)); (simp only [Act.put, List.setIfInBounds_toArray, List.set])
    (refine takeG 8 (v := ?_) (by simp only [List.getElem?_toArray, List.getElem?_cons, reduceIte]; rfl) (by kernel_rfl) (by rfl) (fun w' hw' => ?_) ?_; rotate_left; focus (go_simp; refine ⟨Ext.refl _, ?_⟩; (exact cB.out w'))); (simp only [Act.put, List.setIfInBounds_toArray, List.set])
    (refine runOne 3 (by simp only [List.getElem?_toArray, List.getElem?_cons, reduceIte]; rfl) (by kernel_rfl) (by kernel_rfl) (by rfl) ?_; intro w' hw'; go_simp; refine ⟨Ext.alloc (Ext.refl _) _, ?_⟩; try (simp only [Act.put, List.setIfInBounds_toArray, List.set]))
    have HX2 := Lib.hid (Ext.alloc (Ext.trans HX hw') (.cells #[.int .u8 (K : Int)] 5))
    have HCW := Lib.hid (HCV.out w')
    clear HX hw'
    obtain ⟨n, hn⟩ : ∃ n, n = w'.heap.size := ⟨_, rfl⟩
    obtain ⟨w1, hw1⟩ : ∃ w1, w1 = w'.alloc (.cells #[.int .u8 (K : Int)] 5) := ⟨_, rfl⟩
    rw [← hn, ← hw1] at HCW
    rw [← hw1] at HX2 ⊢
    rw [← hn]
    clear hn hw1
    (refine takeV 4 (v := ?_) (by simp only [List.getElem?_toArray, List.getElem?_cons, reduceIte]; rfl) (by kernel_rfl) (by rfl) (fun w' hw' => ?_) ?_; rotate_left; focus (have hc := HCW.out w' hw'; go_simp; first | done | with_reducible rfl)); (simp only [Act.put, List.setIfInBounds_toArray, List.set])
    (refine takeV 9 (v := ?_) (by simp only [List.getElem?_toArray, List.getElem?_cons, reduceIte]; rfl) (by kernel_rfl) (by rfl) (fun w' hw' => ?_) ?_; rotate_left; focus (skip; go_simp; first | done | with_reducible rfl)); (simp only [Act.put, List.setIfInBounds_toArray, List.set])
    (refine takeV 10 (v := ?_) (by simp only [List.getElem?_toArray, List.getElem?_cons, reduceIte]; rfl) (by kernel_rfl) (by rfl) (fun w' hw' => ?_) ?_; rotate_left; focus (skip; go_simp; first | done | with_reducible rfl)); (simp only [Act.put, List.setIfInBounds_toArray, List.set])
    (refine doneM (by kernel_rfl) ?_; intro w' hw'; show _)
    have y1 := Lib.hid (Ext.trans HX2.out hw')
    have k1 := H1.out w' y1.out
    clear hw'
    go_wp2_with (first
      | (go_at_call 23; refine (cC.out _).mono ?_; rintro e w4 ⟨rfl, x4⟩; have y4 := Lib.hid (Ext.trans y1.out x4); clear x4))
    go_ret
    exact ⟨by rw [HS.out]; rfl, Ext.trans ((Ext.refl w).alloc _) y1.out⟩
end Go.Proofs.YtffgphhmkghlnaaDoor
