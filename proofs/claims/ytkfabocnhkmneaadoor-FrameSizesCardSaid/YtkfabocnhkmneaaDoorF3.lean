/- The frame that bytes are: the document's answer. -/
import Derived.Test.YtkfabocnhkmneaaDoorF2
namespace Go.Proofs.YtkfabocnhkmneaaDoor
open Go.RowKit

/-- the frame that stands there -/
def frOf (s : ByteArray) : Fr := ⟨((bl s).getD 2 0 : Nat), (numN (((bl s).drop 3).take 2) : Nat), numN (((bl s).drop 5).take 8), numN (((bl s).drop 13).take 8), s.extract 23 (s.size - 4)⟩

/-- what is wrong first -/
def whatN (s : ByteArray) : Nat :=
  if s.size < 27 then 61 else if (bl s).getD 0 0 ≠ 78 then 62 else if (bl s).getD 1 0 ≠ 1 then 63 else if numN (((bl s).drop 21).take 2) ≠ s.size - 27 then 64
  else if goodB s = false then 65 else if rightB (frOf s) = false then 66 else 0

/-- and where -/
def whereN (s : ByteArray) : Nat :=
  if s.size < 27 then s.size else if (bl s).getD 0 0 ≠ 78 then 0 else if (bl s).getD 1 0 ≠ 1 then 1 else if numN (((bl s).drop 21).take 2) ≠ s.size - 27 then 21
  else if goodB s = false then s.size - 4 else if rightB (frOf s) = false then 2 else 0

def getF (s : ByteArray) : Fr := if whatN s = 0 then frOf s else Fr.zero

def frV (f : Fr) : Value := .agg #[.int .i64 f.k, .int .i64 f.e, .int .u64 (f.q : Int), .int .u64 (f.a : Int), .string f.b]

/-- what the document's Get answers -/
def GetsR (s : ByteArray) (w : World) (e : Ending) (w' : World) : Prop :=
  e = .returned (.tuple #[frV (getF s), .int .i64 (whereN s : Nat), .int .i64 (whatN s : Nat)]) ∧ Ext w w'

set_option maxHeartbeats 400000 in
theorem refGet_short (w : World) (s : ByteArray) (h : s.size < 27) : Calls Tryd.prog 17 #[.string s] w (GetsR s w) := by
  have e1 : (s.size : Int) < 27 := by omega
  have H1 := Lib.hid (show whatN s = 61 by unfold whatN; rw [if_pos h])
  have H2 := Lib.hid (show whereN s = s.size by unfold whereN; rw [if_pos h])
  clear h
  go_enter Tryd.func17, Tryd.ntmps17
  go_wp2
  refine bodyPost_ret (v := .tuple #[frV Fr.zero, .int .i64 s.size, .int .i64 61]) (by simp [results, Tryd.results17, go_sem, frV, Fr.zero]) rfl ⟨?_, (by repeat (first | exact Ext.refl _ | assumption | refine Ext.alloc ?_ _ | refine Ext.drew ?_ | refine Ext.drewN ?_ _))⟩
  unfold getF
  rw [H1.out, H2.out]
  rfl

set_option maxHeartbeats 400000 in
theorem refGet_magic (w : World) (s : ByteArray) (h : ¬ s.size < 27) (h0 : (bl s).getD 0 0 ≠ 78) : Calls Tryd.prog 17 #[.string s] w (GetsR s w) := by
  have e1 : ¬ (s.size : Int) < 27 := by omega
  have H1 := Lib.hid (show whatN s = 62 by unfold whatN; rw [if_neg h, if_pos h0])
  have H2 := Lib.hid (show whereN s = 0 by unfold whereN; rw [if_neg h, if_pos h0])
  have l0 : 0 < s.size := by omega
  have b0 := bl_at s l0
  obtain ⟨B0, hB0⟩ : ∃ B0, B0 = (bl s).getD 0 0 := ⟨_, rfl⟩
  rw [← hB0] at b0 h0
  clear h hB0
  have c0 : ((B0 : Int) = 78) = False := by simp; omega
  go_enter Tryd.func17, Tryd.ntmps17
  go_wp2
  refine bodyPost_ret (v := .tuple #[frV Fr.zero, .int .i64 0, .int .i64 62]) (by simp [results, Tryd.results17, go_sem, frV, Fr.zero]) rfl ⟨?_, (by repeat (first | exact Ext.refl _ | assumption | refine Ext.alloc ?_ _ | refine Ext.drew ?_ | refine Ext.drewN ?_ _))⟩
  unfold getF
  rw [H1.out, H2.out]
  rfl

set_option maxHeartbeats 400000 in
theorem refGet_version (w : World) (s : ByteArray) (h : ¬ s.size < 27) (h0 : (bl s).getD 0 0 = 78) (h1 : (bl s).getD 1 0 ≠ 1) : Calls Tryd.prog 17 #[.string s] w (GetsR s w) := by
  have e1 : ¬ (s.size : Int) < 27 := by omega
  have H1 := Lib.hid (show whatN s = 63 by unfold whatN; rw [if_neg h, if_neg (by simpa using h0), if_pos h1])
  have H2 := Lib.hid (show whereN s = 1 by unfold whereN; rw [if_neg h, if_neg (by simpa using h0), if_pos h1])
  have l0 : 0 < s.size := by omega
  have l1 : 1 < s.size := by omega
  have b0 := bl_at s l0
  have b1 := bl_at s l1
  rw [h0] at b0
  obtain ⟨B1, hB1⟩ : ∃ B1, B1 = (bl s).getD 1 0 := ⟨_, rfl⟩
  rw [← hB1] at b1 h1
  clear h hB1 h0
  have c1 : ((B1 : Int) = 1) = False := by simp; omega
  go_enter Tryd.func17, Tryd.ntmps17
  go_wp2
  refine bodyPost_ret (v := .tuple #[frV Fr.zero, .int .i64 1, .int .i64 63]) (by simp [results, Tryd.results17, go_sem, frV, Fr.zero]) rfl ⟨?_, (by repeat (first | exact Ext.refl _ | assumption | refine Ext.alloc ?_ _ | refine Ext.drew ?_ | refine Ext.drewN ?_ _))⟩
  unfold getF
  rw [H1.out, H2.out]
  rfl

theorem five_cells {W : World} {g : Nat} {v0 v1 v2 v3 v4 : Value} {t : TypeId} (h : W.heap[g]? = some (.cells #[v0, v1, v2, v3, v4] t (0, 0))) :
    (W.cell? ⟨g, 0, none⟩ = some v0 ∧ W.cell? ⟨g, 1, none⟩ = some v1 ∧ W.cell? ⟨g, 2, none⟩ = some v2 ∧ W.cell? ⟨g, 3, none⟩ = some v3 ∧ W.cell? ⟨g, 4, none⟩ = some v4) ∧
    (W.frozen? ⟨g, 0, none⟩ = false ∧ W.frozen? ⟨g, 1, none⟩ = false ∧ W.frozen? ⟨g, 2, none⟩ = false ∧ W.frozen? ⟨g, 3, none⟩ = false ∧ W.frozen? ⟨g, 4, none⟩ = false) :=
  ⟨⟨blk_cell h 0 rfl, blk_cell h 1 rfl, blk_cell h 2 rfl, blk_cell h 3 rfl, blk_cell h 4 rfl⟩, blk_free h 0, blk_free h 1, blk_free h 2, blk_free h 3, blk_free h 4⟩

/-- five cells stored -/
def set5 (W : World) (g : Nat) (u0 u1 u2 u3 u4 : Value) : World := ((((W.setCell ⟨g, 0, none⟩ u0).setCell ⟨g, 1, none⟩ u1).setCell ⟨g, 2, none⟩ u2).setCell ⟨g, 3, none⟩ u3).setCell ⟨g, 4, none⟩ u4

theorem set5_blk {W : World} {g : Nat} {v0 v1 v2 v3 v4 : Value} {t : TypeId} (h : W.heap[g]? = some (.cells #[v0, v1, v2, v3, v4] t (0, 0))) (u0 u1 u2 u3 u4 : Value) : (set5 W g u0 u1 u2 u3 u4).heap[g]? = some (.cells #[u0, u1, u2, u3, u4] t (0, 0)) := by
  have h0 := blk_set h 0 u0
  have h1 := blk_set h0 1 u1
  have h2 := blk_set h1 2 u2
  have h3 := blk_set h2 3 u3
  have h4 := blk_set h3 4 u4
  simpa [set5] using h4

theorem late_blk {W W' : World} {C : Array Value} {t : TypeId} (x : Ext (W.alloc (.cells C t (0, 0))) W') : W'.heap[W.heap.size]? = some (.cells C t (0, 0)) :=
  box1 (x.mono (by rw [size_alloc]; omega))

theorem set5_other {W : World} {g b : Nat} (h : b ≠ g) (u0 u1 u2 u3 u4 : Value) : (set5 W g u0 u1 u2 u3 u4).heap[b]? = W.heap[b]? := by
  unfold set5
  rw [set_other _ _ _ _ h, set_other _ _ _ _ h, set_other _ _ _ _ h, set_other _ _ _ _ h, set_other _ _ _ _ h]

theorem set5_ext {w W : World} {g : Nat} (x : Ext w W) (hg : w.heap.size ≤ g) (u0 u1 u2 u3 u4 : Value) : Ext w (set5 W g u0 u1 u2 u3 u4) :=
  below_set (below_set (below_set (below_set (below_set x hg _) hg _) hg _) hg _) hg _

theorem wrapN (x : Int) (h1 : -9223372036854775808 ≤ x) (h2 : x ≤ 9223372036854775807) : IntKind.i64.wrap x = x := by
  simp [IntKind.wrap, IntKind.bits, IntKind.signed]; omega
theorem wrapU (x : Int) (h1 : 0 ≤ x) (h2 : x ≤ 18446744073709551615) : IntKind.u64.wrap x = x := by
  simp [IntKind.wrap, IntKind.bits, IntKind.signed]; omega

set_option maxHeartbeats 400000 in
theorem refGet_length (w : World) (s : ByteArray) (hs : s.size ≤ 281474976710656) (h : ¬ s.size < 27) (h0 : (bl s).getD 0 0 = 78) (h1 : (bl s).getD 1 0 = 1) (h2 : numN (((bl s).drop 21).take 2) ≠ s.size - 27) :
    Calls Tryd.prog 17 #[.string s] w (GetsR s w) := by
  have e1 : ¬ (s.size : Int) < 27 := by omega
  have H1 := Lib.hid (show whatN s = 64 by unfold whatN; rw [if_neg h, if_neg (by simpa using h0), if_neg (by simpa using h1), if_pos h2])
  have H2 := Lib.hid (show whereN s = 21 by unfold whereN; rw [if_neg h, if_neg (by simpa using h0), if_neg (by simpa using h1), if_pos h2])
  have l0 : 0 < s.size := by omega
  have l1 : 1 < s.size := by omega
  have b0 := bl_at s l0
  have b1 := bl_at s l1
  rw [h0] at b0
  rw [h1] at b1
  have e2 : (21 : Int) ≤ (s.size : Int) := by omega
  have e3 : (23 : Int) ≤ (s.size : Int) := by omega
  have cN := fun W => refNumber_any W (s.extract 21 23) (by rw [ByteArray.size_extract]; omega)
  rw [bl_extract] at cN
  obtain ⟨N, hN⟩ : ∃ N, N = numN (((bl s).drop 21).take 2) := ⟨_, rfl⟩
  rw [← hN] at cN h2
  replace cN := Lib.hid cN
  obtain ⟨n, hn⟩ : ∃ n, s.size = n + 27 := ⟨s.size - 27, by omega⟩
  have e4 : (s.size : Int) - 4 - 23 = (n : Int) := by omega
  have e5 : IntKind.u64.wrap (n : Int) = (n : Int) := wrapU _ (by omega) (by omega)
  have c1 : ((N : Int) != (n : Int)) = true := bne_iff_ne.2 (by omega)
  clear h hN h0 h1 h2
  replace hn := Lib.hid hn
  go_enter Tryd.func17, Tryd.ntmps17
  go_wp2_with (first
    | (go_at_call 30; refine (cN.out _).mono ?_; rintro e w2 ⟨rfl, rfl⟩))
  refine bodyPost_ret (v := .tuple #[frV Fr.zero, .int .i64 21, .int .i64 64]) (by simp [results, Tryd.results17, go_sem, frV, Fr.zero]) rfl ⟨?_, (by repeat (first | exact Ext.refl _ | assumption | refine Ext.alloc ?_ _ | refine Ext.drew ?_ | refine Ext.drewN ?_ _))⟩
  unfold getF
  rw [H1.out, H2.out]
  rfl

set_option maxHeartbeats 800000 in
theorem refGet_sum (w : World) (s : ByteArray) (hs : s.size ≤ 281474976710656) (h : ¬ s.size < 27) (h0 : (bl s).getD 0 0 = 78) (h1 : (bl s).getD 1 0 = 1) (h2 : numN (((bl s).drop 21).take 2) = s.size - 27) (h3 : goodB s = false) :
    Calls Tryd.prog 17 #[.string s] w (GetsR s w) := by
  have e1 : ¬ (s.size : Int) < 27 := by omega
  have H1 := Lib.hid (show whatN s = 65 by unfold whatN; rw [if_neg h, if_neg (by simpa using h0), if_neg (by simpa using h1), if_neg (by simpa using h2), if_pos h3])
  have H2 := Lib.hid (show whereN s = s.size - 4 by unfold whereN; rw [if_neg h, if_neg (by simpa using h0), if_neg (by simpa using h1), if_neg (by simpa using h2), if_pos h3])
  have l0 : 0 < s.size := by omega
  have l1 : 1 < s.size := by omega
  have b0 := bl_at s l0
  have b1 := bl_at s l1
  rw [h0] at b0
  rw [h1] at b1
  have e2 : (21 : Int) ≤ (s.size : Int) := by omega
  have e3 : (23 : Int) ≤ (s.size : Int) := by omega
  have cN := fun W => refNumber_any W (s.extract 21 23) (by rw [ByteArray.size_extract]; omega)
  rw [bl_extract] at cN
  obtain ⟨N, hN⟩ : ∃ N, N = numN (((bl s).drop 21).take 2) := ⟨_, rfl⟩
  rw [← hN] at cN h2
  replace cN := Lib.hid cN
  obtain ⟨n, hn⟩ : ∃ n, s.size = n + 4 := ⟨s.size - 4, by omega⟩
  have e4 : (s.size : Int) - 4 = (n : Int) := by omega
  have e6 : IntKind.u64.wrap ((n : Int) - 23) = (n : Int) - 23 := wrapU _ (by omega) (by omega)
  have c1 : ((N : Int) != (n : Int) - 23) = false := by rw [bne_eq_false_iff_eq]; omega
  have hn4 : s.size - 4 = n := by omega
  have hg : goodB s = decide (s.extract n s.size = textN (tailN (moreN 0 (bl (s.extract 0 n))))) := by
    unfold goodB last4 ahead
    rw [decide_eq_true (show 4 ≤ s.size by omega), Bool.true_and, hn4]
  have hM : moreN 0 (bl (s.extract 0 n)) < 4294967296 := moreN_lt (by decide) (bl_lt _)
  have cM := fun W => refMore_any W 0 (s.extract 0 n) (by decide) (by rw [ByteArray.size_extract]; omega)
  obtain ⟨M, hM2⟩ : ∃ M, M = moreN 0 (bl (s.extract 0 n)) := ⟨_, rfl⟩
  rw [← hM2] at hg hM cM
  replace cM := Lib.hid cM
  have e7 : ((s.extract n s.size).toList == (textN (tailN M)).toList) = false := by rw [tl_eq, ← hg, h3]
  have e8 : (0 : Int) ≤ (n : Int) := by omega
  have e9 : (n : Int) ≤ (s.size : Int) := by omega
  clear h hN h0 h1 h2 hg hM2 h3
  rw [hn4] at H2
  replace hn := Lib.hid hn
  clear hn4
  go_enter Tryd.func17, Tryd.ntmps17
  go_wp2_with (first
    | (go_at_call 30; refine (cN.out _).mono ?_; rintro e w2 ⟨rfl, rfl⟩))
  refine wp_region_M_lit (by kernel_rfl) ?_
  (refine takeV 0 (v := ?_) (by simp only [List.getElem?_toArray, List.getElem?_cons, reduceIte]; rfl) (by kernel_rfl) (by rfl) (fun w' hw' => ?_) ?_; rotate_left; focus (skip; go_simp; first | done | with_reducible rfl)); (simp only [Act.put, List.setIfInBounds_toArray, List.set])
  (refine takeV 1 (v := ?_) (by simp only [List.getElem?_toArray, List.getElem?_cons, reduceIte]; rfl) (by kernel_rfl) (by rfl) (fun w' hw' => ?_) ?_; rotate_left; focus (skip; go_simp; first | done | with_reducible rfl)); (simp only [Act.put, List.setIfInBounds_toArray, List.set])
  (refine takeV 2 (v := ?_) (by simp only [List.getElem?_toArray, List.getElem?_cons, reduceIte]; rfl) (by kernel_rfl) (by rfl) (fun w' hw' => ?_) ?_; rotate_left; focus (skip; go_simp; first | done | with_reducible rfl)); (simp only [Act.put, List.setIfInBounds_toArray, List.set])
  (refine takeV 3 (v := ?_) (by simp only [List.getElem?_toArray, List.getElem?_cons, reduceIte]; rfl) (by kernel_rfl) (by rfl) (fun w' hw' => ?_) ?_; rotate_left; focus (skip; go_simp; first | done | with_reducible rfl)); (simp only [Act.put, List.setIfInBounds_toArray, List.set])
  (refine takeV 4 (v := ?_) (by simp only [List.getElem?_toArray, List.getElem?_cons, reduceIte]; rfl) (by kernel_rfl) (by rfl) (fun w' hw' => ?_) ?_; rotate_left; focus (skip; go_simp; first | done | with_reducible rfl)); (simp only [Act.put, List.setIfInBounds_toArray, List.set])
  (refine takeV 5 (v := ?_) (by simp only [List.getElem?_toArray, List.getElem?_cons, reduceIte]; rfl) (by kernel_rfl) (by rfl) (fun w' hw' => ?_) ?_; rotate_left; focus (skip; go_simp; first | done | with_reducible rfl)); (simp only [Act.put, List.setIfInBounds_toArray, List.set])
  (refine takeG 6 (v := ?_) (by simp only [List.getElem?_toArray, List.getElem?_cons, reduceIte]; rfl) (by kernel_rfl) (by rfl) (fun w' hw' => ?_) ?_; rotate_left; focus (go_simp; refine ⟨Ext.refl _, ?_⟩; (have hq := gives_same (cM.out w'); exact hq))); (simp only [Act.put, List.setIfInBounds_toArray, List.set])
  (refine takeG 7 (v := ?_) (by simp only [List.getElem?_toArray, List.getElem?_cons, reduceIte]; rfl) (by kernel_rfl) (by rfl) (fun w' hw' => ?_) ?_; rotate_left; focus (go_simp; refine ⟨Ext.refl _, ?_⟩; (exact refTail_any w' M hM))); (simp only [Act.put, List.setIfInBounds_toArray, List.set])
  (refine takeV 8 (v := ?_) (by simp only [List.getElem?_toArray, List.getElem?_cons, reduceIte]; rfl) (by kernel_rfl) (by rfl) (fun w' hw' => ?_) ?_; rotate_left; focus (skip; go_simp; first | done | with_reducible rfl)); (simp only [Act.put, List.setIfInBounds_toArray, List.set])
  (refine doneM (by kernel_rfl) ?_; intro w' hw'; show _)
  have hx := box2 (w := w) (Below.mono hw' (by simp))
  obtain ⟨k1, k2⟩ := five_cells hx.1
  obtain ⟨k3, k4⟩ := five_cells hx.2
  have y1 : Ext w w' := Ext.trans (((Ext.refl w).alloc _).alloc _) hw'
  have z := set5_blk hx.1 (.int .i64 0) (.int .i64 0) (.int .u64 0) (.int .u64 0) (.string ⟨#[]⟩)
  have y2 := Lib.hid (set5_ext y1 (Nat.le_refl _) (.int .i64 0) (.int .i64 0) (.int .u64 0) (.int .u64 0) (.string ⟨#[]⟩))
  replace z := Lib.hid (five_cells z).1
  clear hx hw' k4
  go_wp2
  obtain ⟨z0, z1, z2, z3, z4⟩ := z.out
  simp only [set5] at z0 z1 z2 z3 z4
  refine bodyPost_ret (v := .tuple #[frV Fr.zero, .int .i64 n, .int .i64 65]) (by simp [results, Tryd.results17, go_sem, frV, Fr.zero, z0, z1, z2, z3, z4]) rfl ⟨?_, y2.out⟩
  unfold getF
  rw [H1.out, H2.out]
  rfl
set_option maxRecDepth 100000 in
set_option maxHeartbeats 1600000 in
theorem refGet_fine (w : World) (s : ByteArray) (hs : s.size ≤ 281474976710656) (h : ¬ s.size < 27) (h0 : (bl s).getD 0 0 = 78) (h1 : (bl s).getD 1 0 = 1) (h2 : numN (((bl s).drop 21).take 2) = s.size - 27) (h3 : goodB s = true) (h4 : rightB (frOf s) = true) :
    Calls Tryd.prog 17 #[.string s] w (GetsR s w) := by
  have e1 : ¬ (s.size : Int) < 27 := by omega
  have H1 := Lib.hid (show whatN s = 0 by unfold whatN; rw [if_neg h, if_neg (by simpa using h0), if_neg (by simpa using h1), if_neg (by simpa using h2), if_neg (by rw [h3]; decide), if_neg (by rw [h4]; decide)])
  have H2 := Lib.hid (show whereN s = 0 by unfold whereN; rw [if_neg h, if_neg (by simpa using h0), if_neg (by simpa using h1), if_neg (by simpa using h2), if_neg (by rw [h3]; decide), if_neg (by rw [h4]; decide)])
  have l0 : 0 < s.size := by omega
  have l1 : 1 < s.size := by omega
  have b0 := bl_at s l0
  have b1 := bl_at s l1
  rw [h0] at b0
  rw [h1] at b1
  have e2 : (21 : Int) ≤ (s.size : Int) := by omega
  have e3 : (23 : Int) ≤ (s.size : Int) := by omega
  have cN := fun W => refNumber_any W (s.extract 21 23) (by rw [ByteArray.size_extract]; omega)
  rw [bl_extract] at cN
  obtain ⟨N, hN⟩ : ∃ N, N = numN (((bl s).drop 21).take 2) := ⟨_, rfl⟩
  rw [← hN] at cN h2
  replace cN := Lib.hid cN
  obtain ⟨n, hn⟩ : ∃ n, s.size = n + 4 := ⟨s.size - 4, by omega⟩
  have e4 : (s.size : Int) - 4 = (n : Int) := by omega
  have e6 : IntKind.u64.wrap ((n : Int) - 23) = (n : Int) - 23 := wrapU _ (by omega) (by omega)
  have c1 : ((N : Int) != (n : Int) - 23) = false := by rw [bne_eq_false_iff_eq]; omega
  have hn4 : s.size - 4 = n := by omega
  have hg : goodB s = decide (s.extract n s.size = textN (tailN (moreN 0 (bl (s.extract 0 n))))) := by
    unfold goodB last4 ahead
    rw [decide_eq_true (show 4 ≤ s.size by omega), Bool.true_and, hn4]
  have hM : moreN 0 (bl (s.extract 0 n)) < 4294967296 := moreN_lt (by decide) (bl_lt _)
  have cM := fun W => refMore_any W 0 (s.extract 0 n) (by decide) (by rw [ByteArray.size_extract]; omega)
  obtain ⟨M, hM2⟩ : ∃ M, M = moreN 0 (bl (s.extract 0 n)) := ⟨_, rfl⟩
  rw [← hM2] at hg hM cM
  replace cM := Lib.hid cM
  have e7 : ((s.extract n s.size).toList == (textN (tailN M)).toList) = true := by rw [tl_eq, ← hg, h3]
  have e8 : (0 : Int) ≤ (n : Int) := by omega
  have e9 : (n : Int) ≤ (s.size : Int) := by omega
  have l2 : 2 < s.size := by omega
  have b2 := bl_at s l2
  have cE := fun W => refNumber_any W (s.extract 3 5) (by rw [ByteArray.size_extract]; omega)
  have cQ := fun W => refNumber_any W (s.extract 5 13) (by rw [ByteArray.size_extract]; omega)
  have cA := fun W => refNumber_any W (s.extract 13 21) (by rw [ByteArray.size_extract]; omega)
  rw [bl_extract] at cE cQ cA
  have hE5 : numN (((bl s).drop 3).take (5 - 3)) < 65536 := by
    have h1 := numN_lt (l := ((bl s).drop 3).take (5 - 3)) (fun b hb => bl_lt s b (List.mem_of_mem_drop (List.mem_of_mem_take hb)))
    have h2 : (((bl s).drop 3).take (5 - 3)).length ≤ 2 := by rw [List.length_take]; omega
    have h3 : 256 ^ (((bl s).drop 3).take (5 - 3)).length ≤ 256 ^ 2 := Nat.pow_le_pow_right (by decide) h2
    omega
  have hfr : frOf s = ⟨((bl s).getD 2 0 : Nat), (numN (((bl s).drop 3).take (5 - 3)) : Nat), numN (((bl s).drop 5).take (13 - 5)), numN (((bl s).drop 13).take (21 - 13)), s.extract 23 n⟩ := by
    unfold frOf
    rw [hn4]
  obtain ⟨B2, hB2⟩ : ∃ B2, B2 = (bl s).getD 2 0 := ⟨_, rfl⟩
  obtain ⟨E, hE⟩ : ∃ E, E = numN (((bl s).drop 3).take (5 - 3)) := ⟨_, rfl⟩
  obtain ⟨q, hq⟩ : ∃ q, q = numN (((bl s).drop 5).take (13 - 5)) := ⟨_, rfl⟩
  obtain ⟨a, ha⟩ : ∃ a, a = numN (((bl s).drop 13).take (21 - 13)) := ⟨_, rfl⟩
  rw [← hB2] at b2 hfr
  rw [← hE] at cE hfr hE5
  rw [← hq] at cQ hfr
  rw [← ha] at cA hfr
  replace cE := Lib.hid cE
  replace cQ := Lib.hid cQ
  replace cA := Lib.hid cA
  have e10 : IntKind.i64.wrap (E : Int) = (E : Int) := wrapN _ (by omega) (by omega)
  have hB256 : B2 < 256 := by rw [← b2]; exact (s[2]'l2).toNat_lt
  have e11 : IntKind.i64.wrap (B2 : Int) = (B2 : Int) := wrapN _ (by omega) (by omega)
  have f0 : (2 : Int) < (s.size : Int) := by omega
  have f1 : (3 : Int) ≤ (s.size : Int) := by omega
  have f5 : (21 : Int) ≤ (s.size : Int) := by omega
  have f2 : (5 : Int) ≤ (s.size : Int) := by omega
  have f3 : (13 : Int) ≤ (s.size : Int) := by omega
  have f4 : (23 : Int) ≤ (n : Int) := by omega
  have cR := Lib.hid (fun W => refRight_any W (B2 : Int) (E : Int) q a (s.extract 23 n))
  rw [← hfr, h4] at cR
  replace hfr := Lib.hid hfr
  clear h hN h0 h1 h2 hg hM2 h3 h4 hB2 hE hq ha
  replace hn := Lib.hid hn
  clear hn4
  go_enter Tryd.func17, Tryd.ntmps17
  go_wp2_with (first
    | (go_at_call 30; refine (cN.out _).mono ?_; rintro e w2 ⟨rfl, rfl⟩))
  refine wp_region_M_lit (by kernel_rfl) ?_
  (refine takeV 0 (v := ?_) (by simp only [List.getElem?_toArray, List.getElem?_cons, reduceIte]; rfl) (by kernel_rfl) (by rfl) (fun w' hw' => ?_) ?_; rotate_left; focus (skip; go_simp; first | done | with_reducible rfl)); (simp only [Act.put, List.setIfInBounds_toArray, List.set])
  (refine takeV 1 (v := ?_) (by simp only [List.getElem?_toArray, List.getElem?_cons, reduceIte]; rfl) (by kernel_rfl) (by rfl) (fun w' hw' => ?_) ?_; rotate_left; focus (skip; go_simp; first | done | with_reducible rfl)); (simp only [Act.put, List.setIfInBounds_toArray, List.set])
  (refine takeV 2 (v := ?_) (by simp only [List.getElem?_toArray, List.getElem?_cons, reduceIte]; rfl) (by kernel_rfl) (by rfl) (fun w' hw' => ?_) ?_; rotate_left; focus (skip; go_simp; first | done | with_reducible rfl)); (simp only [Act.put, List.setIfInBounds_toArray, List.set])
  (refine takeV 3 (v := ?_) (by simp only [List.getElem?_toArray, List.getElem?_cons, reduceIte]; rfl) (by kernel_rfl) (by rfl) (fun w' hw' => ?_) ?_; rotate_left; focus (skip; go_simp; first | done | with_reducible rfl)); (simp only [Act.put, List.setIfInBounds_toArray, List.set])
  (refine takeV 4 (v := ?_) (by simp only [List.getElem?_toArray, List.getElem?_cons, reduceIte]; rfl) (by kernel_rfl) (by rfl) (fun w' hw' => ?_) ?_; rotate_left; focus (skip; go_simp; first | done | with_reducible rfl)); (simp only [Act.put, List.setIfInBounds_toArray, List.set])
  (refine takeV 5 (v := ?_) (by simp only [List.getElem?_toArray, List.getElem?_cons, reduceIte]; rfl) (by kernel_rfl) (by rfl) (fun w' hw' => ?_) ?_; rotate_left; focus (skip; go_simp; first | done | with_reducible rfl)); (simp only [Act.put, List.setIfInBounds_toArray, List.set])
  (refine takeG 6 (v := ?_) (by simp only [List.getElem?_toArray, List.getElem?_cons, reduceIte]; rfl) (by kernel_rfl) (by rfl) (fun w' hw' => ?_) ?_; rotate_left; focus (go_simp; refine ⟨Ext.refl _, ?_⟩; (have hq := gives_same (cM.out w'); exact hq))); (simp only [Act.put, List.setIfInBounds_toArray, List.set])
  (refine takeG 7 (v := ?_) (by simp only [List.getElem?_toArray, List.getElem?_cons, reduceIte]; rfl) (by kernel_rfl) (by rfl) (fun w' hw' => ?_) ?_; rotate_left; focus (go_simp; refine ⟨Ext.refl _, ?_⟩; (exact refTail_any w' M hM))); (simp only [Act.put, List.setIfInBounds_toArray, List.set])
  (refine takeV 8 (v := ?_) (by simp only [List.getElem?_toArray, List.getElem?_cons, reduceIte]; rfl) (by kernel_rfl) (by rfl) (fun w' hw' => ?_) ?_; rotate_left; focus (skip; go_simp; first | done | with_reducible rfl)); (simp only [Act.put, List.setIfInBounds_toArray, List.set])
  (refine doneM (by kernel_rfl) ?_; intro w' hw'; show _)
  have hx := box2 (w := w) (Below.mono hw' (by simp))
  obtain ⟨k1, k2⟩ := five_cells hx.1
  obtain ⟨k3, k4⟩ := five_cells hx.2
  have y1 : Ext w w' := Ext.trans (((Ext.refl w).alloc _).alloc _) hw'
  have H0 := Lib.hid hx
  have Y1 := Lib.hid y1
  clear hx hw' k4 y1
  go_wp2_with fail
  refine wp_region_M_lit (by kernel_rfl) ?_
  (refine takeV 0 (v := ?_) (by simp only [List.getElem?_toArray, List.getElem?_cons, reduceIte]; rfl) (by kernel_rfl) (by rfl) (fun w' hw' => ?_) ?_; rotate_left; focus (skip; go_simp; first | done | with_reducible rfl)); (simp only [Act.put, List.setIfInBounds_toArray, List.set])
  (refine takeV 1 (v := ?_) (by simp only [List.getElem?_toArray, List.getElem?_cons, reduceIte]; rfl) (by kernel_rfl) (by rfl) (fun w' hw' => ?_) ?_; rotate_left; focus (skip; go_simp; first | done | with_reducible rfl)); (simp only [Act.put, List.setIfInBounds_toArray, List.set])
  (refine takeV 2 (v := ?_) (by simp only [List.getElem?_toArray, List.getElem?_cons, reduceIte]; rfl) (by kernel_rfl) (by rfl) (fun w' hw' => ?_) ?_; rotate_left; focus (skip; go_simp; first | done | with_reducible rfl)); (simp only [Act.put, List.setIfInBounds_toArray, List.set])
  (refine takeV 3 (v := ?_) (by simp only [List.getElem?_toArray, List.getElem?_cons, reduceIte]; rfl) (by kernel_rfl) (by rfl) (fun w' hw' => ?_) ?_; rotate_left; focus (skip; go_simp; first | done | with_reducible rfl)); (simp only [Act.put, List.setIfInBounds_toArray, List.set])
  (refine takeV 4 (v := ?_) (by simp only [List.getElem?_toArray, List.getElem?_cons, reduceIte]; rfl) (by kernel_rfl) (by rfl) (fun w' hw' => ?_) ?_; rotate_left; focus (skip; go_simp; first | done | with_reducible rfl)); (simp only [Act.put, List.setIfInBounds_toArray, List.set])
  (refine takeG 5 (v := ?_) (by simp only [List.getElem?_toArray, List.getElem?_cons, reduceIte]; rfl) (by kernel_rfl) (by rfl) (fun w' hw' => ?_) ?_; rotate_left; focus (go_simp; refine ⟨Ext.refl _, ?_⟩; (have hq := gives_same (cE.out w'); exact hq))); (simp only [Act.put, List.setIfInBounds_toArray, List.set])
  (refine takeV 6 (v := ?_) (by simp only [List.getElem?_toArray, List.getElem?_cons, reduceIte]; rfl) (by kernel_rfl) (by rfl) (fun w' hw' => ?_) ?_; rotate_left; focus (skip; go_simp; first | done | with_reducible rfl)); (simp only [Act.put, List.setIfInBounds_toArray, List.set])
  (refine takeV 7 (v := ?_) (by simp only [List.getElem?_toArray, List.getElem?_cons, reduceIte]; rfl) (by kernel_rfl) (by rfl) (fun w' hw' => ?_) ?_; rotate_left; focus (skip; go_simp; first | done | with_reducible rfl)); (simp only [Act.put, List.setIfInBounds_toArray, List.set])
  (refine takeV 8 (v := ?_) (by simp only [List.getElem?_toArray, List.getElem?_cons, reduceIte]; rfl) (by kernel_rfl) (by rfl) (fun w' hw' => ?_) ?_; rotate_left; focus (skip; go_simp; first | done | with_reducible rfl)); (simp only [Act.put, List.setIfInBounds_toArray, List.set])
  (refine takeG 9 (v := ?_) (by simp only [List.getElem?_toArray, List.getElem?_cons, reduceIte]; rfl) (by kernel_rfl) (by rfl) (fun w' hw' => ?_) ?_; rotate_left; focus (go_simp; refine ⟨Ext.refl _, ?_⟩; (have hq := gives_same (cQ.out w'); exact hq))); (simp only [Act.put, List.setIfInBounds_toArray, List.set])
  (refine takeV 10 (v := ?_) (by simp only [List.getElem?_toArray, List.getElem?_cons, reduceIte]; rfl) (by kernel_rfl) (by rfl) (fun w' hw' => ?_) ?_; rotate_left; focus (skip; go_simp; first | done | with_reducible rfl)); (simp only [Act.put, List.setIfInBounds_toArray, List.set])
  (refine takeV 11 (v := ?_) (by simp only [List.getElem?_toArray, List.getElem?_cons, reduceIte]; rfl) (by kernel_rfl) (by rfl) (fun w' hw' => ?_) ?_; rotate_left; focus (skip; go_simp; first | done | with_reducible rfl)); (simp only [Act.put, List.setIfInBounds_toArray, List.set])
  (refine takeG 12 (v := ?_) (by simp only [List.getElem?_toArray, List.getElem?_cons, reduceIte]; rfl) (by kernel_rfl) (by rfl) (fun w' hw' => ?_) ?_; rotate_left; focus (go_simp; refine ⟨Ext.refl _, ?_⟩; (have hq := gives_same (cA.out w'); exact hq))); (simp only [Act.put, List.setIfInBounds_toArray, List.set])
  (refine takeV 13 (v := ?_) (by simp only [List.getElem?_toArray, List.getElem?_cons, reduceIte]; rfl) (by kernel_rfl) (by rfl) (fun w' hw' => ?_) ?_; rotate_left; focus (skip; go_simp; first | done | with_reducible rfl)); (simp only [Act.put, List.setIfInBounds_toArray, List.set])
  (refine takeV 14 (v := ?_) (by simp only [List.getElem?_toArray, List.getElem?_cons, reduceIte]; rfl) (by kernel_rfl) (by rfl) (fun w' hw' => ?_) ?_; rotate_left; focus (skip; go_simp; first | done | with_reducible rfl)); (simp only [Act.put, List.setIfInBounds_toArray, List.set])
  (refine takeV 15 (v := ?_) (by simp only [List.getElem?_toArray, List.getElem?_cons, reduceIte]; rfl) (by kernel_rfl) (by rfl) (fun w' hw' => ?_) ?_; rotate_left; focus (skip; go_simp; first | done | with_reducible rfl)); (simp only [Act.put, List.setIfInBounds_toArray, List.set])
  (refine takeV 16 (v := ?_) (by simp only [List.getElem?_toArray, List.getElem?_cons, reduceIte]; rfl) (by kernel_rfl) (by rfl) (fun w' hw' => ?_) ?_; rotate_left; focus (skip; go_simp; first | done | with_reducible rfl)); (simp only [Act.put, List.setIfInBounds_toArray, List.set])
  (refine runOne 17 (by simp only [List.getElem?_toArray, List.getElem?_cons, reduceIte]; rfl) (by kernel_rfl) (by kernel_rfl) (by rfl) ?_; intro w' hw'; go_simp; refine ⟨Ext.alloc (Ext.refl _) _, ?_⟩; try (simp only [Act.put, List.setIfInBounds_toArray, List.set]))
  have Y2 := Lib.hid (Ext.trans Y1.out hw')
  have H1b := Lib.hid (show w'.heap[w.heap.size]? = _ ∧ w'.heap[w.heap.size + 1]? = _ from ⟨(hw'.block _ (blk_lt H0.out.1)).trans H0.out.1, (hw'.block _ (blk_lt H0.out.2)).trans H0.out.2⟩)
  clear hw' k1 k2 k3
  obtain ⟨wA, hA⟩ : ∃ wA, wA = w' := ⟨_, rfl⟩
  rw [← hA] at Y2 H1b ⊢
  clear hA
  (refine runLate 18 (by simp only [List.getElem?_toArray, List.getElem?_cons, reduceIte]; rfl) (by kernel_rfl) (by kernel_rfl) (by rfl) ?_; intro w' hw'; obtain ⟨k5, k6⟩ := five_cells (late_blk hw'); go_simp; try (simp only [Act.put, List.setIfInBounds_toArray, List.set]))
  (refine lateDone (by kernel_rfl) ?_)
  have z := set5_blk (late_blk hw') (.int .i64 (B2 : Int)) (.int .i64 (E : Int)) (.int .u64 (q : Int)) (.int .u64 (a : Int)) (.string (s.extract 23 n))
  have gA : w.heap.size + 1 < wA.heap.size := blk_lt H1b.out.2
  have y3 : Ext w (set5 w' wA.heap.size (.int .i64 (B2 : Int)) (.int .i64 (E : Int)) (.int .u64 (q : Int)) (.int .u64 (a : Int)) (.string (s.extract 23 n))) :=
    set5_ext (Ext.trans (Y2.out.alloc _) hw') (Nat.le_of_lt (Nat.lt_of_succ_lt gA)) _ _ _ _ _
  have o1 : (set5 w' wA.heap.size (.int .i64 (B2 : Int)) (.int .i64 (E : Int)) (.int .u64 (q : Int)) (.int .u64 (a : Int)) (.string (s.extract 23 n))).heap[w.heap.size]? = some (.cells #[.int .i64 0, .int .i64 0, .int .u64 0, .int .u64 0, .string ⟨#[]⟩] 25 (0, 0)) := by
    rw [set5_other (Nat.ne_of_lt (Nat.lt_of_succ_lt gA)), hw'.block _ (by rw [size_alloc]; exact Nat.lt_succ_of_lt (Nat.lt_of_succ_lt gA)), get_alloc_old (Nat.lt_of_succ_lt gA)]
    exact H1b.out.1
  have o2 : (set5 w' wA.heap.size (.int .i64 (B2 : Int)) (.int .i64 (E : Int)) (.int .u64 (q : Int)) (.int .u64 (a : Int)) (.string (s.extract 23 n))).heap[w.heap.size + 1]? = some (.cells #[.int .i64 0, .int .i64 0, .int .u64 0, .int .u64 0, .string ⟨#[]⟩] 25 (0, 0)) := by
    rw [set5_other (Nat.ne_of_lt gA), hw'.block _ (by rw [size_alloc]; exact Nat.lt_succ_of_lt gA), get_alloc_old gA]
    exact H1b.out.2
  obtain ⟨W5, hW5⟩ : ∃ W5, W5 = set5 w' wA.heap.size (.int .i64 (B2 : Int)) (.int .i64 (E : Int)) (.int .u64 (q : Int)) (.int .u64 (a : Int)) (.string (s.extract 23 n)) := ⟨_, rfl⟩
  rw [← hW5] at z y3 o1 o2
  simp only [set5] at hW5
  rw [← hW5]
  clear hW5 hw' Y2 H1b k5 k6
  have Y4 := Lib.hid y3
  have O1 := Lib.hid o1
  have O2 := Lib.hid o2
  have Z := Lib.hid z
  clear y3 o1 o2 z
  obtain ⟨m0, m1, m2, m3, m4⟩ := (five_cells Z.out).1
  go_wp2_with (first
    | (go_at_call 12; refine (cR.out W5).mono ?_; rintro e w7 ⟨rfl, x7⟩; have Y7 := Lib.hid x7; have hj1 := (five_cells ((x7.block _ (blk_lt O1.out)).trans O1.out)); have hj3 := (five_cells ((x7.block _ (blk_lt O2.out)).trans O2.out)).1; obtain ⟨j1, j2⟩ := hj1; obtain ⟨m0', m1', m2', m3', m4'⟩ := (five_cells ((x7.block _ (blk_lt Z.out)).trans Z.out)).1; clear x7))
  have x8 := Y7.out
  have hb8 := (x8.block _ (blk_lt O1.out)).trans O1.out
  have z := set5_blk hb8 (.int .i64 (B2 : Int)) (.int .i64 (E : Int)) (.int .u64 (q : Int)) (.int .u64 (a : Int)) (.string (s.extract 23 n))
  have y5 := set5_ext (Ext.trans Y4.out x8) (Nat.le_refl _) (.int .i64 (B2 : Int)) (.int .i64 (E : Int)) (.int .u64 (q : Int)) (.int .u64 (a : Int)) (.string (s.extract 23 n))
  obtain ⟨z0, z1, z2, z3, z4⟩ := (five_cells z).1
  simp only [set5] at z0 z1 z2 z3 z4
  refine bodyPost_ret (v := .tuple #[.agg #[.int .i64 (B2 : Int), .int .i64 (E : Int), .int .u64 (q : Int), .int .u64 (a : Int), .string (s.extract 23 n)], .int .i64 0, .int .i64 0]) (by simp [results, Tryd.results17, go_sem, z0, z1, z2, z3, z4]) rfl ⟨?_, y5⟩
  unfold getF
  rw [if_pos H1.out, H1.out, H2.out, hfr.out]
  rfl
end Go.Proofs.YtkfabocnhkmneaaDoor
