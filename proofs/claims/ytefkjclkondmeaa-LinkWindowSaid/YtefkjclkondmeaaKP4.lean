/- The program's ends: the closure that puts a frame. -/
import Derived.Test.YtefkjclkondmeaaKP3
namespace Go.Proofs.Ytefkjclkondmeaa
open Go.RowKit

/-- five cells stored -/
def set5 (W : World) (g : Nat) (u0 u1 u2 u3 u4 : Value) : World := ((((W.setCell ⟨g, 0, none⟩ u0).setCell ⟨g, 1, none⟩ u1).setCell ⟨g, 2, none⟩ u2).setCell ⟨g, 3, none⟩ u3).setCell ⟨g, 4, none⟩ u4
theorem set5_blk {W : World} {g : Nat} {v0 v1 v2 v3 v4 : Value} {t : TypeId} (h : W.heap[g]? = some (.cells #[v0, v1, v2, v3, v4] t (0, 0))) (u0 u1 u2 u3 u4 : Value) : (set5 W g u0 u1 u2 u3 u4).heap[g]? = some (.cells #[u0, u1, u2, u3, u4] t (0, 0)) :=
  blk_set (blk_set (blk_set (blk_set (blk_set h 0 u0) 1 u1) 2 u2) 3 u3) 4 u4
theorem set5_ext {w W : World} {g : Nat} (x : Ext w W) (hg : w.heap.size ≤ g) (u0 u1 u2 u3 u4 : Value) : Ext w (set5 W g u0 u1 u2 u3 u4) :=
  below_set (below_set (below_set (below_set (below_set x hg _) hg _) hg _) hg _) hg _

/-- the closure's two boxes, the frames so far -/
structure Puts (W : World) (B g1 g2 p : Nat) (fo : Option Addr) (fn fc : Nat) (fs : List Fr) : Prop where
  bx : W.heap[g1]? = some (.cells #[.pointer (some ⟨p, 0, none⟩)] 24 (0, 0))
  bf : W.heap[g2]? = some (.cells #[.slice fo fn fc] 41 (0, 0))
  own : Ow W B (.slice fo fn fc) fs
  low : B ≤ W.heap.size
  l1 : g1 < B
  l2 : g2 < B
  ne : g1 ≠ g2
theorem Puts.ext {W W' : World} {B g1 g2 p : Nat} {fo : Option Addr} {fn fc : Nat} {fs : List Fr} (h : Puts W B g1 g2 p fo fn fc fs) (x : Ext W W') : Puts W' B g1 g2 p fo fn fc fs :=
  ⟨(x.block _ (blk_lt h.bx)).trans h.bx, (x.block _ (blk_lt h.bf)).trans h.bf, h.own.ext x, Nat.le_trans h.low x.size, h.l1, h.l2, h.ne⟩

set_option maxRecDepth 100000 in
set_option maxHeartbeats 3200000 in
theorem put_any {W : World} {p B g1 g2 : Nat} {S : EndS} {v : Value} {fo : Option Addr} {fn fc : Nat} {fs : List Fr} (h : W.heap[p]? = some (.cells (rCells S v) 67 (0, 0))) (hp : Puts W B g1 g2 p fo fn fc fs) (hl : fs.length ≤ 100) (k : Int) (q : Nat) (b : ByteArray) (hb : b.size ≤ 1000) :
    Calls Try.prog 29 #[.int .i64 k, .int .u64 (q : Int), .string b, .pointer (some ⟨g1, 0, none⟩), .pointer (some ⟨g2, 0, none⟩)] W fun e W' =>
      e = .returned (.tuple #[]) ∧ ∃ fo' fn' fc', Puts W' B g1 g2 p fo' fn' fc' (fs ++ [⟨k, S.e, q, S.want, b⟩]) ∧ Off (fun i => i = g2 ∨ B ≤ i) W W' := by
  have HCL := Lib.hid (fun W => clone_any W b (by omega))
  have HX := Lib.hid (fun W' (x : Ext W W') => And.intro ((x.block _ (blk_lt h)).trans h) (hp.ext x))
  have hlow := hp.low
  have hl1 := hp.l1
  have hl2 := hp.l2
  clear h hp
  obtain ⟨e, win, qn, wait, l, first, out, ever, want, owes, age⟩ := S
  dsimp only at HX ⊢
  have HC : Hid (∀ W', Ext W W' → (W'.cell? ⟨p, 0, none⟩ = some (.int .i64 e) ∧ W'.cell? ⟨p, 8, none⟩ = some (.int .u64 (want : Int))) ∧ W'.cell? ⟨g1, 0, none⟩ = some (.pointer (some ⟨p, 0, none⟩)) ∧ W'.cell? ⟨g2, 0, none⟩ = some (.slice fo fn fc) ∧ W'.frozen? ⟨g2, 0, none⟩ = false) := Lib.hid (fun W' x =>
    ⟨⟨blk_cell (HX.out W' x).1 0 rfl, blk_cell (HX.out W' x).1 8 rfl⟩, blk_cell (HX.out W' x).2.bx 0 rfl, blk_cell (HX.out W' x).2.bf 0 rfl, blk_free (HX.out W' x).2.bf 0⟩)
  go_enter Try.func29, Try.ntmps29
  go_wp2_with fail
  refine wp_region_M_lit (by kernel_rfl) ?_
  (refine takeV 0 (v := ?_) (by simp only [List.getElem?_toArray, List.getElem?_cons, reduceIte]; rfl) (by kernel_rfl) (by rfl) (fun w' hw' => ?_) ?_; rotate_left; focus (skip; go_simp; first | done | with_reducible rfl)); (simp only [Act.put, List.setIfInBounds_toArray, List.set])
  (refine takeV 1 (v := ?_) (by simp only [List.getElem?_toArray, List.getElem?_cons, reduceIte]; rfl) (by kernel_rfl) (by rfl) (fun w' hw' => ?_) ?_; rotate_left; focus (have hc := (HC.out w' hw').2.1; go_simp; first | done | with_reducible rfl)); (simp only [Act.put, List.setIfInBounds_toArray, List.set])
  (refine takeV 2 (v := ?_) (by simp only [List.getElem?_toArray, List.getElem?_cons, reduceIte]; rfl) (by kernel_rfl) (by rfl) (fun w' hw' => ?_) ?_; rotate_left; focus (skip; go_simp; first | done | with_reducible rfl)); (simp only [Act.put, List.setIfInBounds_toArray, List.set])
  (refine takeV 3 (v := ?_) (by simp only [List.getElem?_toArray, List.getElem?_cons, reduceIte]; rfl) (by kernel_rfl) (by rfl) (fun w' hw' => ?_) ?_; rotate_left; focus (skip; go_simp; first | done | with_reducible rfl)); (simp only [Act.put, List.setIfInBounds_toArray, List.set])
  (refine takeV 4 (v := ?_) (by simp only [List.getElem?_toArray, List.getElem?_cons, reduceIte]; rfl) (by kernel_rfl) (by rfl) (fun w' hw' => ?_) ?_; rotate_left; focus (have hc := (HC.out w' hw').1.1; go_simp; first | done | with_reducible rfl)); (simp only [Act.put, List.setIfInBounds_toArray, List.set])
  (refine takeV 5 (v := ?_) (by simp only [List.getElem?_toArray, List.getElem?_cons, reduceIte]; rfl) (by kernel_rfl) (by rfl) (fun w' hw' => ?_) ?_; rotate_left; focus (skip; go_simp; first | done | with_reducible rfl)); (simp only [Act.put, List.setIfInBounds_toArray, List.set])
  (refine takeV 6 (v := ?_) (by simp only [List.getElem?_toArray, List.getElem?_cons, reduceIte]; rfl) (by kernel_rfl) (by rfl) (fun w' hw' => ?_) ?_; rotate_left; focus (have hc := (HC.out w' hw').2.1; go_simp; first | done | with_reducible rfl)); (simp only [Act.put, List.setIfInBounds_toArray, List.set])
  (refine takeV 7 (v := ?_) (by simp only [List.getElem?_toArray, List.getElem?_cons, reduceIte]; rfl) (by kernel_rfl) (by rfl) (fun w' hw' => ?_) ?_; rotate_left; focus (skip; go_simp; first | done | with_reducible rfl)); (simp only [Act.put, List.setIfInBounds_toArray, List.set])
  (refine takeV 8 (v := ?_) (by simp only [List.getElem?_toArray, List.getElem?_cons, reduceIte]; rfl) (by kernel_rfl) (by rfl) (fun w' hw' => ?_) ?_; rotate_left; focus (skip; go_simp; first | done | with_reducible rfl)); (simp only [Act.put, List.setIfInBounds_toArray, List.set])
  (refine takeV 9 (v := ?_) (by simp only [List.getElem?_toArray, List.getElem?_cons, reduceIte]; rfl) (by kernel_rfl) (by rfl) (fun w' hw' => ?_) ?_; rotate_left; focus (have hc := (HC.out w' hw').1.2; go_simp; first | done | with_reducible rfl)); (simp only [Act.put, List.setIfInBounds_toArray, List.set])
  (refine takeV 10 (v := ?_) (by simp only [List.getElem?_toArray, List.getElem?_cons, reduceIte]; rfl) (by kernel_rfl) (by rfl) (fun w' hw' => ?_) ?_; rotate_left; focus (skip; go_simp; first | done | with_reducible rfl)); (simp only [Act.put, List.setIfInBounds_toArray, List.set])
  (refine takeG 11 (v := ?_) (by simp only [List.getElem?_toArray, List.getElem?_cons, reduceIte]; rfl) (by kernel_rfl) (by rfl) (fun w' hw' => ?_) ?_; rotate_left; focus (go_simp; refine ⟨Ext.refl _, ?_⟩; (exact HCL.out w'))); (simp only [Act.put, List.setIfInBounds_toArray, List.set])
  (refine takeV 12 (v := ?_) (by simp only [List.getElem?_toArray, List.getElem?_cons, reduceIte]; rfl) (by kernel_rfl) (by rfl) (fun w' hw' => ?_) ?_; rotate_left; focus (skip; go_simp; first | done | with_reducible rfl)); (simp only [Act.put, List.setIfInBounds_toArray, List.set])
  (refine runOne 13 (by simp only [List.getElem?_toArray, List.getElem?_cons, reduceIte]; rfl) (by kernel_rfl) (by kernel_rfl) (by rfl) ?_; intro w' hw'; go_simp; refine ⟨Ext.alloc (Ext.refl _) _, ?_⟩; try (simp only [Act.put, List.setIfInBounds_toArray, List.set]))
  have Y1 := Lib.hid hw'
  clear hw'
  obtain ⟨wA, hA⟩ : ∃ wA, wA = w' := ⟨_, rfl⟩
  rw [← hA] at Y1 ⊢
  clear hA
  (refine runLate 14 (by simp only [List.getElem?_toArray, List.getElem?_cons, reduceIte]; rfl) (by kernel_rfl) (by kernel_rfl) (by rfl) ?_; intro w' hw'; obtain ⟨k5, k6⟩ := cells5 (late_blk hw'); go_simp; try (simp only [Act.put, List.setIfInBounds_toArray, List.set]))
  (refine lateDone (by kernel_rfl) ?_)
  have z := set5_blk (late_blk hw') (.int .i64 k) (.int .i64 e) (.int .u64 (q : Int)) (.int .u64 (want : Int)) (.string b)
  have y5 : Ext W (set5 w' wA.heap.size (.int .i64 k) (.int .i64 e) (.int .u64 (q : Int)) (.int .u64 (want : Int)) (.string b)) := set5_ext (Ext.trans (Y1.out.alloc _) hw') Y1.out.size _ _ _ _ _
  obtain ⟨W5, hW5⟩ : ∃ W5, W5 = set5 w' wA.heap.size (.int .i64 k) (.int .i64 e) (.int .u64 (q : Int)) (.int .u64 (want : Int)) (.string b) := ⟨_, rfl⟩
  rw [← hW5] at z y5
  simp only [set5] at hW5
  rw [← hW5]
  obtain ⟨gb, hgb⟩ : ∃ gb, gb = wA.heap.size := ⟨_, rfl⟩
  rw [← hgb] at z ⊢
  have hp5 := (HX.out W5 y5).2
  obtain ⟨⟨m0, m1, m2, m3, m4⟩, _⟩ := cells5 z
  obtain ⟨_, _, c2, f2⟩ := HC.out W5 y5
  clear hW5 hw' k5 k6 Y1 hgb HC z
  have Y5 := Lib.hid y5
  have HP5 := Lib.hid hp5
  have hs5 := y5.size
  clear y5 hp5
  have HB6 := Lib.hid (HP5.out.ext ((Ext.refl W5).alloc (.cells #[.int .i64 k, .int .i64 e, .int .u64 (q : Int), .int .u64 (want : Int), .string b] 34)))
  go_wp2_with (first
    | (at_builtin; refine wpList_append_sl (α := Fr) rfl (.tmp 22) (.tmp 24) rfl B (.slice fo fn fc) fs rfl ?_ (.slice (some ⟨_, 0, none⟩) 1 1) [(⟨k, e, q, want, b⟩ : Fr)] rfl ?_ ?_ ?_ ?_; exact HB6.out.own; exact (Sl.litAt W5 _ rfl [(⟨k, e, q, want, b⟩ : Fr)] (show (1 : Nat) ≤ 1000000 by decide)); (first | omega | (simp; omega)); (rw [size_alloc]; omega); intro v2 W7 ho2 ha2; obtain ⟨a2, n2, c2', rfl⟩ := ho2.sh; have O2 := Lib.hid ho2; have A2 := Lib.hid ha2; have b1 := (ha2.below.block g1 hl1).trans HB6.out.bx; have b2 := (ha2.below.block g2 hl2).trans HB6.out.bf; have B1 := Lib.hid b1; have B2 := Lib.hid b2; have c7 := blk_cell b2 0 rfl; have f7 := blk_free b2 0; clear ho2 ha2 b1 b2))
  refine bodyPost_end (results_none rfl _ _ _) rfl ?_
  refine ⟨rfl, a2, n2, c2', ⟨?_, ?_, ?_, ?_, hl1, hl2, HP5.out.ne⟩, ?_⟩
  · exact (set_other _ _ _ _ HP5.out.ne).trans B1.out
  · exact blk_set B2.out 0 _
  · exact O2.out.set hl2 _
  · rw [set_size]; exact Nat.le_trans HB6.out.low A2.out.below.size
  · have hb7 : Below B W W7 := Below.trans (Y5.out.mono hlow) (Below.trans ((Below.refl B W5).alloc HP5.out.low _) A2.out.below)
    refine ((Off.of_below hb7).mono fun i hi => .inr hi).trans ((off_set W7 ⟨g2, 0, none⟩ _).mono fun i hi => .inl hi) (Grows.refl _ _)
end Go.Proofs.Ytefkjclkondmeaa
