/- Links: the document's Send. -/
import Derived.Test.YtefkjclkondmeaaK2
namespace Go.Proofs.Ytefkjclkondmeaa
open Go.RowKit

def zCells : Array Value := #[.int .i64 0, .int .i64 0, .int .i64 0, .int .i64 0, .slice none 0 0, .int .u64 0, .int .i64 0, .int .i64 0, .int .u64 0, .bool false, .int .i64 0]
/-- eleven cells stored -/
def set11 (W : World) (g : Nat) (u0 u1 u2 u3 u4 u5 u6 u7 u8 u9 u10 : Value) : World :=
  ((((((((((W.setCell ⟨g, 0, none⟩ u0).setCell ⟨g, 1, none⟩ u1).setCell ⟨g, 2, none⟩ u2).setCell ⟨g, 3, none⟩ u3).setCell ⟨g, 4, none⟩ u4).setCell ⟨g, 5, none⟩ u5).setCell ⟨g, 6, none⟩ u6).setCell ⟨g, 7, none⟩ u7).setCell ⟨g, 8, none⟩ u8).setCell ⟨g, 9, none⟩ u9).setCell ⟨g, 10, none⟩ u10
theorem set11_blk {W : World} {g : Nat} {v0 v1 v2 v3 v4 v5 v6 v7 v8 v9 v10 : Value} {t : TypeId} (h : W.heap[g]? = some (.cells #[v0, v1, v2, v3, v4, v5, v6, v7, v8, v9, v10] t (0, 0))) (u0 u1 u2 u3 u4 u5 u6 u7 u8 u9 u10 : Value) :
    (set11 W g u0 u1 u2 u3 u4 u5 u6 u7 u8 u9 u10).heap[g]? = some (.cells #[u0, u1, u2, u3, u4, u5, u6, u7, u8, u9, u10] t (0, 0)) := by
  have h2 := blk_set (blk_set (blk_set (blk_set (blk_set (blk_set (blk_set (blk_set (blk_set (blk_set (blk_set h 0 u0) 1 u1) 2 u2) 3 u3) 4 u4) 5 u5) 6 u6) 7 u7) 8 u8) 9 u9) 10 u10
  simpa [set11] using h2
theorem set11_below {B : Nat} {w W : World} {g : Nat} (x : Below B w W) (hg : B ≤ g) (u0 u1 u2 u3 u4 u5 u6 u7 u8 u9 u10 : Value) : Below B w (set11 W g u0 u1 u2 u3 u4 u5 u6 u7 u8 u9 u10) :=
  below_set (below_set (below_set (below_set (below_set (below_set (below_set (below_set (below_set (below_set (below_set x hg _) hg _) hg _) hg _) hg _) hg _) hg _) hg _) hg _) hg _) hg _

theorem Ow.set11 {α : Type} [Elem α] {W : World} {B g : Nat} {v : Value} {xs : List α} (h : Ow W B v xs) (hg : g < B) (u0 u1 u2 u3 u4 u5 u6 u7 u8 u9 u10 : Value) : Ow (set11 W g u0 u1 u2 u3 u4 u5 u6 u7 u8 u9 u10) B v xs :=
  (((((((((((h.set (d := ⟨g, 0, none⟩) hg u0).set (d := ⟨g, 1, none⟩) hg u1).set (d := ⟨g, 2, none⟩) hg u2).set (d := ⟨g, 3, none⟩) hg u3).set (d := ⟨g, 4, none⟩) hg u4).set (d := ⟨g, 5, none⟩) hg u5).set (d := ⟨g, 6, none⟩) hg u6).set (d := ⟨g, 7, none⟩) hg u7).set (d := ⟨g, 8, none⟩) hg u8).set (d := ⟨g, 9, none⟩) hg u9).set (d := ⟨g, 10, none⟩) hg u10)

set_option maxHeartbeats 1600000 in
theorem refSend_any (F : Nat → Prop) (w : World) (hF : ∀ k, F k → k < w.heap.size) (v : Value) (S : EndS) (ok : S.Ok) (h : REnd F w v S) (b : ByteArray) :
    Calls Try.prog 14 #[v, .string b] w fun ev w' => ∃ v', ev = .returned (.tuple #[v', .int .i64 (S.sendE b : Nat)]) ∧ REnd F w' v' (S.send b) ∧ Ext w w' := by
  obtain ⟨ao, n, c, rfl, hs⟩ := h
  obtain ⟨ao', c', hv⟩ := hs.1.len
  simp only [Value.slice.injEq] at hv
  obtain ⟨rfl, rfl, rfl⟩ := hv
  have HS := Lib.hid hs
  have h1 := ok.len
  have h2 := ok.qn
  clear hs ok
  obtain ⟨e, win, qn, wait, l, first, out, ever, want, owes, age⟩ := S
  unfold EndS.send rCells
  dsimp only at h1 h2 HS ⊢
  by_cases h64 : 64 < b.size
  · rw [show EndS.sendE ⟨e, win, qn, wait, l, first, out, ever, want, owes, age⟩ b = 90 from if_pos h64, if_neg (by decide)]
    have t1 : (64 : Int) < (b.size : Int) := by omega
    clear h64 h1 h2
    go_enter Try.func14, Try.ntmps14
    go_wp2
    refine bodyPost_ret (v := .tuple #[.agg #[.int .i64 e, .int .i64 (win : Int), .int .i64 (qn : Int), .int .i64 (wait : Int), .slice ao l.length c, .int .u64 (first : Int), .int .i64 (out : Int), .int .i64 (ever : Int), .int .u64 (want : Int), .bool owes, .int .i64 (age : Int)], .int .i64 90]) (by simp [results, Try.results14, go_sem]) rfl ⟨_, rfl, ⟨ao, _, c, rfl, ?_⟩, (by first | (repeat (first | exact Ext.refl _ | assumption | refine Ext.alloc ?_ _ | refine Ext.drew ?_ | refine below_set ?_ (by simp) _)))⟩
    exact HS.out.ext (by first | (repeat (first | exact Ext.refl _ | assumption | refine Ext.alloc ?_ _ | refine Ext.drew ?_ | refine below_set ?_ (by simp) _)))
  · have t1 : ¬ (64 : Int) < (b.size : Int) := by omega
    by_cases hf : qn ≤ l.length
    · rw [show EndS.sendE ⟨e, win, qn, wait, l, first, out, ever, want, owes, age⟩ b = 91 from (if_neg h64).trans (if_pos hf), if_neg (by decide)]
      have t2 : (qn : Int) ≤ (l.length : Int) := by omega
      clear h64 h1 h2 hf
      go_enter Try.func14, Try.ntmps14
      go_wp2
      refine bodyPost_ret (v := .tuple #[.agg #[.int .i64 e, .int .i64 (win : Int), .int .i64 (qn : Int), .int .i64 (wait : Int), .slice ao l.length c, .int .u64 (first : Int), .int .i64 (out : Int), .int .i64 (ever : Int), .int .u64 (want : Int), .bool owes, .int .i64 (age : Int)], .int .i64 91]) (by simp [results, Try.results14, go_sem]) rfl ⟨_, rfl, ⟨ao, _, c, rfl, ?_⟩, (by first | (repeat (first | exact Ext.refl _ | assumption | refine Ext.alloc ?_ _ | refine Ext.drew ?_ | refine below_set ?_ (by simp) _)))⟩
      exact HS.out.ext (by first | (repeat (first | exact Ext.refl _ | assumption | refine Ext.alloc ?_ _ | refine Ext.drew ?_ | refine below_set ?_ (by simp) _)))
    · rw [show EndS.sendE ⟨e, win, qn, wait, l, first, out, ever, want, owes, age⟩ b = 0 from (if_neg h64).trans (if_neg hf), if_pos rfl]
      have t2 : ¬ (qn : Int) ≤ (l.length : Int) := by omega
      have hz : l.length ≤ 64 := by omega
      have HF := Lib.hid hF
      clear h64 h1 h2 hf hF
      have HB : Hid (∀ W, Below (w.heap.size + 2) ((w.alloc (.cells #[.int .i64 e, .int .i64 (win : Int), .int .i64 (qn : Int), .int .i64 (wait : Int), .slice ao l.length c, .int .u64 (first : Int), .int .i64 (out : Int), .int .i64 (ever : Int), .int .u64 (want : Int), .bool owes, .int .i64 (age : Int)] 30)).alloc (.cells #[.int .i64 0, .int .i64 0, .int .i64 0, .int .i64 0, .slice none 0 0, .int .u64 0, .int .i64 0, .int .i64 0, .int .u64 0, .bool false, .int .i64 0] 30)) W → W.heap[w.heap.size]? = some (.cells #[.int .i64 e, .int .i64 (win : Int), .int .i64 (qn : Int), .int .i64 (wait : Int), .slice ao l.length c, .int .u64 (first : Int), .int .i64 (out : Int), .int .i64 (ever : Int), .int .u64 (want : Int), .bool owes, .int .i64 (age : Int)] 30 (0, 0)) ∧ W.heap[w.heap.size + 1]? = some (.cells #[.int .i64 0, .int .i64 0, .int .i64 0, .int .i64 0, .slice none 0 0, .int .u64 0, .int .i64 0, .int .i64 0, .int .u64 0, .bool false, .int .i64 0] 30 (0, 0))) := Lib.hid (fun W x => box2 x)
      go_enter Try.func14, Try.ntmps14
      go_wp2_with (first
        | (at_builtin; refine wpList_append_sl (α := ByteArray) rfl (.tmp 20) (.tmp 22) rfl (w.heap.size + 2) _ l rfl ?_ (.slice (some ⟨_, 0, none⟩) 1 1) [b] rfl ?_ ?_ ?_ ?_; exact (O1.out.alloc _); exact (Sl.litAt W1 _ rfl [b] (show (1 : Nat) ≤ 1000000 by decide)); (first | omega | (simp; omega)); (rw [size_alloc]; omega); intro v2 W2 ho2 ha2; have O2 := Lib.hid ho2; have y2 : Below (w.heap.size + 2) _ W2 := Below.trans (Below.alloc Y1.out hy1 _) ha2.below; have Y2 := Lib.hid y2; have B2 := Lib.hid (HB.out _ y2); obtain ⟨p1, p2⟩ := cells11 B2.out.1; obtain ⟨p3, p4⟩ := cells11 B2.out.2; obtain ⟨a2, n2, c2, rfl⟩ := ho2.sh; clear ho2 ha2 y2)
        | (at_builtin; refine wpList_append_sl (α := ByteArray) rfl (.tmp 17) (.tmp 19) rfl (w.heap.size + 2) _ ([] : List ByteArray) rfl ?_ (.slice ao l.length c) l rfl ?_ ?_ ?_ ?_; exact (Ow.litAt _ _ _ (by rw [size_alloc, size_alloc]) (by rw [size_alloc, size_alloc]; exact Nat.le_refl _) ([] : List ByteArray) (by decide)); exact (HS.out.1.ext (Ext.alloc (Ext.alloc (Ext.alloc (Ext.refl _) _) _) _)); (first | omega | (simp; omega)); (rw [size_alloc, size_alloc, size_alloc]; omega); intro v1 W1 ho1 ha1; rw [List.nil_append] at ho1; have O1 := Lib.hid ho1; have y1 : Below (w.heap.size + 2) _ W1 := Below.trans (Below.alloc (Below.refl _ _) (by rw [size_alloc, size_alloc]; exact Nat.le_refl _) _) ha1.below; have Y1 := Lib.hid y1; have hy1 : w.heap.size + 2 ≤ W1.heap.size := (by have := y1.size; rw [size_alloc, size_alloc] at this; exact this); obtain ⟨q1, q2⟩ := cells11 (HB.out _ y1).1; obtain ⟨a1, n1, c1, rfl⟩ := ho1.sh; clear ho1 ha1 y1))
      have z := set11_blk ((set_other W2 ⟨w.heap.size, 4, none⟩ (.slice a2 n2 c2) (w.heap.size + 1) (by show w.heap.size + 1 ≠ w.heap.size; omega)).trans B2.out.2) (.int .i64 e) (.int .i64 (win : Int)) (.int .i64 (qn : Int)) (.int .i64 (wait : Int)) (.slice a2 n2 c2) (.int .u64 (first : Int)) (.int .i64 (out : Int)) (.int .i64 (ever : Int)) (.int .u64 (want : Int)) (.bool owes) (.int .i64 (age : Int))
      have y5 := set11_below (g := w.heap.size + 1) (below_set (d := ⟨w.heap.size, 4, none⟩) (Below.trans (((Ext.refl w).alloc _).alloc _) (Y2.out.mono (by omega))) (Nat.le_refl _) (.slice a2 n2 c2)) (by omega) (.int .i64 e) (.int .i64 (win : Int)) (.int .i64 (qn : Int)) (.int .i64 (wait : Int)) (.slice a2 n2 c2) (.int .u64 (first : Int)) (.int .i64 (out : Int)) (.int .i64 (ever : Int)) (.int .u64 (want : Int)) (.bool owes) (.int .i64 (age : Int))
      have o5 := (O2.out.set (d := ⟨w.heap.size, 4, none⟩) (by show w.heap.size < _; omega) (.slice a2 n2 c2)).set11 (g := w.heap.size + 1) (by omega) (.int .i64 e) (.int .i64 (win : Int)) (.int .i64 (qn : Int)) (.int .i64 (wait : Int)) (.slice a2 n2 c2) (.int .u64 (first : Int)) (.int .i64 (out : Int)) (.int .i64 (ever : Int)) (.int .u64 (want : Int)) (.bool owes) (.int .i64 (age : Int))
      obtain ⟨z0, z1, z2, z3, z4, z5, z6, z7, z8, z9, z10⟩ := (cells11 z).1
      simp only [set11] at z0 z1 z2 z3 z4 z5 z6 z7 z8 z9 z10
      refine bodyPost_ret (v := .tuple #[.agg #[.int .i64 e, .int .i64 (win : Int), .int .i64 (qn : Int), .int .i64 (wait : Int), .slice a2 n2 c2, .int .u64 (first : Int), .int .i64 (out : Int), .int .i64 (ever : Int), .int .u64 (want : Int), .bool owes, .int .i64 (age : Int)], .int .i64 0]) (by simp [results, Try.results14, go_sem, z0, z1, z2, z3, z4, z5, z6, z7, z8, z9, z10]) rfl ⟨_, rfl, ⟨a2, n2, c2, rfl, ?_⟩, y5⟩
      exact Sa.new o5 (fun k hk => by have := HF.out k hk; omega)
end Go.Proofs.Ytefkjclkondmeaa
