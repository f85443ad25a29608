/- Links: the document's ends; New, Tick, Send. -/
import Derived.Test.YtefkjclkondmeaaK1
import Derived.Test.YtefkjclkondmeaaRegX
namespace Go.Proofs.Ytefkjclkondmeaa
open Go.RowKit

/-- the document's end: its cells -/
def rCells (S : EndS) (lv : Value) : Array Value := #[.int .i64 S.e, .int .i64 (S.win : Int), .int .i64 (S.qn : Int), .int .i64 (S.wait : Int), lv, .int .u64 (S.first : Int), .int .i64 (S.out : Int), .int .i64 (S.ever : Int), .int .u64 (S.want : Int), .bool S.owes, .int .i64 (S.age : Int)]
/-- the document's end, apart from F -/
def REnd (F : Nat → Prop) (w : World) (v : Value) (S : EndS) : Prop := ∃ ao n c, v = .agg (rCells S (.slice ao n c)) ∧ Sa F w (.slice ao n c) S.l
theorem REnd.ext {F : Nat → Prop} {w w' : World} {v : Value} {S : EndS} (h : REnd F w v S) (e : Ext w w') : REnd F w' v S := by
  obtain ⟨ao, n, c, h1, h2⟩ := h
  exact ⟨ao, n, c, h1, h2.ext e⟩
theorem REnd.off {F G : Nat → Prop} {w w' : World} {v : Value} {S : EndS} (h : REnd F w v S) (o : Off F w w') (g : Grows F G w) : REnd G w' v S := by
  obtain ⟨ao, n, c, h1, h2⟩ := h
  exact ⟨ao, n, c, h1, h2.off o g⟩
theorem REnd.wide {F G : Nat → Prop} {w : World} {v : Value} {S : EndS} (h : REnd F w v S) (hG : ∀ k, k < w.heap.size → G k → F k) : REnd G w v S := by
  obtain ⟨ao, n, c, h1, h2⟩ := h
  exact ⟨ao, n, c, h1, h2.wide hG⟩

theorem cells11 {W : World} {g : Nat} {v0 v1 v2 v3 v4 v5 v6 v7 v8 v9 v10 : Value} {t : TypeId} (h : W.heap[g]? = some (.cells #[v0, v1, v2, v3, v4, v5, v6, v7, v8, v9, v10] t (0, 0))) :
    (W.cell? ⟨g, 0, none⟩ = some v0 ∧ W.cell? ⟨g, 1, none⟩ = some v1 ∧ W.cell? ⟨g, 2, none⟩ = some v2 ∧ W.cell? ⟨g, 3, none⟩ = some v3 ∧ W.cell? ⟨g, 4, none⟩ = some v4 ∧ W.cell? ⟨g, 5, none⟩ = some v5 ∧
      W.cell? ⟨g, 6, none⟩ = some v6 ∧ W.cell? ⟨g, 7, none⟩ = some v7 ∧ W.cell? ⟨g, 8, none⟩ = some v8 ∧ W.cell? ⟨g, 9, none⟩ = some v9 ∧ W.cell? ⟨g, 10, none⟩ = some v10) ∧
    (W.frozen? ⟨g, 0, none⟩ = false ∧ W.frozen? ⟨g, 1, none⟩ = false ∧ W.frozen? ⟨g, 2, none⟩ = false ∧ W.frozen? ⟨g, 3, none⟩ = false ∧ W.frozen? ⟨g, 4, none⟩ = false ∧ W.frozen? ⟨g, 5, none⟩ = false ∧
      W.frozen? ⟨g, 6, none⟩ = false ∧ W.frozen? ⟨g, 7, none⟩ = false ∧ W.frozen? ⟨g, 8, none⟩ = false ∧ W.frozen? ⟨g, 9, none⟩ = false ∧ W.frozen? ⟨g, 10, none⟩ = false) :=
  ⟨⟨blk_cell h 0 rfl, blk_cell h 1 rfl, blk_cell h 2 rfl, blk_cell h 3 rfl, blk_cell h 4 rfl, blk_cell h 5 rfl, blk_cell h 6 rfl, blk_cell h 7 rfl, blk_cell h 8 rfl, blk_cell h 9 rfl, blk_cell h 10 rfl⟩,
   blk_free h 0, blk_free h 1, blk_free h 2, blk_free h 3, blk_free h 4, blk_free h 5, blk_free h 6, blk_free h 7, blk_free h 8, blk_free h 9, blk_free h 10⟩

theorem rend_new (F : Nat → Prop) (w : World) (e : Int) (first : Nat) (win qn wait : Int) : REnd F w (.agg #[.int .i64 e, .int .i64 (min (max win 1) 8), .int .i64 (min (max qn 0) 64), .int .i64 (min (max wait 1) 100), .slice none 0 0, .int .u64 (first : Int), .int .i64 0, .int .i64 0, .int .u64 (first : Int), .bool false, .int .i64 0]) (EndS.new e first win qn wait) := by
  refine ⟨none, 0, 0, ?_, Sa.nil F w⟩
  unfold rCells EndS.new
  dsimp only
  rw [Int.toNat_of_nonneg (by omega), Int.toNat_of_nonneg (by omega), Int.toNat_of_nonneg (by omega)]
  rfl

set_option maxHeartbeats 1600000 in
theorem refNew_any (F : Nat → Prop) (w : World) (e : Int) (first : Nat) (win qn wait : Int) :
    Calls Try.prog 12 #[.int .i64 e, .int .u64 (first : Int), .int .i64 win, .int .i64 qn, .int .i64 wait] w fun ev w' => ∃ v, ev = .returned v ∧ REnd F w' v (EndS.new e first win qn wait) ∧ Ext w w' := by
  go_enter Try.func12, Try.ntmps12
  go_wp2_with fail
  all_goals refine bodyPost_ret (v := .agg #[.int .i64 e, .int .i64 (min (max win 1) 8), .int .i64 (min (max qn 0) 64), .int .i64 (min (max wait 1) 100), .slice none 0 0, .int .u64 (first : Int), .int .i64 0, .int .i64 0, .int .u64 (first : Int), .bool false, .int .i64 0]) ?_ rfl ⟨_, rfl, rend_new F _ e first win qn wait, (by repeat (first | exact Ext.refl _ | assumption | refine Ext.alloc ?_ _ | refine Ext.drew ?_ | refine Ext.drewN ?_ _))⟩
  all_goals simp [results, Try.results12, go_sem]
  all_goals omega

set_option maxHeartbeats 1600000 in
theorem refTick_any (F : Nat → Prop) (w : World) (v : Value) (S : EndS) (ok : S.Ok) (h : REnd F w v S) :
    Calls Try.prog 19 #[v] w fun ev w' => ∃ v', ev = .returned v' ∧ REnd F w' v' S.tick ∧ Ext w w' := by
  obtain ⟨ao, n, c, rfl, hs⟩ := h
  have HS := Lib.hid hs
  have h1 := ok.age
  have h2 := ok.wait100
  clear hs ok
  obtain ⟨e, win, qn, wait, l, first, out, ever, want, owes, age⟩ := S
  unfold EndS.tick rCells
  dsimp only at h1 h2 HS ⊢
  have e1 : IntKind.i64.wrap ((age : Int) + 1) = (age : Int) + 1 := wrapN _ (by omega) (by omega)
  by_cases h0 : out = 0
  · subst h0
    rw [if_pos rfl]
    go_enter Try.func19, Try.ntmps19
    go_wp2
    refine bodyPost_ret (v := .agg #[.int .i64 e, .int .i64 (win : Int), .int .i64 (qn : Int), .int .i64 (wait : Int), .slice ao n c, .int .u64 (first : Int), .int .i64 0, .int .i64 (ever : Int), .int .u64 (want : Int), .bool owes, .int .i64 (age : Int)]) (by simp [results, Try.results19, go_sem]) rfl ⟨_, rfl, ⟨ao, n, c, rfl, ?_⟩, (by first | (repeat (first | exact Ext.refl _ | assumption | refine Ext.alloc ?_ _ | refine Ext.drew ?_ | refine below_set ?_ (by simp) _)))⟩
    exact HS.out.ext (by first | (repeat (first | exact Ext.refl _ | assumption | refine Ext.alloc ?_ _ | refine Ext.drew ?_ | refine below_set ?_ (by simp) _)))
  · rw [if_neg h0]
    have t0 : (0 : Int) < (out : Int) := by omega
    by_cases h9 : age + 1 = wait
    · rw [if_pos h9]
      have t1 : ((age : Int) + 1 == (wait : Int)) = true := beq_iff_eq.2 (by omega)
      clear h0 h9 h1 h2
      go_enter Try.func19, Try.ntmps19
      go_wp2
      refine bodyPost_ret (v := .agg #[.int .i64 e, .int .i64 (win : Int), .int .i64 (qn : Int), .int .i64 (wait : Int), .slice ao n c, .int .u64 (first : Int), .int .i64 0, .int .i64 (ever : Int), .int .u64 (want : Int), .bool owes, .int .i64 0]) (by simp [results, Try.results19, go_sem]) rfl ⟨_, rfl, ⟨ao, n, c, rfl, ?_⟩, (by first | (repeat (first | exact Ext.refl _ | assumption | refine Ext.alloc ?_ _ | refine Ext.drew ?_ | refine below_set ?_ (by simp) _)))⟩
      exact HS.out.ext (by first | (repeat (first | exact Ext.refl _ | assumption | refine Ext.alloc ?_ _ | refine Ext.drew ?_ | refine below_set ?_ (by simp) _)))
    · rw [if_neg h9]
      have t1 : ((age : Int) + 1 == (wait : Int)) = false := beq_eq_false_iff_ne.2 (by omega)
      clear h0 h9 h1 h2
      go_enter Try.func19, Try.ntmps19
      go_wp2
      refine bodyPost_ret (v := .agg #[.int .i64 e, .int .i64 (win : Int), .int .i64 (qn : Int), .int .i64 (wait : Int), .slice ao n c, .int .u64 (first : Int), .int .i64 (out : Int), .int .i64 (ever : Int), .int .u64 (want : Int), .bool owes, .int .i64 (((age + 1 : Nat)) : Int)]) (by simp [results, Try.results19, go_sem]) rfl ⟨_, rfl, ⟨ao, n, c, rfl, ?_⟩, (by first | (repeat (first | exact Ext.refl _ | assumption | refine Ext.alloc ?_ _ | refine Ext.drew ?_ | refine below_set ?_ (by simp) _)))⟩
      exact HS.out.ext (by first | (repeat (first | exact Ext.refl _ | assumption | refine Ext.alloc ?_ _ | refine Ext.drew ?_ | refine below_set ?_ (by simp) _)))
end Go.Proofs.Ytefkjclkondmeaa
