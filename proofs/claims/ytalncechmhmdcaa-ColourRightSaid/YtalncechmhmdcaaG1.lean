/- Edges: their order, what is told of them, whether a graph may be. -/
import Derived.Test.YtalncechmhmdcaaElem3
import Derived.Deep.RegionLaw
import Derived.Deep.RegionWith
import Derived.Deep.RegionHeld3
import Derived.IntWalk
namespace Go.Proofs.Ytalncechmhmdcaa
open Go.RowKit

theorem compare_any (w : World) (a b : Int) : Calls Try.prog 53 #[.int .i64 a, .int .i64 b] w fun e w' => e = .returned (.int .i64 (cmpI a b)) ∧ w' = w := by
  rcases Int.lt_trichotomy a b with h | h | h
  · have e : cmpI a b = -1 := by unfold cmpI; rw [if_pos h]
    have E := Lib.hid e
    clear e
    go_enter Try.func53, Try.ntmps53
    go_wp2
    go_ret
    exact ⟨by rw [E.out]; rfl, rfl⟩
  · have e : cmpI a b = 0 := by unfold cmpI; rw [if_neg (by omega), if_neg (by omega)]
    have h1 : ¬ a < b := by omega
    have h2 : ¬ b < a := by omega
    have E := Lib.hid e
    clear e h
    go_enter Try.func53, Try.ntmps53
    go_wp2
    go_ret
    exact ⟨by rw [E.out]; rfl, rfl⟩
  · have e : cmpI a b = 1 := by unfold cmpI; rw [if_neg (by omega), if_pos h]
    have h1 : ¬ a < b := by omega
    have E := Lib.hid e
    clear e
    go_enter Try.func53, Try.ntmps53
    go_wp2
    go_ret
    exact ⟨by rw [E.out]; rfl, rfl⟩

theorem or_any (w : World) (v : Value) (a b : Int) (h : Sl w v [a, b]) :
    Calls Try.prog 52 #[v] w fun e w' => e = .returned (.int .i64 (if a ≠ 0 then a else b)) ∧ w' = w := by
  rcases h.ints with ⟨h, _⟩ | ⟨B, off, c, rfl, hc, hc63, hB, _, hcell⟩
  · simp at h
  have h0 : w.cell? ⟨B, off, none⟩ = some (.int .i64 a) := hcell 0 (by simp)
  have h1 : w.cell? ⟨B, off + 1, none⟩ = some (.int .i64 b) := hcell 1 (by simp)
  have hl : ([a, b] : List Int).length = 2 := rfl
  rw [hl]
  clear hcell h hl hc
  by_cases ha : a = 0
  · by_cases hb : b = 0
    · subst ha hb
      go_enter Try.func52, Try.ntmps52
      go_wp2
      refine wp_loop_rounds 3 ?_
      rw [rounds_succ]; go_wp2
      rw [rounds_succ]; go_wp2
      rw [rounds_succ]; go_wp2
      go_ret
      exact ⟨rfl, rfl⟩
    · subst ha
      have hb' : (b != 0) = true := by simp [hb]
      have e : (if (0 : Int) ≠ 0 then (0 : Int) else b) = b := by simp
      rw [e]
      clear e
      have HB := Lib.hid hb
      clear hb
      go_enter Try.func52, Try.ntmps52
      go_wp2
      refine wp_loop_rounds 3 ?_
      rw [rounds_succ]; go_wp2
      rw [rounds_succ]; go_wp2
      go_ret
      exact ⟨rfl, rfl⟩
  · have ha' : (a != 0) = true := by simp [ha]
    have e : (if a ≠ 0 then a else b) = a := by simp [ha]
    rw [e]
    clear e ha
    go_enter Try.func52, Try.ntmps52
    go_wp2
    refine wp_loop_rounds 3 ?_
    rw [rounds_succ]; go_wp2
    go_ret
    exact ⟨rfl, rfl⟩

theorem or_val (w : World) (v : Value) (a b r : Int) (h : Sl w v [a, b]) (hr : (if a ≠ 0 then a else b) = r) :
    Calls Try.prog 52 #[v] w fun e w' => e = .returned (.int .i64 r) ∧ w' = w := hr ▸ or_any w v a b h

theorem ord_def (xa xb ya yb : Int) : (if cmpI xa ya ≠ 0 then cmpI xa ya else cmpI xb yb) = ord ⟨xa, xb⟩ ⟨ya, yb⟩ := by unfold ord; rfl

/-- Two edges, laid in two blocks: each cell, whatever grows since. -/
theorem two_edges (w : World) (xa xb ya yb : Int) (W : World) (h : Ext ((w.alloc (.cells #[.int .i64 xa, .int .i64 xb] 44)).alloc (.cells #[.int .i64 ya, .int .i64 yb] 44)) W) :
    (W.cell? ⟨w.heap.size, 0, none⟩ = some (.int .i64 xa) ∧ W.cell? ⟨w.heap.size, 1, none⟩ = some (.int .i64 xb)) ∧ W.cell? ⟨w.heap.size + 1, 0, none⟩ = some (.int .i64 ya) ∧ W.cell? ⟨w.heap.size + 1, 1, none⟩ = some (.int .i64 yb) := by
  obtain ⟨hA, hB⟩ := box2 (h.mono (by rw [size_alloc, size_alloc]; omega))
  exact ⟨⟨blk_cell hA 0 rfl, blk_cell hA 1 rfl⟩, blk_cell hB 0 rfl, blk_cell hB 1 rfl⟩

set_option maxHeartbeats 1000000 in
theorem order_any (w : World) (xa xb ya yb : Int) : Calls Try.prog 48 #[.agg #[.int .i64 xa, .int .i64 xb], .agg #[.int .i64 ya, .int .i64 yb]] w fun e w' => e = .returned (.int .i64 (ord ⟨xa, xb⟩ ⟨ya, yb⟩)) ∧ Ext w w' := by
  have HK := Lib.hid (two_edges w xa xb ya yb)
  go_enter Try.func48, Try.ntmps48
  go_wp2_with fail
  go_region_held3 (fun W => (W.cell? ⟨w.heap.size, 0, none⟩ = some (.int .i64 xa) ∧ W.cell? ⟨w.heap.size, 1, none⟩ = some (.int .i64 xb)) ∧ W.cell? ⟨w.heap.size + 1, 0, none⟩ = some (.int .i64 ya) ∧ W.cell? ⟨w.heap.size + 1, 1, none⟩ = some (.int .i64 yb)) (exact HK.out _ ((by repeat (first | exact Ext.refl _ | assumption | refine Ext.alloc ?_ _ | refine Ext.drew ?_ | refine Ext.drewN ?_ _))))
    (first
    | (go_at_call 53; refine (compare_any _ _ _).mono ?_; rintro e w1 ⟨rfl, rfl⟩)
    | (go_at_call 52; refine (or_val _ _ (cmpI xa ya) (cmpI xb yb) (ord ⟨xa, xb⟩ ⟨ya, yb⟩) (by first | exact Sl.litAt _ _ rfl [cmpI xa ya, cmpI xb yb] (by simp) | exact Sl.litAt _ _ (by simp) [cmpI xa ya, cmpI xb yb] (by simp) | exact Sl.drew (Sl.litAt _ _ (by simp) [cmpI xa ya, cmpI xb yb] (by simp))) (ord_def _ _ _ _)).mono ?_; rintro e w1 ⟨rfl, rfl⟩))
  all_goals go_wp2
  all_goals go_ret
  all_goals exact ⟨rfl, (by repeat (first | exact Ext.refl _ | assumption | refine Ext.alloc ?_ _ | refine Ext.drew ?_ | refine Ext.drewN ?_ _))⟩

end Go.Proofs.Ytalncechmhmdcaa
