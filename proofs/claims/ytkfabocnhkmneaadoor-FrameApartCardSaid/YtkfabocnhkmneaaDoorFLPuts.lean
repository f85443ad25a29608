/- FramePuts: walked. -/
import Derived.Test.YtkfabocnhkmneaaDoorF7
namespace Go.Proofs.YtkfabocnhkmneaaDoor
open Go.RowKit

set_option maxRecDepth 100000 in
set_option maxHeartbeats 1600000 in
theorem framePuts_short (w : World) (hw : Std w) (f g : Fr) (hf : (-9223372036854775808 ≤ f.k ∧ f.k ≤ 9223372036854775807) ∧ (-9223372036854775808 ≤ f.e ∧ f.e ≤ 9223372036854775807) ∧ f.q < 18446744073709551616 ∧ f.a < 18446744073709551616) (h1 : f.b.size ≤ 300) (h2 : g.b.size ≤ 300) :
    Calls Tryd.prog 3 #[.agg #[.int .i64 f.k, .int .i64 f.e, .int .u64 (f.q : Int), .int .u64 (f.a : Int), .string f.b], .agg #[.int .i64 g.k, .int .i64 g.e, .int .u64 (g.q : Int), .int .u64 (g.a : Int), .string g.b]] w fun e w' => e = .returned (.bool true) ∧ Ext w w' := by
  have HT : Hid (∀ W, Ext ((w.alloc (.cells #[.int .i64 f.k, .int .i64 f.e, .int .u64 (f.q : Int), .int .u64 (f.a : Int), .string f.b] 25)).alloc (.cells #[.int .i64 g.k, .int .i64 g.e, .int .u64 (g.q : Int), .int .u64 (g.a : Int), .string g.b] 25)) W → Std W) := Lib.hid fun W x => hw.ext (Ext.trans (((Ext.refl w).alloc _).alloc _) x)
  have HK : Hid (∀ W, Ext ((w.alloc (.cells #[.int .i64 f.k, .int .i64 f.e, .int .u64 (f.q : Int), .int .u64 (f.a : Int), .string f.b] 25)).alloc (.cells #[.int .i64 g.k, .int .i64 g.e, .int .u64 (g.q : Int), .int .u64 (g.a : Int), .string g.b] 25)) W → (W.cell? ⟨w.heap.size, 0, none⟩ = some (.int .i64 f.k) ∧ W.cell? ⟨w.heap.size, 1, none⟩ = some (.int .i64 f.e) ∧ W.cell? ⟨w.heap.size, 2, none⟩ = some (.int .u64 (f.q : Int)) ∧ W.cell? ⟨w.heap.size, 3, none⟩ = some (.int .u64 (f.a : Int)) ∧ W.cell? ⟨w.heap.size, 4, none⟩ = some (.string f.b)) ∧ (W.cell? ⟨w.heap.size + 1, 0, none⟩ = some (.int .i64 g.k) ∧ W.cell? ⟨w.heap.size + 1, 1, none⟩ = some (.int .i64 g.e) ∧ W.cell? ⟨w.heap.size + 1, 2, none⟩ = some (.int .u64 (g.q : Int)) ∧ W.cell? ⟨w.heap.size + 1, 3, none⟩ = some (.int .u64 (g.a : Int)) ∧ W.cell? ⟨w.heap.size + 1, 4, none⟩ = some (.string g.b))) := Lib.hid fun W x => by
    have hx := box2 (w := w) (Below.mono x (by simp))
    exact ⟨(five_cells hx.1).1, (five_cells hx.2).1⟩
  have HE : Hid (∀ W, Ext ((w.alloc (.cells #[.int .i64 f.k, .int .i64 f.e, .int .u64 (f.q : Int), .int .u64 (f.a : Int), .string f.b] 25)).alloc (.cells #[.int .i64 g.k, .int .i64 g.e, .int .u64 (g.q : Int), .int .u64 (g.a : Int), .string g.b] 25)) W → Ext w W) := Lib.hid fun W x => Ext.trans (((Ext.refl w).alloc _).alloc _) x
  have e1 : ¬ ((300 : Int) < (f.b.size : Int)) := by omega
  have e2 : ¬ ((300 : Int) < (g.b.size : Int)) := by omega
  have cP := Lib.hid (fun W h => put_any W h f ⟨hf.1, hf.2.1, hf.2.2.1, hf.2.2.2, by omega⟩)
  have cR := Lib.hid (fun W => right_any W f.k f.e f.q f.a f.b)
  have cRR := Lib.hid (fun W => refRight_any W f.k f.e f.q f.a f.b)
  have cS := Lib.hid (fun W => same_any W f g)
  have hpr := Lib.hid (@right_spec f)
  have cPP := Lib.hid (fun W (h : rightB f = true) => refPut_any W f.k.toNat f.e.toNat f.q f.a f.b (by have := right_spec h; omega) (by have := right_spec h; omega) hf.2.2.1 hf.2.2.2 (right_spec h).2.2.1)
  obtain ⟨s, hs⟩ : ∃ s, decide (f = g) = s := ⟨_, rfl⟩
  have HQ := Lib.hid (eq_f f g s hs)
  have HP := Lib.hid (show ∀ h : rightB f = true, putF f = putS f.k.toNat f.e.toNat f.q f.a f.b ∧ putE f = 0 from fun h => ⟨by unfold putF; rw [if_pos h], by unfold putE; rw [if_pos h]⟩)
  have HN := Lib.hid (show ∀ h : rightB f = false, putF f = ⟨#[]⟩ ∧ putE f = 60 from fun h => ⟨by unfold putF; rw [if_neg (by rw [h]; decide)], by unfold putE; rw [if_neg (by rw [h]; decide)]⟩)
  change Hid (∀ W, Calls Tryd.prog 11 #[.agg #[.int .i64 f.k, .int .i64 f.e, .int .u64 (f.q : Int), .int .u64 (f.a : Int), .string f.b]] W fun ev w' => ev = .returned (.bool (rightB f)) ∧ Ext W w') at cR
  change Hid (∀ W, Calls Tryd.prog 12 #[.agg #[.int .i64 f.k, .int .i64 f.e, .int .u64 (f.q : Int), .int .u64 (f.a : Int), .string f.b]] W fun ev w' => ev = .returned (.bool (rightB f)) ∧ Ext W w') at cRR
  change Hid (∀ W, Calls Tryd.prog 13 #[.agg #[.int .i64 f.k, .int .i64 f.e, .int .u64 (f.q : Int), .int .u64 (f.a : Int), .string f.b], .agg #[.int .i64 g.k, .int .i64 g.e, .int .u64 (g.q : Int), .int .u64 (g.a : Int), .string g.b]] W fun ev w' => ev = .returned (.bool (decide (f = g))) ∧ Ext W w') at cS
  rw [hs] at cS
  clear hw h1 h2 hf hs
  by_cases hr : rightB f = true
  · skip
    obtain ⟨p1, p2⟩ := HP.out hr
    obtain ⟨r1, r2, r3, r4⟩ := hpr.out hr
    have q1 : ((f.k.toNat : Nat) : Int) = f.k := by omega
    have q2 : ((f.e.toNat : Nat) : Int) = f.e := by omega
    have cPP := Lib.hid (fun W => cPP.out W hr)
    rw [q1, q2] at cPP
    obtain ⟨S, hS⟩ : ∃ S, S = putS f.k.toNat f.e.toNat f.q f.a f.b := ⟨_, rfl⟩
    rw [p1, p2, ← hS] at cP
    rw [← hS] at cPP
    rw [hr] at cR cRR
    clear p1 p2 q1 q2 hS r1 r2 r3 r4 HP HN hpr
    replace hr := Lib.hid hr
    cases s
    all_goals
      obtain ⟨hq, hq2⟩ := HQ.out
      go_enter Tryd.func3, Tryd.ntmps3
      go_wp2_with (first
        | (go_at_call 9; refine (awake_any _ (HT.out _ (Ext.refl _))).mono ?_; rintro e w1 ⟨rfl, x1⟩; have k1 := HK.out w1 x1)
        | (go_at_call 10; refine (cP.out _ (HT.out _ x1)).mono ?_; rintro e w2 ⟨rfl, x2⟩; have y2 := Lib.hid (Ext.trans x1 x2); clear x1 x2 k1))
      refine wp_region_M_lit (by kernel_rfl) ?_
      (refine takeV 0 (v := ?_) (by simp only [List.getElem?_toArray, List.getElem?_cons, reduceIte]; rfl) (by kernel_rfl) (by rfl) (fun w' hw' => ?_) ?_; rotate_left; focus (have hc := HK.out w' (Ext.trans y2.out hw'); go_simp; first | done | with_reducible rfl)); (simp only [Act.put, List.setIfInBounds_toArray, List.set])
      (refine takeG 1 (v := ?_) (by simp only [List.getElem?_toArray, List.getElem?_cons, reduceIte]; rfl) (by kernel_rfl) (by rfl) (fun w' hw' => ?_) ?_; rotate_left; focus (go_simp; refine ⟨Ext.refl _, ?_⟩; (exact cR.out w'))); (simp only [Act.put, List.setIfInBounds_toArray, List.set])
      (refine takeV 2 (v := ?_) (by simp only [List.getElem?_toArray, List.getElem?_cons, reduceIte]; rfl) (by kernel_rfl) (by rfl) (fun w' hw' => ?_) ?_; rotate_left; focus (have hc := HK.out w' (Ext.trans y2.out hw'); go_simp; first | done | with_reducible rfl)); (simp only [Act.put, List.setIfInBounds_toArray, List.set])
      (refine takeG 3 (v := ?_) (by simp only [List.getElem?_toArray, List.getElem?_cons, reduceIte]; rfl) (by kernel_rfl) (by rfl) (fun w' hw' => ?_) ?_; rotate_left; focus (go_simp; refine ⟨Ext.refl _, ?_⟩; (exact cRR.out w'))); (simp only [Act.put, List.setIfInBounds_toArray, List.set])
      (refine takeV 4 (v := ?_) (by simp only [List.getElem?_toArray, List.getElem?_cons, reduceIte]; rfl) (by kernel_rfl) (by rfl) (fun w' hw' => ?_) ?_; rotate_left; focus (skip; go_simp; first | done | with_reducible rfl)); (simp only [Act.put, List.setIfInBounds_toArray, List.set])
      (refine takeV 5 (v := ?_) (by simp only [List.getElem?_toArray, List.getElem?_cons, reduceIte]; rfl) (by kernel_rfl) (by rfl) (fun w' hw' => ?_) ?_; rotate_left; focus (skip; go_simp; first | done | with_reducible rfl)); (simp only [Act.put, List.setIfInBounds_toArray, List.set])
      (refine takeV 6 (v := ?_) (by simp only [List.getElem?_toArray, List.getElem?_cons, reduceIte]; rfl) (by kernel_rfl) (by rfl) (fun w' hw' => ?_) ?_; rotate_left; focus (have hc := HK.out w' (Ext.trans y2.out hw'); go_simp; first | done | with_reducible rfl)); (simp only [Act.put, List.setIfInBounds_toArray, List.set])
      (refine takeV 7 (v := ?_) (by simp only [List.getElem?_toArray, List.getElem?_cons, reduceIte]; rfl) (by kernel_rfl) (by rfl) (fun w' hw' => ?_) ?_; rotate_left; focus (have hc := HK.out w' (Ext.trans y2.out hw'); go_simp; first | done | with_reducible rfl)); (simp only [Act.put, List.setIfInBounds_toArray, List.set])
      (refine takeG 8 (v := ?_) (by simp only [List.getElem?_toArray, List.getElem?_cons, reduceIte]; rfl) (by kernel_rfl) (by rfl) (fun w' hw' => ?_) ?_; rotate_left; focus (go_simp; refine ⟨Ext.refl _, ?_⟩; (exact cS.out w'))); (simp only [Act.put, List.setIfInBounds_toArray, List.set])
      (refine takeV 9 (v := ?_) (by simp only [List.getElem?_toArray, List.getElem?_cons, reduceIte]; rfl) (by kernel_rfl) (by rfl) (fun w' hw' => ?_) ?_; rotate_left; focus (have hc := HK.out w' (Ext.trans y2.out hw'); go_simp; first | done | with_reducible rfl)); (simp only [Act.put, List.setIfInBounds_toArray, List.set])
      (refine takeV 10 (v := ?_) (by simp only [List.getElem?_toArray, List.getElem?_cons, reduceIte]; rfl) (by kernel_rfl) (by rfl) (fun w' hw' => ?_) ?_; rotate_left; focus (have hc := HK.out w' (Ext.trans y2.out hw'); go_simp; first | done | with_reducible rfl)); (simp only [Act.put, List.setIfInBounds_toArray, List.set])
      (refine takeV 11 (v := ?_) (by simp only [List.getElem?_toArray, List.getElem?_cons, reduceIte]; rfl) (by kernel_rfl) (by rfl) (fun w' hw' => ?_) ?_; rotate_left; focus (skip; go_simp; first | done | with_reducible rfl)); (simp only [Act.put, List.setIfInBounds_toArray, List.set])
      (refine takeV 12 (v := ?_) (by simp only [List.getElem?_toArray, List.getElem?_cons, reduceIte]; rfl) (by kernel_rfl) (by rfl) (fun w' hw' => ?_) ?_; rotate_left; focus (skip; go_simp; first | done | with_reducible rfl)); (simp only [Act.put, List.setIfInBounds_toArray, List.set])
      (refine takeV 13 (v := ?_) (by simp only [List.getElem?_toArray, List.getElem?_cons, reduceIte]; rfl) (by kernel_rfl) (by rfl) (fun w' hw' => ?_) ?_; rotate_left; focus (skip; go_simp; first | done | with_reducible rfl)); (simp only [Act.put, List.setIfInBounds_toArray, List.set])
      (refine doneM (by kernel_rfl) ?_; intro w' hw'; show _)
      have y3 := Lib.hid (Ext.trans y2.out hw')
      have k3 := HK.out w' y3.out
      clear hw'
      go_wp2_with (first
        | (go_at_call 12; refine (cRR.out _).mono ?_; rintro e w4 ⟨rfl, x4⟩; have y4 := Lib.hid (Ext.trans y3.out x4); have k4 := HK.out w4 y4.out; clear x4)
        | (go_at_call 14; refine (cPP.out _).mono ?_; rintro e w5 ⟨rfl, x5⟩; have y5 := Lib.hid (Ext.trans y4.out x5)))
      go_ret
      exact ⟨rfl, HE.out _ y5.out⟩
  · replace hr : rightB f = false := by simpa using hr
    obtain ⟨p1, p2⟩ := HN.out hr
    rw [p1, p2] at cP
    rw [hr] at cR cRR
    clear p1 p2 HP HN cPP hpr
    replace hr := Lib.hid hr
    cases s
    all_goals
      obtain ⟨hq, hq2⟩ := HQ.out
      go_enter Tryd.func3, Tryd.ntmps3
      go_wp2_with (first
        | (go_at_call 9; refine (awake_any _ (HT.out _ (Ext.refl _))).mono ?_; rintro e w1 ⟨rfl, x1⟩; have k1 := HK.out w1 x1)
        | (go_at_call 10; refine (cP.out _ (HT.out _ x1)).mono ?_; rintro e w2 ⟨rfl, x2⟩; have y2 := Lib.hid (Ext.trans x1 x2); clear x1 x2 k1))
      refine wp_region_M_lit (by kernel_rfl) ?_
      (refine takeV 0 (v := ?_) (by simp only [List.getElem?_toArray, List.getElem?_cons, reduceIte]; rfl) (by kernel_rfl) (by rfl) (fun w' hw' => ?_) ?_; rotate_left; focus (have hc := HK.out w' (Ext.trans y2.out hw'); go_simp; first | done | with_reducible rfl)); (simp only [Act.put, List.setIfInBounds_toArray, List.set])
      (refine takeG 1 (v := ?_) (by simp only [List.getElem?_toArray, List.getElem?_cons, reduceIte]; rfl) (by kernel_rfl) (by rfl) (fun w' hw' => ?_) ?_; rotate_left; focus (go_simp; refine ⟨Ext.refl _, ?_⟩; (exact cR.out w'))); (simp only [Act.put, List.setIfInBounds_toArray, List.set])
      (refine takeV 2 (v := ?_) (by simp only [List.getElem?_toArray, List.getElem?_cons, reduceIte]; rfl) (by kernel_rfl) (by rfl) (fun w' hw' => ?_) ?_; rotate_left; focus (have hc := HK.out w' (Ext.trans y2.out hw'); go_simp; first | done | with_reducible rfl)); (simp only [Act.put, List.setIfInBounds_toArray, List.set])
      (refine takeG 3 (v := ?_) (by simp only [List.getElem?_toArray, List.getElem?_cons, reduceIte]; rfl) (by kernel_rfl) (by rfl) (fun w' hw' => ?_) ?_; rotate_left; focus (go_simp; refine ⟨Ext.refl _, ?_⟩; (exact cRR.out w'))); (simp only [Act.put, List.setIfInBounds_toArray, List.set])
      (refine takeV 4 (v := ?_) (by simp only [List.getElem?_toArray, List.getElem?_cons, reduceIte]; rfl) (by kernel_rfl) (by rfl) (fun w' hw' => ?_) ?_; rotate_left; focus (skip; go_simp; first | done | with_reducible rfl)); (simp only [Act.put, List.setIfInBounds_toArray, List.set])
      (refine takeV 5 (v := ?_) (by simp only [List.getElem?_toArray, List.getElem?_cons, reduceIte]; rfl) (by kernel_rfl) (by rfl) (fun w' hw' => ?_) ?_; rotate_left; focus (skip; go_simp; first | done | with_reducible rfl)); (simp only [Act.put, List.setIfInBounds_toArray, List.set])
      (refine takeV 6 (v := ?_) (by simp only [List.getElem?_toArray, List.getElem?_cons, reduceIte]; rfl) (by kernel_rfl) (by rfl) (fun w' hw' => ?_) ?_; rotate_left; focus (have hc := HK.out w' (Ext.trans y2.out hw'); go_simp; first | done | with_reducible rfl)); (simp only [Act.put, List.setIfInBounds_toArray, List.set])
      (refine takeV 7 (v := ?_) (by simp only [List.getElem?_toArray, List.getElem?_cons, reduceIte]; rfl) (by kernel_rfl) (by rfl) (fun w' hw' => ?_) ?_; rotate_left; focus (have hc := HK.out w' (Ext.trans y2.out hw'); go_simp; first | done | with_reducible rfl)); (simp only [Act.put, List.setIfInBounds_toArray, List.set])
      (refine takeG 8 (v := ?_) (by simp only [List.getElem?_toArray, List.getElem?_cons, reduceIte]; rfl) (by kernel_rfl) (by rfl) (fun w' hw' => ?_) ?_; rotate_left; focus (go_simp; refine ⟨Ext.refl _, ?_⟩; (exact cS.out w'))); (simp only [Act.put, List.setIfInBounds_toArray, List.set])
      (refine takeV 9 (v := ?_) (by simp only [List.getElem?_toArray, List.getElem?_cons, reduceIte]; rfl) (by kernel_rfl) (by rfl) (fun w' hw' => ?_) ?_; rotate_left; focus (have hc := HK.out w' (Ext.trans y2.out hw'); go_simp; first | done | with_reducible rfl)); (simp only [Act.put, List.setIfInBounds_toArray, List.set])
      (refine takeV 10 (v := ?_) (by simp only [List.getElem?_toArray, List.getElem?_cons, reduceIte]; rfl) (by kernel_rfl) (by rfl) (fun w' hw' => ?_) ?_; rotate_left; focus (have hc := HK.out w' (Ext.trans y2.out hw'); go_simp; first | done | with_reducible rfl)); (simp only [Act.put, List.setIfInBounds_toArray, List.set])
      (refine takeV 11 (v := ?_) (by simp only [List.getElem?_toArray, List.getElem?_cons, reduceIte]; rfl) (by kernel_rfl) (by rfl) (fun w' hw' => ?_) ?_; rotate_left; focus (skip; go_simp; first | done | with_reducible rfl)); (simp only [Act.put, List.setIfInBounds_toArray, List.set])
      (refine takeV 12 (v := ?_) (by simp only [List.getElem?_toArray, List.getElem?_cons, reduceIte]; rfl) (by kernel_rfl) (by rfl) (fun w' hw' => ?_) ?_; rotate_left; focus (skip; go_simp; first | done | with_reducible rfl)); (simp only [Act.put, List.setIfInBounds_toArray, List.set])
      (refine takeV 13 (v := ?_) (by simp only [List.getElem?_toArray, List.getElem?_cons, reduceIte]; rfl) (by kernel_rfl) (by rfl) (fun w' hw' => ?_) ?_; rotate_left; focus (skip; go_simp; first | done | with_reducible rfl)); (simp only [Act.put, List.setIfInBounds_toArray, List.set])
      (refine doneM (by kernel_rfl) ?_; intro w' hw'; show _)
      have y3 := Lib.hid (Ext.trans y2.out hw')
      have k3 := HK.out w' y3.out
      clear hw'
      go_wp2_with (first
        | (go_at_call 12; refine (cRR.out _).mono ?_; rintro e w4 ⟨rfl, x4⟩; have y4 := Lib.hid (Ext.trans y3.out x4); have k4 := HK.out w4 y4.out; clear x4)
        | (go_at_call 14; refine (cPP.out _).mono ?_; rintro e w5 ⟨rfl, x5⟩; have y5 := Lib.hid (Ext.trans y4.out x5)))
      go_ret
      exact ⟨rfl, HE.out _ y4.out⟩

set_option maxRecDepth 100000 in
set_option maxHeartbeats 1600000 in
theorem framePuts_long (w : World) (hw : Std w) (f g : Fr) (h : ¬ (f.b.size ≤ 300 ∧ g.b.size ≤ 300)) :
    Calls Tryd.prog 3 #[.agg #[.int .i64 f.k, .int .i64 f.e, .int .u64 (f.q : Int), .int .u64 (f.a : Int), .string f.b], .agg #[.int .i64 g.k, .int .i64 g.e, .int .u64 (g.q : Int), .int .u64 (g.a : Int), .string g.b]] w fun e w' => e = .returned (.bool true) ∧ Ext w w' := by
  have HT : Hid (∀ W, Ext ((w.alloc (.cells #[.int .i64 f.k, .int .i64 f.e, .int .u64 (f.q : Int), .int .u64 (f.a : Int), .string f.b] 25)).alloc (.cells #[.int .i64 g.k, .int .i64 g.e, .int .u64 (g.q : Int), .int .u64 (g.a : Int), .string g.b] 25)) W → Std W) := Lib.hid fun W x => hw.ext (Ext.trans (((Ext.refl w).alloc _).alloc _) x)
  have HK : Hid (∀ W, Ext ((w.alloc (.cells #[.int .i64 f.k, .int .i64 f.e, .int .u64 (f.q : Int), .int .u64 (f.a : Int), .string f.b] 25)).alloc (.cells #[.int .i64 g.k, .int .i64 g.e, .int .u64 (g.q : Int), .int .u64 (g.a : Int), .string g.b] 25)) W → (W.cell? ⟨w.heap.size, 0, none⟩ = some (.int .i64 f.k) ∧ W.cell? ⟨w.heap.size, 1, none⟩ = some (.int .i64 f.e) ∧ W.cell? ⟨w.heap.size, 2, none⟩ = some (.int .u64 (f.q : Int)) ∧ W.cell? ⟨w.heap.size, 3, none⟩ = some (.int .u64 (f.a : Int)) ∧ W.cell? ⟨w.heap.size, 4, none⟩ = some (.string f.b)) ∧ (W.cell? ⟨w.heap.size + 1, 0, none⟩ = some (.int .i64 g.k) ∧ W.cell? ⟨w.heap.size + 1, 1, none⟩ = some (.int .i64 g.e) ∧ W.cell? ⟨w.heap.size + 1, 2, none⟩ = some (.int .u64 (g.q : Int)) ∧ W.cell? ⟨w.heap.size + 1, 3, none⟩ = some (.int .u64 (g.a : Int)) ∧ W.cell? ⟨w.heap.size + 1, 4, none⟩ = some (.string g.b))) := Lib.hid fun W x => by
    have hx := box2 (w := w) (Below.mono x (by simp))
    exact ⟨(five_cells hx.1).1, (five_cells hx.2).1⟩
  have HE : Hid (∀ W, Ext ((w.alloc (.cells #[.int .i64 f.k, .int .i64 f.e, .int .u64 (f.q : Int), .int .u64 (f.a : Int), .string f.b] 25)).alloc (.cells #[.int .i64 g.k, .int .i64 g.e, .int .u64 (g.q : Int), .int .u64 (g.a : Int), .string g.b] 25)) W → Ext w W) := Lib.hid fun W x => Ext.trans (((Ext.refl w).alloc _).alloc _) x
  by_cases h1 : f.b.size ≤ 300
  · have e1 : ¬ ((300 : Int) < (f.b.size : Int)) := by omega
    have e2 : ((300 : Int) < (g.b.size : Int)) := by omega
    clear hw h h1
    go_enter Tryd.func3, Tryd.ntmps3
    go_wp2_with (first
      | (go_at_call 9; have hgd := x1; refine (awake_any _ (HT.out _ x1)).mono ?_; rintro e w2 ⟨rfl, x2⟩)
      | (go_at_call 9; refine (awake_any _ (HT.out _ (Ext.refl _))).mono ?_; rintro e w1 ⟨rfl, x1⟩; have k1 := HK.out w1 x1))
    go_ret
    exact ⟨rfl, HE.out _ (Ext.trans x1 x2)⟩
  · have e1 : ((300 : Int) < (f.b.size : Int)) := by omega
    clear hw h h1
    go_enter Tryd.func3, Tryd.ntmps3
    go_wp2_with (first
      | (go_at_call 9; have hgd := x1; refine (awake_any _ (HT.out _ x1)).mono ?_; rintro e w2 ⟨rfl, x2⟩)
      | (go_at_call 9; refine (awake_any _ (HT.out _ (Ext.refl _))).mono ?_; rintro e w1 ⟨rfl, x1⟩; have k1 := HK.out w1 x1))
    go_ret
    exact ⟨rfl, HE.out _ (Ext.trans x1 x2)⟩
end Go.Proofs.YtkfabocnhkmneaaDoor
