/- FrameApart: walked. -/
import Derived.Test.YtkfabocnhkmneaaDoorFLBack
namespace Go.Proofs.YtkfabocnhkmneaaDoor
open Go.RowKit

set_option maxRecDepth 100000 in
set_option maxHeartbeats 1600000 in
theorem frameApart_short (w : World) (hw : Std w) (f g : Fr) (hf : (-9223372036854775808 ≤ f.k ∧ f.k ≤ 9223372036854775807) ∧ (-9223372036854775808 ≤ f.e ∧ f.e ≤ 9223372036854775807) ∧ f.q < 18446744073709551616 ∧ f.a < 18446744073709551616) (hg : (-9223372036854775808 ≤ g.k ∧ g.k ≤ 9223372036854775807) ∧ (-9223372036854775808 ≤ g.e ∧ g.e ≤ 9223372036854775807) ∧ g.q < 18446744073709551616 ∧ g.a < 18446744073709551616) (hr : rightB f = true) (hr2 : rightB g = true) :
    Calls Tryd.prog 8 #[.agg #[.int .i64 f.k, .int .i64 f.e, .int .u64 (f.q : Int), .int .u64 (f.a : Int), .string f.b], .agg #[.int .i64 g.k, .int .i64 g.e, .int .u64 (g.q : Int), .int .u64 (g.a : Int), .string g.b]] w fun e w' => e = .returned (.bool true) ∧ Ext w w' := by
  have HT : Hid (∀ W, Ext ((w.alloc (.cells #[.int .i64 f.k, .int .i64 f.e, .int .u64 (f.q : Int), .int .u64 (f.a : Int), .string f.b] 25)).alloc (.cells #[.int .i64 g.k, .int .i64 g.e, .int .u64 (g.q : Int), .int .u64 (g.a : Int), .string g.b] 25)) W → Std W) := Lib.hid fun W x => hw.ext (Ext.trans (((Ext.refl w).alloc _).alloc _) x)
  have HK : Hid (∀ W, Ext ((w.alloc (.cells #[.int .i64 f.k, .int .i64 f.e, .int .u64 (f.q : Int), .int .u64 (f.a : Int), .string f.b] 25)).alloc (.cells #[.int .i64 g.k, .int .i64 g.e, .int .u64 (g.q : Int), .int .u64 (g.a : Int), .string g.b] 25)) W → (W.cell? ⟨w.heap.size, 0, none⟩ = some (.int .i64 f.k) ∧ W.cell? ⟨w.heap.size, 1, none⟩ = some (.int .i64 f.e) ∧ W.cell? ⟨w.heap.size, 2, none⟩ = some (.int .u64 (f.q : Int)) ∧ W.cell? ⟨w.heap.size, 3, none⟩ = some (.int .u64 (f.a : Int)) ∧ W.cell? ⟨w.heap.size, 4, none⟩ = some (.string f.b)) ∧ (W.cell? ⟨w.heap.size + 1, 0, none⟩ = some (.int .i64 g.k) ∧ W.cell? ⟨w.heap.size + 1, 1, none⟩ = some (.int .i64 g.e) ∧ W.cell? ⟨w.heap.size + 1, 2, none⟩ = some (.int .u64 (g.q : Int)) ∧ W.cell? ⟨w.heap.size + 1, 3, none⟩ = some (.int .u64 (g.a : Int)) ∧ W.cell? ⟨w.heap.size + 1, 4, none⟩ = some (.string g.b))) := Lib.hid fun W x => by
    have hx := box2 (w := w) (Below.mono x (by simp))
    exact ⟨(five_cells hx.1).1, (five_cells hx.2).1⟩
  have HE : Hid (∀ W, Ext ((w.alloc (.cells #[.int .i64 f.k, .int .i64 f.e, .int .u64 (f.q : Int), .int .u64 (f.a : Int), .string f.b] 25)).alloc (.cells #[.int .i64 g.k, .int .i64 g.e, .int .u64 (g.q : Int), .int .u64 (g.a : Int), .string g.b] 25)) W → Ext w W) := Lib.hid fun W x => Ext.trans (((Ext.refl w).alloc _).alloc _) x
  have cRf := Lib.hid (fun W => right_any W f.k f.e f.q f.a f.b)
  change Hid (∀ W, Calls Tryd.prog 11 #[.agg #[.int .i64 f.k, .int .i64 f.e, .int .u64 (f.q : Int), .int .u64 (f.a : Int), .string f.b]] W fun ev w' => ev = .returned (.bool (rightB f)) ∧ Ext W w') at cRf
  rw [hr] at cRf
  have cRg := Lib.hid (fun W => right_any W g.k g.e g.q g.a g.b)
  change Hid (∀ W, Calls Tryd.prog 11 #[.agg #[.int .i64 g.k, .int .i64 g.e, .int .u64 (g.q : Int), .int .u64 (g.a : Int), .string g.b]] W fun ev w' => ev = .returned (.bool (rightB g)) ∧ Ext W w') at cRg
  rw [hr2] at cRg
  have cP := Lib.hid (fun W h => put_any W h f ⟨hf.1, hf.2.1, hf.2.2.1, hf.2.2.2, by have := (right_spec hr).2.2.1; omega⟩)
  have cQ := Lib.hid (fun W h => put_any W h g ⟨hg.1, hg.2.1, hg.2.2.1, hg.2.2.2, by have := (right_spec hr2).2.2.1; omega⟩)
  have p1 : putE f = 0 := by unfold putE; rw [if_pos hr]
  have p2 : putE g = 0 := by unfold putE; rw [if_pos hr2]
  obtain ⟨s, hs⟩ : ∃ s, decide (f = g) = s := ⟨_, rfl⟩
  have hst : ((putF f).toList == (putF g).toList) = s := by
    rw [tl_eq, ← hs]
    exact decide_eq_decide.2 (putF_inj hf.2.2.1 hf.2.2.2 hr hg.2.2.1 hg.2.2.2 hr2)
  have HQ := Lib.hid (eq_f f g s hs)
  obtain ⟨S, hS⟩ : ∃ S, S = putF f := ⟨_, rfl⟩
  obtain ⟨T, hT⟩ : ∃ T, T = putF g := ⟨_, rfl⟩
  rw [p1, ← hS] at cP
  rw [p2, ← hT] at cQ
  rw [← hS, ← hT] at hst
  clear hw hf hg hr hr2 p1 p2 hs hS hT
  cases s
  all_goals
    obtain ⟨hq, hq2⟩ := HQ.out
    go_enter Tryd.func8, Tryd.ntmps8
    go_wp2_with (first
      | (go_at_call 9; refine (awake_any _ (HT.out _ (Ext.refl _))).mono ?_; rintro e w1 ⟨rfl, x1⟩; have k1 := HK.out w1 x1)
      | (go_at_call 11; have hgd := y2; refine (cRg.out _).mono ?_; rintro e w3 ⟨rfl, x3⟩; have y3 := Lib.hid (Ext.trans y2.out x3); have k3 := HK.out w3 y3.out; clear x3 k2)
      | (go_at_call 11; refine (cRf.out _).mono ?_; rintro e w2 ⟨rfl, x2⟩; have y2 := Lib.hid (Ext.trans x1 x2); have k2 := HK.out w2 y2.out; clear x2 k1)
      | (go_at_call 10; have hgd := y4; refine (cQ.out _ (HT.out _ y4.out)).mono ?_; rintro e w5 ⟨rfl, x5⟩; have y5 := Lib.hid (Ext.trans y4.out x5); have k5 := HK.out w5 y5.out; clear x5 k4)
      | (go_at_call 10; refine (cP.out _ (HT.out _ y3.out)).mono ?_; rintro e w4 ⟨rfl, x4⟩; have y4 := Lib.hid (Ext.trans y3.out x4); have k4 := HK.out w4 y4.out; clear x4 k3))
    go_ret
    exact ⟨rfl, HE.out _ y5.out⟩

set_option maxRecDepth 100000 in
set_option maxHeartbeats 1600000 in
theorem frameApart_n (w : World) (hw : Std w) (f g : Fr) (hr : rightB f = false) :
    Calls Tryd.prog 8 #[.agg #[.int .i64 f.k, .int .i64 f.e, .int .u64 (f.q : Int), .int .u64 (f.a : Int), .string f.b], .agg #[.int .i64 g.k, .int .i64 g.e, .int .u64 (g.q : Int), .int .u64 (g.a : Int), .string g.b]] w fun e w' => e = .returned (.bool true) ∧ Ext w w' := by
  have HT : Hid (∀ W, Ext ((w.alloc (.cells #[.int .i64 f.k, .int .i64 f.e, .int .u64 (f.q : Int), .int .u64 (f.a : Int), .string f.b] 25)).alloc (.cells #[.int .i64 g.k, .int .i64 g.e, .int .u64 (g.q : Int), .int .u64 (g.a : Int), .string g.b] 25)) W → Std W) := Lib.hid fun W x => hw.ext (Ext.trans (((Ext.refl w).alloc _).alloc _) x)
  have HK : Hid (∀ W, Ext ((w.alloc (.cells #[.int .i64 f.k, .int .i64 f.e, .int .u64 (f.q : Int), .int .u64 (f.a : Int), .string f.b] 25)).alloc (.cells #[.int .i64 g.k, .int .i64 g.e, .int .u64 (g.q : Int), .int .u64 (g.a : Int), .string g.b] 25)) W → (W.cell? ⟨w.heap.size, 0, none⟩ = some (.int .i64 f.k) ∧ W.cell? ⟨w.heap.size, 1, none⟩ = some (.int .i64 f.e) ∧ W.cell? ⟨w.heap.size, 2, none⟩ = some (.int .u64 (f.q : Int)) ∧ W.cell? ⟨w.heap.size, 3, none⟩ = some (.int .u64 (f.a : Int)) ∧ W.cell? ⟨w.heap.size, 4, none⟩ = some (.string f.b)) ∧ (W.cell? ⟨w.heap.size + 1, 0, none⟩ = some (.int .i64 g.k) ∧ W.cell? ⟨w.heap.size + 1, 1, none⟩ = some (.int .i64 g.e) ∧ W.cell? ⟨w.heap.size + 1, 2, none⟩ = some (.int .u64 (g.q : Int)) ∧ W.cell? ⟨w.heap.size + 1, 3, none⟩ = some (.int .u64 (g.a : Int)) ∧ W.cell? ⟨w.heap.size + 1, 4, none⟩ = some (.string g.b))) := Lib.hid fun W x => by
    have hx := box2 (w := w) (Below.mono x (by simp))
    exact ⟨(five_cells hx.1).1, (five_cells hx.2).1⟩
  have HE : Hid (∀ W, Ext ((w.alloc (.cells #[.int .i64 f.k, .int .i64 f.e, .int .u64 (f.q : Int), .int .u64 (f.a : Int), .string f.b] 25)).alloc (.cells #[.int .i64 g.k, .int .i64 g.e, .int .u64 (g.q : Int), .int .u64 (g.a : Int), .string g.b] 25)) W → Ext w W) := Lib.hid fun W x => Ext.trans (((Ext.refl w).alloc _).alloc _) x
  have cRf := Lib.hid (fun W => right_any W f.k f.e f.q f.a f.b)
  change Hid (∀ W, Calls Tryd.prog 11 #[.agg #[.int .i64 f.k, .int .i64 f.e, .int .u64 (f.q : Int), .int .u64 (f.a : Int), .string f.b]] W fun ev w' => ev = .returned (.bool (rightB f)) ∧ Ext W w') at cRf
  rw [hr] at cRf
  clear hw hr
  go_enter Tryd.func8, Tryd.ntmps8
  go_wp2_with (first
    | (go_at_call 9; have hgd := y2; refine (awake_any _ (HT.out _ y2.out)).mono ?_; rintro e w9 ⟨rfl, x9⟩)
    | (go_at_call 9; refine (awake_any _ (HT.out _ (Ext.refl _))).mono ?_; rintro e w1 ⟨rfl, x1⟩; have k1 := HK.out w1 x1)
    | (go_at_call 11; refine (cRf.out _).mono ?_; rintro e w2 ⟨rfl, x2⟩; have y2 := Lib.hid (Ext.trans x1 x2); have k2 := HK.out w2 y2.out; clear x2 k1))
  go_ret
  exact ⟨rfl, HE.out _ (Ext.trans y2.out x9)⟩

set_option maxRecDepth 100000 in
set_option maxHeartbeats 1600000 in
theorem frameApart_rn (w : World) (hw : Std w) (f g : Fr) (hr : rightB f = true) (hr2 : rightB g = false) :
    Calls Tryd.prog 8 #[.agg #[.int .i64 f.k, .int .i64 f.e, .int .u64 (f.q : Int), .int .u64 (f.a : Int), .string f.b], .agg #[.int .i64 g.k, .int .i64 g.e, .int .u64 (g.q : Int), .int .u64 (g.a : Int), .string g.b]] w fun e w' => e = .returned (.bool true) ∧ Ext w w' := by
  have HT : Hid (∀ W, Ext ((w.alloc (.cells #[.int .i64 f.k, .int .i64 f.e, .int .u64 (f.q : Int), .int .u64 (f.a : Int), .string f.b] 25)).alloc (.cells #[.int .i64 g.k, .int .i64 g.e, .int .u64 (g.q : Int), .int .u64 (g.a : Int), .string g.b] 25)) W → Std W) := Lib.hid fun W x => hw.ext (Ext.trans (((Ext.refl w).alloc _).alloc _) x)
  have HK : Hid (∀ W, Ext ((w.alloc (.cells #[.int .i64 f.k, .int .i64 f.e, .int .u64 (f.q : Int), .int .u64 (f.a : Int), .string f.b] 25)).alloc (.cells #[.int .i64 g.k, .int .i64 g.e, .int .u64 (g.q : Int), .int .u64 (g.a : Int), .string g.b] 25)) W → (W.cell? ⟨w.heap.size, 0, none⟩ = some (.int .i64 f.k) ∧ W.cell? ⟨w.heap.size, 1, none⟩ = some (.int .i64 f.e) ∧ W.cell? ⟨w.heap.size, 2, none⟩ = some (.int .u64 (f.q : Int)) ∧ W.cell? ⟨w.heap.size, 3, none⟩ = some (.int .u64 (f.a : Int)) ∧ W.cell? ⟨w.heap.size, 4, none⟩ = some (.string f.b)) ∧ (W.cell? ⟨w.heap.size + 1, 0, none⟩ = some (.int .i64 g.k) ∧ W.cell? ⟨w.heap.size + 1, 1, none⟩ = some (.int .i64 g.e) ∧ W.cell? ⟨w.heap.size + 1, 2, none⟩ = some (.int .u64 (g.q : Int)) ∧ W.cell? ⟨w.heap.size + 1, 3, none⟩ = some (.int .u64 (g.a : Int)) ∧ W.cell? ⟨w.heap.size + 1, 4, none⟩ = some (.string g.b))) := Lib.hid fun W x => by
    have hx := box2 (w := w) (Below.mono x (by simp))
    exact ⟨(five_cells hx.1).1, (five_cells hx.2).1⟩
  have HE : Hid (∀ W, Ext ((w.alloc (.cells #[.int .i64 f.k, .int .i64 f.e, .int .u64 (f.q : Int), .int .u64 (f.a : Int), .string f.b] 25)).alloc (.cells #[.int .i64 g.k, .int .i64 g.e, .int .u64 (g.q : Int), .int .u64 (g.a : Int), .string g.b] 25)) W → Ext w W) := Lib.hid fun W x => Ext.trans (((Ext.refl w).alloc _).alloc _) x
  have cRf := Lib.hid (fun W => right_any W f.k f.e f.q f.a f.b)
  change Hid (∀ W, Calls Tryd.prog 11 #[.agg #[.int .i64 f.k, .int .i64 f.e, .int .u64 (f.q : Int), .int .u64 (f.a : Int), .string f.b]] W fun ev w' => ev = .returned (.bool (rightB f)) ∧ Ext W w') at cRf
  rw [hr] at cRf
  have cRg := Lib.hid (fun W => right_any W g.k g.e g.q g.a g.b)
  change Hid (∀ W, Calls Tryd.prog 11 #[.agg #[.int .i64 g.k, .int .i64 g.e, .int .u64 (g.q : Int), .int .u64 (g.a : Int), .string g.b]] W fun ev w' => ev = .returned (.bool (rightB g)) ∧ Ext W w') at cRg
  rw [hr2] at cRg
  clear hw hr hr2
  go_enter Tryd.func8, Tryd.ntmps8
  go_wp2_with (first
    | (go_at_call 9; have hgd := y3; refine (awake_any _ (HT.out _ y3.out)).mono ?_; rintro e w9 ⟨rfl, x9⟩)
    | (go_at_call 9; refine (awake_any _ (HT.out _ (Ext.refl _))).mono ?_; rintro e w1 ⟨rfl, x1⟩; have k1 := HK.out w1 x1)
    | (go_at_call 11; have hgd := y2; refine (cRg.out _).mono ?_; rintro e w3 ⟨rfl, x3⟩; have y3 := Lib.hid (Ext.trans y2.out x3); have k3 := HK.out w3 y3.out; clear x3 k2)
    | (go_at_call 11; refine (cRf.out _).mono ?_; rintro e w2 ⟨rfl, x2⟩; have y2 := Lib.hid (Ext.trans x1 x2); have k2 := HK.out w2 y2.out; clear x2 k1))
  go_ret
  exact ⟨rfl, HE.out _ (Ext.trans y3.out x9)⟩
end Go.Proofs.YtkfabocnhkmneaaDoor
