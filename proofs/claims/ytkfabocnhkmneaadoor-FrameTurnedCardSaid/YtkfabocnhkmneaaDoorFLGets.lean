/- FrameGets: walked. -/
import Derived.Test.YtkfabocnhkmneaaDoorFLPuts
namespace Go.Proofs.YtkfabocnhkmneaaDoor
open Go.RowKit

set_option maxRecDepth 100000 in
set_option maxHeartbeats 1600000 in
theorem frameGets_short (w : World) (hw : Std w) (s : ByteArray) (h1 : s.size ≤ 300) :
    Calls Tryd.prog 4 #[.string s] w fun e w' => e = .returned (.bool true) ∧ Ext w w' := by
  have HT : Hid (∀ W, Ext w W → Std W) := Lib.hid fun W x => hw.ext x
  have e1 : ¬ ((300 : Int) < (s.size : Int)) := by omega
  have cG := Lib.hid (fun W h => get_any W h s (by omega))
  have cW := Lib.hid (fun W h => why_any W h s (by omega))
  have cR := Lib.hid (fun W => refGet_any W s (by omega))
  unfold GetsR at cR
  obtain ⟨F, hF⟩ : ∃ F, F = getF s := ⟨_, rfl⟩
  obtain ⟨A, hA⟩ : ∃ A, A = whereN s := ⟨_, rfl⟩
  obtain ⟨K, hK⟩ : ∃ K, K = whatN s := ⟨_, rfl⟩
  rw [← hF, ← hK] at cG
  rw [← hA, ← hK] at cW
  rw [← hF, ← hA, ← hK] at cR
  change Hid (∀ W, Std W → Calls Tryd.prog 15 #[.string s] W fun ev w' => ev = .returned (.tuple #[.agg #[.int .i64 F.k, .int .i64 F.e, .int .u64 (F.q : Int), .int .u64 (F.a : Int), .string F.b], .int .i64 (K : Int)]) ∧ Ext W w') at cG
  change Hid (∀ W, Calls Tryd.prog 17 #[.string s] W fun ev w' => ev = .returned (.tuple #[.agg #[.int .i64 F.k, .int .i64 F.e, .int .u64 (F.q : Int), .int .u64 (F.a : Int), .string F.b], .int .i64 (A : Int), .int .i64 (K : Int)]) ∧ Ext W w') at cR
  obtain ⟨hq, hq2⟩ := eq_f F F true (by simp)
  have HQ := Lib.hid hq
  have HQ2 := Lib.hid hq2
  clear hw h1 hF hA hK hq hq2
  go_enter Tryd.func4, Tryd.ntmps4
  go_wp2_with (first
    | (go_at_call 9; refine (awake_any _ (HT.out _ (Ext.refl _))).mono ?_; rintro e w1 ⟨rfl, x1⟩)
    | (go_at_call 15; refine (cG.out _ (HT.out _ x1)).mono ?_; rintro e w2 ⟨rfl, x2⟩; have y2 := Lib.hid (Ext.trans x1 x2); clear x1 x2)
    | (go_at_call 16; refine (cW.out _ (HT.out _ (Ext.trans y2.out (Ext.alloc (Ext.refl _) _)))).mono ?_; rintro e w3 ⟨rfl, x3⟩; have b3 := Lib.hid (late_blk x3); have y3 := Lib.hid (Ext.trans y2.out (Ext.trans (Ext.alloc (Ext.refl _) _) x3)); clear x3)
    | (go_at_call 17; refine (cR.out _).mono ?_; rintro e w4 ⟨rfl, x4⟩; have y4 := Lib.hid (Ext.trans y3.out x4); have b4 := Lib.hid ((x4.block _ (blk_lt b3.out)).trans b3.out); clear x4;
       have k1 := (five_cells ((get_alloc_old (o := .cells #[.int .i64 F.k, .int .i64 F.e, .int .u64 (F.q : Int), .int .u64 (F.a : Int), .string F.b] 25) (blk_lt b4.out)).trans b4.out)).1; have k2 := (five_cells (get_alloc_new w4 (.cells #[.int .i64 F.k, .int .i64 F.e, .int .u64 (F.q : Int), .int .u64 (F.a : Int), .string F.b] 25))).1; have hq := HQ.out; have hq2 := HQ2.out))
  go_ret
  exact ⟨rfl, Ext.alloc y4.out _⟩

set_option maxRecDepth 100000 in
set_option maxHeartbeats 1600000 in
theorem frameGets_long (w : World) (hw : Std w) (s : ByteArray) (h1 : ¬ s.size ≤ 300) :
    Calls Tryd.prog 4 #[.string s] w fun e w' => e = .returned (.bool true) ∧ Ext w w' := by
  have HT : Hid (∀ W, Ext w W → Std W) := Lib.hid fun W x => hw.ext x
  have e1 : ((300 : Int) < (s.size : Int)) := by omega
  clear hw h1
  go_enter Tryd.func4, Tryd.ntmps4
  go_wp2_with (first
    | (go_at_call 9; have hgd := x1; refine (awake_any _ (HT.out _ x1)).mono ?_; rintro e w2 ⟨rfl, x2⟩)
    | (go_at_call 9; refine (awake_any _ (HT.out _ (Ext.refl _))).mono ?_; rintro e w1 ⟨rfl, x1⟩))
  go_ret
  exact ⟨rfl, Ext.trans x1 x2⟩
end Go.Proofs.YtkfabocnhkmneaaDoor
