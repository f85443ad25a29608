/- MsgGets: walked. -/
import Derived.Test.YtffgphhmkghlnaaDoorMLPuts
namespace Go.Proofs.YtffgphhmkghlnaaDoor
open Go.RowKit

set_option maxRecDepth 100000 in
set_option maxHeartbeats 1600000 in
theorem msgGets_short (w : World) (hw : Std w) (s : ByteArray) (h1 : s.size ≤ 100) :
    Calls Tryd.prog 4 #[.string s] w fun e w' => e = .returned (.bool true) ∧ Ext w w' := by
  have HT : Hid (∀ W, Ext w W → Std W) := Lib.hid fun W x => hw.ext x
  have e1 : ¬ ((100 : Int) < (s.size : Int)) := by omega
  have cG := Lib.hid (fun W => get_any W s (by omega))
  have cR := Lib.hid (fun W => refGet_any W s)
  unfold GetsM at cR
  obtain ⟨F, hF⟩ : ∃ F, F = getM s := ⟨_, rfl⟩
  obtain ⟨q, hq⟩ : ∃ q, q = gotM s := ⟨_, rfl⟩
  have hE : getE s = if q = true then 0 else 71 := by rw [hq]; rfl
  rw [← hF, hE] at cG
  rw [← hF, ← hq] at cR
  change Hid (∀ W, Calls Tryd.prog 17 #[.string s] W fun ev w' => ev = .returned (.tuple #[.agg #[.int .i64 F.k, .int .i64 F.e, .int .i64 F.n], .int .i64 ((if q = true then 0 else 71 : Nat) : Int)]) ∧ Ext W w') at cG
  change Hid (∀ W, Calls Tryd.prog 18 #[.string s] W fun ev w' => ev = .returned (.tuple #[.agg #[.int .i64 F.k, .int .i64 F.e, .int .i64 F.n], .bool q]) ∧ Ext W w') at cR
  obtain ⟨hqa, hqb⟩ := eq_m F F true (by simp)
  have HQ := Lib.hid hqa
  have HQ2 := Lib.hid hqb
  clear hw h1 hF hq hE hqa hqb
  cases q
  · have cG : Hid (∀ W, Calls Tryd.prog 17 #[.string s] W fun ev w' => ev = .returned (.tuple #[.agg #[.int .i64 F.k, .int .i64 F.e, .int .i64 F.n], .int .i64 71]) ∧ Ext W w') := cG
    go_enter Tryd.func4, Tryd.ntmps4
    go_wp2_with (first
      | (go_at_call 8; refine (awake_any _ (HT.out _ (Ext.refl _))).mono ?_; rintro e w1 ⟨rfl, x1⟩; have y1 := Lib.hid x1; clear x1)
      | (go_at_call 17; refine (cG.out _).mono ?_; rintro e w2 ⟨rfl, x2⟩; have y2 := Lib.hid (Ext.trans y1.out x2); clear x2)
      | (go_at_call 18; refine (cR.out _).mono ?_; rintro e w3 ⟨rfl, x3⟩; have b3 := late_blk x3; have y3 := Lib.hid (Ext.trans (Ext.alloc y2.out _) x3); clear x3;
         have k1 := (three_cells (blk_alloc b3 (.cells #[.int .i64 F.k, .int .i64 F.e, .int .i64 F.n] 24))).1; have k2 := (three_cells (get_alloc_new w3 (.cells #[.int .i64 F.k, .int .i64 F.e, .int .i64 F.n] 24))).1; clear b3; have hq := HQ.out; have hq2 := HQ2.out))
    go_ret
    exact ⟨rfl, Ext.alloc y3.out _⟩
  · have cG : Hid (∀ W, Calls Tryd.prog 17 #[.string s] W fun ev w' => ev = .returned (.tuple #[.agg #[.int .i64 F.k, .int .i64 F.e, .int .i64 F.n], .int .i64 0]) ∧ Ext W w') := cG
    go_enter Tryd.func4, Tryd.ntmps4
    go_wp2_with (first
      | (go_at_call 8; refine (awake_any _ (HT.out _ (Ext.refl _))).mono ?_; rintro e w1 ⟨rfl, x1⟩; have y1 := Lib.hid x1; clear x1)
      | (go_at_call 17; refine (cG.out _).mono ?_; rintro e w2 ⟨rfl, x2⟩; have y2 := Lib.hid (Ext.trans y1.out x2); clear x2)
      | (go_at_call 18; refine (cR.out _).mono ?_; rintro e w3 ⟨rfl, x3⟩; have b3 := late_blk x3; have y3 := Lib.hid (Ext.trans (Ext.alloc y2.out _) x3); clear x3;
         have k1 := (three_cells (blk_alloc b3 (.cells #[.int .i64 F.k, .int .i64 F.e, .int .i64 F.n] 24))).1; have k2 := (three_cells (get_alloc_new w3 (.cells #[.int .i64 F.k, .int .i64 F.e, .int .i64 F.n] 24))).1; clear b3; have hq := HQ.out; have hq2 := HQ2.out))
    go_ret
    exact ⟨rfl, Ext.alloc y3.out _⟩

set_option maxRecDepth 100000 in
set_option maxHeartbeats 1600000 in
theorem msgGets_long (w : World) (hw : Std w) (s : ByteArray) (h1 : ¬ s.size ≤ 100) :
    Calls Tryd.prog 4 #[.string s] w fun e w' => e = .returned (.bool true) ∧ Ext w w' := by
  have HT : Hid (∀ W, Ext w W → Std W) := Lib.hid fun W x => hw.ext x
  have e1 : ((100 : Int) < (s.size : Int)) := by omega
  clear hw h1
  go_enter Tryd.func4, Tryd.ntmps4
  go_wp2_with (first
    | (go_at_call 8; have hgd := y1; refine (awake_any _ (HT.out _ y1.out)).mono ?_; rintro e w9 ⟨rfl, x9⟩)
    | (go_at_call 8; refine (awake_any _ (HT.out _ (Ext.refl _))).mono ?_; rintro e w1 ⟨rfl, x1⟩; have y1 := Lib.hid x1; clear x1))
  go_ret
  exact ⟨rfl, Ext.trans y1.out x9⟩
end Go.Proofs.YtffgphhmkghlnaaDoor
