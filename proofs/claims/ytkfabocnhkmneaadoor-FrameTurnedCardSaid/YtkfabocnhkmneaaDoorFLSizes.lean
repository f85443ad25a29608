/- FrameSizes: walked. -/
import Derived.Test.YtkfabocnhkmneaaDoorFLGets
namespace Go.Proofs.YtkfabocnhkmneaaDoor
open Go.RowKit

set_option maxRecDepth 100000 in
set_option maxHeartbeats 1600000 in
theorem frameSizes_short (w : World) (hw : Std w) (f : Fr) (s : ByteArray) (hf : (-9223372036854775808 ≤ f.k ∧ f.k ≤ 9223372036854775807) ∧ (-9223372036854775808 ≤ f.e ∧ f.e ≤ 9223372036854775807) ∧ f.q < 18446744073709551616 ∧ f.a < 18446744073709551616) (h1 : f.b.size ≤ 300) (h2 : s.size ≤ 300) :
    Calls Tryd.prog 7 #[.agg #[.int .i64 f.k, .int .i64 f.e, .int .u64 (f.q : Int), .int .u64 (f.a : Int), .string f.b], .string s] w fun e w' => e = .returned (.bool true) ∧ Ext w w' := by
  have HT : Hid (∀ W, Ext (w.alloc (.cells #[.int .i64 f.k, .int .i64 f.e, .int .u64 (f.q : Int), .int .u64 (f.a : Int), .string f.b] 25)) W → Std W) := Lib.hid fun W x => hw.ext (Ext.trans ((Ext.refl w).alloc _) x)
  have HK : Hid (∀ W, Ext (w.alloc (.cells #[.int .i64 f.k, .int .i64 f.e, .int .u64 (f.q : Int), .int .u64 (f.a : Int), .string f.b] 25)) W → (W.cell? ⟨w.heap.size, 0, none⟩ = some (.int .i64 f.k) ∧ W.cell? ⟨w.heap.size, 1, none⟩ = some (.int .i64 f.e) ∧ W.cell? ⟨w.heap.size, 2, none⟩ = some (.int .u64 (f.q : Int)) ∧ W.cell? ⟨w.heap.size, 3, none⟩ = some (.int .u64 (f.a : Int)) ∧ W.cell? ⟨w.heap.size, 4, none⟩ = some (.string f.b))) := Lib.hid fun W x => (five_cells (late_blk x)).1
  have HE : Hid (∀ W, Ext (w.alloc (.cells #[.int .i64 f.k, .int .i64 f.e, .int .u64 (f.q : Int), .int .u64 (f.a : Int), .string f.b] 25)) W → Ext w W) := Lib.hid fun W x => Ext.trans ((Ext.refl w).alloc _) x
  have e1 : ¬ ((300 : Int) < (f.b.size : Int)) := by omega
  have e2 : ¬ ((300 : Int) < (s.size : Int)) := by omega
  have cP := Lib.hid (fun W h => put_any W h f ⟨hf.1, hf.2.1, hf.2.2.1, hf.2.2.2, by omega⟩)
  have cG := Lib.hid (fun W h => get_any W h s (by omega))
  have cW := Lib.hid (fun W h => why_any W h s (by omega))
  have hle := where_le s
  have hz := @where_zero s
  have hsz := @putF_size f
  have hp0 : rightB f = true → putE f = 0 := fun h => by unfold putE; rw [if_pos h]
  have hp1 : rightB f = false → putE f = 60 := fun h => by unfold putE; rw [if_neg (by rw [h]; decide)]
  obtain ⟨F, hF⟩ : ∃ F, F = getF s := ⟨_, rfl⟩
  obtain ⟨A, hA⟩ : ∃ A, A = whereN s := ⟨_, rfl⟩
  obtain ⟨K, hK⟩ : ∃ K, K = whatN s := ⟨_, rfl⟩
  obtain ⟨T, hT⟩ : ∃ T, T = putF f := ⟨_, rfl⟩
  obtain ⟨E, hE⟩ : ∃ E, E = putE f := ⟨_, rfl⟩
  rw [← hF, ← hK] at cG
  rw [← hA, ← hK] at cW
  rw [← hT, ← hE] at cP
  rw [← hA] at hle hz
  rw [← hK] at hz
  rw [← hT] at hsz
  rw [← hE] at hp0 hp1
  change Hid (∀ W, Std W → Calls Tryd.prog 15 #[.string s] W fun ev w' => ev = .returned (.tuple #[.agg #[.int .i64 F.k, .int .i64 F.e, .int .u64 (F.q : Int), .int .u64 (F.a : Int), .string F.b], .int .i64 (K : Int)]) ∧ Ext W w') at cG
  have hle2 : (A : Int) ≤ (s.size : Int) := by omega
  have hle3 : (0 : Int) ≤ (A : Int) := by omega
  have e3 : IntKind.i64.wrap (27 + (f.b.size : Int)) = 27 + (f.b.size : Int) := wrapN _ (by omega) (by omega)
  have fin : (E = 0 ∧ T.size = 27 + f.b.size ∨ E = 60) ∧ (K = 0 ∧ A = 0 ∨ K ≠ 0) := by
    refine ⟨?_, ?_⟩
    · cases hr : rightB f
      · exact .inr (hp1 hr)
      · exact .inl ⟨hp0 hr, hsz hr⟩
    · by_cases hk : K = 0
      · exact .inl ⟨hk, hz hk⟩
      · exact .inr hk
  clear hw h1 h2 hF hA hK hT hE hsz hp0 hp1 hz hle hf
  have h3 : (E : Int) = 0 ∧ (T.size : Int) = 27 + (f.b.size : Int) ∨ (E : Int) = 60 := by omega
  have h4 : (K : Int) = 0 ∧ (A : Int) = 0 ∨ ((K : Int) == 0) = false ∧ ((K : Int) != 0) = true ∧ ¬ (K : Int) = 0 := by
    rcases fin.2 with h | h
    · exact .inl (by omega)
    · exact .inr ⟨beq_eq_false_iff_ne.2 (by omega), bne_iff_ne.2 (by omega), by omega⟩
  obtain ⟨E', hE'⟩ : ∃ E' : Int, E' = (E : Int) := ⟨_, rfl⟩
  obtain ⟨K', hK'⟩ : ∃ K' : Int, K' = (K : Int) := ⟨_, rfl⟩
  obtain ⟨A', hA'⟩ : ∃ A' : Int, A' = (A : Int) := ⟨_, rfl⟩
  rw [← hE'] at cP h3
  rw [← hK'] at cG cW h4
  rw [← hA'] at cW h4 hle2 hle3
  clear hE' hK' hA' fin
  rcases h3 with ⟨rfl, h3⟩ | rfl <;> rcases h4 with ⟨rfl, rfl⟩ | ⟨h4, h5, h6⟩
  all_goals
    go_enter Tryd.func7, Tryd.ntmps7
    go_wp2_with (first
      | (go_at_call 9; refine (awake_any _ (HT.out _ (Ext.refl _))).mono ?_; rintro e w1 ⟨rfl, x1⟩; have k1 := HK.out w1 x1)
      | (go_at_call 10; refine (cP.out _ (HT.out _ x1)).mono ?_; rintro e w2 ⟨rfl, x2⟩; have y2 := Lib.hid (Ext.trans x1 x2); have k2 := HK.out w2 y2.out; clear x1 x2 k1)
      | (go_at_call 16; refine (cW.out _ (HT.out _ y2.out)).mono ?_; rintro e w3 ⟨rfl, x3⟩; have y3 := Lib.hid (Ext.trans y2.out x3); clear x3 k2)
      | (go_at_call 15; refine (cG.out _ (HT.out _ y3.out)).mono ?_; rintro e w4 ⟨rfl, x4⟩; have y4 := Lib.hid (Ext.trans y3.out x4); have k4 := HK.out _ (Ext.alloc y4.out (.cells #[.int .i64 F.k, .int .i64 F.e, .int .u64 (F.q : Int), .int .u64 (F.a : Int), .string F.b] 25)); clear x4))
    go_ret
    exact ⟨rfl, HE.out _ (Ext.alloc y4.out _)⟩

set_option maxRecDepth 100000 in
set_option maxHeartbeats 1600000 in
theorem frameSizes_long (w : World) (hw : Std w) (f : Fr) (s : ByteArray) (h : ¬ (f.b.size ≤ 300 ∧ s.size ≤ 300)) :
    Calls Tryd.prog 7 #[.agg #[.int .i64 f.k, .int .i64 f.e, .int .u64 (f.q : Int), .int .u64 (f.a : Int), .string f.b], .string s] w fun e w' => e = .returned (.bool true) ∧ Ext w w' := by
  have HT : Hid (∀ W, Ext (w.alloc (.cells #[.int .i64 f.k, .int .i64 f.e, .int .u64 (f.q : Int), .int .u64 (f.a : Int), .string f.b] 25)) W → Std W) := Lib.hid fun W x => hw.ext (Ext.trans ((Ext.refl w).alloc _) x)
  have HK : Hid (∀ W, Ext (w.alloc (.cells #[.int .i64 f.k, .int .i64 f.e, .int .u64 (f.q : Int), .int .u64 (f.a : Int), .string f.b] 25)) W → (W.cell? ⟨w.heap.size, 0, none⟩ = some (.int .i64 f.k) ∧ W.cell? ⟨w.heap.size, 1, none⟩ = some (.int .i64 f.e) ∧ W.cell? ⟨w.heap.size, 2, none⟩ = some (.int .u64 (f.q : Int)) ∧ W.cell? ⟨w.heap.size, 3, none⟩ = some (.int .u64 (f.a : Int)) ∧ W.cell? ⟨w.heap.size, 4, none⟩ = some (.string f.b))) := Lib.hid fun W x => (five_cells (late_blk x)).1
  have HE : Hid (∀ W, Ext (w.alloc (.cells #[.int .i64 f.k, .int .i64 f.e, .int .u64 (f.q : Int), .int .u64 (f.a : Int), .string f.b] 25)) W → Ext w W) := Lib.hid fun W x => Ext.trans ((Ext.refl w).alloc _) x
  by_cases h1 : f.b.size ≤ 300
  · have e1 : ¬ ((300 : Int) < (f.b.size : Int)) := by omega
    have e2 : ((300 : Int) < (s.size : Int)) := by omega
    clear hw h h1
    go_enter Tryd.func7, Tryd.ntmps7
    go_wp2_with (first
      | (go_at_call 9; have hgd := x1; refine (awake_any _ (HT.out _ x1)).mono ?_; rintro e w2 ⟨rfl, x2⟩)
      | (go_at_call 9; refine (awake_any _ (HT.out _ (Ext.refl _))).mono ?_; rintro e w1 ⟨rfl, x1⟩; have k1 := HK.out w1 x1))
    go_ret
    exact ⟨rfl, HE.out _ (Ext.trans x1 x2)⟩
  · have e1 : ((300 : Int) < (f.b.size : Int)) := by omega
    clear hw h h1
    go_enter Tryd.func7, Tryd.ntmps7
    go_wp2_with (first
      | (go_at_call 9; have hgd := x1; refine (awake_any _ (HT.out _ x1)).mono ?_; rintro e w2 ⟨rfl, x2⟩)
      | (go_at_call 9; refine (awake_any _ (HT.out _ (Ext.refl _))).mono ?_; rintro e w1 ⟨rfl, x1⟩; have k1 := HK.out w1 x1))
    go_ret
    exact ⟨rfl, HE.out _ (Ext.trans x1 x2)⟩
end Go.Proofs.YtkfabocnhkmneaaDoor
