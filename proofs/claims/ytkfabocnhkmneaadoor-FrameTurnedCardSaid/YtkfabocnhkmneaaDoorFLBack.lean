/- FrameBack: walked. -/
import Derived.Test.YtkfabocnhkmneaaDoorFLSizes
namespace Go.Proofs.YtkfabocnhkmneaaDoor
open Go.RowKit

theorem frOf_in {s : ByteArray} (hs : s.size ≤ 300) : (frOf s).In := by
  have hx : ∀ i j, ∀ b ∈ ((bl s).drop i).take j, b < 256 := fun i j b hb => bl_lt s b (List.mem_of_mem_drop (List.mem_of_mem_take hb))
  have hn : ∀ i j, j ≤ 8 → numN (((bl s).drop i).take j) < 18446744073709551616 := fun i j hj => by
    have := numN_take_lt (l := ((bl s).drop i).take j) (hx i j) (by rw [List.length_take]; omega) j
    rwa [List.take_take, Nat.min_self] at this
  have h2 : numN (((bl s).drop 3).take 2) < 65536 := by
    have h1 := numN_lt (hx 3 2)
    have h2 : (((bl s).drop 3).take 2).length ≤ 2 := by rw [List.length_take]; omega
    have h3 : 256 ^ (((bl s).drop 3).take 2).length ≤ 256 ^ 2 := Nat.pow_le_pow_right (by decide) h2
    omega
  have hK : (bl s).getD 2 0 < 256 := by
    by_cases hi : 2 < (bl s).length
    · rw [List.getD_eq_getElem?_getD, List.getElem?_eq_getElem hi]
      exact bl_lt s _ (List.getElem_mem hi)
    · rw [List.getD_eq_getElem?_getD, List.getElem?_eq_none (by omega)]
      decide
  refine ⟨?_, ?_, hn 5 8 (by decide), hn 13 8 (by decide), ?_⟩
  · show -9223372036854775808 ≤ (((bl s).getD 2 0 : Nat) : Int) ∧ _
    exact ⟨by omega, by show (((bl s).getD 2 0 : Nat) : Int) ≤ _; omega⟩
  · show -9223372036854775808 ≤ ((numN (((bl s).drop 3).take 2) : Nat) : Int) ∧ _
    exact ⟨by omega, by show ((numN (((bl s).drop 3).take 2) : Nat) : Int) ≤ _; omega⟩
  · show (s.extract 23 (s.size - 4)).size ≤ _
    rw [ByteArray.size_extract]
    omega

theorem size_putF {f : Fr} (h : f.b.size ≤ 300) : (putF f).size ≤ 327 := by
  cases hr : rightB f
  · unfold putF
    rw [if_neg (by rw [hr]; decide)]
    decide
  · rw [putF_size hr]
    omega

set_option maxRecDepth 100000 in
set_option maxHeartbeats 1600000 in
theorem frameBack_rk (w : World) (hw : Std w) (f : Fr) (s : ByteArray) (hf : (-9223372036854775808 ≤ f.k ∧ f.k ≤ 9223372036854775807) ∧ (-9223372036854775808 ≤ f.e ∧ f.e ≤ 9223372036854775807) ∧ f.q < 18446744073709551616 ∧ f.a < 18446744073709551616) (h1 : f.b.size ≤ 300) (h2 : s.size ≤ 300) (hr : rightB f = true) (hk : whatN s = 0) :
    Calls Tryd.prog 5 #[.agg #[.int .i64 f.k, .int .i64 f.e, .int .u64 (f.q : Int), .int .u64 (f.a : Int), .string f.b], .string s] w fun e w' => e = .returned (.bool true) ∧ Ext w w' := by
  have HT : Hid (∀ W, Ext (w.alloc (.cells #[.int .i64 f.k, .int .i64 f.e, .int .u64 (f.q : Int), .int .u64 (f.a : Int), .string f.b] 25)) W → Std W) := Lib.hid fun W x => hw.ext (Ext.trans ((Ext.refl w).alloc _) x)
  have HK : Hid (∀ W, Ext (w.alloc (.cells #[.int .i64 f.k, .int .i64 f.e, .int .u64 (f.q : Int), .int .u64 (f.a : Int), .string f.b] 25)) W → (W.cell? ⟨w.heap.size, 0, none⟩ = some (.int .i64 f.k) ∧ W.cell? ⟨w.heap.size, 1, none⟩ = some (.int .i64 f.e) ∧ W.cell? ⟨w.heap.size, 2, none⟩ = some (.int .u64 (f.q : Int)) ∧ W.cell? ⟨w.heap.size, 3, none⟩ = some (.int .u64 (f.a : Int)) ∧ W.cell? ⟨w.heap.size, 4, none⟩ = some (.string f.b))) := Lib.hid fun W x => (five_cells (late_blk x)).1
  have HE : Hid (∀ W, Ext (w.alloc (.cells #[.int .i64 f.k, .int .i64 f.e, .int .u64 (f.q : Int), .int .u64 (f.a : Int), .string f.b] 25)) W → Ext w W) := Lib.hid fun W x => Ext.trans ((Ext.refl w).alloc _) x
  have e1 : ¬ ((300 : Int) < (f.b.size : Int)) := by omega
  have e2 : ¬ ((300 : Int) < (s.size : Int)) := by omega
  have cP := Lib.hid (fun W h => put_any W h f ⟨hf.1, hf.2.1, hf.2.2.1, hf.2.2.2, by omega⟩)
  have cR := Lib.hid (fun W => right_any W f.k f.e f.q f.a f.b)
  change Hid (∀ W, Calls Tryd.prog 11 #[.agg #[.int .i64 f.k, .int .i64 f.e, .int .u64 (f.q : Int), .int .u64 (f.a : Int), .string f.b]] W fun ev w' => ev = .returned (.bool (rightB f)) ∧ Ext W w') at cR
  rw [hr] at cR
  have hT3 := size_putF h1
  have cG := Lib.hid (fun W h => get_any W h (putF f) (by omega))
  have cH := Lib.hid (fun W h => get_any W h s (by omega))
  obtain ⟨g1, g2⟩ := put_get hf.2.2.1 hf.2.2.2 hr
  have hp0 : putE f = 0 := by unfold putE; rw [if_pos hr]
  rw [hp0] at cP
  rw [g1, g2] at cG
  change Hid (∀ W, Std W → Calls Tryd.prog 15 #[.string (putF f)] W fun ev w' => ev = .returned (.tuple #[.agg #[.int .i64 f.k, .int .i64 f.e, .int .u64 (f.q : Int), .int .u64 (f.a : Int), .string f.b], .int .i64 0]) ∧ Ext W w') at cG
  obtain ⟨T, hT⟩ : ∃ T, T = putF f := ⟨_, rfl⟩
  rw [← hT] at cP cG
  obtain ⟨hq, hq2⟩ := neq_f f f true (by simp)
  have HQ := Lib.hid hq
  have HQ2 := Lib.hid hq2
  clear g1 g2 hp0 hT hq hq2 hT3
  obtain ⟨j1, j2⟩ := get_put hk
  have j3 : getF s = frOf s := by unfold getF; rw [if_pos hk]
  rw [hk, j3] at cH
  have cU := Lib.hid (fun W h => put_any W h (frOf s) (frOf_in h2))
  have hp4 : putE (frOf s) = 0 := by unfold putE; rw [if_pos j1]
  rw [hp4, j2] at cU
  obtain ⟨F, hF⟩ : ∃ F, F = frOf s := ⟨_, rfl⟩
  rw [← hF] at cH cU
  change Hid (∀ W, Std W → Calls Tryd.prog 15 #[.string s] W fun ev w' => ev = .returned (.tuple #[.agg #[.int .i64 F.k, .int .i64 F.e, .int .u64 (F.q : Int), .int .u64 (F.a : Int), .string F.b], .int .i64 0]) ∧ Ext W w') at cH
  clear j1 j2 j3 hp4 hF hk
  clear hw h1 h2 hf hr
  go_enter Tryd.func5, Tryd.ntmps5
  go_wp2_with (first
    | (go_at_call 10; have hgd := y6; refine (cU.out _ (HT.out _ (Ext.alloc y6.out _))).mono ?_; rintro e w8 ⟨rfl, x8⟩; have y8 := Lib.hid (Ext.trans (Ext.alloc y6.out _) x8); clear x8)
    | (go_at_call 9; refine (awake_any _ (HT.out _ (Ext.refl _))).mono ?_; rintro e w1 ⟨rfl, x1⟩; have k1 := HK.out w1 x1)
    | (go_at_call 10; refine (cP.out _ (HT.out _ x1)).mono ?_; rintro e w2 ⟨rfl, x2⟩; have y2 := Lib.hid (Ext.trans x1 x2); have k2 := HK.out w2 y2.out; clear x1 x2 k1)
    | (go_at_call 15; have hgd := b3; refine (cH.out _ (HT.out _ y5.out)).mono ?_; rintro e w6 ⟨rfl, x6⟩; have y6 := Lib.hid (Ext.trans y5.out x6); clear x6; have k6 := (five_cells (get_alloc_new w6 (.cells #[.int .i64 F.k, .int .i64 F.e, .int .u64 (F.q : Int), .int .u64 (F.a : Int), .string F.b] 25))).1)
    | (go_at_call 15; refine (cG.out _ (HT.out _ y2.out)).mono ?_; rintro e w3 ⟨rfl, x3⟩; have y3 := Lib.hid (Ext.trans y2.out x3); clear x3; have b3 := Lib.hid (get_alloc_new w3 (.cells #[.int .i64 f.k, .int .i64 f.e, .int .u64 (f.q : Int), .int .u64 (f.a : Int), .string f.b] 25)); have y4 := Lib.hid (Ext.alloc y3.out (.cells #[.int .i64 f.k, .int .i64 f.e, .int .u64 (f.q : Int), .int .u64 (f.a : Int), .string f.b] 25)); have k3 := HK.out _ y4.out; have k4 := (five_cells b3.out).1; have hq := HQ.out; have hq2 := HQ2.out; clear k2)
    | (go_at_call 11; refine (cR.out _).mono ?_; rintro e w5 ⟨rfl, x5⟩; have y5 := Lib.hid (Ext.trans y4.out x5); have k5 := HK.out _ y5.out; have b5 := Lib.hid ((x5.block _ (blk_lt b3.out)).trans b3.out); have k7 := (five_cells b5.out).1; clear x5 k3 k4))
  go_ret
  exact ⟨rfl, HE.out _ y8.out⟩

set_option maxRecDepth 100000 in
set_option maxHeartbeats 1600000 in
theorem frameBack_re (w : World) (hw : Std w) (f : Fr) (s : ByteArray) (hf : (-9223372036854775808 ≤ f.k ∧ f.k ≤ 9223372036854775807) ∧ (-9223372036854775808 ≤ f.e ∧ f.e ≤ 9223372036854775807) ∧ f.q < 18446744073709551616 ∧ f.a < 18446744073709551616) (h1 : f.b.size ≤ 300) (h2 : s.size ≤ 300) (hr : rightB f = true) (hk : whatN s ≠ 0) :
    Calls Tryd.prog 5 #[.agg #[.int .i64 f.k, .int .i64 f.e, .int .u64 (f.q : Int), .int .u64 (f.a : Int), .string f.b], .string s] w fun e w' => e = .returned (.bool true) ∧ Ext w w' := by
  have HT : Hid (∀ W, Ext (w.alloc (.cells #[.int .i64 f.k, .int .i64 f.e, .int .u64 (f.q : Int), .int .u64 (f.a : Int), .string f.b] 25)) W → Std W) := Lib.hid fun W x => hw.ext (Ext.trans ((Ext.refl w).alloc _) x)
  have HK : Hid (∀ W, Ext (w.alloc (.cells #[.int .i64 f.k, .int .i64 f.e, .int .u64 (f.q : Int), .int .u64 (f.a : Int), .string f.b] 25)) W → (W.cell? ⟨w.heap.size, 0, none⟩ = some (.int .i64 f.k) ∧ W.cell? ⟨w.heap.size, 1, none⟩ = some (.int .i64 f.e) ∧ W.cell? ⟨w.heap.size, 2, none⟩ = some (.int .u64 (f.q : Int)) ∧ W.cell? ⟨w.heap.size, 3, none⟩ = some (.int .u64 (f.a : Int)) ∧ W.cell? ⟨w.heap.size, 4, none⟩ = some (.string f.b))) := Lib.hid fun W x => (five_cells (late_blk x)).1
  have HE : Hid (∀ W, Ext (w.alloc (.cells #[.int .i64 f.k, .int .i64 f.e, .int .u64 (f.q : Int), .int .u64 (f.a : Int), .string f.b] 25)) W → Ext w W) := Lib.hid fun W x => Ext.trans ((Ext.refl w).alloc _) x
  have e1 : ¬ ((300 : Int) < (f.b.size : Int)) := by omega
  have e2 : ¬ ((300 : Int) < (s.size : Int)) := by omega
  have cP := Lib.hid (fun W h => put_any W h f ⟨hf.1, hf.2.1, hf.2.2.1, hf.2.2.2, by omega⟩)
  have cR := Lib.hid (fun W => right_any W f.k f.e f.q f.a f.b)
  change Hid (∀ W, Calls Tryd.prog 11 #[.agg #[.int .i64 f.k, .int .i64 f.e, .int .u64 (f.q : Int), .int .u64 (f.a : Int), .string f.b]] W fun ev w' => ev = .returned (.bool (rightB f)) ∧ Ext W w') at cR
  rw [hr] at cR
  have hT3 := size_putF h1
  have cG := Lib.hid (fun W h => get_any W h (putF f) (by omega))
  have cH := Lib.hid (fun W h => get_any W h s (by omega))
  obtain ⟨g1, g2⟩ := put_get hf.2.2.1 hf.2.2.2 hr
  have hp0 : putE f = 0 := by unfold putE; rw [if_pos hr]
  rw [hp0] at cP
  rw [g1, g2] at cG
  change Hid (∀ W, Std W → Calls Tryd.prog 15 #[.string (putF f)] W fun ev w' => ev = .returned (.tuple #[.agg #[.int .i64 f.k, .int .i64 f.e, .int .u64 (f.q : Int), .int .u64 (f.a : Int), .string f.b], .int .i64 0]) ∧ Ext W w') at cG
  obtain ⟨T, hT⟩ : ∃ T, T = putF f := ⟨_, rfl⟩
  rw [← hT] at cP cG
  obtain ⟨hq, hq2⟩ := neq_f f f true (by simp)
  have HQ := Lib.hid hq
  have HQ2 := Lib.hid hq2
  clear g1 g2 hp0 hT hq hq2 hT3
  have j3 : getF s = Fr.zero := by unfold getF; rw [if_neg hk]
  obtain ⟨K, hK⟩ : ∃ K, K = whatN s := ⟨_, rfl⟩
  rw [j3, ← hK] at cH
  rw [← hK] at hk
  change Hid (∀ W, Std W → Calls Tryd.prog 15 #[.string s] W fun ev w' => ev = .returned (.tuple #[.agg #[.int .i64 0, .int .i64 0, .int .u64 0, .int .u64 0, .string ⟨#[]⟩], .int .i64 (K : Int)]) ∧ Ext W w') at cH
  have hk1 : ((K : Int) == 0) = false := beq_eq_false_iff_ne.2 (by omega)
  have hk2 : ((K : Int) != 0) = true := bne_iff_ne.2 (by omega)
  have hk3 : ¬ (K : Int) = 0 := by omega
  have HZ : Hid (∀ w : World, (binOp .eql 25 (.agg #[.int .i64 0, .int .i64 0, .int .u64 0, .int .u64 0, .string ⟨#[]⟩]) (.agg #[.int .i64 0, .int .i64 0, .int .u64 0, .int .u64 0, .string ⟨#[]⟩])).run Tryd.prog w = .ok (.bool true) w) := Lib.hid (eq_f Fr.zero Fr.zero true (by simp)).1
  have HZ2 : Hid (∀ (a b : Operand) (w : World), (eqGuard .eql 25 a b (.agg #[.int .i64 0, .int .i64 0, .int .u64 0, .int .u64 0, .string ⟨#[]⟩]) (.agg #[.int .i64 0, .int .i64 0, .int .u64 0, .int .u64 0, .string ⟨#[]⟩])).run Tryd.prog w = .ok () w) := Lib.hid (eq_f Fr.zero Fr.zero true (by simp)).2
  clear hK j3 hk
  clear hw h1 h2 hf hr
  go_enter Tryd.func5, Tryd.ntmps5
  go_wp2_with (first
    | (go_at_call 9; refine (awake_any _ (HT.out _ (Ext.refl _))).mono ?_; rintro e w1 ⟨rfl, x1⟩; have k1 := HK.out w1 x1)
    | (go_at_call 10; refine (cP.out _ (HT.out _ x1)).mono ?_; rintro e w2 ⟨rfl, x2⟩; have y2 := Lib.hid (Ext.trans x1 x2); have k2 := HK.out w2 y2.out; clear x1 x2 k1)
    | (go_at_call 15; have hgd := b3; refine (cH.out _ (HT.out _ y5.out)).mono ?_; rintro e w6 ⟨rfl, x6⟩; have y6 := Lib.hid (Ext.trans y5.out x6); clear x6; have hz := HZ.out; have hz2 := HZ2.out; have k6 := (five_cells (get_alloc_new w6 (.cells #[.int .i64 0, .int .i64 0, .int .u64 0, .int .u64 0, .string ⟨#[]⟩] 25))).1)
    | (go_at_call 15; refine (cG.out _ (HT.out _ y2.out)).mono ?_; rintro e w3 ⟨rfl, x3⟩; have y3 := Lib.hid (Ext.trans y2.out x3); clear x3; have b3 := Lib.hid (get_alloc_new w3 (.cells #[.int .i64 f.k, .int .i64 f.e, .int .u64 (f.q : Int), .int .u64 (f.a : Int), .string f.b] 25)); have y4 := Lib.hid (Ext.alloc y3.out (.cells #[.int .i64 f.k, .int .i64 f.e, .int .u64 (f.q : Int), .int .u64 (f.a : Int), .string f.b] 25)); have k3 := HK.out _ y4.out; have k4 := (five_cells b3.out).1; have hq := HQ.out; have hq2 := HQ2.out; clear k2)
    | (go_at_call 11; refine (cR.out _).mono ?_; rintro e w5 ⟨rfl, x5⟩; have y5 := Lib.hid (Ext.trans y4.out x5); have k5 := HK.out _ y5.out; have b5 := Lib.hid ((x5.block _ (blk_lt b3.out)).trans b3.out); have k7 := (five_cells b5.out).1; clear x5 k3 k4))
  go_ret
  exact ⟨rfl, HE.out _ (Ext.alloc y6.out _)⟩

set_option maxRecDepth 100000 in
set_option maxHeartbeats 1600000 in
theorem frameBack_nk (w : World) (hw : Std w) (f : Fr) (s : ByteArray) (hf : (-9223372036854775808 ≤ f.k ∧ f.k ≤ 9223372036854775807) ∧ (-9223372036854775808 ≤ f.e ∧ f.e ≤ 9223372036854775807) ∧ f.q < 18446744073709551616 ∧ f.a < 18446744073709551616) (h1 : f.b.size ≤ 300) (h2 : s.size ≤ 300) (hr : rightB f = false) (hk : whatN s = 0) :
    Calls Tryd.prog 5 #[.agg #[.int .i64 f.k, .int .i64 f.e, .int .u64 (f.q : Int), .int .u64 (f.a : Int), .string f.b], .string s] w fun e w' => e = .returned (.bool true) ∧ Ext w w' := by
  have HT : Hid (∀ W, Ext (w.alloc (.cells #[.int .i64 f.k, .int .i64 f.e, .int .u64 (f.q : Int), .int .u64 (f.a : Int), .string f.b] 25)) W → Std W) := Lib.hid fun W x => hw.ext (Ext.trans ((Ext.refl w).alloc _) x)
  have HK : Hid (∀ W, Ext (w.alloc (.cells #[.int .i64 f.k, .int .i64 f.e, .int .u64 (f.q : Int), .int .u64 (f.a : Int), .string f.b] 25)) W → (W.cell? ⟨w.heap.size, 0, none⟩ = some (.int .i64 f.k) ∧ W.cell? ⟨w.heap.size, 1, none⟩ = some (.int .i64 f.e) ∧ W.cell? ⟨w.heap.size, 2, none⟩ = some (.int .u64 (f.q : Int)) ∧ W.cell? ⟨w.heap.size, 3, none⟩ = some (.int .u64 (f.a : Int)) ∧ W.cell? ⟨w.heap.size, 4, none⟩ = some (.string f.b))) := Lib.hid fun W x => (five_cells (late_blk x)).1
  have HE : Hid (∀ W, Ext (w.alloc (.cells #[.int .i64 f.k, .int .i64 f.e, .int .u64 (f.q : Int), .int .u64 (f.a : Int), .string f.b] 25)) W → Ext w W) := Lib.hid fun W x => Ext.trans ((Ext.refl w).alloc _) x
  have e1 : ¬ ((300 : Int) < (f.b.size : Int)) := by omega
  have e2 : ¬ ((300 : Int) < (s.size : Int)) := by omega
  have cP := Lib.hid (fun W h => put_any W h f ⟨hf.1, hf.2.1, hf.2.2.1, hf.2.2.2, by omega⟩)
  have cR := Lib.hid (fun W => right_any W f.k f.e f.q f.a f.b)
  change Hid (∀ W, Calls Tryd.prog 11 #[.agg #[.int .i64 f.k, .int .i64 f.e, .int .u64 (f.q : Int), .int .u64 (f.a : Int), .string f.b]] W fun ev w' => ev = .returned (.bool (rightB f)) ∧ Ext W w') at cR
  rw [hr] at cR
  have hT3 := size_putF h1
  have cG := Lib.hid (fun W h => get_any W h (putF f) (by omega))
  have cH := Lib.hid (fun W h => get_any W h s (by omega))
  have hp0 : putE f = 60 := by unfold putE; rw [if_neg (by rw [hr]; decide)]
  have hp1 : putF f = ⟨#[]⟩ := by unfold putF; rw [if_neg (by rw [hr]; decide)]
  rw [hp0, hp1] at cP
  rw [hp1] at cG
  obtain ⟨G, hG⟩ : ∃ G, G = getF ⟨#[]⟩ := ⟨_, rfl⟩
  obtain ⟨K0, hK0⟩ : ∃ K0, K0 = whatN ⟨#[]⟩ := ⟨_, rfl⟩
  rw [← hG, ← hK0] at cG
  change Hid (∀ W, Std W → Calls Tryd.prog 15 #[.string ⟨#[]⟩] W fun ev w' => ev = .returned (.tuple #[.agg #[.int .i64 G.k, .int .i64 G.e, .int .u64 (G.q : Int), .int .u64 (G.a : Int), .string G.b], .int .i64 (K0 : Int)]) ∧ Ext W w') at cG
  clear hp0 hp1 hG hK0 hT3
  obtain ⟨j1, j2⟩ := get_put hk
  have j3 : getF s = frOf s := by unfold getF; rw [if_pos hk]
  rw [hk, j3] at cH
  have cU := Lib.hid (fun W h => put_any W h (frOf s) (frOf_in h2))
  have hp4 : putE (frOf s) = 0 := by unfold putE; rw [if_pos j1]
  rw [hp4, j2] at cU
  obtain ⟨F, hF⟩ : ∃ F, F = frOf s := ⟨_, rfl⟩
  rw [← hF] at cH cU
  change Hid (∀ W, Std W → Calls Tryd.prog 15 #[.string s] W fun ev w' => ev = .returned (.tuple #[.agg #[.int .i64 F.k, .int .i64 F.e, .int .u64 (F.q : Int), .int .u64 (F.a : Int), .string F.b], .int .i64 0]) ∧ Ext W w') at cH
  clear j1 j2 j3 hp4 hF hk
  clear hw h1 h2 hf hr
  go_enter Tryd.func5, Tryd.ntmps5
  go_wp2_with (first
    | (go_at_call 10; have hgd := y6; refine (cU.out _ (HT.out _ (Ext.alloc y6.out _))).mono ?_; rintro e w8 ⟨rfl, x8⟩; have y8 := Lib.hid (Ext.trans (Ext.alloc y6.out _) x8); clear x8)
    | (go_at_call 9; refine (awake_any _ (HT.out _ (Ext.refl _))).mono ?_; rintro e w1 ⟨rfl, x1⟩; have k1 := HK.out w1 x1)
    | (go_at_call 10; refine (cP.out _ (HT.out _ x1)).mono ?_; rintro e w2 ⟨rfl, x2⟩; have y2 := Lib.hid (Ext.trans x1 x2); have k2 := HK.out w2 y2.out; clear x1 x2 k1)
    | (go_at_call 15; have hgd := b3; refine (cH.out _ (HT.out _ y5.out)).mono ?_; rintro e w6 ⟨rfl, x6⟩; have y6 := Lib.hid (Ext.trans y5.out x6); clear x6; have k6 := (five_cells (get_alloc_new w6 (.cells #[.int .i64 F.k, .int .i64 F.e, .int .u64 (F.q : Int), .int .u64 (F.a : Int), .string F.b] 25))).1)
    | (go_at_call 15; refine (cG.out _ (HT.out _ y2.out)).mono ?_; rintro e w3 ⟨rfl, x3⟩; have y3 := Lib.hid (Ext.trans y2.out x3); clear x3; have b3 := Lib.hid (get_alloc_new w3 (.cells #[.int .i64 G.k, .int .i64 G.e, .int .u64 (G.q : Int), .int .u64 (G.a : Int), .string G.b] 25)); have y4 := Lib.hid (Ext.alloc y3.out (.cells #[.int .i64 G.k, .int .i64 G.e, .int .u64 (G.q : Int), .int .u64 (G.a : Int), .string G.b] 25)); have k3 := HK.out _ y4.out; have k4 := (five_cells b3.out).1; clear k2)
    | (go_at_call 11; refine (cR.out _).mono ?_; rintro e w5 ⟨rfl, x5⟩; have y5 := Lib.hid (Ext.trans y4.out x5); have k5 := HK.out _ y5.out; have b5 := Lib.hid ((x5.block _ (blk_lt b3.out)).trans b3.out); have k7 := (five_cells b5.out).1; clear x5 k3 k4))
  go_ret
  exact ⟨rfl, HE.out _ y8.out⟩

set_option maxRecDepth 100000 in
set_option maxHeartbeats 1600000 in
theorem frameBack_ne (w : World) (hw : Std w) (f : Fr) (s : ByteArray) (hf : (-9223372036854775808 ≤ f.k ∧ f.k ≤ 9223372036854775807) ∧ (-9223372036854775808 ≤ f.e ∧ f.e ≤ 9223372036854775807) ∧ f.q < 18446744073709551616 ∧ f.a < 18446744073709551616) (h1 : f.b.size ≤ 300) (h2 : s.size ≤ 300) (hr : rightB f = false) (hk : whatN s ≠ 0) :
    Calls Tryd.prog 5 #[.agg #[.int .i64 f.k, .int .i64 f.e, .int .u64 (f.q : Int), .int .u64 (f.a : Int), .string f.b], .string s] w fun e w' => e = .returned (.bool true) ∧ Ext w w' := by
  have HT : Hid (∀ W, Ext (w.alloc (.cells #[.int .i64 f.k, .int .i64 f.e, .int .u64 (f.q : Int), .int .u64 (f.a : Int), .string f.b] 25)) W → Std W) := Lib.hid fun W x => hw.ext (Ext.trans ((Ext.refl w).alloc _) x)
  have HK : Hid (∀ W, Ext (w.alloc (.cells #[.int .i64 f.k, .int .i64 f.e, .int .u64 (f.q : Int), .int .u64 (f.a : Int), .string f.b] 25)) W → (W.cell? ⟨w.heap.size, 0, none⟩ = some (.int .i64 f.k) ∧ W.cell? ⟨w.heap.size, 1, none⟩ = some (.int .i64 f.e) ∧ W.cell? ⟨w.heap.size, 2, none⟩ = some (.int .u64 (f.q : Int)) ∧ W.cell? ⟨w.heap.size, 3, none⟩ = some (.int .u64 (f.a : Int)) ∧ W.cell? ⟨w.heap.size, 4, none⟩ = some (.string f.b))) := Lib.hid fun W x => (five_cells (late_blk x)).1
  have HE : Hid (∀ W, Ext (w.alloc (.cells #[.int .i64 f.k, .int .i64 f.e, .int .u64 (f.q : Int), .int .u64 (f.a : Int), .string f.b] 25)) W → Ext w W) := Lib.hid fun W x => Ext.trans ((Ext.refl w).alloc _) x
  have e1 : ¬ ((300 : Int) < (f.b.size : Int)) := by omega
  have e2 : ¬ ((300 : Int) < (s.size : Int)) := by omega
  have cP := Lib.hid (fun W h => put_any W h f ⟨hf.1, hf.2.1, hf.2.2.1, hf.2.2.2, by omega⟩)
  have cR := Lib.hid (fun W => right_any W f.k f.e f.q f.a f.b)
  change Hid (∀ W, Calls Tryd.prog 11 #[.agg #[.int .i64 f.k, .int .i64 f.e, .int .u64 (f.q : Int), .int .u64 (f.a : Int), .string f.b]] W fun ev w' => ev = .returned (.bool (rightB f)) ∧ Ext W w') at cR
  rw [hr] at cR
  have hT3 := size_putF h1
  have cG := Lib.hid (fun W h => get_any W h (putF f) (by omega))
  have cH := Lib.hid (fun W h => get_any W h s (by omega))
  have hp0 : putE f = 60 := by unfold putE; rw [if_neg (by rw [hr]; decide)]
  have hp1 : putF f = ⟨#[]⟩ := by unfold putF; rw [if_neg (by rw [hr]; decide)]
  rw [hp0, hp1] at cP
  rw [hp1] at cG
  obtain ⟨G, hG⟩ : ∃ G, G = getF ⟨#[]⟩ := ⟨_, rfl⟩
  obtain ⟨K0, hK0⟩ : ∃ K0, K0 = whatN ⟨#[]⟩ := ⟨_, rfl⟩
  rw [← hG, ← hK0] at cG
  change Hid (∀ W, Std W → Calls Tryd.prog 15 #[.string ⟨#[]⟩] W fun ev w' => ev = .returned (.tuple #[.agg #[.int .i64 G.k, .int .i64 G.e, .int .u64 (G.q : Int), .int .u64 (G.a : Int), .string G.b], .int .i64 (K0 : Int)]) ∧ Ext W w') at cG
  clear hp0 hp1 hG hK0 hT3
  have j3 : getF s = Fr.zero := by unfold getF; rw [if_neg hk]
  obtain ⟨K, hK⟩ : ∃ K, K = whatN s := ⟨_, rfl⟩
  rw [j3, ← hK] at cH
  rw [← hK] at hk
  change Hid (∀ W, Std W → Calls Tryd.prog 15 #[.string s] W fun ev w' => ev = .returned (.tuple #[.agg #[.int .i64 0, .int .i64 0, .int .u64 0, .int .u64 0, .string ⟨#[]⟩], .int .i64 (K : Int)]) ∧ Ext W w') at cH
  have hk1 : ((K : Int) == 0) = false := beq_eq_false_iff_ne.2 (by omega)
  have hk2 : ((K : Int) != 0) = true := bne_iff_ne.2 (by omega)
  have hk3 : ¬ (K : Int) = 0 := by omega
  have HZ : Hid (∀ w : World, (binOp .eql 25 (.agg #[.int .i64 0, .int .i64 0, .int .u64 0, .int .u64 0, .string ⟨#[]⟩]) (.agg #[.int .i64 0, .int .i64 0, .int .u64 0, .int .u64 0, .string ⟨#[]⟩])).run Tryd.prog w = .ok (.bool true) w) := Lib.hid (eq_f Fr.zero Fr.zero true (by simp)).1
  have HZ2 : Hid (∀ (a b : Operand) (w : World), (eqGuard .eql 25 a b (.agg #[.int .i64 0, .int .i64 0, .int .u64 0, .int .u64 0, .string ⟨#[]⟩]) (.agg #[.int .i64 0, .int .i64 0, .int .u64 0, .int .u64 0, .string ⟨#[]⟩])).run Tryd.prog w = .ok () w) := Lib.hid (eq_f Fr.zero Fr.zero true (by simp)).2
  clear hK j3 hk
  clear hw h1 h2 hf hr
  go_enter Tryd.func5, Tryd.ntmps5
  go_wp2_with (first
    | (go_at_call 9; refine (awake_any _ (HT.out _ (Ext.refl _))).mono ?_; rintro e w1 ⟨rfl, x1⟩; have k1 := HK.out w1 x1)
    | (go_at_call 10; refine (cP.out _ (HT.out _ x1)).mono ?_; rintro e w2 ⟨rfl, x2⟩; have y2 := Lib.hid (Ext.trans x1 x2); have k2 := HK.out w2 y2.out; clear x1 x2 k1)
    | (go_at_call 15; have hgd := b3; refine (cH.out _ (HT.out _ y5.out)).mono ?_; rintro e w6 ⟨rfl, x6⟩; have y6 := Lib.hid (Ext.trans y5.out x6); clear x6; have hz := HZ.out; have hz2 := HZ2.out; have k6 := (five_cells (get_alloc_new w6 (.cells #[.int .i64 0, .int .i64 0, .int .u64 0, .int .u64 0, .string ⟨#[]⟩] 25))).1)
    | (go_at_call 15; refine (cG.out _ (HT.out _ y2.out)).mono ?_; rintro e w3 ⟨rfl, x3⟩; have y3 := Lib.hid (Ext.trans y2.out x3); clear x3; have b3 := Lib.hid (get_alloc_new w3 (.cells #[.int .i64 G.k, .int .i64 G.e, .int .u64 (G.q : Int), .int .u64 (G.a : Int), .string G.b] 25)); have y4 := Lib.hid (Ext.alloc y3.out (.cells #[.int .i64 G.k, .int .i64 G.e, .int .u64 (G.q : Int), .int .u64 (G.a : Int), .string G.b] 25)); have k3 := HK.out _ y4.out; have k4 := (five_cells b3.out).1; clear k2)
    | (go_at_call 11; refine (cR.out _).mono ?_; rintro e w5 ⟨rfl, x5⟩; have y5 := Lib.hid (Ext.trans y4.out x5); have k5 := HK.out _ y5.out; have b5 := Lib.hid ((x5.block _ (blk_lt b3.out)).trans b3.out); have k7 := (five_cells b5.out).1; clear x5 k3 k4))
  go_ret
  exact ⟨rfl, HE.out _ (Ext.alloc y6.out _)⟩

theorem frameBack_short (w : World) (hw : Std w) (f : Fr) (s : ByteArray) (hf : (-9223372036854775808 ≤ f.k ∧ f.k ≤ 9223372036854775807) ∧ (-9223372036854775808 ≤ f.e ∧ f.e ≤ 9223372036854775807) ∧ f.q < 18446744073709551616 ∧ f.a < 18446744073709551616) (h1 : f.b.size ≤ 300) (h2 : s.size ≤ 300) :
    Calls Tryd.prog 5 #[.agg #[.int .i64 f.k, .int .i64 f.e, .int .u64 (f.q : Int), .int .u64 (f.a : Int), .string f.b], .string s] w fun e w' => e = .returned (.bool true) ∧ Ext w w' := by
  cases hr : rightB f
  · by_cases hk : whatN s = 0
    · exact frameBack_nk w hw f s hf h1 h2 hr hk
    · exact frameBack_ne w hw f s hf h1 h2 hr hk
  · by_cases hk : whatN s = 0
    · exact frameBack_rk w hw f s hf h1 h2 hr hk
    · exact frameBack_re w hw f s hf h1 h2 hr hk

set_option maxRecDepth 100000 in
set_option maxHeartbeats 1600000 in
theorem frameBack_long (w : World) (hw : Std w) (f : Fr) (s : ByteArray) (h : ¬ (f.b.size ≤ 300 ∧ s.size ≤ 300)) :
    Calls Tryd.prog 5 #[.agg #[.int .i64 f.k, .int .i64 f.e, .int .u64 (f.q : Int), .int .u64 (f.a : Int), .string f.b], .string s] w fun e w' => e = .returned (.bool true) ∧ Ext w w' := by
  have HT : Hid (∀ W, Ext (w.alloc (.cells #[.int .i64 f.k, .int .i64 f.e, .int .u64 (f.q : Int), .int .u64 (f.a : Int), .string f.b] 25)) W → Std W) := Lib.hid fun W x => hw.ext (Ext.trans ((Ext.refl w).alloc _) x)
  have HK : Hid (∀ W, Ext (w.alloc (.cells #[.int .i64 f.k, .int .i64 f.e, .int .u64 (f.q : Int), .int .u64 (f.a : Int), .string f.b] 25)) W → (W.cell? ⟨w.heap.size, 0, none⟩ = some (.int .i64 f.k) ∧ W.cell? ⟨w.heap.size, 1, none⟩ = some (.int .i64 f.e) ∧ W.cell? ⟨w.heap.size, 2, none⟩ = some (.int .u64 (f.q : Int)) ∧ W.cell? ⟨w.heap.size, 3, none⟩ = some (.int .u64 (f.a : Int)) ∧ W.cell? ⟨w.heap.size, 4, none⟩ = some (.string f.b))) := Lib.hid fun W x => (five_cells (late_blk x)).1
  have HE : Hid (∀ W, Ext (w.alloc (.cells #[.int .i64 f.k, .int .i64 f.e, .int .u64 (f.q : Int), .int .u64 (f.a : Int), .string f.b] 25)) W → Ext w W) := Lib.hid fun W x => Ext.trans ((Ext.refl w).alloc _) x
  by_cases h1 : f.b.size ≤ 300
  · have e1 : ¬ ((300 : Int) < (f.b.size : Int)) := by omega
    have e2 : ((300 : Int) < (s.size : Int)) := by omega
    clear hw h h1
    go_enter Tryd.func5, Tryd.ntmps5
    go_wp2_with (first
      | (go_at_call 9; have hgd := x1; refine (awake_any _ (HT.out _ x1)).mono ?_; rintro e w2 ⟨rfl, x2⟩)
      | (go_at_call 9; refine (awake_any _ (HT.out _ (Ext.refl _))).mono ?_; rintro e w1 ⟨rfl, x1⟩; have k1 := HK.out w1 x1))
    go_ret
    exact ⟨rfl, HE.out _ (Ext.trans x1 x2)⟩
  · have e1 : ((300 : Int) < (f.b.size : Int)) := by omega
    clear hw h h1
    go_enter Tryd.func5, Tryd.ntmps5
    go_wp2_with (first
      | (go_at_call 9; have hgd := x1; refine (awake_any _ (HT.out _ x1)).mono ?_; rintro e w2 ⟨rfl, x2⟩)
      | (go_at_call 9; refine (awake_any _ (HT.out _ (Ext.refl _))).mono ?_; rintro e w1 ⟨rfl, x1⟩; have k1 := HK.out w1 x1))
    go_ret
    exact ⟨rfl, HE.out _ (Ext.trans x1 x2)⟩
end Go.Proofs.YtkfabocnhkmneaaDoor
