/- MsgBack: walked. -/
import Derived.Test.YtffgphhmkghlnaaDoorMLGets
namespace Go.Proofs.YtffgphhmkghlnaaDoor
open Go.RowKit

set_option maxRecDepth 100000 in
set_option maxHeartbeats 1600000 in
theorem msgBack_rk (w : World) (hw : Std w) (m : Mg) (s : ByteArray) (h2 : s.size ≤ 100) (hr : rightM m = true) (hk : gotM s = true) :
    Calls Tryd.prog 5 #[.agg #[.int .i64 m.k, .int .i64 m.e, .int .i64 m.n], .string s] w fun e w' => e = .returned (.bool true) ∧ Ext w w' := by
  have HT : Hid (∀ W, Ext (w.alloc (.cells #[.int .i64 m.k, .int .i64 m.e, .int .i64 m.n] 24)) W → Std W) := Lib.hid fun W x => hw.ext (Ext.trans ((Ext.refl w).alloc _) x)
  have HK : Hid (∀ W, Ext (w.alloc (.cells #[.int .i64 m.k, .int .i64 m.e, .int .i64 m.n] 24)) W → (W.cell? ⟨w.heap.size, 0, none⟩ = some (.int .i64 m.k) ∧ W.cell? ⟨w.heap.size, 1, none⟩ = some (.int .i64 m.e) ∧ W.cell? ⟨w.heap.size, 2, none⟩ = some (.int .i64 m.n))) := Lib.hid fun W x => (three_cells (late_blk x)).1
  have HE : Hid (∀ W, Ext (w.alloc (.cells #[.int .i64 m.k, .int .i64 m.e, .int .i64 m.n] 24)) W → Ext w W) := Lib.hid fun W x => Ext.trans ((Ext.refl w).alloc _) x
  have e2 : ¬ ((100 : Int) < (s.size : Int)) := by omega
  have cP := Lib.hid (fun W => put_any W m)
  have cR := Lib.hid (fun W => right_any W m)
  rw [hr] at cR
  have cH := Lib.hid (fun W => get_any W s (by omega))
  obtain ⟨g1, g2⟩ := putM_got hr
  have p1 : putF m = putMs m := by unfold putF; rw [if_pos hr]
  have p2 : putE m = 0 := by unfold putE; rw [if_pos hr]
  have p3 : getE (putMs m) = 0 := by unfold getE; rw [if_pos g1]
  have z5 : (putMs m).size ≤ 5 := by rw [putMs_size]; split <;> omega
  have cG := Lib.hid (fun W => get_any W (putMs m) (by omega))
  rw [g2, p3] at cG
  rw [p1, p2] at cP
  change Hid (∀ W, Calls Tryd.prog 17 #[.string (putMs m)] W fun ev w' => ev = .returned (.tuple #[.agg #[.int .i64 m.k, .int .i64 m.e, .int .i64 m.n], .int .i64 0]) ∧ Ext W w') at cG
  obtain ⟨T, hT⟩ : ∃ T, T = putMs m := ⟨_, rfl⟩
  rw [← hT] at cP cG z5
  have z6 : ¬ ((64 : Int) < (T.size : Int)) := by omega
  obtain ⟨hq, hq2⟩ := neq_m m m true (by simp)
  have HQ := Lib.hid hq
  have HQ2 := Lib.hid hq2
  clear g1 g2 p1 p2 p3 hT hq hq2 z5
  obtain ⟨j1, j2⟩ := gotM_put hk
  have p5 : getE s = 0 := by unfold getE; rw [if_pos hk]
  rw [p5] at cH
  have cU := Lib.hid (fun W => put_any W (getM s))
  have p6 : putF (getM s) = s := by unfold putF; rw [if_pos j1, j2]
  have p7 : putE (getM s) = 0 := by unfold putE; rw [if_pos j1]
  rw [p6, p7] at cU
  obtain ⟨F, hF⟩ : ∃ F, F = getM s := ⟨_, rfl⟩
  rw [← hF] at cH cU
  change Hid (∀ W, Calls Tryd.prog 17 #[.string s] W fun ev w' => ev = .returned (.tuple #[.agg #[.int .i64 F.k, .int .i64 F.e, .int .i64 F.n], .int .i64 0]) ∧ Ext W w') at cH
  clear j1 j2 p5 p6 p7 hF hk
  clear hw h2 hr
  go_enter Tryd.func5, Tryd.ntmps5
  go_wp2_with (first
    | (go_at_call 8; refine (awake_any _ (HT.out _ (Ext.refl _))).mono ?_; rintro e w1 ⟨rfl, x1⟩; have y1 := Lib.hid x1; have k1 := HK.out w1 x1; clear x1)
    | (go_at_call 9; have hgd := y6; refine (cU.out _).mono ?_; rintro e w8 ⟨rfl, x8⟩; have y8 := Lib.hid (Ext.trans (Ext.alloc y6.out _) x8); clear x8)
    | (go_at_call 9; refine (cP.out _).mono ?_; rintro e w2 ⟨rfl, x2⟩; have y2 := Lib.hid (Ext.trans y1.out x2); have k2 := HK.out w2 y2.out; clear x2 k1)
    | (go_at_call 17; have hgd := b3; refine (cH.out _).mono ?_; rintro e w6 ⟨rfl, x6⟩; have y6 := Lib.hid (Ext.trans y5.out x6); clear x6; have k6 := (three_cells (get_alloc_new w6 (.cells #[.int .i64 F.k, .int .i64 F.e, .int .i64 F.n] 24))).1)
    | (go_at_call 17; refine (cG.out _).mono ?_; rintro e w3 ⟨rfl, x3⟩; have y3 := Lib.hid (Ext.trans y2.out x3); clear x3; have b3 := Lib.hid (get_alloc_new w3 (.cells #[.int .i64 m.k, .int .i64 m.e, .int .i64 m.n] 24)); have y4 := Lib.hid (Ext.alloc y3.out (.cells #[.int .i64 m.k, .int .i64 m.e, .int .i64 m.n] 24)); have k3 := HK.out _ y4.out; have k4 := (three_cells b3.out).1; have hq := HQ.out; have hq2 := HQ2.out; clear k2)
    | (go_at_call 10; refine (cR.out _).mono ?_; rintro e w5 ⟨rfl, x5⟩; have y5 := Lib.hid (Ext.trans y4.out x5); have k5 := HK.out _ y5.out; have k7 := (three_cells (blk_later b3.out x5)).1; clear x5 k3 k4))
  go_ret
  exact ⟨rfl, HE.out _ y8.out⟩

set_option maxRecDepth 100000 in
set_option maxHeartbeats 1600000 in
theorem msgBack_re (w : World) (hw : Std w) (m : Mg) (s : ByteArray) (h2 : s.size ≤ 100) (hr : rightM m = true) (hk : gotM s = false) :
    Calls Tryd.prog 5 #[.agg #[.int .i64 m.k, .int .i64 m.e, .int .i64 m.n], .string s] w fun e w' => e = .returned (.bool true) ∧ Ext w w' := by
  have HT : Hid (∀ W, Ext (w.alloc (.cells #[.int .i64 m.k, .int .i64 m.e, .int .i64 m.n] 24)) W → Std W) := Lib.hid fun W x => hw.ext (Ext.trans ((Ext.refl w).alloc _) x)
  have HK : Hid (∀ W, Ext (w.alloc (.cells #[.int .i64 m.k, .int .i64 m.e, .int .i64 m.n] 24)) W → (W.cell? ⟨w.heap.size, 0, none⟩ = some (.int .i64 m.k) ∧ W.cell? ⟨w.heap.size, 1, none⟩ = some (.int .i64 m.e) ∧ W.cell? ⟨w.heap.size, 2, none⟩ = some (.int .i64 m.n))) := Lib.hid fun W x => (three_cells (late_blk x)).1
  have HE : Hid (∀ W, Ext (w.alloc (.cells #[.int .i64 m.k, .int .i64 m.e, .int .i64 m.n] 24)) W → Ext w W) := Lib.hid fun W x => Ext.trans ((Ext.refl w).alloc _) x
  have e2 : ¬ ((100 : Int) < (s.size : Int)) := by omega
  have cP := Lib.hid (fun W => put_any W m)
  have cR := Lib.hid (fun W => right_any W m)
  rw [hr] at cR
  have cH := Lib.hid (fun W => get_any W s (by omega))
  obtain ⟨g1, g2⟩ := putM_got hr
  have p1 : putF m = putMs m := by unfold putF; rw [if_pos hr]
  have p2 : putE m = 0 := by unfold putE; rw [if_pos hr]
  have p3 : getE (putMs m) = 0 := by unfold getE; rw [if_pos g1]
  have z5 : (putMs m).size ≤ 5 := by rw [putMs_size]; split <;> omega
  have cG := Lib.hid (fun W => get_any W (putMs m) (by omega))
  rw [g2, p3] at cG
  rw [p1, p2] at cP
  change Hid (∀ W, Calls Tryd.prog 17 #[.string (putMs m)] W fun ev w' => ev = .returned (.tuple #[.agg #[.int .i64 m.k, .int .i64 m.e, .int .i64 m.n], .int .i64 0]) ∧ Ext W w') at cG
  obtain ⟨T, hT⟩ : ∃ T, T = putMs m := ⟨_, rfl⟩
  rw [← hT] at cP cG z5
  have z6 : ¬ ((64 : Int) < (T.size : Int)) := by omega
  obtain ⟨hq, hq2⟩ := neq_m m m true (by simp)
  have HQ := Lib.hid hq
  have HQ2 := Lib.hid hq2
  clear g1 g2 p1 p2 p3 hT hq hq2 z5
  have p5 : getE s = 71 := by unfold getE; rw [if_neg (by rw [hk]; decide)]
  rw [not_got hk, p5] at cH
  change Hid (∀ W, Calls Tryd.prog 17 #[.string s] W fun ev w' => ev = .returned (.tuple #[.agg #[.int .i64 0, .int .i64 0, .int .i64 0], .int .i64 71]) ∧ Ext W w') at cH
  have HZ : Hid (∀ w : World, (binOp .eql 24 (.agg #[.int .i64 0, .int .i64 0, .int .i64 0]) (.agg #[.int .i64 0, .int .i64 0, .int .i64 0])).run Tryd.prog w = .ok (.bool true) w) := Lib.hid (eq_m ⟨0, 0, 0⟩ ⟨0, 0, 0⟩ true (by simp)).1
  have HZ2 : Hid (∀ (a b : Operand) (w : World), (eqGuard .eql 24 a b (.agg #[.int .i64 0, .int .i64 0, .int .i64 0]) (.agg #[.int .i64 0, .int .i64 0, .int .i64 0])).run Tryd.prog w = .ok () w) := Lib.hid (eq_m ⟨0, 0, 0⟩ ⟨0, 0, 0⟩ true (by simp)).2
  clear hk p5
  clear hw h2 hr
  go_enter Tryd.func5, Tryd.ntmps5
  go_wp2_with (first
    | (go_at_call 8; refine (awake_any _ (HT.out _ (Ext.refl _))).mono ?_; rintro e w1 ⟨rfl, x1⟩; have y1 := Lib.hid x1; have k1 := HK.out w1 x1; clear x1)
    | (go_at_call 9; refine (cP.out _).mono ?_; rintro e w2 ⟨rfl, x2⟩; have y2 := Lib.hid (Ext.trans y1.out x2); have k2 := HK.out w2 y2.out; clear x2 k1)
    | (go_at_call 17; have hgd := b3; refine (cH.out _).mono ?_; rintro e w6 ⟨rfl, x6⟩; have y6 := Lib.hid (Ext.trans y5.out x6); clear x6; have hz := HZ.out; have hz2 := HZ2.out; have k6 := (three_cells (get_alloc_new w6 (.cells #[.int .i64 0, .int .i64 0, .int .i64 0] 24))).1)
    | (go_at_call 17; refine (cG.out _).mono ?_; rintro e w3 ⟨rfl, x3⟩; have y3 := Lib.hid (Ext.trans y2.out x3); clear x3; have b3 := Lib.hid (get_alloc_new w3 (.cells #[.int .i64 m.k, .int .i64 m.e, .int .i64 m.n] 24)); have y4 := Lib.hid (Ext.alloc y3.out (.cells #[.int .i64 m.k, .int .i64 m.e, .int .i64 m.n] 24)); have k3 := HK.out _ y4.out; have k4 := (three_cells b3.out).1; have hq := HQ.out; have hq2 := HQ2.out; clear k2)
    | (go_at_call 10; refine (cR.out _).mono ?_; rintro e w5 ⟨rfl, x5⟩; have y5 := Lib.hid (Ext.trans y4.out x5); have k5 := HK.out _ y5.out; have k7 := (three_cells (blk_later b3.out x5)).1; clear x5 k3 k4))
  go_ret
  exact ⟨rfl, HE.out _ (Ext.alloc y6.out _)⟩

set_option maxRecDepth 100000 in
set_option maxHeartbeats 1600000 in
theorem msgBack_nk (w : World) (hw : Std w) (m : Mg) (s : ByteArray) (h2 : s.size ≤ 100) (hr : rightM m = false) (hk : gotM s = true) :
    Calls Tryd.prog 5 #[.agg #[.int .i64 m.k, .int .i64 m.e, .int .i64 m.n], .string s] w fun e w' => e = .returned (.bool true) ∧ Ext w w' := by
  have HT : Hid (∀ W, Ext (w.alloc (.cells #[.int .i64 m.k, .int .i64 m.e, .int .i64 m.n] 24)) W → Std W) := Lib.hid fun W x => hw.ext (Ext.trans ((Ext.refl w).alloc _) x)
  have HK : Hid (∀ W, Ext (w.alloc (.cells #[.int .i64 m.k, .int .i64 m.e, .int .i64 m.n] 24)) W → (W.cell? ⟨w.heap.size, 0, none⟩ = some (.int .i64 m.k) ∧ W.cell? ⟨w.heap.size, 1, none⟩ = some (.int .i64 m.e) ∧ W.cell? ⟨w.heap.size, 2, none⟩ = some (.int .i64 m.n))) := Lib.hid fun W x => (three_cells (late_blk x)).1
  have HE : Hid (∀ W, Ext (w.alloc (.cells #[.int .i64 m.k, .int .i64 m.e, .int .i64 m.n] 24)) W → Ext w W) := Lib.hid fun W x => Ext.trans ((Ext.refl w).alloc _) x
  have e2 : ¬ ((100 : Int) < (s.size : Int)) := by omega
  have cP := Lib.hid (fun W => put_any W m)
  have cR := Lib.hid (fun W => right_any W m)
  rw [hr] at cR
  have cH := Lib.hid (fun W => get_any W s (by omega))
  have p1 : putF m = ⟨#[]⟩ := by unfold putF; rw [if_neg (by rw [hr]; decide)]
  have p2 : putE m = 70 := by unfold putE; rw [if_neg (by rw [hr]; decide)]
  rw [p1, p2] at cP
  have cG := Lib.hid (show ∀ W, Calls Tryd.prog 17 #[.string ⟨#[]⟩] W fun ev w' => ev = .returned (.tuple #[.agg #[.int .i64 0, .int .i64 0, .int .i64 0], .int .i64 71]) ∧ Ext W w' from fun W => by
    have := get_any W ⟨#[]⟩ (by decide)
    have e : getE ⟨#[]⟩ = 71 := by unfold getE; rw [if_neg (by rw [none_got]; decide)]
    rwa [not_got none_got, e] at this)
  clear p1 p2
  obtain ⟨j1, j2⟩ := gotM_put hk
  have p5 : getE s = 0 := by unfold getE; rw [if_pos hk]
  rw [p5] at cH
  have cU := Lib.hid (fun W => put_any W (getM s))
  have p6 : putF (getM s) = s := by unfold putF; rw [if_pos j1, j2]
  have p7 : putE (getM s) = 0 := by unfold putE; rw [if_pos j1]
  rw [p6, p7] at cU
  obtain ⟨F, hF⟩ : ∃ F, F = getM s := ⟨_, rfl⟩
  rw [← hF] at cH cU
  change Hid (∀ W, Calls Tryd.prog 17 #[.string s] W fun ev w' => ev = .returned (.tuple #[.agg #[.int .i64 F.k, .int .i64 F.e, .int .i64 F.n], .int .i64 0]) ∧ Ext W w') at cH
  clear j1 j2 p5 p6 p7 hF hk
  clear hw h2 hr
  go_enter Tryd.func5, Tryd.ntmps5
  go_wp2_with (first
    | (go_at_call 8; refine (awake_any _ (HT.out _ (Ext.refl _))).mono ?_; rintro e w1 ⟨rfl, x1⟩; have y1 := Lib.hid x1; have k1 := HK.out w1 x1; clear x1)
    | (go_at_call 9; have hgd := y6; refine (cU.out _).mono ?_; rintro e w8 ⟨rfl, x8⟩; have y8 := Lib.hid (Ext.trans (Ext.alloc y6.out _) x8); clear x8)
    | (go_at_call 9; refine (cP.out _).mono ?_; rintro e w2 ⟨rfl, x2⟩; have y2 := Lib.hid (Ext.trans y1.out x2); have k2 := HK.out w2 y2.out; clear x2 k1)
    | (go_at_call 17; have hgd := b3; refine (cH.out _).mono ?_; rintro e w6 ⟨rfl, x6⟩; have y6 := Lib.hid (Ext.trans y5.out x6); clear x6; have k6 := (three_cells (get_alloc_new w6 (.cells #[.int .i64 F.k, .int .i64 F.e, .int .i64 F.n] 24))).1)
    | (go_at_call 17; refine (cG.out _).mono ?_; rintro e w3 ⟨rfl, x3⟩; have y3 := Lib.hid (Ext.trans y2.out x3); clear x3; have b3 := Lib.hid (get_alloc_new w3 (.cells #[.int .i64 0, .int .i64 0, .int .i64 0] 24)); have y4 := Lib.hid (Ext.alloc y3.out (.cells #[.int .i64 0, .int .i64 0, .int .i64 0] 24)); have k3 := HK.out _ y4.out; have k4 := (three_cells b3.out).1; clear k2)
    | (go_at_call 10; refine (cR.out _).mono ?_; rintro e w5 ⟨rfl, x5⟩; have y5 := Lib.hid (Ext.trans y4.out x5); have k5 := HK.out _ y5.out; have k7 := (three_cells (blk_later b3.out x5)).1; clear x5 k3 k4))
  go_ret
  exact ⟨rfl, HE.out _ y8.out⟩

set_option maxRecDepth 100000 in
set_option maxHeartbeats 1600000 in
theorem msgBack_ne (w : World) (hw : Std w) (m : Mg) (s : ByteArray) (h2 : s.size ≤ 100) (hr : rightM m = false) (hk : gotM s = false) :
    Calls Tryd.prog 5 #[.agg #[.int .i64 m.k, .int .i64 m.e, .int .i64 m.n], .string s] w fun e w' => e = .returned (.bool true) ∧ Ext w w' := by
  have HT : Hid (∀ W, Ext (w.alloc (.cells #[.int .i64 m.k, .int .i64 m.e, .int .i64 m.n] 24)) W → Std W) := Lib.hid fun W x => hw.ext (Ext.trans ((Ext.refl w).alloc _) x)
  have HK : Hid (∀ W, Ext (w.alloc (.cells #[.int .i64 m.k, .int .i64 m.e, .int .i64 m.n] 24)) W → (W.cell? ⟨w.heap.size, 0, none⟩ = some (.int .i64 m.k) ∧ W.cell? ⟨w.heap.size, 1, none⟩ = some (.int .i64 m.e) ∧ W.cell? ⟨w.heap.size, 2, none⟩ = some (.int .i64 m.n))) := Lib.hid fun W x => (three_cells (late_blk x)).1
  have HE : Hid (∀ W, Ext (w.alloc (.cells #[.int .i64 m.k, .int .i64 m.e, .int .i64 m.n] 24)) W → Ext w W) := Lib.hid fun W x => Ext.trans ((Ext.refl w).alloc _) x
  have e2 : ¬ ((100 : Int) < (s.size : Int)) := by omega
  have cP := Lib.hid (fun W => put_any W m)
  have cR := Lib.hid (fun W => right_any W m)
  rw [hr] at cR
  have cH := Lib.hid (fun W => get_any W s (by omega))
  have p1 : putF m = ⟨#[]⟩ := by unfold putF; rw [if_neg (by rw [hr]; decide)]
  have p2 : putE m = 70 := by unfold putE; rw [if_neg (by rw [hr]; decide)]
  rw [p1, p2] at cP
  have cG := Lib.hid (show ∀ W, Calls Tryd.prog 17 #[.string ⟨#[]⟩] W fun ev w' => ev = .returned (.tuple #[.agg #[.int .i64 0, .int .i64 0, .int .i64 0], .int .i64 71]) ∧ Ext W w' from fun W => by
    have := get_any W ⟨#[]⟩ (by decide)
    have e : getE ⟨#[]⟩ = 71 := by unfold getE; rw [if_neg (by rw [none_got]; decide)]
    rwa [not_got none_got, e] at this)
  clear p1 p2
  have p5 : getE s = 71 := by unfold getE; rw [if_neg (by rw [hk]; decide)]
  rw [not_got hk, p5] at cH
  change Hid (∀ W, Calls Tryd.prog 17 #[.string s] W fun ev w' => ev = .returned (.tuple #[.agg #[.int .i64 0, .int .i64 0, .int .i64 0], .int .i64 71]) ∧ Ext W w') at cH
  have HZ : Hid (∀ w : World, (binOp .eql 24 (.agg #[.int .i64 0, .int .i64 0, .int .i64 0]) (.agg #[.int .i64 0, .int .i64 0, .int .i64 0])).run Tryd.prog w = .ok (.bool true) w) := Lib.hid (eq_m ⟨0, 0, 0⟩ ⟨0, 0, 0⟩ true (by simp)).1
  have HZ2 : Hid (∀ (a b : Operand) (w : World), (eqGuard .eql 24 a b (.agg #[.int .i64 0, .int .i64 0, .int .i64 0]) (.agg #[.int .i64 0, .int .i64 0, .int .i64 0])).run Tryd.prog w = .ok () w) := Lib.hid (eq_m ⟨0, 0, 0⟩ ⟨0, 0, 0⟩ true (by simp)).2
  clear hk p5
  clear hw h2 hr
  go_enter Tryd.func5, Tryd.ntmps5
  go_wp2_with (first
    | (go_at_call 8; refine (awake_any _ (HT.out _ (Ext.refl _))).mono ?_; rintro e w1 ⟨rfl, x1⟩; have y1 := Lib.hid x1; have k1 := HK.out w1 x1; clear x1)
    | (go_at_call 9; refine (cP.out _).mono ?_; rintro e w2 ⟨rfl, x2⟩; have y2 := Lib.hid (Ext.trans y1.out x2); have k2 := HK.out w2 y2.out; clear x2 k1)
    | (go_at_call 17; have hgd := b3; refine (cH.out _).mono ?_; rintro e w6 ⟨rfl, x6⟩; have y6 := Lib.hid (Ext.trans y5.out x6); clear x6; have hz := HZ.out; have hz2 := HZ2.out; have k6 := (three_cells (get_alloc_new w6 (.cells #[.int .i64 0, .int .i64 0, .int .i64 0] 24))).1)
    | (go_at_call 17; refine (cG.out _).mono ?_; rintro e w3 ⟨rfl, x3⟩; have y3 := Lib.hid (Ext.trans y2.out x3); clear x3; have b3 := Lib.hid (get_alloc_new w3 (.cells #[.int .i64 0, .int .i64 0, .int .i64 0] 24)); have y4 := Lib.hid (Ext.alloc y3.out (.cells #[.int .i64 0, .int .i64 0, .int .i64 0] 24)); have k3 := HK.out _ y4.out; have k4 := (three_cells b3.out).1; clear k2)
    | (go_at_call 10; refine (cR.out _).mono ?_; rintro e w5 ⟨rfl, x5⟩; have y5 := Lib.hid (Ext.trans y4.out x5); have k5 := HK.out _ y5.out; have k7 := (three_cells (blk_later b3.out x5)).1; clear x5 k3 k4))
  go_ret
  exact ⟨rfl, HE.out _ (Ext.alloc y6.out _)⟩

set_option maxRecDepth 100000 in
set_option maxHeartbeats 1600000 in
theorem msgBack_long (w : World) (hw : Std w) (m : Mg) (s : ByteArray) (h2 : ¬ s.size ≤ 100) :
    Calls Tryd.prog 5 #[.agg #[.int .i64 m.k, .int .i64 m.e, .int .i64 m.n], .string s] w fun e w' => e = .returned (.bool true) ∧ Ext w w' := by
  have HT : Hid (∀ W, Ext (w.alloc (.cells #[.int .i64 m.k, .int .i64 m.e, .int .i64 m.n] 24)) W → Std W) := Lib.hid fun W x => hw.ext (Ext.trans ((Ext.refl w).alloc _) x)
  have HK : Hid (∀ W, Ext (w.alloc (.cells #[.int .i64 m.k, .int .i64 m.e, .int .i64 m.n] 24)) W → (W.cell? ⟨w.heap.size, 0, none⟩ = some (.int .i64 m.k) ∧ W.cell? ⟨w.heap.size, 1, none⟩ = some (.int .i64 m.e) ∧ W.cell? ⟨w.heap.size, 2, none⟩ = some (.int .i64 m.n))) := Lib.hid fun W x => (three_cells (late_blk x)).1
  have HE : Hid (∀ W, Ext (w.alloc (.cells #[.int .i64 m.k, .int .i64 m.e, .int .i64 m.n] 24)) W → Ext w W) := Lib.hid fun W x => Ext.trans ((Ext.refl w).alloc _) x
  have e2 : ((100 : Int) < (s.size : Int)) := by omega
  clear hw h2
  go_enter Tryd.func5, Tryd.ntmps5
  go_wp2_with (first
    | (go_at_call 8; have hgd := y1; refine (awake_any _ (HT.out _ y1.out)).mono ?_; rintro e w9 ⟨rfl, x9⟩)
    | (go_at_call 8; refine (awake_any _ (HT.out _ (Ext.refl _))).mono ?_; rintro e w1 ⟨rfl, x1⟩; have y1 := Lib.hid x1; have k1 := HK.out w1 x1; clear x1))
  go_ret
  exact ⟨rfl, HE.out _ (Ext.trans y1.out x9)⟩
end Go.Proofs.YtffgphhmkghlnaaDoor
