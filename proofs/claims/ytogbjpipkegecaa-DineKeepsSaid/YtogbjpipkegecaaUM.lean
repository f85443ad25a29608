/- Layer 13: what the chapter's example fixes. -/
import Derived.Test.YtogbjpipkegecaaUK
import Derived.Test.YtogbjpipkegecaaUI
import Derived.Test.YtogbjpipkegecaaU3
namespace Go.Proofs.Ytogbjpipkegecaa
open Go.RowKit

theorem eq_Ml (y0 y1 y2 y3 y4 z0 z1 z2 z3 z4 : Int) (s : Bool) (hs : decide ((⟨y0, y1, y2, y3, y4⟩ : Ml) = ⟨z0, z1, z2, z3, z4⟩) = s) :
    (∀ w : World, (binOp .eql 49 (.agg #[.int .i64 y0, .int .i64 y1, .int .i64 y2, .int .i64 y3, .int .i64 y4]) (.agg #[.int .i64 z0, .int .i64 z1, .int .i64 z2, .int .i64 z3, .int .i64 z4])).run Try.prog w = .ok (.bool s) w) ∧ ∀ (a b : Operand) (w : World), (eqGuard .eql 49 a b (.agg #[.int .i64 y0, .int .i64 y1, .int .i64 y2, .int .i64 y3, .int .i64 y4]) (.agg #[.int .i64 z0, .int .i64 z1, .int .i64 z2, .int .i64 z3, .int .i64 z4])).run Try.prog w = .ok () w := by
  refine ⟨fun w => ?_, fun a b w => run_eqGuard_agg w _ _ a b _ _ (by kernel_rfl)⟩
  have u3 := Try.underlying3
  have a3 := Try.isAgg3
  have z3' := Try.sizeOf3
  have uK := Try.underlying38
  have aK := Try.isAgg38
  have zK := Try.sizeOf38
  have aM := Try.isAgg40
  have zM := Try.sizeOf40
  have hS : Try.prog.underlying 49 = some (.struct (Try.prog.fieldsOf 49)) := by kernel_rfl
  have hp : Try.prog.stoodInHeld 49 = false := by kernel_rfl
  have hS2 : Try.prog.underlying 40 = some (.struct (Try.prog.fieldsOf 40)) := by kernel_rfl
  have hp2 : Try.prog.stoodInHeld 40 = false := by kernel_rfl
  have hq : ∀ (w : World) (b0 b1 b2 c0 c1 c2 : Int), (Op.equalIn 9999 40 (.agg #[.int .i64 b0, .int .i64 b1, .int .i64 b2]) (.agg #[.int .i64 c0, .int .i64 c1, .int .i64 c2])).run Try.prog w = .ok (decide (b0 = c0) && decide (b1 = c1) && decide (b2 = c2)) w := by
    intro w b0 b1 b2 c0 c1 c2
    rw [show (9999 : Nat) = 9998 + 1 from rfl, run_equalIn_agg w 9998 40 _ _ hS2 hp2]
    simp only [Program.fieldsOf, Try.underlying40]
    go_simp
    by_cases h0 : b0 = c0 <;> by_cases h1 : b1 = c1 <;> by_cases h2 : b2 = c2 <;> simp [h0, h1, h2]
  rw [run_eql_struct, show (10000 : Nat) = 9999 + 1 from rfl, run_equalIn_agg w 9999 49 _ _ hS hp]
  simp only [Program.fieldsOf, Try.underlying49]
  go_simp
  subst hs
  by_cases h0 : y0 = z0 <;> by_cases h1 : y1 = z1 <;> simp [h0, h1]
  by_cases h2 : y2 = z2 <;> by_cases h3 : y3 = z3 <;> by_cases h4 : y4 = z4 <;> simp [h2, h3, h4]
def exA : Sd := ⟨0, 0, 0, false, false, true, false, false⟩
def exB : Sd := ⟨0, 0, 0, false, false, false, false, false⟩
def exC : Sd := ⟨0, 0, 0, true, false, false, false, false⟩
def exD : Sd := ⟨0, 0, 0, true, true, false, false, false⟩
theorem aw_start (w : World) (v : Value) (h : Sl w v [exA]) : Calls Try.prog 21 #[.agg #[.int .i64 1, .int .i64 0, v]] w fun e w' => ∃ ao c, e = .returned (.tuple #[.agg #[.int .i64 1, .int .i64 1, .slice ao 1 c], .int .i64 0]) ∧ Sl w' (.slice ao 1 c) ([exA] : List Sd) ∧ Ext w w' ∧ ∀ b, (Value.slice ao 1 c).ownBlock = some b → w.heap.size ≤ b := by
  have hr : stepR ⟨1, 0, [exA]⟩ 0 1 = (⟨1, 1, [exA]⟩, 0) := by decide
  refine (start_any w 1 0 v [exA] h (by decide)).mono ?_
  rintro e w' ⟨v', rfl, s, x, n⟩
  rw [hr] at s ⊢
  obtain ⟨ao, c, rfl⟩ := s.len
  exact ⟨ao, c, rfl, s, x, n⟩
theorem aw_fire1 (w : World) (v : Value) (h : Sl w v [exA]) : Calls Try.prog 11 #[.agg #[.int .i64 1, .int .i64 1, v]] w fun e w' => ∃ ao c bo bc, e = .returned (.tuple #[.agg #[.int .i64 1, .int .i64 1, .slice ao 1 c], .slice bo 1 bc, .int .i64 0]) ∧ Sl w' (.slice ao 1 c) [exB] ∧ Sl w' (.slice bo 1 bc) ([⟨1, 0, 2, 0, 0⟩] : List Ml) ∧ Ext w w' ∧ (∀ b, (Value.slice ao 1 c).ownBlock = some b → w.heap.size ≤ b) ∧ ∀ b, (Value.slice bo 1 bc).ownBlock = some b → w.heap.size ≤ b := by
  have hr : fireR ⟨1, 1, [exA]⟩ = (⟨1, 1, [exB]⟩, [⟨1, 0, 2, 0, 0⟩], 0) := by decide
  refine (fire_any w 1 1 v [exA] h (by decide)).mono ?_
  rintro e w' ⟨v', vl, rfl, s, sl, x, n, nl⟩
  rw [hr] at s sl ⊢
  obtain ⟨ao, c, rfl⟩ := s.len
  obtain ⟨bo, bc, rfl⟩ := sl.len
  exact ⟨ao, c, bo, bc, rfl, s, sl, x, n, nl⟩
theorem aw_get (w : World) (v : Value) (h : Sl w v [exB]) : Calls Try.prog 19 #[.agg #[.int .i64 1, .int .i64 1, v], .int .i64 0, .agg #[.int .i64 1, .int .i64 0, .int .i64 0]] w fun e w' => ∃ ao c, e = .returned (.tuple #[.agg #[.int .i64 1, .int .i64 1, .slice ao 1 c], .int .i64 0]) ∧ Sl w' (.slice ao 1 c) ([exC] : List Sd) ∧ Ext w w' ∧ ∀ b, (Value.slice ao 1 c).ownBlock = some b → w.heap.size ≤ b := by
  have hr : getR ⟨1, 1, [exB]⟩ 0 1 0 0 = (⟨1, 1, [exC]⟩, 0) := by decide
  refine (get_any w 1 1 0 1 0 0 v [exB] h (by decide)).mono ?_
  rintro e w' ⟨v', rfl, s, x, n⟩
  rw [hr] at s ⊢
  obtain ⟨ao, c, rfl⟩ := s.len
  exact ⟨ao, c, rfl, s, x, n⟩
theorem aw_fire2 (w : World) (v : Value) (h : Sl w v [exC]) : Calls Try.prog 11 #[.agg #[.int .i64 1, .int .i64 1, v]] w fun e w' => ∃ ao c bo bc, e = .returned (.tuple #[.agg #[.int .i64 1, .int .i64 2, .slice ao 1 c], .slice bo 0 bc, .int .i64 0]) ∧ Sl w' (.slice ao 1 c) [exD] ∧ Sl w' (.slice bo 0 bc) ([] : List Ml) ∧ Ext w w' ∧ (∀ b, (Value.slice ao 1 c).ownBlock = some b → w.heap.size ≤ b) ∧ ∀ b, (Value.slice bo 0 bc).ownBlock = some b → w.heap.size ≤ b := by
  have hr : fireR ⟨1, 1, [exC]⟩ = (⟨1, 2, [exD]⟩, [], 0) := by decide
  refine (fire_any w 1 1 v [exC] h (by decide)).mono ?_
  rintro e w' ⟨v', vl, rfl, s, sl, x, n, nl⟩
  rw [hr] at s sl ⊢
  obtain ⟨ao, c, rfl⟩ := s.len
  obtain ⟨bo, bc, rfl⟩ := sl.len
  exact ⟨ao, c, bo, bc, rfl, s, sl, x, n, nl⟩
theorem aw_stop1 (w : World) (v : Value) (h : Sl w v [exD]) : Calls Try.prog 22 #[.agg #[.int .i64 1, .int .i64 2, v]] w fun e w' => ∃ ao c, e = .returned (.tuple #[.agg #[.int .i64 1, .int .i64 0, .slice ao 1 c], .int .i64 0]) ∧ Sl w' (.slice ao 1 c) ([exD] : List Sd) ∧ Ext w w' ∧ ∀ b, (Value.slice ao 1 c).ownBlock = some b → w.heap.size ≤ b := by
  have hr : stepR ⟨1, 2, [exD]⟩ 2 0 = (⟨1, 0, [exD]⟩, 0) := by decide
  refine (stop_any w 1 2 v [exD] h (by decide)).mono ?_
  rintro e w' ⟨v', rfl, s, x, n⟩
  rw [hr] at s ⊢
  obtain ⟨ao, c, rfl⟩ := s.len
  exact ⟨ao, c, rfl, s, x, n⟩
theorem aw_stop2 (w : World) (v : Value) (h : Sl w v [exD]) : Calls Try.prog 22 #[.agg #[.int .i64 1, .int .i64 0, v]] w fun e w' => ∃ ao c, e = .returned (.tuple #[.agg #[.int .i64 0, .int .i64 0, .slice ao 0 c], .int .i64 134]) ∧ Sl w' (.slice ao 0 c) ([] : List Sd) ∧ Ext w w' ∧ ∀ b, (Value.slice ao 0 c).ownBlock = some b → w.heap.size ≤ b := by
  have hr : stepR ⟨1, 0, [exD]⟩ 2 0 = (noD, 134) := by decide
  refine (stop_any w 1 0 v [exD] h (by decide)).mono ?_
  rintro e w' ⟨v', rfl, s, x, n⟩
  rw [hr] at s ⊢
  obtain ⟨ao, c, rfl⟩ := s.len
  exact ⟨ao, c, rfl, s, x, n⟩

set_option maxRecDepth 100000 in
set_option maxHeartbeats 8000000 in
theorem awake_any (w : World) : Calls Try.prog 10 #[] w fun e w' => e = .returned (.bool true) ∧ Ext w w' := by
  go_enter Try.func10, Try.ntmps10
  go_upto_region 2 with (first
    | (go_at_call 21; refine (aw_start _ _ (Sl.litAt w _ rfl [exA] (by simp))).mono ?_; rintro e w1 ⟨a1, c1, rfl, s1, x1, n1⟩; have S1 := Lib.hid s1; have X1 : Hid (Ext w w1) := Lib.hid (Ext.trans ((Ext.refl w).alloc _) x1); clear s1 x1 n1))
  obtain ⟨gd, hgd⟩ : ∃ gd, gd = w1.heap.size := ⟨_, rfl⟩
  obtain ⟨W2, hW2⟩ : ∃ W2, W2 = w1.alloc (.cells #[.int .i64 1, .int .i64 1, .slice a1 1 c1] 25) := ⟨_, rfl⟩
  have D2 : Hid (W2.heap[gd]? = some (.cells #[.int .i64 1, .int .i64 1, .slice a1 1 c1] 25 (0, 0))) := Lib.hid (by rw [hW2, hgd]; exact at0 w1 _)
  have S2 : Hid (Sl W2 (.slice a1 1 c1) [exA]) := Lib.hid (hW2 ▸ S1.out.alloc _)
  have X2 : Hid (Ext w W2) := Lib.hid (hW2 ▸ X1.out.alloc _)
  have hg : w.heap.size ≤ gd := by have := Below.size X1.out; omega
  rw [← hW2, ← hgd]
  clear hW2 hgd S1 X1
  obtain ⟨d0, d1, d2⟩ := cells3U D2.out
  go_wp2_with (first
    | (go_at_call 11; refine (aw_fire1 _ _ S2.out).mono ?_; rintro e w3 ⟨a3, c3, b3, e3, rfl, s3, l3, x3, n3, m3⟩; have S3 := Lib.hid s3; have L3 := Lib.hid l3; have X3 : Hid (Ext W2 w3) := Lib.hid x3; have N3 := Lib.hid n3; have M3 := Lib.hid m3; clear s3 l3 x3 n3 m3)
    | refine haltst 25 ?_)
  refine .inl ?_
  refine st_l 25 (.tmp 1) (.tmp 22) gd 0 25 #[.int .i64 1, .int .i64 1, .slice a1 1 c1] #[.int .i64 1, .int .i64 1, .slice a3 1 c3] #[.int .i64 1, .int .i64 1, .slice a3 1 c3] rfl rfl (keepU D2.out X3.out) (by kernel_rfl) (by simp) rfl rfl ?_
  intro W4 hW4 o4
  simp only [Act.put]
  have D4 := Lib.hid hW4
  have hg2 := blk_lt D2.out
  have S4 : Hid (Sl W4 (.slice a3 1 c3) [exB]) := Lib.hid (slOffU S3.out N3.out o4 hg2)
  have L4 : Hid (Sl W4 (.slice b3 1 e3) [(⟨1, 0, 2, 0, 0⟩ : Ml)]) := Lib.hid (slOffU L3.out M3.out o4 hg2)
  have LN4 : Hid (∀ b, (Value.slice b3 1 e3).ownBlock = some b → b ≠ gd) := Lib.hid (fun b hb => by have := M3.out b hb; omega)
  have X4 : Hid (Ext w W4) := Lib.hid (ext_off (X2.out.trans X3.out) o4 (fun b hb => by omega))
  clear hW4 o4 S3 L3 N3 M3 d0 d1 d2
  obtain ⟨d0, d1, d2⟩ := cells3U D4.out
  go_upto_region 3 with (fail)
  go_wp2_with (first
    | (go_at_call 19; refine (aw_get _ _ S4.out).mono ?_; rintro e w5 ⟨a5, c5, rfl, s5, x5, n5⟩; have S5 := Lib.hid s5; have X5 : Hid (Ext W4 w5) := Lib.hid x5; have N5 := Lib.hid n5; clear s5 x5 n5)
    | refine haltst 25 ?_)
  refine .inl ?_
  refine st_l 25 (.tmp 1) (.tmp 29) gd 0 25 #[.int .i64 1, .int .i64 1, .slice a3 1 c3] #[.int .i64 1, .int .i64 1, .slice a5 1 c5] #[.int .i64 1, .int .i64 1, .slice a5 1 c5] rfl rfl (keepU D4.out X5.out) (by kernel_rfl) (by simp) rfl rfl ?_
  intro W6 hW6 o6
  simp only [Act.put]
  have D6 := Lib.hid hW6
  have hg4 := blk_lt D4.out
  have S6 : Hid (Sl W6 (.slice a5 1 c5) [exC]) := Lib.hid (slOffU S5.out N5.out o6 hg4)
  have L6 : Hid (Sl W6 (.slice b3 1 e3) [(⟨1, 0, 2, 0, 0⟩ : Ml)]) := Lib.hid (slOffW (L4.out.ext X5.out) (.inr LN4.out) o6)
  have X6 : Hid (Ext w W6) := Lib.hid (ext_off (X4.out.trans X5.out) o6 (fun b hb => by omega))
  clear hW6 o6 S5 N5 d0 d1 d2
  obtain ⟨d0, d1, d2⟩ := cells3U D6.out
  go_upto_region 4 with (fail)
  go_wp2_with (first
    | (go_at_call 11; refine (aw_fire2 _ _ S6.out).mono ?_; rintro e w7 ⟨a7, c7, b7, e7, rfl, s7, l7, x7, n7, m7⟩; have S7 := Lib.hid s7; have X7 : Hid (Ext W6 w7) := Lib.hid x7; have N7 := Lib.hid n7; clear s7 l7 x7 n7 m7)
    | refine haltst 25 ?_)
  refine .inl ?_
  refine st_l 25 (.tmp 1) (.tmp 34) gd 0 25 #[.int .i64 1, .int .i64 1, .slice a5 1 c5] #[.int .i64 1, .int .i64 2, .slice a7 1 c7] #[.int .i64 1, .int .i64 2, .slice a7 1 c7] rfl rfl (keepU D6.out X7.out) (by kernel_rfl) (by simp) rfl rfl ?_
  intro W8 hW8 o8
  simp only [Act.put]
  have D8 := Lib.hid hW8
  have hg6 := blk_lt D6.out
  have S8 : Hid (Sl W8 (.slice a7 1 c7) [exD]) := Lib.hid (slOffU S7.out N7.out o8 hg6)
  have L8 : Hid (Sl W8 (.slice b3 1 e3) [(⟨1, 0, 2, 0, 0⟩ : Ml)]) := Lib.hid (slOffW (L6.out.ext X7.out) (.inr LN4.out) o8)
  have X8 : Hid (Ext w W8) := Lib.hid (ext_off (X6.out.trans X7.out) o8 (fun b hb => by omega))
  clear hW8 o8 S7 N7 d0 d1 d2
  obtain ⟨d0, d1, d2⟩ := cells3U D8.out
  go_upto_region 5 with (fail)
  go_upto_region 6 with (first
    | (go_at_call 22; refine (aw_stop1 _ _ S8.out).mono ?_; rintro e w9 ⟨a9, c9, rfl, s9, x9, n9⟩; have S9 := Lib.hid s9; have X9 : Hid (Ext W8 w9) := Lib.hid x9; clear s9 x9 n9))
  obtain ⟨gs, hgs⟩ : ∃ gs, gs = w9.heap.size := ⟨_, rfl⟩
  obtain ⟨WA, hWA⟩ : ∃ WA, WA = w9.alloc (.cells #[.int .i64 1, .int .i64 0, .slice a9 1 c9] 25) := ⟨_, rfl⟩
  have YA : Hid (Ext W8 WA) := Lib.hid (hWA ▸ X9.out.alloc _)
  have DA : Hid (WA.heap[gs]? = some (.cells #[.int .i64 1, .int .i64 0, .slice a9 1 c9] 25 (0, 0))) := Lib.hid (by rw [hWA, hgs]; exact at0 w9 _)
  have SA : Hid (Sl WA (.slice a9 1 c9) [exD]) := Lib.hid (hWA ▸ S9.out.alloc _)
  rw [← hWA, ← hgs]
  clear hWA hgs S9 d0 d1 d2
  obtain ⟨d0, d1, d2⟩ := cells3U (keepU D8.out YA.out)
  obtain ⟨e0, e1, e2⟩ := cells3U DA.out
  go_upto_region 7 with (first
    | (go_at_call 22; refine (aw_stop2 _ _ SA.out).mono ?_; rintro e wb ⟨ab, cb, rfl, sb, xb, nb⟩; have XB : Hid (Ext WA wb) := Lib.hid xb; clear sb xb nb))
  obtain ⟨WC, hWC⟩ : ∃ WC, WC = wb.alloc (.cells #[.int .i64 0, .int .i64 0, .slice ab 0 cb] 25) := ⟨_, rfl⟩
  have YC : Hid (Ext W8 WC) := Lib.hid (hWC ▸ (YA.out.trans XB.out).alloc _)
  have ZC : Hid (Ext WA WC) := Lib.hid (hWC ▸ XB.out.alloc _)
  rw [← hWC]
  clear hWC
  have DC := Lib.hid (fun W (x : Ext WC W) => keepU D8.out (YC.out.trans x))
  have EC := Lib.hid (fun W (x : Ext WC W) => keepU DA.out (ZC.out.trans x))
  have SC := Lib.hid (fun W (x : Ext WC W) => S8.out.ext (YC.out.trans x))
  have TC := Lib.hid (fun W (x : Ext WC W) => SA.out.ext (ZC.out.trans x))
  have LC := Lib.hid (L8.out.ext YC.out)
  clear d0 d1 d2 e0 e1 e2
  obtain ⟨bm, om, ym, _, hym, hbm, hnm, hncm, hc63m, hbwm, hcm⟩ := LC.out.mailAt (k := 0) (by decide)
  subst hbm
  obtain rfl : ym = ⟨1, 0, 2, 0, 0⟩ := by simpa using hym.symm
  obtain ⟨⟨m0, m1⟩, m2, m3, m4⟩ := hcm WC (Ext.refl _)
  simp only [Nat.zero_mul, Nat.add_zero] at m0 m1 m2 m3 m4
  obtain ⟨bs, os, ys, _, hys, hbs, hns, hncs, hc63s, hbws, hcs⟩ := (SC.out WC (Ext.refl _)).sidesAt (k := 0) (by decide)
  subst hbs
  obtain rfl : ys = exD := by simpa using hys.symm
  obtain ⟨_, ⟨x4, _⟩, _⟩ := hcs WC (Ext.refl _)
  simp only [Nat.zero_mul, Nat.add_zero, exD] at x4
  obtain ⟨q1, q2⟩ := eq_Ml 1 0 2 0 0 1 0 2 0 0 true (by decide)
  obtain ⟨d0, d1, d2⟩ := cells3U (DC.out WC (Ext.refl _))
  obtain ⟨e0, e1, e2⟩ := cells3U (EC.out WC (Ext.refl _))
  clear hym hcm hys hcs hnm hns
  dsimp only [List.append]
  go_wp2_with (first
    | (go_at_call 16; refine (dCheck_any WC 1 2 _ [exD] (SC.out WC (Ext.refl _)) true (by decide)).mono ?_; rintro e wd ⟨rfl, hx⟩; dsimp only [cond]; have XD : Hid (Ext WC wd) := Lib.hid hx; clear d0 d1 d2 e0 e1 e2; obtain ⟨d0, d1, d2⟩ := cells3U (DC.out wd hx); obtain ⟨e0, e1, e2⟩ := cells3U (EC.out wd hx); clear hx)
    | (go_at_call 13; have hgd := XE; refine (same_any we 1 2 1 0 _ _ [exD] [exD] (SC.out we XE.out) (TC.out we XE.out) false (by decide)).mono ?_; rintro e wf ⟨rfl, hx⟩; have XF : Hid (Ext WC wf) := Lib.hid (XE.out.trans hx); clear hx hgd)
    | (go_at_call 13; refine (same_any wd 1 2 1 2 _ _ [exD] [exD] (SC.out wd XD.out) (SC.out wd XD.out) true (by decide)).mono ?_; rintro e we ⟨rfl, hx⟩; have XE : Hid (Ext WC we) := Lib.hid (XD.out.trans hx); clear d0 d1 d2 e0 e1 e2; obtain ⟨d0, d1, d2⟩ := cells3U (DC.out we XE.out); obtain ⟨e0, e1, e2⟩ := cells3U (EC.out we XE.out); clear hx))
  go_ret
  exact ⟨rfl, X8.out.trans (YC.out.trans XF.out)⟩

end Go.Proofs.Ytogbjpipkegecaa
