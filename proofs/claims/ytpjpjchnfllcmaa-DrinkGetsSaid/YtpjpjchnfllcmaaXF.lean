/- Layer 15: what the chapter's example fixes. -/
import Derived.Test.YtpjpjchnfllcmaaXD
import Derived.Test.YtpjpjchnfllcmaaX6
import Derived.Test.YtpjpjchnfllcmaaXA
import Derived.BigGuard
namespace Go.Proofs.Ytpjpjchnfllcmaa
open Go.RowKit

theorem eq_Ml (y0 y1 y2 y3 y4 z0 z1 z2 z3 z4 : Int) (s : Bool) (hs : decide ((⟨y0, y1, y2, y3, y4⟩ : Ml) = ⟨z0, z1, z2, z3, z4⟩) = s) :
    (∀ w : World, (binOp .eql 61 (.agg #[.int .i64 y0, .int .i64 y1, .int .i64 y2, .int .i64 y3, .int .i64 y4]) (.agg #[.int .i64 z0, .int .i64 z1, .int .i64 z2, .int .i64 z3, .int .i64 z4])).run Try.prog w = .ok (.bool s) w) ∧ ∀ (a b : Operand) (w : World), (eqGuard .eql 61 a b (.agg #[.int .i64 y0, .int .i64 y1, .int .i64 y2, .int .i64 y3, .int .i64 y4]) (.agg #[.int .i64 z0, .int .i64 z1, .int .i64 z2, .int .i64 z3, .int .i64 z4])).run Try.prog w = .ok () w := by
  refine ⟨fun w => ?_, fun a b w => run_eqGuard_agg w _ _ a b _ _ (by kernel_rfl)⟩
  have u3 := Try.underlying3
  have a3 := Try.isAgg3
  have z3' := Try.sizeOf3
  have uK := Try.underlying42
  have aK := Try.isAgg42
  have zK := Try.sizeOf42
  have aM := Try.isAgg44
  have zM := Try.sizeOf44
  have hS : Try.prog.underlying 61 = some (.struct (Try.prog.fieldsOf 61)) := by kernel_rfl
  have hp : Try.prog.stoodInHeld 61 = false := by kernel_rfl
  have hS2 : Try.prog.underlying 44 = some (.struct (Try.prog.fieldsOf 44)) := by kernel_rfl
  have hp2 : Try.prog.stoodInHeld 44 = false := by kernel_rfl
  have hq : ∀ (w : World) (b0 b1 b2 c0 c1 c2 : Int), (Op.equalIn 9999 44 (.agg #[.int .i64 b0, .int .i64 b1, .int .i64 b2]) (.agg #[.int .i64 c0, .int .i64 c1, .int .i64 c2])).run Try.prog w = .ok (decide (b0 = c0) && decide (b1 = c1) && decide (b2 = c2)) w := by
    intro w b0 b1 b2 c0 c1 c2
    rw [show (9999 : Nat) = 9998 + 1 from rfl, run_equalIn_agg w 9998 44 _ _ hS2 hp2]
    simp only [Program.fieldsOf, Try.underlying44]
    go_simp
    by_cases h0 : b0 = c0 <;> by_cases h1 : b1 = c1 <;> by_cases h2 : b2 = c2 <;> simp [h0, h1, h2]
  rw [run_eql_struct, show (10000 : Nat) = 9999 + 1 from rfl, run_equalIn_agg w 9999 61 _ _ hS hp]
  simp only [Program.fieldsOf, Try.underlying61]
  go_simp
  subst hs
  by_cases h0 : y0 = z0 <;> by_cases h1 : y1 = z1 <;> simp [h0, h1]
  by_cases h2 : y2 = z2 <;> by_cases h3 : y3 = z3 <;> by_cases h4 : y4 = z4 <;> simp [h2, h3, h4]
def kA : Sd := ⟨0, 0, 0, true, true, false, true, false⟩
def kB : Sd := ⟨0, 0, 0, true, true, false, true, true⟩
def kC : Sd := ⟨0, 0, 0, true, true, false, false, true⟩
theorem givesDN_at {w w' : World} {r : Dk × Int} {e : Ending} {a b t er : Int} {S : List Sd} {N : List Int} {n m : Nat} (h : GivesDN w r e w') (hr : r = (⟨a, b, S, t, N⟩, er)) (hn : S.length = n) (hm : N.length = m) :
    ∃ ao c na nc, e = .returned (.tuple #[.agg #[.int .i64 a, .int .i64 b, .slice ao n c, .int .i64 t, .slice na m nc], .int .i64 er]) ∧ Sl w' (.slice ao n c) S ∧ Sl w' (.slice na m nc) N ∧ Ext w w' ∧ ∀ b, (Value.slice na m nc).ownBlock = some b → w.heap.size ≤ b := by
  subst hr hn hm
  obtain ⟨v', nv', rfl, h1, h2, h3, h4⟩ := h
  obtain ⟨ao, c, rfl⟩ := h1.len
  obtain ⟨na, nc, rfl⟩ := h2.len
  exact ⟨ao, c, na, nc, rfl, h1, h2, h3, h4⟩
theorem givesFD_at {w w' : World} {r : Dk × List Ml × Int} {e : Ending} {a b t er : Int} {S : List Sd} {N : List Int} {M : List Ml} {n m l : Nat} (h : GivesFD w r e w') (hr : r = (⟨a, b, S, t, N⟩, M, er)) (hn : S.length = n) (hm : N.length = m) (hl : M.length = l) :
    ∃ ao c na nc ma mc, e = .returned (.tuple #[.agg #[.int .i64 a, .int .i64 b, .slice ao n c, .int .i64 t, .slice na m nc], .slice ma l mc, .int .i64 er]) ∧ Sl w' (.slice ao n c) S ∧ Sl w' (.slice na m nc) N ∧ Sl w' (.slice ma l mc) M ∧ Ext w w' ∧ ∀ b, (Value.slice na m nc).ownBlock = some b → w.heap.size ≤ b := by
  subst hr hn hm hl
  obtain ⟨v', nv', vl, rfl, h1, h2, h3, h4, h5⟩ := h
  obtain ⟨ao, c, rfl⟩ := h1.len
  obtain ⟨na, nc, rfl⟩ := h2.len
  obtain ⟨ma, mc, rfl⟩ := h3.len
  exact ⟨ao, c, na, nc, ma, mc, rfl, h1, h2, h3, h4, h5⟩
theorem hr_open : openR ⟨1, 0, [kA], 0, []⟩ [0] = (⟨1, 0, [kA], 1, [0]⟩, 0) := by
  have h : norm [0] = [0] := norm_of_SS (SS_one (by simp))
  unfold openR
  rw [h]
  decide +kernel
theorem hr_fire1 : fireKR ⟨1, 0, [kA], 1, [0]⟩ = (⟨1, 0, [kA], 2, [0]⟩, [], 0) := by decide +kernel
theorem hr_get : getK ⟨1, 0, [kA], 2, [0]⟩ 0 4 0 0 = (⟨1, 0, [kB], 2, [0]⟩, 0) := by decide +kernel
theorem hr_fire2 : fireKR ⟨1, 0, [kB], 2, [0]⟩ = (⟨1, 0, [kB], 2, [0]⟩, [], 0) := by decide +kernel
theorem hr_close : closeR ⟨1, 0, [kB], 2, [0]⟩ = (⟨1, 0, [kB], 0, []⟩, 0) := by decide +kernel
theorem hr_fire3 : fireKR ⟨1, 0, [kB], 0, []⟩ = (⟨1, 0, [kC], 0, []⟩, [⟨1, 0, 3, 0, 0⟩], 0) := by decide +kernel
theorem hr_chk : chkK ⟨1, 0, [kC], 0, []⟩ = true := by decide +kernel

set_option maxRecDepth 100000 in
set_option maxHeartbeats 16000000 in
theorem awake_any (w : World) : Calls Try.prog 10 #[] w fun e w' => e = .returned (.bool true) ∧ Ext w w' := by
  go_enter Try.func10, Try.ntmps10
  go_upto_region 2 with (fail)
  obtain ⟨WA, hWA⟩ : ∃ W, W = (w.alloc (.cells #[.int .i64 0, .int .i64 0, .int .i64 0, .bool true, .bool true, .bool false, .bool true, .bool false] 53)).alloc (.cells #[.int .i64 1, .int .i64 0, .slice (some ⟨w.heap.size, 0, none⟩) 1 1, .int .i64 0, .slice none 0 0] 29) := ⟨_, rfl⟩
  have XA : Hid (Ext w WA) := Lib.hid (hWA ▸ ((Ext.refl w).alloc _).alloc _)
  have SA : Hid (Sl WA (.slice (some ⟨w.heap.size, 0, none⟩) 1 1) [kA]) := Lib.hid (hWA ▸ (Sl.litAt w _ rfl [kA] (by simp)).alloc _)
  have BA : Hid (WA.heap[w.heap.size + 1]? = some (.cells #[.int .i64 1, .int .i64 0, .slice (some ⟨w.heap.size, 0, none⟩) 1 1, .int .i64 0, .slice none 0 0] 29 (0, 0))) := Lib.hid (hWA ▸ at1 w _ _)
  rw [← hWA]
  clear hWA
  obtain ⟨⟨d0, d1, d2⟩, d3, d4⟩ := cells5 BA.out
  go_upto_region 3 with (first
    | (go_at_call 22; refine (dkOpen_any _ 1 0 0 _ _ _ [kA] [] [0] (SA.out.alloc _) (slNoneU _) (Sl.litAt WA _ rfl [0] (by simp)) (by simp) (by simp)).mono ?_; rintro e w1 hg; obtain ⟨a1, c1, m1, k1, rfl, s1, n1, x1, _⟩ := givesDN_at hg hr_open (n := 1) (m := 1) rfl rfl; have S1 := Lib.hid s1; have N1 := Lib.hid n1; have X1 : Hid (Ext WA w1) := Lib.hid (Ext.trans ((Ext.refl WA).alloc _) x1); clear s1 n1 x1 hg))
  obtain ⟨gd, hgd⟩ : ∃ gd, gd = w1.heap.size := ⟨_, rfl⟩
  obtain ⟨W2, hW2⟩ : ∃ W2, W2 = w1.alloc (.cells #[.int .i64 1, .int .i64 0, .slice a1 1 c1, .int .i64 1, .slice m1 1 k1] 29) := ⟨_, rfl⟩
  have D2 : Hid (W2.heap[gd]? = some (.cells #[.int .i64 1, .int .i64 0, .slice a1 1 c1, .int .i64 1, .slice m1 1 k1] 29 (0, 0))) := Lib.hid (by rw [hW2, hgd]; exact at0 w1 _)
  have S2 : Hid (Sl W2 (.slice a1 1 c1) [kA]) := Lib.hid (hW2 ▸ S1.out.alloc _)
  have N2 : Hid (Sl W2 (.slice m1 1 k1) ([0] : List Int)) := Lib.hid (hW2 ▸ N1.out.alloc _)
  have X2 : Hid (Ext w W2) := Lib.hid (hW2 ▸ (XA.out.trans X1.out).alloc _)
  have hg : w.heap.size ≤ gd := by rw [hgd]; exact Below.size (XA.out.trans X1.out)
  rw [← hW2, ← hgd]
  clear hW2 hgd S1 N1 X1 d0 d1 d2 d3 d4 SA BA XA
  obtain ⟨⟨d0, d1, d2⟩, d3, d4⟩ := cells5 D2.out
  go_wp2_with (first
    | (go_at_call 12; refine (fireK_any W2 1 0 1 _ _ [kA] [0] S2.out N2.out (by simp) (by simp)).mono ?_; rintro e w4 hg; obtain ⟨a4, c4, b4, k4, l4, j4, rfl, s4, n4, m4, x4, v4⟩ := givesFD_at hg hr_fire1 (n := 1) (m := 1) (l := 0) rfl rfl rfl; have S4' := Lib.hid s4; have N4' := Lib.hid n4; have M4' := Lib.hid m4; have X4' : Hid (Ext W2 w4) := Lib.hid x4; have V4' := Lib.hid v4; clear s4 n4 x4 v4 hg m4)
    | refine haltst 29 ?_)
  refine .inl ?_
  refine st_l 29 (.tmp 2) (.tmp 26) gd 0 29 #[.int .i64 1, .int .i64 0, .slice a1 1 c1, .int .i64 1, .slice m1 1 k1] #[.int .i64 1, .int .i64 0, .slice a4 1 c4, .int .i64 2, .slice b4 1 k4] #[.int .i64 1, .int .i64 0, .slice a4 1 c4, .int .i64 2, .slice b4 1 k4] rfl rfl (keepU D2.out X4'.out) (by kernel_rfl) (by simp) rfl rfl ?_
  intro W4 hW4 o4
  simp only [Act.put]
  have D4 := Lib.hid hW4
  have hz4 := blk_lt D2.out
  have S4 : Hid (Sl W4 _ [kA]) := Lib.hid (S4'.out.off (apartSd S4'.out (keepU D2.out X4'.out) (by simp)) o4)
  have N4 : Hid (Sl W4 _ ([0] : List Int)) := Lib.hid (slOffU N4'.out V4'.out o4 hz4)
  have M4 : Hid (Sl W4 _ ([] : List Ml)) := Lib.hid (M4'.out.off (apartMl M4'.out (keepU D2.out X4'.out) (by simp)) o4)
  have X4 : Hid (Ext w W4) := Lib.hid (ext_off (X2.out.trans X4'.out) o4 (fun b hb => by omega))
  clear hW4 o4 S4' N4' V4' hz4 d0 d1 d2 d3 d4 M4'
  go_upto_region 4 with (fail)
  obtain ⟨⟨d0, d1, d2⟩, d3, d4⟩ := cells5 D4.out
  go_wp2_with (first
    | (go_at_call 20; refine (dkGet_any W4 1 0 2 0 4 0 0 _ _ [kA] [0] S4.out N4.out (by simp) (by simp)).mono ?_; rintro e w5 hg; obtain ⟨a5, c5, b5, k5, rfl, s5, n5, x5, v5⟩ := givesDN_at hg hr_get (n := 1) (m := 1) rfl rfl; have S5' := Lib.hid s5; have N5' := Lib.hid n5; have X5' : Hid (Ext W4 w5) := Lib.hid x5; have V5' := Lib.hid v5; clear s5 n5 x5 v5 hg)
    | refine haltst 29 ?_)
  refine .inl ?_
  refine st_l 29 (.tmp 2) (.tmp 33) gd 0 29 #[.int .i64 1, .int .i64 0, .slice a4 1 c4, .int .i64 2, .slice b4 1 k4] #[.int .i64 1, .int .i64 0, .slice a5 1 c5, .int .i64 2, .slice b5 1 k5] #[.int .i64 1, .int .i64 0, .slice a5 1 c5, .int .i64 2, .slice b5 1 k5] rfl rfl (keepU D4.out X5'.out) (by kernel_rfl) (by simp) rfl rfl ?_
  intro W5 hW5 o5
  simp only [Act.put]
  have D5 := Lib.hid hW5
  have hz5 := blk_lt D4.out
  have S5 : Hid (Sl W5 _ [kB]) := Lib.hid (S5'.out.off (apartSd S5'.out (keepU D4.out X5'.out) (by simp)) o5)
  have N5 : Hid (Sl W5 _ ([0] : List Int)) := Lib.hid (slOffU N5'.out V5'.out o5 hz5)
  have X5 : Hid (Ext w W5) := Lib.hid (ext_off (X4.out.trans X5'.out) o5 (fun b hb => by omega))
  clear hW5 o5 S5' N5' V5' hz5 d0 d1 d2 d3 d4
  go_upto_region 5 with (fail)
  obtain ⟨⟨d0, d1, d2⟩, d3, d4⟩ := cells5 D5.out
  go_wp2_with (first
    | (go_at_call 12; refine (fireK_any W5 1 0 2 _ _ [kB] [0] S5.out N5.out (by simp) (by simp)).mono ?_; rintro e w6 hg; obtain ⟨a6, c6, b6, k6, l6, j6, rfl, s6, n6, m6, x6, v6⟩ := givesFD_at hg hr_fire2 (n := 1) (m := 1) (l := 0) rfl rfl rfl; have S6' := Lib.hid s6; have N6' := Lib.hid n6; have M6' := Lib.hid m6; have X6' : Hid (Ext W5 w6) := Lib.hid x6; have V6' := Lib.hid v6; clear s6 n6 x6 v6 hg m6)
    | refine haltst 29 ?_)
  refine .inl ?_
  refine st_l 29 (.tmp 2) (.tmp 38) gd 0 29 #[.int .i64 1, .int .i64 0, .slice a5 1 c5, .int .i64 2, .slice b5 1 k5] #[.int .i64 1, .int .i64 0, .slice a6 1 c6, .int .i64 2, .slice b6 1 k6] #[.int .i64 1, .int .i64 0, .slice a6 1 c6, .int .i64 2, .slice b6 1 k6] rfl rfl (keepU D5.out X6'.out) (by kernel_rfl) (by simp) rfl rfl ?_
  intro W6 hW6 o6
  simp only [Act.put]
  have D6 := Lib.hid hW6
  have hz6 := blk_lt D5.out
  have S6 : Hid (Sl W6 _ [kB]) := Lib.hid (S6'.out.off (apartSd S6'.out (keepU D5.out X6'.out) (by simp)) o6)
  have N6 : Hid (Sl W6 _ ([0] : List Int)) := Lib.hid (slOffU N6'.out V6'.out o6 hz6)
  have M6 : Hid (Sl W6 _ ([] : List Ml)) := Lib.hid (M6'.out.off (apartMl M6'.out (keepU D5.out X6'.out) (by simp)) o6)
  have X6 : Hid (Ext w W6) := Lib.hid (ext_off (X5.out.trans X6'.out) o6 (fun b hb => by omega))
  clear hW6 o6 S6' N6' V6' hz6 d0 d1 d2 d3 d4 M6'
  go_upto_region 6 with (fail)
  obtain ⟨⟨d0, d1, d2⟩, d3, d4⟩ := cells5 D6.out
  go_upto_region 7 with (first
    | (go_at_call 24; refine (dkClose_any W6 1 0 2 _ _ [kB] [0] S6.out N6.out (by simp)).mono ?_; rintro e w7 hg; obtain ⟨a7, c7, b7, k7, rfl, s7, n7, x7, _⟩ := givesDN_at hg hr_close (n := 1) (m := 0) rfl rfl; have S7' := Lib.hid s7; have N7' := Lib.hid n7; have X7' : Hid (Ext W6 w7) := Lib.hid x7; clear s7 n7 x7 hg))
  obtain ⟨gs, hgs⟩ : ∃ gs, gs = w7.heap.size := ⟨_, rfl⟩
  obtain ⟨W7, hW7⟩ : ∃ W7, W7 = w7.alloc (.cells #[.int .i64 1, .int .i64 0, .slice a7 1 c7, .int .i64 0, .slice b7 0 k7] 29) := ⟨_, rfl⟩
  have D7 : Hid (W7.heap[gs]? = some (.cells #[.int .i64 1, .int .i64 0, .slice a7 1 c7, .int .i64 0, .slice b7 0 k7] 29 (0, 0))) := Lib.hid (by rw [hW7, hgs]; exact at0 w7 _)
  have S7 : Hid (Sl W7 (.slice a7 1 c7) [kB]) := Lib.hid (hW7 ▸ S7'.out.alloc _)
  have N7 : Hid (Sl W7 (.slice b7 0 k7) ([] : List Int)) := Lib.hid (hW7 ▸ N7'.out.alloc _)
  have Y7 : Hid (Ext W6 W7) := Lib.hid (hW7 ▸ X7'.out.alloc _)
  have X7 : Hid (Ext w W7) := Lib.hid (X6.out.trans Y7.out)
  have hgg : gd < gs := by rw [hgs]; exact Nat.lt_of_lt_of_le (blk_lt D6.out) (Below.size X7'.out)
  have HGS : Hid (W6.heap.size ≤ gs) := Lib.hid (by rw [hgs]; exact Below.size X7'.out)
  rw [← hW7, ← hgs]
  clear hW7 hgs S7' N7' X7' d0 d1 d2 d3 d4
  obtain ⟨⟨d0, d1, d2⟩, d3, d4⟩ := cells5 D7.out
  go_wp2_with (first
    | (go_at_call 12; refine (fireK_any W7 1 0 0 _ _ [kB] [] S7.out N7.out (by simp) (by simp)).mono ?_; rintro e w8 hg; obtain ⟨a8, c8, b8, k8, l8, j8, rfl, s8, n8, m8, x8, v8⟩ := givesFD_at hg hr_fire3 (n := 1) (m := 0) (l := 1) rfl rfl rfl; have S8' := Lib.hid s8; have N8' := Lib.hid n8; have M8' := Lib.hid m8; have X8' : Hid (Ext W7 w8) := Lib.hid x8; have V8' := Lib.hid v8; clear s8 n8 x8 v8 hg m8)
    | refine haltst 29 ?_)
  refine .inl ?_
  refine st_l 29 (.tmp 9) (.tmp 49) gs 0 29 #[.int .i64 1, .int .i64 0, .slice a7 1 c7, .int .i64 0, .slice b7 0 k7] #[.int .i64 1, .int .i64 0, .slice a8 1 c8, .int .i64 0, .slice b8 0 k8] #[.int .i64 1, .int .i64 0, .slice a8 1 c8, .int .i64 0, .slice b8 0 k8] rfl rfl (keepU D7.out X8'.out) (by kernel_rfl) (by simp) rfl rfl ?_
  intro W8 hW8 o8
  simp only [Act.put]
  have D8 := Lib.hid hW8
  have hz8 := blk_lt D7.out
  have S8 : Hid (Sl W8 _ [kC]) := Lib.hid (S8'.out.off (apartSd S8'.out (keepU D7.out X8'.out) (by simp)) o8)
  have N8 : Hid (Sl W8 _ ([] : List Int)) := Lib.hid (slOffU N8'.out V8'.out o8 hz8)
  have M8 : Hid (Sl W8 _ [(⟨1, 0, 3, 0, 0⟩ : Ml)]) := Lib.hid (M8'.out.off (apartMl M8'.out (keepU D7.out X8'.out) (by simp)) o8)
  have X8 : Hid (Ext w W8) := Lib.hid (ext_off (X7.out.trans X8'.out) o8 (fun b hb => by omega))
  have E8 : Hid (W8.heap[gd]? = some (.cells #[.int .i64 1, .int .i64 0, .slice a6 1 c6, .int .i64 2, .slice b6 1 k6] 29 (0, 0))) := Lib.hid (o8.blk (keepU D6.out (Y7.out.trans X8'.out)) (by omega))
  have T8 : Hid (Sl W8 (.slice a6 1 c6) [kB]) := Lib.hid ((S6.out.ext (Y7.out.trans X8'.out)).off (apartSd (S6.out.ext (Y7.out.trans X8'.out)) (keepU D7.out X8'.out) (by simp)) o8)
  have U8 : Hid (Sl W8 (.slice b6 1 k6) ([0] : List Int)) := Lib.hid ((N6.out.ext (Y7.out.trans X8'.out)).off (.inr fun b hb hf => by have := (N6.out.low.resolve_left (by simp)) b hb; have := Below.size Y7.out; have := blk_lt D7.out; have hl := HGS.out; omega) o8)
  clear hW8 o8 S8' N8' V8' hz8 d0 d1 d2 d3 d4 M8'
  have DC := Lib.hid (fun W (x : Ext W8 W) => cells5 (keepU E8.out x))
  have EC := Lib.hid (fun W (x : Ext W8 W) => cells5 (keepU D8.out x))
  obtain ⟨bm, om, ym, _, hym, hbm, hnm, hncm, hc63m, hbwm, hcm⟩ := M8.out.mailAt (k := 0) (by decide)
  subst hbm
  obtain rfl : ym = ⟨1, 0, 3, 0, 0⟩ := by simpa using hym.symm
  obtain ⟨⟨m0, m1⟩, m2, m3, m4⟩ := hcm W8 (Ext.refl _)
  simp only [Nat.zero_mul, Nat.add_zero] at m0 m1 m2 m3 m4
  clear hym hcm hnm
  obtain ⟨⟨d0, d1, d2⟩, d3, d4⟩ := DC.out W8 (Ext.refl _)
  obtain ⟨⟨e0, e1, e2⟩, e3, e4⟩ := EC.out W8 (Ext.refl _)
  try dsimp only [List.append]
  go_wp2_with (first
    | (go_at_call 17; refine (dkCheck_any W8 1 0 0 _ _ [kC] [] S8.out N8.out (by simp) true hr_chk).mono ?_; rintro e wd ⟨rfl, hx⟩; dsimp only [cond]; have XD : Hid (Ext W8 wd) := Lib.hid hx; clear d0 d1 d2 d3 d4 e0 e1 e2 e3 e4; obtain ⟨⟨d0, d1, d2⟩, d3, d4⟩ := DC.out wd hx; obtain ⟨⟨e0, e1, e2⟩, e3, e4⟩ := EC.out wd hx; clear hx)
    | (go_at_call 14; have hgd := XE; refine (dkSame_any we 1 0 0 1 0 2 _ _ _ _ [kC] [kB] [] [0] (S8.out.ext XE.out) (T8.out.ext XE.out) (N8.out.ext XE.out) (U8.out.ext XE.out) false (by decide +kernel)).mono ?_; rintro e wf ⟨rfl, hx⟩; have XF : Hid (Ext W8 wf) := Lib.hid (XE.out.trans hx); clear hx hgd)
    | (go_at_call 14; refine (dkSame_any wd 1 0 0 1 0 0 _ _ _ _ [kC] [kC] [] [] (S8.out.ext XD.out) (S8.out.ext XD.out) (N8.out.ext XD.out) (N8.out.ext XD.out) true (by decide +kernel)).mono ?_; rintro e we ⟨rfl, hx⟩; have XE : Hid (Ext W8 we) := Lib.hid (XD.out.trans hx); clear d0 d1 d2 d3 d4 e0 e1 e2 e3 e4; obtain ⟨⟨d0, d1, d2⟩, d3, d4⟩ := DC.out we XE.out; obtain ⟨⟨e0, e1, e2⟩, e3, e4⟩ := EC.out we XE.out; clear hx))
  go_ret
  exact ⟨rfl, X8.out.trans XF.out⟩
end Go.Proofs.Ytpjpjchnfllcmaa
