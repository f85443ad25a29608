/- Layer 13: a law. -/
import Derived.Test.YtogbjpipkegecaaUZ
namespace Go.Proofs.Ytogbjpipkegecaa
open Go.RowKit

set_option maxRecDepth 100000 in
set_option maxHeartbeats 16000000 in
theorem dineClean_any (w : World) (id ph : Int) (ao : Option Addr) (c : Nat) (L : List Sd) (peer me : Int) (h : Sl w (.slice ao L.length c) L) :
    Calls Try.prog 8 #[.agg #[.int .i64 id, .int .i64 ph, .slice ao L.length c], .int .i64 peer, .int .i64 me] w fun e w' => e = .returned (.bool true) ∧ Ext w w' := by
  have hlen := h.length_le
  obtain ⟨W0, hW0⟩ : ∃ W0, W0 = (w.alloc (.cells #[.int .i64 id, .int .i64 ph, .slice ao L.length c] 25)) := ⟨_, rfl⟩
  have X0 : Hid (Ext w W0) := Lib.hid (hW0 ▸ ((Ext.refl w).alloc _))
  have D0 : Hid (W0.heap[w.heap.size]? = some (.cells #[.int .i64 id, .int .i64 ph, .slice ao L.length c] 25 (0, 0))) := Lib.hid (hW0 ▸ at0 w _)
  have HW0 := Lib.hid hW0
  have HS := Lib.hid (h.ext X0.out)
  clear h hW0
  have hl63 := hlen
  obtain ⟨d0, d1, d2⟩ := cells3U D0.out
  by_cases h70 : (70 : Int) < (L.length : Int)
  · clear hl63
    go_enter Try.func8, Try.ntmps8
    go_upto_region 1 with (fail)
    rw [← HW0.out]
    go_wp2_with (first
      | (go_at_call 10; have hgd := XA; refine (awake_any _).mono ?_; rintro e wb ⟨rfl, hx⟩; have XB : Hid (Ext W0 wb) := Lib.hid (XA.out.trans hx); clear hx hgd)
      | (go_at_call 10; refine (awake_any _).mono ?_; rintro e wa ⟨rfl, hx⟩; have XA : Hid (Ext W0 wa) := Lib.hid hx; clear d0 d1 d2; obtain ⟨d0, d1, d2⟩ := cells3U (keepU D0.out hx); clear hx))
    go_ret
    exact ⟨rfl, X0.out.trans XB.out⟩
  have hL : L.length ≤ 1000 := by omega
  clear hl63
  obtain ⟨⟨⟨i, p, M⟩, er⟩, hr⟩ : ∃ r, getR ⟨id, ph, L⟩ peer 1 me 0 = r := ⟨_, rfl⟩
  have HR := Lib.hid hr
  clear hr
  by_cases he : er = 0
  · subst he
    obtain ⟨⟨i2, p2, M2⟩, ⟨i3, p3, M3⟩, ⟨i4, p4, M4⟩, ly, lw, ez, ⟨u0, u1, u2, u3, u4, u5, u6, u7⟩, ⟨v0, v1, v2, v3, v4, v5, v6, v7⟩, bt, f1, f2, f3, f4, f5, f6, f7, f8, f9, f10, f11⟩ := clean_vals HR.out
    dsimp only at f4 f5 f6 f7 f8 f9 f10 f11
    subst f6
    have R1 := Lib.hid f1
    have R2 := Lib.hid f2
    have R3 := Lib.hid f3
    have R4 := Lib.hid f4
    have R5 := Lib.hid f5
    have R7 := Lib.hid f7
    have R8 := Lib.hid f8
    have hM1 : M.length ≤ 1000 := by omega
    have hM2 : M2.length ≤ 1000 := by omega
    have hM3 : M3.length ≤ 1000 := by omega
    clear f1 f2 f3 f4 f5 f7 f8 f9 f10 f11
    go_enter Try.func8, Try.ntmps8
    go_upto_region 1 with (fail)
    rw [← HW0.out]
    go_upto_region 3 with (first
      | (go_at_call 10; refine (awake_any _).mono ?_; rintro e wa ⟨rfl, hx⟩; have XA : Hid (Ext W0 wa) := Lib.hid hx; clear d0 d1 d2; obtain ⟨d0, d1, d2⟩ := cells3U (keepU D0.out hx); clear hx))
    go_upto_region 4 with (first
      | (go_at_call 12; refine (ownL_any _ id ph _ L (HS.out.ext XA.out) hL).mono ?_; rintro e w1 ⟨a1, c1, rfl, s1, x1⟩; have S1 := Lib.hid s1; have X1 : Hid (Ext W0 w1) := Lib.hid (XA.out.trans x1); clear s1 x1)
      | (go_at_call 19; refine (get_any _ id ph peer 1 me 0 _ L S1.out hL).mono ?_; intro e w2 hge; obtain ⟨a2, k2, rfl, s2, x2⟩ := givesE_spec hge HR.out; have S2 := Lib.hid s2; have XX2 : Hid (Ext W0 w2) := Lib.hid (X1.out.trans x2); clear hge s2 x2))
    obtain ⟨g3, hg3⟩ : ∃ g3, g3 = w2.heap.size := ⟨_, rfl⟩
    obtain ⟨W3, hW3⟩ : ∃ W3, W3 = w2.alloc (.cells #[.int .i64 i, .int .i64 p, .slice a2 M.length k2] 25) := ⟨_, rfl⟩
    have X3 : Hid (Ext W0 W3) := Lib.hid (hW3 ▸ XX2.out.alloc _)
    have B3 : Hid (W3.heap[g3]? = some (.cells #[.int .i64 i, .int .i64 p, .slice a2 M.length k2] 25 (0, 0))) := Lib.hid (by rw [hW3, hg3]; exact at0 w2 _)
    have Z3 : Hid (Ext w2 W3) := Lib.hid (hW3 ▸ (Ext.refl _).alloc _)
    have S3 := Lib.hid (S2.out.ext Z3.out)
    rw [← hW3, ← hg3]
    clear hW3 hg3
    clear d0 d1 d2 S1 X1 S2 XX2
    obtain ⟨d0, d1, d2⟩ := cells3U B3.out
    go_upto_region 7 with (first
      | (go_at_call 12; refine (ownL_any _ i p _ M S3.out hM1).mono ?_; rintro e w4 ⟨a4, c4, rfl, s4, x4⟩; have S4 := Lib.hid s4; have XX4 : Hid (Ext W0 w4) := Lib.hid (X3.out.trans x4); clear s4 x4)
      | (go_at_call 11; refine (fire_any _ i p _ M S4.out hM1).mono ?_; intro e w5 hge; obtain ⟨a5, k5, b5, q5, rfl, s5, l5, x5⟩ := givesF_spec hge R1.out; have S5 := Lib.hid s5; have XX5 : Hid (Ext W0 w5) := Lib.hid (XX4.out.trans x5); clear hge s5 l5 x5))
    obtain ⟨g6, hg6⟩ : ∃ g6, g6 = w5.heap.size := ⟨_, rfl⟩
    obtain ⟨W6, hW6⟩ : ∃ W6, W6 = w5.alloc (.cells #[.int .i64 i2, .int .i64 p2, .slice a5 M2.length k5] 25) := ⟨_, rfl⟩
    have X6 : Hid (Ext W0 W6) := Lib.hid (hW6 ▸ XX5.out.alloc _)
    have B6 : Hid (W6.heap[g6]? = some (.cells #[.int .i64 i2, .int .i64 p2, .slice a5 M2.length k5] 25 (0, 0))) := Lib.hid (by rw [hW6, hg6]; exact at0 w5 _)
    have Z6 : Hid (Ext w5 W6) := Lib.hid (hW6 ▸ (Ext.refl _).alloc _)
    have S6 := Lib.hid (S5.out.ext Z6.out)
    rw [← hW6, ← hg6]
    clear hW6 hg6
    clear d0 d1 d2 S4 XX4 S5 XX5
    obtain ⟨d0, d1, d2⟩ := cells3U B6.out
    go_upto_region 8 with (first
      | (go_at_call 12; refine (ownL_any _ i2 p2 _ M2 S6.out hM2).mono ?_; rintro e w7 ⟨a7, c7, rfl, s7, x7⟩; have S7 := Lib.hid s7; have XX7 : Hid (Ext W6 w7) := Lib.hid x7; clear s7 x7)
      | (go_at_call 19; refine (get_any _ i2 p2 peer 2 me 0 _ M2 S7.out hM2).mono ?_; intro e w8 hge; obtain ⟨a8, k8, rfl, s8, x8⟩ := givesE_spec hge R2.out; have S8 := Lib.hid s8; have Y8 : Hid (Ext W6 w8) := Lib.hid (XX7.out.trans x8); have XX8 : Hid (Ext W0 w8) := Lib.hid (X6.out.trans Y8.out); clear hge s8 x8))
    obtain ⟨g9, hg9⟩ : ∃ g9, g9 = w8.heap.size := ⟨_, rfl⟩
    obtain ⟨W9, hW9⟩ : ∃ W9, W9 = w8.alloc (.cells #[.int .i64 i3, .int .i64 p3, .slice a8 M3.length k8] 25) := ⟨_, rfl⟩
    have X9 : Hid (Ext W0 W9) := Lib.hid (hW9 ▸ XX8.out.alloc _)
    have B9 : Hid (W9.heap[g9]? = some (.cells #[.int .i64 i3, .int .i64 p3, .slice a8 M3.length k8] 25 (0, 0))) := Lib.hid (by rw [hW9, hg9]; exact at0 w8 _)
    have Z9 : Hid (Ext w8 W9) := Lib.hid (hW9 ▸ (Ext.refl _).alloc _)
    have S9 := Lib.hid (S8.out.ext Z9.out)
    rw [← hW9, ← hg9]
    clear hW9 hg9
    have Y9 : Hid (Ext W6 W9) := Lib.hid (Y8.out.trans Z9.out)
    clear d0 d1 d2 S7 XX7 S8 XX8
    obtain ⟨d0, d1, d2⟩ := cells3U B9.out
    go_upto_region 9 with (first
      | (go_at_call 12; refine (ownL_any _ i3 p3 _ M3 S9.out hM3).mono ?_; rintro e w10 ⟨a10, c10, rfl, s10, x10⟩; have S10 := Lib.hid s10; have XX10 : Hid (Ext W9 w10) := Lib.hid x10; clear s10 x10)
      | (go_at_call 11; refine (fire_any _ i3 p3 _ M3 S10.out hM3).mono ?_; intro e w11 hge; obtain ⟨a11, k11, b11, q11, rfl, s11, l11, x11⟩ := givesF_spec hge R3.out; have S11 := Lib.hid s11; have Y11 : Hid (Ext W9 w11) := Lib.hid (XX10.out.trans x11); have XX11 : Hid (Ext W0 w11) := Lib.hid (X9.out.trans Y11.out); clear hge s11 l11 x11))
    obtain ⟨g12, hg12⟩ : ∃ g12, g12 = w11.heap.size := ⟨_, rfl⟩
    obtain ⟨W12, hW12⟩ : ∃ W12, W12 = w11.alloc (.cells #[.int .i64 i4, .int .i64 p4, .slice a11 M4.length k11] 25) := ⟨_, rfl⟩
    have X12 : Hid (Ext W0 W12) := Lib.hid (hW12 ▸ XX11.out.alloc _)
    have B12 : Hid (W12.heap[g12]? = some (.cells #[.int .i64 i4, .int .i64 p4, .slice a11 M4.length k11] 25 (0, 0))) := Lib.hid (by rw [hW12, hg12]; exact at0 w11 _)
    have Z12 : Hid (Ext w11 W12) := Lib.hid (hW12 ▸ (Ext.refl _).alloc _)
    have S12 := Lib.hid (S11.out.ext Z12.out)
    rw [← hW12, ← hg12]
    clear hW12 hg12
    have Y12 : Hid (Ext W9 W12) := Lib.hid (Y11.out.trans Z12.out)
    have V12 : Hid (Ext W6 W12) := Lib.hid (Y9.out.trans Y12.out)
    clear d0 d1 d2 S10 XX10 S11 XX11
    obtain ⟨d0, d1, d2⟩ := cells3U (keepU B6.out V12.out)
    go_upto_region 10 with (first
      | (go_at_call 23; refine (refSide_any _ i2 p2 _ M2 peer (S6.out.ext V12.out) _ _ R4.out).mono ?_; rintro e w13 ⟨rfl, x13⟩; unfold Sd.cs; dsimp only; have Y13 : Hid (Ext W12 w13) := Lib.hid x13; have XX13 : Hid (Ext W0 w13) := Lib.hid (X12.out.trans x13); clear x13))
    obtain ⟨g14, hg14⟩ : ∃ g14, g14 = w13.heap.size := ⟨_, rfl⟩
    obtain ⟨W14, hW14⟩ : ∃ W14, W14 = w13.alloc (.cells #[.int .i64 u0, .int .i64 u1, .int .i64 u2, .bool true, .bool u4, .bool u5, .bool u6, .bool u7] 47) := ⟨_, rfl⟩
    have X14 : Hid (Ext W0 W14) := Lib.hid (hW14 ▸ XX13.out.alloc _)
    have B14 : Hid (W14.heap[g14]? = some (.cells #[.int .i64 u0, .int .i64 u1, .int .i64 u2, .bool true, .bool u4, .bool u5, .bool u6, .bool u7] 47 (0, 0))) := Lib.hid (by rw [hW14, hg14]; exact at0 w13 _)
    have Z14 : Hid (Ext w13 W14) := Lib.hid (hW14 ▸ (Ext.refl _).alloc _)
    rw [← hW14, ← hg14]
    clear hW14 hg14
    have Y14 : Hid (Ext W12 W14) := Lib.hid (Y13.out.trans Z14.out)
    clear d0 d1 d2
    obtain ⟨d0, d1, d2⟩ := cells3U (keepU B12.out Y14.out)
    go_upto_region 11 with (first
      | (go_at_call 23; refine (refSide_any _ i4 p4 _ M4 peer (S12.out.ext Y14.out) _ _ R5.out).mono ?_; rintro e w15 ⟨rfl, x15⟩; unfold Sd.cs; dsimp only; have Y15 : Hid (Ext W14 w15) := Lib.hid x15; have XX15 : Hid (Ext W0 w15) := Lib.hid (X14.out.trans x15); clear x15))
    obtain ⟨g16, hg16⟩ : ∃ g16, g16 = w15.heap.size := ⟨_, rfl⟩
    obtain ⟨W16, hW16⟩ : ∃ W16, W16 = w15.alloc (.cells #[.int .i64 v0, .int .i64 v1, .int .i64 v2, .bool v3, .bool v4, .bool v5, .bool v6, .bool v7] 47) := ⟨_, rfl⟩
    have X16 : Hid (Ext W0 W16) := Lib.hid (hW16 ▸ XX15.out.alloc _)
    have B16 : Hid (W16.heap[g16]? = some (.cells #[.int .i64 v0, .int .i64 v1, .int .i64 v2, .bool v3, .bool v4, .bool v5, .bool v6, .bool v7] 47 (0, 0))) := Lib.hid (by rw [hW16, hg16]; exact at0 w15 _)
    have Z16 : Hid (Ext w15 W16) := Lib.hid (hW16 ▸ (Ext.refl _).alloc _)
    rw [← hW16, ← hg16]
    clear hW16 hg16
    have Y16 : Hid (Ext W14 W16) := Lib.hid (Y15.out.trans Z16.out)
    clear d0 d1 d2
    have g6 := keepU B6.out (V12.out.trans (Y14.out.trans Y16.out))
    have g9 := keepU B9.out (Y12.out.trans (Y14.out.trans Y16.out))
    have gd := keepU D0.out X16.out
    have g14 := keepU B14.out Y16.out
    obtain ⟨d0, d1, d2⟩ := cells3U gd
    obtain ⟨e0, e1, e2⟩ := cells3U g6
    obtain ⟨f0, f1, f2⟩ := cells3U g9
    have h3 := blk_cell g14 3 rfl
    have h4 := blk_cell g14 4 rfl
    have i3' := blk_cell B16.out 3 rfl
    have XF : Hid (Ext w W16) := Lib.hid (X0.out.trans X16.out)
    clear g6 g9 gd g14
    obtain ⟨q1, hq1⟩ : ∃ q, (p2 == 2) = q := ⟨_, rfl⟩
    obtain ⟨q2, hq2⟩ : ∃ q, (ph == 1) = q := ⟨_, rfl⟩
    have hu4 := R8.out
    rw [hq1, hq2] at hu4
    subst hu4
    by_cases hz : M3.length = 0
    · have hz2 : ((M3.length : Int) == 0) = true := by simp [hz]
      have HZ := Lib.hid hz
      clear hz
      cases q1
      · cases q2
        all_goals
          go_wp2
          go_ret
          exact ⟨rfl, XF.out⟩
      · cases q2
        all_goals
          go_wp2
          go_ret
          exact ⟨rfl, XF.out⟩
    · have hz2 : ((M3.length : Int) == 0) = false := by simp; exact fun e => hz (by rw [e]; rfl)
      obtain rfl : v3 = true := R7.out.elim (fun e => absurd (by rw [e]; rfl) hz) (fun e => e)
      clear hz
      cases q1
      · cases q2
        all_goals
          go_wp2
          go_ret
          exact ⟨rfl, XF.out⟩
      · cases q2
        all_goals
          go_wp2
          go_ret
          exact ⟨rfl, XF.out⟩
  · have he2 : (er != 0) = true := by simp [he]
    clear he
    go_enter Try.func8, Try.ntmps8
    go_upto_region 1 with (fail)
    rw [← HW0.out]
    go_upto_region 3 with (first
      | (go_at_call 10; refine (awake_any _).mono ?_; rintro e wa ⟨rfl, hx⟩; have XA : Hid (Ext W0 wa) := Lib.hid hx; clear d0 d1 d2; obtain ⟨d0, d1, d2⟩ := cells3U (keepU D0.out hx); clear hx))
    go_upto_region 4 with (first
      | (go_at_call 12; refine (ownL_any _ id ph _ L (HS.out.ext XA.out) hL).mono ?_; rintro e w1 ⟨a1, c1, rfl, s1, x1⟩; have S1 := Lib.hid s1; have X1 : Hid (Ext W0 w1) := Lib.hid (XA.out.trans x1); clear s1 x1)
      | (go_at_call 19; refine (get_any _ id ph peer 1 me 0 _ L S1.out hL).mono ?_; intro e w2 hge; obtain ⟨a2, k2, rfl, s2, x2⟩ := givesE_spec hge HR.out; have S2 := Lib.hid s2; have XX2 : Hid (Ext W0 w2) := Lib.hid (X1.out.trans x2); clear hge s2 x2))
    obtain ⟨g3, hg3⟩ : ∃ g3, g3 = w2.heap.size := ⟨_, rfl⟩
    obtain ⟨W3, hW3⟩ : ∃ W3, W3 = w2.alloc (.cells #[.int .i64 i, .int .i64 p, .slice a2 M.length k2] 25) := ⟨_, rfl⟩
    have X3 : Hid (Ext W0 W3) := Lib.hid (hW3 ▸ XX2.out.alloc _)
    have B3 : Hid (W3.heap[g3]? = some (.cells #[.int .i64 i, .int .i64 p, .slice a2 M.length k2] 25 (0, 0))) := Lib.hid (by rw [hW3, hg3]; exact at0 w2 _)
    have Z3 : Hid (Ext w2 W3) := Lib.hid (hW3 ▸ (Ext.refl _).alloc _)
    rw [← hW3, ← hg3]
    clear hW3 hg3
    go_wp2
    go_ret
    exact ⟨rfl, X0.out.trans X3.out⟩

end Go.Proofs.Ytogbjpipkegecaa
