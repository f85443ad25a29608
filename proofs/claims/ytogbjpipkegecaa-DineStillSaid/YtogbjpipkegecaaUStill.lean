/- Layer 13: a law. -/
import Derived.Test.YtogbjpipkegecaaUX
namespace Go.Proofs.Ytogbjpipkegecaa
open Go.RowKit

set_option maxRecDepth 100000 in
set_option maxHeartbeats 16000000 in
theorem dineStill_any (w : World) (id ph : Int) (ao : Option Addr) (c : Nat) (L : List Sd) (h : Sl w (.slice ao L.length c) L) :
    Calls Try.prog 6 #[.agg #[.int .i64 id, .int .i64 ph, .slice ao L.length c]] w fun e w' => e = .returned (.bool true) ∧ Ext w w' := by
  have hlen := h.length_le
  obtain ⟨W0, hW0⟩ : ∃ W0, W0 = (w.alloc (.cells #[.int .i64 id, .int .i64 ph, .slice ao L.length c] 25)) := ⟨_, rfl⟩
  have X0 : Hid (Ext w W0) := Lib.hid (hW0 ▸ ((Ext.refl w).alloc _))
  have D0 : Hid (W0.heap[w.heap.size]? = some (.cells #[.int .i64 id, .int .i64 ph, .slice ao L.length c] 25 (0, 0))) := Lib.hid (hW0 ▸ at0 w _)
  have HW0 := Lib.hid hW0
  have HS := Lib.hid (h.ext X0.out)
  clear h hW0
  have hl63 := hlen
  obtain ⟨d0, d1, d2⟩ := cells3U D0.out
  by_cases h70 : (70 : Int) < (L.length : Int)
  · clear hl63
    go_enter Try.func6, Try.ntmps6
    go_upto_region 1 with (fail)
    rw [← HW0.out]
    go_wp2_with (first
      | (go_at_call 10; have hgd := XA; refine (awake_any _).mono ?_; rintro e wb ⟨rfl, hx⟩; have XB : Hid (Ext W0 wb) := Lib.hid (XA.out.trans hx); clear hx hgd)
      | (go_at_call 10; refine (awake_any _).mono ?_; rintro e wa ⟨rfl, hx⟩; have XA : Hid (Ext W0 wa) := Lib.hid hx; clear d0 d1 d2; obtain ⟨d0, d1, d2⟩ := cells3U (keepU D0.out hx); clear hx))
    go_ret
    exact ⟨rfl, X0.out.trans XB.out⟩
  have hL : L.length ≤ 1000 := by omega
  clear hl63
  obtain ⟨t, ht⟩ : ∃ t, dnOk ⟨id, ph, L⟩ = t := ⟨_, rfl⟩
  have HT := Lib.hid ht
  obtain ⟨⟨⟨i, p, M⟩, l, er⟩, hr⟩ : ∃ r, fireR ⟨id, ph, L⟩ = r := ⟨_, rfl⟩
  have HR := Lib.hid hr
  clear ht hr
  cases t
  · have hrr : fireR ⟨id, ph, L⟩ = (noD, [], 130) := by unfold fireR; rw [HT.out]; rfl
    have hr2 := HR.out.symm.trans hrr
    obtain rfl : er = 130 := congrArg (fun x => x.2.2) hr2
    clear hrr hr2
    go_enter Try.func6, Try.ntmps6
    go_upto_region 1 with (fail)
    rw [← HW0.out]
    go_upto_region 3 with (first
      | (go_at_call 10; refine (awake_any _).mono ?_; rintro e wa ⟨rfl, hx⟩; have XA : Hid (Ext W0 wa) := Lib.hid hx; clear d0 d1 d2; obtain ⟨d0, d1, d2⟩ := cells3U (keepU D0.out hx); clear hx))
    go_upto_region 4 with (first
      | (go_at_call 12; refine (ownL_any _ id ph _ L (HS.out.ext XA.out) hL).mono ?_; rintro e w1 ⟨a1, c1, rfl, s1, x1⟩; have S1 := Lib.hid s1; have X1 : Hid (Ext W0 w1) := Lib.hid (XA.out.trans x1); clear s1 x1)
      | (go_at_call 11; refine (fire_any _ id ph _ L S1.out hL).mono ?_; intro e w2 hge; obtain ⟨a2, k2, b2, q2, rfl, s2, l2, x2⟩ := givesF_spec hge HR.out; have S2 := Lib.hid s2; have L2 := Lib.hid l2; have X2 : Hid (Ext W0 w2) := Lib.hid (X1.out.trans x2); clear hge s2 l2 x2))
    obtain ⟨g3, hg3⟩ : ∃ g3, g3 = w2.heap.size := ⟨_, rfl⟩
    obtain ⟨W3, hW3⟩ : ∃ W3, W3 = w2.alloc (.cells #[.int .i64 i, .int .i64 p, .slice a2 M.length k2] 25) := ⟨_, rfl⟩
    have X3 : Hid (Ext W0 W3) := Lib.hid (hW3 ▸ X2.out.alloc _)
    have B3 : Hid (W3.heap[g3]? = some (.cells #[.int .i64 i, .int .i64 p, .slice a2 M.length k2] 25 (0, 0))) := Lib.hid (by rw [hW3, hg3]; exact at0 w2 _)
    have S3 : Hid (Sl W3 (.slice a2 M.length k2) M) := Lib.hid (hW3 ▸ S2.out.alloc _)
    have L3 : Hid (Sl W3 (.slice b2 l.length q2) l) := Lib.hid (hW3 ▸ L2.out.alloc _)
    rw [← hW3, ← hg3]
    clear hW3 hg3 d0 d1 d2 S2 X2 S1 X1 L2
    go_wp2
    go_ret
    exact ⟨rfl, X0.out.trans X3.out⟩
  · have hrr : fireR ⟨id, ph, L⟩ = (fireD ⟨id, ph, L⟩, fireMl ⟨id, ph, L⟩, 0) := by unfold fireR; rw [HT.out]; rfl
    have hr2 := HR.out.symm.trans hrr
    simp only [Prod.mk.injEq] at hr2
    obtain ⟨hf1, hf2, rfl⟩ := hr2
    clear hrr
    have HDK : Hid (dnOk ⟨i, p, M⟩ = true) := Lib.hid (hf1 ▸ dnOk_fire HT.out)
    have HR2 : Hid (fireR ⟨i, p, M⟩ = (⟨i, p, M⟩, [], 0)) := Lib.hid (by
      obtain ⟨q1, q2⟩ := fireD_still ⟨id, ph, L⟩
      rw [← hf1] at q1 q2
      unfold fireR
      rw [if_pos HDK.out, q1, q2])
    have HCALM : Hid (M.all (calm p) = true) := Lib.hid (by have := fireD_calm ⟨id, ph, L⟩; rw [← hf1] at this; exact this)
    have HEAT : Hid (eats p M = false) := Lib.hid (by have := fireD_stays ⟨id, ph, L⟩; rw [← hf1] at this; exact this)
    have hM : M.length ≤ 1000 := by
      have := (fireD_len ⟨id, ph, L⟩).1
      rw [← hf1] at this
      have h2 : M.length = L.length := this
      omega
    clear hf1 hf2
    go_enter Try.func6, Try.ntmps6
    go_upto_region 1 with (fail)
    rw [← HW0.out]
    go_upto_region 3 with (first
      | (go_at_call 10; refine (awake_any _).mono ?_; rintro e wa ⟨rfl, hx⟩; have XA : Hid (Ext W0 wa) := Lib.hid hx; clear d0 d1 d2; obtain ⟨d0, d1, d2⟩ := cells3U (keepU D0.out hx); clear hx))
    go_upto_region 4 with (first
      | (go_at_call 12; refine (ownL_any _ id ph _ L (HS.out.ext XA.out) hL).mono ?_; rintro e w1 ⟨a1, c1, rfl, s1, x1⟩; have S1 := Lib.hid s1; have X1 : Hid (Ext W0 w1) := Lib.hid (XA.out.trans x1); clear s1 x1)
      | (go_at_call 11; refine (fire_any _ id ph _ L S1.out hL).mono ?_; intro e w2 hge; obtain ⟨a2, k2, b2, q2, rfl, s2, l2, x2⟩ := givesF_spec hge HR.out; have S2 := Lib.hid s2; have L2 := Lib.hid l2; have X2 : Hid (Ext W0 w2) := Lib.hid (X1.out.trans x2); clear hge s2 l2 x2))
    obtain ⟨g3, hg3⟩ : ∃ g3, g3 = w2.heap.size := ⟨_, rfl⟩
    obtain ⟨W3, hW3⟩ : ∃ W3, W3 = w2.alloc (.cells #[.int .i64 i, .int .i64 p, .slice a2 M.length k2] 25) := ⟨_, rfl⟩
    have X3 : Hid (Ext W0 W3) := Lib.hid (hW3 ▸ X2.out.alloc _)
    have B3 : Hid (W3.heap[g3]? = some (.cells #[.int .i64 i, .int .i64 p, .slice a2 M.length k2] 25 (0, 0))) := Lib.hid (by rw [hW3, hg3]; exact at0 w2 _)
    have S3 : Hid (Sl W3 (.slice a2 M.length k2) M) := Lib.hid (hW3 ▸ S2.out.alloc _)
    have L3 : Hid (Sl W3 (.slice b2 l.length q2) l) := Lib.hid (hW3 ▸ L2.out.alloc _)
    rw [← hW3, ← hg3]
    clear hW3 hg3 d0 d1 d2 S2 X2 S1 X1 L2
    clear L3
    obtain ⟨f0, f1, f2⟩ := cells3U B3.out
    go_upto_region 7 with (first
      | (go_at_call 12; refine (ownL_any _ i p _ M S3.out hM).mono ?_; rintro e w4 ⟨a4, c4, rfl, s4, x4⟩; have S4 := Lib.hid s4; have X4 : Hid (Ext W3 w4) := Lib.hid x4; clear s4 x4)
      | (go_at_call 11; refine (fire_any _ i p _ M S4.out hM).mono ?_; intro e w5 hge; obtain ⟨a5, k5, b5, q5, rfl, s5, l5, x5⟩ := givesF_spec hge HR2.out; dsimp only [List.length_nil] at l5 ⊢; have S5 := Lib.hid s5; have X5 : Hid (Ext W3 w5) := Lib.hid (X4.out.trans x5); clear hge s5 l5 x5))
    obtain ⟨g6, hg6⟩ : ∃ g6, g6 = w5.heap.size := ⟨_, rfl⟩
    obtain ⟨W6, hW6⟩ : ∃ W6, W6 = w5.alloc (.cells #[.int .i64 i, .int .i64 p, .slice a5 M.length k5] 25) := ⟨_, rfl⟩
    have X6 : Hid (Ext W3 W6) := Lib.hid (hW6 ▸ X5.out.alloc _)
    have B6 : Hid (W6.heap[g6]? = some (.cells #[.int .i64 i, .int .i64 p, .slice a5 M.length k5] 25 (0, 0))) := Lib.hid (by rw [hW6, hg6]; exact at0 w5 _)
    have S6 : Hid (Sl W6 (.slice a5 M.length k5) M) := Lib.hid (hW6 ▸ S5.out.alloc _)
    rw [← hW6, ← hg6]
    clear hW6 hg6 f0 f1 f2 S5 X5 S4 X4
    obtain ⟨f0, f1, f2⟩ := cells3U (keepU B3.out X6.out)
    have hll := S3.out.length_le
    obtain ⟨b1, hb1⟩ : ∃ b1, (p == 1) = b1 := ⟨_, rfl⟩
    obtain ⟨b2, hb2⟩ : ∃ b2, (p != 2) = b2 := ⟨_, rfl⟩
    have hb3 : (p != 1) = !b1 := by rw [← hb1]; rfl
    go_wp2
    go_loopw [9, 10] (fun s9 iv wr => ∃ (k : Nat) (b : Bool), k ≤ M.length ∧ s9 = .bool b ∧ iv = .int .i64 k ∧ Hid (b = !(M.take k).all (·.fork)) ∧ Hid (Ext W6 wr)) (fun _ iv _ => M.length - (intOf iv).toNat)
    case atStart => exact ⟨0, false, Nat.zero_le _, rfl, rfl, Lib.hid (by simp), Lib.hid (Ext.refl _)⟩
    case round =>
      obtain ⟨k, b, hk, rfl, rfl, HB, HX⟩ := hrel
      clear f0 f1 f2
      have XW : Hid (Ext W3 wr) := Lib.hid (X6.out.trans HX.out)
      obtain ⟨f0, f1, f2⟩ := cells3U (keepU B3.out XW.out)
      by_cases hlt : k < M.length
      · obtain ⟨bb, off, s, hsy, hsj, rfl, hn, hnc, hc63, hbl, hcs⟩ := S3.out.sidesAt hlt
        obtain ⟨⟨⟨x0, x1⟩, x2, x3⟩, ⟨x4, x5⟩, x6, x7⟩ := hcs wr XW.out
        have HN := Lib.hid (all_nextU (·.fork) hsj)
        have HC : Hid ((((s.fork && s.dirty) && s.token) && b2) = false ∧ ((b1 && s.token) && !s.fork) = false) := Lib.hid (by
          have hc := List.all_eq_true.1 HCALM.out s (List.mem_of_getElem? hsj)
          unfold calm at hc
          rw [hot_bits, wants_bits, hb1, hb2] at hc
          simpa only [Bool.and_eq_true, Bool.not_eq_true'] using hc)
        obtain ⟨W7, hW7⟩ : ∃ W7, W7 = wr.alloc (.cells s.cs 47) := ⟨_, rfl⟩
        obtain ⟨gx, hgx⟩ : ∃ gx, wr.heap.size = gx := ⟨_, rfl⟩
        have X7 : Hid (Ext W6 W7) := Lib.hid (hW7 ▸ HX.out.alloc _)
        have B7 : Hid (W7.heap[gx]? = some (.cells s.cs 47 (0, 0))) := Lib.hid (by rw [hW7, ← hgx]; exact at0 wr _)
        have HW7 := Lib.hid hW7
        clear hsy hsj hcs hn hW7
        obtain ⟨y0, y1, y2, y3, y4, y5, y6, y7⟩ := s
        dsimp only at x0 x1 x2 x3 x4 x5 x6 x7 HC HN
        dsimp only [Sd.cs] at HW7 B7
        go_upto_region 12 with (fail)
        rw [← HW7.out]
        try rw [hgx]
        clear x0 x1 x2 x3 x4 x5 x6 x7 f0 f1 f2 hgx
        obtain ⟨⟨⟨x0, x1⟩, x2, x3⟩, ⟨x4, x5⟩, x6, x7⟩ := cells8U B7.out
        obtain ⟨f0, f1, f2⟩ := cells3U (keepU B3.out (X6.out.trans X7.out))
        go_cut [77] (fun s77 wx => s77 = .bool false ∧ W7 = wx)
        case first =>
          clear HN HB
          cases y3
          · cases b1
            · go_wp2_with fail
              go_meet
              exact ⟨rfl, rfl⟩
            · cases y5
              · go_wp2_with fail
                go_meet
                exact ⟨rfl, rfl⟩
              · exact absurd HC.out.2 (by decide)
          · cases y4
            · cases b1
              · go_wp2_with fail
                go_meet
                exact ⟨rfl, rfl⟩
              · go_wp2_with fail
                go_meet
                exact ⟨rfl, rfl⟩
            · cases y5
              · cases b1
                · go_wp2_with fail
                  go_meet
                  exact ⟨rfl, rfl⟩
                · go_wp2_with fail
                  go_meet
                  exact ⟨rfl, rfl⟩
              · cases b2
                · cases b1
                  · go_wp2_with fail
                    go_meet
                    exact ⟨rfl, rfl⟩
                  · go_wp2_with fail
                    go_meet
                    exact ⟨rfl, rfl⟩
                · exact absurd HC.out.1 (by decide)
        case rest =>
          obtain ⟨rfl, rfl⟩ := hcut
          have HB2 : Hid ((b || !y3) = !(M.take (k + 1)).all (·.fork)) := Lib.hid (by rw [HN.out, HB.out]; cases (M.take k).all (·.fork) <;> rfl)
          clear HB HN HC
          cases b
          · cases y3
            · go_wp2
              go_roundw
              case rel => exact ⟨k + 1, _, by omega, rfl, by go_num, Lib.hid (by rw [← HB2.out]; rfl), X7⟩
              case measure => simp [intOf]; omega
            · go_wp2
              go_roundw
              case rel => exact ⟨k + 1, _, by omega, rfl, by go_num, Lib.hid (by rw [← HB2.out]; rfl), X7⟩
              case measure => simp [intOf]; omega
          · go_wp2
            go_roundw
            case rel => exact ⟨k + 1, _, by omega, rfl, by go_num, Lib.hid (by rw [← HB2.out]; rfl), X7⟩
            case measure => simp [intOf]; omega
      · have hkl : k = M.length := by omega
        have HE : Hid ((!b1 || b) = true) := Lib.hid (by
          have h1 := HEAT.out
          have h2 := HB.out
          rw [hkl, List.take_length] at h2
          unfold eats at h1
          rw [h2]
          cases b1
          · rfl
          · have : p = 1 := by simpa using hb1
            rw [decide_eq_true this, Bool.true_and] at h1
            rw [h1]; rfl)
        have X8 : Hid (Ext W6 wr) := HX
        obtain ⟨h0, h1, h2⟩ := cells3U (keepU B6.out HX.out)
        clear HB hkl
        cases b1
        · go_wp2_with (first
            | (go_at_call 14; refine (refSameOne_any wr i p i p _ _ M M (S3.out.ext XW.out) (S6.out.ext HX.out) true (by simp)).mono ?_; rintro e w9 ⟨rfl, hx⟩; have X9 : Hid (Ext W3 w9) := Lib.hid (XW.out.trans hx); clear f0 f1 f2 h0 h1 h2; obtain ⟨f0, f1, f2⟩ := cells3U (keepU B3.out X9.out); clear hx)
            | (go_at_call 12; refine (ownL_any _ i p _ M (S3.out.ext X9.out) hM).mono ?_; rintro e w10 ⟨a10, c10, rfl, s10, x10⟩; have S10 := Lib.hid s10; have X10 : Hid (Ext W3 w10) := Lib.hid (X9.out.trans x10); clear s10 x10)
            | (go_at_call 16; refine (dCheck_any w10 i p _ M S10.out true HDK.out).mono ?_; rintro e w11 ⟨rfl, hx⟩; dsimp only [cond]; have X11 : Hid (Ext W3 w11) := Lib.hid (X10.out.trans hx); clear hx))
          go_ret
          exact ⟨rfl, X0.out.trans (X3.out.trans X11.out)⟩
        · obtain rfl : b = true := by simpa using HE.out
          go_wp2_with (first
            | (go_at_call 14; refine (refSameOne_any wr i p i p _ _ M M (S3.out.ext XW.out) (S6.out.ext HX.out) true (by simp)).mono ?_; rintro e w9 ⟨rfl, hx⟩; have X9 : Hid (Ext W3 w9) := Lib.hid (XW.out.trans hx); clear f0 f1 f2 h0 h1 h2; obtain ⟨f0, f1, f2⟩ := cells3U (keepU B3.out X9.out); clear hx)
            | (go_at_call 12; refine (ownL_any _ i p _ M (S3.out.ext X9.out) hM).mono ?_; rintro e w10 ⟨a10, c10, rfl, s10, x10⟩; have S10 := Lib.hid s10; have X10 : Hid (Ext W3 w10) := Lib.hid (X9.out.trans x10); clear s10 x10)
            | (go_at_call 16; refine (dCheck_any w10 i p _ M S10.out true HDK.out).mono ?_; rintro e w11 ⟨rfl, hx⟩; dsimp only [cond]; have X11 : Hid (Ext W3 w11) := Lib.hid (X10.out.trans hx); clear hx))
          go_ret
          exact ⟨rfl, X0.out.trans (X3.out.trans X11.out)⟩

end Go.Proofs.Ytogbjpipkegecaa
