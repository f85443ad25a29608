/- Layer 13: a law. -/
import Derived.Test.YtogbjpipkegecaaUX
namespace Go.Proofs.Ytogbjpipkegecaa
open Go.RowKit

set_option maxRecDepth 100000 in
set_option maxHeartbeats 16000000 in
theorem dineKeeps_any (w : World) (id ph : Int) (ao : Option Addr) (c : Nat) (L : List Sd) (h : Sl w (.slice ao L.length c) L) :
    Calls Try.prog 7 #[.agg #[.int .i64 id, .int .i64 ph, .slice ao L.length c]] w fun e w' => e = .returned (.bool true) ∧ Ext w w' := by
  have hlen := h.length_le
  obtain ⟨W0, hW0⟩ : ∃ W0, W0 = (w.alloc (.cells #[.int .i64 id, .int .i64 ph, .slice ao L.length c] 25)) := ⟨_, rfl⟩
  have X0 : Hid (Ext w W0) := Lib.hid (hW0 ▸ ((Ext.refl w).alloc _))
  have D0 : Hid (W0.heap[w.heap.size]? = some (.cells #[.int .i64 id, .int .i64 ph, .slice ao L.length c] 25 (0, 0))) := Lib.hid (hW0 ▸ at0 w _)
  have HW0 := Lib.hid hW0
  have HS := Lib.hid (h.ext X0.out)
  clear h hW0
  have hl63 := hlen
  obtain ⟨d0, d1, d2⟩ := cells3U D0.out
  by_cases h70 : (70 : Int) < (L.length : Int)
  · clear hl63
    go_enter Try.func7, Try.ntmps7
    go_upto_region 1 with (fail)
    rw [← HW0.out]
    go_wp2_with (first
      | (go_at_call 10; have hgd := XA; refine (awake_any _).mono ?_; rintro e wb ⟨rfl, hx⟩; have XB : Hid (Ext W0 wb) := Lib.hid (XA.out.trans hx); clear hx hgd)
      | (go_at_call 10; refine (awake_any _).mono ?_; rintro e wa ⟨rfl, hx⟩; have XA : Hid (Ext W0 wa) := Lib.hid hx; clear d0 d1 d2; obtain ⟨d0, d1, d2⟩ := cells3U (keepU D0.out hx); clear hx))
    go_ret
    exact ⟨rfl, X0.out.trans XB.out⟩
  have hL : L.length ≤ 1000 := by omega
  clear hl63
  obtain ⟨t, ht⟩ : ∃ t, dnOk ⟨id, ph, L⟩ = t := ⟨_, rfl⟩
  have HT := Lib.hid ht
  obtain ⟨⟨⟨i, p, M⟩, l, er⟩, hr⟩ : ∃ r, fireR ⟨id, ph, L⟩ = r := ⟨_, rfl⟩
  have HR := Lib.hid hr
  clear ht hr
  cases t
  · have hrr : fireR ⟨id, ph, L⟩ = (noD, [], 130) := by unfold fireR; rw [HT.out]; rfl
    have hr2 := HR.out.symm.trans hrr
    obtain rfl : er = 130 := congrArg (fun x => x.2.2) hr2
    clear hrr hr2
    go_enter Try.func7, Try.ntmps7
    go_upto_region 1 with (fail)
    rw [← HW0.out]
    go_upto_region 3 with (first
      | (go_at_call 10; refine (awake_any _).mono ?_; rintro e wa ⟨rfl, hx⟩; have XA : Hid (Ext W0 wa) := Lib.hid hx; clear d0 d1 d2; obtain ⟨d0, d1, d2⟩ := cells3U (keepU D0.out hx); clear hx))
    go_upto_region 4 with (first
      | (go_at_call 12; refine (ownL_any _ id ph _ L (HS.out.ext XA.out) hL).mono ?_; rintro e w1 ⟨a1, c1, rfl, s1, x1⟩; have S1 := Lib.hid s1; have X1 : Hid (Ext W0 w1) := Lib.hid (XA.out.trans x1); clear s1 x1)
      | (go_at_call 11; refine (fire_any _ id ph _ L S1.out hL).mono ?_; intro e w2 hge; obtain ⟨a2, k2, b2, q2, rfl, s2, l2, x2⟩ := givesF_spec hge HR.out; have S2 := Lib.hid s2; have L2 := Lib.hid l2; have X2 : Hid (Ext W0 w2) := Lib.hid (X1.out.trans x2); clear hge s2 l2 x2))
    obtain ⟨g3, hg3⟩ : ∃ g3, g3 = w2.heap.size := ⟨_, rfl⟩
    obtain ⟨W3, hW3⟩ : ∃ W3, W3 = w2.alloc (.cells #[.int .i64 i, .int .i64 p, .slice a2 M.length k2] 25) := ⟨_, rfl⟩
    have X3 : Hid (Ext W0 W3) := Lib.hid (hW3 ▸ X2.out.alloc _)
    have B3 : Hid (W3.heap[g3]? = some (.cells #[.int .i64 i, .int .i64 p, .slice a2 M.length k2] 25 (0, 0))) := Lib.hid (by rw [hW3, hg3]; exact at0 w2 _)
    have S3 : Hid (Sl W3 (.slice a2 M.length k2) M) := Lib.hid (hW3 ▸ S2.out.alloc _)
    have L3 : Hid (Sl W3 (.slice b2 l.length q2) l) := Lib.hid (hW3 ▸ L2.out.alloc _)
    rw [← hW3, ← hg3]
    clear hW3 hg3 d0 d1 d2 S2 X2 S1 X1 L2
    obtain ⟨d0, d1, d2⟩ := cells3U (keepU D0.out X3.out)
    obtain ⟨f0, f1, f2⟩ := cells3U B3.out
    go_wp2
    go_ret
    exact ⟨rfl, X0.out.trans X3.out⟩
  · have hrr : fireR ⟨id, ph, L⟩ = (fireD ⟨id, ph, L⟩, fireMl ⟨id, ph, L⟩, 0) := by unfold fireR; rw [HT.out]; rfl
    have hr2 := HR.out.symm.trans hrr
    simp only [Prod.mk.injEq] at hr2
    obtain ⟨hf1, hf2, rfl⟩ := hr2
    clear hrr
    have hidq : (i == id) = true := by have := (fireD_len ⟨id, ph, L⟩).2; rw [← hf1] at this; have h2 : i = id := this; simp [h2]
    have hml : M.length = L.length := by have := (fireD_len ⟨id, ph, L⟩).1; rw [← hf1] at this; exact this
    have hmq : ((M.length : Int) != (L.length : Int)) = false := by simp [hml]
    have HMV := Lib.hid (fun (k : Nat) (s : Sd) (h : L[k]? = some s) => by have := fireD_at (d := ⟨id, ph, L⟩) h; rw [← hf1] at this; exact this)
    have HLV := Lib.hid (fun (k : Nat) (s : Sd) (h : L[k]? = some s) => by have := fireMl_at (d := ⟨id, ph, L⟩) h; rw [← hf2] at this; exact this)
    have HLL : Hid (l = fireMs id ph L) := Lib.hid hf2
    have HML0 := Lib.hid hml
    have hmle : M.length ≤ L.length := by omega
    have hlme : L.length ≤ M.length := by omega
    clear hf1 hf2 hml
    go_enter Try.func7, Try.ntmps7
    go_upto_region 1 with (fail)
    rw [← HW0.out]
    go_upto_region 3 with (first
      | (go_at_call 10; refine (awake_any _).mono ?_; rintro e wa ⟨rfl, hx⟩; have XA : Hid (Ext W0 wa) := Lib.hid hx; clear d0 d1 d2; obtain ⟨d0, d1, d2⟩ := cells3U (keepU D0.out hx); clear hx))
    go_upto_region 4 with (first
      | (go_at_call 12; refine (ownL_any _ id ph _ L (HS.out.ext XA.out) hL).mono ?_; rintro e w1 ⟨a1, c1, rfl, s1, x1⟩; have S1 := Lib.hid s1; have X1 : Hid (Ext W0 w1) := Lib.hid (XA.out.trans x1); clear s1 x1)
      | (go_at_call 11; refine (fire_any _ id ph _ L S1.out hL).mono ?_; intro e w2 hge; obtain ⟨a2, k2, b2, q2, rfl, s2, l2, x2⟩ := givesF_spec hge HR.out; have S2 := Lib.hid s2; have L2 := Lib.hid l2; have X2 : Hid (Ext W0 w2) := Lib.hid (X1.out.trans x2); clear hge s2 l2 x2))
    obtain ⟨g3, hg3⟩ : ∃ g3, g3 = w2.heap.size := ⟨_, rfl⟩
    obtain ⟨W3, hW3⟩ : ∃ W3, W3 = w2.alloc (.cells #[.int .i64 i, .int .i64 p, .slice a2 M.length k2] 25) := ⟨_, rfl⟩
    have X3 : Hid (Ext W0 W3) := Lib.hid (hW3 ▸ X2.out.alloc _)
    have B3 : Hid (W3.heap[g3]? = some (.cells #[.int .i64 i, .int .i64 p, .slice a2 M.length k2] 25 (0, 0))) := Lib.hid (by rw [hW3, hg3]; exact at0 w2 _)
    have S3 : Hid (Sl W3 (.slice a2 M.length k2) M) := Lib.hid (hW3 ▸ S2.out.alloc _)
    have L3 : Hid (Sl W3 (.slice b2 l.length q2) l) := Lib.hid (hW3 ▸ L2.out.alloc _)
    rw [← hW3, ← hg3]
    clear hW3 hg3 d0 d1 d2 S2 X2 S1 X1 L2
    obtain ⟨d0, d1, d2⟩ := cells3U (keepU D0.out X3.out)
    obtain ⟨f0, f1, f2⟩ := cells3U B3.out
    have hll := L3.out.length_le
    go_wp2
    go_loopw [6, 7] (fun s6 s7 wr => ∃ k n : Nat, k ≤ M.length ∧ s6 = .int .i64 (n : Int) ∧ s7 = .int .i64 (k : Int) ∧ Hid (n = (fireMs id ph (L.take k)).length) ∧ n ≤ l.length ∧ Hid (Ext W3 wr)) (fun _ s7 _ => M.length - (intOf s7).toNat)
    case atStart => exact ⟨0, 0, Nat.zero_le _, rfl, rfl, Lib.hid rfl, Nat.zero_le _, Lib.hid (Ext.refl _)⟩
    case round =>
      obtain ⟨k, n, hk, rfl, rfl, HN, hn, HX⟩ := hrel
      clear d0 d1 d2 f0 f1 f2
      obtain ⟨d0, d1, d2⟩ := cells3U (keepU D0.out (X3.out.trans HX.out))
      obtain ⟨f0, f1, f2⟩ := cells3U (keepU B3.out HX.out)
      by_cases hlt : k < M.length
      · have hltL : k < L.length := by omega
        obtain ⟨b1, off, s, hsy, hsj, rfl, hn1, hnc, hc63, hbl, hcs⟩ := HS.out.sidesAt hltL
        obtain ⟨b2', off2, u, huy, huj, rfl, hn2, hnc2, hc632, hbl2, hcu⟩ := S3.out.sidesAt hlt
        obtain ⟨u', hu', g1, g2, g3', g4, g5, g6, g7⟩ := HMV.out k s hsj
        obtain rfl : u' = u := by have := hu'.symm.trans huj; simpa using this
        have HSJ := Lib.hid hsj
        have HLE := Lib.hid (HLV.out k s hsj)
        have HCS := Lib.hid (fun V (hV : Ext W3 V) => hcs V (X3.out.trans hV))
        have HCU := Lib.hid hcu
        clear hsy hsj hcs huy huj hcu hu' hn1 hn2
        obtain ⟨y0, y1, y2, y3, y4, y5, y6, y7⟩ := s
        obtain ⟨u0, u1, u2, u3, u4, u5, u6, u7⟩ := u'
        dsimp only at g1 g2 g3' g4 g5 g6 g7 HCS HCU HLE
        obtain ⟨⟨⟨⟨rfl, rfl⟩, rfl⟩, rfl⟩, rfl⟩ : (((y0 = u0 ∧ y1 = u1) ∧ y2 = u2) ∧ y6 = u6) ∧ y7 = u7 := ⟨⟨⟨⟨g1.symm, g2.symm⟩, g3'.symm⟩, g4.symm⟩, g5.symm⟩
        clear g1 g2 g3' g4 g5
        obtain ⟨q, hq⟩ : ∃ q, hot ph ⟨y0, y1, y2, y3, y4, y5, y6, y7⟩ = q := ⟨_, rfl⟩
        obtain ⟨wt, hwt⟩ : ∃ wt, wants ph (gone ph ⟨y0, y1, y2, y3, y4, y5, y6, y7⟩) = wt := ⟨_, rfl⟩
        have HU3 : Hid (u3 = (y3 && !q)) := Lib.hid (by rw [← hq]; exact g6)
        have HU5 : Hid (u5 = (y5 && !wt)) := Lib.hid (by rw [← hwt]; exact g7)
        have HFM : Hid (fireM1 id ph ⟨y0, y1, y2, y3, y4, y5, y6, y7⟩ = cond q [⟨id, y0, 1, y1, 0⟩] [] ++ cond wt [⟨id, y0, 2, y1, 0⟩] []) := Lib.hid (by unfold fireM1; rw [hq, hwt]; cases q <;> cases wt <;> rfl)
        have HQ := Lib.hid hq
        have HWT := Lib.hid hwt
        clear g6 g7 hq hwt
        go_upto_region 10 with (fail)
        clear d0 d1 d2 f0 f1 f2
        go_cut [8, 9] (fun s8 s9 wx => ∃ g8 g9, s8 = .pointer (some ⟨g8, 0, none⟩) ∧ s9 = .pointer (some ⟨g9, 0, none⟩) ∧ g8 ≠ g9 ∧ Hid (wx.heap[g8]? = some (.cells #[.int .i64 y0, .int .i64 y1, .int .i64 y2, .bool y3, .bool y4, .bool y5, .bool y6, .bool y7] 47 (0, 0)) ∧ wx.heap[g9]? = some (.cells #[.int .i64 y0, .int .i64 y1, .int .i64 y2, .bool u3, .bool u4, .bool u5, .bool y6, .bool y7] 47 (0, 0))) ∧ Hid (Ext wr wx) ∧ wr.heap.size ≤ g8 ∧ wr.heap.size ≤ g9)
        case first =>
          as_aux_lemma =>
            (refine wp_region_X_lit (K := fun V => Ext wr V) (by kernel_rfl) (fun w1 hw1 => ?_))
            have HV1 : Hid (Ext wr w1) := Lib.hid hw1
            clear hw1
            refine xtv 0 (h := ?_)
            refine xtv 1 (hv := by intro w' hw'; obtain ⟨z0, z1, z2⟩ := cells3U (keepU D0.out (X3.out.trans (HX.out.trans hw'))); go_simp; first | done | with_reducible rfl) (h := ?_)
            refine xtv 2 (h := ?_)
            refine xtv 3 (h := ?_)
            refine xtv 4 (hv := by intro w' hw'; obtain ⟨⟨⟨z0, z1⟩, z2, z3⟩, ⟨z4, z5⟩, z6, z7⟩ := HCS.out w' (HX.out.trans hw'); go_simp; first | done | with_reducible rfl) (h := ?_)
            refine xtv 5 (h := ?_)
            refine xtv 6 (hv := by intro w' hw'; obtain ⟨z0, z1, z2⟩ := cells3U (keepU B3.out (HX.out.trans hw')); go_simp; first | done | with_reducible rfl) (h := ?_)
            refine xtv 7 (h := ?_)
            refine xtv 8 (h := ?_)
            refine xtv 9 (hv := by intro w' hw'; obtain ⟨⟨⟨z0, z1⟩, z2, z3⟩, ⟨z4, z5⟩, z6, z7⟩ := HCU.out w' (HX.out.trans hw'); go_simp; first | done | with_reducible rfl) (h := ?_)
            obtain ⟨G, hG⟩ : ∃ G, G = w1.heap.size := ⟨_, rfl⟩
            obtain ⟨WC, hWC⟩ : ∃ WC, WC = (w1.alloc (.cells #[.int .i64 0, .int .i64 0, .int .i64 0, .bool false, .bool false, .bool false, .bool false, .bool false] 47)).alloc (.cells #[.int .i64 0, .int .i64 0, .int .i64 0, .bool false, .bool false, .bool false, .bool false, .bool false] 47) := ⟨_, rfl⟩
            have YC : Hid (Ext wr WC) := Lib.hid (hWC ▸ (HV1.out.alloc _).alloc _)
            have Y1 : Hid (Ext wr (w1.alloc (.cells #[.int .i64 0, .int .i64 0, .int .i64 0, .bool false, .bool false, .bool false, .bool false, .bool false] 47))) := Lib.hid (HV1.out.alloc _)
            have GC : Hid (WC.heap[G]? = some (.cells #[.int .i64 0, .int .i64 0, .int .i64 0, .bool false, .bool false, .bool false, .bool false, .bool false] 47 (0, 0))) := Lib.hid (by rw [hWC, hG]; exact old1 (at0 w1 _) _)
            have GD : Hid (WC.heap[G + 1]? = some (.cells #[.int .i64 0, .int .i64 0, .int .i64 0, .bool false, .bool false, .bool false, .bool false, .bool false] 47 (0, 0))) := Lib.hid (by rw [hWC, hG]; exact at1 w1 _ _)
            have hGl : wr.heap.size ≤ G := by have := Below.size HV1.out; omega
            have HWC := Lib.hid hWC
            have HG := Lib.hid hG
            clear hG hWC
            refine xtwo 10 11 (hk := HV1.out) (h := RunX.of 10 (h := ?_)) (h' := RunX.of 11 (h := ?_))
            · go_simp
              (try (simp only [Act.put, List.setIfInBounds_toArray, List.set]))
              refine xone 11 (hk := Y1.out) (h := RunX.of 11 (h := ?_))
              go_simp
              (try (simp only [Act.put, List.setIfInBounds_toArray, List.set]))
              (try rw [size_alloc])
              rw [← HWC.out, ← HG.out]
              refine xone 12 (hk := YC.out) (h := RunX.of 12 (h := ?_))
              refine wp_st 47 (.tmp 8) (.tmp 50) rfl (G) 0 47 #[.int .i64 0, .int .i64 0, .int .i64 0, .bool false, .bool false, .bool false, .bool false, .bool false] #[.int .i64 y0, .int .i64 y1, .int .i64 y2, .bool y3, .bool y4, .bool y5, .bool y6, .bool y7] #[.int .i64 y0, .int .i64 y1, .int .i64 y2, .bool y3, .bool y4, .bool y5, .bool y6, .bool y7] rfl rfl GC.out (by kernel_rfl) (by simp) rfl rfl ?_
              intro WE hWE oE
              simp only [Act.put]
              have YE : Hid (Ext wr WE) := Lib.hid (ext_off YC.out oE (fun b hb => by omega))
              have GE : Hid (WE.heap[G + 1]? = some (.cells #[.int .i64 0, .int .i64 0, .int .i64 0, .bool false, .bool false, .bool false, .bool false, .bool false] 47 (0, 0))) := Lib.hid ((oE.block _ (blk_lt GD.out) (by omega)).trans GD.out)
              have RE := Lib.hid hWE
              clear hWE oE
              refine xone 13 (hk := YE.out) (h := RunX.of 13 (h := ?_))
              refine wp_st 47 (.tmp 9) (.tmp 55) rfl (G + 1) 0 47 #[.int .i64 0, .int .i64 0, .int .i64 0, .bool false, .bool false, .bool false, .bool false, .bool false] #[.int .i64 y0, .int .i64 y1, .int .i64 y2, .bool u3, .bool u4, .bool u5, .bool y6, .bool y7] #[.int .i64 y0, .int .i64 y1, .int .i64 y2, .bool u3, .bool u4, .bool u5, .bool y6, .bool y7] rfl rfl GE.out (by kernel_rfl) (by simp) rfl rfl ?_
              intro WF hWF oF
              simp only [Act.put]
              have YF : Hid (Ext wr WF) := Lib.hid (ext_off YE.out oF (fun b hb => by omega))
              have RF2 : Hid (WF.heap[G]? = some (.cells #[.int .i64 y0, .int .i64 y1, .int .i64 y2, .bool y3, .bool y4, .bool y5, .bool y6, .bool y7] 47 (0, 0)) ∧ WF.heap[G + 1]? = some (.cells #[.int .i64 y0, .int .i64 y1, .int .i64 y2, .bool u3, .bool u4, .bool u5, .bool y6, .bool y7] 47 (0, 0))) := Lib.hid ⟨(oF.block _ (blk_lt RE.out) (by omega)).trans RE.out, hWF⟩
              clear hWF oF
              (refine xdone (by kernel_rfl) (YF.out) ?_)
              go_wp2_with fail
              go_meet
              exact ⟨_, _, rfl, rfl, by omega, RF2, YF, by omega, by omega⟩
            · go_simp
              (try (simp only [Act.put, List.setIfInBounds_toArray, List.set]))
              refine xone 10 (hk := Y1.out) (h := RunX.of 10 (h := ?_))
              go_simp
              (try (simp only [Act.put, List.setIfInBounds_toArray, List.set]))
              (try rw [size_alloc])
              rw [← HWC.out, ← HG.out]
              refine xone 12 (hk := YC.out) (h := RunX.of 12 (h := ?_))
              refine wp_st 47 (.tmp 8) (.tmp 50) rfl (G + 1) 0 47 #[.int .i64 0, .int .i64 0, .int .i64 0, .bool false, .bool false, .bool false, .bool false, .bool false] #[.int .i64 y0, .int .i64 y1, .int .i64 y2, .bool y3, .bool y4, .bool y5, .bool y6, .bool y7] #[.int .i64 y0, .int .i64 y1, .int .i64 y2, .bool y3, .bool y4, .bool y5, .bool y6, .bool y7] rfl rfl GD.out (by kernel_rfl) (by simp) rfl rfl ?_
              intro WE hWE oE
              simp only [Act.put]
              have YE : Hid (Ext wr WE) := Lib.hid (ext_off YC.out oE (fun b hb => by omega))
              have GE : Hid (WE.heap[G]? = some (.cells #[.int .i64 0, .int .i64 0, .int .i64 0, .bool false, .bool false, .bool false, .bool false, .bool false] 47 (0, 0))) := Lib.hid ((oE.block _ (blk_lt GC.out) (by omega)).trans GC.out)
              have RE := Lib.hid hWE
              clear hWE oE
              refine xone 13 (hk := YE.out) (h := RunX.of 13 (h := ?_))
              refine wp_st 47 (.tmp 9) (.tmp 55) rfl (G) 0 47 #[.int .i64 0, .int .i64 0, .int .i64 0, .bool false, .bool false, .bool false, .bool false, .bool false] #[.int .i64 y0, .int .i64 y1, .int .i64 y2, .bool u3, .bool u4, .bool u5, .bool y6, .bool y7] #[.int .i64 y0, .int .i64 y1, .int .i64 y2, .bool u3, .bool u4, .bool u5, .bool y6, .bool y7] rfl rfl GE.out (by kernel_rfl) (by simp) rfl rfl ?_
              intro WF hWF oF
              simp only [Act.put]
              have YF : Hid (Ext wr WF) := Lib.hid (ext_off YE.out oF (fun b hb => by omega))
              have RF2 : Hid (WF.heap[G + 1]? = some (.cells #[.int .i64 y0, .int .i64 y1, .int .i64 y2, .bool y3, .bool y4, .bool y5, .bool y6, .bool y7] 47 (0, 0)) ∧ WF.heap[G]? = some (.cells #[.int .i64 y0, .int .i64 y1, .int .i64 y2, .bool u3, .bool u4, .bool u5, .bool y6, .bool y7] 47 (0, 0))) := Lib.hid ⟨(oF.block _ (blk_lt RE.out) (by omega)).trans RE.out, hWF⟩
              clear hWF oF
              (refine xdone (by kernel_rfl) (YF.out) ?_)
              go_wp2_with fail
              go_meet
              exact ⟨_, _, rfl, rfl, by omega, RF2, YF, by omega, by omega⟩
        case rest =>
          obtain ⟨g8, g9, rfl, rfl, hne, HBX, HXC, hg8, hg9⟩ := hcut
          have HWAS : Hid (wc.heap[g8]? = some (.cells #[.int .i64 y0, .int .i64 y1, .int .i64 y2, .bool y3, .bool y4, .bool y5, .bool y6, .bool y7] 47 (0, 0))) := Lib.hid HBX.out.1
          have HIS : Hid (wc.heap[g9]? = some (.cells #[.int .i64 y0, .int .i64 y1, .int .i64 y2, .bool u3, .bool u4, .bool u5, .bool y6, .bool y7] 47 (0, 0))) := Lib.hid HBX.out.2
          have XWC : Hid (Ext W3 wc) := Lib.hid (HX.out.trans HXC.out)
          have HDB := Lib.hid (fun V (hV : Ext wc V) => keepU D0.out (X3.out.trans (XWC.out.trans hV)))
          have hwr2 : IntKind.i64.wrap ((k : Int) + 1) = (k : Int) + 1 := wrapN _ (by omega) (by omega)
          clear HBX HXC hne hg8 hg9 HCS HCU
          cases q
          · obtain rfl : y3 = u3 := by have := HU3.out; simpa using this.symm
            have HGN : Hid (gone ph ⟨y0, y1, y2, y3, y4, y5, y6, y7⟩ = ⟨y0, y1, y2, y3, y4, y5, y6, y7⟩) := Lib.hid (by unfold gone; rw [HQ.out]; rfl)
            obtain ⟨⟨⟨x0, x1⟩, x2, x3⟩, ⟨x4, x5⟩, x6, x7⟩ := cells8U (keepU HWAS.out (Ext.refl wc))
            obtain ⟨⟨⟨v0, v1⟩, v2, v3⟩, ⟨v4, v5⟩, v6, v7⟩ := cells8U (keepU HIS.out (Ext.refl wc))
            go_upto_region 11 with (fail)
            go_cut [62] (fun s62 wx => s62 = .bool false ∧ wc = wx)
            case first =>
              cases y3
              · go_wp2_with fail
                go_meet
                exact ⟨rfl, rfl⟩
              · go_wp2_with fail
                go_meet
                exact ⟨rfl, rfl⟩
            case rest =>
              obtain ⟨rfl, rfl⟩ := hcut
              cases wt
              · as_aux_lemma =>
                  obtain rfl : y5 = u5 := by have := HU5.out; simpa using this.symm
                  go_upto_region 15 with (fail)
                  go_cut [100] (fun s100 wx => s100 = .bool false ∧ wc = wx)
                  case first =>
                    cases y5
                    · go_wp2_with fail
                      go_meet
                      exact ⟨rfl, rfl⟩
                    · go_wp2_with fail
                      go_meet
                      exact ⟨rfl, rfl⟩
                  case rest =>
                    obtain ⟨rfl, rfl⟩ := hcut
                    go_upto_region 19 with (fail)
                    go_cut [176] (fun s176 wx => s176 = .bool false ∧ wc = wx)
                    case first =>
                      cases y3
                      · cases y5
                        · go_wp2_with fail
                          go_meet
                          exact ⟨rfl, rfl⟩
                        · go_wp2_with fail
                          go_meet
                          exact ⟨rfl, rfl⟩
                      · cases y5
                        · go_wp2_with fail
                          go_meet
                          exact ⟨rfl, rfl⟩
                        · go_wp2_with fail
                          go_meet
                          exact ⟨rfl, rfl⟩
                    case rest =>
                      obtain ⟨rfl, rfl⟩ := hcut
                      go_wp2
                      go_roundw
                      case rel => exact ⟨k + 1, n, by omega, by go_num, by go_num, Lib.hid (by rw [fireMs_next HSJ.out, List.length_append, HFM.out, HN.out]; rfl), by omega, Lib.hid (XWC.out.trans (Ext.refl wc))⟩
                      case measure => simp [intOf]; omega
              · as_aux_lemma =>
                  have hwt := HWT.out
                  rw [HGN.out, wants_bits] at hwt
                  simp only [Bool.and_eq_true, Bool.not_eq_true'] at hwt
                  obtain ⟨⟨_, hy5⟩, hy3⟩ := hwt
                  subst hy5 hy3
                  obtain rfl : u5 = false := by have := HU5.out; simpa using this
                  have HLN : Hid (l[n]? = some ⟨id, y0, 2, y1, 0⟩) := Lib.hid (by
                    rw [HLE.out, HFM.out, HN.out, List.getElem?_append_right (Nat.le_refl _), Nat.sub_self]
                    rfl)
                  have hnl : n < l.length := (List.getElem?_eq_some_iff.1 HLN.out).1
                  have hge : ¬ ((l.length : Int) ≤ (n : Int)) := by omega
                  have hwr : IntKind.i64.wrap ((n : Int) + 1) = (n : Int) + 1 := wrapN _ (by omega) (by omega)
                  obtain ⟨bm, om, ym, _, hym, hbm, hnm, hncm, hc63m, hbwm, hcm⟩ := L3.out.mailAt (k := n) hnl
                  subst hbm
                  obtain rfl : ym = ⟨id, y0, 2, y1, 0⟩ := by have := hym.symm.trans HLN.out; simpa using this
                  have HML : Hid (∀ V, Ext wc V → (V.cell? ⟨bm, om + n * 5, none⟩ = some (.int .i64 id) ∧ V.cell? ⟨bm, om + n * 5 + 1, none⟩ = some (.int .i64 y0)) ∧ V.cell? ⟨bm, om + n * 5 + 2, none⟩ = some (.int .i64 2) ∧ V.cell? ⟨bm, om + n * 5 + 3, none⟩ = some (.int .i64 y1) ∧ V.cell? ⟨bm, om + n * 5 + 4, none⟩ = some (.int .i64 0)) := Lib.hid fun V hV => hcm V (XWC.out.trans hV)
                  have HNQ := Lib.hid (neq_Ml id y0 2 y1 0 id y0 2 y1 0 true (by simp))
                  clear hym hcm hnm hncm hc63m hbwm
                  go_upto_region 16 with (fail)
                  clear x0 x1 x2 x3 x4 x5 x6 x7 v0 v1 v2 v3 v4 v5 v6 v7
                  obtain ⟨WP, hWP⟩ : ∃ WP, WP = wc := ⟨_, rfl⟩
                  have XP : Hid (Ext wc WP) := Lib.hid (hWP ▸ (Ext.refl wc))
                  rw [← hWP]
                  clear hWP
                  (refine wp_region_X_lit (K := fun V => Ext wc V) (by kernel_rfl) (fun w1 hw1 => ?_))
                  have HV16 : Hid (Ext wc w1) := Lib.hid (XP.out.trans hw1)
                  clear hw1
                  refine xtv 0 (h := ?_)
                  refine xtv 1 (hv := by intro w' hw'; obtain ⟨⟨⟨z0, z1⟩, z2, z3⟩, ⟨z4, z5⟩, z6, z7⟩ := cells8U (keepU HIS.out hw'); go_simp; first | done | with_reducible rfl) (h := ?_)
                  refine xtv 2 (h := ?_)
                  refine xtv 3 (h := ?_)
                  refine xtv 4 (h := ?_)
                  refine xtv 5 (h := ?_)
                  refine xtv 6 (h := ?_)
                  refine xtv 7 (h := ?_)
                  refine xtv 8 (h := ?_)
                  refine xtv 9 (h := ?_)
                  refine xtv 10 (h := ?_)
                  refine xtv 11 (h := ?_)
                  refine xtv 12 (hv := by intro w' hw'; obtain ⟨⟨m0, m1⟩, m2, m3, m4⟩ := HML.out w' hw'; go_simp; first | done | with_reducible rfl) (h := ?_)
                  refine xtv 13 (h := ?_)
                  refine xtv 14 (hv := by intro w' hw'; obtain ⟨z0, z1, z2⟩ := cells3U (HDB.out w' hw'); go_simp; first | done | with_reducible rfl) (h := ?_)
                  refine xtv 15 (h := ?_)
                  refine xtv 16 (hv := by intro w' hw'; obtain ⟨⟨⟨z0, z1⟩, z2, z3⟩, ⟨z4, z5⟩, z6, z7⟩ := cells8U (keepU HWAS.out hw'); go_simp; first | done | with_reducible rfl) (h := ?_)
                  refine xtv 17 (h := ?_)
                  refine xtv 18 (hv := by intro w' hw'; obtain ⟨⟨⟨z0, z1⟩, z2, z3⟩, ⟨z4, z5⟩, z6, z7⟩ := cells8U (keepU HWAS.out hw'); go_simp; first | done | with_reducible rfl) (h := ?_)
                  refine xtv 19 (h := ?_)
                  refine xtv 20 (h := ?_)
                  refine xtv 21 (hv := by intro w' hw'; obtain ⟨q1, q2⟩ := HNQ.out; go_simp; first | done | with_reducible rfl) (h := ?_)
                  refine xtv 22 (h := ?_)
                  (refine xdone (by kernel_rfl) (HV16.out) ?_)
                  obtain ⟨⟨⟨x0, x1⟩, x2, x3⟩, ⟨x4, x5⟩, x6, x7⟩ := cells8U (keepU HWAS.out HV16.out)
                  obtain ⟨⟨⟨v0, v1⟩, v2, v3⟩, ⟨v4, v5⟩, v6, v7⟩ := cells8U (keepU HIS.out HV16.out)
                  go_upto_region 18 with (fail)
                  go_cut [6] (fun s6 wx => s6 = .int .i64 ((n + 1 : Nat) : Int) ∧ w1 = wx)
                  case first =>
                    go_wp2_with fail
                    go_meet
                    exact ⟨by rw [Int.natCast_add]; rfl, rfl⟩
                  case rest =>
                    obtain ⟨rfl, rfl⟩ := hcut
                    go_upto_region 19 with (fail)
                    go_cut [176] (fun s176 wx => s176 = .bool false ∧ w1 = wx)
                    case first =>
                      go_wp2_with fail
                      go_meet
                      exact ⟨rfl, rfl⟩
                    case rest =>
                      obtain ⟨rfl, rfl⟩ := hcut
                      go_wp2
                      go_roundw
                      case rel => exact ⟨k + 1, n + 1, by omega, by go_num, by go_num, Lib.hid (by rw [fireMs_next HSJ.out, List.length_append, HFM.out, HN.out]; rfl), by omega, Lib.hid (XWC.out.trans HV16.out)⟩
                      case measure => simp [intOf]; omega
          · have hq := HQ.out
            rw [hot_bits] at hq
            simp only [Bool.and_eq_true] at hq
            obtain ⟨⟨⟨rfl, rfl⟩, rfl⟩, _⟩ := hq
            obtain rfl : u3 = false := by have := HU3.out; simpa using this
            obtain ⟨⟨⟨x0, x1⟩, x2, x3⟩, ⟨x4, x5⟩, x6, x7⟩ := cells8U (keepU HWAS.out (Ext.refl wc))
            obtain ⟨⟨⟨v0, v1⟩, v2, v3⟩, ⟨v4, v5⟩, v6, v7⟩ := cells8U (keepU HIS.out (Ext.refl wc))
            have HLN : Hid (l[n]? = some ⟨id, y0, 1, y1, 0⟩) := Lib.hid (by
              rw [HLE.out, HFM.out, HN.out, List.getElem?_append_right (Nat.le_refl _), Nat.sub_self]
              rfl)
            have hnl : n < l.length := (List.getElem?_eq_some_iff.1 HLN.out).1
            have hge : ¬ ((l.length : Int) ≤ (n : Int)) := by omega
            have hwr : IntKind.i64.wrap ((n : Int) + 1) = (n : Int) + 1 := wrapN _ (by omega) (by omega)
            obtain ⟨bm, om, ym, _, hym, hbm, hnm, hncm, hc63m, hbwm, hcm⟩ := L3.out.mailAt (k := n) hnl
            subst hbm
            obtain rfl : ym = ⟨id, y0, 1, y1, 0⟩ := by have := hym.symm.trans HLN.out; simpa using this
            have HML : Hid (∀ V, Ext wc V → (V.cell? ⟨bm, om + n * 5, none⟩ = some (.int .i64 id) ∧ V.cell? ⟨bm, om + n * 5 + 1, none⟩ = some (.int .i64 y0)) ∧ V.cell? ⟨bm, om + n * 5 + 2, none⟩ = some (.int .i64 1) ∧ V.cell? ⟨bm, om + n * 5 + 3, none⟩ = some (.int .i64 y1) ∧ V.cell? ⟨bm, om + n * 5 + 4, none⟩ = some (.int .i64 0)) := Lib.hid fun V hV => hcm V (XWC.out.trans hV)
            have HNQ := Lib.hid (neq_Ml id y0 1 y1 0 id y0 1 y1 0 true (by simp))
            clear hym hcm hnm hncm hc63m hbwm
            go_upto_region 12 with (fail)
            clear x0 x1 x2 x3 x4 x5 x6 x7 v0 v1 v2 v3 v4 v5 v6 v7
            (refine wp_region_X_lit (K := fun V => Ext wc V) (by kernel_rfl) (fun w1 hw1 => ?_))
            have HV12 : Hid (Ext wc w1) := Lib.hid hw1
            clear hw1
            refine xtv 0 (h := ?_)
            refine xtv 1 (hv := by intro w' hw'; obtain ⟨⟨⟨z0, z1⟩, z2, z3⟩, ⟨z4, z5⟩, z6, z7⟩ := cells8U (keepU HWAS.out hw'); go_simp; first | done | with_reducible rfl) (h := ?_)
            refine xtv 2 (h := ?_)
            refine xtv 3 (h := ?_)
            refine xtv 4 (h := ?_)
            refine xtv 5 (hv := by intro w' hw'; obtain ⟨⟨⟨z0, z1⟩, z2, z3⟩, ⟨z4, z5⟩, z6, z7⟩ := cells8U (keepU HWAS.out hw'); go_simp; first | done | with_reducible rfl) (h := ?_)
            refine xtv 6 (h := ?_)
            refine xtv 7 (h := ?_)
            refine xtv 8 (h := ?_)
            refine xtv 9 (h := ?_)
            refine xtv 10 (h := ?_)
            refine xtv 11 (h := ?_)
            refine xtv 12 (h := ?_)
            refine xtv 13 (h := ?_)
            refine xtv 14 (h := ?_)
            refine xtv 15 (h := ?_)
            refine xtv 16 (h := ?_)
            refine xtv 17 (h := ?_)
            refine xtv 18 (hv := by intro w' hw'; obtain ⟨⟨m0, m1⟩, m2, m3, m4⟩ := HML.out w' hw'; go_simp; first | done | with_reducible rfl) (h := ?_)
            refine xtv 19 (h := ?_)
            refine xtv 20 (hv := by intro w' hw'; obtain ⟨z0, z1, z2⟩ := cells3U (HDB.out w' hw'); go_simp; first | done | with_reducible rfl) (h := ?_)
            refine xtv 21 (h := ?_)
            refine xtv 22 (hv := by intro w' hw'; obtain ⟨⟨⟨z0, z1⟩, z2, z3⟩, ⟨z4, z5⟩, z6, z7⟩ := cells8U (keepU HWAS.out hw'); go_simp; first | done | with_reducible rfl) (h := ?_)
            refine xtv 23 (h := ?_)
            refine xtv 24 (hv := by intro w' hw'; obtain ⟨⟨⟨z0, z1⟩, z2, z3⟩, ⟨z4, z5⟩, z6, z7⟩ := cells8U (keepU HWAS.out hw'); go_simp; first | done | with_reducible rfl) (h := ?_)
            refine xtv 25 (h := ?_)
            refine xtv 26 (h := ?_)
            refine xtv 27 (hv := by intro w' hw'; obtain ⟨q1, q2⟩ := HNQ.out; go_simp; first | done | with_reducible rfl) (h := ?_)
            refine xtv 28 (h := ?_)
            (refine xdone (by kernel_rfl) (HV12.out) ?_)
            obtain ⟨⟨⟨x0, x1⟩, x2, x3⟩, ⟨x4, x5⟩, x6, x7⟩ := cells8U (keepU HWAS.out HV12.out)
            obtain ⟨⟨⟨v0, v1⟩, v2, v3⟩, ⟨v4, v5⟩, v6, v7⟩ := cells8U (keepU HIS.out HV12.out)
            go_upto_region 14 with (fail)
            go_cut [6] (fun s6 wx => s6 = .int .i64 ((n + 1 : Nat) : Int) ∧ w1 = wx)
            case first =>
              go_wp2_with fail
              go_meet
              exact ⟨by rw [Int.natCast_add]; rfl, rfl⟩
            case rest =>
              obtain ⟨rfl, rfl⟩ := hcut
              obtain ⟨m, hm⟩ : ∃ m, m = n + 1 := ⟨_, rfl⟩
              have HM : Hid (m = (fireMs id ph (L.take k)).length + 1) := Lib.hid (by rw [hm, HN.out])
              have hm1 : m ≤ l.length := by omega
              rw [← hm]
              clear hge hwr HML HNQ HLN hm
              obtain ⟨WX, hWX⟩ : ∃ WX, WX = w1 := ⟨_, rfl⟩
              have HVX : Hid (Ext wc WX) := Lib.hid (hWX ▸ HV12.out)
              clear x0 x1 x2 x3 x4 x5 x6 x7 v0 v1 v2 v3 v4 v5 v6 v7
              rw [← hWX]
              clear hWX
              obtain ⟨⟨⟨x0, x1⟩, x2, x3⟩, ⟨x4, x5⟩, x6, x7⟩ := cells8U (keepU HWAS.out HVX.out)
              obtain ⟨⟨⟨v0, v1⟩, v2, v3⟩, ⟨v4, v5⟩, v6, v7⟩ := cells8U (keepU HIS.out HVX.out)
              cases wt
              · as_aux_lemma =>
                  obtain rfl : u5 = true := by have := HU5.out; simpa using this
                  go_upto_region 19 with (fail)
                  go_cut [176] (fun s176 wx => s176 = .bool false ∧ WX = wx)
                  case first =>
                    go_wp2_with fail
                    go_meet
                    exact ⟨rfl, rfl⟩
                  case rest =>
                    obtain ⟨rfl, rfl⟩ := hcut
                    go_wp2
                    go_roundw
                    case rel => exact ⟨k + 1, m, by omega, by go_num, by go_num, Lib.hid (by rw [fireMs_next HSJ.out, List.length_append, HFM.out, HM.out]; rfl), by omega, Lib.hid (XWC.out.trans HVX.out)⟩
                    case measure => simp [intOf]; omega
              · as_aux_lemma =>
                  have hwt := HWT.out
                  clear hwt
                  obtain rfl : u5 = false := by have := HU5.out; simpa using this
                  have HLN : Hid (l[m]? = some ⟨id, y0, 2, y1, 0⟩) := Lib.hid (by
                    rw [HLE.out, HFM.out, HM.out, List.getElem?_append_right (Nat.le_add_right _ 1), Nat.add_sub_cancel_left]
                    rfl)
                  have hnl : m < l.length := (List.getElem?_eq_some_iff.1 HLN.out).1
                  have hge : ¬ ((l.length : Int) ≤ (m : Int)) := by omega
                  have hwr : IntKind.i64.wrap ((m : Int) + 1) = (m : Int) + 1 := wrapN _ (by omega) (by omega)
                  obtain ⟨bm, om, ym, _, hym, hbm, hnm, hncm, hc63m, hbwm, hcm⟩ := L3.out.mailAt (k := m) hnl
                  simp only [Option.some.injEq, Addr.mk.injEq, and_true] at hbm; obtain ⟨rfl, rfl⟩ := hbm
                  obtain rfl : ym = ⟨id, y0, 2, y1, 0⟩ := by have := hym.symm.trans HLN.out; simpa using this
                  have HML : Hid (∀ V, Ext wc V → (V.cell? ⟨bm, om + m * 5, none⟩ = some (.int .i64 id) ∧ V.cell? ⟨bm, om + m * 5 + 1, none⟩ = some (.int .i64 y0)) ∧ V.cell? ⟨bm, om + m * 5 + 2, none⟩ = some (.int .i64 2) ∧ V.cell? ⟨bm, om + m * 5 + 3, none⟩ = some (.int .i64 y1) ∧ V.cell? ⟨bm, om + m * 5 + 4, none⟩ = some (.int .i64 0)) := Lib.hid fun V hV => hcm V (XWC.out.trans hV)
                  have HNQ := Lib.hid (neq_Ml id y0 2 y1 0 id y0 2 y1 0 true (by simp))
                  clear hym hcm hnm hncm hc63m hbwm
                  go_upto_region 16 with (fail)
                  clear x0 x1 x2 x3 x4 x5 x6 x7 v0 v1 v2 v3 v4 v5 v6 v7
                  obtain ⟨WP, hWP⟩ : ∃ WP, WP = WX := ⟨_, rfl⟩
                  have XP : Hid (Ext wc WP) := Lib.hid (hWP ▸ HVX.out)
                  rw [← hWP]
                  clear hWP
                  (refine wp_region_X_lit (K := fun V => Ext wc V) (by kernel_rfl) (fun w1 hw1 => ?_))
                  have HV16 : Hid (Ext wc w1) := Lib.hid (XP.out.trans hw1)
                  clear hw1
                  refine xtv 0 (h := ?_)
                  refine xtv 1 (hv := by intro w' hw'; obtain ⟨⟨⟨z0, z1⟩, z2, z3⟩, ⟨z4, z5⟩, z6, z7⟩ := cells8U (keepU HIS.out hw'); go_simp; first | done | with_reducible rfl) (h := ?_)
                  refine xtv 2 (h := ?_)
                  refine xtv 3 (h := ?_)
                  refine xtv 4 (h := ?_)
                  refine xtv 5 (h := ?_)
                  refine xtv 6 (h := ?_)
                  refine xtv 7 (h := ?_)
                  refine xtv 8 (h := ?_)
                  refine xtv 9 (h := ?_)
                  refine xtv 10 (h := ?_)
                  refine xtv 11 (h := ?_)
                  refine xtv 12 (hv := by intro w' hw'; obtain ⟨⟨m0, m1⟩, m2, m3, m4⟩ := HML.out w' hw'; go_simp; first | done | with_reducible rfl) (h := ?_)
                  refine xtv 13 (h := ?_)
                  refine xtv 14 (hv := by intro w' hw'; obtain ⟨z0, z1, z2⟩ := cells3U (HDB.out w' hw'); go_simp; first | done | with_reducible rfl) (h := ?_)
                  refine xtv 15 (h := ?_)
                  refine xtv 16 (hv := by intro w' hw'; obtain ⟨⟨⟨z0, z1⟩, z2, z3⟩, ⟨z4, z5⟩, z6, z7⟩ := cells8U (keepU HWAS.out hw'); go_simp; first | done | with_reducible rfl) (h := ?_)
                  refine xtv 17 (h := ?_)
                  refine xtv 18 (hv := by intro w' hw'; obtain ⟨⟨⟨z0, z1⟩, z2, z3⟩, ⟨z4, z5⟩, z6, z7⟩ := cells8U (keepU HWAS.out hw'); go_simp; first | done | with_reducible rfl) (h := ?_)
                  refine xtv 19 (h := ?_)
                  refine xtv 20 (h := ?_)
                  refine xtv 21 (hv := by intro w' hw'; obtain ⟨q1, q2⟩ := HNQ.out; go_simp; first | done | with_reducible rfl) (h := ?_)
                  refine xtv 22 (h := ?_)
                  (refine xdone (by kernel_rfl) (HV16.out) ?_)
                  obtain ⟨⟨⟨x0, x1⟩, x2, x3⟩, ⟨x4, x5⟩, x6, x7⟩ := cells8U (keepU HWAS.out HV16.out)
                  obtain ⟨⟨⟨v0, v1⟩, v2, v3⟩, ⟨v4, v5⟩, v6, v7⟩ := cells8U (keepU HIS.out HV16.out)
                  go_upto_region 18 with (fail)
                  go_cut [6] (fun s6 wx => s6 = .int .i64 ((m + 1 : Nat) : Int) ∧ w1 = wx)
                  case first =>
                    go_wp2_with fail
                    go_meet
                    exact ⟨by rw [Int.natCast_add]; rfl, rfl⟩
                  case rest =>
                    obtain ⟨rfl, rfl⟩ := hcut
                    go_upto_region 19 with (fail)
                    go_cut [176] (fun s176 wx => s176 = .bool false ∧ w1 = wx)
                    case first =>
                      go_wp2_with fail
                      go_meet
                      exact ⟨rfl, rfl⟩
                    case rest =>
                      obtain ⟨rfl, rfl⟩ := hcut
                      go_wp2
                      go_roundw
                      case rel => exact ⟨k + 1, m + 1, by omega, by go_num, by go_num, Lib.hid (by rw [fireMs_next HSJ.out, List.length_append, HFM.out, HM.out]; rfl), by omega, Lib.hid (XWC.out.trans HV16.out)⟩
                      case measure => simp [intOf]; omega
      · have hkl : k = M.length := by omega
        have hnq : ((n : Int) == (l.length : Int)) = true := by
          have h1 := HN.out
          rw [hkl, HML0.out, List.take_length] at h1
          rw [h1, HLL.out]; simp
        have XF : Hid (Ext w wr) := Lib.hid (X0.out.trans (X3.out.trans HX.out))
        go_wp2
        go_ret
        exact ⟨rfl, XF.out⟩

end Go.Proofs.Ytogbjpipkegecaa
