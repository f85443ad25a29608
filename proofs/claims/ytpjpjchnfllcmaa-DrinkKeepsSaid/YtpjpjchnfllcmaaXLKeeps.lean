/- Layer 15, the laws: DrinkKeeps. -/
import Derived.Test.YtpjpjchnfllcmaaXF
import Derived.Test.YtpjpjchnfllcmaaXE
import Derived.Test.YtpjpjchnfllcmaaXN
import Derived.Test.YtpjpjchnfllcmaaX3
import Derived.BigGuard
namespace Go.Proofs.Ytpjpjchnfllcmaa
open Go.RowKit

set_option maxRecDepth 100000 in
set_option maxHeartbeats 32000000 in
theorem drinkKeeps_any (w : World) (id ph th : Int) (ao : Option Addr) (c : Nat) (na : Option Addr) (nc : Nat) (L : List Sd) (N : List Int) (h : Sl w (.slice ao L.length c) L) (hN : Sl w (.slice na N.length nc) N) :
    Calls Try.prog 8 #[.agg #[.int .i64 id, .int .i64 ph, .slice ao L.length c, .int .i64 th, .slice na N.length nc]] w fun e w' => e = .returned (.bool true) ∧ Ext w w' := by
  have hlen := h.length_le
  have hlenN := hN.length_le
  obtain ⟨W0, hW0⟩ : ∃ W0, W0 = (w.alloc (.cells #[.int .i64 id, .int .i64 ph, .slice ao L.length c, .int .i64 th, .slice na N.length nc] 29)) := ⟨_, rfl⟩
  have X0 : Hid (Ext w W0) := Lib.hid (hW0 ▸ (Ext.refl w).alloc _)
  have D0 : Hid (W0.heap[w.heap.size]? = some (.cells #[.int .i64 id, .int .i64 ph, .slice ao L.length c, .int .i64 th, .slice na N.length nc] 29 (0, 0))) := Lib.hid (hW0 ▸ at0 w _)
  have HW0 := Lib.hid hW0
  have HS := Lib.hid (h.ext X0.out)
  have HN := Lib.hid (hN.ext X0.out)
  clear h hN hW0
  obtain ⟨⟨d0, d1, d2⟩, d3, d4⟩ := cells5 D0.out
  obtain ⟨t70, h70⟩ : ∃ t, (decide (L.length ≤ 70) && decide (N.length ≤ 70)) = t := ⟨_, rfl⟩
  have H70 := Lib.hid h70
  clear h70
  go_enter Try.func8, Try.ntmps8
  go_upto_region 1 with (fail)
  rw [← HW0.out]
  cases t70
  · go_wp2_with (first
      | (go_at_call 10; have hgd := XB; refine (awake_any _).mono ?_; rintro e wc ⟨rfl, hx⟩; have XC : Hid (Ext W0 wc) := Lib.hid (XB.out.trans hx); clear hx hgd)
      | (go_at_call 10; refine (awake_any W0).mono ?_; rintro e wa ⟨rfl, hx⟩; have XA : Hid (Ext W0 wa) := Lib.hid hx; clear d0 d1 d2 d3 d4; obtain ⟨⟨d0, d1, d2⟩, d3, d4⟩ := cells5 (keepU D0.out hx); clear hx)
      | (go_at_call 11; refine (dkFew_any wa id ph th _ _ L N (HS.out.ext XA.out) (HN.out.ext XA.out) _ H70.out).mono ?_; rintro e wb ⟨rfl, hx⟩; have hx := Ext.trans XA.out hx; have XB : Hid (Ext W0 wb) := Lib.hid hx; clear d0 d1 d2 d3 d4; obtain ⟨⟨d0, d1, d2⟩, d3, d4⟩ := cells5 (keepU D0.out hx); clear hx))
    go_ret
    exact ⟨rfl, X0.out.trans XC.out⟩
  have h70 := H70.out
  simp only [Bool.and_eq_true, decide_eq_true_eq] at h70
  have hL : L.length ≤ 1000 := by omega
  have hNl : N.length ≤ 1000 := by omega
  clear h70
  obtain ⟨tc, htc⟩ : ∃ t, chkK ⟨id, ph, L, th, N⟩ = t := ⟨_, rfl⟩
  have HTC := Lib.hid htc
  clear htc
  go_upto_region 3 with (first
    | (go_at_call 10; refine (awake_any W0).mono ?_; rintro e wa ⟨rfl, hx⟩; have XA : Hid (Ext W0 wa) := Lib.hid hx; clear d0 d1 d2 d3 d4; obtain ⟨⟨d0, d1, d2⟩, d3, d4⟩ := cells5 (keepU D0.out hx); clear hx)
    | (go_at_call 11; refine (dkFew_any wa id ph th _ _ L N (HS.out.ext XA.out) (HN.out.ext XA.out) _ H70.out).mono ?_; rintro e wb ⟨rfl, hx⟩; have hx := Ext.trans XA.out hx; have XB : Hid (Ext W0 wb) := Lib.hid hx; clear d0 d1 d2 d3 d4; obtain ⟨⟨d0, d1, d2⟩, d3, d4⟩ := cells5 (keepU D0.out hx); clear hx))
  cases tc
  · have HR := Lib.hid (show fireKR ⟨id, ph, L, th, N⟩ = (noK, [], 150) by unfold fireKR; rw [HTC.out]; rfl)
    go_upto_region 4 with (first
      | (go_at_call 13; refine (dkOwn_any wb id ph th _ _ L N (HS.out.ext XB.out) (HN.out.ext XB.out) hL hNl).mono ?_; rintro e w1 ⟨v1, u1, rfl, s1, q1, x1⟩; obtain ⟨a1, c1, rfl⟩ := s1.len; obtain ⟨b1, e1, rfl⟩ := q1.len; have HSd1 := Lib.hid s1; have HNd1 := Lib.hid q1; have X1 : Hid (Ext W0 w1) := Lib.hid (Ext.trans XB.out x1); clear s1 q1 x1)
      | (go_at_call 12; refine (HR.out ▸ fireK_any w1 id ph th _ _ L N HSd1.out HNd1.out hL hNl : Calls Try.prog 12 #[.agg #[.int .i64 id, .int .i64 ph, .slice a1 L.length c1, .int .i64 th, .slice b1 N.length e1]] w1 (GivesFD w1 (noK, [], 150))).mono ?_; rintro e w2 ⟨v2, u2, l2, rfl, s2, q2, m2, x2, _⟩; obtain ⟨a2, c2, rfl⟩ := s2.len; obtain ⟨b2, e2, rfl⟩ := q2.len; obtain ⟨l2, j2, rfl⟩ := m2.len; have HSd2 := Lib.hid s2; have HNd2 := Lib.hid q2; have HMd2 := Lib.hid m2; have X2 : Hid (Ext W0 w2) := Lib.hid (Ext.trans X1.out x2); clear s2 q2 m2 x2))
    go_wp2
    go_ret
    exact ⟨rfl, X0.out.trans (X2.out.alloc _)⟩
  obtain ⟨⟨⟨i1, p1, S1, t1, P1⟩, M1⟩, hx⟩ : ∃ r, fireAll ⟨id, ph, L, th, N⟩ = r := ⟨_, rfl⟩
  have HR1 := Lib.hid (show fireKR ⟨id, ph, L, th, N⟩ = (⟨i1, p1, S1, t1, P1⟩, M1, 0) by unfold fireKR; rw [if_pos HTC.out, hx])
  obtain ⟨hk1, hk2, hk3, hk4⟩ := keeps_start HTC.out hx
  dsimp only at hk1 hk2 hk3 hk4
  have hidq : (i1 == id) = true := by simp [hk1]
  have hmq : ((S1.length : Int) != (L.length : Int)) = false := by simp [hk2]
  have HK2 : Hid (S1.length = L.length) := Lib.hid hk2
  have HK3 := Lib.hid hk3
  have HK4 := Lib.hid hk4
  clear hx hk1 hk2 hk3 hk4
  go_upto_region 4 with (first
    | (go_at_call 13; refine (dkOwn_any wb id ph th _ _ L N (HS.out.ext XB.out) (HN.out.ext XB.out) hL hNl).mono ?_; rintro e w1 ⟨v1, u1, rfl, s1, q1, x1⟩; obtain ⟨a1, c1, rfl⟩ := s1.len; obtain ⟨b1, e1, rfl⟩ := q1.len; have HSd1 := Lib.hid s1; have HNd1 := Lib.hid q1; have X1 : Hid (Ext W0 w1) := Lib.hid (Ext.trans XB.out x1); clear s1 q1 x1)
    | (go_at_call 12; refine (HR1.out ▸ fireK_any w1 id ph th _ _ L N HSd1.out HNd1.out hL hNl : Calls Try.prog 12 #[.agg #[.int .i64 id, .int .i64 ph, .slice a1 L.length c1, .int .i64 th, .slice b1 N.length e1]] w1 (GivesFD w1 (⟨i1, p1, S1, t1, P1⟩, M1, 0))).mono ?_; rintro e w3 ⟨v3, u3, l3, rfl, s3, q3, m3, x3, _⟩; obtain ⟨a3, c3, rfl⟩ := s3.len; obtain ⟨b3, e3, rfl⟩ := q3.len; obtain ⟨l3, j3, rfl⟩ := m3.len; have HSd3 := Lib.hid s3; have HNd3 := Lib.hid q3; have HMd3 := Lib.hid m3; have X3 : Hid (Ext W0 w3) := Lib.hid (Ext.trans X1.out x3); clear s3 q3 m3 x3))
  obtain ⟨g3, hg3⟩ : ∃ g, g = w3.heap.size := ⟨_, rfl⟩
  obtain ⟨W3, hW3⟩ : ∃ W, W = w3.alloc (.cells #[.int .i64 i1, .int .i64 p1, .slice a3 S1.length c3, .int .i64 t1, .slice b3 P1.length e3] 29) := ⟨_, rfl⟩
  have XW3 : Hid (Ext W0 W3) := Lib.hid (hW3 ▸ X3.out.alloc _)
  have Bg3 : Hid (W3.heap[g3]? = some (.cells #[.int .i64 i1, .int .i64 p1, .slice a3 S1.length c3, .int .i64 t1, .slice b3 P1.length e3] 29 (0, 0))) := Lib.hid (by rw [hW3, hg3]; exact at0 w3 _)
  have SA3 := Lib.hid (hW3 ▸ HSd3.out.alloc _ : Sl W3 (.slice a3 S1.length c3) S1)
  have QA3 := Lib.hid (hW3 ▸ HNd3.out.alloc _ : Sl W3 (.slice b3 P1.length e3) P1)
  have MA3 := Lib.hid (hW3 ▸ HMd3.out.alloc _ : Sl W3 (.slice l3 M1.length j3) M1)
  rw [← hW3, ← hg3]
  clear hW3 hg3
  clear d0 d1 d2 d3 d4
  obtain ⟨⟨k0, k1, k2⟩, k3, k4⟩ := cells5 Bg3.out
  obtain ⟨⟨d0, d1, d2⟩, d3, d4⟩ := cells5 (keepU D0.out XW3.out)
  have hML := MA3.out.length_le
  go_wp2
  go_loopw [6, 7] (fun s6 s7 wr => ∃ k n : Nat, k ≤ S1.length ∧ s6 = .int .i64 (n : Int) ∧ s7 = .int .i64 (k : Int) ∧ Hid (n + things (S1.take k) = things (L.take k)) ∧ n ≤ 1000000 ∧ Hid (Ext W3 wr)) (fun _ s7 _ => S1.length - (intOf s7).toNat)
  case atStart => exact ⟨0, 0, Nat.zero_le _, rfl, rfl, Lib.hid rfl, Nat.zero_le _, Lib.hid (Ext.refl _)⟩
  case round =>
    obtain ⟨k, n, hk, rfl, rfl, HNK, hn, HX⟩ := hrel
    clear d0 d1 d2 d3 d4 k0 k1 k2 k3 k4
    obtain ⟨⟨k0, k1, k2⟩, k3, k4⟩ := cells5 (keepU Bg3.out HX.out)
    obtain ⟨⟨d0, d1, d2⟩, d3, d4⟩ := cells5 (keepU D0.out (XW3.out.trans HX.out))
    by_cases hlt : k < S1.length
    · have hltL : k < L.length := by have := HK2.out; omega
      obtain ⟨bb, off, s, hsy, hsj, rfl, hn1, hnc, hc63, hbl, hcs⟩ := HS.out.sidesAt hltL
      obtain ⟨bb2, off2, u, huy, huj, rfl, hn2, hnc2, hc632, hbl2, hcu⟩ := SA3.out.sidesAt hlt
      have HLJ := Lib.hid hsj
      have HSJ := Lib.hid huj
      obtain ⟨⟨g1, g2, g3'⟩, hcnt⟩ := HK4.out k s u hsj huj
      have HCN := Lib.hid hcnt
      have HCS := Lib.hid (fun V (hV : Ext W3 V) => hcs V (XW3.out.trans hV))
      have HCU := Lib.hid hcu
      clear hsy hsj hcs huy huj hcu hn1 hn2 hcnt
      obtain ⟨y0, y1, y2, y3, y4, y5, y6, y7⟩ := s
      obtain ⟨u0, u1, u2, u3, u4, u5, u6, u7⟩ := u
      dsimp only at g1 g2 g3' HCS HCU HCN
      subst g1 g2 g3'
      go_upto_region 10 with (fail)
      clear d0 d1 d2 d3 d4 k0 k1 k2 k3 k4
      go_cut [8, 9] (fun s8 s9 wx => ∃ g8 g9, s8 = .pointer (some ⟨g8, 0, none⟩) ∧ s9 = .pointer (some ⟨g9, 0, none⟩) ∧ g8 ≠ g9 ∧ Hid (wx.heap[g8]? = some (.cells #[.int .i64 u0, .int .i64 u1, .int .i64 u2, .bool y3, .bool y4, .bool y5, .bool y6, .bool y7] 53 (0, 0)) ∧ wx.heap[g9]? = some (.cells #[.int .i64 u0, .int .i64 u1, .int .i64 u2, .bool u3, .bool u4, .bool u5, .bool u6, .bool u7] 53 (0, 0))) ∧ Hid (Ext wr wx) ∧ wr.heap.size ≤ g8 ∧ wr.heap.size ≤ g9)
      case first =>
        as_aux_lemma =>
          (refine wp_region_X_lit (K := fun V => Ext wr V) (by kernel_rfl) (fun w1 hw1 => ?_))
          have HV1 : Hid (Ext wr w1) := Lib.hid hw1
          clear hw1
          refine xtv 0 (h := ?_)
          refine xtv 1 (h := ?_)
          refine xtv 2 (hv := by intro w' hw'; obtain ⟨⟨d0, d1, d2⟩, d3, d4⟩ := cells5 (keepU D0.out (XW3.out.trans (HX.out.trans hw'))); go_simp; first | done | with_reducible rfl) (h := ?_)
          refine xtv 3 (h := ?_)
          refine xtv 4 (h := ?_)
          refine xtv 5 (hv := by intro w' hw'; obtain ⟨⟨⟨z0, z1⟩, z2, z3⟩, ⟨z4, z5⟩, z6, z7⟩ := HCS.out w' (HX.out.trans hw'); go_simp; first | done | with_reducible rfl) (h := ?_)
          refine xtv 6 (h := ?_)
          refine xtv 7 (h := ?_)
          refine xtv 8 (hv := by intro w' hw'; obtain ⟨⟨k0, k1, k2⟩, k3, k4⟩ := cells5 (keepU Bg3.out (HX.out.trans hw')); go_simp; first | done | with_reducible rfl) (h := ?_)
          refine xtv 9 (h := ?_)
          refine xtv 10 (h := ?_)
          refine xtv 11 (hv := by intro w' hw'; obtain ⟨⟨⟨z0, z1⟩, z2, z3⟩, ⟨z4, z5⟩, z6, z7⟩ := HCU.out w' (HX.out.trans hw'); go_simp; first | done | with_reducible rfl) (h := ?_)
          obtain ⟨G, hG⟩ : ∃ G, G = w1.heap.size := ⟨_, rfl⟩
          obtain ⟨WC, hWC⟩ : ∃ WC, WC = (w1.alloc (.cells #[.int .i64 0, .int .i64 0, .int .i64 0, .bool false, .bool false, .bool false, .bool false, .bool false] 53)).alloc (.cells #[.int .i64 0, .int .i64 0, .int .i64 0, .bool false, .bool false, .bool false, .bool false, .bool false] 53) := ⟨_, rfl⟩
          have YC : Hid (Ext wr WC) := Lib.hid (hWC ▸ (HV1.out.alloc _).alloc _)
          have Y1 : Hid (Ext wr (w1.alloc (.cells #[.int .i64 0, .int .i64 0, .int .i64 0, .bool false, .bool false, .bool false, .bool false, .bool false] 53))) := Lib.hid (HV1.out.alloc _)
          have GC : Hid (WC.heap[G]? = some (.cells #[.int .i64 0, .int .i64 0, .int .i64 0, .bool false, .bool false, .bool false, .bool false, .bool false] 53 (0, 0))) := Lib.hid (by rw [hWC, hG]; exact old1 (at0 w1 _) _)
          have GD : Hid (WC.heap[G + 1]? = some (.cells #[.int .i64 0, .int .i64 0, .int .i64 0, .bool false, .bool false, .bool false, .bool false, .bool false] 53 (0, 0))) := Lib.hid (by rw [hWC, hG]; exact at1 w1 _ _)
          have hGl : wr.heap.size ≤ G := by have := Below.size HV1.out; omega
          have HWC := Lib.hid hWC
          have HG := Lib.hid hG
          clear hG hWC
          refine xtwo 12 13 (hk := HV1.out) (h := RunX.of 12 (h := ?_)) (h' := RunX.of 13 (h := ?_))
          · go_simp
            (try (simp only [Act.put, List.setIfInBounds_toArray, List.set]))
            refine xone 13 (hk := Y1.out) (h := RunX.of 13 (h := ?_))
            go_simp
            (try (simp only [Act.put, List.setIfInBounds_toArray, List.set]))
            (try rw [size_alloc])
            rw [← HWC.out, ← HG.out]
            refine xone 14 (hk := YC.out) (h := RunX.of 14 (h := ?_))
            refine wp_st 53 (.tmp 8) (.tmp 58) rfl (G) 0 53 #[.int .i64 0, .int .i64 0, .int .i64 0, .bool false, .bool false, .bool false, .bool false, .bool false] #[.int .i64 u0, .int .i64 u1, .int .i64 u2, .bool y3, .bool y4, .bool y5, .bool y6, .bool y7] #[.int .i64 u0, .int .i64 u1, .int .i64 u2, .bool y3, .bool y4, .bool y5, .bool y6, .bool y7] rfl rfl GC.out (by kernel_rfl) (by simp) rfl rfl ?_
            intro WE hWE oE
            simp only [Act.put]
            have YE : Hid (Ext wr WE) := Lib.hid (ext_off YC.out oE (fun b hb => by omega))
            have GE : Hid (WE.heap[G + 1]? = some (.cells #[.int .i64 0, .int .i64 0, .int .i64 0, .bool false, .bool false, .bool false, .bool false, .bool false] 53 (0, 0))) := Lib.hid ((oE.block _ (blk_lt GD.out) (by omega)).trans GD.out)
            have RE := Lib.hid hWE
            clear hWE oE
            refine xone 15 (hk := YE.out) (h := RunX.of 15 (h := ?_))
            refine wp_st 53 (.tmp 9) (.tmp 64) rfl (G + 1) 0 53 #[.int .i64 0, .int .i64 0, .int .i64 0, .bool false, .bool false, .bool false, .bool false, .bool false] #[.int .i64 u0, .int .i64 u1, .int .i64 u2, .bool u3, .bool u4, .bool u5, .bool u6, .bool u7] #[.int .i64 u0, .int .i64 u1, .int .i64 u2, .bool u3, .bool u4, .bool u5, .bool u6, .bool u7] rfl rfl GE.out (by kernel_rfl) (by simp) rfl rfl ?_
            intro WF hWF oF
            simp only [Act.put]
            have YF : Hid (Ext wr WF) := Lib.hid (ext_off YE.out oF (fun b hb => by omega))
            have RF2 : Hid (WF.heap[G]? = some (.cells #[.int .i64 u0, .int .i64 u1, .int .i64 u2, .bool y3, .bool y4, .bool y5, .bool y6, .bool y7] 53 (0, 0)) ∧ WF.heap[G + 1]? = some (.cells #[.int .i64 u0, .int .i64 u1, .int .i64 u2, .bool u3, .bool u4, .bool u5, .bool u6, .bool u7] 53 (0, 0))) := Lib.hid ⟨(oF.block _ (blk_lt RE.out) (by omega)).trans RE.out, hWF⟩
            clear hWF oF
            (refine xdone (by kernel_rfl) (YF.out) ?_)
            go_wp2_with fail
            go_meet
            exact ⟨_, _, rfl, rfl, by omega, RF2, YF, by omega, by omega⟩
          · go_simp
            (try (simp only [Act.put, List.setIfInBounds_toArray, List.set]))
            refine xone 12 (hk := Y1.out) (h := RunX.of 12 (h := ?_))
            go_simp
            (try (simp only [Act.put, List.setIfInBounds_toArray, List.set]))
            (try rw [size_alloc])
            rw [← HWC.out, ← HG.out]
            refine xone 14 (hk := YC.out) (h := RunX.of 14 (h := ?_))
            refine wp_st 53 (.tmp 8) (.tmp 58) rfl (G + 1) 0 53 #[.int .i64 0, .int .i64 0, .int .i64 0, .bool false, .bool false, .bool false, .bool false, .bool false] #[.int .i64 u0, .int .i64 u1, .int .i64 u2, .bool y3, .bool y4, .bool y5, .bool y6, .bool y7] #[.int .i64 u0, .int .i64 u1, .int .i64 u2, .bool y3, .bool y4, .bool y5, .bool y6, .bool y7] rfl rfl GD.out (by kernel_rfl) (by simp) rfl rfl ?_
            intro WE hWE oE
            simp only [Act.put]
            have YE : Hid (Ext wr WE) := Lib.hid (ext_off YC.out oE (fun b hb => by omega))
            have GE : Hid (WE.heap[G]? = some (.cells #[.int .i64 0, .int .i64 0, .int .i64 0, .bool false, .bool false, .bool false, .bool false, .bool false] 53 (0, 0))) := Lib.hid ((oE.block _ (blk_lt GC.out) (by omega)).trans GC.out)
            have RE := Lib.hid hWE
            clear hWE oE
            refine xone 15 (hk := YE.out) (h := RunX.of 15 (h := ?_))
            refine wp_st 53 (.tmp 9) (.tmp 64) rfl (G) 0 53 #[.int .i64 0, .int .i64 0, .int .i64 0, .bool false, .bool false, .bool false, .bool false, .bool false] #[.int .i64 u0, .int .i64 u1, .int .i64 u2, .bool u3, .bool u4, .bool u5, .bool u6, .bool u7] #[.int .i64 u0, .int .i64 u1, .int .i64 u2, .bool u3, .bool u4, .bool u5, .bool u6, .bool u7] rfl rfl GE.out (by kernel_rfl) (by simp) rfl rfl ?_
            intro WF hWF oF
            simp only [Act.put]
            have YF : Hid (Ext wr WF) := Lib.hid (ext_off YE.out oF (fun b hb => by omega))
            have RF2 : Hid (WF.heap[G + 1]? = some (.cells #[.int .i64 u0, .int .i64 u1, .int .i64 u2, .bool y3, .bool y4, .bool y5, .bool y6, .bool y7] 53 (0, 0)) ∧ WF.heap[G]? = some (.cells #[.int .i64 u0, .int .i64 u1, .int .i64 u2, .bool u3, .bool u4, .bool u5, .bool u6, .bool u7] 53 (0, 0))) := Lib.hid ⟨(oF.block _ (blk_lt RE.out) (by omega)).trans RE.out, hWF⟩
            clear hWF oF
            (refine xdone (by kernel_rfl) (YF.out) ?_)
            go_wp2_with fail
            go_meet
            exact ⟨_, _, rfl, rfl, by omega, RF2, YF, by omega, by omega⟩
      case rest =>
        obtain ⟨g8, g9, rfl, rfl, hne, HBX, HXC, hg8, hg9⟩ := hcut
        obtain ⟨WB, hWB⟩ : ∃ W, W = wc := ⟨_, rfl⟩
        rw [← hWB] at HBX HXC ⊢
        clear hWB
        have XWC : Hid (Ext W3 WB) := Lib.hid (HX.out.trans HXC.out)
        obtain ⟨⟨⟨x0, x1⟩, x2, x3⟩, ⟨x4, x5⟩, x6, x7⟩ := cells8U HBX.out.1
        obtain ⟨⟨⟨v0, v1⟩, v2, v3⟩, ⟨v4, v5⟩, v6, v7⟩ := cells8U HBX.out.2
        go_upto_region 12 with (fail)
        obtain ⟨gA, hgA⟩ : ∃ g, g = WB.heap.size := ⟨_, rfl⟩
        obtain ⟨WQ, hWQ⟩ : ∃ W, W = WB.alloc (.cells #[.bool y3, .bool y5, .bool y6, .bool y7] 59) := ⟨_, rfl⟩
        have XBQ : Hid (Ext WB WQ) := Lib.hid (hWQ ▸ (Ext.refl WB).alloc _)
        have BA : Hid (WQ.heap[gA]? = some (.cells #[.bool y3, .bool y5, .bool y6, .bool y7] 59 (0, 0))) := Lib.hid (by rw [hWQ, hgA]; exact at0 WB _)
        rw [← hWQ, ← hgA]
        clear hWQ hgA x0 x1 x2 x3 x4 x5 x6 x7 v0 v1 v2 v3 v4 v5 v6 v7
        obtain ⟨⟨⟨v0, v1⟩, v2, v3⟩, ⟨v4, v5⟩, v6, v7⟩ := cells8U (keepU HBX.out.2 XBQ.out)
        go_upto_region 13 with (fail)
        obtain ⟨gC, hgC⟩ : ∃ g, g = WQ.heap.size := ⟨_, rfl⟩
        obtain ⟨WR, hWR⟩ : ∃ W, W = WQ.alloc (.cells #[.bool u3, .bool u5, .bool u6, .bool u7] 59) := ⟨_, rfl⟩
        have XQR : Hid (Ext WQ WR) := Lib.hid (hWR ▸ (Ext.refl WQ).alloc _)
        have BC : Hid (WR.heap[gC]? = some (.cells #[.bool u3, .bool u5, .bool u6, .bool u7] 59 (0, 0))) := Lib.hid (by rw [hWR, hgC]; exact at0 WQ _)
        rw [← hWR, ← hgC]
        clear hWR hgC v0 v1 v2 v3 v4 v5 v6 v7
        have XBR : Hid (Ext WB WR) := Lib.hid (XBQ.out.trans XQR.out)
        have X3R : Hid (Ext W3 WR) := Lib.hid (XWC.out.trans XBR.out)
        have HK8 : Hid (∀ V, Ext WR V → _) := Lib.hid fun V hV => cells8U (keepU HBX.out.1 (XBR.out.trans hV))
        have HK9 : Hid (∀ V, Ext WR V → _) := Lib.hid fun V hV => cells8U (keepU HBX.out.2 (XBR.out.trans hV))
        have HKD : Hid (∀ V, Ext WR V → _) := Lib.hid fun V hV => cells5 (keepU D0.out ((XW3.out.trans X3R.out).trans hV))
        have HKX : Hid (∀ V, Ext WR V → _) := Lib.hid fun V hV => cells5 (keepU Bg3.out (X3R.out.trans hV))
        obtain ⟨sd, hsd⟩ : ∃ s, s = (⟨u0, u1, u2, y3, y4, y5, y6, y7⟩ : Sd) := ⟨_, rfl⟩
        obtain ⟨vd, hvd⟩ : ∃ s, s = (⟨u0, u1, u2, u3, u4, u5, u6, u7⟩ : Sd) := ⟨_, rfl⟩
        have HA : Hid (∀ V, Ext WR V → ∀ kk : Nat, kk < 4 → V.cell? ⟨gA, kk, none⟩ = some (.bool (hadB ((kk : Int) + 1) sd))) := Lib.hid (fun V hV kk hk4 => by
          have hb := keepU (keepU BA.out XQR.out) hV
          rw [hsd]
          match kk, hk4 with
          | 0, _ => exact blk_cell hb 0 rfl
          | 1, _ => exact blk_cell hb 1 rfl
          | 2, _ => exact blk_cell hb 2 rfl
          | 3, _ => exact blk_cell hb 3 rfl)
        have HC : Hid (∀ V, Ext WR V → ∀ kk : Nat, kk < 4 → V.cell? ⟨gC, kk, none⟩ = some (.bool (hadB ((kk : Int) + 1) vd))) := Lib.hid (fun V hV kk hk4 => by
          have hb := keepU BC.out hV
          rw [hvd]
          match kk, hk4 with
          | 0, _ => exact blk_cell hb 0 rfl
          | 1, _ => exact blk_cell hb 1 rfl
          | 2, _ => exact blk_cell hb 2 rfl
          | 3, _ => exact blk_cell hb 3 rfl)
        have HQ4 : Hid (∀ q : Int, (q = 1 ∨ q = 2 ∨ q = 3 ∨ q = 4) → (cond (hadB q sd) 1 0 : Nat) = cond (hadB q vd) 1 0 + M1.count ⟨id, u0, q, u1, 0⟩) := Lib.hid (by rw [hsd, hvd]; exact HCN.out)
        have HTS : Hid (things (L.take (k + 1)) = things (L.take k) + thing sd ∧ things (S1.take (k + 1)) = things (S1.take k) + thing vd) := Lib.hid ⟨by rw [hsd]; exact things_next HLJ.out, by rw [hvd]; exact things_next HSJ.out⟩
        clear hsd hvd HCN HLJ HSJ BA BC HBX HXC hg8 hg9 hne
        go_wp2
        go_loopw [6, 12] (fun s6 s12 wr => ∃ kk m : Nat, kk ≤ 4 ∧ s6 = .int .i64 (m : Int) ∧ s12 = .int .i64 (kk : Int) ∧ Hid (m + hs kk vd = n + hs kk sd) ∧ m ≤ 1000010 ∧ Hid (Ext WR wr)) (fun _ s12 _ => 4 - (intOf s12).toNat)
        case atStart => exact ⟨0, n, by omega, rfl, rfl, Lib.hid rfl, by omega, Lib.hid (Ext.refl _)⟩
        case round =>
          obtain ⟨kk, m, hkk, rfl, rfl, HM, hm, HX2⟩ := hrel
          by_cases hlt4 : kk < 4
          · obtain ⟨W8, hW8⟩ : ∃ W, W = wr := ⟨_, rfl⟩
            rw [← hW8] at HX2 ⊢
            clear hW8
            obtain ⟨q, hq⟩ : ∃ q : Int, q = (kk : Int) + 1 := ⟨_, rfl⟩
            have hwq : IntKind.i64.wrap (1 + (kk : Int)) = q := by rw [wrapN _ (by omega) (by omega)]; omega
            have HWQ := Lib.hid hwq
            have HQE := Lib.hid hq
            clear hwq hq
            go_wp2
            go_loopw [13, 14] (fun s13 s14 wr => ∃ j g : Nat, j ≤ M1.length ∧ s13 = .int .i64 (g : Int) ∧ s14 = .int .i64 (j : Int) ∧ Hid (g = (M1.take j).count ⟨id, u0, q, u1, 0⟩) ∧ g ≤ j ∧ Hid (Ext WR wr)) (fun _ s14 _ => M1.length - (intOf s14).toNat)
            case atStart => exact ⟨0, 0, Nat.zero_le _, rfl, rfl, Lib.hid rfl, Nat.le_refl _, HX2⟩
            case round =>
              obtain ⟨j, g, hj, rfl, rfl, HG, hg, HX3⟩ := hrel
              by_cases hltj : j < M1.length
              · obtain ⟨bm, om, ym, _, hym, rfl, hnm, hncm, hc63m, hbwm, hcm⟩ := MA3.out.mailAt hltj
                have HML2 := Lib.hid (fun V (hV : Ext WR V) => hcm V (X3R.out.trans hV))
                obtain ⟨be, hbe⟩ : ∃ b, decide (ym = ⟨id, u0, q, u1, 0⟩) = b := ⟨_, rfl⟩
                have HCN2 := Lib.hid (count_next hym hbe)
                obtain ⟨m0, m1, m2, m3, m4⟩ := ym
                have HNQ := Lib.hid (eq_Ml m0 m1 m2 m3 m4 id u0 q u1 0 be hbe)
                dsimp only at HML2
                clear hym hcm hnm hbe
                go_upto_region 20 with (fail)
                obtain ⟨W9, hW9⟩ : ∃ W, W = wr := ⟨_, rfl⟩
                rw [← hW9] at HX3 ⊢
                clear hW9
                (refine wp_region_X_lit (K := fun V => Ext W9 V) (by kernel_rfl) (fun w1 hw1 => ?_))
                have HV1 : Hid (Ext W9 w1) := Lib.hid hw1
                clear hw1
                refine xtv 0 (h := ?_)
                refine xtv 1 (h := ?_)
                refine xtv 2 (h := ?_)
                refine xtv 3 (hv := by intro w' hw'; obtain ⟨⟨z0, z1⟩, z2, z3, z4⟩ := HML2.out w' (HX3.out.trans hw'); go_simp; first | done | with_reducible rfl) (h := ?_)
                refine xtv 4 (h := ?_)
                refine xtv 5 (h := ?_)
                refine xtv 6 (hv := by intro w' hw'; obtain ⟨⟨d0, d1, d2⟩, d3, d4⟩ := HKD.out w' (HX3.out.trans hw'); go_simp; first | done | with_reducible rfl) (h := ?_)
                refine xtv 7 (h := ?_)
                refine xtv 8 (hv := by intro w' hw'; obtain ⟨⟨⟨x0, x1⟩, x2, x3⟩, ⟨x4, x5⟩, x6, x7⟩ := HK8.out w' (HX3.out.trans hw'); go_simp; first | done | with_reducible rfl) (h := ?_)
                refine xtv 9 (h := ?_)
                refine xtv 10 (hv := by intro w' hw'; have hwq := HWQ.out; go_simp; first | done | with_reducible rfl) (h := ?_)
                refine xtv 11 (h := ?_)
                refine xtv 12 (hv := by intro w' hw'; obtain ⟨⟨⟨x0, x1⟩, x2, x3⟩, ⟨x4, x5⟩, x6, x7⟩ := HK8.out w' (HX3.out.trans hw'); go_simp; first | done | with_reducible rfl) (h := ?_)
                refine xtv 13 (h := ?_)
                refine xtv 14 (h := ?_)
                refine xtv 15 (hv := by intro w' hw'; obtain ⟨q1, q2⟩ := HNQ.out; go_simp; first | done | with_reducible rfl) (h := ?_)
                (refine xdone (by kernel_rfl) (HV1.out) ?_)
                have HX4 : Hid (Ext WR w1) := Lib.hid (HX3.out.trans HV1.out)
                cases be
                · go_wp2
                  go_roundw
                  case rel => exact ⟨j + 1, g, by omega, rfl, by go_num, Lib.hid (by rw [HCN2.out, HG.out]; rfl), by omega, HX4⟩
                  case measure => simp [intOf]; omega
                · go_wp2
                  go_roundw
                  case rel => exact ⟨j + 1, g + 1, by omega, by go_num, by go_num, Lib.hid (by rw [HCN2.out, HG.out]; rfl), by omega, HX4⟩
                  case measure => simp [intOf]; omega
              · have HGE : Hid (g = M1.count ⟨id, u0, q, u1, 0⟩) := Lib.hid (by
                  have := HG.out
                  rw [show j = M1.length from by omega, List.take_length] at this
                  exact this)
                have hqq : q = 1 ∨ q = 2 ∨ q = 3 ∨ q = 4 := by have := HQE.out; omega
                have h4 := HQ4.out q hqq
                rw [← HGE.out] at h4
                have ha := HA.out wr HX3.out kk hlt4
                have hc := HC.out wr HX3.out kk hlt4
                rw [← HQE.out] at ha hc
                obtain ⟨b1, hb1⟩ : ∃ b, hadB q sd = b := ⟨_, rfl⟩
                obtain ⟨b2, hb2⟩ : ∃ b, hadB q vd = b := ⟨_, rfl⟩
                have HM2 : Hid ((m + g) + hs (kk + 1) vd = n + hs (kk + 1) sd) := Lib.hid (by
                  have h1 := HM.out
                  have h2 : hs (kk + 1) vd = hs kk vd + cond (hadB ((kk : Int) + 1) vd) 1 0 := rfl
                  have h3 : hs (kk + 1) sd = hs kk sd + cond (hadB ((kk : Int) + 1) sd) 1 0 := rfl
                  rw [← HQE.out] at h2 h3
                  omega)
                rw [hb1, hb2] at h4
                rw [hb1] at ha
                rw [hb2] at hc
                have hg1 : g ≤ 1 := by cases b1 <;> cases b2 <;> simp at h4 <;> omega
                have hm2 : m ≤ 1000008 := by
                  have h1 := HM.out
                  have h2 := hs_le kk sd
                  omega
                clear hqq hb1 hb2 HG HGE
                cases b1
                · cases b2
                  · obtain rfl : g = 0 := by simpa using h4.symm
                    clear h4
                    go_wp2
                    go_roundw
                    case rel => exact ⟨kk + 1, m, by omega, by first | rfl | go_num, by go_num, Lib.hid (by have := HM2.out; simpa using this), by omega, HX3⟩
                    case measure => simp [intOf]; omega
                  · exfalso; simp at h4; omega
                · cases b2
                  · obtain rfl : g = 1 := by simpa using h4.symm
                    clear h4
                    go_wp2
                    go_roundw
                    case rel => exact ⟨kk + 1, m + 1, by omega, by go_num, by go_num, Lib.hid HM2.out, by omega, HX3⟩
                    case measure => simp [intOf]; omega
                  · obtain rfl : g = 0 := by simpa using h4
                    clear h4
                    go_wp2
                    go_roundw
                    case rel => exact ⟨kk + 1, m, by omega, by first | rfl | go_num, by go_num, Lib.hid (by have := HM2.out; simpa using this), by omega, HX3⟩
                    case measure => simp [intOf]; omega
          · have hk4 : kk = 4 := by omega
            have HME : Hid (m + thing vd = n + thing sd) := Lib.hid (by have := HM.out; rw [hk4, hs_four, hs_four] at this; exact this)
            have HME2 : Hid (m + things (S1.take (k + 1)) = things (L.take (k + 1))) := Lib.hid (by have h1 := HME.out; have h2 := HNK.out; rw [HTS.out.1, HTS.out.2]; omega)
            have hm3 : m ≤ 1000000 := by
              have h1 := HME2.out
              have h2 := things_le (L.take (k + 1))
              rw [List.length_take] at h2
              omega
            clear hk4
            obtain ⟨⟨⟨x0, x1⟩, x2, x3⟩, ⟨x4, x5⟩, x6, x7⟩ := HK8.out wr HX2.out
            obtain ⟨⟨⟨v0, v1⟩, v2, v3⟩, ⟨v4, v5⟩, v6, v7⟩ := HK9.out wr HX2.out
            go_wp2
            go_roundw
            case rel => exact ⟨k + 1, m, by omega, rfl, by go_num, HME2, hm3, Lib.hid (X3R.out.trans HX2.out)⟩
            case measure => simp [intOf]; omega
    · have hkl : k = S1.length := by omega
      have hnq : ((n : Int) == (M1.length : Int)) = true := by
        have h1 := HNK.out
        have h2 := HK2.out
        have h3 := HK3.out
        rw [hkl, List.take_length, h2, List.take_length] at h1
        simp; omega
      have XF : Hid (Ext w wr) := Lib.hid (X0.out.trans (XW3.out.trans HX.out))
      clear hkl
      go_wp2
      go_ret
      exact ⟨rfl, XF.out⟩
end Go.Proofs.Ytpjpjchnfllcmaa
