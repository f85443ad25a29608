/- Layer 15, the laws: DrinkFires. -/
import Derived.Test.YtpjpjchnfllcmaaXF
import Derived.Test.YtpjpjchnfllcmaaXE
import Derived.Test.YtpjpjchnfllcmaaX7
import Derived.Test.YtpjpjchnfllcmaaX3
import Derived.BigGuard
namespace Go.Proofs.Ytpjpjchnfllcmaa
open Go.RowKit

set_option maxRecDepth 100000 in
set_option maxHeartbeats 16000000 in
theorem drinkFires_any (w : World) (id ph th : Int) (ao : Option Addr) (c : Nat) (na : Option Addr) (nc : Nat) (L : List Sd) (N : List Int) (oi op ot : Int) (oa : Option Addr) (oc : Nat) (ob : Option Addr) (oe : Nat) (OL : List Sd) (ON : List Int) (h : Sl w (.slice ao L.length c) L) (hN : Sl w (.slice na N.length nc) N) (g : Sl w (.slice oa OL.length oc) OL) (gN : Sl w (.slice ob ON.length oe) ON) :
    Calls Try.prog 3 #[.agg #[.int .i64 id, .int .i64 ph, .slice ao L.length c, .int .i64 th, .slice na N.length nc], .agg #[.int .i64 oi, .int .i64 op, .slice oa OL.length oc, .int .i64 ot, .slice ob ON.length oe]] w fun e w' => e = .returned (.bool true) ∧ Ext w w' := by
  have hlen := h.length_le
  have hlenN := hN.length_le
  obtain ⟨W0, hW0⟩ : ∃ W0, W0 = (w.alloc (.cells #[.int .i64 id, .int .i64 ph, .slice ao L.length c, .int .i64 th, .slice na N.length nc] 29)).alloc (.cells #[.int .i64 oi, .int .i64 op, .slice oa OL.length oc, .int .i64 ot, .slice ob ON.length oe] 29) := ⟨_, rfl⟩
  have X0 : Hid (Ext w W0) := Lib.hid (hW0 ▸ ((Ext.refl w).alloc _).alloc _)
  have D0 : Hid (W0.heap[w.heap.size]? = some (.cells #[.int .i64 id, .int .i64 ph, .slice ao L.length c, .int .i64 th, .slice na N.length nc] 29 (0, 0))) := Lib.hid (hW0 ▸ old1 (at0 w _) _)
  have E0 : Hid (W0.heap[w.heap.size + 1]? = some (.cells #[.int .i64 oi, .int .i64 op, .slice oa OL.length oc, .int .i64 ot, .slice ob ON.length oe] 29 (0, 0))) := Lib.hid (hW0 ▸ at1 w _ _)
  have HW0 := Lib.hid hW0
  have HS := Lib.hid (h.ext X0.out)
  have HN := Lib.hid (hN.ext X0.out)
  have GS := Lib.hid (g.ext X0.out)
  have GN := Lib.hid (gN.ext X0.out)
  have hlenO := g.length_le
  have hlenON := gN.length_le
  clear g gN
  clear h hN hW0
  obtain ⟨⟨d0, d1, d2⟩, d3, d4⟩ := cells5 D0.out
  obtain ⟨⟨f0, f1, f2⟩, f3, f4⟩ := cells5 E0.out
  obtain ⟨t70, h70⟩ : ∃ t, (decide (L.length ≤ 70) && decide (N.length ≤ 70)) = t := ⟨_, rfl⟩
  have H70 := Lib.hid h70
  clear h70
  go_enter Try.func3, Try.ntmps3
  go_upto_region 1 with (fail)
  rw [← HW0.out]
  cases t70
  · go_wp2_with (first
      | (go_at_call 10; have hgd := XB; refine (awake_any _).mono ?_; rintro e wc ⟨rfl, hx⟩; have XC : Hid (Ext W0 wc) := Lib.hid (XB.out.trans hx); clear hx hgd)
      | (go_at_call 10; refine (awake_any W0).mono ?_; rintro e wa ⟨rfl, hx⟩; have XA : Hid (Ext W0 wa) := Lib.hid hx; clear d0 d1 d2 d3 d4 f0 f1 f2 f3 f4; obtain ⟨⟨d0, d1, d2⟩, d3, d4⟩ := cells5 (keepU D0.out hx); obtain ⟨⟨f0, f1, f2⟩, f3, f4⟩ := cells5 (keepU E0.out hx); clear hx)
      | (go_at_call 11; refine (dkFew_any wa id ph th _ _ L N (HS.out.ext XA.out) (HN.out.ext XA.out) _ H70.out).mono ?_; rintro e wb ⟨rfl, hx⟩; have hx := Ext.trans XA.out hx; have XB : Hid (Ext W0 wb) := Lib.hid hx; clear d0 d1 d2 d3 d4 f0 f1 f2 f3 f4; obtain ⟨⟨d0, d1, d2⟩, d3, d4⟩ := cells5 (keepU D0.out hx); obtain ⟨⟨f0, f1, f2⟩, f3, f4⟩ := cells5 (keepU E0.out hx); clear hx))
    go_ret
    exact ⟨rfl, X0.out.trans XC.out⟩
  have h70 := H70.out
  simp only [Bool.and_eq_true, decide_eq_true_eq] at h70
  have hL : L.length ≤ 1000 := by omega
  have hNl : N.length ≤ 1000 := by omega
  clear h70
  obtain ⟨t71, h71⟩ : ∃ t, (decide (OL.length ≤ 70) && decide (ON.length ≤ 70)) = t := ⟨_, rfl⟩
  have H71 := Lib.hid h71
  clear h71
  cases t71
  · go_wp2_with (first
      | (go_at_call 10; have hgd := XQ; refine (awake_any _).mono ?_; rintro e wc ⟨rfl, hx⟩; have XC : Hid (Ext W0 wc) := Lib.hid (XQ.out.trans hx); clear hx hgd)
      | (go_at_call 10; refine (awake_any W0).mono ?_; rintro e wa ⟨rfl, hx⟩; have XA : Hid (Ext W0 wa) := Lib.hid hx; clear d0 d1 d2 d3 d4 f0 f1 f2 f3 f4; obtain ⟨⟨d0, d1, d2⟩, d3, d4⟩ := cells5 (keepU D0.out hx); obtain ⟨⟨f0, f1, f2⟩, f3, f4⟩ := cells5 (keepU E0.out hx); clear hx)
      | (go_at_call 11; have hgd := XB; refine (dkFew_any wb oi op ot _ _ OL ON (GS.out.ext XB.out) (GN.out.ext XB.out) _ H71.out).mono ?_; rintro e wq ⟨rfl, hx⟩; have hx := Ext.trans XB.out hx; have XQ : Hid (Ext W0 wq) := Lib.hid hx; clear d0 d1 d2 d3 d4 f0 f1 f2 f3 f4; obtain ⟨⟨d0, d1, d2⟩, d3, d4⟩ := cells5 (keepU D0.out hx); obtain ⟨⟨f0, f1, f2⟩, f3, f4⟩ := cells5 (keepU E0.out hx); clear hx hgd)
      | (go_at_call 11; refine (dkFew_any wa id ph th _ _ L N (HS.out.ext XA.out) (HN.out.ext XA.out) _ H70.out).mono ?_; rintro e wb ⟨rfl, hx⟩; have hx := Ext.trans XA.out hx; have XB : Hid (Ext W0 wb) := Lib.hid hx; clear d0 d1 d2 d3 d4 f0 f1 f2 f3 f4; obtain ⟨⟨d0, d1, d2⟩, d3, d4⟩ := cells5 (keepU D0.out hx); obtain ⟨⟨f0, f1, f2⟩, f3, f4⟩ := cells5 (keepU E0.out hx); clear hx))
    go_ret
    exact ⟨rfl, X0.out.trans XC.out⟩
  have h71 := H71.out
  simp only [Bool.and_eq_true, decide_eq_true_eq] at h71
  have hOL : OL.length ≤ 1000 := by omega
  have hON : ON.length ≤ 1000 := by omega
  clear h71
  obtain ⟨tc, htc⟩ : ∃ t, chkK ⟨id, ph, L, th, N⟩ = t := ⟨_, rfl⟩
  have HTC := Lib.hid htc
  clear htc
  obtain ⟨⟨⟨i1, p1, S1, t1, P1⟩, M1, er1⟩, hr1⟩ : ∃ r, fireKR ⟨id, ph, L, th, N⟩ = r := ⟨_, rfl⟩
  have HR1 := Lib.hid hr1
  clear hr1
  obtain ⟨sm, hsm⟩ : ∃ s, decide ((⟨id, ph, L, th, N⟩ : Dk) = ⟨oi, op, OL, ot, ON⟩) = s := ⟨_, rfl⟩
  have HSM := Lib.hid hsm
  clear hsm
  go_upto_region 3 with (first
    | (go_at_call 10; refine (awake_any W0).mono ?_; rintro e wa ⟨rfl, hx⟩; have XA : Hid (Ext W0 wa) := Lib.hid hx; clear d0 d1 d2 d3 d4 f0 f1 f2 f3 f4; obtain ⟨⟨d0, d1, d2⟩, d3, d4⟩ := cells5 (keepU D0.out hx); obtain ⟨⟨f0, f1, f2⟩, f3, f4⟩ := cells5 (keepU E0.out hx); clear hx)
    | (go_at_call 11; have hgd := XB; refine (dkFew_any wb oi op ot _ _ OL ON (GS.out.ext XB.out) (GN.out.ext XB.out) _ H71.out).mono ?_; rintro e wq ⟨rfl, hx⟩; have hx := Ext.trans XB.out hx; have XQ : Hid (Ext W0 wq) := Lib.hid hx; clear d0 d1 d2 d3 d4 f0 f1 f2 f3 f4; obtain ⟨⟨d0, d1, d2⟩, d3, d4⟩ := cells5 (keepU D0.out hx); obtain ⟨⟨f0, f1, f2⟩, f3, f4⟩ := cells5 (keepU E0.out hx); clear hx hgd)
    | (go_at_call 11; refine (dkFew_any wa id ph th _ _ L N (HS.out.ext XA.out) (HN.out.ext XA.out) _ H70.out).mono ?_; rintro e wb ⟨rfl, hx⟩; have hx := Ext.trans XA.out hx; have XB : Hid (Ext W0 wb) := Lib.hid hx; clear d0 d1 d2 d3 d4 f0 f1 f2 f3 f4; obtain ⟨⟨d0, d1, d2⟩, d3, d4⟩ := cells5 (keepU D0.out hx); obtain ⟨⟨f0, f1, f2⟩, f3, f4⟩ := cells5 (keepU E0.out hx); clear hx))
  go_upto_region 4 with (first
    | (go_at_call 13; refine (dkOwn_any wq id ph th _ _ L N (HS.out.ext XQ.out) (HN.out.ext XQ.out) hL hNl).mono ?_; rintro e w1 ⟨v1, u1, rfl, s1, q1, x1⟩; obtain ⟨a1, c1, rfl⟩ := s1.len; obtain ⟨b1, e1, rfl⟩ := q1.len; have HSd1 := Lib.hid s1; have HNd1 := Lib.hid q1; have X1 : Hid (Ext W0 w1) := Lib.hid (Ext.trans XQ.out x1); clear s1 q1 x1)
    | (go_at_call 12; refine (HR1.out ▸ fireK_any w1 id ph th _ _ L N HSd1.out HNd1.out hL hNl : Calls Try.prog 12 #[.agg #[.int .i64 id, .int .i64 ph, .slice a1 L.length c1, .int .i64 th, .slice b1 N.length e1]] w1 (GivesFD w1 (⟨i1, p1, S1, t1, P1⟩, M1, er1))).mono ?_; rintro e w3 ⟨v3, u3, l3, rfl, s3, q3, m3, x3, _⟩; obtain ⟨a3, c3, rfl⟩ := s3.len; obtain ⟨b3, e3, rfl⟩ := q3.len; obtain ⟨l3, j3, rfl⟩ := m3.len; have HSd3 := Lib.hid s3; have HNd3 := Lib.hid q3; have HMd3 := Lib.hid m3; have X3 : Hid (Ext W0 w3) := Lib.hid (Ext.trans X1.out x3); clear s3 q3 m3 x3))
  obtain ⟨g3, hg3⟩ : ∃ g, g = w3.heap.size := ⟨_, rfl⟩
  obtain ⟨W3, hW3⟩ : ∃ W, W = w3.alloc (.cells #[.int .i64 i1, .int .i64 p1, .slice a3 S1.length c3, .int .i64 t1, .slice b3 P1.length e3] 29) := ⟨_, rfl⟩
  have XW3 : Hid (Ext W0 W3) := Lib.hid (hW3 ▸ X3.out.alloc _)
  have Bg3 : Hid (W3.heap[g3]? = some (.cells #[.int .i64 i1, .int .i64 p1, .slice a3 S1.length c3, .int .i64 t1, .slice b3 P1.length e3] 29 (0, 0))) := Lib.hid (by rw [hW3, hg3]; exact at0 w3 _)
  have SA3 := Lib.hid (hW3 ▸ HSd3.out.alloc _ : Sl W3 (.slice a3 S1.length c3) S1)
  have QA3 := Lib.hid (hW3 ▸ HNd3.out.alloc _ : Sl W3 (.slice b3 P1.length e3) P1)
  have MA3 := Lib.hid (hW3 ▸ HMd3.out.alloc _ : Sl W3 (.slice l3 M1.length j3) M1)
  rw [← hW3, ← hg3]
  clear hW3 hg3
  clear d0 d1 d2 d3 d4 f0 f1 f2 f3 f4
  go_cut [38] (fun s38 wx => s38 = .bool false ∧ Hid (Ext W3 wx))
  case first =>
    (refine wp_region_X_lit (K := fun V => Ext W3 V) (by kernel_rfl) (fun w1 hw1 => ?_))
    have XZ : Hid (Ext W3 w1) := Lib.hid hw1
    clear hw1
    refine xtv 0 (hv := by intro w' hw'; obtain ⟨⟨d0, d1, d2⟩, d3, d4⟩ := cells5 (keepU D0.out (XW3.out.trans hw')); go_simp; first | done | with_reducible rfl) (h := ?_)
    refine xtv 2 (hv := by intro w' hw'; obtain ⟨⟨f0, f1, f2⟩, f3, f4⟩ := cells5 (keepU E0.out (XW3.out.trans hw')); go_simp; first | done | with_reducible rfl) (h := ?_)
    refine xtv 5 (hv := by intro w' hw'; obtain ⟨⟨d0, d1, d2⟩, d3, d4⟩ := cells5 (keepU D0.out (XW3.out.trans hw')); go_simp; first | done | with_reducible rfl) (h := ?_)
    refine xtv 6 (hv := by intro w' hw'; obtain ⟨⟨f0, f1, f2⟩, f3, f4⟩ := cells5 (keepU E0.out (XW3.out.trans hw')); go_simp; first | done | with_reducible rfl) (h := ?_)
    refine xone 1 (hk := XZ.out) (h := RunX.of 1 (h := ?_))
    go_simp
    refine (dkOwn_any w1 id ph th _ _ L N (HS.out.ext (XW3.out.trans XZ.out)) (HN.out.ext (XW3.out.trans XZ.out)) hL hNl).mono ?_
    rintro e4' w4 ⟨v4, u4, rfl, s4, q4, x4⟩
    obtain ⟨a4, c4, rfl⟩ := s4.len
    obtain ⟨b4, e4, rfl⟩ := q4.len
    have HSd4 := Lib.hid s4
    have HNd4 := Lib.hid q4
    have X4 : Hid (Ext W3 w4) := Lib.hid (Ext.trans XZ.out x4)
    clear s4 q4 x4
    dsimp only
    (try (simp only [Act.put, List.setIfInBounds_toArray, List.set]))
    refine xone 3 (hk := X4.out) (h := RunX.of 3 (h := ?_))
    go_simp
    refine (dkOwn_any w4 oi op ot _ _ OL ON (GS.out.ext (XW3.out.trans X4.out)) (GN.out.ext (XW3.out.trans X4.out)) hOL hON).mono ?_
    rintro e5' w5 ⟨v5, u5, rfl, s5, q5, x5⟩
    obtain ⟨a5, c5, rfl⟩ := s5.len
    obtain ⟨b5, e5, rfl⟩ := q5.len
    have HSd5 := Lib.hid s5
    have HNd5 := Lib.hid q5
    have HSd4' := Lib.hid (HSd4.out.ext x5)
    have HNd4' := Lib.hid (HNd4.out.ext x5)
    have X5 : Hid (Ext W3 w5) := Lib.hid (Ext.trans X4.out x5)
    clear s5 q5 x5
    dsimp only
    (try (simp only [Act.put, List.setIfInBounds_toArray, List.set]))
    refine xone 4 (hk := X5.out) (h := RunX.of 4 (h := ?_))
    go_simp
    refine (dkSame_any w5 id ph th oi op ot _ _ _ _ L OL N ON HSd4'.out HSd5.out HNd4'.out HNd5.out sm HSM.out).mono ?_
    rintro e6' w6 ⟨rfl, x6⟩
    have X6 : Hid (Ext W3 w6) := Lib.hid (Ext.trans X5.out x6)
    clear x6
    dsimp only
    (try (simp only [Act.put, List.setIfInBounds_toArray, List.set]))
    refine xone 7 (hk := X6.out) (h := RunX.of 7 (h := ?_))
    go_simp
    refine (refDkSame_any w6 id ph th oi op ot _ _ _ _ L OL N ON (HS.out.ext (XW3.out.trans X6.out)) (GS.out.ext (XW3.out.trans X6.out)) (HN.out.ext (XW3.out.trans X6.out)) (GN.out.ext (XW3.out.trans X6.out)) sm HSM.out).mono ?_
    rintro e7' w7 ⟨rfl, x7⟩
    have X7 : Hid (Ext W3 w7) := Lib.hid (Ext.trans X6.out x7)
    clear x7
    dsimp only
    (try (simp only [Act.put, List.setIfInBounds_toArray, List.set]))
    cases sm
    · skip
      refine xtv 8 (h := ?_)
      (refine xdone (by kernel_rfl) (X7.out) ?_)
      go_wp2_with fail
      go_meet
      exact ⟨rfl, X7⟩
    · skip
      refine xtv 8 (h := ?_)
      (refine xdone (by kernel_rfl) (X7.out) ?_)
      go_wp2_with fail
      go_meet
      exact ⟨rfl, X7⟩
  case rest =>
    obtain ⟨rfl, XC7⟩ := hcut
    have HKD : Hid (∀ V, Ext wc V → _) := Lib.hid fun V hV => cells5 (keepU (keepU D0.out (XW3.out.trans XC7.out)) hV)
    have HKX : Hid (∀ V, Ext wc V → _) := Lib.hid fun V hV => cells5 (keepU (keepU Bg3.out XC7.out) hV)
    obtain ⟨⟨d0, d1, d2⟩, d3, d4⟩ := HKD.out wc (Ext.refl _)
    have HCC := Lib.hid (refDkCheck_any wc id ph th _ _ L N (HS.out.ext (XW3.out.trans XC7.out)) (HN.out.ext (XW3.out.trans XC7.out)) tc HTC.out)
    cases tc
    · have HE : Hid ((⟨i1, p1, S1, t1, P1⟩ : Dk) = noK ∧ M1.length = 0 ∧ er1 = 150) := Lib.hid (by
        have h1 := HR1.out
        unfold fireKR at h1
        rw [HTC.out, if_neg (by simp)] at h1
        simp only [Prod.mk.injEq] at h1
        exact ⟨h1.1.symm, by rw [← h1.2.1]; rfl, h1.2.2.symm⟩)
      obtain ⟨he1, he2, he3⟩ := HE.out
      subst he3
      obtain ⟨m1, hm1⟩ : ∃ m, m = M1.length := ⟨_, rfl⟩
      have hm0 : m1 = 0 := by rw [hm1]; exact he2
      subst hm0
      rw [← hm1] at MA3 ⊢
      clear hm1 he1 he2
      obtain ⟨⟨k0, k1, k2⟩, k3, k4⟩ := HKX.out wc (Ext.refl _)
      go_upto_region 7 with (first
        | (go_at_call 16; refine HCC.out.mono ?_; rintro e w8 ⟨rfl, hx⟩; have X8 : Hid (Ext wc w8) := Lib.hid hx; clear d0 d1 d2 d3 d4 k0 k1 k2 k3 k4; obtain ⟨⟨d0, d1, d2⟩, d3, d4⟩ := HKD.out w8 hx; obtain ⟨⟨k0, k1, k2⟩, k3, k4⟩ := HKX.out w8 hx; clear hx))
      go_wp2_with (first
        | (go_at_call 15; refine (refDkSame_any w8 i1 p1 t1 0 0 0 _ _ _ _ S1 [] P1 [] (SA3.out.ext (XC7.out.trans X8.out)) (slNoneU _) (QA3.out.ext (XC7.out.trans X8.out)) (slNoneU _) true (by rw [HE.out.1]; rfl)).mono ?_; rintro e w9 ⟨rfl, hx⟩; have hx := X8.out.trans hx; have X9 : Hid (Ext wc w9) := Lib.hid hx; clear d0 d1 d2 d3 d4 k0 k1 k2 k3 k4; obtain ⟨⟨d0, d1, d2⟩, d3, d4⟩ := HKD.out w9 hx; clear hx)
        | (go_at_call 13; refine (dkOwn_any w9 id ph th _ _ L N (HS.out.ext (XW3.out.trans (XC7.out.trans X9.out))) (HN.out.ext (XW3.out.trans (XC7.out.trans X9.out))) hL hNl).mono ?_; rintro e wo ⟨vo, uo, rfl, so, qo, xo⟩; obtain ⟨ao', co', rfl⟩ := so.len; obtain ⟨bo', eo', rfl⟩ := qo.len; have HSdo := Lib.hid so; have HNdo := Lib.hid qo; have XO : Hid (Ext wc wo) := Lib.hid (Ext.trans X9.out xo); clear so qo xo)
        | (go_at_call 17; refine (dkCheck_any wo id ph th _ _ L N HSdo.out HNdo.out hL false HTC.out).mono ?_; rintro e wz ⟨rfl, hx⟩; dsimp only [cond]; have XZZ : Hid (Ext wc wz) := Lib.hid (Ext.trans XO.out hx); clear hx))
      go_ret
      exact ⟨rfl, X0.out.trans (XW3.out.trans (XC7.out.trans XZZ.out))⟩
    · have HE : Hid (fireAll ⟨id, ph, L, th, N⟩ = (⟨i1, p1, S1, t1, P1⟩, M1) ∧ er1 = 0) := Lib.hid (by
        have h1 := HR1.out
        unfold fireKR at h1
        rw [if_pos HTC.out] at h1
        simp only [Prod.mk.injEq] at h1
        exact ⟨Prod.ext h1.1 h1.2.1, h1.2.2.symm⟩)
      have he := HE.out.2
      subst he
      go_upto_region 8 with (first
        | (go_at_call 16; refine HCC.out.mono ?_; rintro e w8 ⟨rfl, hx⟩; have X8 : Hid (Ext wc w8) := Lib.hid hx; clear d0 d1 d2 d3 d4; obtain ⟨⟨d0, d1, d2⟩, d3, d4⟩ := HKD.out w8 hx; clear hx))
      go_upto_region 9 with (first
        | (go_at_call 18; refine (HE.out.1 ▸ refFireK_any w8 id ph th _ _ L N (HS.out.ext (XW3.out.trans (XC7.out.trans X8.out))) (HN.out.ext (XW3.out.trans (XC7.out.trans X8.out))) hL : Calls Try.prog 18 #[.agg #[.int .i64 id, .int .i64 ph, .slice ao L.length c, .int .i64 th, .slice na N.length nc]] w8 (GivesFK w8 (⟨i1, p1, S1, t1, P1⟩, M1))).mono ?_; rintro e w9 ⟨v9, u9, l9, rfl, s9, q9, m9, x9⟩; obtain ⟨a9, c9, rfl⟩ := s9.len; obtain ⟨b9, e9, rfl⟩ := q9.len; obtain ⟨l9, j9, rfl⟩ := m9.len; have HSd9 := Lib.hid s9; have HNd9 := Lib.hid q9; have HMd9 := Lib.hid m9; have X9 : Hid (Ext wc w9) := Lib.hid (Ext.trans X8.out x9); clear s9 q9 m9 x9))
      obtain ⟨g9, hg9⟩ : ∃ g, g = w9.heap.size := ⟨_, rfl⟩
      obtain ⟨W9, hW9⟩ : ∃ W, W = w9.alloc (.cells #[.int .i64 i1, .int .i64 p1, .slice a9 S1.length c9, .int .i64 t1, .slice b9 P1.length e9] 29) := ⟨_, rfl⟩
      have XW9 : Hid (Ext wc W9) := Lib.hid (hW9 ▸ X9.out.alloc _)
      have Bg9 : Hid (W9.heap[g9]? = some (.cells #[.int .i64 i1, .int .i64 p1, .slice a9 S1.length c9, .int .i64 t1, .slice b9 P1.length e9] 29 (0, 0))) := Lib.hid (by rw [hW9, hg9]; exact at0 w9 _)
      have SA9 := Lib.hid (hW9 ▸ HSd9.out.alloc _ : Sl W9 (.slice a9 S1.length c9) S1)
      have QA9 := Lib.hid (hW9 ▸ HNd9.out.alloc _ : Sl W9 (.slice b9 P1.length e9) P1)
      have MA9 := Lib.hid (hW9 ▸ HMd9.out.alloc _ : Sl W9 (.slice l9 M1.length j9) M1)
      rw [← hW9, ← hg9]
      clear hW9 hg9
      clear d0 d1 d2 d3 d4
      obtain ⟨⟨d0, d1, d2⟩, d3, d4⟩ := HKD.out W9 XW9.out
      obtain ⟨⟨k0, k1, k2⟩, k3, k4⟩ := HKX.out W9 XW9.out
      obtain ⟨⟨l0, l1, l2⟩, l3', l4⟩ := cells5 Bg9.out
      go_wp2_with (first
        | (go_at_call 15; refine (refDkSame_any W9 i1 p1 t1 i1 p1 t1 _ _ _ _ S1 S1 P1 P1 (SA3.out.ext (XC7.out.trans XW9.out)) SA9.out (QA3.out.ext (XC7.out.trans XW9.out)) QA9.out true (by simp)).mono ?_; rintro e wa1 ⟨rfl, hx⟩; have XA1 : Hid (Ext W9 wa1) := Lib.hid hx; clear d0 d1 d2 d3 d4 k0 k1 k2 k3 k4 l0 l1 l2 l3' l4; obtain ⟨⟨d0, d1, d2⟩, d3, d4⟩ := HKD.out wa1 (XW9.out.trans hx); clear hx)
        | (go_at_call 19; refine (refSameMail_any wa1 _ _ M1 M1 (MA3.out.ext (XC7.out.trans (XW9.out.trans XA1.out))) (MA9.out.ext XA1.out) true (by simp)).mono ?_; rintro e wa2 ⟨rfl, hx⟩; have hx := XW9.out.trans (XA1.out.trans hx); have XA2 : Hid (Ext wc wa2) := Lib.hid hx; clear d0 d1 d2 d3 d4; obtain ⟨⟨d0, d1, d2⟩, d3, d4⟩ := HKD.out wa2 hx; clear hx)
        | (go_at_call 13; refine (dkOwn_any wa2 id ph th _ _ L N (HS.out.ext (XW3.out.trans (XC7.out.trans XA2.out))) (HN.out.ext (XW3.out.trans (XC7.out.trans XA2.out))) hL hNl).mono ?_; rintro e wo ⟨vo, uo, rfl, so, qo, xo⟩; obtain ⟨ao', co', rfl⟩ := so.len; obtain ⟨bo', eo', rfl⟩ := qo.len; have HSdo := Lib.hid so; have HNdo := Lib.hid qo; have XO : Hid (Ext wc wo) := Lib.hid (Ext.trans XA2.out xo); clear so qo xo)
        | (go_at_call 17; refine (dkCheck_any wo id ph th _ _ L N HSdo.out HNdo.out hL true HTC.out).mono ?_; rintro e wz ⟨rfl, hx⟩; dsimp only [cond]; have XZZ : Hid (Ext wc wz) := Lib.hid (Ext.trans XO.out hx); clear hx))
      go_ret
      exact ⟨rfl, X0.out.trans (XW3.out.trans (XC7.out.trans XZZ.out))⟩
end Go.Proofs.Ytpjpjchnfllcmaa
