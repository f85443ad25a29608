/- Layer 13: a law. -/
import Derived.Test.YtogbjpipkegecaaUN
namespace Go.Proofs.Ytogbjpipkegecaa
open Go.RowKit

set_option maxRecDepth 100000 in
set_option maxHeartbeats 16000000 in
theorem dineFires_any (w : World) (id ph : Int) (ao : Option Addr) (c : Nat) (L : List Sd) (id2 ph2 : Int) (bo : Option Addr) (c2 : Nat) (N : List Sd) (h : Sl w (.slice ao L.length c) L) (g : Sl w (.slice bo N.length c2) N) :
    Calls Try.prog 3 #[.agg #[.int .i64 id, .int .i64 ph, .slice ao L.length c], .agg #[.int .i64 id2, .int .i64 ph2, .slice bo N.length c2]] w fun e w' => e = .returned (.bool true) ∧ Ext w w' := by
  have hlen := h.length_le
  have hlen2 := g.length_le
  obtain ⟨W0, hW0⟩ : ∃ W0, W0 = (w.alloc (.cells #[.int .i64 id, .int .i64 ph, .slice ao L.length c] 25)).alloc (.cells #[.int .i64 id2, .int .i64 ph2, .slice bo N.length c2] 25) := ⟨_, rfl⟩
  have X0 : Hid (Ext w W0) := Lib.hid (hW0 ▸ ((Ext.refl w).alloc _).alloc _)
  have D0 : Hid (W0.heap[w.heap.size]? = some (.cells #[.int .i64 id, .int .i64 ph, .slice ao L.length c] 25 (0, 0))) := Lib.hid (hW0 ▸ old1 (at0 w _) _)
  have E0 : Hid (W0.heap[w.heap.size + 1]? = some (.cells #[.int .i64 id2, .int .i64 ph2, .slice bo N.length c2] 25 (0, 0))) := Lib.hid (hW0 ▸ at1 w _ _)
  have HW0 := Lib.hid hW0
  have HS := Lib.hid (h.ext X0.out)
  have HG := Lib.hid (g.ext X0.out)
  clear h g hW0
  obtain ⟨d0, d1, d2⟩ := cells3U D0.out
  obtain ⟨e0, e1, e2⟩ := cells3U E0.out
  by_cases h70 : (70 : Int) < (L.length : Int)
  · go_enter Try.func3, Try.ntmps3
    go_upto_region 1 with (fail)
    rw [← HW0.out]
    go_wp2_with (first
      | (go_at_call 10; have hgd := XA; refine (awake_any _).mono ?_; rintro e wb ⟨rfl, hx⟩; have XB : Hid (Ext W0 wb) := Lib.hid (XA.out.trans hx); clear hx hgd)
      | (go_at_call 10; refine (awake_any _).mono ?_; rintro e wa ⟨rfl, hx⟩; have XA : Hid (Ext W0 wa) := Lib.hid hx; clear d0 d1 d2 e0 e1 e2; obtain ⟨d0, d1, d2⟩ := cells3U (keepU D0.out hx); obtain ⟨e0, e1, e2⟩ := cells3U (keepU E0.out hx); clear hx))
    go_ret
    exact ⟨rfl, X0.out.trans XB.out⟩
  by_cases g70 : (70 : Int) < (N.length : Int)
  · go_enter Try.func3, Try.ntmps3
    go_upto_region 1 with (fail)
    rw [← HW0.out]
    go_wp2_with (first
      | (go_at_call 10; have hgd := XA; refine (awake_any _).mono ?_; rintro e wb ⟨rfl, hx⟩; have XB : Hid (Ext W0 wb) := Lib.hid (XA.out.trans hx); clear hx hgd)
      | (go_at_call 10; refine (awake_any _).mono ?_; rintro e wa ⟨rfl, hx⟩; have XA : Hid (Ext W0 wa) := Lib.hid hx; clear d0 d1 d2 e0 e1 e2; obtain ⟨d0, d1, d2⟩ := cells3U (keepU D0.out hx); obtain ⟨e0, e1, e2⟩ := cells3U (keepU E0.out hx); clear hx))
    go_ret
    exact ⟨rfl, X0.out.trans XB.out⟩
  have hL : L.length ≤ 1000 := by omega
  have hN : N.length ≤ 1000 := by omega
  obtain ⟨t, ht⟩ : ∃ t, dnOk ⟨id, ph, L⟩ = t := ⟨_, rfl⟩
  have HT := Lib.hid ht
  obtain ⟨s, hs⟩ : ∃ s, decide ((⟨id, ph, L⟩ : Dn) = ⟨id2, ph2, N⟩) = s := ⟨_, rfl⟩
  have HSM := Lib.hid hs
  obtain ⟨⟨⟨i, p, M⟩, l, er⟩, hr⟩ : ∃ r, fireR ⟨id, ph, L⟩ = r := ⟨_, rfl⟩
  have HR := Lib.hid hr
  clear ht hs hr
  have hss : (s != s) = false := by cases s <;> rfl
  go_enter Try.func3, Try.ntmps3
  go_upto_region 1 with (fail)
  rw [← HW0.out]
  go_upto_region 3 with (first
    | (go_at_call 10; refine (awake_any _).mono ?_; rintro e wa ⟨rfl, hx⟩; have XA : Hid (Ext W0 wa) := Lib.hid hx; clear d0 d1 d2 e0 e1 e2; obtain ⟨d0, d1, d2⟩ := cells3U (keepU D0.out hx); obtain ⟨e0, e1, e2⟩ := cells3U (keepU E0.out hx); clear hx))
  go_upto_region 4 with (first
    | (go_at_call 12; refine (ownL_any _ id ph _ L (HS.out.ext XA.out) hL).mono ?_; rintro e w1 ⟨a1, c1, rfl, s1, x1⟩; have S1 := Lib.hid s1; have X1 : Hid (Ext W0 w1) := Lib.hid (XA.out.trans x1); clear s1 x1)
    | (go_at_call 11; refine (fire_any _ id ph _ L S1.out hL).mono ?_; intro e w2 hge; obtain ⟨a2, k2, b2, q2, rfl, s2, l2, x2⟩ := givesF_spec hge HR.out; have S2 := Lib.hid s2; have L2 := Lib.hid l2; have X2 : Hid (Ext W0 w2) := Lib.hid (X1.out.trans x2); clear hge s2 l2 x2))
  obtain ⟨g3, hg3⟩ : ∃ g3, g3 = w2.heap.size := ⟨_, rfl⟩
  obtain ⟨W3, hW3⟩ : ∃ W3, W3 = w2.alloc (.cells #[.int .i64 i, .int .i64 p, .slice a2 M.length k2] 25) := ⟨_, rfl⟩
  have X3 : Hid (Ext W0 W3) := Lib.hid (hW3 ▸ X2.out.alloc _)
  have B3 : Hid (W3.heap[g3]? = some (.cells #[.int .i64 i, .int .i64 p, .slice a2 M.length k2] 25 (0, 0))) := Lib.hid (by rw [hW3, hg3]; exact at0 w2 _)
  have S3 : Hid (Sl W3 (.slice a2 M.length k2) M) := Lib.hid (hW3 ▸ S2.out.alloc _)
  have L3 : Hid (Sl W3 (.slice b2 l.length q2) l) := Lib.hid (hW3 ▸ L2.out.alloc _)
  rw [← hW3, ← hg3]
  clear hW3 hg3 d0 d1 d2 e0 e1 e2 S2 X2 S1 X1 L2
  go_cut [40] (fun s40 wx => s40 = .bool false ∧ Hid (Ext W3 wx))
  case first =>
    (refine wp_region_X_lit (K := fun V => Ext W3 V) (by kernel_rfl) (fun w1 hw1 => ?_))
    have HV1 : Hid (Ext W3 w1) := Lib.hid hw1
    clear hw1
    refine xtv 0 (hv := by intro w' hw'; obtain ⟨q0, q1, q2⟩ := cells3U (keepU D0.out (X3.out.trans hw')); go_simp; first | done | with_reducible rfl) (h := ?_)
    refine xtv 2 (hv := by intro w' hw'; obtain ⟨q0, q1, q2⟩ := cells3U (keepU E0.out (X3.out.trans hw')); go_simp; first | done | with_reducible rfl) (h := ?_)
    refine xtv 5 (hv := by intro w' hw'; obtain ⟨q0, q1, q2⟩ := cells3U (keepU D0.out (X3.out.trans hw')); go_simp; first | done | with_reducible rfl) (h := ?_)
    refine xtv 6 (hv := by intro w' hw'; obtain ⟨q0, q1, q2⟩ := cells3U (keepU E0.out (X3.out.trans hw')); go_simp; first | done | with_reducible rfl) (h := ?_)
    refine xone 1 (hk := HV1.out) (h := RunX.of 1 (h := ?_))
    go_simp
    refine (ownL_any w1 id ph _ L (HS.out.ext (X3.out.trans HV1.out)) hL).mono ?_
    rintro e w4 ⟨a4, c4, rfl, s4, x4⟩
    have S4 := Lib.hid s4
    have Y4 : Hid (Ext W3 w4) := Lib.hid (HV1.out.trans x4)
    clear s4 x4
    dsimp only
    (try (simp only [Act.put, List.setIfInBounds_toArray, List.set]))
    refine xone 3 (hk := Y4.out) (h := RunX.of 3 (h := ?_))
    go_simp
    refine (ownL_any w4 id2 ph2 _ N (HG.out.ext (X3.out.trans Y4.out)) hN).mono ?_
    rintro e w5 ⟨a5, c5, rfl, s5, x5⟩
    have S5 := Lib.hid s5
    have T5 := Lib.hid (S4.out.ext x5)
    have Y5 : Hid (Ext W3 w5) := Lib.hid (Y4.out.trans x5)
    clear s5 x5
    dsimp only
    (try (simp only [Act.put, List.setIfInBounds_toArray, List.set]))
    refine xone 4 (hk := Y5.out) (h := RunX.of 4 (h := ?_))
    go_simp
    refine (same_any w5 id ph id2 ph2 _ _ L N T5.out S5.out s HSM.out).mono ?_
    rintro e w6 ⟨rfl, x6⟩
    have Y6 : Hid (Ext W3 w6) := Lib.hid (Y5.out.trans x6)
    clear x6
    dsimp only
    (try (simp only [Act.put, List.setIfInBounds_toArray, List.set]))
    refine xone 7 (hk := Y6.out) (h := RunX.of 7 (h := ?_))
    go_simp
    refine (refSameOne_any w6 id ph id2 ph2 _ _ L N (HS.out.ext (X3.out.trans Y6.out)) (HG.out.ext (X3.out.trans Y6.out)) s HSM.out).mono ?_
    rintro e w7 ⟨rfl, x7⟩
    have Y7 : Hid (Ext W3 w7) := Lib.hid (Y6.out.trans x7)
    clear x7
    dsimp only
    (try (simp only [Act.put, List.setIfInBounds_toArray, List.set]))
    refine xtv 8 (h := ?_)
    (refine xdone (by kernel_rfl) (Y7.out) ?_)
    go_wp2_with fail
    go_meet
    exact ⟨rfl, Y7⟩
  case rest =>
    obtain ⟨rfl, X4⟩ := hcut
    have X5 : Hid (Ext W0 wc) := Lib.hid (X3.out.trans X4.out)
    obtain ⟨d0, d1, d2⟩ := cells3U (keepU D0.out X5.out)
    cases t
    · have hrr : fireR ⟨id, ph, L⟩ = (noD, [], 130) := by unfold fireR; rw [HT.out]; rfl
      have hr2 := HR.out.symm.trans hrr
      simp only [noD, Prod.mk.injEq, Dn.mk.injEq] at hr2
      obtain ⟨⟨rfl, rfl, rfl⟩, rfl, rfl⟩ := hr2
      clear hrr HR
      dsimp only [List.length_nil] at B3 S3 L3 ⊢
      go_upto_region 7 with (first
        | (go_at_call 15; refine (refDCheck_any wc id ph _ L (HS.out.ext X5.out) false HT.out).mono ?_; rintro e w8 ⟨rfl, hx⟩; have X8 : Hid (Ext wc w8) := Lib.hid hx; clear hx))
      clear d0 d1 d2
      have X9 : Hid (Ext W3 w8) := Lib.hid (X4.out.trans X8.out)
      obtain ⟨d0, d1, d2⟩ := cells3U (keepU D0.out (X3.out.trans X9.out))
      obtain ⟨f0, f1, f2⟩ := cells3U (keepU B3.out X9.out)
      go_wp2_with (first
        | (go_at_call 14; refine (refSameOne_any w8 0 0 0 0 _ _ [] [] (S3.out.ext X9.out) (slNoneU _) true (by decide)).mono ?_; rintro e w9 ⟨rfl, hx⟩; have XX : Hid (Ext W0 w9) := Lib.hid ((X3.out.trans X9.out).trans hx); clear d0 d1 d2 f0 f1 f2; obtain ⟨d0, d1, d2⟩ := cells3U (keepU D0.out XX.out); clear hx)
        | (go_at_call 12; refine (ownL_any _ id ph _ L (HS.out.ext XX.out) hL).mono ?_; rintro e w10 ⟨a10, c10, rfl, s10, x10⟩; have S10 := Lib.hid s10; have X10 : Hid (Ext W0 w10) := Lib.hid (XX.out.trans x10); clear s10 x10)
        | (go_at_call 16; refine (dCheck_any w10 id ph _ L S10.out false HT.out).mono ?_; rintro e w11 ⟨rfl, hx⟩; dsimp only [cond]; have X11 : Hid (Ext W0 w11) := Lib.hid (X10.out.trans hx); clear hx))
      go_ret
      exact ⟨rfl, X0.out.trans X11.out⟩
    · have hrr : fireR ⟨id, ph, L⟩ = (fireD ⟨id, ph, L⟩, fireMl ⟨id, ph, L⟩, 0) := by unfold fireR; rw [HT.out]; rfl
      have hr2 := HR.out.symm.trans hrr
      simp only [Prod.mk.injEq] at hr2
      obtain ⟨hf1, rfl, rfl⟩ := hr2
      have HF1 := Lib.hid hf1
      have HM : Hid (∀ (W : World) (v : Value), Sl W v L → Calls Try.prog 17 #[.agg #[.int .i64 id, .int .i64 ph, v]] W fun e w' => ∃ a b k q, e = .returned (.tuple #[.agg #[.int .i64 i, .int .i64 p, .slice a M.length k], .slice b (fireMl ⟨id, ph, L⟩).length q]) ∧ Sl w' (.slice a M.length k) M ∧ Sl w' (.slice b (fireMl ⟨id, ph, L⟩).length q) (fireMl ⟨id, ph, L⟩) ∧ Ext W w') := Lib.hid (fun W v hv => (refFire_any W id ph v L hv hL).mono (by
        rintro e w' ⟨v', vl, rfl, s, sl, x⟩
        rw [← HF1.out] at s ⊢
        obtain ⟨a, k, rfl⟩ := s.len
        obtain ⟨b, q, rfl⟩ := sl.len
        exact ⟨a, b, k, q, rfl, s, sl, x⟩))
      clear hrr HR hf1 HF1
      obtain ⟨l, hl⟩ : ∃ l, l = fireMl ⟨id, ph, L⟩ := ⟨_, rfl⟩
      rw [← hl] at HM L3 ⊢
      clear hl
      go_upto_region 8 with (first
        | (go_at_call 15; refine (refDCheck_any wc id ph _ L (HS.out.ext X5.out) true HT.out).mono ?_; rintro e w8 ⟨rfl, hx⟩; have X8 : Hid (Ext wc w8) := Lib.hid hx; clear d0 d1 d2; obtain ⟨d0, d1, d2⟩ := cells3U (keepU D0.out (X5.out.trans hx)); clear hx))
      have X9 : Hid (Ext W3 w8) := Lib.hid (X4.out.trans X8.out)
      go_upto_region 9 with (first
        | (go_at_call 17; refine (HM.out w8 _ (HS.out.ext (X3.out.trans X9.out))).mono ?_; rintro e w9 ⟨a9, b9, k9, q9, rfl, s9, l9, x9⟩; have S9 := Lib.hid s9; have L9 := Lib.hid l9; have XA9 : Hid (Ext W3 w9) := Lib.hid (X9.out.trans x9); clear s9 l9 x9))
      obtain ⟨g8, hg8⟩ : ∃ g8, g8 = w9.heap.size := ⟨_, rfl⟩
      obtain ⟨WE, hWE⟩ : ∃ WE, WE = w9.alloc (.cells #[.int .i64 i, .int .i64 p, .slice a9 M.length k9] 25) := ⟨_, rfl⟩
      have XE : Hid (Ext W3 WE) := Lib.hid (hWE ▸ XA9.out.alloc _)
      have B8 : Hid (WE.heap[g8]? = some (.cells #[.int .i64 i, .int .i64 p, .slice a9 M.length k9] 25 (0, 0))) := Lib.hid (by rw [hWE, hg8]; exact at0 w9 _)
      have S8 : Hid (Sl WE (.slice a9 M.length k9) M) := Lib.hid (hWE ▸ S9.out.alloc _)
      have L8 : Hid (Sl WE (.slice b9 l.length q9) l) := Lib.hid (hWE ▸ L9.out.alloc _)
      rw [← hWE, ← hg8]
      clear hWE hg8 d0 d1 d2 S9 L9
      obtain ⟨d0, d1, d2⟩ := cells3U (keepU D0.out (X3.out.trans XE.out))
      obtain ⟨f0, f1, f2⟩ := cells3U (keepU B3.out XE.out)
      obtain ⟨h0, h1, h2⟩ := cells3U B8.out
      go_wp2_with (first
        | (go_at_call 14; refine (refSameOne_any WE i p i p _ _ M M (S3.out.ext XE.out) S8.out true (by simp)).mono ?_; rintro e wF ⟨rfl, hx⟩; have XF : Hid (Ext WE wF) := Lib.hid hx; clear d0 d1 d2 f0 f1 f2 h0 h1 h2; obtain ⟨d0, d1, d2⟩ := cells3U (keepU D0.out ((X3.out.trans XE.out).trans hx)); clear hx)
        | (go_at_call 18; refine (refSameMail_any wF _ _ l l (L3.out.ext (XE.out.trans XF.out)) (L8.out.ext XF.out) true (by simp)).mono ?_; rintro e wG ⟨rfl, hx⟩; have XX : Hid (Ext W0 wG) := Lib.hid ((X3.out.trans XE.out).trans (XF.out.trans hx)); clear d0 d1 d2; obtain ⟨d0, d1, d2⟩ := cells3U (keepU D0.out XX.out); clear hx)
        | (go_at_call 12; refine (ownL_any _ id ph _ L (HS.out.ext XX.out) hL).mono ?_; rintro e w10 ⟨a10, c10, rfl, s10, x10⟩; have S10 := Lib.hid s10; have X10 : Hid (Ext W0 w10) := Lib.hid (XX.out.trans x10); clear s10 x10)
        | (go_at_call 16; refine (dCheck_any w10 id ph _ L S10.out true HT.out).mono ?_; rintro e w11 ⟨rfl, hx⟩; dsimp only [cond]; have X11 : Hid (Ext W0 w11) := Lib.hid (X10.out.trans hx); clear hx))
      go_ret
      exact ⟨rfl, X0.out.trans X11.out⟩

end Go.Proofs.Ytogbjpipkegecaa
