/- Layer 13: a law. -/
import Derived.Test.YtogbjpipkegecaaUN
namespace Go.Proofs.Ytogbjpipkegecaa
open Go.RowKit

theorem turns_vals (id ph : Int) (L : List Sd) (fr to_ : Int) : (dnOk ⟨id, ph, L⟩ = false → stepR ⟨id, ph, L⟩ fr to_ = (⟨0, 0, []⟩, 130)) ∧ (dnOk ⟨id, ph, L⟩ = true → ph = fr → stepR ⟨id, ph, L⟩ fr to_ = (⟨id, to_, L⟩, 0)) ∧ (dnOk ⟨id, ph, L⟩ = true → ph ≠ fr → stepR ⟨id, ph, L⟩ fr to_ = (⟨0, 0, []⟩, 134)) := by
  refine ⟨fun h => ?_, fun h e => ?_, fun h e => ?_⟩
  · unfold stepR; rw [h]; rfl
  · unfold stepR; rw [if_pos h, if_pos e]
  · unfold stepR; rw [if_pos h, if_neg e]; rfl

set_option maxRecDepth 100000 in
set_option maxHeartbeats 16000000 in
theorem dineTurns_any (w : World) (id ph : Int) (ao : Option Addr) (c : Nat) (L : List Sd) (h : Sl w (.slice ao L.length c) L) :
    Calls Try.prog 5 #[.agg #[.int .i64 id, .int .i64 ph, .slice ao L.length c]] w fun e w' => e = .returned (.bool true) ∧ Ext w w' := by
  have hlen := h.length_le
  obtain ⟨W0, hW0⟩ : ∃ W0, W0 = (w.alloc (.cells #[.int .i64 id, .int .i64 ph, .slice ao L.length c] 25)) := ⟨_, rfl⟩
  have X0 : Hid (Ext w W0) := Lib.hid (hW0 ▸ ((Ext.refl w).alloc _))
  have D0 : Hid (W0.heap[w.heap.size]? = some (.cells #[.int .i64 id, .int .i64 ph, .slice ao L.length c] 25 (0, 0))) := Lib.hid (hW0 ▸ at0 w _)
  have HW0 := Lib.hid hW0
  have HS := Lib.hid (h.ext X0.out)
  clear h hW0
  have hl63 := hlen
  obtain ⟨d0, d1, d2⟩ := cells3U D0.out
  by_cases h70 : (70 : Int) < (L.length : Int)
  · clear hl63
    go_enter Try.func5, Try.ntmps5
    go_upto_region 1 with (fail)
    rw [← HW0.out]
    go_wp2_with (first
      | (go_at_call 10; have hgd := XA; refine (awake_any _).mono ?_; rintro e wb ⟨rfl, hx⟩; have XB : Hid (Ext W0 wb) := Lib.hid (XA.out.trans hx); clear hx hgd)
      | (go_at_call 10; refine (awake_any _).mono ?_; rintro e wa ⟨rfl, hx⟩; have XA : Hid (Ext W0 wa) := Lib.hid hx; clear d0 d1 d2; obtain ⟨d0, d1, d2⟩ := cells3U (keepU D0.out hx); clear hx))
    go_ret
    exact ⟨rfl, X0.out.trans XB.out⟩
  have hL : L.length ≤ 1000 := by omega
  obtain ⟨t, ht⟩ : ∃ t, dnOk ⟨id, ph, L⟩ = t := ⟨_, rfl⟩
  have HT := Lib.hid ht
  clear ht
  cases t
  · have HR1 : Hid (stepR ⟨id, ph, L⟩ 0 1 = (⟨0, 0, []⟩, 130)) := Lib.hid ((turns_vals id ph L 0 1).1 HT.out)
    have HR2 : Hid (stepR ⟨id, ph, L⟩ 2 0 = (⟨0, 0, []⟩, 130)) := Lib.hid ((turns_vals id ph L 2 0).1 HT.out)
    go_enter Try.func5, Try.ntmps5
    go_upto_region 1 with (fail)
    rw [← HW0.out]
    go_upto_region 3 with (first
      | (go_at_call 10; refine (awake_any _).mono ?_; rintro e wa ⟨rfl, hx⟩; have XA : Hid (Ext W0 wa) := Lib.hid hx; clear d0 d1 d2; obtain ⟨d0, d1, d2⟩ := cells3U (keepU D0.out hx); clear hx))
    go_upto_region 4 with (first
      | (go_at_call 12; refine (ownL_any _ id ph _ L (HS.out.ext XA.out) hL).mono ?_; rintro e w1 ⟨a1, c1, rfl, s1, x1⟩; have S1 := Lib.hid s1; have X1 : Hid (Ext W0 w1) := Lib.hid (XA.out.trans x1); clear s1 x1)
      | (go_at_call 21; refine (start_any _ id ph _ L S1.out hL).mono ?_; intro e w2 hge; obtain ⟨a2, c2, rfl, s2, x2⟩ := givesE_spec hge HR1.out; dsimp only [List.length_nil] at s2 ⊢; have S2 := Lib.hid s2; have X2 : Hid (Ext W0 w2) := Lib.hid (X1.out.trans x2); clear hge s2 x2))
    obtain ⟨g3, hg3⟩ : ∃ g3, g3 = w2.heap.size := ⟨_, rfl⟩
    obtain ⟨W3, hW3⟩ : ∃ W3, W3 = w2.alloc (.cells #[.int .i64 0, .int .i64 0, .slice a2 0 c2] 25) := ⟨_, rfl⟩
    have X3 : Hid (Ext W0 W3) := Lib.hid (hW3 ▸ X2.out.alloc _)
    have B3 : Hid (W3.heap[g3]? = some (.cells #[.int .i64 0, .int .i64 0, .slice a2 0 c2] 25 (0, 0))) := Lib.hid (by rw [hW3, hg3]; exact at0 w2 _)
    have S3 : Hid (Sl W3 (.slice a2 0 c2) ([] : List Sd)) := Lib.hid (hW3 ▸ S2.out.alloc _)
    rw [← hW3, ← hg3]
    clear hW3 hg3 d0 d1 d2 S2 X2 S1 X1
    obtain ⟨d0, d1, d2⟩ := cells3U (keepU D0.out X3.out)
    go_upto_region 5 with (first
      | (go_at_call 12; refine (ownL_any _ id ph _ L (HS.out.ext X3.out) hL).mono ?_; rintro e w4 ⟨a4, c4, rfl, s4, x4⟩; have S4 := Lib.hid s4; have X4 : Hid (Ext W0 w4) := Lib.hid (X3.out.trans x4); have X34 : Hid (Ext W3 w4) := Lib.hid x4; clear s4 x4)
      | (go_at_call 22; refine (stop_any _ id ph _ L S4.out hL).mono ?_; intro e w5 hge; obtain ⟨a5, c5, rfl, s5, x5⟩ := givesE_spec hge HR2.out; dsimp only [List.length_nil] at s5 ⊢; have S5 := Lib.hid s5; have X5 : Hid (Ext W3 w5) := Lib.hid (X34.out.trans x5); clear hge s5 x5))
    obtain ⟨g6, hg6⟩ : ∃ g6, g6 = w5.heap.size := ⟨_, rfl⟩
    obtain ⟨W6, hW6⟩ : ∃ W6, W6 = w5.alloc (.cells #[.int .i64 0, .int .i64 0, .slice a5 0 c5] 25) := ⟨_, rfl⟩
    have Y6 : Hid (Ext W3 W6) := Lib.hid (hW6 ▸ X5.out.alloc _)
    have X6 : Hid (Ext W0 W6) := Lib.hid (X3.out.trans Y6.out)
    have B6 : Hid (W6.heap[g6]? = some (.cells #[.int .i64 0, .int .i64 0, .slice a5 0 c5] 25 (0, 0))) := Lib.hid (by rw [hW6, hg6]; exact at0 w5 _)
    have S6 : Hid (Sl W6 (.slice a5 0 c5) ([] : List Sd)) := Lib.hid (hW6 ▸ S5.out.alloc _)
    rw [← hW6, ← hg6]
    clear hW6 hg6 d0 d1 d2 S5 X5 S4 X4
    obtain ⟨d0, d1, d2⟩ := cells3U (keepU D0.out X6.out)
    obtain ⟨e0, e1, e2⟩ := cells3U (keepU B3.out Y6.out)
    obtain ⟨f0, f1, f2⟩ := cells3U B6.out
    go_wp2_with (first
      | (go_at_call 15; refine (refDCheck_any W6 id ph _ L (HS.out.ext X6.out) false HT.out).mono ?_; rintro e w7 ⟨rfl, hx⟩; have X7 : Hid (Ext W6 w7) := Lib.hid hx; clear d0 d1 d2 e0 e1 e2 f0 f1 f2; obtain ⟨e0, e1, e2⟩ := cells3U (keepU B3.out (Y6.out.trans hx)); obtain ⟨f0, f1, f2⟩ := cells3U (keepU B6.out hx); clear hx)
      | (go_at_call 14; have hgd := X8; refine (refSameOne_any w8 0 0 0 0 _ _ [] [] (S6.out.ext (X7.out.trans X8.out)) (slNoneU _) true (by decide)).mono ?_; rintro e w9 ⟨rfl, hx⟩; have X9 : Hid (Ext w8 w9) := Lib.hid hx; clear hx hgd)
      | (go_at_call 14; refine (refSameOne_any w7 0 0 0 0 _ _ [] [] (S3.out.ext (Y6.out.trans X7.out)) (slNoneU _) true (by decide)).mono ?_; rintro e w8 ⟨rfl, hx⟩; have X8 : Hid (Ext w7 w8) := Lib.hid hx; clear e0 e1 e2 f0 f1 f2; obtain ⟨f0, f1, f2⟩ := cells3U (keepU B6.out (X7.out.trans hx)); clear hx))
    go_ret
    exact ⟨rfl, X0.out.trans (X6.out.trans (X7.out.trans (X8.out.trans X9.out)))⟩
  by_cases q0 : ph = 0
  · subst q0
    have HR1 : Hid (stepR ⟨id, 0, L⟩ 0 1 = (⟨id, 1, L⟩, 0)) := Lib.hid ((turns_vals id 0 L 0 1).2.1 HT.out rfl)
    have HR2 : Hid (stepR ⟨id, 0, L⟩ 2 0 = (⟨0, 0, []⟩, 134)) := Lib.hid ((turns_vals id 0 L 2 0).2.2 HT.out (by decide))
    go_enter Try.func5, Try.ntmps5
    go_upto_region 1 with (fail)
    rw [← HW0.out]
    go_upto_region 3 with (first
      | (go_at_call 10; refine (awake_any _).mono ?_; rintro e wa ⟨rfl, hx⟩; have XA : Hid (Ext W0 wa) := Lib.hid hx; clear d0 d1 d2; obtain ⟨d0, d1, d2⟩ := cells3U (keepU D0.out hx); clear hx))
    go_upto_region 4 with (first
      | (go_at_call 12; refine (ownL_any _ id 0 _ L (HS.out.ext XA.out) hL).mono ?_; rintro e w1 ⟨a1, c1, rfl, s1, x1⟩; have S1 := Lib.hid s1; have X1 : Hid (Ext W0 w1) := Lib.hid (XA.out.trans x1); clear s1 x1)
      | (go_at_call 21; refine (start_any _ id 0 _ L S1.out hL).mono ?_; intro e w2 hge; obtain ⟨a2, c2, rfl, s2, x2⟩ := givesE_spec hge HR1.out; dsimp only [List.length_nil] at s2 ⊢; have S2 := Lib.hid s2; have X2 : Hid (Ext W0 w2) := Lib.hid (X1.out.trans x2); clear hge s2 x2))
    obtain ⟨g3, hg3⟩ : ∃ g3, g3 = w2.heap.size := ⟨_, rfl⟩
    obtain ⟨W3, hW3⟩ : ∃ W3, W3 = w2.alloc (.cells #[.int .i64 id, .int .i64 1, .slice a2 L.length c2] 25) := ⟨_, rfl⟩
    have X3 : Hid (Ext W0 W3) := Lib.hid (hW3 ▸ X2.out.alloc _)
    have B3 : Hid (W3.heap[g3]? = some (.cells #[.int .i64 id, .int .i64 1, .slice a2 L.length c2] 25 (0, 0))) := Lib.hid (by rw [hW3, hg3]; exact at0 w2 _)
    have S3 : Hid (Sl W3 (.slice a2 L.length c2) (L : List Sd)) := Lib.hid (hW3 ▸ S2.out.alloc _)
    rw [← hW3, ← hg3]
    clear hW3 hg3 d0 d1 d2 S2 X2 S1 X1
    obtain ⟨d0, d1, d2⟩ := cells3U (keepU D0.out X3.out)
    go_upto_region 5 with (first
      | (go_at_call 12; refine (ownL_any _ id 0 _ L (HS.out.ext X3.out) hL).mono ?_; rintro e w4 ⟨a4, c4, rfl, s4, x4⟩; have S4 := Lib.hid s4; have X4 : Hid (Ext W0 w4) := Lib.hid (X3.out.trans x4); have X34 : Hid (Ext W3 w4) := Lib.hid x4; clear s4 x4)
      | (go_at_call 22; refine (stop_any _ id 0 _ L S4.out hL).mono ?_; intro e w5 hge; obtain ⟨a5, c5, rfl, s5, x5⟩ := givesE_spec hge HR2.out; dsimp only [List.length_nil] at s5 ⊢; have S5 := Lib.hid s5; have X5 : Hid (Ext W3 w5) := Lib.hid (X34.out.trans x5); clear hge s5 x5))
    obtain ⟨g6, hg6⟩ : ∃ g6, g6 = w5.heap.size := ⟨_, rfl⟩
    obtain ⟨W6, hW6⟩ : ∃ W6, W6 = w5.alloc (.cells #[.int .i64 0, .int .i64 0, .slice a5 0 c5] 25) := ⟨_, rfl⟩
    have Y6 : Hid (Ext W3 W6) := Lib.hid (hW6 ▸ X5.out.alloc _)
    have X6 : Hid (Ext W0 W6) := Lib.hid (X3.out.trans Y6.out)
    have B6 : Hid (W6.heap[g6]? = some (.cells #[.int .i64 0, .int .i64 0, .slice a5 0 c5] 25 (0, 0))) := Lib.hid (by rw [hW6, hg6]; exact at0 w5 _)
    have S6 : Hid (Sl W6 (.slice a5 0 c5) ([] : List Sd)) := Lib.hid (hW6 ▸ S5.out.alloc _)
    rw [← hW6, ← hg6]
    clear hW6 hg6 d0 d1 d2 S5 X5 S4 X4
    obtain ⟨d0, d1, d2⟩ := cells3U (keepU D0.out X6.out)
    go_upto_region 7 with (first
      | (go_at_call 15; refine (refDCheck_any W6 id 0 _ L (HS.out.ext X6.out) true HT.out).mono ?_; rintro e w7 ⟨rfl, hx⟩; have X7 : Hid (Ext W6 w7) := Lib.hid hx; clear hx))
    clear d0 d1 d2
    go_cut [7, 8] (fun s7 s8 wx => ∃ g7 g8, s7 = .pointer (some ⟨g7, 0, none⟩) ∧ s8 = .pointer (some ⟨g8, 0, none⟩) ∧ g7 ≠ g8 ∧ Hid (wx.heap[g7]? = some (.cells #[.int .i64 id, .int .i64 0, .slice ao L.length c] 25 (0, 0)) ∧ wx.heap[g8]? = some (.cells #[.int .i64 id, .int .i64 0, .slice ao L.length c] 25 (0, 0))) ∧ Hid (Ext w7 wx) ∧ w7.heap.size ≤ g7 ∧ w7.heap.size ≤ g8)
    case first =>
      have hk : ∀ V, Ext w7 V → V.heap[w.heap.size]? = some (.cells #[.int .i64 id, .int .i64 0, .slice ao L.length c] 25 (0, 0)) := fun V hV => keepU D0.out (X6.out.trans (X7.out.trans hV))
      have HKK := Lib.hid hk
      clear hk
      (refine wp_region_X_lit (K := fun V => Ext w7 V) (by kernel_rfl) (fun w1 hw1 => ?_))
      have HV1 : Hid (Ext w7 w1) := Lib.hid hw1
      clear hw1
      refine xtv 0 (hv := by intro w' hw'; obtain ⟨q0, q1, q2⟩ := cells3U (HKK.out w' hw'); go_simp; first | done | with_reducible rfl) (h := ?_)
      refine xtv 1 (hv := by intro w' hw'; obtain ⟨q0, q1, q2⟩ := cells3U (HKK.out w' hw'); go_simp; first | done | with_reducible rfl) (h := ?_)
      obtain ⟨G, hG⟩ : ∃ G, G = w1.heap.size := ⟨_, rfl⟩
      obtain ⟨WC, hWC⟩ : ∃ WC, WC = (w1.alloc (.cells #[.int .i64 0, .int .i64 0, .slice none 0 0] 25)).alloc (.cells #[.int .i64 0, .int .i64 0, .slice none 0 0] 25) := ⟨_, rfl⟩
      have YC : Hid (Ext w7 WC) := Lib.hid (hWC ▸ (HV1.out.alloc _).alloc _)
      have Y1 : Hid (Ext w7 (w1.alloc (.cells #[.int .i64 0, .int .i64 0, .slice none 0 0] 25))) := Lib.hid (HV1.out.alloc _)
      have GC : Hid (WC.heap[G]? = some (.cells #[.int .i64 0, .int .i64 0, .slice none 0 0] 25 (0, 0))) := Lib.hid (by rw [hWC, hG]; exact old1 (at0 w1 _) _)
      have GD : Hid (WC.heap[G + 1]? = some (.cells #[.int .i64 0, .int .i64 0, .slice none 0 0] 25 (0, 0))) := Lib.hid (by rw [hWC, hG]; exact at1 w1 _ _)
      have hGl : w7.heap.size ≤ G := by have := Below.size HV1.out; omega
      have HWC := Lib.hid hWC
      have HG := Lib.hid hG
      clear hG hWC
      refine xtwo 2 3 (hk := HV1.out) (h := RunX.of 2 (h := ?_)) (h' := RunX.of 3 (h := ?_))
      · go_simp
        (try (simp only [Act.put, List.setIfInBounds_toArray, List.set]))
        refine xone 3 (hk := Y1.out) (h := RunX.of 3 (h := ?_))
        go_simp
        (try (simp only [Act.put, List.setIfInBounds_toArray, List.set]))
        (try rw [size_alloc])
        rw [← HWC.out, ← HG.out]
        refine xone 4 (hk := YC.out) (h := RunX.of 4 (h := ?_))
        refine wp_st 25 (.tmp 7) (.tmp 49) rfl (G) 0 25 #[.int .i64 0, .int .i64 0, .slice none 0 0] #[.int .i64 id, .int .i64 0, .slice ao L.length c] #[.int .i64 id, .int .i64 0, .slice ao L.length c] rfl rfl GC.out (by kernel_rfl) (by simp) rfl rfl ?_
        intro WE hWE oE
        simp only [Act.put]
        have YE : Hid (Ext w7 WE) := Lib.hid (ext_off YC.out oE (fun b hb => by omega))
        have GE : Hid (WE.heap[G + 1]? = some (.cells #[.int .i64 0, .int .i64 0, .slice none 0 0] 25 (0, 0))) := Lib.hid ((oE.block _ (blk_lt GD.out) (by omega)).trans GD.out)
        have RE := Lib.hid hWE
        clear hWE oE
        refine xone 5 (hk := YE.out) (h := RunX.of 5 (h := ?_))
        refine wp_st 25 (.tmp 8) (.tmp 50) rfl (G + 1) 0 25 #[.int .i64 0, .int .i64 0, .slice none 0 0] #[.int .i64 id, .int .i64 0, .slice ao L.length c] #[.int .i64 id, .int .i64 0, .slice ao L.length c] rfl rfl GE.out (by kernel_rfl) (by simp) rfl rfl ?_
        intro WF hWF oF
        simp only [Act.put]
        have YF : Hid (Ext w7 WF) := Lib.hid (ext_off YE.out oF (fun b hb => by omega))
        have RF2 : Hid (WF.heap[G]? = some (.cells #[.int .i64 id, .int .i64 0, .slice ao L.length c] 25 (0, 0)) ∧ WF.heap[G + 1]? = some (.cells #[.int .i64 id, .int .i64 0, .slice ao L.length c] 25 (0, 0))) := Lib.hid ⟨(oF.block _ (blk_lt RE.out) (by omega)).trans RE.out, hWF⟩
        clear hWF oF
        (refine xdone (by kernel_rfl) (YF.out) ?_)
        go_wp2_with fail
        go_meet
        exact ⟨_, _, rfl, rfl, by omega, RF2, YF, by omega, by omega⟩
      · go_simp
        (try (simp only [Act.put, List.setIfInBounds_toArray, List.set]))
        refine xone 2 (hk := Y1.out) (h := RunX.of 2 (h := ?_))
        go_simp
        (try (simp only [Act.put, List.setIfInBounds_toArray, List.set]))
        (try rw [size_alloc])
        rw [← HWC.out, ← HG.out]
        refine xone 4 (hk := YC.out) (h := RunX.of 4 (h := ?_))
        refine wp_st 25 (.tmp 7) (.tmp 49) rfl (G + 1) 0 25 #[.int .i64 0, .int .i64 0, .slice none 0 0] #[.int .i64 id, .int .i64 0, .slice ao L.length c] #[.int .i64 id, .int .i64 0, .slice ao L.length c] rfl rfl GD.out (by kernel_rfl) (by simp) rfl rfl ?_
        intro WE hWE oE
        simp only [Act.put]
        have YE : Hid (Ext w7 WE) := Lib.hid (ext_off YC.out oE (fun b hb => by omega))
        have GE : Hid (WE.heap[G]? = some (.cells #[.int .i64 0, .int .i64 0, .slice none 0 0] 25 (0, 0))) := Lib.hid ((oE.block _ (blk_lt GC.out) (by omega)).trans GC.out)
        have RE := Lib.hid hWE
        clear hWE oE
        refine xone 5 (hk := YE.out) (h := RunX.of 5 (h := ?_))
        refine wp_st 25 (.tmp 8) (.tmp 50) rfl (G) 0 25 #[.int .i64 0, .int .i64 0, .slice none 0 0] #[.int .i64 id, .int .i64 0, .slice ao L.length c] #[.int .i64 id, .int .i64 0, .slice ao L.length c] rfl rfl GE.out (by kernel_rfl) (by simp) rfl rfl ?_
        intro WF hWF oF
        simp only [Act.put]
        have YF : Hid (Ext w7 WF) := Lib.hid (ext_off YE.out oF (fun b hb => by omega))
        have RF2 : Hid (WF.heap[G + 1]? = some (.cells #[.int .i64 id, .int .i64 0, .slice ao L.length c] 25 (0, 0)) ∧ WF.heap[G]? = some (.cells #[.int .i64 id, .int .i64 0, .slice ao L.length c] 25 (0, 0))) := Lib.hid ⟨(oF.block _ (blk_lt RE.out) (by omega)).trans RE.out, hWF⟩
        clear hWF oF
        (refine xdone (by kernel_rfl) (YF.out) ?_)
        go_wp2_with fail
        go_meet
        exact ⟨_, _, rfl, rfl, by omega, RF2, YF, by omega, by omega⟩
    case rest =>
      obtain ⟨g7, g8, rfl, rfl, hne, HB, HXC, hg7, hg8⟩ := hcut
      have fr7 := blk_free HB.out.1 1
      have fr8 := blk_free HB.out.2 1
      have cc7 := blk_cell HB.out.1 1 rfl
      have cc8 := blk_cell HB.out.2 1 rfl
      go_upto_region 9 with (fail)
      obtain ⟨WG, hWG⟩ : ∃ WG, WG = (wc.setCell ⟨g7, 1, none⟩ (.int .i64 1)).setCell ⟨g8, 1, none⟩ (.int .i64 0) := ⟨_, rfl⟩
      have B7 : Hid (WG.heap[g7]? = some (.cells #[.int .i64 id, .int .i64 1, .slice ao L.length c] 25 (0, 0))) := Lib.hid (by rw [hWG, set_other _ _ _ _ (by show g7 ≠ g8; exact hne), blk_set HB.out.1]; rfl)
      have B8 : Hid (WG.heap[g8]? = some (.cells #[.int .i64 id, .int .i64 0, .slice ao L.length c] 25 (0, 0))) := Lib.hid (by rw [hWG, blk_set ((set_other _ _ _ _ (by show g8 ≠ g7; exact fun e => hne e.symm)).trans HB.out.2)]; rfl)
      have X8 : Hid (Ext w7 WG) := Lib.hid (hWG ▸ below_set (below_set HXC.out hg7 _) hg8 _)
      have XW : Hid (Ext W3 WG) := Lib.hid (Y6.out.trans (X7.out.trans X8.out))
      have XV : Hid (Ext W0 WG) := Lib.hid (X3.out.trans XW.out)
      rw [← hWG]
      clear hWG fr7 fr8 cc7 cc8
      obtain ⟨d0, d1, d2⟩ := cells3U (keepU D0.out XV.out)
      obtain ⟨e0, e1, e2⟩ := cells3U (keepU B3.out XW.out)
      obtain ⟨f0, f1, f2⟩ := cells3U (keepU B6.out (X7.out.trans X8.out))
      obtain ⟨h0, h1, h2⟩ := cells3U B7.out
      obtain ⟨i0, i1, i2⟩ := cells3U B8.out
      go_wp2_with (first
        | (go_at_call 14; refine (refSameOne_any WG id 1 id 1 _ _ L L (S3.out.ext XW.out) (HS.out.ext XV.out) true (by simp)).mono ?_; rintro e w9 ⟨rfl, hx⟩; have X9 : Hid (Ext WG w9) := Lib.hid hx; clear d0 d1 d2; obtain ⟨d0, d1, d2⟩ := cells3U (keepU D0.out (XV.out.trans hx)); clear hx))
      go_ret
      exact ⟨rfl, X0.out.trans (XV.out.trans X9.out)⟩
  by_cases q2 : ph = 2
  · subst q2
    clear q0
    have HR1 : Hid (stepR ⟨id, 2, L⟩ 0 1 = (⟨0, 0, []⟩, 134)) := Lib.hid ((turns_vals id 2 L 0 1).2.2 HT.out (by decide))
    have HR2 : Hid (stepR ⟨id, 2, L⟩ 2 0 = (⟨id, 0, L⟩, 0)) := Lib.hid ((turns_vals id 2 L 2 0).2.1 HT.out rfl)
    go_enter Try.func5, Try.ntmps5
    go_upto_region 1 with (fail)
    rw [← HW0.out]
    go_upto_region 3 with (first
      | (go_at_call 10; refine (awake_any _).mono ?_; rintro e wa ⟨rfl, hx⟩; have XA : Hid (Ext W0 wa) := Lib.hid hx; clear d0 d1 d2; obtain ⟨d0, d1, d2⟩ := cells3U (keepU D0.out hx); clear hx))
    go_upto_region 4 with (first
      | (go_at_call 12; refine (ownL_any _ id 2 _ L (HS.out.ext XA.out) hL).mono ?_; rintro e w1 ⟨a1, c1, rfl, s1, x1⟩; have S1 := Lib.hid s1; have X1 : Hid (Ext W0 w1) := Lib.hid (XA.out.trans x1); clear s1 x1)
      | (go_at_call 21; refine (start_any _ id 2 _ L S1.out hL).mono ?_; intro e w2 hge; obtain ⟨a2, c2, rfl, s2, x2⟩ := givesE_spec hge HR1.out; dsimp only [List.length_nil] at s2 ⊢; have S2 := Lib.hid s2; have X2 : Hid (Ext W0 w2) := Lib.hid (X1.out.trans x2); clear hge s2 x2))
    obtain ⟨g3, hg3⟩ : ∃ g3, g3 = w2.heap.size := ⟨_, rfl⟩
    obtain ⟨W3, hW3⟩ : ∃ W3, W3 = w2.alloc (.cells #[.int .i64 0, .int .i64 0, .slice a2 0 c2] 25) := ⟨_, rfl⟩
    have X3 : Hid (Ext W0 W3) := Lib.hid (hW3 ▸ X2.out.alloc _)
    have B3 : Hid (W3.heap[g3]? = some (.cells #[.int .i64 0, .int .i64 0, .slice a2 0 c2] 25 (0, 0))) := Lib.hid (by rw [hW3, hg3]; exact at0 w2 _)
    have S3 : Hid (Sl W3 (.slice a2 0 c2) ([] : List Sd)) := Lib.hid (hW3 ▸ S2.out.alloc _)
    rw [← hW3, ← hg3]
    clear hW3 hg3 d0 d1 d2 S2 X2 S1 X1
    obtain ⟨d0, d1, d2⟩ := cells3U (keepU D0.out X3.out)
    go_upto_region 5 with (first
      | (go_at_call 12; refine (ownL_any _ id 2 _ L (HS.out.ext X3.out) hL).mono ?_; rintro e w4 ⟨a4, c4, rfl, s4, x4⟩; have S4 := Lib.hid s4; have X4 : Hid (Ext W0 w4) := Lib.hid (X3.out.trans x4); have X34 : Hid (Ext W3 w4) := Lib.hid x4; clear s4 x4)
      | (go_at_call 22; refine (stop_any _ id 2 _ L S4.out hL).mono ?_; intro e w5 hge; obtain ⟨a5, c5, rfl, s5, x5⟩ := givesE_spec hge HR2.out; dsimp only [List.length_nil] at s5 ⊢; have S5 := Lib.hid s5; have X5 : Hid (Ext W3 w5) := Lib.hid (X34.out.trans x5); clear hge s5 x5))
    obtain ⟨g6, hg6⟩ : ∃ g6, g6 = w5.heap.size := ⟨_, rfl⟩
    obtain ⟨W6, hW6⟩ : ∃ W6, W6 = w5.alloc (.cells #[.int .i64 id, .int .i64 0, .slice a5 L.length c5] 25) := ⟨_, rfl⟩
    have Y6 : Hid (Ext W3 W6) := Lib.hid (hW6 ▸ X5.out.alloc _)
    have X6 : Hid (Ext W0 W6) := Lib.hid (X3.out.trans Y6.out)
    have B6 : Hid (W6.heap[g6]? = some (.cells #[.int .i64 id, .int .i64 0, .slice a5 L.length c5] 25 (0, 0))) := Lib.hid (by rw [hW6, hg6]; exact at0 w5 _)
    have S6 : Hid (Sl W6 (.slice a5 L.length c5) (L : List Sd)) := Lib.hid (hW6 ▸ S5.out.alloc _)
    rw [← hW6, ← hg6]
    clear hW6 hg6 d0 d1 d2 S5 X5 S4 X4
    obtain ⟨d0, d1, d2⟩ := cells3U (keepU D0.out X6.out)
    go_upto_region 7 with (first
      | (go_at_call 15; refine (refDCheck_any W6 id 2 _ L (HS.out.ext X6.out) true HT.out).mono ?_; rintro e w7 ⟨rfl, hx⟩; have X7 : Hid (Ext W6 w7) := Lib.hid hx; clear hx))
    clear d0 d1 d2
    go_cut [7, 8] (fun s7 s8 wx => ∃ g7 g8, s7 = .pointer (some ⟨g7, 0, none⟩) ∧ s8 = .pointer (some ⟨g8, 0, none⟩) ∧ g7 ≠ g8 ∧ Hid (wx.heap[g7]? = some (.cells #[.int .i64 id, .int .i64 2, .slice ao L.length c] 25 (0, 0)) ∧ wx.heap[g8]? = some (.cells #[.int .i64 id, .int .i64 2, .slice ao L.length c] 25 (0, 0))) ∧ Hid (Ext w7 wx) ∧ w7.heap.size ≤ g7 ∧ w7.heap.size ≤ g8)
    case first =>
      have hk : ∀ V, Ext w7 V → V.heap[w.heap.size]? = some (.cells #[.int .i64 id, .int .i64 2, .slice ao L.length c] 25 (0, 0)) := fun V hV => keepU D0.out (X6.out.trans (X7.out.trans hV))
      have HKK := Lib.hid hk
      clear hk
      (refine wp_region_X_lit (K := fun V => Ext w7 V) (by kernel_rfl) (fun w1 hw1 => ?_))
      have HV1 : Hid (Ext w7 w1) := Lib.hid hw1
      clear hw1
      refine xtv 0 (hv := by intro w' hw'; obtain ⟨q0, q1, q2⟩ := cells3U (HKK.out w' hw'); go_simp; first | done | with_reducible rfl) (h := ?_)
      refine xtv 1 (hv := by intro w' hw'; obtain ⟨q0, q1, q2⟩ := cells3U (HKK.out w' hw'); go_simp; first | done | with_reducible rfl) (h := ?_)
      obtain ⟨G, hG⟩ : ∃ G, G = w1.heap.size := ⟨_, rfl⟩
      obtain ⟨WC, hWC⟩ : ∃ WC, WC = (w1.alloc (.cells #[.int .i64 0, .int .i64 0, .slice none 0 0] 25)).alloc (.cells #[.int .i64 0, .int .i64 0, .slice none 0 0] 25) := ⟨_, rfl⟩
      have YC : Hid (Ext w7 WC) := Lib.hid (hWC ▸ (HV1.out.alloc _).alloc _)
      have Y1 : Hid (Ext w7 (w1.alloc (.cells #[.int .i64 0, .int .i64 0, .slice none 0 0] 25))) := Lib.hid (HV1.out.alloc _)
      have GC : Hid (WC.heap[G]? = some (.cells #[.int .i64 0, .int .i64 0, .slice none 0 0] 25 (0, 0))) := Lib.hid (by rw [hWC, hG]; exact old1 (at0 w1 _) _)
      have GD : Hid (WC.heap[G + 1]? = some (.cells #[.int .i64 0, .int .i64 0, .slice none 0 0] 25 (0, 0))) := Lib.hid (by rw [hWC, hG]; exact at1 w1 _ _)
      have hGl : w7.heap.size ≤ G := by have := Below.size HV1.out; omega
      have HWC := Lib.hid hWC
      have HG := Lib.hid hG
      clear hG hWC
      refine xtwo 2 3 (hk := HV1.out) (h := RunX.of 2 (h := ?_)) (h' := RunX.of 3 (h := ?_))
      · go_simp
        (try (simp only [Act.put, List.setIfInBounds_toArray, List.set]))
        refine xone 3 (hk := Y1.out) (h := RunX.of 3 (h := ?_))
        go_simp
        (try (simp only [Act.put, List.setIfInBounds_toArray, List.set]))
        (try rw [size_alloc])
        rw [← HWC.out, ← HG.out]
        refine xone 4 (hk := YC.out) (h := RunX.of 4 (h := ?_))
        refine wp_st 25 (.tmp 7) (.tmp 49) rfl (G) 0 25 #[.int .i64 0, .int .i64 0, .slice none 0 0] #[.int .i64 id, .int .i64 2, .slice ao L.length c] #[.int .i64 id, .int .i64 2, .slice ao L.length c] rfl rfl GC.out (by kernel_rfl) (by simp) rfl rfl ?_
        intro WE hWE oE
        simp only [Act.put]
        have YE : Hid (Ext w7 WE) := Lib.hid (ext_off YC.out oE (fun b hb => by omega))
        have GE : Hid (WE.heap[G + 1]? = some (.cells #[.int .i64 0, .int .i64 0, .slice none 0 0] 25 (0, 0))) := Lib.hid ((oE.block _ (blk_lt GD.out) (by omega)).trans GD.out)
        have RE := Lib.hid hWE
        clear hWE oE
        refine xone 5 (hk := YE.out) (h := RunX.of 5 (h := ?_))
        refine wp_st 25 (.tmp 8) (.tmp 50) rfl (G + 1) 0 25 #[.int .i64 0, .int .i64 0, .slice none 0 0] #[.int .i64 id, .int .i64 2, .slice ao L.length c] #[.int .i64 id, .int .i64 2, .slice ao L.length c] rfl rfl GE.out (by kernel_rfl) (by simp) rfl rfl ?_
        intro WF hWF oF
        simp only [Act.put]
        have YF : Hid (Ext w7 WF) := Lib.hid (ext_off YE.out oF (fun b hb => by omega))
        have RF2 : Hid (WF.heap[G]? = some (.cells #[.int .i64 id, .int .i64 2, .slice ao L.length c] 25 (0, 0)) ∧ WF.heap[G + 1]? = some (.cells #[.int .i64 id, .int .i64 2, .slice ao L.length c] 25 (0, 0))) := Lib.hid ⟨(oF.block _ (blk_lt RE.out) (by omega)).trans RE.out, hWF⟩
        clear hWF oF
        (refine xdone (by kernel_rfl) (YF.out) ?_)
        go_wp2_with fail
        go_meet
        exact ⟨_, _, rfl, rfl, by omega, RF2, YF, by omega, by omega⟩
      · go_simp
        (try (simp only [Act.put, List.setIfInBounds_toArray, List.set]))
        refine xone 2 (hk := Y1.out) (h := RunX.of 2 (h := ?_))
        go_simp
        (try (simp only [Act.put, List.setIfInBounds_toArray, List.set]))
        (try rw [size_alloc])
        rw [← HWC.out, ← HG.out]
        refine xone 4 (hk := YC.out) (h := RunX.of 4 (h := ?_))
        refine wp_st 25 (.tmp 7) (.tmp 49) rfl (G + 1) 0 25 #[.int .i64 0, .int .i64 0, .slice none 0 0] #[.int .i64 id, .int .i64 2, .slice ao L.length c] #[.int .i64 id, .int .i64 2, .slice ao L.length c] rfl rfl GD.out (by kernel_rfl) (by simp) rfl rfl ?_
        intro WE hWE oE
        simp only [Act.put]
        have YE : Hid (Ext w7 WE) := Lib.hid (ext_off YC.out oE (fun b hb => by omega))
        have GE : Hid (WE.heap[G]? = some (.cells #[.int .i64 0, .int .i64 0, .slice none 0 0] 25 (0, 0))) := Lib.hid ((oE.block _ (blk_lt GC.out) (by omega)).trans GC.out)
        have RE := Lib.hid hWE
        clear hWE oE
        refine xone 5 (hk := YE.out) (h := RunX.of 5 (h := ?_))
        refine wp_st 25 (.tmp 8) (.tmp 50) rfl (G) 0 25 #[.int .i64 0, .int .i64 0, .slice none 0 0] #[.int .i64 id, .int .i64 2, .slice ao L.length c] #[.int .i64 id, .int .i64 2, .slice ao L.length c] rfl rfl GE.out (by kernel_rfl) (by simp) rfl rfl ?_
        intro WF hWF oF
        simp only [Act.put]
        have YF : Hid (Ext w7 WF) := Lib.hid (ext_off YE.out oF (fun b hb => by omega))
        have RF2 : Hid (WF.heap[G + 1]? = some (.cells #[.int .i64 id, .int .i64 2, .slice ao L.length c] 25 (0, 0)) ∧ WF.heap[G]? = some (.cells #[.int .i64 id, .int .i64 2, .slice ao L.length c] 25 (0, 0))) := Lib.hid ⟨(oF.block _ (blk_lt RE.out) (by omega)).trans RE.out, hWF⟩
        clear hWF oF
        (refine xdone (by kernel_rfl) (YF.out) ?_)
        go_wp2_with fail
        go_meet
        exact ⟨_, _, rfl, rfl, by omega, RF2, YF, by omega, by omega⟩
    case rest =>
      obtain ⟨g7, g8, rfl, rfl, hne, HB, HXC, hg7, hg8⟩ := hcut
      have fr7 := blk_free HB.out.1 1
      have fr8 := blk_free HB.out.2 1
      have cc7 := blk_cell HB.out.1 1 rfl
      have cc8 := blk_cell HB.out.2 1 rfl
      go_upto_region 9 with (fail)
      obtain ⟨WG, hWG⟩ : ∃ WG, WG = (wc.setCell ⟨g7, 1, none⟩ (.int .i64 1)).setCell ⟨g8, 1, none⟩ (.int .i64 0) := ⟨_, rfl⟩
      have B7 : Hid (WG.heap[g7]? = some (.cells #[.int .i64 id, .int .i64 1, .slice ao L.length c] 25 (0, 0))) := Lib.hid (by rw [hWG, set_other _ _ _ _ (by show g7 ≠ g8; exact hne), blk_set HB.out.1]; rfl)
      have B8 : Hid (WG.heap[g8]? = some (.cells #[.int .i64 id, .int .i64 0, .slice ao L.length c] 25 (0, 0))) := Lib.hid (by rw [hWG, blk_set ((set_other _ _ _ _ (by show g8 ≠ g7; exact fun e => hne e.symm)).trans HB.out.2)]; rfl)
      have X8 : Hid (Ext w7 WG) := Lib.hid (hWG ▸ below_set (below_set HXC.out hg7 _) hg8 _)
      have XW : Hid (Ext W3 WG) := Lib.hid (Y6.out.trans (X7.out.trans X8.out))
      have XV : Hid (Ext W0 WG) := Lib.hid (X3.out.trans XW.out)
      rw [← hWG]
      clear hWG fr7 fr8 cc7 cc8
      obtain ⟨d0, d1, d2⟩ := cells3U (keepU D0.out XV.out)
      obtain ⟨e0, e1, e2⟩ := cells3U (keepU B3.out XW.out)
      obtain ⟨f0, f1, f2⟩ := cells3U (keepU B6.out (X7.out.trans X8.out))
      obtain ⟨h0, h1, h2⟩ := cells3U B7.out
      obtain ⟨i0, i1, i2⟩ := cells3U B8.out
      go_wp2_with (first
        | (go_at_call 14; refine (refSameOne_any WG id 0 id 0 _ _ L L (S6.out.ext (X7.out.trans X8.out)) (HS.out.ext XV.out) true (by simp)).mono ?_; rintro e w9 ⟨rfl, hx⟩; have X9 : Hid (Ext WG w9) := Lib.hid hx; clear d0 d1 d2; obtain ⟨d0, d1, d2⟩ := cells3U (keepU D0.out (XV.out.trans hx)); clear hx))
      go_ret
      exact ⟨rfl, X0.out.trans (XV.out.trans X9.out)⟩
  · have HR1 : Hid (stepR ⟨id, ph, L⟩ 0 1 = (⟨0, 0, []⟩, 134)) := Lib.hid ((turns_vals id ph L 0 1).2.2 HT.out q0)
    have HR2 : Hid (stepR ⟨id, ph, L⟩ 2 0 = (⟨0, 0, []⟩, 134)) := Lib.hid ((turns_vals id ph L 2 0).2.2 HT.out q2)
    have t0 : (ph == 0) = false := by simp [q0]
    have t1 : (ph != 0) = true := by simp [q0]
    have t2 : (ph == 2) = false := by simp [q2]
    have t3 : (ph != 2) = true := by simp [q2]
    clear q0 q2
    go_enter Try.func5, Try.ntmps5
    go_upto_region 1 with (fail)
    rw [← HW0.out]
    go_upto_region 3 with (first
      | (go_at_call 10; refine (awake_any _).mono ?_; rintro e wa ⟨rfl, hx⟩; have XA : Hid (Ext W0 wa) := Lib.hid hx; clear d0 d1 d2; obtain ⟨d0, d1, d2⟩ := cells3U (keepU D0.out hx); clear hx))
    go_upto_region 4 with (first
      | (go_at_call 12; refine (ownL_any _ id ph _ L (HS.out.ext XA.out) hL).mono ?_; rintro e w1 ⟨a1, c1, rfl, s1, x1⟩; have S1 := Lib.hid s1; have X1 : Hid (Ext W0 w1) := Lib.hid (XA.out.trans x1); clear s1 x1)
      | (go_at_call 21; refine (start_any _ id ph _ L S1.out hL).mono ?_; intro e w2 hge; obtain ⟨a2, c2, rfl, s2, x2⟩ := givesE_spec hge HR1.out; dsimp only [List.length_nil] at s2 ⊢; have S2 := Lib.hid s2; have X2 : Hid (Ext W0 w2) := Lib.hid (X1.out.trans x2); clear hge s2 x2))
    obtain ⟨g3, hg3⟩ : ∃ g3, g3 = w2.heap.size := ⟨_, rfl⟩
    obtain ⟨W3, hW3⟩ : ∃ W3, W3 = w2.alloc (.cells #[.int .i64 0, .int .i64 0, .slice a2 0 c2] 25) := ⟨_, rfl⟩
    have X3 : Hid (Ext W0 W3) := Lib.hid (hW3 ▸ X2.out.alloc _)
    have B3 : Hid (W3.heap[g3]? = some (.cells #[.int .i64 0, .int .i64 0, .slice a2 0 c2] 25 (0, 0))) := Lib.hid (by rw [hW3, hg3]; exact at0 w2 _)
    have S3 : Hid (Sl W3 (.slice a2 0 c2) ([] : List Sd)) := Lib.hid (hW3 ▸ S2.out.alloc _)
    rw [← hW3, ← hg3]
    clear hW3 hg3 d0 d1 d2 S2 X2 S1 X1
    obtain ⟨d0, d1, d2⟩ := cells3U (keepU D0.out X3.out)
    go_upto_region 5 with (first
      | (go_at_call 12; refine (ownL_any _ id ph _ L (HS.out.ext X3.out) hL).mono ?_; rintro e w4 ⟨a4, c4, rfl, s4, x4⟩; have S4 := Lib.hid s4; have X4 : Hid (Ext W0 w4) := Lib.hid (X3.out.trans x4); have X34 : Hid (Ext W3 w4) := Lib.hid x4; clear s4 x4)
      | (go_at_call 22; refine (stop_any _ id ph _ L S4.out hL).mono ?_; intro e w5 hge; obtain ⟨a5, c5, rfl, s5, x5⟩ := givesE_spec hge HR2.out; dsimp only [List.length_nil] at s5 ⊢; have S5 := Lib.hid s5; have X5 : Hid (Ext W3 w5) := Lib.hid (X34.out.trans x5); clear hge s5 x5))
    obtain ⟨g6, hg6⟩ : ∃ g6, g6 = w5.heap.size := ⟨_, rfl⟩
    obtain ⟨W6, hW6⟩ : ∃ W6, W6 = w5.alloc (.cells #[.int .i64 0, .int .i64 0, .slice a5 0 c5] 25) := ⟨_, rfl⟩
    have Y6 : Hid (Ext W3 W6) := Lib.hid (hW6 ▸ X5.out.alloc _)
    have X6 : Hid (Ext W0 W6) := Lib.hid (X3.out.trans Y6.out)
    have B6 : Hid (W6.heap[g6]? = some (.cells #[.int .i64 0, .int .i64 0, .slice a5 0 c5] 25 (0, 0))) := Lib.hid (by rw [hW6, hg6]; exact at0 w5 _)
    have S6 : Hid (Sl W6 (.slice a5 0 c5) ([] : List Sd)) := Lib.hid (hW6 ▸ S5.out.alloc _)
    rw [← hW6, ← hg6]
    clear hW6 hg6 d0 d1 d2 S5 X5 S4 X4
    obtain ⟨d0, d1, d2⟩ := cells3U (keepU D0.out X6.out)
    go_upto_region 7 with (first
      | (go_at_call 15; refine (refDCheck_any W6 id ph _ L (HS.out.ext X6.out) true HT.out).mono ?_; rintro e w7 ⟨rfl, hx⟩; have X7 : Hid (Ext W6 w7) := Lib.hid hx; clear hx))
    clear d0 d1 d2
    go_cut [7, 8] (fun s7 s8 wx => ∃ g7 g8, s7 = .pointer (some ⟨g7, 0, none⟩) ∧ s8 = .pointer (some ⟨g8, 0, none⟩) ∧ g7 ≠ g8 ∧ Hid (wx.heap[g7]? = some (.cells #[.int .i64 id, .int .i64 ph, .slice ao L.length c] 25 (0, 0)) ∧ wx.heap[g8]? = some (.cells #[.int .i64 id, .int .i64 ph, .slice ao L.length c] 25 (0, 0))) ∧ Hid (Ext w7 wx) ∧ w7.heap.size ≤ g7 ∧ w7.heap.size ≤ g8)
    case first =>
      have hk : ∀ V, Ext w7 V → V.heap[w.heap.size]? = some (.cells #[.int .i64 id, .int .i64 ph, .slice ao L.length c] 25 (0, 0)) := fun V hV => keepU D0.out (X6.out.trans (X7.out.trans hV))
      have HKK := Lib.hid hk
      clear hk
      (refine wp_region_X_lit (K := fun V => Ext w7 V) (by kernel_rfl) (fun w1 hw1 => ?_))
      have HV1 : Hid (Ext w7 w1) := Lib.hid hw1
      clear hw1
      refine xtv 0 (hv := by intro w' hw'; obtain ⟨q0, q1, q2⟩ := cells3U (HKK.out w' hw'); go_simp; first | done | with_reducible rfl) (h := ?_)
      refine xtv 1 (hv := by intro w' hw'; obtain ⟨q0, q1, q2⟩ := cells3U (HKK.out w' hw'); go_simp; first | done | with_reducible rfl) (h := ?_)
      obtain ⟨G, hG⟩ : ∃ G, G = w1.heap.size := ⟨_, rfl⟩
      obtain ⟨WC, hWC⟩ : ∃ WC, WC = (w1.alloc (.cells #[.int .i64 0, .int .i64 0, .slice none 0 0] 25)).alloc (.cells #[.int .i64 0, .int .i64 0, .slice none 0 0] 25) := ⟨_, rfl⟩
      have YC : Hid (Ext w7 WC) := Lib.hid (hWC ▸ (HV1.out.alloc _).alloc _)
      have Y1 : Hid (Ext w7 (w1.alloc (.cells #[.int .i64 0, .int .i64 0, .slice none 0 0] 25))) := Lib.hid (HV1.out.alloc _)
      have GC : Hid (WC.heap[G]? = some (.cells #[.int .i64 0, .int .i64 0, .slice none 0 0] 25 (0, 0))) := Lib.hid (by rw [hWC, hG]; exact old1 (at0 w1 _) _)
      have GD : Hid (WC.heap[G + 1]? = some (.cells #[.int .i64 0, .int .i64 0, .slice none 0 0] 25 (0, 0))) := Lib.hid (by rw [hWC, hG]; exact at1 w1 _ _)
      have hGl : w7.heap.size ≤ G := by have := Below.size HV1.out; omega
      have HWC := Lib.hid hWC
      have HG := Lib.hid hG
      clear hG hWC
      refine xtwo 2 3 (hk := HV1.out) (h := RunX.of 2 (h := ?_)) (h' := RunX.of 3 (h := ?_))
      · go_simp
        (try (simp only [Act.put, List.setIfInBounds_toArray, List.set]))
        refine xone 3 (hk := Y1.out) (h := RunX.of 3 (h := ?_))
        go_simp
        (try (simp only [Act.put, List.setIfInBounds_toArray, List.set]))
        (try rw [size_alloc])
        rw [← HWC.out, ← HG.out]
        refine xone 4 (hk := YC.out) (h := RunX.of 4 (h := ?_))
        refine wp_st 25 (.tmp 7) (.tmp 49) rfl (G) 0 25 #[.int .i64 0, .int .i64 0, .slice none 0 0] #[.int .i64 id, .int .i64 ph, .slice ao L.length c] #[.int .i64 id, .int .i64 ph, .slice ao L.length c] rfl rfl GC.out (by kernel_rfl) (by simp) rfl rfl ?_
        intro WE hWE oE
        simp only [Act.put]
        have YE : Hid (Ext w7 WE) := Lib.hid (ext_off YC.out oE (fun b hb => by omega))
        have GE : Hid (WE.heap[G + 1]? = some (.cells #[.int .i64 0, .int .i64 0, .slice none 0 0] 25 (0, 0))) := Lib.hid ((oE.block _ (blk_lt GD.out) (by omega)).trans GD.out)
        have RE := Lib.hid hWE
        clear hWE oE
        refine xone 5 (hk := YE.out) (h := RunX.of 5 (h := ?_))
        refine wp_st 25 (.tmp 8) (.tmp 50) rfl (G + 1) 0 25 #[.int .i64 0, .int .i64 0, .slice none 0 0] #[.int .i64 id, .int .i64 ph, .slice ao L.length c] #[.int .i64 id, .int .i64 ph, .slice ao L.length c] rfl rfl GE.out (by kernel_rfl) (by simp) rfl rfl ?_
        intro WF hWF oF
        simp only [Act.put]
        have YF : Hid (Ext w7 WF) := Lib.hid (ext_off YE.out oF (fun b hb => by omega))
        have RF2 : Hid (WF.heap[G]? = some (.cells #[.int .i64 id, .int .i64 ph, .slice ao L.length c] 25 (0, 0)) ∧ WF.heap[G + 1]? = some (.cells #[.int .i64 id, .int .i64 ph, .slice ao L.length c] 25 (0, 0))) := Lib.hid ⟨(oF.block _ (blk_lt RE.out) (by omega)).trans RE.out, hWF⟩
        clear hWF oF
        (refine xdone (by kernel_rfl) (YF.out) ?_)
        go_wp2_with fail
        go_meet
        exact ⟨_, _, rfl, rfl, by omega, RF2, YF, by omega, by omega⟩
      · go_simp
        (try (simp only [Act.put, List.setIfInBounds_toArray, List.set]))
        refine xone 2 (hk := Y1.out) (h := RunX.of 2 (h := ?_))
        go_simp
        (try (simp only [Act.put, List.setIfInBounds_toArray, List.set]))
        (try rw [size_alloc])
        rw [← HWC.out, ← HG.out]
        refine xone 4 (hk := YC.out) (h := RunX.of 4 (h := ?_))
        refine wp_st 25 (.tmp 7) (.tmp 49) rfl (G + 1) 0 25 #[.int .i64 0, .int .i64 0, .slice none 0 0] #[.int .i64 id, .int .i64 ph, .slice ao L.length c] #[.int .i64 id, .int .i64 ph, .slice ao L.length c] rfl rfl GD.out (by kernel_rfl) (by simp) rfl rfl ?_
        intro WE hWE oE
        simp only [Act.put]
        have YE : Hid (Ext w7 WE) := Lib.hid (ext_off YC.out oE (fun b hb => by omega))
        have GE : Hid (WE.heap[G]? = some (.cells #[.int .i64 0, .int .i64 0, .slice none 0 0] 25 (0, 0))) := Lib.hid ((oE.block _ (blk_lt GC.out) (by omega)).trans GC.out)
        have RE := Lib.hid hWE
        clear hWE oE
        refine xone 5 (hk := YE.out) (h := RunX.of 5 (h := ?_))
        refine wp_st 25 (.tmp 8) (.tmp 50) rfl (G) 0 25 #[.int .i64 0, .int .i64 0, .slice none 0 0] #[.int .i64 id, .int .i64 ph, .slice ao L.length c] #[.int .i64 id, .int .i64 ph, .slice ao L.length c] rfl rfl GE.out (by kernel_rfl) (by simp) rfl rfl ?_
        intro WF hWF oF
        simp only [Act.put]
        have YF : Hid (Ext w7 WF) := Lib.hid (ext_off YE.out oF (fun b hb => by omega))
        have RF2 : Hid (WF.heap[G + 1]? = some (.cells #[.int .i64 id, .int .i64 ph, .slice ao L.length c] 25 (0, 0)) ∧ WF.heap[G]? = some (.cells #[.int .i64 id, .int .i64 ph, .slice ao L.length c] 25 (0, 0))) := Lib.hid ⟨(oF.block _ (blk_lt RE.out) (by omega)).trans RE.out, hWF⟩
        clear hWF oF
        (refine xdone (by kernel_rfl) (YF.out) ?_)
        go_wp2_with fail
        go_meet
        exact ⟨_, _, rfl, rfl, by omega, RF2, YF, by omega, by omega⟩
    case rest =>
      obtain ⟨g7, g8, rfl, rfl, hne, HB, HXC, hg7, hg8⟩ := hcut
      have fr7 := blk_free HB.out.1 1
      have fr8 := blk_free HB.out.2 1
      have cc7 := blk_cell HB.out.1 1 rfl
      have cc8 := blk_cell HB.out.2 1 rfl
      go_upto_region 9 with (fail)
      obtain ⟨WG, hWG⟩ : ∃ WG, WG = (wc.setCell ⟨g7, 1, none⟩ (.int .i64 1)).setCell ⟨g8, 1, none⟩ (.int .i64 0) := ⟨_, rfl⟩
      have B7 : Hid (WG.heap[g7]? = some (.cells #[.int .i64 id, .int .i64 1, .slice ao L.length c] 25 (0, 0))) := Lib.hid (by rw [hWG, set_other _ _ _ _ (by show g7 ≠ g8; exact hne), blk_set HB.out.1]; rfl)
      have B8 : Hid (WG.heap[g8]? = some (.cells #[.int .i64 id, .int .i64 0, .slice ao L.length c] 25 (0, 0))) := Lib.hid (by rw [hWG, blk_set ((set_other _ _ _ _ (by show g8 ≠ g7; exact fun e => hne e.symm)).trans HB.out.2)]; rfl)
      have X8 : Hid (Ext w7 WG) := Lib.hid (hWG ▸ below_set (below_set HXC.out hg7 _) hg8 _)
      have XW : Hid (Ext W3 WG) := Lib.hid (Y6.out.trans (X7.out.trans X8.out))
      have XV : Hid (Ext W0 WG) := Lib.hid (X3.out.trans XW.out)
      rw [← hWG]
      clear hWG fr7 fr8 cc7 cc8
      obtain ⟨d0, d1, d2⟩ := cells3U (keepU D0.out XV.out)
      obtain ⟨e0, e1, e2⟩ := cells3U (keepU B3.out XW.out)
      obtain ⟨f0, f1, f2⟩ := cells3U (keepU B6.out (X7.out.trans X8.out))
      obtain ⟨h0, h1, h2⟩ := cells3U B7.out
      obtain ⟨i0, i1, i2⟩ := cells3U B8.out
      go_wp2
      go_ret
      exact ⟨rfl, X0.out.trans XV.out⟩

end Go.Proofs.Ytogbjpipkegecaa
