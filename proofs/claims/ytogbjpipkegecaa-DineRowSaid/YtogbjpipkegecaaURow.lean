/- Layer 13: a law. -/
import Derived.Test.YtogbjpipkegecaaUX
namespace Go.Proofs.Ytogbjpipkegecaa
open Go.RowKit

set_option maxRecDepth 100000 in
set_option maxHeartbeats 16000000 in
theorem dineRow_any (w : World) (id ph : Int) (ao : Option Addr) (c : Nat) (L : List Sd) (h : Sl w (.slice ao L.length c) L) :
    Calls Try.prog 9 #[.agg #[.int .i64 id, .int .i64 ph, .slice ao L.length c]] w fun e w' => e = .returned (.bool true) ∧ Ext w w' := by
  have hlen := h.length_le
  obtain ⟨W0, hW0⟩ : ∃ W0, W0 = (w.alloc (.cells #[.int .i64 id, .int .i64 ph, .slice ao L.length c] 25)) := ⟨_, rfl⟩
  have X0 : Hid (Ext w W0) := Lib.hid (hW0 ▸ ((Ext.refl w).alloc _))
  have D0 : Hid (W0.heap[w.heap.size]? = some (.cells #[.int .i64 id, .int .i64 ph, .slice ao L.length c] 25 (0, 0))) := Lib.hid (hW0 ▸ at0 w _)
  have HW0 := Lib.hid hW0
  have HS := Lib.hid (h.ext X0.out)
  clear h hW0
  have hl63 := hlen
  obtain ⟨d0, d1, d2⟩ := cells3U D0.out
  by_cases h70 : (70 : Int) < (L.length : Int)
  · clear hl63
    go_enter Try.func9, Try.ntmps9
    go_upto_region 1 with (fail)
    rw [← HW0.out]
    go_wp2_with (first
      | (go_at_call 10; have hgd := XA; refine (awake_any _).mono ?_; rintro e wb ⟨rfl, hx⟩; have XB : Hid (Ext W0 wb) := Lib.hid (XA.out.trans hx); clear hx hgd)
      | (go_at_call 10; refine (awake_any _).mono ?_; rintro e wa ⟨rfl, hx⟩; have XA : Hid (Ext W0 wa) := Lib.hid hx; clear d0 d1 d2; obtain ⟨d0, d1, d2⟩ := cells3U (keepU D0.out hx); clear hx))
    go_ret
    exact ⟨rfl, X0.out.trans XB.out⟩
  have hL : L.length ≤ 1000 := by omega
  clear hl63
  obtain ⟨⟨⟨i, p, M⟩, l, er⟩, hr⟩ : ∃ r, fireR ⟨id, ph, L⟩ = r := ⟨_, rfl⟩
  have HR := Lib.hid hr
  have HROW : Hid (l.Pairwise mlB ∧ (er == 0 || ((l.length : Int) == 0)) = true) := Lib.hid (by
    unfold fireR at hr
    cases ht : dnOk ⟨id, ph, L⟩
    · rw [if_neg (by rw [ht]; simp)] at hr
      simp only [Prod.mk.injEq] at hr
      obtain ⟨_, rfl, rfl⟩ := hr
      exact ⟨List.Pairwise.nil, rfl⟩
    · rw [if_pos ht] at hr
      simp only [Prod.mk.injEq] at hr
      obtain ⟨_, rfl, rfl⟩ := hr
      unfold dnOk at ht
      rw [Bool.and_eq_true] at ht
      exact ⟨fireMs_row ht.2, rfl⟩)
  clear hr
  go_enter Try.func9, Try.ntmps9
  go_upto_region 1 with (fail)
  rw [← HW0.out]
  go_upto_region 3 with (first
    | (go_at_call 10; refine (awake_any _).mono ?_; rintro e wa ⟨rfl, hx⟩; have XA : Hid (Ext W0 wa) := Lib.hid hx; clear d0 d1 d2; obtain ⟨d0, d1, d2⟩ := cells3U (keepU D0.out hx); clear hx))
  go_upto_region 4 with (first
    | (go_at_call 12; refine (ownL_any _ id ph _ L (HS.out.ext XA.out) hL).mono ?_; rintro e w1 ⟨a1, c1, rfl, s1, x1⟩; have S1 := Lib.hid s1; have X1 : Hid (Ext W0 w1) := Lib.hid (XA.out.trans x1); clear s1 x1)
    | (go_at_call 11; refine (fire_any _ id ph _ L S1.out hL).mono ?_; intro e w2 hge; obtain ⟨a2, k2, b2, q2, rfl, s2, l2, x2⟩ := givesF_spec hge HR.out; have S2 := Lib.hid s2; have L2 := Lib.hid l2; have X2 : Hid (Ext W0 w2) := Lib.hid (X1.out.trans x2); clear hge s2 l2 x2))
  obtain ⟨g3, hg3⟩ : ∃ g3, g3 = w2.heap.size := ⟨_, rfl⟩
  obtain ⟨W3, hW3⟩ : ∃ W3, W3 = w2.alloc (.cells #[.int .i64 i, .int .i64 p, .slice a2 M.length k2] 25) := ⟨_, rfl⟩
  have X3 : Hid (Ext W0 W3) := Lib.hid (hW3 ▸ X2.out.alloc _)
  have B3 : Hid (W3.heap[g3]? = some (.cells #[.int .i64 i, .int .i64 p, .slice a2 M.length k2] 25 (0, 0))) := Lib.hid (by rw [hW3, hg3]; exact at0 w2 _)
  have S3 : Hid (Sl W3 (.slice a2 M.length k2) M) := Lib.hid (hW3 ▸ S2.out.alloc _)
  have L3 : Hid (Sl W3 (.slice b2 l.length q2) l) := Lib.hid (hW3 ▸ L2.out.alloc _)
  rw [← hW3, ← hg3]
  clear hW3 hg3 d0 d1 d2 S2 X2 S1 X1 L2
  have hll := L3.out.length_le
  go_wp2
  go_loopw [6] (fun i wr => ∃ k : Nat, 1 ≤ k ∧ (k ≤ l.length ∨ k = 1) ∧ i = .int .i64 k ∧ Hid (Ext W3 wr)) (fun i _ => l.length - (intOf i).toNat)
  case atStart => exact ⟨1, Nat.le_refl _, .inr rfl, rfl, Lib.hid (Ext.refl _)⟩
  case round =>
    obtain ⟨k, hk1, hk, rfl, HX⟩ := hrel
    by_cases hlt : k < l.length
    · obtain ⟨j, rfl⟩ : ∃ j, k = j + 1 := ⟨k - 1, by omega⟩
      obtain ⟨b1, off, a, hay, haj, rfl, hn, hnc, hc63, hb, hca⟩ := L3.out.mailAt (k := j) (by omega)
      obtain ⟨b1', off', b, hby, hbj, hao', hn', hnc', hc63', hb', hcb⟩ := L3.out.mailAt (k := j + 1) hlt
      simp only [Option.some.injEq, Addr.mk.injEq, and_true] at hao'
      obtain ⟨rfl, rfl⟩ := hao'
      have HB : Hid (mlB a b) := Lib.hid (row_at HROW.out.1 haj hbj)
      have HCA := Lib.hid hca
      have HCB := Lib.hid hcb
      have hwj : IntKind.i64.wrap (((j + 1 : Nat) : Int) - 1) = (j : Int) := by rw [wrapN _ (by omega) (by omega)]; omega
      have hwj2 : IntKind.i64.wrap ((j : Int) + 1 - 1) = (j : Int) := by rw [wrapN _ (by omega) (by omega)]; omega
      have hwj3 : IntKind.i64.wrap (j : Int) = (j : Int) := wrapN _ (by omega) (by omega)
      have hjl : j < l.length := by omega
      have hj1 : (0 : Int) ≤ (j : Int) + 1 := by omega
      clear hay haj hn hca hby hbj hn' hcb hnc' hc63' hb'
      obtain ⟨y0, y1, y2, y3, y4⟩ := a
      obtain ⟨z0, z1, z2, z3, z4⟩ := b
      dsimp only at HCA HCB
      go_upto_region 7 with (fail)
      go_cut [7, 8] (fun s7 s8 wx => ∃ g7 g8, s7 = .pointer (some ⟨g7, 0, none⟩) ∧ s8 = .pointer (some ⟨g8, 0, none⟩) ∧ g7 ≠ g8 ∧ Hid (wx.heap[g7]? = some (.cells #[.int .i64 y0, .int .i64 y1, .int .i64 y2, .int .i64 y3, .int .i64 y4] 49 (0, 0)) ∧ wx.heap[g8]? = some (.cells #[.int .i64 z0, .int .i64 z1, .int .i64 z2, .int .i64 z3, .int .i64 z4] 49 (0, 0))) ∧ Hid (Ext wr wx) ∧ wr.heap.size ≤ g7 ∧ wr.heap.size ≤ g8)
      case first =>
        (refine wp_region_X_lit (K := fun V => Ext wr V) (by kernel_rfl) (fun w1 hw1 => ?_))
        have HV1 : Hid (Ext wr w1) := Lib.hid hw1
        clear hw1
        refine xtv 0 (h := ?_)
        refine xtv 1 (h := ?_)
        refine xtv 2 (h := ?_)
        refine xtv 3 (h := ?_)
        refine xtv 4 (hv := by intro w' hw'; obtain ⟨⟨q0, q1⟩, q2, q3, q4⟩ := HCA.out w' (HX.out.trans hw'); go_simp; first | done | with_reducible rfl) (h := ?_)
        refine xtv 5 (h := ?_)
        refine xtv 6 (h := ?_)
        refine xtv 7 (h := ?_)
        refine xtv 8 (hv := by intro w' hw'; obtain ⟨⟨q0, q1⟩, q2, q3, q4⟩ := HCB.out w' (HX.out.trans hw'); go_simp; first | done | with_reducible rfl) (h := ?_)
        obtain ⟨G, hG⟩ : ∃ G, G = w1.heap.size := ⟨_, rfl⟩
        obtain ⟨WC, hWC⟩ : ∃ WC, WC = (w1.alloc (.cells #[.int .i64 0, .int .i64 0, .int .i64 0, .int .i64 0, .int .i64 0] 49)).alloc (.cells #[.int .i64 0, .int .i64 0, .int .i64 0, .int .i64 0, .int .i64 0] 49) := ⟨_, rfl⟩
        have YC : Hid (Ext wr WC) := Lib.hid (hWC ▸ (HV1.out.alloc _).alloc _)
        have Y1 : Hid (Ext wr (w1.alloc (.cells #[.int .i64 0, .int .i64 0, .int .i64 0, .int .i64 0, .int .i64 0] 49))) := Lib.hid (HV1.out.alloc _)
        have GC : Hid (WC.heap[G]? = some (.cells #[.int .i64 0, .int .i64 0, .int .i64 0, .int .i64 0, .int .i64 0] 49 (0, 0))) := Lib.hid (by rw [hWC, hG]; exact old1 (at0 w1 _) _)
        have GD : Hid (WC.heap[G + 1]? = some (.cells #[.int .i64 0, .int .i64 0, .int .i64 0, .int .i64 0, .int .i64 0] 49 (0, 0))) := Lib.hid (by rw [hWC, hG]; exact at1 w1 _ _)
        have hGl : wr.heap.size ≤ G := by have := Below.size HV1.out; omega
        have HWC := Lib.hid hWC
        have HG := Lib.hid hG
        clear hG hWC
        refine xtwo 9 10 (hk := HV1.out) (h := RunX.of 9 (h := ?_)) (h' := RunX.of 10 (h := ?_))
        · go_simp
          (try (simp only [Act.put, List.setIfInBounds_toArray, List.set]))
          refine xone 10 (hk := Y1.out) (h := RunX.of 10 (h := ?_))
          go_simp
          (try (simp only [Act.put, List.setIfInBounds_toArray, List.set]))
          (try rw [size_alloc])
          rw [← HWC.out, ← HG.out]
          refine xone 11 (hk := YC.out) (h := RunX.of 11 (h := ?_))
          refine wp_st 49 (.tmp 7) (.tmp 35) rfl (G) 0 49 #[.int .i64 0, .int .i64 0, .int .i64 0, .int .i64 0, .int .i64 0] #[.int .i64 y0, .int .i64 y1, .int .i64 y2, .int .i64 y3, .int .i64 y4] #[.int .i64 y0, .int .i64 y1, .int .i64 y2, .int .i64 y3, .int .i64 y4] rfl rfl GC.out (by kernel_rfl) (by simp) rfl rfl ?_
          intro WE hWE oE
          simp only [Act.put]
          have YE : Hid (Ext wr WE) := Lib.hid (ext_off YC.out oE (fun b hb => by omega))
          have GE : Hid (WE.heap[G + 1]? = some (.cells #[.int .i64 0, .int .i64 0, .int .i64 0, .int .i64 0, .int .i64 0] 49 (0, 0))) := Lib.hid ((oE.block _ (blk_lt GD.out) (by omega)).trans GD.out)
          have RE := Lib.hid hWE
          clear hWE oE
          refine xone 12 (hk := YE.out) (h := RunX.of 12 (h := ?_))
          refine wp_st 49 (.tmp 8) (.tmp 39) rfl (G + 1) 0 49 #[.int .i64 0, .int .i64 0, .int .i64 0, .int .i64 0, .int .i64 0] #[.int .i64 z0, .int .i64 z1, .int .i64 z2, .int .i64 z3, .int .i64 z4] #[.int .i64 z0, .int .i64 z1, .int .i64 z2, .int .i64 z3, .int .i64 z4] rfl rfl GE.out (by kernel_rfl) (by simp) rfl rfl ?_
          intro WF hWF oF
          simp only [Act.put]
          have YF : Hid (Ext wr WF) := Lib.hid (ext_off YE.out oF (fun b hb => by omega))
          have RF2 : Hid (WF.heap[G]? = some (.cells #[.int .i64 y0, .int .i64 y1, .int .i64 y2, .int .i64 y3, .int .i64 y4] 49 (0, 0)) ∧ WF.heap[G + 1]? = some (.cells #[.int .i64 z0, .int .i64 z1, .int .i64 z2, .int .i64 z3, .int .i64 z4] 49 (0, 0))) := Lib.hid ⟨(oF.block _ (blk_lt RE.out) (by omega)).trans RE.out, hWF⟩
          clear hWF oF
          (refine xdone (by kernel_rfl) (YF.out) ?_)
          go_wp2_with fail
          go_meet
          exact ⟨_, _, rfl, rfl, by omega, RF2, YF, by omega, by omega⟩
        · go_simp
          (try (simp only [Act.put, List.setIfInBounds_toArray, List.set]))
          refine xone 9 (hk := Y1.out) (h := RunX.of 9 (h := ?_))
          go_simp
          (try (simp only [Act.put, List.setIfInBounds_toArray, List.set]))
          (try rw [size_alloc])
          rw [← HWC.out, ← HG.out]
          refine xone 11 (hk := YC.out) (h := RunX.of 11 (h := ?_))
          refine wp_st 49 (.tmp 7) (.tmp 35) rfl (G + 1) 0 49 #[.int .i64 0, .int .i64 0, .int .i64 0, .int .i64 0, .int .i64 0] #[.int .i64 y0, .int .i64 y1, .int .i64 y2, .int .i64 y3, .int .i64 y4] #[.int .i64 y0, .int .i64 y1, .int .i64 y2, .int .i64 y3, .int .i64 y4] rfl rfl GD.out (by kernel_rfl) (by simp) rfl rfl ?_
          intro WE hWE oE
          simp only [Act.put]
          have YE : Hid (Ext wr WE) := Lib.hid (ext_off YC.out oE (fun b hb => by omega))
          have GE : Hid (WE.heap[G]? = some (.cells #[.int .i64 0, .int .i64 0, .int .i64 0, .int .i64 0, .int .i64 0] 49 (0, 0))) := Lib.hid ((oE.block _ (blk_lt GC.out) (by omega)).trans GC.out)
          have RE := Lib.hid hWE
          clear hWE oE
          refine xone 12 (hk := YE.out) (h := RunX.of 12 (h := ?_))
          refine wp_st 49 (.tmp 8) (.tmp 39) rfl (G) 0 49 #[.int .i64 0, .int .i64 0, .int .i64 0, .int .i64 0, .int .i64 0] #[.int .i64 z0, .int .i64 z1, .int .i64 z2, .int .i64 z3, .int .i64 z4] #[.int .i64 z0, .int .i64 z1, .int .i64 z2, .int .i64 z3, .int .i64 z4] rfl rfl GE.out (by kernel_rfl) (by simp) rfl rfl ?_
          intro WF hWF oF
          simp only [Act.put]
          have YF : Hid (Ext wr WF) := Lib.hid (ext_off YE.out oF (fun b hb => by omega))
          have RF2 : Hid (WF.heap[G + 1]? = some (.cells #[.int .i64 y0, .int .i64 y1, .int .i64 y2, .int .i64 y3, .int .i64 y4] 49 (0, 0)) ∧ WF.heap[G]? = some (.cells #[.int .i64 z0, .int .i64 z1, .int .i64 z2, .int .i64 z3, .int .i64 z4] 49 (0, 0))) := Lib.hid ⟨(oF.block _ (blk_lt RE.out) (by omega)).trans RE.out, hWF⟩
          clear hWF oF
          (refine xdone (by kernel_rfl) (YF.out) ?_)
          go_wp2_with fail
          go_meet
          exact ⟨_, _, rfl, rfl, by omega, RF2, YF, by omega, by omega⟩
      case rest =>
        obtain ⟨g7, g8, rfl, rfl, hne, HBX, HXC, hg7, hg8⟩ := hcut
        have X7 : Hid (Ext W3 wc) := Lib.hid (HX.out.trans HXC.out)
        have u1 := blk_cell HBX.out.1 1 rfl
        have u2 := blk_cell HBX.out.1 2 rfl
        have v1 := blk_cell HBX.out.2 1 rfl
        have v2 := blk_cell HBX.out.2 2 rfl
        rcases HB.out with hlt2 | ⟨rfl, rfl, rfl⟩
        · have hlt2 : y1 < z1 := hlt2
          have t1 : ¬ (z1 < y1) := by omega
          have t2 : (y1 == z1) = false := by simp; omega
          clear hlt2
          go_wp2
          go_roundw
          case rel => exact ⟨j + 1 + 1, by omega, .inl (by omega), by go_num, X7⟩
          case measure => simp [intOf]; omega
        · have t1 : ¬ (y1 < y1) := by omega
          go_wp2
          go_roundw
          case rel => exact ⟨j + 1 + 1, by omega, .inl (by omega), by go_num, X7⟩
          case measure => simp [intOf]; omega
    · have XF : Hid (Ext w wr) := Lib.hid (X0.out.trans (X3.out.trans HX.out))
      have hq := HROW.out.2
      obtain ⟨qa, hqa⟩ : ∃ qa, (er == 0) = qa := ⟨_, rfl⟩
      obtain ⟨qb, hqb⟩ : ∃ qb, ((l.length : Int) == 0) = qb := ⟨_, rfl⟩
      rw [hqa, hqb] at hq
      have hge : ¬ ((k : Int) < (l.length : Int)) := by omega
      cases qa
      · cases qb
        · cases hq
        · go_wp2
          go_ret
          exact ⟨rfl, XF.out⟩
      · go_wp2
        go_ret
        exact ⟨rfl, XF.out⟩

end Go.Proofs.Ytogbjpipkegecaa
