/- Texts of this seat. -/
import Derived.Test.YtfbambemjokmgaaGreatNAY
import Derived.Test.YtfbambemjokmgaaGreatNBJ
namespace Go.Proofs.YtfbambemjokmgaaGreat
open Go.RowKit
set_option maxRecDepth 100000 in
set_option maxHeartbeats 16000000 in
theorem endsB_any (w : World) (vd vm : Value) (L : List Dk) (M : List Ml) (h : BV w vd vm L M) (A B : Nat) (iA pA tA iB pB tB : Int) (SA SB : List Sd) (NA NB : List Int) (hA : L[A]? = some ⟨iA, pA, SA, tA, NA⟩) (hB : L[B]? = some ⟨iB, pB, SB, tB, NB⟩) (hne : A ≠ B) (x y : Sd) (hx : sideR SA B = (x, true)) (hy : sideR SB A = (y, true)) (he : x.epoch = y.epoch) :
    Calls Tryz.prog 65 #[.agg #[vd, vm], .agg #[.int .i64 A, .int .i64 B]] w fun e w' => e = .returned (.tuple #[.agg x.cs, .agg y.cs, .bool true]) ∧ Ext w w' := by
  have hAL := (List.getElem?_eq_some_iff.1 hA).1
  have hBL := (List.getElem?_eq_some_iff.1 hB).1
  obtain ⟨ao, c, bo, d, rfl, rfl⟩ := h.len
  obtain ⟨W0, hW0⟩ : ∃ W0, W0 = (((w.alloc (.cells #[.slice ao L.length c, .slice bo M.length d] 25)).alloc (.cells #[.int .i64 A, .int .i64 B] 30)).alloc (.cells #[.int .i64 0, .int .i64 0, .int .i64 0, .bool false, .bool false, .bool false, .bool false, .bool false] 66)).alloc (.cells #[.int .i64 0, .int .i64 0, .int .i64 0, .bool false, .bool false, .bool false, .bool false, .bool false] 66) := ⟨_, rfl⟩
  have X0 : Hid (Ext w W0) := Lib.hid (hW0 ▸ ((((Ext.refl w).alloc _).alloc _).alloc _).alloc _)
  have B0 : Hid (W0.heap[w.heap.size]? = some (.cells #[.slice ao L.length c, .slice bo M.length d] 25 (0, 0))) := Lib.hid (hW0 ▸ old1 (old1 (old1 (at0 w _) _) _) _)
  have D0 : Hid (W0.heap[w.heap.size + 1]? = some (.cells #[.int .i64 A, .int .i64 B] 30 (0, 0))) := Lib.hid (hW0 ▸ old1 (old1 (at1 w _ _) _) _)
  have E40 : Hid (W0.heap[w.heap.size + 2]? = some (.cells #[.int .i64 0, .int .i64 0, .int .i64 0, .bool false, .bool false, .bool false, .bool false, .bool false] 66 (0, 0))) := Lib.hid (hW0 ▸ old1 (at2 w _ _ _) _)
  have E50 : Hid (W0.heap[w.heap.size + 3]? = some (.cells #[.int .i64 0, .int .i64 0, .int .i64 0, .bool false, .bool false, .bool false, .bool false, .bool false] 66 (0, 0))) := Lib.hid (hW0 ▸ at3 w _ _ _ _)
  have HS0 : Hid (W0.heap.size = w.heap.size + 4) := Lib.hid (by rw [hW0, size_alloc, size_alloc, size_alloc, size_alloc])
  have HW0 := Lib.hid hW0
  have HV := Lib.hid (h.ext X0.out)
  have HSC : Hid (∀ V, Ext W0 V → V.cell? ⟨w.heap.size, 0, none⟩ = some (.slice ao L.length c) ∧ V.cell? ⟨w.heap.size, 1, none⟩ = some (.slice bo M.length d)) := Lib.hid fun V hV => cells2S (keepU B0.out hV)
  have HED : Hid (∀ V, Ext W0 V → V.cell? ⟨w.heap.size + 1, 0, none⟩ = some (.int .i64 (A : Int)) ∧ V.cell? ⟨w.heap.size + 1, 1, none⟩ = some (.int .i64 (B : Int))) := Lib.hid fun V hV => cells2S (keepU D0.out hV)
  obtain ⟨bA, oA, soA, scA, noA, ncA, dA, hykA, hao, _, hnc, hc63, hbA, hslA, hnlA, hcellA⟩ := HV.out.ds.drinkerAt hAL
  obtain ⟨bB, oB, soB, scB, noB_, ncB, dB, hykB, hao2, _, _, _, hbB, hslB, hnlB, hcellB⟩ := HV.out.ds.drinkerAt hBL
  obtain rfl : dA = ⟨iA, pA, SA, tA, NA⟩ := by have := hykA.symm.trans hA; simpa using this
  obtain rfl : dB = ⟨iB, pB, SB, tB, NB⟩ := by have := hykB.symm.trans hB; simpa using this
  subst hao
  obtain ⟨rfl, rfl⟩ : bA = bB ∧ oA = oB := by simpa using hao2
  dsimp only at hslA hslB hcellA hcellB
  have HDA := Lib.hid hcellA
  have HDB := Lib.hid hcellB
  have HSA := Lib.hid hslA.sl
  have HSB := Lib.hid hslB.sl
  have Hx := Lib.hid hx
  have Hy := Lib.hid hy
  have hAi : (A : Int) < (L.length : Int) := by omega
  have hBi : (B : Int) < (L.length : Int) := by omega
  have hab : ((A : Int) == (B : Int)) = false := by simp; omega
  obtain ⟨x0, x1, x2, x3, x4, x5, x6, x7⟩ := x
  obtain ⟨y0, y1, y2, y3, y4, y5, y6, y7⟩ := y
  unfold Sd.cs
  dsimp only at he ⊢
  have hep : (x1 == y1) = true := by simp [he]
  obtain ⟨k0, k1⟩ := HSC.out W0 (Ext.refl _)
  obtain ⟨k2, k3⟩ := HED.out W0 (Ext.refl _)
  clear h hW0 hA hB hx hy he hne hykA hykB hao2 hslA hslB hcellA hcellB
  go_enter Tryz.func65, Tryz.ntmps65
  go_upto_region 1 with (fail)
  rw [← HW0.out]
  go_upto_region 3 with (first
    | (have hgd := Xa; go_at_call 115; refine (hasB_any wa _ _ L M (B : Int) (HV.out.ext Xa.out) true (hasK_iff.2 ⟨by omega, hBi⟩)).mono ?_; rintro e wb ⟨rfl, hx⟩; have Xb := Lib.hid (Xa.out.trans hx); clear hx)
    | (go_at_call 115; refine (hasB_any W0 _ _ L M (A : Int) HV.out true (hasK_iff.2 ⟨by omega, hAi⟩)).mono ?_; rintro e wa ⟨rfl, hx⟩; have Xa := Lib.hid hx; obtain ⟨j0, j1⟩ := HSC.out wa hx; obtain ⟨j2, j3⟩ := HED.out wa hx; clear hx))
  clear k0 k1 k2 k3 j0 j1 j2 j3 hab
  go_upto_region 3 with (fail)
  go_cut [7, 8] (fun s1 s2 wx => ∃ g, s1 = .pointer (some ⟨g, 0, none⟩) ∧ s2 = .bool true ∧ Hid (wx.heap[g]? = some (.cells #[.int .i64 x0, .int .i64 x1, .int .i64 x2, .bool x3, .bool x4, .bool x5, .bool x6, .bool x7] 66 (0, 0))) ∧ Hid (Ext wb wx) ∧ wb.heap.size ≤ g)
  case first =>
    have p0 : W0.heap.size ≤ wb.heap.size := Below.size Xb.out
    go_wp2_with fail
    (refine wp_region_X_lit (K := fun V => Ext W0 V) (by kernel_rfl) (fun w1 hw1 => ?_))
    have pp := Lib.hid hw1
    have p1 : Hid (Ext W0 w1) := Lib.hid (Xb.out.trans hw1)
    clear hw1
    refine xtv 0 (h := ?_)
    refine xtv 1 (hv := by intro w' hw'; have hc := (HSC.out w' hw').1; go_simp; first | done | with_reducible rfl) (h := ?_)
    refine xtv 2 (h := ?_)
    refine xtv 3 (hv := by intro w' hw'; have hc := (HED.out w' hw').1; go_simp; first | done | with_reducible rfl) (h := ?_)
    refine xtv 4 (hv := by intro w' hw'; have hz := hAL; have hz2 := hAi; go_simp; first | done | with_reducible rfl) (h := ?_)
    refine xtv 5 (h := ?_)
    refine xtv 6 (hv := by intro w' hw'; obtain ⟨⟨c0, c1, c2⟩, c3, c4⟩ := HDA.out w' hw'; go_simp; first | done | with_reducible rfl) (h := ?_)
    refine xtv 7 (h := ?_)
    refine xtv 8 (hv := by intro w' hw'; have hc := (HED.out w' hw').2; go_simp; first | done | with_reducible rfl) (h := ?_)
    refine xtwo 9 13 (hk := p1.out) (h := RunX.of 9 (h := ?_)) (h' := RunX.of 13 (h := ?_))
    · go_simp
      refine (pSide_any w1 _ _ _ _ _ (HSA.out.ext p1.out) _ _ Hx.out).mono ?_
      rintro e6 w6 ⟨rfl, x6⟩
      have p6 : Hid (Ext W0 w6) := Lib.hid (Ext.trans p1.out x6)
      have pr : Hid (Ext wb w6) := Lib.hid (Ext.trans pp.out x6)
      clear x6
      dsimp only
      (try (simp only [Act.put, List.setIfInBounds_toArray, List.set]))
      refine xtv 10 (h := ?_)
      refine xtv 11 (h := ?_)
      refine xtv 12 (h := ?_)
      refine xone 13 (hk := p6.out) (h := RunX.of 13 (h := ?_))
      go_simp
      (try (simp only [Act.put, List.setIfInBounds_toArray, List.set]))
      obtain ⟨gx, hgx⟩ : ∃ g, g = w6.heap.size := ⟨_, rfl⟩
      obtain ⟨W7, hW7⟩ : ∃ W7, W7 = w6.alloc (.cells #[.int .i64 0, .int .i64 0, .int .i64 0, .bool false, .bool false, .bool false, .bool false, .bool false] 66) := ⟨_, rfl⟩
      have B7 : Hid (W7.heap[gx]? = some (.cells #[.int .i64 0, .int .i64 0, .int .i64 0, .bool false, .bool false, .bool false, .bool false, .bool false] 66 (0, 0))) := Lib.hid (hW7 ▸ hgx ▸ at0 w6 _)
      have Y7 : Hid (Ext W0 W7) := Lib.hid (hW7 ▸ p6.out.alloc _)
      have Z7 : Hid (Ext wb W7) := Lib.hid (hW7 ▸ pr.out.alloc _)
      have pg : wb.heap.size ≤ gx := hgx ▸ Below.size pr.out
      rw [← hW7, ← hgx]
      clear hW7 hgx
      refine xone 14 (hk := Y7.out) (h := RunX.of 14 (h := ?_))
      refine wp_st 66 (.tmp 7) (.tmp 43) rfl gx 0 66 #[.int .i64 0, .int .i64 0, .int .i64 0, .bool false, .bool false, .bool false, .bool false, .bool false] #[.int .i64 x0, .int .i64 x1, .int .i64 x2, .bool x3, .bool x4, .bool x5, .bool x6, .bool x7] #[.int .i64 x0, .int .i64 x1, .int .i64 x2, .bool x3, .bool x4, .bool x5, .bool x6, .bool x7] rfl rfl B7.out (by kernel_rfl) (by simp) rfl rfl ?_
      intro WB hWB oB
      simp only [Act.put]
      have YB : Hid (Ext W0 WB) := Lib.hid (ext_off Y7.out oB (fun b hb => by omega))
      have ZB : Hid (Ext wb WB) := Lib.hid (ext_off Z7.out oB (fun b hb => by omega))
      have RB := Lib.hid hWB
      clear hWB oB
      refine xtv 15 (h := ?_)
      (refine xdone (by kernel_rfl) (YB.out) ?_)
      go_wp2_with fail
      go_meet
      exact ⟨_, rfl, rfl, RB, ZB, pg⟩
    · go_simp
      (try (simp only [Act.put, List.setIfInBounds_toArray, List.set]))
      obtain ⟨gx, hgx⟩ : ∃ g, g = w1.heap.size := ⟨_, rfl⟩
      obtain ⟨W7, hW7⟩ : ∃ W7, W7 = w1.alloc (.cells #[.int .i64 0, .int .i64 0, .int .i64 0, .bool false, .bool false, .bool false, .bool false, .bool false] 66) := ⟨_, rfl⟩
      have B7 : Hid (W7.heap[gx]? = some (.cells #[.int .i64 0, .int .i64 0, .int .i64 0, .bool false, .bool false, .bool false, .bool false, .bool false] 66 (0, 0))) := Lib.hid (hW7 ▸ hgx ▸ at0 w1 _)
      have Y7 : Hid (Ext W0 W7) := Lib.hid (hW7 ▸ p1.out.alloc _)
      have Z7 : Hid (Ext wb W7) := Lib.hid (hW7 ▸ pp.out.alloc _)
      have pg : wb.heap.size ≤ gx := hgx ▸ Below.size pp.out
      rw [← hW7, ← hgx]
      clear hW7 hgx
      refine xone 9 (hk := Y7.out) (h := RunX.of 9 (h := ?_))
      go_simp
      refine (pSide_any W7 _ _ _ _ _ (HSA.out.ext Y7.out) _ _ Hx.out).mono ?_
      rintro e6 w6 ⟨rfl, x6⟩
      have Y6 : Hid (Ext W0 w6) := Lib.hid (Ext.trans Y7.out x6)
      have Z6 : Hid (Ext wb w6) := Lib.hid (Ext.trans Z7.out x6)
      have B6 := Lib.hid (keepU B7.out x6)
      clear x6
      dsimp only
      (try (simp only [Act.put, List.setIfInBounds_toArray, List.set]))
      refine xtv 10 (h := ?_)
      refine xtv 11 (h := ?_)
      refine xtv 12 (h := ?_)
      refine xone 14 (hk := Y6.out) (h := RunX.of 14 (h := ?_))
      refine wp_st 66 (.tmp 7) (.tmp 43) rfl gx 0 66 #[.int .i64 0, .int .i64 0, .int .i64 0, .bool false, .bool false, .bool false, .bool false, .bool false] #[.int .i64 x0, .int .i64 x1, .int .i64 x2, .bool x3, .bool x4, .bool x5, .bool x6, .bool x7] #[.int .i64 x0, .int .i64 x1, .int .i64 x2, .bool x3, .bool x4, .bool x5, .bool x6, .bool x7] rfl rfl B6.out (by kernel_rfl) (by simp) rfl rfl ?_
      intro WB hWB oB
      simp only [Act.put]
      have YB : Hid (Ext W0 WB) := Lib.hid (ext_off Y6.out oB (fun b hb => by omega))
      have ZB : Hid (Ext wb WB) := Lib.hid (ext_off Z6.out oB (fun b hb => by omega))
      have RB := Lib.hid hWB
      clear hWB oB
      refine xtv 15 (h := ?_)
      (refine xdone (by kernel_rfl) (YB.out) ?_)
      go_wp2_with fail
      go_meet
      exact ⟨_, rfl, rfl, RB, ZB, pg⟩
  case rest =>
  obtain ⟨gx, rfl, rfl, pB, pX, pG⟩ := hcut
  obtain ⟨W3, hW3⟩ : ∃ W3, W3 = wc := ⟨_, rfl⟩
  rw [← hW3] at pB pX ⊢
  clear hW3
  have XW3 : Hid (Ext W0 W3) := Lib.hid (Xb.out.trans pX.out)
  go_upto_region 4 with (fail)
  go_cut [9, 10] (fun s1 s2 wx => ∃ g, s1 = .pointer (some ⟨g, 0, none⟩) ∧ s2 = .bool true ∧ Hid (wx.heap[g]? = some (.cells #[.int .i64 y0, .int .i64 y1, .int .i64 y2, .bool y3, .bool y4, .bool y5, .bool y6, .bool y7] 66 (0, 0))) ∧ Hid (Ext W3 wx) ∧ W3.heap.size ≤ g)
  case first =>
    have q0 : W0.heap.size ≤ W3.heap.size := Below.size XW3.out
    go_wp2_with fail
    (refine wp_region_X_lit (K := fun V => Ext W0 V) (by kernel_rfl) (fun w1 hw1 => ?_))
    have qp := Lib.hid hw1
    have q1 : Hid (Ext W0 w1) := Lib.hid (XW3.out.trans hw1)
    clear hw1
    refine xtv 0 (h := ?_)
    refine xtv 1 (hv := by intro w' hw'; have hc := (HSC.out w' hw').1; go_simp; first | done | with_reducible rfl) (h := ?_)
    refine xtv 2 (h := ?_)
    refine xtv 3 (hv := by intro w' hw'; have hc := (HED.out w' hw').2; go_simp; first | done | with_reducible rfl) (h := ?_)
    refine xtv 4 (hv := by intro w' hw'; have hz := hBL; have hz2 := hBi; go_simp; first | done | with_reducible rfl) (h := ?_)
    refine xtv 5 (h := ?_)
    refine xtv 6 (hv := by intro w' hw'; obtain ⟨⟨c0, c1, c2⟩, c3, c4⟩ := HDB.out w' hw'; go_simp; first | done | with_reducible rfl) (h := ?_)
    refine xtv 7 (h := ?_)
    refine xtv 8 (hv := by intro w' hw'; have hc := (HED.out w' hw').1; go_simp; first | done | with_reducible rfl) (h := ?_)
    refine xtwo 9 13 (hk := q1.out) (h := RunX.of 9 (h := ?_)) (h' := RunX.of 13 (h := ?_))
    · go_simp
      refine (pSide_any w1 _ _ _ _ _ (HSB.out.ext q1.out) _ _ Hy.out).mono ?_
      rintro e6 w6 ⟨rfl, x6⟩
      have q6 : Hid (Ext W0 w6) := Lib.hid (Ext.trans q1.out x6)
      have qr : Hid (Ext W3 w6) := Lib.hid (Ext.trans qp.out x6)
      clear x6
      dsimp only
      (try (simp only [Act.put, List.setIfInBounds_toArray, List.set]))
      refine xtv 10 (h := ?_)
      refine xtv 11 (h := ?_)
      refine xtv 12 (h := ?_)
      refine xone 13 (hk := q6.out) (h := RunX.of 13 (h := ?_))
      go_simp
      (try (simp only [Act.put, List.setIfInBounds_toArray, List.set]))
      obtain ⟨gy, hgy⟩ : ∃ g, g = w6.heap.size := ⟨_, rfl⟩
      obtain ⟨W7, hW7⟩ : ∃ W7, W7 = w6.alloc (.cells #[.int .i64 0, .int .i64 0, .int .i64 0, .bool false, .bool false, .bool false, .bool false, .bool false] 66) := ⟨_, rfl⟩
      have B7 : Hid (W7.heap[gy]? = some (.cells #[.int .i64 0, .int .i64 0, .int .i64 0, .bool false, .bool false, .bool false, .bool false, .bool false] 66 (0, 0))) := Lib.hid (hW7 ▸ hgy ▸ at0 w6 _)
      have Y7 : Hid (Ext W0 W7) := Lib.hid (hW7 ▸ q6.out.alloc _)
      have Z7 : Hid (Ext W3 W7) := Lib.hid (hW7 ▸ qr.out.alloc _)
      have qg : W3.heap.size ≤ gy := hgy ▸ Below.size qr.out
      rw [← hW7, ← hgy]
      clear hW7 hgy
      refine xone 14 (hk := Y7.out) (h := RunX.of 14 (h := ?_))
      refine wp_st 66 (.tmp 9) (.tmp 56) rfl gy 0 66 #[.int .i64 0, .int .i64 0, .int .i64 0, .bool false, .bool false, .bool false, .bool false, .bool false] #[.int .i64 y0, .int .i64 y1, .int .i64 y2, .bool y3, .bool y4, .bool y5, .bool y6, .bool y7] #[.int .i64 y0, .int .i64 y1, .int .i64 y2, .bool y3, .bool y4, .bool y5, .bool y6, .bool y7] rfl rfl B7.out (by kernel_rfl) (by simp) rfl rfl ?_
      intro WB hWB oB
      simp only [Act.put]
      have YB : Hid (Ext W0 WB) := Lib.hid (ext_off Y7.out oB (fun b hb => by omega))
      have ZB : Hid (Ext W3 WB) := Lib.hid (ext_off Z7.out oB (fun b hb => by omega))
      have RB := Lib.hid hWB
      clear hWB oB
      refine xtv 15 (h := ?_)
      (refine xdone (by kernel_rfl) (YB.out) ?_)
      go_wp2_with fail
      go_meet
      exact ⟨_, rfl, rfl, RB, ZB, qg⟩
    · go_simp
      (try (simp only [Act.put, List.setIfInBounds_toArray, List.set]))
      obtain ⟨gy, hgy⟩ : ∃ g, g = w1.heap.size := ⟨_, rfl⟩
      obtain ⟨W7, hW7⟩ : ∃ W7, W7 = w1.alloc (.cells #[.int .i64 0, .int .i64 0, .int .i64 0, .bool false, .bool false, .bool false, .bool false, .bool false] 66) := ⟨_, rfl⟩
      have B7 : Hid (W7.heap[gy]? = some (.cells #[.int .i64 0, .int .i64 0, .int .i64 0, .bool false, .bool false, .bool false, .bool false, .bool false] 66 (0, 0))) := Lib.hid (hW7 ▸ hgy ▸ at0 w1 _)
      have Y7 : Hid (Ext W0 W7) := Lib.hid (hW7 ▸ q1.out.alloc _)
      have Z7 : Hid (Ext W3 W7) := Lib.hid (hW7 ▸ qp.out.alloc _)
      have qg : W3.heap.size ≤ gy := hgy ▸ Below.size qp.out
      rw [← hW7, ← hgy]
      clear hW7 hgy
      refine xone 9 (hk := Y7.out) (h := RunX.of 9 (h := ?_))
      go_simp
      refine (pSide_any W7 _ _ _ _ _ (HSB.out.ext Y7.out) _ _ Hy.out).mono ?_
      rintro e6 w6 ⟨rfl, x6⟩
      have Y6 : Hid (Ext W0 w6) := Lib.hid (Ext.trans Y7.out x6)
      have Z6 : Hid (Ext W3 w6) := Lib.hid (Ext.trans Z7.out x6)
      have B6 := Lib.hid (keepU B7.out x6)
      clear x6
      dsimp only
      (try (simp only [Act.put, List.setIfInBounds_toArray, List.set]))
      refine xtv 10 (h := ?_)
      refine xtv 11 (h := ?_)
      refine xtv 12 (h := ?_)
      refine xone 14 (hk := Y6.out) (h := RunX.of 14 (h := ?_))
      refine wp_st 66 (.tmp 9) (.tmp 56) rfl gy 0 66 #[.int .i64 0, .int .i64 0, .int .i64 0, .bool false, .bool false, .bool false, .bool false, .bool false] #[.int .i64 y0, .int .i64 y1, .int .i64 y2, .bool y3, .bool y4, .bool y5, .bool y6, .bool y7] #[.int .i64 y0, .int .i64 y1, .int .i64 y2, .bool y3, .bool y4, .bool y5, .bool y6, .bool y7] rfl rfl B6.out (by kernel_rfl) (by simp) rfl rfl ?_
      intro WB hWB oB
      simp only [Act.put]
      have YB : Hid (Ext W0 WB) := Lib.hid (ext_off Y6.out oB (fun b hb => by omega))
      have ZB : Hid (Ext W3 WB) := Lib.hid (ext_off Z6.out oB (fun b hb => by omega))
      have RB := Lib.hid hWB
      clear hWB oB
      refine xtv 15 (h := ?_)
      (refine xdone (by kernel_rfl) (YB.out) ?_)
      go_wp2_with fail
      go_meet
      exact ⟨_, rfl, rfl, RB, ZB, qg⟩
  case rest =>
  obtain ⟨gy, rfl, rfl, qB, qX, qG⟩ := hcut
  obtain ⟨W4, hW4⟩ : ∃ W4, W4 = wc := ⟨_, rfl⟩
  rw [← hW4] at qB qX ⊢
  clear hW4
  have XW4 : Hid (Ext W0 W4) := Lib.hid (XW3.out.trans qX.out)
  have GX4 := Lib.hid (keepU pB.out qX.out)
  have GW4 := qB
  have pg := Nat.le_trans (Below.size Xb.out) pG
  have qg := Nat.le_trans (Below.size XW3.out) qG
  have E4 := Lib.hid (keepU E40.out XW4.out)
  have E5 := Lib.hid (keepU E50.out XW4.out)
  have hg1 := pg
  have hg2 := qg
  go_wp2_with fail
  (refine wp_region_X_lit (K := fun V => Ext w V ∧ V.heap[gx]? = some (.cells #[.int .i64 x0, .int .i64 x1, .int .i64 x2, .bool x3, .bool x4, .bool x5, .bool x6, .bool x7] 66 (0, 0)) ∧ V.heap[gy]? = some (.cells #[.int .i64 y0, .int .i64 y1, .int .i64 y2, .bool y3, .bool y4, .bool y5, .bool y6, .bool y7] 66 (0, 0))) (by kernel_rfl) (fun w1 hw1 => ?_))
  have HK1 : Hid (Ext w w1 ∧ w1.heap[gx]? = some (.cells #[.int .i64 x0, .int .i64 x1, .int .i64 x2, .bool x3, .bool x4, .bool x5, .bool x6, .bool x7] 66 (0, 0)) ∧ w1.heap[gy]? = some (.cells #[.int .i64 y0, .int .i64 y1, .int .i64 y2, .bool y3, .bool y4, .bool y5, .bool y6, .bool y7] 66 (0, 0))) := Lib.hid ⟨X0.out.trans (XW4.out.trans hw1), keepU GX4.out hw1, keepU GW4.out hw1⟩
  refine xtv 0 (hv := by intro w' hw'; obtain ⟨⟨⟨c0, c1⟩, c2, c3⟩, ⟨c4, c5⟩, c6, c7⟩ := cells8U hw'.2.1; go_simp; first | done | with_reducible rfl) (h := ?_)
  refine xtv 1 (hv := by intro w' hw'; obtain ⟨⟨⟨c0, c1⟩, c2, c3⟩, ⟨c4, c5⟩, c6, c7⟩ := cells8U hw'.2.2; go_simp; first | done | with_reducible rfl) (h := ?_)
  refine xtv 2 (h := ?_)
  refine xtv 3 (h := ?_)
  refine xtv 4 (h := ?_)
  refine xtv 5 (h := ?_)
  refine xtv 6 (h := ?_)
  refine xtv 7 (h := ?_)
  refine xtv 8 (hv := by intro w' hw'; obtain ⟨⟨⟨c0, c1⟩, c2, c3⟩, ⟨c4, c5⟩, c6, c7⟩ := cells8U hw'.2.1; go_simp; first | done | with_reducible rfl) (h := ?_)
  refine xtv 9 (h := ?_)
  refine xtv 10 (hv := by intro w' hw'; obtain ⟨⟨⟨c0, c1⟩, c2, c3⟩, ⟨c4, c5⟩, c6, c7⟩ := cells8U hw'.2.2; go_simp; first | done | with_reducible rfl) (h := ?_)
  refine xtv 11 (h := ?_)
  refine xtv 12 (h := ?_)
  have HKK := HK1
  have E4' := Lib.hid (keepU E4.out hw1)
  have E5' := Lib.hid (keepU E5.out hw1)
  clear HK1 E4 E5 hw1
  refine xone 13 (hk := HKK.out) (h := RunX.of 13 (h := ?_))
  · have HK1 := HKK
    have E4 := E4'
    have E5 := E5'
    refine wp_st 66 (.tmp 4) (.tmp 58) rfl (w.heap.size + 2) 0 66 #[.int .i64 0, .int .i64 0, .int .i64 0, .bool false, .bool false, .bool false, .bool false, .bool false] #[.int .i64 x0, .int .i64 x1, .int .i64 x2, .bool x3, .bool x4, .bool x5, .bool x6, .bool x7] #[.int .i64 x0, .int .i64 x1, .int .i64 x2, .bool x3, .bool x4, .bool x5, .bool x6, .bool x7] rfl rfl E4.out (by kernel_rfl) (by simp) rfl rfl ?_
    intro V00 kV00 oV00
    simp only [Act.put]
    have HKV00 : Hid (Ext w V00 ∧ V00.heap[gx]? = some (.cells #[.int .i64 x0, .int .i64 x1, .int .i64 x2, .bool x3, .bool x4, .bool x5, .bool x6, .bool x7] 66 (0, 0)) ∧ V00.heap[gy]? = some (.cells #[.int .i64 y0, .int .i64 y1, .int .i64 y2, .bool y3, .bool y4, .bool y5, .bool y6, .bool y7] 66 (0, 0))) := Lib.hid ⟨ext_off HK1.out.1 oV00 (fun b hb => by omega), oV00.blk HK1.out.2.1 (by have := HS0.out; omega), oV00.blk HK1.out.2.2 (by have := HS0.out; omega)⟩
    replace E5 := Lib.hid (oV00.blk E5.out (by omega))
    replace E4 := Lib.hid kV00
    clear kV00 oV00
    refine xone 14 (hk := HKV00.out) (h := RunX.of 14 (h := ?_))
    refine wp_st 66 (.tmp 5) (.tmp 59) rfl (w.heap.size + 3) 0 66 #[.int .i64 0, .int .i64 0, .int .i64 0, .bool false, .bool false, .bool false, .bool false, .bool false] #[.int .i64 y0, .int .i64 y1, .int .i64 y2, .bool y3, .bool y4, .bool y5, .bool y6, .bool y7] #[.int .i64 y0, .int .i64 y1, .int .i64 y2, .bool y3, .bool y4, .bool y5, .bool y6, .bool y7] rfl rfl E5.out (by kernel_rfl) (by simp) rfl rfl ?_
    intro V01 kV01 oV01
    simp only [Act.put]
    have HKV01 : Hid (Ext w V01 ∧ V01.heap[gx]? = some (.cells #[.int .i64 x0, .int .i64 x1, .int .i64 x2, .bool x3, .bool x4, .bool x5, .bool x6, .bool x7] 66 (0, 0)) ∧ V01.heap[gy]? = some (.cells #[.int .i64 y0, .int .i64 y1, .int .i64 y2, .bool y3, .bool y4, .bool y5, .bool y6, .bool y7] 66 (0, 0))) := Lib.hid ⟨ext_off HKV00.out.1 oV01 (fun b hb => by omega), oV01.blk HKV00.out.2.1 (by have := HS0.out; omega), oV01.blk HKV00.out.2.2 (by have := HS0.out; omega)⟩
    replace E4 := Lib.hid (oV01.blk E4.out (by omega))
    replace E5 := Lib.hid kV01
    clear kV01 oV01
    refine xtv 15 (h := ?_)
    (refine xdone (by kernel_rfl) (HKV01.out) ?_)
    go_wp2
    exact bodyPost_ret (v := .tuple #[.agg #[.int .i64 x0, .int .i64 x1, .int .i64 x2, .bool x3, .bool x4, .bool x5, .bool x6, .bool x7], .agg #[.int .i64 y0, .int .i64 y1, .int .i64 y2, .bool y3, .bool y4, .bool y5, .bool y6, .bool y7], .bool true]) (res_cct 6 rfl rfl rfl E4.out E5.out uSide uSide (by kernel_rfl) (by kernel_rfl)) rfl ⟨rfl, HKV01.out.1⟩
end Go.Proofs.YtfbambemjokmgaaGreat
namespace Go.Proofs.YtfbambemjokmgaaGreat
open Go.RowKit
def cntKB (q : Int) (s : Sd) : Nat := cond (hasS s q) 1 0
theorem cntB_is (x y : Sd) (M : List Ml) (A B q : Int) : (([x, y].map (cntKB q)).sum + (M.countP fun m => betweenB A B m && m.kind == q && m.epoch == x.epoch)) = cntB x y M A B q := by
  unfold cntB cntKB
  have h : (fun m : Ml => betweenB A B m && m.kind == q && m.epoch == x.epoch) = fun m => betweenB A B m && (m.kind == q && m.epoch == x.epoch) := funext fun m => Bool.and_assoc _ _ _
  rw [h]
  simp
theorem res_a {P : Program} {fn : Func} {tmps : Array Value} {w : World} {t : Tmp} {ty tt : TypeId} {g : Nat} {cs : Array Value} (h : fn.results = #[.cell t ty]) (ht : tmps.getD t undef = .pointer (some ⟨g, 0, none⟩)) (hg : w.heap[g]? = some (.cells cs tt (0, 0))) (hu : ∃ n e, P.underlying ty = some (.array n e)) (hi : (P.info? ty).map (·.size) = some cs.size) :
    (results fn tmps).run P w = .ok (.agg cs) w := by
  obtain ⟨n, e, hu⟩ := hu
  have ht2 : tmps[t]?.getD undef = .pointer (some ⟨g, 0, none⟩) := by simpa using ht
  simp [results, h, ht2, asAddr, run_loadVar_row w g tt ty cs (0, 0) _ hg hu rfl hi]
theorem index_two (j : Nat) (x y s : Sd) (h : [x, y][j]? = some s) (w : World) : (Instr.index 108 (.agg #[.int .i64 x.peer, .int .i64 x.epoch, .int .i64 x.state, .bool x.fork, .bool x.dirty, .bool x.token, .bool x.bottle, .bool x.ask, .int .i64 y.peer, .int .i64 y.epoch, .int .i64 y.state, .bool y.fork, .bool y.dirty, .bool y.token, .bool y.bottle, .bool y.ask]) (.int .i64 j)).run Tryz.prog w = .ok (.agg s.cs) w := by
  rcases j with _ | _ | j
  · simp at h; subst h; kernel_rfl
  · simp at h; subst h; kernel_rfl
  · simp at h
theorem index_lies3 (a b : Bool) (w : World) : (Instr.index 109 (.agg #[.bool a, .bool b]) (.int .i64 0)).run Tryz.prog w = .ok (.bool a) w := by kernel_rfl
theorem index_lies4 (a b : Bool) (w : World) : (Instr.index 109 (.agg #[.bool a, .bool b]) (.int .i64 1)).run Tryz.prog w = .ok (.bool b) w := by kernel_rfl
set_option maxRecDepth 100000 in
set_option maxHeartbeats 1000000 in
theorem lies_any (w : World) (x : Sd) : Calls Tryz.prog 66 #[.agg x.cs] w fun e w' => e = .returned (.agg #[.bool x.bottle, .bool x.ask]) ∧ Ext w w' := by
  obtain ⟨x0, x1, x2, x3, x4, x5, x6, x7⟩ := x
  unfold Sd.cs
  dsimp only
  have X0 : Hid (Ext w (w.alloc (.cells #[.int .i64 x0, .int .i64 x1, .int .i64 x2, .bool x3, .bool x4, .bool x5, .bool x6, .bool x7] 66))) := Lib.hid ((Ext.refl w).alloc _)
  obtain ⟨⟨⟨a0, a1⟩, a2, a3⟩, ⟨a4, a5⟩, a6, a7⟩ := cells8U (at0 w (.cells #[.int .i64 x0, .int .i64 x1, .int .i64 x2, .bool x3, .bool x4, .bool x5, .bool x6, .bool x7] 66))
  go_enter Tryz.func66, Tryz.ntmps66
  go_wp2_with (first | refine haltst 109 ?_)
  refine .inl ?_
  refine st_l 109 (.tmp 2) (.tmp 7) (w.heap.size + 1) 0 109 #[.bool false, .bool false] #[.bool x6, .bool x7] _ rfl rfl (at1 w _ _) (by kernel_rfl) (by simp) rfl rfl ?_
  intro W9 hW9 o9
  simp only [Act.put]
  go_wp2
  exact bodyPost_ret (v := .agg #[.bool x6, .bool x7]) (res_a rfl rfl hW9 ⟨_, _, Tryz.underlying109⟩ (by kernel_rfl)) rfl ⟨rfl, ext_off (X0.out.alloc _) o9 (fun b hb => by omega)⟩
set_option maxRecDepth 100000 in
set_option maxHeartbeats 16000000 in
theorem countB3_any (w : World) (vd vm : Value) (L : List Dk) (M : List Ml) (h : BV w vd vm L M) (hm : M.length ≤ 1000) (A B : Nat) (iA pA tA iB pB tB : Int) (SA SB : List Sd) (NA NB : List Int) (hA : L[A]? = some ⟨iA, pA, SA, tA, NA⟩) (hB : L[B]? = some ⟨iB, pB, SB, tB, NB⟩) (hne : A ≠ B) (x y : Sd) (hx : sideR SA B = (x, true)) (hy : sideR SB A = (y, true)) (he : x.epoch = y.epoch) :
    Calls Tryz.prog 19 #[.agg #[vd, vm], .agg #[.int .i64 A, .int .i64 B], .int .i64 3] w fun e w' => e = .returned (.int .i64 (cntB x y M A B 3 : Nat)) ∧ Ext w w' := by
  obtain ⟨ao, c, bo, d, rfl, rfl⟩ := h.len
  obtain ⟨W0, hW0⟩ : ∃ W0, W0 = (w.alloc (.cells #[.slice ao L.length c, .slice bo M.length d] 25)).alloc (.cells #[.int .i64 A, .int .i64 B] 30) := ⟨_, rfl⟩
  have X0 : Hid (Ext w W0) := Lib.hid (hW0 ▸ ((Ext.refl w).alloc _).alloc _)
  have B0 : Hid (W0.heap[w.heap.size]? = some (.cells #[.slice ao L.length c, .slice bo M.length d] 25 (0, 0))) := Lib.hid (hW0 ▸ old1 (at0 w _) _)
  have D0 : Hid (W0.heap[w.heap.size + 1]? = some (.cells #[.int .i64 A, .int .i64 B] 30 (0, 0))) := Lib.hid (hW0 ▸ at1 w _ _)
  have HW0 := Lib.hid hW0
  have HV := Lib.hid (h.ext X0.out)
  have HC := Lib.hid (endsB_any W0 _ _ L M HV.out A B iA pA tA iB pB tB SA SB NA NB hA hB hne x y hx hy he)
  obtain ⟨cnt, hcnt⟩ : ∃ q, cntB x y M A B 3 = q := ⟨_, rfl⟩
  have HCN := Lib.hid hcnt
  rw [hcnt]
  obtain ⟨x0, x1, x2, x3, x4, x5, x6, x7⟩ := x
  obtain ⟨y0, y1, y2, y3, y4, y5, y6, y7⟩ := y
  unfold Sd.cs at HC
  dsimp only at HC
  obtain ⟨k0, k1⟩ := cells2S B0.out
  obtain ⟨k2, k3⟩ := cells2S D0.out
  clear h hW0 hA hB hx hy he hne hcnt
  go_enter Tryz.func19, Tryz.ntmps19
  go_upto_region 1 with (fail)
  rw [← HW0.out]
  go_wp2_with (first
    | (go_at_call 65; refine HC.out.mono ?_; rintro e w1 ⟨rfl, hx⟩; have X1 := Lib.hid hx; clear hx)
    | refine haltst 66 ?_)
  refine .inl ?_
  refine st_l 66 (.tmp 7) (.tmp 34) w1.heap.size 0 66 #[.int .i64 0, .int .i64 0, .int .i64 0, .bool false, .bool false, .bool false, .bool false, .bool false] #[.int .i64 x0, .int .i64 x1, .int .i64 x2, .bool x3, .bool x4, .bool x5, .bool x6, .bool x7] #[.int .i64 x0, .int .i64 x1, .int .i64 x2, .bool x3, .bool x4, .bool x5, .bool x6, .bool x7] rfl rfl (old1 (at0 w1 _) _) (by kernel_rfl) (by simp) rfl rfl ?_
  intro W3 hW3 o3
  simp only [Act.put]
  have X3 : Hid (Ext W0 W3) := Lib.hid (ext_off ((X1.out.alloc _).alloc _) o3 (fun b hb => by have := Below.size X1.out; omega))
  have E3 : Hid (W3.heap[w1.heap.size + 1]? = some (.cells #[.int .i64 0, .int .i64 0, .int .i64 0, .bool false, .bool false, .bool false, .bool false, .bool false] 66 (0, 0))) := Lib.hid (o3.blk (at1 w1 _ _) (by omega))
  have F3 := Lib.hid hW3
  have hw1 : W0.heap.size ≤ w1.heap.size := Below.size X1.out
  clear hW3 o3
  go_wp2_with (first | refine haltst 66 ?_)
  refine .inl ?_
  refine st_l 66 (.tmp 8) (.tmp 35) (w1.heap.size + 1) 0 66 #[.int .i64 0, .int .i64 0, .int .i64 0, .bool false, .bool false, .bool false, .bool false, .bool false] #[.int .i64 y0, .int .i64 y1, .int .i64 y2, .bool y3, .bool y4, .bool y5, .bool y6, .bool y7] #[.int .i64 y0, .int .i64 y1, .int .i64 y2, .bool y3, .bool y4, .bool y5, .bool y6, .bool y7] rfl rfl E3.out (by kernel_rfl) (by simp) rfl rfl ?_
  intro W4 hW4 o4
  simp only [Act.put]
  have X4 : Hid (Ext W0 W4) := Lib.hid (ext_off X3.out o4 (fun b hb => by omega))
  have F4 : Hid (W4.heap[w1.heap.size]? = some (.cells #[.int .i64 x0, .int .i64 x1, .int .i64 x2, .bool x3, .bool x4, .bool x5, .bool x6, .bool x7] 66 (0, 0))) := Lib.hid (o4.blk F3.out (by omega))
  have G4 : Hid (W4.heap[w1.heap.size + 1]? = some (.cells #[.int .i64 y0, .int .i64 y1, .int .i64 y2, .bool y3, .bool y4, .bool y5, .bool y6, .bool y7] 66 (0, 0))) := Lib.hid hW4
  clear hW4 o4 k0 k1 k2 k3
  obtain ⟨⟨⟨a0, a1⟩, a2, a3⟩, ⟨a4, a5⟩, a6, a7⟩ := cells8U F4.out
  obtain ⟨⟨⟨b0, b1⟩, b2, b3⟩, ⟨b4, b5⟩, b6, b7⟩ := cells8U G4.out
  obtain ⟨XY, hXY⟩ : ∃ XY, XY = [(⟨x0, x1, x2, x3, x4, x5, x6, x7⟩ : Sd), ⟨y0, y1, y2, y3, y4, y5, y6, y7⟩] := ⟨_, rfl⟩
  have HXY := Lib.hid hXY
  have hxl : XY.length = 2 := by rw [hXY]; rfl
  have HCN2 : Hid ((XY.map (cntKB 3)).sum + (M.countP fun m => betweenB A B m && m.kind == 3 && m.epoch == x1) = cnt) := Lib.hid (by rw [hXY, ← HCN.out]; exact cntB_is _ _ _ _ _ _)
  clear hXY HCN
  replace hxl := Lib.hid hxl
  go_upto_region 8 with (fail)
  go_loopw [10, 42] (fun q i wr => ∃ j : Nat, j ≤ 2 ∧ i = .int .i64 j ∧ ∃ n : Nat, n ≤ j ∧ q = .int .i64 n ∧ Hid (n = ((XY.take j).map (cntKB 3)).sum) ∧ Hid (Ext W4 wr)) (fun _ i _ => 2 - (intOf i).toNat)
  case atStart => exact ⟨0, by omega, rfl, 0, by omega, rfl, Lib.hid rfl, Lib.hid (Ext.refl _)⟩
  case round =>
    obtain ⟨j, hj, rfl, n, hn, rfl, HN, HX⟩ := hrel
    by_cases hlt : j < 2
    · obtain ⟨s, hsj⟩ : ∃ s, XY[j]? = some s := ⟨_, List.getElem?_eq_getElem (by rw [hxl.out]; exact hlt)⟩
      have HNX : Hid (((XY.take (j + 1)).map (cntKB 3)).sum = n + cntKB 3 s) := Lib.hid (by rw [take_nextD hsj, List.map_append, List.sum_append, HN.out]; rfl)
      have hw : IntKind.i64.wrap ((n : Int) + 1) = (n : Int) + 1 := wrapN _ (by omega) (by omega)
      have hix := index_two j ⟨x0, x1, x2, x3, x4, x5, x6, x7⟩ ⟨y0, y1, y2, y3, y4, y5, y6, y7⟩ s (by rw [← HXY.out]; exact hsj)
      have hib := fun a b => index_lies3 a b
      have hji : (j : Int) < 2 := by omega
      clear hsj HN
      obtain ⟨z0, z1, z2, z3, z4, z5, z6, z7⟩ := s
      unfold Sd.cs at hix
      dsimp only at hix
      cases z6
      · have HF : Hid (((XY.take (j + 1)).map (cntKB 3)).sum = n) := Lib.hid (by rw [HNX.out]; rfl)
        have HLI := lies_any (wr.alloc (.cells (Sd.cs ⟨z0, z1, z2, z3, z4, z5, false, z7⟩) 66)) ⟨z0, z1, z2, z3, z4, z5, false, z7⟩
        unfold Sd.cs at HLI
        dsimp only at HLI
        replace HLI := Lib.hid HLI
        go_wp2_with (go_at_call 66; refine HLI.out.mono ?_; rintro e w8 ⟨rfl, hx⟩; have X8 : Hid (Ext W4 w8) := Lib.hid (HX.out.trans (Ext.trans ((Ext.refl wr).alloc _) hx)); clear hx)
        go_roundw
        case rel => exact ⟨j + 1, by omega, by go_num, n, by omega, rfl, Lib.hid HF.out.symm, X8⟩
        case measure => simp [intOf]; omega
      · have HF : Hid (((XY.take (j + 1)).map (cntKB 3)).sum = n + 1) := Lib.hid (by rw [HNX.out]; rfl)
        have HLI := lies_any (wr.alloc (.cells (Sd.cs ⟨z0, z1, z2, z3, z4, z5, true, z7⟩) 66)) ⟨z0, z1, z2, z3, z4, z5, true, z7⟩
        unfold Sd.cs at HLI
        dsimp only at HLI
        replace HLI := Lib.hid HLI
        go_wp2_with (go_at_call 66; refine HLI.out.mono ?_; rintro e w8 ⟨rfl, hx⟩; have X8 : Hid (Ext W4 w8) := Lib.hid (HX.out.trans (Ext.trans ((Ext.refl wr).alloc _) hx)); clear hx)
        go_roundw
        case rel => exact ⟨j + 1, by omega, by go_num, n + 1, by omega, by first | (simp; done) | (rw [hw]; simp), Lib.hid HF.out.symm, X8⟩
        case measure => simp [intOf]; omega
    · have hj2 : j = 2 := by omega
      have HN2 : Hid (n = (XY.map (cntKB 3)).sum) := Lib.hid (by have := HN.out; rwa [hj2, ← hxl.out, List.take_length] at this)
      have HX2 : Hid (Ext W0 wr) := Lib.hid (X4.out.trans HX.out)
      have HX4 : Hid (Ext W4 wr) := HX
      obtain ⟨k0, k1⟩ := cells2S (keepU B0.out HX2.out)
      obtain ⟨W6, hW6⟩ : ∃ W6, W6 = wr := ⟨_, rfl⟩
      rw [← hW6] at HX2 HX4 k0 k1 ⊢
      clear hW6 HN HX hj2
      go_wp2
      go_loopw [10, 56] (fun q i wr => ∃ j : Nat, j ≤ M.length ∧ i = .int .i64 j ∧ ∃ n2 : Nat, n2 ≤ n + j ∧ q = .int .i64 n2 ∧ Hid (n2 = n + (M.take j).countP fun m => betweenB A B m && m.kind == 3 && m.epoch == x1) ∧ Hid (Ext W6 wr)) (fun _ i _ => M.length - (intOf i).toNat)
      case atStart => exact ⟨0, by omega, rfl, n, by omega, rfl, Lib.hid (by simp), Lib.hid (Ext.refl _)⟩
      case round =>
        obtain ⟨j, hj, rfl, n2, hn2, rfl, HN3, HX⟩ := hrel
        by_cases hlt : j < M.length
        · obtain ⟨b, off, m, _, hmj, rfl, _, hnc, hc63, hb, hcell⟩ := HV.out.ms.mailAt hlt
          obtain ⟨⟨a0, a1⟩, a2, a3, a4⟩ := hcell wr (HX2.out.trans HX.out)
          have HNX : Hid (((M.take (j + 1)).countP fun m => betweenB A B m && m.kind == 3 && m.epoch == x1) + n = n2 + cond (betweenB A B m && m.kind == 3 && m.epoch == x1) 1 0) := Lib.hid (by
            rw [take_nextD hmj, List.countP_append, HN3.out, List.countP_cons, List.countP_nil]
            cases hq : (betweenB A B m && m.kind == 3 && m.epoch == x1) <;> simp <;> omega)
          have hw : IntKind.i64.wrap ((n2 : Int) + 1) = (n2 : Int) + 1 := wrapN _ (by omega) (by omega)
          clear hcell hmj HN3
          obtain ⟨m0, m1, m2, m3, m4⟩ := m
          dsimp only at a0 a1 a2 a3 a4 HNX
          unfold betweenB at HNX
          dsimp only at HNX
          obtain ⟨W7, hW7⟩ : ∃ W7, W7 = wr.alloc (.cells #[.int .i64 m0, .int .i64 m1, .int .i64 m2, .int .i64 m3, .int .i64 m4] 95) := ⟨_, rfl⟩
          have Y7 : Hid (Ext W6 W7) := Lib.hid (hW7 ▸ HX.out.alloc _)
          have B7 : Hid (W7.heap[wr.heap.size]? = some (.cells #[.int .i64 m0, .int .i64 m1, .int .i64 m2, .int .i64 m3, .int .i64 m4] 95 (0, 0))) := Lib.hid (hW7 ▸ at0 wr _)
          have HW7 := Lib.hid hW7
          have q7 := B7.out
          have c0 := blk_cell q7 0 rfl
          have c1 := blk_cell q7 1 rfl
          have c2 := blk_cell q7 2 rfl
          have c3 := blk_cell q7 3 rfl
          obtain ⟨e0, e1⟩ := cells2S (keepU D0.out (HX2.out.trans Y7.out))
          have f1 := blk_cell (keepU F4.out (HX4.out.trans Y7.out)) 1 rfl
          clear hW7 q7
          go_upto_region 16 with (fail)
          rw [← HW7.out]
          clear a0 a1 a2 a3 a4
          obtain ⟨q1, hq1⟩ : ∃ q, (m0 == (A : Int)) = q := ⟨_, rfl⟩
          obtain ⟨q2, hq2⟩ : ∃ q, (m1 == (B : Int)) = q := ⟨_, rfl⟩
          obtain ⟨q3, hq3⟩ : ∃ q, (m0 == (B : Int)) = q := ⟨_, rfl⟩
          obtain ⟨q4, hq4⟩ : ∃ q, (m1 == (A : Int)) = q := ⟨_, rfl⟩
          obtain ⟨q5, hq5⟩ : ∃ q, (m2 == 3) = q := ⟨_, rfl⟩
          obtain ⟨q6, hq6⟩ : ∃ q, (m3 == x1) = q := ⟨_, rfl⟩
          rw [hq1, hq2, hq3, hq4, hq5, hq6] at HNX
          go_cut [15] (fun s15 wx => s15 = .bool ((q1 && q2) || (q3 && q4)) ∧ wx = W7)
          case first =>
            cases q1 <;> cases q2 <;> cases q3 <;> cases q4
            all_goals
              go_wp2_with fail
              go_meet
              exact ⟨rfl, rfl⟩
          case rest =>
            obtain ⟨rfl, rfl⟩ := hcut
            obtain ⟨qb, hqb⟩ : ∃ q, ((q1 && q2) || (q3 && q4)) = q := ⟨_, rfl⟩
            rw [hqb] at HNX ⊢
            clear hqb hq1 hq2 hq3 hq4
            cases qb
            · have HF : Hid (n2 = n + (M.take (j + 1)).countP fun m => betweenB A B m && m.kind == 3 && m.epoch == x1) := Lib.hid (by have := HNX.out; simp only [betweenB]; simp at this; omega)
              go_wp2
              go_roundw
              case rel => exact ⟨j + 1, by omega, by go_num, n2, by omega, rfl, HF, Y7⟩
              case measure => simp [intOf]; omega
            cases q5
            · have HF : Hid (n2 = n + (M.take (j + 1)).countP fun m => betweenB A B m && m.kind == 3 && m.epoch == x1) := Lib.hid (by have := HNX.out; simp only [betweenB]; simp at this; omega)
              go_wp2
              go_roundw
              case rel => exact ⟨j + 1, by omega, by go_num, n2, by omega, rfl, HF, Y7⟩
              case measure => simp [intOf]; omega
            cases q6
            · have HF : Hid (n2 = n + (M.take (j + 1)).countP fun m => betweenB A B m && m.kind == 3 && m.epoch == x1) := Lib.hid (by have := HNX.out; simp only [betweenB]; simp at this; omega)
              go_wp2
              go_roundw
              case rel => exact ⟨j + 1, by omega, by go_num, n2, by omega, rfl, HF, Y7⟩
              case measure => simp [intOf]; omega
            · have HF : Hid (n2 + 1 = n + (M.take (j + 1)).countP fun m => betweenB A B m && m.kind == 3 && m.epoch == x1) := Lib.hid (by have := HNX.out; simp only [betweenB]; simp at this; omega)
              go_wp2
              go_roundw
              case rel => exact ⟨j + 1, by omega, by go_num, n2 + 1, by omega, by first | (simp; done) | (rw [hw]; simp), HF, Y7⟩
              case measure => simp [intOf]; omega
        · have hjl : j = M.length := by omega
          have HF : Hid ((n2 : Int) = ((cnt : Nat) : Int)) := Lib.hid (by
            have h1 := HN3.out
            have h2 := HCN2.out
            have h3 := HN2.out
            rw [hjl, List.take_length] at h1
            omega)
          clear hjl
          go_wp2
          go_ret
          exact ⟨ret_int HF.out, X0.out.trans (HX2.out.trans HX.out)⟩
end Go.Proofs.YtfbambemjokmgaaGreat
