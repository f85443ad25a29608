/- Texts of this seat. -/
import Derived.Test.YtfbambemjokmgaaGreatNAV
namespace Go.Proofs.YtfbambemjokmgaaGreat
open Go.RowKit
section
variable {P : Program} {fn : Func} {tmps : Array Value} {w : World} {t t2 : Tmp} {ty ty2 tt tt2 : TypeId} {g g2 : Nat} {cs cs2 : Array Value}
theorem res_cct (u : Tmp) (h : fn.results = #[.cell t ty, .cell t2 ty2, .tmp u]) (ht : tmps.getD t undef = .pointer (some ⟨g, 0, none⟩)) (ht2 : tmps.getD t2 undef = .pointer (some ⟨g2, 0, none⟩)) (hg : w.heap[g]? = some (.cells cs tt (0, 0))) (hg2 : w.heap[g2]? = some (.cells cs2 tt2 (0, 0)))
    (hu : ∃ fs, P.underlying ty = some (.struct fs)) (hu2 : ∃ fs, P.underlying ty2 = some (.struct fs)) (hi : (P.info? ty).map (·.size) = some cs.size) (hi2 : (P.info? ty2).map (·.size) = some cs2.size) :
    (results fn tmps).run P w = .ok (.tuple #[.agg cs, .agg cs2, tmps.getD u undef]) w := by
  obtain ⟨fs, hu⟩ := hu
  obtain ⟨fs2, hu2⟩ := hu2
  have ht3 : tmps[t]?.getD undef = .pointer (some ⟨g, 0, none⟩) := by simpa using ht
  have ht4 : tmps[t2]?.getD undef = .pointer (some ⟨g2, 0, none⟩) := by simpa using ht2
  simp [results, h, ht3, ht4, asAddr, run_loadVar_row w g tt ty cs (0, 0) _ hg hu rfl hi, run_loadVar_row w g2 tt2 ty2 cs2 (0, 0) _ hg2 hu2 rfl hi2]
end
set_option maxRecDepth 100000 in
set_option maxHeartbeats 16000000 in
theorem ends_any (w : World) (vd vm : Value) (L : List Dn) (M : List Ml) (h : SV w vd vm L M) (A B : Nat) (iA pA iB pB : Int) (SA SB : List Sd) (hA : L[A]? = some ⟨iA, pA, SA⟩) (hB : L[B]? = some ⟨iB, pB, SB⟩) (hne : A ≠ B) (x y : Sd) (hx : sideR SA B = (x, true)) (hy : sideR SB A = (y, true)) (he : x.epoch = y.epoch) :
    Calls Tryz.prog 114 #[.agg #[vd, vm], .agg #[.int .i64 A, .int .i64 B]] w fun e w' => e = .returned (.tuple #[.agg x.cs, .agg y.cs, .bool true]) ∧ Ext w w' := by
  have hAL := (List.getElem?_eq_some_iff.1 hA).1
  have hBL := (List.getElem?_eq_some_iff.1 hB).1
  obtain ⟨ao, c, bo, d, rfl, rfl⟩ := h.len
  obtain ⟨W0, hW0⟩ : ∃ W0, W0 = (((w.alloc (.cells #[.slice ao L.length c, .slice bo M.length d] 48)).alloc (.cells #[.int .i64 A, .int .i64 B] 30)).alloc (.cells #[.int .i64 0, .int .i64 0, .int .i64 0, .bool false, .bool false, .bool false, .bool false, .bool false] 66)).alloc (.cells #[.int .i64 0, .int .i64 0, .int .i64 0, .bool false, .bool false, .bool false, .bool false, .bool false] 66) := ⟨_, rfl⟩
  have X0 : Hid (Ext w W0) := Lib.hid (hW0 ▸ ((((Ext.refl w).alloc _).alloc _).alloc _).alloc _)
  have B0 : Hid (W0.heap[w.heap.size]? = some (.cells #[.slice ao L.length c, .slice bo M.length d] 48 (0, 0))) := Lib.hid (hW0 ▸ old1 (old1 (old1 (at0 w _) _) _) _)
  have D0 : Hid (W0.heap[w.heap.size + 1]? = some (.cells #[.int .i64 A, .int .i64 B] 30 (0, 0))) := Lib.hid (hW0 ▸ old1 (old1 (at1 w _ _) _) _)
  have E40 : Hid (W0.heap[w.heap.size + 2]? = some (.cells #[.int .i64 0, .int .i64 0, .int .i64 0, .bool false, .bool false, .bool false, .bool false, .bool false] 66 (0, 0))) := Lib.hid (hW0 ▸ old1 (at2 w _ _ _) _)
  have E50 : Hid (W0.heap[w.heap.size + 3]? = some (.cells #[.int .i64 0, .int .i64 0, .int .i64 0, .bool false, .bool false, .bool false, .bool false, .bool false] 66 (0, 0))) := Lib.hid (hW0 ▸ at3 w _ _ _ _)
  have HS0 : Hid (W0.heap.size = w.heap.size + 4) := Lib.hid (by rw [hW0, size_alloc, size_alloc, size_alloc, size_alloc])
  have HW0 := Lib.hid hW0
  have HV := Lib.hid (h.ext X0.out)
  have HSC : Hid (∀ V, Ext W0 V → V.cell? ⟨w.heap.size, 0, none⟩ = some (.slice ao L.length c) ∧ V.cell? ⟨w.heap.size, 1, none⟩ = some (.slice bo M.length d)) := Lib.hid fun V hV => cells2S (keepU B0.out hV)
  have HED : Hid (∀ V, Ext W0 V → V.cell? ⟨w.heap.size + 1, 0, none⟩ = some (.int .i64 (A : Int)) ∧ V.cell? ⟨w.heap.size + 1, 1, none⟩ = some (.int .i64 (B : Int))) := Lib.hid fun V hV => cells2S (keepU D0.out hV)
  obtain ⟨bA, oA, soA, scA, dA, hykA, hao, _, hnc, hc63, hbA, hslA, hcellA⟩ := HV.out.ds.dinerAt hAL
  obtain ⟨bB, oB, soB, scB, dB, hykB, hao2, _, _, _, hbB, hslB, hcellB⟩ := HV.out.ds.dinerAt hBL
  obtain rfl : dA = ⟨iA, pA, SA⟩ := by have := hykA.symm.trans hA; simpa using this
  obtain rfl : dB = ⟨iB, pB, SB⟩ := by have := hykB.symm.trans hB; simpa using this
  subst hao
  obtain ⟨rfl, rfl⟩ : bA = bB ∧ oA = oB := by simpa using hao2
  dsimp only at hslA hslB hcellA hcellB
  have HDA := Lib.hid hcellA
  have HDB := Lib.hid hcellB
  have HSA := Lib.hid hslA.sl
  have HSB := Lib.hid hslB.sl
  have Hx := Lib.hid hx
  have Hy := Lib.hid hy
  have hAi : (A : Int) < (L.length : Int) := by omega
  have hBi : (B : Int) < (L.length : Int) := by omega
  have hab : ((A : Int) == (B : Int)) = false := by simp; omega
  obtain ⟨x0, x1, x2, x3, x4, x5, x6, x7⟩ := x
  obtain ⟨y0, y1, y2, y3, y4, y5, y6, y7⟩ := y
  unfold Sd.cs
  dsimp only at he ⊢
  have hep : (x1 == y1) = true := by simp [he]
  obtain ⟨k0, k1⟩ := HSC.out W0 (Ext.refl _)
  obtain ⟨k2, k3⟩ := HED.out W0 (Ext.refl _)
  clear h hW0 hA hB hx hy he hne hykA hykB hao2 hslA hslB hcellA hcellB
  go_enter Tryz.func114, Tryz.ntmps114
  go_upto_region 1 with (fail)
  rw [← HW0.out]
  go_upto_region 3 with (first
    | (have hgd := Xa; go_at_call 106; refine (has_node wa _ _ L M (B : Int) (HV.out.ext Xa.out) true (node_iff.2 ⟨by omega, hBi⟩)).mono ?_; rintro e wb ⟨rfl, hx⟩; have Xb := Lib.hid (Xa.out.trans hx); clear hx)
    | (go_at_call 106; refine (has_node W0 _ _ L M (A : Int) HV.out true (node_iff.2 ⟨by omega, hAi⟩)).mono ?_; rintro e wa ⟨rfl, hx⟩; have Xa := Lib.hid hx; obtain ⟨j0, j1⟩ := HSC.out wa hx; obtain ⟨j2, j3⟩ := HED.out wa hx; clear hx))
  clear k0 k1 k2 k3 j0 j1 j2 j3 hab
  go_upto_region 3 with (fail)
  go_cut [7, 8] (fun s1 s2 wx => ∃ g, s1 = .pointer (some ⟨g, 0, none⟩) ∧ s2 = .bool true ∧ Hid (wx.heap[g]? = some (.cells #[.int .i64 x0, .int .i64 x1, .int .i64 x2, .bool x3, .bool x4, .bool x5, .bool x6, .bool x7] 66 (0, 0))) ∧ Hid (Ext wb wx) ∧ wb.heap.size ≤ g)
  case first =>
    have p0 : W0.heap.size ≤ wb.heap.size := Below.size Xb.out
    go_wp2_with fail
    (refine wp_region_X_lit (K := fun V => Ext W0 V) (by kernel_rfl) (fun w1 hw1 => ?_))
    have pp := Lib.hid hw1
    have p1 : Hid (Ext W0 w1) := Lib.hid (Xb.out.trans hw1)
    clear hw1
    refine xtv 0 (h := ?_)
    refine xtv 1 (hv := by intro w' hw'; have hc := (HSC.out w' hw').1; go_simp; first | done | with_reducible rfl) (h := ?_)
    refine xtv 2 (h := ?_)
    refine xtv 3 (hv := by intro w' hw'; have hc := (HED.out w' hw').1; go_simp; first | done | with_reducible rfl) (h := ?_)
    refine xtv 4 (hv := by intro w' hw'; have hz := hAL; have hz2 := hAi; go_simp; first | done | with_reducible rfl) (h := ?_)
    refine xtv 5 (hv := by intro w' hw'; obtain ⟨c0, c1, c2⟩ := HDA.out w' hw'; go_simp; first | done | with_reducible rfl) (h := ?_)
    refine xtv 6 (h := ?_)
    refine xtv 7 (hv := by intro w' hw'; have hc := (HED.out w' hw').2; go_simp; first | done | with_reducible rfl) (h := ?_)
    refine xtwo 8 12 (hk := p1.out) (h := RunX.of 8 (h := ?_)) (h' := RunX.of 12 (h := ?_))
    · go_simp
      refine (pSide_any w1 _ _ _ _ _ (HSA.out.ext p1.out) _ _ Hx.out).mono ?_
      rintro e6 w6 ⟨rfl, x6⟩
      have p6 : Hid (Ext W0 w6) := Lib.hid (Ext.trans p1.out x6)
      have pr : Hid (Ext wb w6) := Lib.hid (Ext.trans pp.out x6)
      clear x6
      dsimp only
      (try (simp only [Act.put, List.setIfInBounds_toArray, List.set]))
      refine xtv 9 (h := ?_)
      refine xtv 10 (h := ?_)
      refine xtv 11 (h := ?_)
      refine xone 12 (hk := p6.out) (h := RunX.of 12 (h := ?_))
      go_simp
      (try (simp only [Act.put, List.setIfInBounds_toArray, List.set]))
      obtain ⟨gx, hgx⟩ : ∃ g, g = w6.heap.size := ⟨_, rfl⟩
      obtain ⟨W7, hW7⟩ : ∃ W7, W7 = w6.alloc (.cells #[.int .i64 0, .int .i64 0, .int .i64 0, .bool false, .bool false, .bool false, .bool false, .bool false] 66) := ⟨_, rfl⟩
      have B7 : Hid (W7.heap[gx]? = some (.cells #[.int .i64 0, .int .i64 0, .int .i64 0, .bool false, .bool false, .bool false, .bool false, .bool false] 66 (0, 0))) := Lib.hid (hW7 ▸ hgx ▸ at0 w6 _)
      have Y7 : Hid (Ext W0 W7) := Lib.hid (hW7 ▸ p6.out.alloc _)
      have Z7 : Hid (Ext wb W7) := Lib.hid (hW7 ▸ pr.out.alloc _)
      have pg : wb.heap.size ≤ gx := hgx ▸ Below.size pr.out
      rw [← hW7, ← hgx]
      clear hW7 hgx
      refine xone 13 (hk := Y7.out) (h := RunX.of 13 (h := ?_))
      refine wp_st 66 (.tmp 7) (.tmp 42) rfl gx 0 66 #[.int .i64 0, .int .i64 0, .int .i64 0, .bool false, .bool false, .bool false, .bool false, .bool false] #[.int .i64 x0, .int .i64 x1, .int .i64 x2, .bool x3, .bool x4, .bool x5, .bool x6, .bool x7] #[.int .i64 x0, .int .i64 x1, .int .i64 x2, .bool x3, .bool x4, .bool x5, .bool x6, .bool x7] rfl rfl B7.out (by kernel_rfl) (by simp) rfl rfl ?_
      intro WB hWB oB
      simp only [Act.put]
      have YB : Hid (Ext W0 WB) := Lib.hid (ext_off Y7.out oB (fun b hb => by omega))
      have ZB : Hid (Ext wb WB) := Lib.hid (ext_off Z7.out oB (fun b hb => by omega))
      have RB := Lib.hid hWB
      clear hWB oB
      refine xtv 14 (h := ?_)
      (refine xdone (by kernel_rfl) (YB.out) ?_)
      go_wp2_with fail
      go_meet
      exact ⟨_, rfl, rfl, RB, ZB, pg⟩
    · go_simp
      (try (simp only [Act.put, List.setIfInBounds_toArray, List.set]))
      obtain ⟨gx, hgx⟩ : ∃ g, g = w1.heap.size := ⟨_, rfl⟩
      obtain ⟨W7, hW7⟩ : ∃ W7, W7 = w1.alloc (.cells #[.int .i64 0, .int .i64 0, .int .i64 0, .bool false, .bool false, .bool false, .bool false, .bool false] 66) := ⟨_, rfl⟩
      have B7 : Hid (W7.heap[gx]? = some (.cells #[.int .i64 0, .int .i64 0, .int .i64 0, .bool false, .bool false, .bool false, .bool false, .bool false] 66 (0, 0))) := Lib.hid (hW7 ▸ hgx ▸ at0 w1 _)
      have Y7 : Hid (Ext W0 W7) := Lib.hid (hW7 ▸ p1.out.alloc _)
      have Z7 : Hid (Ext wb W7) := Lib.hid (hW7 ▸ pp.out.alloc _)
      have pg : wb.heap.size ≤ gx := hgx ▸ Below.size pp.out
      rw [← hW7, ← hgx]
      clear hW7 hgx
      refine xone 8 (hk := Y7.out) (h := RunX.of 8 (h := ?_))
      go_simp
      refine (pSide_any W7 _ _ _ _ _ (HSA.out.ext Y7.out) _ _ Hx.out).mono ?_
      rintro e6 w6 ⟨rfl, x6⟩
      have Y6 : Hid (Ext W0 w6) := Lib.hid (Ext.trans Y7.out x6)
      have Z6 : Hid (Ext wb w6) := Lib.hid (Ext.trans Z7.out x6)
      have B6 := Lib.hid (keepU B7.out x6)
      clear x6
      dsimp only
      (try (simp only [Act.put, List.setIfInBounds_toArray, List.set]))
      refine xtv 9 (h := ?_)
      refine xtv 10 (h := ?_)
      refine xtv 11 (h := ?_)
      refine xone 13 (hk := Y6.out) (h := RunX.of 13 (h := ?_))
      refine wp_st 66 (.tmp 7) (.tmp 42) rfl gx 0 66 #[.int .i64 0, .int .i64 0, .int .i64 0, .bool false, .bool false, .bool false, .bool false, .bool false] #[.int .i64 x0, .int .i64 x1, .int .i64 x2, .bool x3, .bool x4, .bool x5, .bool x6, .bool x7] #[.int .i64 x0, .int .i64 x1, .int .i64 x2, .bool x3, .bool x4, .bool x5, .bool x6, .bool x7] rfl rfl B6.out (by kernel_rfl) (by simp) rfl rfl ?_
      intro WB hWB oB
      simp only [Act.put]
      have YB : Hid (Ext W0 WB) := Lib.hid (ext_off Y6.out oB (fun b hb => by omega))
      have ZB : Hid (Ext wb WB) := Lib.hid (ext_off Z6.out oB (fun b hb => by omega))
      have RB := Lib.hid hWB
      clear hWB oB
      refine xtv 14 (h := ?_)
      (refine xdone (by kernel_rfl) (YB.out) ?_)
      go_wp2_with fail
      go_meet
      exact ⟨_, rfl, rfl, RB, ZB, pg⟩
  case rest =>
  obtain ⟨gx, rfl, rfl, pB, pX, pG⟩ := hcut
  obtain ⟨W3, hW3⟩ : ∃ W3, W3 = wc := ⟨_, rfl⟩
  rw [← hW3] at pB pX ⊢
  clear hW3
  have XW3 : Hid (Ext W0 W3) := Lib.hid (Xb.out.trans pX.out)
  go_upto_region 4 with (fail)
  go_cut [9, 10] (fun s1 s2 wx => ∃ g, s1 = .pointer (some ⟨g, 0, none⟩) ∧ s2 = .bool true ∧ Hid (wx.heap[g]? = some (.cells #[.int .i64 y0, .int .i64 y1, .int .i64 y2, .bool y3, .bool y4, .bool y5, .bool y6, .bool y7] 66 (0, 0))) ∧ Hid (Ext W3 wx) ∧ W3.heap.size ≤ g)
  case first =>
    have q0 : W0.heap.size ≤ W3.heap.size := Below.size XW3.out
    go_wp2_with fail
    (refine wp_region_X_lit (K := fun V => Ext W0 V) (by kernel_rfl) (fun w1 hw1 => ?_))
    have qp := Lib.hid hw1
    have q1 : Hid (Ext W0 w1) := Lib.hid (XW3.out.trans hw1)
    clear hw1
    refine xtv 0 (h := ?_)
    refine xtv 1 (hv := by intro w' hw'; have hc := (HSC.out w' hw').1; go_simp; first | done | with_reducible rfl) (h := ?_)
    refine xtv 2 (h := ?_)
    refine xtv 3 (hv := by intro w' hw'; have hc := (HED.out w' hw').2; go_simp; first | done | with_reducible rfl) (h := ?_)
    refine xtv 4 (hv := by intro w' hw'; have hz := hBL; have hz2 := hBi; go_simp; first | done | with_reducible rfl) (h := ?_)
    refine xtv 5 (hv := by intro w' hw'; obtain ⟨c0, c1, c2⟩ := HDB.out w' hw'; go_simp; first | done | with_reducible rfl) (h := ?_)
    refine xtv 6 (h := ?_)
    refine xtv 7 (hv := by intro w' hw'; have hc := (HED.out w' hw').1; go_simp; first | done | with_reducible rfl) (h := ?_)
    refine xtwo 8 12 (hk := q1.out) (h := RunX.of 8 (h := ?_)) (h' := RunX.of 12 (h := ?_))
    · go_simp
      refine (pSide_any w1 _ _ _ _ _ (HSB.out.ext q1.out) _ _ Hy.out).mono ?_
      rintro e6 w6 ⟨rfl, x6⟩
      have q6 : Hid (Ext W0 w6) := Lib.hid (Ext.trans q1.out x6)
      have qr : Hid (Ext W3 w6) := Lib.hid (Ext.trans qp.out x6)
      clear x6
      dsimp only
      (try (simp only [Act.put, List.setIfInBounds_toArray, List.set]))
      refine xtv 9 (h := ?_)
      refine xtv 10 (h := ?_)
      refine xtv 11 (h := ?_)
      refine xone 12 (hk := q6.out) (h := RunX.of 12 (h := ?_))
      go_simp
      (try (simp only [Act.put, List.setIfInBounds_toArray, List.set]))
      obtain ⟨gy, hgy⟩ : ∃ g, g = w6.heap.size := ⟨_, rfl⟩
      obtain ⟨W7, hW7⟩ : ∃ W7, W7 = w6.alloc (.cells #[.int .i64 0, .int .i64 0, .int .i64 0, .bool false, .bool false, .bool false, .bool false, .bool false] 66) := ⟨_, rfl⟩
      have B7 : Hid (W7.heap[gy]? = some (.cells #[.int .i64 0, .int .i64 0, .int .i64 0, .bool false, .bool false, .bool false, .bool false, .bool false] 66 (0, 0))) := Lib.hid (hW7 ▸ hgy ▸ at0 w6 _)
      have Y7 : Hid (Ext W0 W7) := Lib.hid (hW7 ▸ q6.out.alloc _)
      have Z7 : Hid (Ext W3 W7) := Lib.hid (hW7 ▸ qr.out.alloc _)
      have qg : W3.heap.size ≤ gy := hgy ▸ Below.size qr.out
      rw [← hW7, ← hgy]
      clear hW7 hgy
      refine xone 13 (hk := Y7.out) (h := RunX.of 13 (h := ?_))
      refine wp_st 66 (.tmp 9) (.tmp 54) rfl gy 0 66 #[.int .i64 0, .int .i64 0, .int .i64 0, .bool false, .bool false, .bool false, .bool false, .bool false] #[.int .i64 y0, .int .i64 y1, .int .i64 y2, .bool y3, .bool y4, .bool y5, .bool y6, .bool y7] #[.int .i64 y0, .int .i64 y1, .int .i64 y2, .bool y3, .bool y4, .bool y5, .bool y6, .bool y7] rfl rfl B7.out (by kernel_rfl) (by simp) rfl rfl ?_
      intro WB hWB oB
      simp only [Act.put]
      have YB : Hid (Ext W0 WB) := Lib.hid (ext_off Y7.out oB (fun b hb => by omega))
      have ZB : Hid (Ext W3 WB) := Lib.hid (ext_off Z7.out oB (fun b hb => by omega))
      have RB := Lib.hid hWB
      clear hWB oB
      refine xtv 14 (h := ?_)
      (refine xdone (by kernel_rfl) (YB.out) ?_)
      go_wp2_with fail
      go_meet
      exact ⟨_, rfl, rfl, RB, ZB, qg⟩
    · go_simp
      (try (simp only [Act.put, List.setIfInBounds_toArray, List.set]))
      obtain ⟨gy, hgy⟩ : ∃ g, g = w1.heap.size := ⟨_, rfl⟩
      obtain ⟨W7, hW7⟩ : ∃ W7, W7 = w1.alloc (.cells #[.int .i64 0, .int .i64 0, .int .i64 0, .bool false, .bool false, .bool false, .bool false, .bool false] 66) := ⟨_, rfl⟩
      have B7 : Hid (W7.heap[gy]? = some (.cells #[.int .i64 0, .int .i64 0, .int .i64 0, .bool false, .bool false, .bool false, .bool false, .bool false] 66 (0, 0))) := Lib.hid (hW7 ▸ hgy ▸ at0 w1 _)
      have Y7 : Hid (Ext W0 W7) := Lib.hid (hW7 ▸ q1.out.alloc _)
      have Z7 : Hid (Ext W3 W7) := Lib.hid (hW7 ▸ qp.out.alloc _)
      have qg : W3.heap.size ≤ gy := hgy ▸ Below.size qp.out
      rw [← hW7, ← hgy]
      clear hW7 hgy
      refine xone 8 (hk := Y7.out) (h := RunX.of 8 (h := ?_))
      go_simp
      refine (pSide_any W7 _ _ _ _ _ (HSB.out.ext Y7.out) _ _ Hy.out).mono ?_
      rintro e6 w6 ⟨rfl, x6⟩
      have Y6 : Hid (Ext W0 w6) := Lib.hid (Ext.trans Y7.out x6)
      have Z6 : Hid (Ext W3 w6) := Lib.hid (Ext.trans Z7.out x6)
      have B6 := Lib.hid (keepU B7.out x6)
      clear x6
      dsimp only
      (try (simp only [Act.put, List.setIfInBounds_toArray, List.set]))
      refine xtv 9 (h := ?_)
      refine xtv 10 (h := ?_)
      refine xtv 11 (h := ?_)
      refine xone 13 (hk := Y6.out) (h := RunX.of 13 (h := ?_))
      refine wp_st 66 (.tmp 9) (.tmp 54) rfl gy 0 66 #[.int .i64 0, .int .i64 0, .int .i64 0, .bool false, .bool false, .bool false, .bool false, .bool false] #[.int .i64 y0, .int .i64 y1, .int .i64 y2, .bool y3, .bool y4, .bool y5, .bool y6, .bool y7] #[.int .i64 y0, .int .i64 y1, .int .i64 y2, .bool y3, .bool y4, .bool y5, .bool y6, .bool y7] rfl rfl B6.out (by kernel_rfl) (by simp) rfl rfl ?_
      intro WB hWB oB
      simp only [Act.put]
      have YB : Hid (Ext W0 WB) := Lib.hid (ext_off Y6.out oB (fun b hb => by omega))
      have ZB : Hid (Ext W3 WB) := Lib.hid (ext_off Z6.out oB (fun b hb => by omega))
      have RB := Lib.hid hWB
      clear hWB oB
      refine xtv 14 (h := ?_)
      (refine xdone (by kernel_rfl) (YB.out) ?_)
      go_wp2_with fail
      go_meet
      exact ⟨_, rfl, rfl, RB, ZB, qg⟩
  case rest =>
  obtain ⟨gy, rfl, rfl, qB, qX, qG⟩ := hcut
  obtain ⟨W4, hW4⟩ : ∃ W4, W4 = wc := ⟨_, rfl⟩
  rw [← hW4] at qB qX ⊢
  clear hW4
  have XW4 : Hid (Ext W0 W4) := Lib.hid (XW3.out.trans qX.out)
  have GX4 := Lib.hid (keepU pB.out qX.out)
  have GW4 := qB
  have pg := Nat.le_trans (Below.size Xb.out) pG
  have qg := Nat.le_trans (Below.size XW3.out) qG
  have E4 := Lib.hid (keepU E40.out XW4.out)
  have E5 := Lib.hid (keepU E50.out XW4.out)
  have hg1 := pg
  have hg2 := qg
  go_wp2_with fail
  (refine wp_region_X_lit (K := fun V => Ext w V ∧ V.heap[gx]? = some (.cells #[.int .i64 x0, .int .i64 x1, .int .i64 x2, .bool x3, .bool x4, .bool x5, .bool x6, .bool x7] 66 (0, 0)) ∧ V.heap[gy]? = some (.cells #[.int .i64 y0, .int .i64 y1, .int .i64 y2, .bool y3, .bool y4, .bool y5, .bool y6, .bool y7] 66 (0, 0))) (by kernel_rfl) (fun w1 hw1 => ?_))
  have HK1 : Hid (Ext w w1 ∧ w1.heap[gx]? = some (.cells #[.int .i64 x0, .int .i64 x1, .int .i64 x2, .bool x3, .bool x4, .bool x5, .bool x6, .bool x7] 66 (0, 0)) ∧ w1.heap[gy]? = some (.cells #[.int .i64 y0, .int .i64 y1, .int .i64 y2, .bool y3, .bool y4, .bool y5, .bool y6, .bool y7] 66 (0, 0))) := Lib.hid ⟨X0.out.trans (XW4.out.trans hw1), keepU GX4.out hw1, keepU GW4.out hw1⟩
  refine xtv 0 (hv := by intro w' hw'; obtain ⟨⟨⟨c0, c1⟩, c2, c3⟩, ⟨c4, c5⟩, c6, c7⟩ := cells8U hw'.2.1; go_simp; first | done | with_reducible rfl) (h := ?_)
  refine xtv 1 (hv := by intro w' hw'; obtain ⟨⟨⟨c0, c1⟩, c2, c3⟩, ⟨c4, c5⟩, c6, c7⟩ := cells8U hw'.2.2; go_simp; first | done | with_reducible rfl) (h := ?_)
  refine xtv 2 (h := ?_)
  refine xtv 3 (h := ?_)
  refine xtv 4 (h := ?_)
  refine xtv 5 (h := ?_)
  refine xtv 6 (h := ?_)
  refine xtv 7 (h := ?_)
  refine xtv 8 (hv := by intro w' hw'; obtain ⟨⟨⟨c0, c1⟩, c2, c3⟩, ⟨c4, c5⟩, c6, c7⟩ := cells8U hw'.2.1; go_simp; first | done | with_reducible rfl) (h := ?_)
  refine xtv 9 (h := ?_)
  refine xtv 10 (hv := by intro w' hw'; obtain ⟨⟨⟨c0, c1⟩, c2, c3⟩, ⟨c4, c5⟩, c6, c7⟩ := cells8U hw'.2.2; go_simp; first | done | with_reducible rfl) (h := ?_)
  refine xtv 11 (h := ?_)
  refine xtv 12 (h := ?_)
  have HKK := HK1
  have E4' := Lib.hid (keepU E4.out hw1)
  have E5' := Lib.hid (keepU E5.out hw1)
  clear HK1 E4 E5 hw1
  refine xone 13 (hk := HKK.out) (h := RunX.of 13 (h := ?_))
  · have HK1 := HKK
    have E4 := E4'
    have E5 := E5'
    refine wp_st 66 (.tmp 4) (.tmp 56) rfl (w.heap.size + 2) 0 66 #[.int .i64 0, .int .i64 0, .int .i64 0, .bool false, .bool false, .bool false, .bool false, .bool false] #[.int .i64 x0, .int .i64 x1, .int .i64 x2, .bool x3, .bool x4, .bool x5, .bool x6, .bool x7] #[.int .i64 x0, .int .i64 x1, .int .i64 x2, .bool x3, .bool x4, .bool x5, .bool x6, .bool x7] rfl rfl E4.out (by kernel_rfl) (by simp) rfl rfl ?_
    intro V00 kV00 oV00
    simp only [Act.put]
    have HKV00 : Hid (Ext w V00 ∧ V00.heap[gx]? = some (.cells #[.int .i64 x0, .int .i64 x1, .int .i64 x2, .bool x3, .bool x4, .bool x5, .bool x6, .bool x7] 66 (0, 0)) ∧ V00.heap[gy]? = some (.cells #[.int .i64 y0, .int .i64 y1, .int .i64 y2, .bool y3, .bool y4, .bool y5, .bool y6, .bool y7] 66 (0, 0))) := Lib.hid ⟨ext_off HK1.out.1 oV00 (fun b hb => by omega), oV00.blk HK1.out.2.1 (by have := HS0.out; omega), oV00.blk HK1.out.2.2 (by have := HS0.out; omega)⟩
    replace E5 := Lib.hid (oV00.blk E5.out (by omega))
    replace E4 := Lib.hid kV00
    clear kV00 oV00
    refine xone 14 (hk := HKV00.out) (h := RunX.of 14 (h := ?_))
    refine wp_st 66 (.tmp 5) (.tmp 57) rfl (w.heap.size + 3) 0 66 #[.int .i64 0, .int .i64 0, .int .i64 0, .bool false, .bool false, .bool false, .bool false, .bool false] #[.int .i64 y0, .int .i64 y1, .int .i64 y2, .bool y3, .bool y4, .bool y5, .bool y6, .bool y7] #[.int .i64 y0, .int .i64 y1, .int .i64 y2, .bool y3, .bool y4, .bool y5, .bool y6, .bool y7] rfl rfl E5.out (by kernel_rfl) (by simp) rfl rfl ?_
    intro V01 kV01 oV01
    simp only [Act.put]
    have HKV01 : Hid (Ext w V01 ∧ V01.heap[gx]? = some (.cells #[.int .i64 x0, .int .i64 x1, .int .i64 x2, .bool x3, .bool x4, .bool x5, .bool x6, .bool x7] 66 (0, 0)) ∧ V01.heap[gy]? = some (.cells #[.int .i64 y0, .int .i64 y1, .int .i64 y2, .bool y3, .bool y4, .bool y5, .bool y6, .bool y7] 66 (0, 0))) := Lib.hid ⟨ext_off HKV00.out.1 oV01 (fun b hb => by omega), oV01.blk HKV00.out.2.1 (by have := HS0.out; omega), oV01.blk HKV00.out.2.2 (by have := HS0.out; omega)⟩
    replace E4 := Lib.hid (oV01.blk E4.out (by omega))
    replace E5 := Lib.hid kV01
    clear kV01 oV01
    refine xtv 15 (h := ?_)
    (refine xdone (by kernel_rfl) (HKV01.out) ?_)
    go_wp2
    exact bodyPost_ret (v := .tuple #[.agg #[.int .i64 x0, .int .i64 x1, .int .i64 x2, .bool x3, .bool x4, .bool x5, .bool x6, .bool x7], .agg #[.int .i64 y0, .int .i64 y1, .int .i64 y2, .bool y3, .bool y4, .bool y5, .bool y6, .bool y7], .bool true]) (res_cct 6 rfl rfl rfl E4.out E5.out uSide uSide (by kernel_rfl) (by kernel_rfl)) rfl ⟨rfl, HKV01.out.1⟩
end Go.Proofs.YtfbambemjokmgaaGreat
namespace Go.Proofs.YtfbambemjokmgaaGreat
open Go.RowKit
theorem dk_eq (id1 ph1 th1 id2 ph2 th2 : Int) (L M : List Sd) (N K : List Int) : decide ((⟨id1, ph1, L, th1, N⟩ : Dk) = ⟨id2, ph2, M, th2, K⟩) = (decide ((⟨id1, ph1, L⟩ : Dn) = ⟨id2, ph2, M⟩) && decide (th1 = th2) && decide (N = K)) := by
  simp only [Dk.mk.injEq, Dn.mk.injEq, Bool.decide_and, Bool.and_assoc]
set_option maxRecDepth 100000 in
set_option maxHeartbeats 4000000 in
theorem refDkSame_any (w : World) (id1 ph1 th1 id2 ph2 th2 : Int) (v1 v2 n1 n2 : Value) (L M : List Sd) (N K : List Int) (h : Sl w v1 L) (g : Sl w v2 M) (hn : Sl w n1 N) (gn : Sl w n2 K) (t : Bool) (ht : decide ((⟨id1, ph1, L, th1, N⟩ : Dk) = ⟨id2, ph2, M, th2, K⟩) = t) :
    Calls Tryz.prog 47 #[.agg #[.int .i64 id1, .int .i64 ph1, v1, .int .i64 th1, n1], .agg #[.int .i64 id2, .int .i64 ph2, v2, .int .i64 th2, n2]] w fun e w' => e = .returned (.bool t) ∧ Ext w w' := by
  rw [dk_eq] at ht
  obtain ⟨ao, c, rfl⟩ := h.len
  obtain ⟨bo, c2, rfl⟩ := g.len
  obtain ⟨na, nc, rfl⟩ := hn.len
  obtain ⟨nb, nc2, rfl⟩ := gn.len
  obtain ⟨W0, hW0⟩ : ∃ W0, W0 = (w.alloc (.cells #[.int .i64 id1, .int .i64 ph1, .slice ao L.length c, .int .i64 th1, .slice na N.length nc] 63)).alloc (.cells #[.int .i64 id2, .int .i64 ph2, .slice bo M.length c2, .int .i64 th2, .slice nb K.length nc2] 63) := ⟨_, rfl⟩
  have X0 : Hid (Ext w W0) := Lib.hid (hW0 ▸ ((Ext.refl w).alloc _).alloc _)
  have b1 : W0.heap[w.heap.size]? = _ := hW0 ▸ old1 (at0 w _) _
  have b2 : W0.heap[w.heap.size + 1]? = _ := hW0 ▸ at1 w _ _
  have HK : Hid (∀ V, Ext W0 V → ((V.cell? ⟨w.heap.size, 0, none⟩ = some (.int .i64 id1) ∧ V.cell? ⟨w.heap.size, 1, none⟩ = some (.int .i64 ph1) ∧ V.cell? ⟨w.heap.size, 2, none⟩ = some (.slice ao L.length c)) ∧ V.cell? ⟨w.heap.size, 3, none⟩ = some (.int .i64 th1) ∧ V.cell? ⟨w.heap.size, 4, none⟩ = some (.slice na N.length nc)) ∧
      (V.cell? ⟨w.heap.size + 1, 0, none⟩ = some (.int .i64 id2) ∧ V.cell? ⟨w.heap.size + 1, 1, none⟩ = some (.int .i64 ph2) ∧ V.cell? ⟨w.heap.size + 1, 2, none⟩ = some (.slice bo M.length c2)) ∧ V.cell? ⟨w.heap.size + 1, 3, none⟩ = some (.int .i64 th2) ∧ V.cell? ⟨w.heap.size + 1, 4, none⟩ = some (.slice nb K.length nc2)) := Lib.hid fun V hV => by
    have q1 := keepU b1 hV
    have q2 := keepU b2 hV
    exact ⟨⟨⟨blk_cell q1 0 rfl, blk_cell q1 1 rfl, blk_cell q1 2 rfl⟩, blk_cell q1 3 rfl, blk_cell q1 4 rfl⟩, ⟨blk_cell q2 0 rfl, blk_cell q2 1 rfl, blk_cell q2 2 rfl⟩, blk_cell q2 3 rfl, blk_cell q2 4 rfl⟩
  have HS := Lib.hid (h.ext X0.out)
  have HG := Lib.hid (g.ext X0.out)
  have HN := Lib.hid (hn.ext X0.out)
  have HM := Lib.hid (gn.ext X0.out)
  have HW0 := Lib.hid hW0
  obtain ⟨s, hs⟩ : ∃ s, decide ((⟨id1, ph1, L⟩ : Dn) = ⟨id2, ph2, M⟩) = s := ⟨_, rfl⟩
  obtain ⟨r, hr⟩ : ∃ r, decide (N = K) = r := ⟨_, rfl⟩
  rw [hs, hr] at ht
  have HD := Lib.hid hs
  have HR := Lib.hid hr
  have HT := Lib.hid ht
  clear h g hn gn hW0 b1 b2 hs hr ht
  cases s
  · go_enter Tryz.func47, Tryz.ntmps47
    go_upto_region 1 with (fail)
    rw [← HW0.out]
    obtain ⟨⟨⟨a0, a1, a2⟩, a3, a4⟩, ⟨c0, c1, c2⟩, c3, c4⟩ := HK.out W0 (Ext.refl _)
    go_wp2_with (go_at_call 87; refine (refSameOne_any W0 id1 ph1 id2 ph2 _ _ L M HS.out HG.out false HD.out).mono ?_; rintro e w1 ⟨rfl, x1⟩; have X1 := Lib.hid x1; clear x1)
    go_ret
    exact ⟨ret_bool (by rw [← HT.out]; rfl), X0.out.trans X1.out⟩
  by_cases e : th1 = th2
  · have hd : (th1 == th2) = true := by simpa using e
    have HE : Hid (decide (th1 = th2) = true) := Lib.hid (decide_eq_true e)
    clear e
    go_enter Tryz.func47, Tryz.ntmps47
    go_upto_region 1 with (fail)
    rw [← HW0.out]
    obtain ⟨⟨⟨a0, a1, a2⟩, a3, a4⟩, ⟨c0, c1, c2⟩, c3, c4⟩ := HK.out W0 (Ext.refl _)
    go_wp2_with (first
      | (go_at_call 87; refine (refSameOne_any W0 id1 ph1 id2 ph2 _ _ L M HS.out HG.out true HD.out).mono ?_; rintro e w1 ⟨rfl, x1⟩; have X1 := Lib.hid x1; clear a0 a1 a2 a3 a4 c0 c1 c2 c3 c4; obtain ⟨⟨⟨a0, a1, a2⟩, a3, a4⟩, ⟨c0, c1, c2⟩, c3, c4⟩ := HK.out w1 x1; clear x1)
      | (go_at_call 21; refine (refSame_val r _ _ _ N K (HN.out.ext X1.out) (HM.out.ext X1.out) HR.out).mono ?_; rintro e w2 ⟨rfl, x2⟩; have X2 := Lib.hid x2; clear x2))
    go_ret
    exact ⟨ret_bool (by rw [← HT.out, HE.out]; rfl), (X0.out.trans X1.out).trans (Drew.below X2.out _)⟩
  · have hd : (th1 == th2) = false := by simpa using e
    have HE : Hid (decide (th1 = th2) = false) := Lib.hid (decide_eq_false e)
    clear e
    go_enter Tryz.func47, Tryz.ntmps47
    go_upto_region 1 with (fail)
    rw [← HW0.out]
    obtain ⟨⟨⟨a0, a1, a2⟩, a3, a4⟩, ⟨c0, c1, c2⟩, c3, c4⟩ := HK.out W0 (Ext.refl _)
    go_wp2_with (go_at_call 87; refine (refSameOne_any W0 id1 ph1 id2 ph2 _ _ L M HS.out HG.out true HD.out).mono ?_; rintro e w1 ⟨rfl, x1⟩; have X1 := Lib.hid x1; clear a0 a1 a2 a3 a4 c0 c1 c2 c3 c4; obtain ⟨⟨⟨a0, a1, a2⟩, a3, a4⟩, ⟨c0, c1, c2⟩, c3, c4⟩ := HK.out w1 x1; clear x1)
    go_ret
    exact ⟨ret_bool (by rw [← HT.out, HE.out]; rfl), X0.out.trans X1.out⟩
end Go.Proofs.YtfbambemjokmgaaGreat
namespace Go.Proofs.YtfbambemjokmgaaGreat
open Go.RowKit
theorem uDrinker : ∃ fs, Tryz.prog.underlying 63 = some (.struct fs) := ⟨_, Tryz.underlying63⟩
theorem cells5 {w : World} {g : Nat} {u0 u1 u2 u3 u4 : Value} {t : TypeId} (h : w.heap[g]? = some (.cells #[u0, u1, u2, u3, u4] t (0, 0))) :
    (w.cell? ⟨g, 0, none⟩ = some u0 ∧ w.cell? ⟨g, 1, none⟩ = some u1 ∧ w.cell? ⟨g, 2, none⟩ = some u2) ∧ w.cell? ⟨g, 3, none⟩ = some u3 ∧ w.cell? ⟨g, 4, none⟩ = some u4 := ⟨⟨blk_cell h 0 rfl, blk_cell h 1 rfl, blk_cell h 2 rfl⟩, blk_cell h 3 rfl, blk_cell h 4 rfl⟩
theorem apartSd {W : World} {g : Nat} {v : Value} {S : List Sd} {cs : Array Value} {t : TypeId} {fr : Nat × Nat} (h : Sl W v S) (hg : W.heap[g]? = some (.cells cs t fr)) (hc : cs.size < 8) : Av (fun k => k = g) v S := by
  obtain ⟨ao, c, rfl⟩ := h.len
  cases S with
  | nil => exact .inl rfl
  | cons s l =>
    refine .inr fun b hb hbg => ?_
    obtain ⟨b1, off, y, _, _, rfl, _, _, _, _, hcs⟩ := h.sidesAt (k := 0) (by simp)
    obtain ⟨_, _, _, x7⟩ := hcs W (Ext.refl _)
    simp only [Value.ownBlock, Option.some.injEq] at hb
    subst hb
    subst hbg
    unfold World.cell? at x7
    simp only [hg] at x7
    have : cs[off + 0 * 8 + 7]? = none := by rw [Array.getElem?_eq_none]; omega
    simp [this] at x7
theorem apartMl {W : World} {g : Nat} {v : Value} {M : List Ml} {cs : Array Value} {t : TypeId} {fr : Nat × Nat} (h : Sl W v M) (hg : W.heap[g]? = some (.cells cs t fr)) (hc : ∀ u ∈ cs.toList.drop 4, ∀ x, u ≠ Value.int .i64 x) : Av (fun k => k = g) v M := by
  obtain ⟨ao, c, rfl⟩ := h.len
  cases M with
  | nil => exact .inl rfl
  | cons m l =>
    refine .inr fun b hb hbg => ?_
    obtain ⟨b1, off, y, _, _, rfl, _, _, _, _, hcs⟩ := h.mailAt (k := 0) (by simp)
    obtain ⟨_, _, _, x4⟩ := hcs W (Ext.refl _)
    simp only [Value.ownBlock, Option.some.injEq] at hb
    subst hb
    subst hbg
    unfold World.cell? at x4
    simp only [hg] at x4
    have e : cs[off + 0 * 5 + 4]? = some (.int .i64 y.num) := by simpa using x4
    refine hc _ ?_ y.num rfl
    rw [List.mem_iff_getElem?]
    refine ⟨off, ?_⟩
    rw [List.getElem?_drop]
    rw [show 4 + off = off + 0 * 5 + 4 from by omega]
    simpa using e
structure OnceAt (w : World) (id ph th : Int) (nv vk : Value) (S : List Sd) (vo : Value) (M : List Ml) (W : World) : Prop where
  ext : Ext w W
  dbox : W.heap[w.heap.size]? = some (.cells #[.int .i64 id, .int .i64 ph, vk, .int .i64 th, nv] 63 (0, 0))
  rbox : W.heap[w.heap.size + 1]? = some (.cells #[.int .i64 0, .int .i64 0, .slice none 0 0, .int .i64 0, .slice none 0 0] 63 (0, 0))
  sides : Sl W vk S
  av : Av (fun k => k = w.heap.size ∨ k = w.heap.size + 1 ∨ vo.ownBlock = some k) vk S
  out : Ow W (w.heap.size + 2) vo M
section
variable {w W W' : World} {id ph th : Int} {nv vk vo : Value} {S : List Sd} {M : List Ml}
theorem OnceAt.ext' (h : OnceAt w id ph th nv vk S vo M W) (x : Ext W W') : OnceAt w id ph th nv vk S vo M W' :=
  ⟨h.ext.trans x, keepU h.dbox x, keepU h.rbox x, h.sides.ext x, h.av, h.out.ext x⟩
theorem OnceAt.more {v2 : Value} {M2 : List Ml} (h : OnceAt w id ph th nv vk S vo M W) (ho : Ow W' (w.heap.size + 2) v2 M2) (ha : Apd (w.heap.size + 2) vo v2 W W') : OnceAt w id ph th nv vk S v2 M2 W' := by
  have z := blk_lt h.rbox
  have o : Off (fun k => vo.ownBlock = some k) W W' := off_grown ha.grown
  refine ⟨Below.trans h.ext (ha.below.mono (by omega)), (ha.below.block _ (by omega)).trans h.dbox, (ha.below.block _ (by omega)).trans h.rbox, h.sides.off (h.av.imp (fun h => h) fun h b hb hf => h b hb (.inr (.inr hf))) o, ?_, ho⟩
  rcases h.av with e | e
  · exact .inl e
  · rcases h.sides.low with e2 | e2
    · exact .inl e2
    · refine .inr fun b hb hf => ?_
      rcases hf with e3 | e3 | e3
      · exact e b hb (.inl e3)
      · exact e b hb (.inr (.inl e3))
      · rcases ha.block with e4 | e4
        · exact e b hb (.inr (.inr (by rw [← e4]; exact e3)))
        · have := e4 b e3; have := e2 b hb; omega
end
def goneK (th : Int) (N : List Int) (F : List Sd) (k : Nat) : List Sd := (F.take k).map (bottleS th N) ++ F.drop k
theorem goneK_at {th : Int} {N : List Int} {F : List Sd} {k : Nat} {s : Sd} (h : F[k]? = some s) : (goneK th N F k)[k]? = some s ∧ (goneK th N F k).length = F.length ∧ (goneK th N F k).set k (bottleS th N s) = goneK th N F (k + 1) := by
  have hk := (List.getElem?_eq_some_iff.1 h).1
  unfold goneK
  have hl : ((F.take k).map (bottleS th N)).length = k := by simp; omega
  refine ⟨?_, ?_, ?_⟩
  · rw [List.getElem?_append_right (by omega), hl, Nat.sub_self, List.getElem?_drop, Nat.add_zero]; exact h
  · rw [List.length_append, hl, List.length_drop]; omega
  · rw [List.set_append_right _ _ (by omega), hl, Nat.sub_self, List.take_succ_eq_append_getElem hk, List.map_append, List.append_assoc]
    have hd : F.drop k = s :: F.drop (k + 1) := by
      rw [← (List.getElem?_eq_some_iff.1 h).2, List.getElem_cons_drop hk]
    rw [hd, (List.getElem?_eq_some_iff.1 h).2]; rfl
theorem goneK_end {th : Int} {N : List Int} {F : List Sd} : goneK th N F F.length = F.map (bottleS th N) := by
  unfold goneK; rw [List.take_length, List.drop_length, List.append_nil]
def sentK (id th : Int) (N : List Int) (F : List Sd) (k : Nat) : List Ml := (F.take k).flatMap (bottleM id th N)
theorem sentK_next {id th : Int} {N : List Int} {F : List Sd} {k : Nat} {s : Sd} (h : F[k]? = some s) : sentK id th N F (k + 1) = sentK id th N F k ++ bottleM id th N s := by
  have hk := (List.getElem?_eq_some_iff.1 h).1
  unfold sentK
  rw [List.take_succ_eq_append_getElem hk, (List.getElem?_eq_some_iff.1 h).2, List.flatMap_append]; simp
theorem sentK_len {id th : Int} {N : List Int} {F : List Sd} (k : Nat) : (sentK id th N F k).length ≤ 2 * F.length := by
  have h1 : ∀ G : List Sd, (G.flatMap (bottleM id th N)).length ≤ 2 * G.length := fun G => by
    induction G with
    | nil => simp
    | cons s G ih =>
      rw [List.flatMap_cons, List.length_append, List.length_cons]
      have : (bottleM id th N s).length ≤ 2 := by
        unfold bottleM
        rw [List.length_append]
        have h1 : (if pours th N s = true then [(⟨id, s.peer, 3, s.epoch, 0⟩ : Ml)] else []).length ≤ 1 := by split <;> simp
        have h2 : (if asksK th N (poured th N s) = true then [(⟨id, s.peer, 4, s.epoch, 0⟩ : Ml)] else []).length ≤ 1 := by split <;> simp
        omega
      omega
  have := h1 (F.take k)
  unfold sentK
  rw [List.length_take] at this
  omega
end Go.Proofs.YtfbambemjokmgaaGreat
namespace Go.Proofs.YtfbambemjokmgaaGreat
open Go.RowKit
theorem things_le (L : List Sd) : things L ≤ 4 * L.length := by
  unfold things
  induction L with
  | nil => simp
  | cons s L ih =>
    rw [List.map_cons, List.sum_cons, List.length_cons]
    have : thing s ≤ 4 := by unfold thing; cases s.fork <;> cases s.token <;> cases s.bottle <;> cases s.ask <;> decide
    omega
structure AlongK (d0 d : Dk) (M : List Ml) : Prop where
  all : fireAll d0 = ((fireAll d).1, M ++ (fireAll d).2)
  len : d.sides.length = d0.sides.length
  need : d.need = d0.need
theorem AlongK.start (d : Dk) : AlongK d d [] := ⟨rfl, rfl, rfl⟩
theorem AlongK.next {d0 d : Dk} {M : List Ml} (h : AlongK d0 d M) (hn : (onceK d).1 ≠ d) : AlongK d0 (onceK d).1 (M ++ (onceK d).2) :=
  ⟨by rw [h.all, fireAll_on hn, List.append_assoc], (once_len d).trans h.len, h.need⟩
theorem AlongK.ends {d0 d : Dk} {M : List Ml} (h : AlongK d0 d M) (he : (onceK d).1 = d) : fireAll d0 = (d, M) ∧ (onceK d).2 = [] := by
  have := h.all
  rw [fireAll_end he] at this
  exact ⟨by rw [this, List.append_nil], once_nil he⟩
theorem AlongK.few {d0 d : Dk} {M : List Ml} (h : AlongK d0 d M) : M.length + (onceK d).2.length ≤ 8 * d0.sides.length := by
  have h1 := fireAll_things (n := leftK d0 + 1) (d := d0) (Nat.lt_succ_self _)
  have h2 := once_things d
  have h3 := things_le d0.sides
  have h4 := things_le d.sides
  rw [h.all] at h1
  dsimp only at h1
  rw [List.length_append] at h1
  have := h.len
  omega
theorem OnceAt.swap {w W W2 W' : World} {id ph th id2 ph2 th2 : Int} {nv vk v2 vo : Value} {S S2 : List Sd} {M : List Ml} (h : OnceAt w id ph th nv vk S vo M W) (x : Ext W W2) (hs : Sl W2 v2 S2) (hv : S2 = [] ∨ ∀ b, v2.ownBlock = some b → W.heap.size ≤ b)
    (hb : W'.heap[w.heap.size]? = some (.cells #[.int .i64 id2, .int .i64 ph2, v2, .int .i64 th2, nv] 63 (0, 0))) (o : Off (fun k => k = w.heap.size) W2 W') : OnceAt w id2 ph2 th2 nv v2 S2 vo M W' := by
  have h2 := h.ext' x
  have z := blk_lt h.rbox
  have z2 := Below.size x
  refine ⟨ext_off h2.ext o (fun k hk => by omega), hb, (o.block _ (blk_lt h2.rbox) (by omega)).trans h2.rbox, ?_, ?_, owU h2.out fun b hb2 => o.block b (h2.out.low b hb2).2 (by have := (h2.out.low b hb2).1; omega)⟩
  · exact hs.off (hv.imp (fun h => h) fun h b hb hf => by have := h b hb; omega) o
  · refine hv.imp (fun q => q) fun q b hb2 hf => ?_
    have h1 := q b hb2
    rcases hf with e | e | e
    · omega
    · omega
    · have := (h.out.low b e).2; omega
theorem OnceAt.swap2 {w W W2 W' : World} {id ph th id2 ph2 th2 : Int} {nv vk v2 vo : Value} {S S2 : List Sd} {M : List Ml} (h : OnceAt w id ph th nv vk S vo M W) (x : Ext W W2) (hs : Sl W2 v2 S2) (hv : S2 = [] ∨ ∀ b, v2.ownBlock = some b → w.heap.size + 2 ≤ b ∧ vo.ownBlock ≠ some b)
    (hb : W'.heap[w.heap.size]? = some (.cells #[.int .i64 id2, .int .i64 ph2, v2, .int .i64 th2, nv] 63 (0, 0))) (o : Off (fun k => k = w.heap.size) W2 W') : OnceAt w id2 ph2 th2 nv v2 S2 vo M W' := by
  have h2 := h.ext' x
  have z2 := Below.size x
  refine ⟨ext_off h2.ext o (fun k hk => by omega), hb, (o.block _ (blk_lt h2.rbox) (by omega)).trans h2.rbox, ?_, ?_, owU h2.out fun b hb2 => o.block b (h2.out.low b hb2).2 (by have := (h2.out.low b hb2).1; omega)⟩
  · exact hs.off (hv.imp (fun h => h) fun h b hb hf => by have := h b hb; omega) o
  · refine hv.imp (fun q => q) fun q b hb2 hf => ?_
    have h1 := q b hb2
    rcases hf with e | e | e
    · omega
    · omega
    · exact h1.2 e
theorem newApart {S : List Sd} {v vo vo' : Value} {n m k : Nat} (h1 : S = [] ∨ ∀ b, v.ownBlock = some b → n ≤ b) (h2 : S = [] ∨ ∀ b, v.ownBlock = some b → b < m) (hk : k ≤ n) (h3 : ∀ b, vo.ownBlock = some b → b < n)
    (h4 : vo'.ownBlock = vo.ownBlock ∨ ∀ b, vo'.ownBlock = some b → m ≤ b) : S = [] ∨ ∀ b, v.ownBlock = some b → k ≤ b ∧ vo'.ownBlock ≠ some b := by
  rcases h1 with e | h1
  · exact .inl e
  rcases h2 with e | h2
  · exact .inl e
  refine .inr fun b hb => ⟨by have := h1 b hb; omega, fun e => ?_⟩
  have := h1 b hb
  have := h2 b hb
  rcases h4 with h4 | h4
  · rw [h4] at e; have := h3 b e; omega
  · have := h4 b e; omega
end Go.Proofs.YtfbambemjokmgaaGreat
