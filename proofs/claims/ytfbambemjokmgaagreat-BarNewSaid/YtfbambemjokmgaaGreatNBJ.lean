/- Texts of this seat. -/
import Derived.Test.YtfbambemjokmgaaGreatNAT
namespace Go.Proofs.YtfbambemjokmgaaGreat
open Go.RowKit
section
variable {P : Program} {fn : Func} {tmps : Array Value} {w : World} {t t2 : Tmp} {ty ty2 tt tt2 : TypeId} {g g2 : Nat} {cs cs2 : Array Value}
theorem res_cct (u : Tmp) (h : fn.results = #[.cell t ty, .cell t2 ty2, .tmp u]) (ht : tmps.getD t undef = .pointer (some ⟨g, 0, none⟩)) (ht2 : tmps.getD t2 undef = .pointer (some ⟨g2, 0, none⟩)) (hg : w.heap[g]? = some (.cells cs tt (0, 0))) (hg2 : w.heap[g2]? = some (.cells cs2 tt2 (0, 0)))
    (hu : ∃ fs, P.underlying ty = some (.struct fs)) (hu2 : ∃ fs, P.underlying ty2 = some (.struct fs)) (hi : (P.info? ty).map (·.size) = some cs.size) (hi2 : (P.info? ty2).map (·.size) = some cs2.size) :
    (results fn tmps).run P w = .ok (.tuple #[.agg cs, .agg cs2, tmps.getD u undef]) w := by
  obtain ⟨fs, hu⟩ := hu
  obtain ⟨fs2, hu2⟩ := hu2
  have ht3 : tmps[t]?.getD undef = .pointer (some ⟨g, 0, none⟩) := by simpa using ht
  have ht4 : tmps[t2]?.getD undef = .pointer (some ⟨g2, 0, none⟩) := by simpa using ht2
  simp [results, h, ht3, ht4, asAddr, run_loadVar_row w g tt ty cs (0, 0) _ hg hu rfl hi, run_loadVar_row w g2 tt2 ty2 cs2 (0, 0) _ hg2 hu2 rfl hi2]
end
set_option maxRecDepth 100000 in
set_option maxHeartbeats 16000000 in
theorem ends_any (w : World) (vd vm : Value) (L : List Dn) (M : List Ml) (h : SV w vd vm L M) (A B : Nat) (iA pA iB pB : Int) (SA SB : List Sd) (hA : L[A]? = some ⟨iA, pA, SA⟩) (hB : L[B]? = some ⟨iB, pB, SB⟩) (hne : A ≠ B) (x y : Sd) (hx : sideR SA B = (x, true)) (hy : sideR SB A = (y, true)) (he : x.epoch = y.epoch) :
    Calls Tryz.prog 114 #[.agg #[vd, vm], .agg #[.int .i64 A, .int .i64 B]] w fun e w' => e = .returned (.tuple #[.agg x.cs, .agg y.cs, .bool true]) ∧ Ext w w' := by
  have hAL := (List.getElem?_eq_some_iff.1 hA).1
  have hBL := (List.getElem?_eq_some_iff.1 hB).1
  obtain ⟨ao, c, bo, d, rfl, rfl⟩ := h.len
  obtain ⟨W0, hW0⟩ : ∃ W0, W0 = (((w.alloc (.cells #[.slice ao L.length c, .slice bo M.length d] 48)).alloc (.cells #[.int .i64 A, .int .i64 B] 30)).alloc (.cells #[.int .i64 0, .int .i64 0, .int .i64 0, .bool false, .bool false, .bool false, .bool false, .bool false] 66)).alloc (.cells #[.int .i64 0, .int .i64 0, .int .i64 0, .bool false, .bool false, .bool false, .bool false, .bool false] 66) := ⟨_, rfl⟩
  have X0 : Hid (Ext w W0) := Lib.hid (hW0 ▸ ((((Ext.refl w).alloc _).alloc _).alloc _).alloc _)
  have B0 : Hid (W0.heap[w.heap.size]? = some (.cells #[.slice ao L.length c, .slice bo M.length d] 48 (0, 0))) := Lib.hid (hW0 ▸ old1 (old1 (old1 (at0 w _) _) _) _)
  have D0 : Hid (W0.heap[w.heap.size + 1]? = some (.cells #[.int .i64 A, .int .i64 B] 30 (0, 0))) := Lib.hid (hW0 ▸ old1 (old1 (at1 w _ _) _) _)
  have E40 : Hid (W0.heap[w.heap.size + 2]? = some (.cells #[.int .i64 0, .int .i64 0, .int .i64 0, .bool false, .bool false, .bool false, .bool false, .bool false] 66 (0, 0))) := Lib.hid (hW0 ▸ old1 (at2 w _ _ _) _)
  have E50 : Hid (W0.heap[w.heap.size + 3]? = some (.cells #[.int .i64 0, .int .i64 0, .int .i64 0, .bool false, .bool false, .bool false, .bool false, .bool false] 66 (0, 0))) := Lib.hid (hW0 ▸ at3 w _ _ _ _)
  have HS0 : Hid (W0.heap.size = w.heap.size + 4) := Lib.hid (by rw [hW0, size_alloc, size_alloc, size_alloc, size_alloc])
  have HW0 := Lib.hid hW0
  have HV := Lib.hid (h.ext X0.out)
  have HSC : Hid (∀ V, Ext W0 V → V.cell? ⟨w.heap.size, 0, none⟩ = some (.slice ao L.length c) ∧ V.cell? ⟨w.heap.size, 1, none⟩ = some (.slice bo M.length d)) := Lib.hid fun V hV => cells2S (keepU B0.out hV)
  have HED : Hid (∀ V, Ext W0 V → V.cell? ⟨w.heap.size + 1, 0, none⟩ = some (.int .i64 (A : Int)) ∧ V.cell? ⟨w.heap.size + 1, 1, none⟩ = some (.int .i64 (B : Int))) := Lib.hid fun V hV => cells2S (keepU D0.out hV)
  obtain ⟨bA, oA, soA, scA, dA, hykA, hao, _, hnc, hc63, hbA, hslA, hcellA⟩ := HV.out.ds.dinerAt hAL
  obtain ⟨bB, oB, soB, scB, dB, hykB, hao2, _, _, _, hbB, hslB, hcellB⟩ := HV.out.ds.dinerAt hBL
  obtain rfl : dA = ⟨iA, pA, SA⟩ := by have := hykA.symm.trans hA; simpa using this
  obtain rfl : dB = ⟨iB, pB, SB⟩ := by have := hykB.symm.trans hB; simpa using this
  subst hao
  obtain ⟨rfl, rfl⟩ : bA = bB ∧ oA = oB := by simpa using hao2
  dsimp only at hslA hslB hcellA hcellB
  have HDA := Lib.hid hcellA
  have HDB := Lib.hid hcellB
  have HSA := Lib.hid hslA.sl
  have HSB := Lib.hid hslB.sl
  have Hx := Lib.hid hx
  have Hy := Lib.hid hy
  have hAi : (A : Int) < (L.length : Int) := by omega
  have hBi : (B : Int) < (L.length : Int) := by omega
  have hab : ((A : Int) == (B : Int)) = false := by simp; omega
  obtain ⟨x0, x1, x2, x3, x4, x5, x6, x7⟩ := x
  obtain ⟨y0, y1, y2, y3, y4, y5, y6, y7⟩ := y
  unfold Sd.cs
  dsimp only at he ⊢
  have hep : (x1 == y1) = true := by simp [he]
  obtain ⟨k0, k1⟩ := HSC.out W0 (Ext.refl _)
  obtain ⟨k2, k3⟩ := HED.out W0 (Ext.refl _)
  clear h hW0 hA hB hx hy he hne hykA hykB hao2 hslA hslB hcellA hcellB
  go_enter Tryz.func114, Tryz.ntmps114
  go_upto_region 1 with (fail)
  rw [← HW0.out]
  go_upto_region 3 with (first
    | (have hgd := Xa; go_at_call 106; refine (has_node wa _ _ L M (B : Int) (HV.out.ext Xa.out) true (node_iff.2 ⟨by omega, hBi⟩)).mono ?_; rintro e wb ⟨rfl, hx⟩; have Xb := Lib.hid (Xa.out.trans hx); clear hx)
    | (go_at_call 106; refine (has_node W0 _ _ L M (A : Int) HV.out true (node_iff.2 ⟨by omega, hAi⟩)).mono ?_; rintro e wa ⟨rfl, hx⟩; have Xa := Lib.hid hx; obtain ⟨j0, j1⟩ := HSC.out wa hx; obtain ⟨j2, j3⟩ := HED.out wa hx; clear hx))
  clear k0 k1 k2 k3 j0 j1 j2 j3 hab
  go_upto_region 3 with (fail)
  go_cut [7, 8] (fun s1 s2 wx => ∃ g, s1 = .pointer (some ⟨g, 0, none⟩) ∧ s2 = .bool true ∧ Hid (wx.heap[g]? = some (.cells #[.int .i64 x0, .int .i64 x1, .int .i64 x2, .bool x3, .bool x4, .bool x5, .bool x6, .bool x7] 66 (0, 0))) ∧ Hid (Ext wb wx) ∧ wb.heap.size ≤ g)
  case first =>
    have p0 : W0.heap.size ≤ wb.heap.size := Below.size Xb.out
    go_wp2_with fail
    (refine wp_region_X_lit (K := fun V => Ext W0 V) (by kernel_rfl) (fun w1 hw1 => ?_))
    have pp := Lib.hid hw1
    have p1 : Hid (Ext W0 w1) := Lib.hid (Xb.out.trans hw1)
    clear hw1
    refine xtv 0 (h := ?_)
    refine xtv 1 (hv := by intro w' hw'; have hc := (HSC.out w' hw').1; go_simp; first | done | with_reducible rfl) (h := ?_)
    refine xtv 2 (h := ?_)
    refine xtv 3 (hv := by intro w' hw'; have hc := (HED.out w' hw').1; go_simp; first | done | with_reducible rfl) (h := ?_)
    refine xtv 4 (hv := by intro w' hw'; have hz := hAL; have hz2 := hAi; go_simp; first | done | with_reducible rfl) (h := ?_)
    refine xtv 5 (hv := by intro w' hw'; obtain ⟨c0, c1, c2⟩ := HDA.out w' hw'; go_simp; first | done | with_reducible rfl) (h := ?_)
    refine xtv 6 (h := ?_)
    refine xtv 7 (hv := by intro w' hw'; have hc := (HED.out w' hw').2; go_simp; first | done | with_reducible rfl) (h := ?_)
    refine xtwo 8 12 (hk := p1.out) (h := RunX.of 8 (h := ?_)) (h' := RunX.of 12 (h := ?_))
    · go_simp
      refine (pSide_any w1 _ _ _ _ _ (HSA.out.ext p1.out) _ _ Hx.out).mono ?_
      rintro e6 w6 ⟨rfl, x6⟩
      have p6 : Hid (Ext W0 w6) := Lib.hid (Ext.trans p1.out x6)
      have pr : Hid (Ext wb w6) := Lib.hid (Ext.trans pp.out x6)
      clear x6
      dsimp only
      (try (simp only [Act.put, List.setIfInBounds_toArray, List.set]))
      refine xtv 9 (h := ?_)
      refine xtv 10 (h := ?_)
      refine xtv 11 (h := ?_)
      refine xone 12 (hk := p6.out) (h := RunX.of 12 (h := ?_))
      go_simp
      (try (simp only [Act.put, List.setIfInBounds_toArray, List.set]))
      obtain ⟨gx, hgx⟩ : ∃ g, g = w6.heap.size := ⟨_, rfl⟩
      obtain ⟨W7, hW7⟩ : ∃ W7, W7 = w6.alloc (.cells #[.int .i64 0, .int .i64 0, .int .i64 0, .bool false, .bool false, .bool false, .bool false, .bool false] 66) := ⟨_, rfl⟩
      have B7 : Hid (W7.heap[gx]? = some (.cells #[.int .i64 0, .int .i64 0, .int .i64 0, .bool false, .bool false, .bool false, .bool false, .bool false] 66 (0, 0))) := Lib.hid (hW7 ▸ hgx ▸ at0 w6 _)
      have Y7 : Hid (Ext W0 W7) := Lib.hid (hW7 ▸ p6.out.alloc _)
      have Z7 : Hid (Ext wb W7) := Lib.hid (hW7 ▸ pr.out.alloc _)
      have pg : wb.heap.size ≤ gx := hgx ▸ Below.size pr.out
      rw [← hW7, ← hgx]
      clear hW7 hgx
      refine xone 13 (hk := Y7.out) (h := RunX.of 13 (h := ?_))
      refine wp_st 66 (.tmp 7) (.tmp 42) rfl gx 0 66 #[.int .i64 0, .int .i64 0, .int .i64 0, .bool false, .bool false, .bool false, .bool false, .bool false] #[.int .i64 x0, .int .i64 x1, .int .i64 x2, .bool x3, .bool x4, .bool x5, .bool x6, .bool x7] #[.int .i64 x0, .int .i64 x1, .int .i64 x2, .bool x3, .bool x4, .bool x5, .bool x6, .bool x7] rfl rfl B7.out (by kernel_rfl) (by simp) rfl rfl ?_
      intro WB hWB oB
      simp only [Act.put]
      have YB : Hid (Ext W0 WB) := Lib.hid (ext_off Y7.out oB (fun b hb => by omega))
      have ZB : Hid (Ext wb WB) := Lib.hid (ext_off Z7.out oB (fun b hb => by omega))
      have RB := Lib.hid hWB
      clear hWB oB
      refine xtv 14 (h := ?_)
      (refine xdone (by kernel_rfl) (YB.out) ?_)
      go_wp2_with fail
      go_meet
      exact ⟨_, rfl, rfl, RB, ZB, pg⟩
    · go_simp
      (try (simp only [Act.put, List.setIfInBounds_toArray, List.set]))
      obtain ⟨gx, hgx⟩ : ∃ g, g = w1.heap.size := ⟨_, rfl⟩
      obtain ⟨W7, hW7⟩ : ∃ W7, W7 = w1.alloc (.cells #[.int .i64 0, .int .i64 0, .int .i64 0, .bool false, .bool false, .bool false, .bool false, .bool false] 66) := ⟨_, rfl⟩
      have B7 : Hid (W7.heap[gx]? = some (.cells #[.int .i64 0, .int .i64 0, .int .i64 0, .bool false, .bool false, .bool false, .bool false, .bool false] 66 (0, 0))) := Lib.hid (hW7 ▸ hgx ▸ at0 w1 _)
      have Y7 : Hid (Ext W0 W7) := Lib.hid (hW7 ▸ p1.out.alloc _)
      have Z7 : Hid (Ext wb W7) := Lib.hid (hW7 ▸ pp.out.alloc _)
      have pg : wb.heap.size ≤ gx := hgx ▸ Below.size pp.out
      rw [← hW7, ← hgx]
      clear hW7 hgx
      refine xone 8 (hk := Y7.out) (h := RunX.of 8 (h := ?_))
      go_simp
      refine (pSide_any W7 _ _ _ _ _ (HSA.out.ext Y7.out) _ _ Hx.out).mono ?_
      rintro e6 w6 ⟨rfl, x6⟩
      have Y6 : Hid (Ext W0 w6) := Lib.hid (Ext.trans Y7.out x6)
      have Z6 : Hid (Ext wb w6) := Lib.hid (Ext.trans Z7.out x6)
      have B6 := Lib.hid (keepU B7.out x6)
      clear x6
      dsimp only
      (try (simp only [Act.put, List.setIfInBounds_toArray, List.set]))
      refine xtv 9 (h := ?_)
      refine xtv 10 (h := ?_)
      refine xtv 11 (h := ?_)
      refine xone 13 (hk := Y6.out) (h := RunX.of 13 (h := ?_))
      refine wp_st 66 (.tmp 7) (.tmp 42) rfl gx 0 66 #[.int .i64 0, .int .i64 0, .int .i64 0, .bool false, .bool false, .bool false, .bool false, .bool false] #[.int .i64 x0, .int .i64 x1, .int .i64 x2, .bool x3, .bool x4, .bool x5, .bool x6, .bool x7] #[.int .i64 x0, .int .i64 x1, .int .i64 x2, .bool x3, .bool x4, .bool x5, .bool x6, .bool x7] rfl rfl B6.out (by kernel_rfl) (by simp) rfl rfl ?_
      intro WB hWB oB
      simp only [Act.put]
      have YB : Hid (Ext W0 WB) := Lib.hid (ext_off Y6.out oB (fun b hb => by omega))
      have ZB : Hid (Ext wb WB) := Lib.hid (ext_off Z6.out oB (fun b hb => by omega))
      have RB := Lib.hid hWB
      clear hWB oB
      refine xtv 14 (h := ?_)
      (refine xdone (by kernel_rfl) (YB.out) ?_)
      go_wp2_with fail
      go_meet
      exact ⟨_, rfl, rfl, RB, ZB, pg⟩
  case rest =>
  obtain ⟨gx, rfl, rfl, pB, pX, pG⟩ := hcut
  obtain ⟨W3, hW3⟩ : ∃ W3, W3 = wc := ⟨_, rfl⟩
  rw [← hW3] at pB pX ⊢
  clear hW3
  have XW3 : Hid (Ext W0 W3) := Lib.hid (Xb.out.trans pX.out)
  go_upto_region 4 with (fail)
  go_cut [9, 10] (fun s1 s2 wx => ∃ g, s1 = .pointer (some ⟨g, 0, none⟩) ∧ s2 = .bool true ∧ Hid (wx.heap[g]? = some (.cells #[.int .i64 y0, .int .i64 y1, .int .i64 y2, .bool y3, .bool y4, .bool y5, .bool y6, .bool y7] 66 (0, 0))) ∧ Hid (Ext W3 wx) ∧ W3.heap.size ≤ g)
  case first =>
    have q0 : W0.heap.size ≤ W3.heap.size := Below.size XW3.out
    go_wp2_with fail
    (refine wp_region_X_lit (K := fun V => Ext W0 V) (by kernel_rfl) (fun w1 hw1 => ?_))
    have qp := Lib.hid hw1
    have q1 : Hid (Ext W0 w1) := Lib.hid (XW3.out.trans hw1)
    clear hw1
    refine xtv 0 (h := ?_)
    refine xtv 1 (hv := by intro w' hw'; have hc := (HSC.out w' hw').1; go_simp; first | done | with_reducible rfl) (h := ?_)
    refine xtv 2 (h := ?_)
    refine xtv 3 (hv := by intro w' hw'; have hc := (HED.out w' hw').2; go_simp; first | done | with_reducible rfl) (h := ?_)
    refine xtv 4 (hv := by intro w' hw'; have hz := hBL; have hz2 := hBi; go_simp; first | done | with_reducible rfl) (h := ?_)
    refine xtv 5 (hv := by intro w' hw'; obtain ⟨c0, c1, c2⟩ := HDB.out w' hw'; go_simp; first | done | with_reducible rfl) (h := ?_)
    refine xtv 6 (h := ?_)
    refine xtv 7 (hv := by intro w' hw'; have hc := (HED.out w' hw').1; go_simp; first | done | with_reducible rfl) (h := ?_)
    refine xtwo 8 12 (hk := q1.out) (h := RunX.of 8 (h := ?_)) (h' := RunX.of 12 (h := ?_))
    · go_simp
      refine (pSide_any w1 _ _ _ _ _ (HSB.out.ext q1.out) _ _ Hy.out).mono ?_
      rintro e6 w6 ⟨rfl, x6⟩
      have q6 : Hid (Ext W0 w6) := Lib.hid (Ext.trans q1.out x6)
      have qr : Hid (Ext W3 w6) := Lib.hid (Ext.trans qp.out x6)
      clear x6
      dsimp only
      (try (simp only [Act.put, List.setIfInBounds_toArray, List.set]))
      refine xtv 9 (h := ?_)
      refine xtv 10 (h := ?_)
      refine xtv 11 (h := ?_)
      refine xone 12 (hk := q6.out) (h := RunX.of 12 (h := ?_))
      go_simp
      (try (simp only [Act.put, List.setIfInBounds_toArray, List.set]))
      obtain ⟨gy, hgy⟩ : ∃ g, g = w6.heap.size := ⟨_, rfl⟩
      obtain ⟨W7, hW7⟩ : ∃ W7, W7 = w6.alloc (.cells #[.int .i64 0, .int .i64 0, .int .i64 0, .bool false, .bool false, .bool false, .bool false, .bool false] 66) := ⟨_, rfl⟩
      have B7 : Hid (W7.heap[gy]? = some (.cells #[.int .i64 0, .int .i64 0, .int .i64 0, .bool false, .bool false, .bool false, .bool false, .bool false] 66 (0, 0))) := Lib.hid (hW7 ▸ hgy ▸ at0 w6 _)
      have Y7 : Hid (Ext W0 W7) := Lib.hid (hW7 ▸ q6.out.alloc _)
      have Z7 : Hid (Ext W3 W7) := Lib.hid (hW7 ▸ qr.out.alloc _)
      have qg : W3.heap.size ≤ gy := hgy ▸ Below.size qr.out
      rw [← hW7, ← hgy]
      clear hW7 hgy
      refine xone 13 (hk := Y7.out) (h := RunX.of 13 (h := ?_))
      refine wp_st 66 (.tmp 9) (.tmp 54) rfl gy 0 66 #[.int .i64 0, .int .i64 0, .int .i64 0, .bool false, .bool false, .bool false, .bool false, .bool false] #[.int .i64 y0, .int .i64 y1, .int .i64 y2, .bool y3, .bool y4, .bool y5, .bool y6, .bool y7] #[.int .i64 y0, .int .i64 y1, .int .i64 y2, .bool y3, .bool y4, .bool y5, .bool y6, .bool y7] rfl rfl B7.out (by kernel_rfl) (by simp) rfl rfl ?_
      intro WB hWB oB
      simp only [Act.put]
      have YB : Hid (Ext W0 WB) := Lib.hid (ext_off Y7.out oB (fun b hb => by omega))
      have ZB : Hid (Ext W3 WB) := Lib.hid (ext_off Z7.out oB (fun b hb => by omega))
      have RB := Lib.hid hWB
      clear hWB oB
      refine xtv 14 (h := ?_)
      (refine xdone (by kernel_rfl) (YB.out) ?_)
      go_wp2_with fail
      go_meet
      exact ⟨_, rfl, rfl, RB, ZB, qg⟩
    · go_simp
      (try (simp only [Act.put, List.setIfInBounds_toArray, List.set]))
      obtain ⟨gy, hgy⟩ : ∃ g, g = w1.heap.size := ⟨_, rfl⟩
      obtain ⟨W7, hW7⟩ : ∃ W7, W7 = w1.alloc (.cells #[.int .i64 0, .int .i64 0, .int .i64 0, .bool false, .bool false, .bool false, .bool false, .bool false] 66) := ⟨_, rfl⟩
      have B7 : Hid (W7.heap[gy]? = some (.cells #[.int .i64 0, .int .i64 0, .int .i64 0, .bool false, .bool false, .bool false, .bool false, .bool false] 66 (0, 0))) := Lib.hid (hW7 ▸ hgy ▸ at0 w1 _)
      have Y7 : Hid (Ext W0 W7) := Lib.hid (hW7 ▸ q1.out.alloc _)
      have Z7 : Hid (Ext W3 W7) := Lib.hid (hW7 ▸ qp.out.alloc _)
      have qg : W3.heap.size ≤ gy := hgy ▸ Below.size qp.out
      rw [← hW7, ← hgy]
      clear hW7 hgy
      refine xone 8 (hk := Y7.out) (h := RunX.of 8 (h := ?_))
      go_simp
      refine (pSide_any W7 _ _ _ _ _ (HSB.out.ext Y7.out) _ _ Hy.out).mono ?_
      rintro e6 w6 ⟨rfl, x6⟩
      have Y6 : Hid (Ext W0 w6) := Lib.hid (Ext.trans Y7.out x6)
      have Z6 : Hid (Ext W3 w6) := Lib.hid (Ext.trans Z7.out x6)
      have B6 := Lib.hid (keepU B7.out x6)
      clear x6
      dsimp only
      (try (simp only [Act.put, List.setIfInBounds_toArray, List.set]))
      refine xtv 9 (h := ?_)
      refine xtv 10 (h := ?_)
      refine xtv 11 (h := ?_)
      refine xone 13 (hk := Y6.out) (h := RunX.of 13 (h := ?_))
      refine wp_st 66 (.tmp 9) (.tmp 54) rfl gy 0 66 #[.int .i64 0, .int .i64 0, .int .i64 0, .bool false, .bool false, .bool false, .bool false, .bool false] #[.int .i64 y0, .int .i64 y1, .int .i64 y2, .bool y3, .bool y4, .bool y5, .bool y6, .bool y7] #[.int .i64 y0, .int .i64 y1, .int .i64 y2, .bool y3, .bool y4, .bool y5, .bool y6, .bool y7] rfl rfl B6.out (by kernel_rfl) (by simp) rfl rfl ?_
      intro WB hWB oB
      simp only [Act.put]
      have YB : Hid (Ext W0 WB) := Lib.hid (ext_off Y6.out oB (fun b hb => by omega))
      have ZB : Hid (Ext W3 WB) := Lib.hid (ext_off Z6.out oB (fun b hb => by omega))
      have RB := Lib.hid hWB
      clear hWB oB
      refine xtv 14 (h := ?_)
      (refine xdone (by kernel_rfl) (YB.out) ?_)
      go_wp2_with fail
      go_meet
      exact ⟨_, rfl, rfl, RB, ZB, qg⟩
  case rest =>
  obtain ⟨gy, rfl, rfl, qB, qX, qG⟩ := hcut
  obtain ⟨W4, hW4⟩ : ∃ W4, W4 = wc := ⟨_, rfl⟩
  rw [← hW4] at qB qX ⊢
  clear hW4
  have XW4 : Hid (Ext W0 W4) := Lib.hid (XW3.out.trans qX.out)
  have GX4 := Lib.hid (keepU pB.out qX.out)
  have GW4 := qB
  have pg := Nat.le_trans (Below.size Xb.out) pG
  have qg := Nat.le_trans (Below.size XW3.out) qG
  have E4 := Lib.hid (keepU E40.out XW4.out)
  have E5 := Lib.hid (keepU E50.out XW4.out)
  have hg1 := pg
  have hg2 := qg
  go_wp2_with fail
  (refine wp_region_X_lit (K := fun V => Ext w V ∧ V.heap[gx]? = some (.cells #[.int .i64 x0, .int .i64 x1, .int .i64 x2, .bool x3, .bool x4, .bool x5, .bool x6, .bool x7] 66 (0, 0)) ∧ V.heap[gy]? = some (.cells #[.int .i64 y0, .int .i64 y1, .int .i64 y2, .bool y3, .bool y4, .bool y5, .bool y6, .bool y7] 66 (0, 0))) (by kernel_rfl) (fun w1 hw1 => ?_))
  have HK1 : Hid (Ext w w1 ∧ w1.heap[gx]? = some (.cells #[.int .i64 x0, .int .i64 x1, .int .i64 x2, .bool x3, .bool x4, .bool x5, .bool x6, .bool x7] 66 (0, 0)) ∧ w1.heap[gy]? = some (.cells #[.int .i64 y0, .int .i64 y1, .int .i64 y2, .bool y3, .bool y4, .bool y5, .bool y6, .bool y7] 66 (0, 0))) := Lib.hid ⟨X0.out.trans (XW4.out.trans hw1), keepU GX4.out hw1, keepU GW4.out hw1⟩
  refine xtv 0 (hv := by intro w' hw'; obtain ⟨⟨⟨c0, c1⟩, c2, c3⟩, ⟨c4, c5⟩, c6, c7⟩ := cells8U hw'.2.1; go_simp; first | done | with_reducible rfl) (h := ?_)
  refine xtv 1 (hv := by intro w' hw'; obtain ⟨⟨⟨c0, c1⟩, c2, c3⟩, ⟨c4, c5⟩, c6, c7⟩ := cells8U hw'.2.2; go_simp; first | done | with_reducible rfl) (h := ?_)
  refine xtv 2 (h := ?_)
  refine xtv 3 (h := ?_)
  refine xtv 4 (h := ?_)
  refine xtv 5 (h := ?_)
  refine xtv 6 (h := ?_)
  refine xtv 7 (h := ?_)
  refine xtv 8 (hv := by intro w' hw'; obtain ⟨⟨⟨c0, c1⟩, c2, c3⟩, ⟨c4, c5⟩, c6, c7⟩ := cells8U hw'.2.1; go_simp; first | done | with_reducible rfl) (h := ?_)
  refine xtv 9 (h := ?_)
  refine xtv 10 (hv := by intro w' hw'; obtain ⟨⟨⟨c0, c1⟩, c2, c3⟩, ⟨c4, c5⟩, c6, c7⟩ := cells8U hw'.2.2; go_simp; first | done | with_reducible rfl) (h := ?_)
  refine xtv 11 (h := ?_)
  refine xtv 12 (h := ?_)
  have HKK := HK1
  have E4' := Lib.hid (keepU E4.out hw1)
  have E5' := Lib.hid (keepU E5.out hw1)
  clear HK1 E4 E5 hw1
  refine xone 13 (hk := HKK.out) (h := RunX.of 13 (h := ?_))
  · have HK1 := HKK
    have E4 := E4'
    have E5 := E5'
    refine wp_st 66 (.tmp 4) (.tmp 56) rfl (w.heap.size + 2) 0 66 #[.int .i64 0, .int .i64 0, .int .i64 0, .bool false, .bool false, .bool false, .bool false, .bool false] #[.int .i64 x0, .int .i64 x1, .int .i64 x2, .bool x3, .bool x4, .bool x5, .bool x6, .bool x7] #[.int .i64 x0, .int .i64 x1, .int .i64 x2, .bool x3, .bool x4, .bool x5, .bool x6, .bool x7] rfl rfl E4.out (by kernel_rfl) (by simp) rfl rfl ?_
    intro V00 kV00 oV00
    simp only [Act.put]
    have HKV00 : Hid (Ext w V00 ∧ V00.heap[gx]? = some (.cells #[.int .i64 x0, .int .i64 x1, .int .i64 x2, .bool x3, .bool x4, .bool x5, .bool x6, .bool x7] 66 (0, 0)) ∧ V00.heap[gy]? = some (.cells #[.int .i64 y0, .int .i64 y1, .int .i64 y2, .bool y3, .bool y4, .bool y5, .bool y6, .bool y7] 66 (0, 0))) := Lib.hid ⟨ext_off HK1.out.1 oV00 (fun b hb => by omega), oV00.blk HK1.out.2.1 (by have := HS0.out; omega), oV00.blk HK1.out.2.2 (by have := HS0.out; omega)⟩
    replace E5 := Lib.hid (oV00.blk E5.out (by omega))
    replace E4 := Lib.hid kV00
    clear kV00 oV00
    refine xone 14 (hk := HKV00.out) (h := RunX.of 14 (h := ?_))
    refine wp_st 66 (.tmp 5) (.tmp 57) rfl (w.heap.size + 3) 0 66 #[.int .i64 0, .int .i64 0, .int .i64 0, .bool false, .bool false, .bool false, .bool false, .bool false] #[.int .i64 y0, .int .i64 y1, .int .i64 y2, .bool y3, .bool y4, .bool y5, .bool y6, .bool y7] #[.int .i64 y0, .int .i64 y1, .int .i64 y2, .bool y3, .bool y4, .bool y5, .bool y6, .bool y7] rfl rfl E5.out (by kernel_rfl) (by simp) rfl rfl ?_
    intro V01 kV01 oV01
    simp only [Act.put]
    have HKV01 : Hid (Ext w V01 ∧ V01.heap[gx]? = some (.cells #[.int .i64 x0, .int .i64 x1, .int .i64 x2, .bool x3, .bool x4, .bool x5, .bool x6, .bool x7] 66 (0, 0)) ∧ V01.heap[gy]? = some (.cells #[.int .i64 y0, .int .i64 y1, .int .i64 y2, .bool y3, .bool y4, .bool y5, .bool y6, .bool y7] 66 (0, 0))) := Lib.hid ⟨ext_off HKV00.out.1 oV01 (fun b hb => by omega), oV01.blk HKV00.out.2.1 (by have := HS0.out; omega), oV01.blk HKV00.out.2.2 (by have := HS0.out; omega)⟩
    replace E4 := Lib.hid (oV01.blk E4.out (by omega))
    replace E5 := Lib.hid kV01
    clear kV01 oV01
    refine xtv 15 (h := ?_)
    (refine xdone (by kernel_rfl) (HKV01.out) ?_)
    go_wp2
    exact bodyPost_ret (v := .tuple #[.agg #[.int .i64 x0, .int .i64 x1, .int .i64 x2, .bool x3, .bool x4, .bool x5, .bool x6, .bool x7], .agg #[.int .i64 y0, .int .i64 y1, .int .i64 y2, .bool y3, .bool y4, .bool y5, .bool y6, .bool y7], .bool true]) (res_cct 6 rfl rfl rfl E4.out E5.out uSide uSide (by kernel_rfl) (by kernel_rfl)) rfl ⟨rfl, HKV01.out.1⟩
end Go.Proofs.YtfbambemjokmgaaGreat
