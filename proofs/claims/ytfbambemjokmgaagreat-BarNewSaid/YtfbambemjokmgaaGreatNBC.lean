/- Texts of this seat. -/
import Derived.Test.YtfbambemjokmgaaGreatNBB
namespace Go.Proofs.YtfbambemjokmgaaGreat
open Go.RowKit
set_option maxRecDepth 100000 in
set_option maxHeartbeats 8000000 in
theorem dkOpen_any (w : World) (id ph th : Int) (v nv qv : Value) (L : List Sd) (N Q : List Int) (h : Sl w v L) (hN : Sl w nv N) (hQ : Sl w qv Q) (hl : L.length ≤ 1000) (hq : Q.length ≤ 1000) :
    Calls Tryz.prog 83 #[.agg #[.int .i64 id, .int .i64 ph, v, .int .i64 th, nv], qv] w (GivesDN w (openR ⟨id, ph, L, th, N⟩ Q)) := by
  obtain ⟨ao, c, rfl⟩ := h.len
  obtain ⟨na, nc, rfl⟩ := hN.len
  obtain ⟨qa, qc, rfl⟩ := hQ.len
  obtain ⟨W0, hW0⟩ : ∃ W0, W0 = (w.alloc (.cells #[.int .i64 id, .int .i64 ph, .slice ao L.length c, .int .i64 th, .slice na N.length nc] 63)).alloc (.cells #[.int .i64 0, .int .i64 0, .slice none 0 0, .int .i64 0, .slice none 0 0] 63) := ⟨_, rfl⟩
  have X0 : Hid (Ext w W0) := Lib.hid (hW0 ▸ ((Ext.refl w).alloc _).alloc _)
  have D0 : Hid (W0.heap[w.heap.size]? = some (.cells #[.int .i64 id, .int .i64 ph, .slice ao L.length c, .int .i64 th, .slice na N.length nc] 63 (0, 0))) := Lib.hid (hW0 ▸ old1 (at0 w _) _)
  have R0 : Hid (W0.heap[w.heap.size + 1]? = some (.cells #[.int .i64 0, .int .i64 0, .slice none 0 0, .int .i64 0, .slice none 0 0] 63 (0, 0))) := Lib.hid (hW0 ▸ at1 w _ _)
  have HW0 := Lib.hid hW0
  have HS := Lib.hid (h.ext X0.out)
  have HN := Lib.hid (hN.ext X0.out)
  have HQ := Lib.hid (hQ.ext X0.out)
  obtain ⟨t, ht⟩ : ∃ t, chkK ⟨id, ph, L, th, N⟩ = t := ⟨_, rfl⟩
  have HT := Lib.hid ht
  have HQL : Hid (Q.length ≤ 1000) := Lib.hid hq
  clear h hN hQ hW0 ht hq
  obtain ⟨⟨d0, d1, d2⟩, d3, d4⟩ := cells5 D0.out
  have HC := Lib.hid (dkCheck_any W0 id ph th _ _ L N HS.out HN.out hl t HT.out)
  go_enter Tryz.func83, Tryz.ntmps83
  go_upto_region 1 with (fail)
  rw [← HW0.out]
  cases t
  · have HR : Hid (openR ⟨id, ph, L, th, N⟩ Q = (noK, 150)) := Lib.hid (by unfold openR; rw [HT.out]; rfl)
    go_upto_region 3 with (first
      | (go_at_call 58; refine HC.out.mono ?_; rintro e w1 ⟨rfl, hx⟩; dsimp only [cond]; have X1 : Hid (Ext W0 w1) := Lib.hid hx; clear hx))
    go_wp2_with (first | refine haltst 63 ?_)
    refine .inl ?_
    refine st_l 63 (.tmp 4) (.tmp 12) (w.heap.size + 1) 0 63 #[.int .i64 0, .int .i64 0, .slice none 0 0, .int .i64 0, .slice none 0 0] #[.int .i64 0, .int .i64 0, .slice none 0 0, .int .i64 0, .slice none 0 0] #[.int .i64 0, .int .i64 0, .slice none 0 0, .int .i64 0, .slice none 0 0] rfl rfl (keepU R0.out X1.out) (by kernel_rfl) (by simp) rfl rfl ?_
    intro W9 hW9 o9
    simp only [Act.put]
    go_wp2
    exact bodyPost_ret (v := .tuple #[.agg #[.int .i64 0, .int .i64 0, .slice none 0 0, .int .i64 0, .slice none 0 0], .int .i64 150]) (res_ct 5 rfl rfl hW9 uDrinker (by kernel_rfl)) rfl (givesDNNo HR.out (ext_off (X0.out.trans X1.out) o9 (fun b hb => by omega)))
  · go_upto_region 4 with (first
      | (go_at_call 58; refine HC.out.mono ?_; rintro e w1 ⟨rfl, hx⟩; dsimp only [cond]; have X1 : Hid (Ext W0 w1) := Lib.hid hx; clear hx))
    clear d0 d1 d2 d3 d4 HC
    obtain ⟨⟨d0, d1, d2⟩, d3, d4⟩ := cells5 (keepU D0.out X1.out)
    by_cases e1 : th = 0
    · have t1 : (th != 0) = false := by simp [e1]
      obtain ⟨q, hq⟩ : ∃ q, (Q.all fun p => decide (p ∈ peersL (fun s => decide (s.state = 0)) L)) = q := ⟨_, rfl⟩
      have HQQ := Lib.hid hq
      have HTH := Lib.hid e1
      clear hq e1
      go_upto_region 7 with (fail)
      cases q
      · have HR : Hid (openR ⟨id, ph, L, th, N⟩ Q = (noK, 151)) := Lib.hid (by unfold openR; rw [HT.out, if_pos rfl, if_neg (by dsimp only; rw [HTH.out]; simp), if_neg (by dsimp only; rw [HQQ.out]; simp)])
        go_upto_region 8 with (first
          | (go_at_call 102; refine (peers_any w1 id ph th _ _ _ L N (fun s => decide (s.state = 0)) (HS.out.ext X1.out) (HN.out.ext X1.out) (tellsLive _) hl).mono ?_; rintro e w2 ⟨v2, rfl, o2, x2⟩; obtain ⟨a2, n2, c2, rfl⟩ := o2.sh; have X2 : Hid (Ext W0 w2) := Lib.hid (Ext.trans X1.out x2); have O2 := Lib.hid o2; clear x2 o2)
          | (go_at_call 101; refine (setWithin_val w2 _ _ Q _ (HQ.out.ext X2.out) O2.out.sl (Nat.le_trans (peersL_len _ _) (by omega)) _ HQQ.out).mono ?_; rintro e w3 ⟨rfl, x3⟩; have X3 : Hid (Ext W0 w3) := Lib.hid (Ext.trans X2.out x3); clear x3))
        go_wp2_with (first | refine haltst 63 ?_)
        refine .inl ?_
        refine st_l 63 (.tmp 4) (.tmp 24) (w.heap.size + 1) 0 63 #[.int .i64 0, .int .i64 0, .slice none 0 0, .int .i64 0, .slice none 0 0] #[.int .i64 0, .int .i64 0, .slice none 0 0, .int .i64 0, .slice none 0 0] #[.int .i64 0, .int .i64 0, .slice none 0 0, .int .i64 0, .slice none 0 0] rfl rfl (keepU R0.out X3.out) (by kernel_rfl) (by simp) rfl rfl ?_
        intro W9 hW9 o9
        simp only [Act.put]
        go_wp2
        exact bodyPost_ret (v := .tuple #[.agg #[.int .i64 0, .int .i64 0, .slice none 0 0, .int .i64 0, .slice none 0 0], .int .i64 151]) (res_ct 5 rfl rfl hW9 uDrinker (by kernel_rfl)) rfl (givesDNNo HR.out (ext_off (X0.out.trans X3.out) o9 (fun b hb => by omega)))
      · have HR : Hid (openR ⟨id, ph, L, th, N⟩ Q = (⟨id, ph, L, 1, norm Q⟩, 0)) := Lib.hid (by unfold openR; rw [HT.out, if_pos rfl, if_neg (by dsimp only; rw [HTH.out]; simp), if_pos (by dsimp only; rw [HQQ.out])])
        go_upto_region 9 with (first
          | (go_at_call 102; refine (peers_any w1 id ph th _ _ _ L N (fun s => decide (s.state = 0)) (HS.out.ext X1.out) (HN.out.ext X1.out) (tellsLive _) hl).mono ?_; rintro e w2 ⟨v2, rfl, o2, x2⟩; obtain ⟨a2, n2, c2, rfl⟩ := o2.sh; have X2 : Hid (Ext W0 w2) := Lib.hid (Ext.trans X1.out x2); have O2 := Lib.hid o2; clear x2 o2)
          | (go_at_call 101; refine (setWithin_val w2 _ _ Q _ (HQ.out.ext X2.out) O2.out.sl (Nat.le_trans (peersL_len _ _) (by omega)) _ HQQ.out).mono ?_; rintro e w3 ⟨rfl, x3⟩; have X3 : Hid (Ext W0 w3) := Lib.hid (Ext.trans X2.out x3); clear x3))
        clear d0 d1 d2 d3 d4 HQQ X1 X2 O2
        go_cut [5] (fun s5 wx => ∃ (fa : Option Addr) (fn fc : Nat) (ma : Option Addr) (mn mc : Nat), s5 = .int .i64 0 ∧ Hid (wx.heap[w.heap.size]? = some (.cells #[.int .i64 id, .int .i64 ph, .slice fa fn fc, .int .i64 1, .slice ma mn mc] 63 (0, 0))) ∧ Hid (wx.heap[w.heap.size + 1]? = some (.cells #[.int .i64 0, .int .i64 0, .slice none 0 0, .int .i64 0, .slice none 0 0] 63 (0, 0))) ∧ Hid (Ow wx (w.heap.size + 2) (.slice fa fn fc) L) ∧ Hid (Ow wx (w.heap.size + 2) (.slice ma mn mc) (norm Q)) ∧ Hid (Ext w wx))
        case first =>
          (refine wp_region_X_lit (K := fun V => Ext w V) (by kernel_rfl) (fun w1 hw1 => ?_))
          have HX1 : Hid (Ext W0 w1) := Lib.hid (Ext.trans X3.out hw1)
          clear hw1
          have XA := Lib.hid (X0.out.trans HX1.out)
          obtain ⟨⟨d0, d1, d2⟩, d3, d4⟩ := cells5 (keepU D0.out HX1.out)
          refine xtv 0 (h := ?_)
          refine xtv 2 (h := ?_)
          refine xtv 3 (h := ?_)
          refine xtwo 1 4 (hk := XA.out) (h := RunX.of 1 (h := ?_)) (h' := RunX.of 4 (h := ?_))
          · go_simp
            refine (setOfE_any w1 _ Q (HQ.out.ext HX1.out) (by have := HQL.out; omega)).mono ?_
            rintro eO wO ⟨vO, rfl, oO, xO⟩
            obtain ⟨ma, mn, mc, rfl⟩ := oO.sh
            have XP : Hid (Ext W0 wO) := Lib.hid (Ext.trans HX1.out xO)
            have OO := Lib.hid oO
            clear xO oO
            dsimp only
            (try (simp only [Act.put, List.setIfInBounds_toArray, List.set]))
            clear d0 d1 d2 d3 d4
            obtain ⟨⟨d0, d1, d2⟩, d3, d4⟩ := cells5 (keepU D0.out XP.out)
            refine xone 4 (hk := (X0.out.trans XP.out)) (h := RunX.of 4 (h := ?_))
            go_simp
            (try (simp only [Act.put, List.setIfInBounds_toArray, List.set]))
            refine xtv 6 (h := ?_)
            refine xone 5 (hk := (X0.out.trans XP.out)) (h := RunX.of 5 (h := ?_))
            go_simp
            refine (clone_sd wO _ L (HS.out.ext XP.out) hl).mono ?_
            rintro eC wC ⟨vC, rfl, oC, xC⟩
            obtain ⟨fa, fn, fc, rfl⟩ := oC.sh
            have XR : Hid (Ext W0 wC) := Lib.hid (Ext.trans XP.out xC)
            have OC := Lib.hid oC
            have OOL := Lib.hid (OO.out.ext xC)
            have OCL := OC
            clear xC oC
            dsimp only
            (try (simp only [Act.put, List.setIfInBounds_toArray, List.set]))
            have hz : w.heap.size + 2 ≤ W0.heap.size := by have := blk_lt R0.out; omega
            have B0 := Lib.hid (keepU D0.out XR.out)
            have Q0 := Lib.hid (keepU R0.out XR.out)
            have XX := Lib.hid (X0.out.trans XR.out)
            have S0 : Hid (Ow wC (w.heap.size + 2) (.slice fa fn fc) L) := Lib.hid (OCL.out.mono (by have := Below.size HX1.out; first | omega | (have := Below.size XP.out; omega)))
            have T0 : Hid (Ow wC (w.heap.size + 2) (.slice ma mn mc) (norm Q)) := Lib.hid (OOL.out.mono (by have := Below.size HX1.out; first | omega | (have := Below.size XP.out; omega)))
            clear OCL OOL d0 d1 d2 d3 d4
            have c7 := blk_cell B0.out 3 rfl
            have f7 := blk_free B0.out 3
            refine xone 7 (hk := XX.out) (h := RunX.of 7 (h := ?_))
            go_simp
            (try (simp only [Act.put, List.setIfInBounds_toArray, List.set]))
            obtain ⟨Wa, hWa⟩ : ∃ Wa, Wa = wC.setCell ⟨w.heap.size, 3, none⟩ (.int .i64 1) := ⟨_, rfl⟩
            have Ba := Lib.hid (hWa ▸ blk_set B0.out 3 (.int .i64 1) : Wa.heap[w.heap.size]? = some (.cells #[.int .i64 id, .int .i64 ph, .slice ao L.length c, .int .i64 1, .slice na N.length nc] 63 (0, 0)))
            have Qa := Lib.hid (hWa ▸ (set_other _ _ _ _ (by show w.heap.size + 1 ≠ w.heap.size; omega)).trans Q0.out : Wa.heap[w.heap.size + 1]? = some (.cells #[.int .i64 0, .int .i64 0, .slice none 0 0, .int .i64 0, .slice none 0 0] 63 (0, 0)))
            have Xa : Hid (Ext w Wa) := Lib.hid (hWa ▸ below_set XX.out (Nat.le_refl _) _)
            have Sa := Lib.hid (hWa ▸ S0.out.set (d := ⟨w.heap.size, 3, none⟩) (by show w.heap.size < _; omega) _)
            have Ta := Lib.hid (hWa ▸ T0.out.set (d := ⟨w.heap.size, 3, none⟩) (by show w.heap.size < _; omega) _)
            rw [← hWa]
            clear hWa c7 f7
            refine xtv 8 (h := ?_)
            have c9 := blk_cell Ba.out 4 rfl
            have f9 := blk_free Ba.out 4
            refine xone 9 (hk := Xa.out) (h := RunX.of 9 (h := ?_))
            go_simp
            (try (simp only [Act.put, List.setIfInBounds_toArray, List.set]))
            obtain ⟨Wb, hWb⟩ : ∃ Wb, Wb = Wa.setCell ⟨w.heap.size, 4, none⟩ (.slice ma mn mc) := ⟨_, rfl⟩
            have Bb := Lib.hid (hWb ▸ blk_set Ba.out 4 (.slice ma mn mc) : Wb.heap[w.heap.size]? = some (.cells #[.int .i64 id, .int .i64 ph, .slice ao L.length c, .int .i64 1, .slice ma mn mc] 63 (0, 0)))
            have Qb := Lib.hid (hWb ▸ (set_other _ _ _ _ (by show w.heap.size + 1 ≠ w.heap.size; omega)).trans Qa.out : Wb.heap[w.heap.size + 1]? = some (.cells #[.int .i64 0, .int .i64 0, .slice none 0 0, .int .i64 0, .slice none 0 0] 63 (0, 0)))
            have Xb : Hid (Ext w Wb) := Lib.hid (hWb ▸ below_set Xa.out (Nat.le_refl _) _)
            have Sb := Lib.hid (hWb ▸ Sa.out.set (d := ⟨w.heap.size, 4, none⟩) (by show w.heap.size < _; omega) _)
            have Tb := Lib.hid (hWb ▸ Ta.out.set (d := ⟨w.heap.size, 4, none⟩) (by show w.heap.size < _; omega) _)
            rw [← hWb]
            clear hWb c9 f9
            refine xtv 10 (h := ?_)
            refine xtv 11 (h := ?_)
            have cc := blk_cell Bb.out 2 rfl
            have fc2 := blk_free Bb.out 2
            refine xone 12 (hk := Xb.out) (h := RunX.of 12 (h := ?_))
            go_simp
            (try (simp only [Act.put, List.setIfInBounds_toArray, List.set]))
            obtain ⟨Wc, hWc⟩ : ∃ Wc, Wc = Wb.setCell ⟨w.heap.size, 2, none⟩ (.slice fa fn fc) := ⟨_, rfl⟩
            have Bc := Lib.hid (hWc ▸ blk_set Bb.out 2 (.slice fa fn fc) : Wc.heap[w.heap.size]? = some (.cells #[.int .i64 id, .int .i64 ph, .slice fa fn fc, .int .i64 1, .slice ma mn mc] 63 (0, 0)))
            have Qc := Lib.hid (hWc ▸ (set_other _ _ _ _ (by show w.heap.size + 1 ≠ w.heap.size; omega)).trans Qb.out : Wc.heap[w.heap.size + 1]? = some (.cells #[.int .i64 0, .int .i64 0, .slice none 0 0, .int .i64 0, .slice none 0 0] 63 (0, 0)))
            have Xc : Hid (Ext w Wc) := Lib.hid (hWc ▸ below_set Xb.out (Nat.le_refl _) _)
            have Sc := Lib.hid (hWc ▸ Sb.out.set (d := ⟨w.heap.size, 2, none⟩) (by show w.heap.size < _; omega) _)
            have Tc := Lib.hid (hWc ▸ Tb.out.set (d := ⟨w.heap.size, 2, none⟩) (by show w.heap.size < _; omega) _)
            rw [← hWc]
            clear hWc cc fc2
            (refine xdone (by kernel_rfl) (Xc.out) ?_)
            go_wp2_with fail
            go_meet
            exact ⟨_, _, _, _, _, _, rfl, Bc, Qc, Sc, Tc, Xc⟩
          · go_simp
            (try (simp only [Act.put, List.setIfInBounds_toArray, List.set]))
            refine xtv 6 (h := ?_)
            refine xone 1 (hk := XA.out) (h := RunX.of 1 (h := ?_))
            go_simp
            refine (setOfE_any w1 _ Q (HQ.out.ext HX1.out) (by have := HQL.out; omega)).mono ?_
            rintro eO wO ⟨vO, rfl, oO, xO⟩
            obtain ⟨ma, mn, mc, rfl⟩ := oO.sh
            have XP : Hid (Ext W0 wO) := Lib.hid (Ext.trans HX1.out xO)
            have OO := Lib.hid oO
            clear xO oO
            dsimp only
            (try (simp only [Act.put, List.setIfInBounds_toArray, List.set]))
            refine xone 5 (hk := (X0.out.trans XP.out)) (h := RunX.of 5 (h := ?_))
            go_simp
            refine (clone_sd wO _ L (HS.out.ext XP.out) hl).mono ?_
            rintro eC wC ⟨vC, rfl, oC, xC⟩
            obtain ⟨fa, fn, fc, rfl⟩ := oC.sh
            have XR : Hid (Ext W0 wC) := Lib.hid (Ext.trans XP.out xC)
            have OC := Lib.hid oC
            have OOL := Lib.hid (OO.out.ext xC)
            have OCL := OC
            clear xC oC
            dsimp only
            (try (simp only [Act.put, List.setIfInBounds_toArray, List.set]))
            have hz : w.heap.size + 2 ≤ W0.heap.size := by have := blk_lt R0.out; omega
            have B0 := Lib.hid (keepU D0.out XR.out)
            have Q0 := Lib.hid (keepU R0.out XR.out)
            have XX := Lib.hid (X0.out.trans XR.out)
            have S0 : Hid (Ow wC (w.heap.size + 2) (.slice fa fn fc) L) := Lib.hid (OCL.out.mono (by have := Below.size HX1.out; first | omega | (have := Below.size XP.out; omega)))
            have T0 : Hid (Ow wC (w.heap.size + 2) (.slice ma mn mc) (norm Q)) := Lib.hid (OOL.out.mono (by have := Below.size HX1.out; first | omega | (have := Below.size XP.out; omega)))
            clear OCL OOL d0 d1 d2 d3 d4
            have c7 := blk_cell B0.out 3 rfl
            have f7 := blk_free B0.out 3
            refine xone 7 (hk := XX.out) (h := RunX.of 7 (h := ?_))
            go_simp
            (try (simp only [Act.put, List.setIfInBounds_toArray, List.set]))
            obtain ⟨Wa, hWa⟩ : ∃ Wa, Wa = wC.setCell ⟨w.heap.size, 3, none⟩ (.int .i64 1) := ⟨_, rfl⟩
            have Ba := Lib.hid (hWa ▸ blk_set B0.out 3 (.int .i64 1) : Wa.heap[w.heap.size]? = some (.cells #[.int .i64 id, .int .i64 ph, .slice ao L.length c, .int .i64 1, .slice na N.length nc] 63 (0, 0)))
            have Qa := Lib.hid (hWa ▸ (set_other _ _ _ _ (by show w.heap.size + 1 ≠ w.heap.size; omega)).trans Q0.out : Wa.heap[w.heap.size + 1]? = some (.cells #[.int .i64 0, .int .i64 0, .slice none 0 0, .int .i64 0, .slice none 0 0] 63 (0, 0)))
            have Xa : Hid (Ext w Wa) := Lib.hid (hWa ▸ below_set XX.out (Nat.le_refl _) _)
            have Sa := Lib.hid (hWa ▸ S0.out.set (d := ⟨w.heap.size, 3, none⟩) (by show w.heap.size < _; omega) _)
            have Ta := Lib.hid (hWa ▸ T0.out.set (d := ⟨w.heap.size, 3, none⟩) (by show w.heap.size < _; omega) _)
            rw [← hWa]
            clear hWa c7 f7
            refine xtv 8 (h := ?_)
            have c9 := blk_cell Ba.out 4 rfl
            have f9 := blk_free Ba.out 4
            refine xone 9 (hk := Xa.out) (h := RunX.of 9 (h := ?_))
            go_simp
            (try (simp only [Act.put, List.setIfInBounds_toArray, List.set]))
            obtain ⟨Wb, hWb⟩ : ∃ Wb, Wb = Wa.setCell ⟨w.heap.size, 4, none⟩ (.slice ma mn mc) := ⟨_, rfl⟩
            have Bb := Lib.hid (hWb ▸ blk_set Ba.out 4 (.slice ma mn mc) : Wb.heap[w.heap.size]? = some (.cells #[.int .i64 id, .int .i64 ph, .slice ao L.length c, .int .i64 1, .slice ma mn mc] 63 (0, 0)))
            have Qb := Lib.hid (hWb ▸ (set_other _ _ _ _ (by show w.heap.size + 1 ≠ w.heap.size; omega)).trans Qa.out : Wb.heap[w.heap.size + 1]? = some (.cells #[.int .i64 0, .int .i64 0, .slice none 0 0, .int .i64 0, .slice none 0 0] 63 (0, 0)))
            have Xb : Hid (Ext w Wb) := Lib.hid (hWb ▸ below_set Xa.out (Nat.le_refl _) _)
            have Sb := Lib.hid (hWb ▸ Sa.out.set (d := ⟨w.heap.size, 4, none⟩) (by show w.heap.size < _; omega) _)
            have Tb := Lib.hid (hWb ▸ Ta.out.set (d := ⟨w.heap.size, 4, none⟩) (by show w.heap.size < _; omega) _)
            rw [← hWb]
            clear hWb c9 f9
            refine xtv 10 (h := ?_)
            refine xtv 11 (h := ?_)
            have cc := blk_cell Bb.out 2 rfl
            have fc2 := blk_free Bb.out 2
            refine xone 12 (hk := Xb.out) (h := RunX.of 12 (h := ?_))
            go_simp
            (try (simp only [Act.put, List.setIfInBounds_toArray, List.set]))
            obtain ⟨Wc, hWc⟩ : ∃ Wc, Wc = Wb.setCell ⟨w.heap.size, 2, none⟩ (.slice fa fn fc) := ⟨_, rfl⟩
            have Bc := Lib.hid (hWc ▸ blk_set Bb.out 2 (.slice fa fn fc) : Wc.heap[w.heap.size]? = some (.cells #[.int .i64 id, .int .i64 ph, .slice fa fn fc, .int .i64 1, .slice ma mn mc] 63 (0, 0)))
            have Qc := Lib.hid (hWc ▸ (set_other _ _ _ _ (by show w.heap.size + 1 ≠ w.heap.size; omega)).trans Qb.out : Wc.heap[w.heap.size + 1]? = some (.cells #[.int .i64 0, .int .i64 0, .slice none 0 0, .int .i64 0, .slice none 0 0] 63 (0, 0)))
            have Xc : Hid (Ext w Wc) := Lib.hid (hWc ▸ below_set Xb.out (Nat.le_refl _) _)
            have Sc := Lib.hid (hWc ▸ Sb.out.set (d := ⟨w.heap.size, 2, none⟩) (by show w.heap.size < _; omega) _)
            have Tc := Lib.hid (hWc ▸ Tb.out.set (d := ⟨w.heap.size, 2, none⟩) (by show w.heap.size < _; omega) _)
            rw [← hWc]
            clear hWc cc fc2
            (refine xdone (by kernel_rfl) (Xc.out) ?_)
            go_wp2_with fail
            go_meet
            exact ⟨_, _, _, _, _, _, rfl, Bc, Qc, Sc, Tc, Xc⟩
        case rest =>
          obtain ⟨fa, fn, fc, ma, mn, mc, rfl, BC, QC, SC, TC, XC⟩ := hcut
          obtain ⟨⟨d0, d1, d2⟩, d3, d4⟩ := cells5 BC.out
          go_wp2_with (first | refine haltst 63 ?_)
          refine .inl ?_
          refine st_l 63 (.tmp 4) (.tmp 35) (w.heap.size + 1) 0 63 #[.int .i64 0, .int .i64 0, .slice none 0 0, .int .i64 0, .slice none 0 0] #[.int .i64 id, .int .i64 ph, .slice fa fn fc, .int .i64 1, .slice ma mn mc] #[.int .i64 id, .int .i64 ph, .slice fa fn fc, .int .i64 1, .slice ma mn mc] rfl rfl QC.out (by kernel_rfl) (by simp) rfl rfl ?_
          intro W9 hW9 o9
          simp only [Act.put]
          go_wp2
          exact bodyPost_ret (v := .tuple #[.agg #[.int .i64 id, .int .i64 ph, .slice fa fn fc, .int .i64 1, .slice ma mn mc], .int .i64 0]) (res_ct 5 rfl rfl hW9 uDrinker (by kernel_rfl)) rfl (by
            rw [HR.out]
            exact ⟨_, _, rfl, (owU SC.out (fun b hb => o9.block b (SC.out.low b hb).2 (by have := (SC.out.low b hb).1; omega))).sl, (owU TC.out (fun b hb => o9.block b (TC.out.low b hb).2 (by have := (TC.out.low b hb).1; omega))).sl, ext_off XC.out o9 (fun b hb => by omega), fun b hb => by have := (TC.out.low b hb).1; omega⟩)
    · have t1 : (th != 0) = true := by simp [e1]
      have HR : Hid (openR ⟨id, ph, L, th, N⟩ Q = (noK, 152)) := Lib.hid (by unfold openR; rw [HT.out, if_pos rfl, if_pos (by dsimp only; exact e1)])
      clear e1
      go_upto_region 5 with (fail)
      go_wp2_with (first | refine haltst 63 ?_)
      refine .inl ?_
      refine st_l 63 (.tmp 4) (.tmp 17) (w.heap.size + 1) 0 63 #[.int .i64 0, .int .i64 0, .slice none 0 0, .int .i64 0, .slice none 0 0] #[.int .i64 0, .int .i64 0, .slice none 0 0, .int .i64 0, .slice none 0 0] #[.int .i64 0, .int .i64 0, .slice none 0 0, .int .i64 0, .slice none 0 0] rfl rfl (keepU R0.out X1.out) (by kernel_rfl) (by simp) rfl rfl ?_
      intro W9 hW9 o9
      simp only [Act.put]
      go_wp2
      exact bodyPost_ret (v := .tuple #[.agg #[.int .i64 0, .int .i64 0, .slice none 0 0, .int .i64 0, .slice none 0 0], .int .i64 152]) (res_ct 5 rfl rfl hW9 uDrinker (by kernel_rfl)) rfl (givesDNNo HR.out (ext_off (X0.out.trans X1.out) o9 (fun b hb => by omega)))
set_option maxRecDepth 100000 in
set_option maxHeartbeats 8000000 in
theorem dkClose_any (w : World) (id ph th : Int) (v nv : Value) (L : List Sd) (N : List Int) (h : Sl w v L) (hN : Sl w nv N) (hl : L.length ≤ 1000) :
    Calls Tryz.prog 81 #[.agg #[.int .i64 id, .int .i64 ph, v, .int .i64 th, nv]] w (GivesDN w (closeR ⟨id, ph, L, th, N⟩)) := by
  obtain ⟨ao, c, rfl⟩ := h.len
  obtain ⟨na, nc, rfl⟩ := hN.len
  obtain ⟨W0, hW0⟩ : ∃ W0, W0 = (w.alloc (.cells #[.int .i64 id, .int .i64 ph, .slice ao L.length c, .int .i64 th, .slice na N.length nc] 63)).alloc (.cells #[.int .i64 0, .int .i64 0, .slice none 0 0, .int .i64 0, .slice none 0 0] 63) := ⟨_, rfl⟩
  have X0 : Hid (Ext w W0) := Lib.hid (hW0 ▸ ((Ext.refl w).alloc _).alloc _)
  have D0 : Hid (W0.heap[w.heap.size]? = some (.cells #[.int .i64 id, .int .i64 ph, .slice ao L.length c, .int .i64 th, .slice na N.length nc] 63 (0, 0))) := Lib.hid (hW0 ▸ old1 (at0 w _) _)
  have R0 : Hid (W0.heap[w.heap.size + 1]? = some (.cells #[.int .i64 0, .int .i64 0, .slice none 0 0, .int .i64 0, .slice none 0 0] 63 (0, 0))) := Lib.hid (hW0 ▸ at1 w _ _)
  have HW0 := Lib.hid hW0
  have HS := Lib.hid (h.ext X0.out)
  have HN := Lib.hid (hN.ext X0.out)
  obtain ⟨t, ht⟩ : ∃ t, chkK ⟨id, ph, L, th, N⟩ = t := ⟨_, rfl⟩
  have HT := Lib.hid ht
  clear h hN hW0 ht
  obtain ⟨⟨d0, d1, d2⟩, d3, d4⟩ := cells5 D0.out
  have HC := Lib.hid (dkCheck_any W0 id ph th _ _ L N HS.out HN.out hl t HT.out)
  go_enter Tryz.func81, Tryz.ntmps81
  go_upto_region 1 with (fail)
  rw [← HW0.out]
  cases t
  · have HR : Hid (closeR ⟨id, ph, L, th, N⟩ = (noK, 150)) := Lib.hid (by unfold closeR; rw [HT.out]; rfl)
    go_upto_region 3 with (first
      | (go_at_call 58; refine HC.out.mono ?_; rintro e w1 ⟨rfl, hx⟩; dsimp only [cond]; have X1 : Hid (Ext W0 w1) := Lib.hid hx; clear hx))
    go_wp2_with (first | refine haltst 63 ?_)
    refine .inl ?_
    refine st_l 63 (.tmp 2) (.tmp 9) (w.heap.size + 1) 0 63 #[.int .i64 0, .int .i64 0, .slice none 0 0, .int .i64 0, .slice none 0 0] #[.int .i64 0, .int .i64 0, .slice none 0 0, .int .i64 0, .slice none 0 0] #[.int .i64 0, .int .i64 0, .slice none 0 0, .int .i64 0, .slice none 0 0] rfl rfl (keepU R0.out X1.out) (by kernel_rfl) (by simp) rfl rfl ?_
    intro W9 hW9 o9
    simp only [Act.put]
    go_wp2
    exact bodyPost_ret (v := .tuple #[.agg #[.int .i64 0, .int .i64 0, .slice none 0 0, .int .i64 0, .slice none 0 0], .int .i64 150]) (res_ct 3 rfl rfl hW9 uDrinker (by kernel_rfl)) rfl (givesDNNo HR.out (ext_off (X0.out.trans X1.out) o9 (fun b hb => by omega)))
  · go_upto_region 4 with (first
      | (go_at_call 58; refine HC.out.mono ?_; rintro e w1 ⟨rfl, hx⟩; dsimp only [cond]; have X1 : Hid (Ext W0 w1) := Lib.hid hx; clear hx))
    clear d0 d1 d2 d3 d4 HC
    obtain ⟨⟨d0, d1, d2⟩, d3, d4⟩ := cells5 (keepU D0.out X1.out)
    by_cases e1 : th = 0
    · have t1 : (th == 0) = true := by simp [e1]
      have HR : Hid (closeR ⟨id, ph, L, th, N⟩ = (noK, 152)) := Lib.hid (by unfold closeR; rw [HT.out, if_pos rfl, if_pos (by dsimp only; exact e1)])
      clear e1
      go_upto_region 5 with (fail)
      go_wp2_with (first | refine haltst 63 ?_)
      refine .inl ?_
      refine st_l 63 (.tmp 2) (.tmp 14) (w.heap.size + 1) 0 63 #[.int .i64 0, .int .i64 0, .slice none 0 0, .int .i64 0, .slice none 0 0] #[.int .i64 0, .int .i64 0, .slice none 0 0, .int .i64 0, .slice none 0 0] #[.int .i64 0, .int .i64 0, .slice none 0 0, .int .i64 0, .slice none 0 0] rfl rfl (keepU R0.out X1.out) (by kernel_rfl) (by simp) rfl rfl ?_
      intro W9 hW9 o9
      simp only [Act.put]
      go_wp2
      exact bodyPost_ret (v := .tuple #[.agg #[.int .i64 0, .int .i64 0, .slice none 0 0, .int .i64 0, .slice none 0 0], .int .i64 152]) (res_ct 3 rfl rfl hW9 uDrinker (by kernel_rfl)) rfl (givesDNNo HR.out (ext_off (X0.out.trans X1.out) o9 (fun b hb => by omega)))
    · have t1 : (th == 0) = false := by simp [e1]
      have HR : Hid (closeR ⟨id, ph, L, th, N⟩ = (⟨id, ph, L, 0, []⟩, 0)) := Lib.hid (by unfold closeR; rw [HT.out, if_pos rfl, if_neg (by dsimp only; exact e1)])
      clear e1
      go_upto_region 6 with (fail)
      go_upto_region 7 with (first
        | (go_at_call 72; refine (clone_sd w1 _ L (HS.out.ext X1.out) hl).mono ?_; rintro e w5 ⟨v5, rfl, o5, x5⟩; obtain ⟨fa, fn, fc, rfl⟩ := o5.sh; have X5 : Hid (Ext W0 w5) := Lib.hid (Ext.trans X1.out x5); have O5 := Lib.hid o5; have B5 := Lib.hid (keepU D0.out X5.out); have c2 := blk_cell B5.out 2 rfl; have c3 := blk_cell B5.out 3 rfl; have c4 := blk_cell B5.out 4 rfl; have f2 := blk_free B5.out 2; have f3 := blk_free B5.out 3; have f4 := blk_free B5.out 4; clear o5 x5))
      obtain ⟨Wc, hWc⟩ : ∃ Wc, Wc = ((w5.setCell ⟨w.heap.size, 3, none⟩ (.int .i64 0)).setCell ⟨w.heap.size, 4, none⟩ (.slice none 0 0)).setCell ⟨w.heap.size, 2, none⟩ (.slice fa fn fc) := ⟨_, rfl⟩
      have hz : w.heap.size + 2 ≤ w1.heap.size := by have := blk_lt (keepU R0.out X1.out); omega
      have BC : Hid (Wc.heap[w.heap.size]? = some (.cells #[.int .i64 id, .int .i64 ph, .slice fa fn fc, .int .i64 0, .slice none 0 0] 63 (0, 0))) := Lib.hid (by rw [hWc, blk_set (blk_set (blk_set B5.out 3 _) 4 _) 2 _]; rfl)
      have QC : Hid (Wc.heap[w.heap.size + 1]? = some (.cells #[.int .i64 0, .int .i64 0, .slice none 0 0, .int .i64 0, .slice none 0 0] 63 (0, 0))) := Lib.hid (by rw [hWc, set_other _ _ _ _ (by show w.heap.size + 1 ≠ w.heap.size; omega), set_other _ _ _ _ (by show w.heap.size + 1 ≠ w.heap.size; omega), set_other _ _ _ _ (by show w.heap.size + 1 ≠ w.heap.size; omega)]; exact keepU R0.out X5.out)
      have XC : Hid (Ext w Wc) := Lib.hid (hWc ▸ below_set (below_set (below_set (X0.out.trans X5.out) (Nat.le_refl _) _) (Nat.le_refl _) _) (Nat.le_refl _) _)
      have SC : Hid (Ow Wc w1.heap.size (.slice fa fn fc) L) := Lib.hid (hWc ▸ ((O5.out.set (d := ⟨w.heap.size, 3, none⟩) (by show w.heap.size < _; omega) _).set (d := ⟨w.heap.size, 4, none⟩) (by show w.heap.size < _; omega) _).set (d := ⟨w.heap.size, 2, none⟩) (by show w.heap.size < _; omega) _)
      rw [← hWc]
      clear hWc c2 c3 c4 f2 f3 f4 d0 d1 d2 d3 d4
      obtain ⟨⟨d0, d1, d2⟩, d3, d4⟩ := cells5 BC.out
      go_wp2_with (first | refine haltst 63 ?_)
      refine .inl ?_
      refine st_l 63 (.tmp 2) (.tmp 23) (w.heap.size + 1) 0 63 #[.int .i64 0, .int .i64 0, .slice none 0 0, .int .i64 0, .slice none 0 0] #[.int .i64 id, .int .i64 ph, .slice fa fn fc, .int .i64 0, .slice none 0 0] #[.int .i64 id, .int .i64 ph, .slice fa fn fc, .int .i64 0, .slice none 0 0] rfl rfl QC.out (by kernel_rfl) (by simp) rfl rfl ?_
      intro W9 hW9 o9
      simp only [Act.put]
      go_wp2
      exact bodyPost_ret (v := .tuple #[.agg #[.int .i64 id, .int .i64 ph, .slice fa fn fc, .int .i64 0, .slice none 0 0], .int .i64 0]) (res_ct 3 rfl rfl hW9 uDrinker (by kernel_rfl)) rfl (by
        rw [HR.out]
        exact ⟨_, _, rfl, (owU SC.out (fun b hb => o9.block b (SC.out.low b hb).2 (by have := (SC.out.low b hb).1; omega))).sl, slNoneU _, ext_off XC.out o9 (fun b hb => by omega), fun b hb => by simp [Value.ownBlock] at hb⟩)
end Go.Proofs.YtfbambemjokmgaaGreat
namespace Go.Proofs.YtfbambemjokmgaaGreat
open Go.RowKit
set_option maxRecDepth 100000 in
set_option maxHeartbeats 4000000 in
theorem bClose_any (w : World) (vd vm : Value) (L : List Dk) (M : List Ml) (h : BV w vd vm L M) (hl : SmB L M) (a b : Int) :
    Calls Tryz.prog 39 #[.agg #[vd, vm], .int .i64 a] w (GivesBar w (stepBB L M 1 a b [])) := by
  obtain ⟨ao, c, bo, d, rfl, rfl⟩ := h.len
  obtain ⟨W0, hW0⟩ : ∃ W0, W0 = (w.alloc (.cells #[.slice ao L.length c, .slice bo M.length d] 25)).alloc (.cells #[.slice none 0 0, .slice none 0 0] 25) := ⟨_, rfl⟩
  have X0 : Hid (Ext w W0) := Lib.hid (hW0 ▸ ((Ext.refl w).alloc _).alloc _)
  have B0 : Hid (W0.heap[w.heap.size]? = some (.cells #[.slice ao L.length c, .slice bo M.length d] 25 (0, 0))) := Lib.hid (hW0 ▸ old1 (at0 w _) _)
  have R0 : Hid (W0.heap[w.heap.size + 1]? = some (.cells #[.slice none 0 0, .slice none 0 0] 25 (0, 0))) := Lib.hid (hW0 ▸ at1 w _ _)
  have HW0 := Lib.hid hW0
  have HV := Lib.hid (h.ext X0.out)
  have HL := Lib.hid hl
  obtain ⟨r, hr⟩ : ∃ r, faultB L M [a] = r := ⟨_, rfl⟩
  have HRF := Lib.hid hr
  obtain ⟨k0, k1⟩ := cells2S B0.out
  have HFA : Hid (∀ W vn, Ext W0 W → Sl W vn [a] → _) := Lib.hid fun W vn hW hn => faultB_any W _ _ vn L M [a] (HV.out.ext hW) hl hn r hr
  clear h hl hW0 hr
  go_enter Tryz.func39, Tryz.ntmps39
  go_upto_region 1 with (fail)
  rw [← HW0.out]
  by_cases hr0 : r = 0
  · subst hr0
    have HCK : Hid (chkB L M = true ∧ hasK L a = true) := Lib.hid (by
      have := HRF.out
      unfold faultB at this
      split at this
      · next q =>
        refine ⟨q, ?_⟩
        split at this
        · next q2 => simpa using q2
        · simp at this
      · simp at this)
    obtain ⟨A, hA⟩ : ∃ A : Nat, a = A := ⟨a.toNat, by have := hasK_iff.1 HCK.out.2; omega⟩
    subst hA
    have hAL : A < L.length := by have := hasK_iff.1 HCK.out.2; omega
    obtain ⟨⟨i0, p0, S0, t0, N0⟩, hA⟩ : ∃ x, L[A]? = some x := ⟨_, List.getElem?_eq_getElem hAL⟩
    have HBE : Hid (behB L M A (closeR ⟨i0, p0, S0, t0, N0⟩) = stepBB L M 1 A b []) := Lib.hid (by rw [stepBB_yes HCK.out.1]; exact beh_close hA b [])
    have hS0 : S0.length ≤ 100 := HL.out.s _ (List.mem_of_getElem? hA)
    have HBH : Hid (∀ W, Ext W0 W → _) := Lib.hid fun W hW => HBE.out ▸ behindB_any W _ _ L M (HV.out.ext hW) HL.out A i0 p0 t0 S0 N0 hA 81 #[] (closeR ⟨i0, p0, S0, t0, N0⟩) (enters_of Tryz.func81 (by kernel_rfl) rfl) (fun V u nu _ hu hnu => (dkClose_any V i0 p0 t0 u nu S0 N0 hu hnu (by omega)).mono fun _ _ h => h.d) (Nat.le_trans closeR_few.1 hS0) (Nat.le_trans closeR_few.2 (by omega))
    obtain ⟨⟨⟨L2, M2⟩, er⟩, hq⟩ : ∃ q, stepBB L M 1 A b [] = q := ⟨_, rfl⟩
    rw [hq] at HBH
    have HQ := Lib.hid hq
    clear hq hA HBE
    go_wp2_with (first
      | (go_at_call 79; refine (HFA.out (W0.alloc _) _ ((Ext.refl _).alloc _) (Sl.litAt W0 _ rfl [(A : Int)] (by simp))).mono ?_; rintro e w1 ⟨rfl, hx⟩; have X1 : Hid (Ext W0 w1) := Lib.hid (Ext.trans ((Ext.refl _).alloc _) hx); obtain ⟨j0, j1⟩ := cells2S (keepU B0.out X1.out); clear hx)
      | (go_at_call 80; refine (HBH.out w1 X1.out).mono ?_; rintro e w2 ⟨vd2, vm2, rfl, sv2, hx⟩; dsimp only at sv2 ⊢; obtain ⟨a1, n1, c1, a2, n2, c2, rfl, rfl⟩ := sv2.sh; have SV2 := Lib.hid sv2; have X2 := Lib.hid (X1.out.trans hx); clear sv2 hx)
      | refine haltst 25 ?_)
    refine .inl ?_
    have RC := Lib.hid (keepU R0.out X2.out)
    refine st_l 25 (.tmp 4) (.tmp 18) (w.heap.size + 1) 0 25 _ #[.slice a1 n1 c1, .slice a2 n2 c2] _ rfl rfl RC.out (by kernel_rfl) (by simp) rfl rfl ?_
    intro W9 hW9 o9
    simp only [Act.put]
    go_wp2
    exact bodyPost_ret (v := .tuple #[.agg #[.slice a1 n1 c1, .slice a2 n2 c2], .int .i64 er]) (res_ct 5 rfl rfl hW9 uBar (by kernel_rfl)) rfl (by rw [HQ.out]; exact ⟨_, _, rfl, SV2.out.off RC.out o9, ext_off (X0.out.trans X2.out) o9 (fun b hb => by omega)⟩)
  · have HR : Hid (stepBB L M 1 a b [] = (noB, r)) := Lib.hid (by
      have := HRF.out
      unfold faultB at this
      split at this
      · next q =>
        split at this
        · omega
        · next q2 => rw [← this]; rw [stepBB_yes q]; exact stepB_node (.inl fun hn => q2 (by simpa using hasK_iff.2 hn))
      · next q => rw [← this]; exact stepBB_no (by simpa using q) _ _ _ _)
    have q0 : (r != 0) = true := by simp [hr0]
    clear hr0
    go_wp2_with (first
      | (go_at_call 79; refine (HFA.out (W0.alloc _) _ ((Ext.refl _).alloc _) (Sl.litAt W0 _ rfl [a] (by simp))).mono ?_; rintro e w1 ⟨rfl, hx⟩; have X1 : Hid (Ext W0 w1) := Lib.hid (Ext.trans ((Ext.refl _).alloc _) hx); clear hx)
      | refine haltst 25 ?_)
    refine .inl ?_
    refine st_l 25 (.tmp 4) (.tmp 13) (w.heap.size + 1) 0 25 _ #[.slice none 0 0, .slice none 0 0] _ rfl rfl (keepU R0.out X1.out) (by kernel_rfl) (by simp) rfl rfl ?_
    intro W9 hW9 o9
    simp only [Act.put]
    go_wp2
    exact bodyPost_ret (v := .tuple #[.agg #[.slice none 0 0, .slice none 0 0], .int .i64 r]) (res_ct 5 rfl rfl hW9 uBar (by kernel_rfl)) rfl (givesBar_no HR.out (ext_off (X0.out.trans X1.out) o9 (fun b hb => by omega)))
set_option maxRecDepth 100000 in
set_option maxHeartbeats 2000000 in
theorem open_one (w : World) (g1 : Nat) (id ph th : Int) (v nv qv : Value) (L : List Sd) (N Q : List Int) (h : Sl w v L) (hN : Sl w nv N) (hl : L.length ≤ 1000) (h1 : w.heap[g1]? = some (.cells #[qv] 26 (0, 0))) (hQ : Sl w qv Q) (hq : Q.length ≤ 1000) :
    Calls Tryz.prog 82 #[.agg #[.int .i64 id, .int .i64 ph, v, .int .i64 th, nv], .pointer (some ⟨g1, 0, none⟩)] w (GivesD w (openR ⟨id, ph, L, th, N⟩ Q)) := by
  obtain ⟨ao, c, rfl⟩ := h.len
  obtain ⟨na, nc, rfl⟩ := hN.len
  obtain ⟨qa, qc, rfl⟩ := hQ.len
  obtain ⟨W0, hW0⟩ : ∃ W0, W0 = (w.alloc (.cells #[.int .i64 id, .int .i64 ph, .slice ao L.length c, .int .i64 th, .slice na N.length nc] 63)).alloc (.cells #[.int .i64 0, .int .i64 0, .slice none 0 0, .int .i64 0, .slice none 0 0] 63) := ⟨_, rfl⟩
  have X0 : Hid (Ext w W0) := Lib.hid (hW0 ▸ ((Ext.refl w).alloc _).alloc _)
  have hD : W0.heap[w.heap.size]? = some (.cells #[.int .i64 id, .int .i64 ph, .slice ao L.length c, .int .i64 th, .slice na N.length nc] 63 (0, 0)) := hW0 ▸ old1 (at0 w _) _
  have R0 : Hid (W0.heap[w.heap.size + 1]? = some (.cells #[.int .i64 0, .int .i64 0, .slice none 0 0, .int .i64 0, .slice none 0 0] 63 (0, 0))) := Lib.hid (hW0 ▸ at1 w _ _)
  have hs0 : W0.heap.size = w.heap.size + 2 := by rw [hW0, size_alloc, size_alloc]
  have HW0 := Lib.hid hW0
  have HC := Lib.hid (dkOpen_any W0 id ph th _ _ _ L N Q (h.ext X0.out) (hN.ext X0.out) (hQ.ext X0.out) hl hq)
  obtain ⟨⟨d0, d1, d2⟩, d3, d4⟩ := cells5 hD
  have q0 := blk_cell (keepU h1 X0.out) 0 rfl
  have HS0 := Lib.hid hs0
  clear h hN hQ hW0 hD h1 hs0
  obtain ⟨⟨⟨id', ph', L', th', N'⟩, er⟩, hr⟩ : ∃ r, openR ⟨id, ph, L, th, N⟩ Q = r := ⟨_, rfl⟩
  rw [hr] at HC ⊢
  clear hr
  go_enter Tryz.func82, Tryz.ntmps82
  go_upto_region 1 with (fail)
  rw [← HW0.out]
  go_wp2_with (first
    | (go_at_call 83; refine HC.out.mono ?_; rintro e w1 ⟨v1, nv1, rfl, s1, sn1, x1, n1⟩; dsimp only at s1 sn1 ⊢; obtain ⟨a1, c1, rfl⟩ := s1.len; obtain ⟨na1, nc1, rfl⟩ := sn1.len; have S1 := Lib.hid s1; have SN1 := Lib.hid sn1; have X1 := Lib.hid x1; have N1 := Lib.hid n1; clear s1 sn1 x1 n1)
    | refine haltst 63 ?_)
  refine .inl ?_
  refine st_l 63 (.tmp 3) (.tmp 8) (w.heap.size + 1) 0 63 #[.int .i64 0, .int .i64 0, .slice none 0 0, .int .i64 0, .slice none 0 0] _ _ rfl rfl (keepU R0.out X1.out) (by kernel_rfl) (by simp) rfl rfl ?_
  intro W9 hW9 o9
  simp only [Act.put]
  go_wp2
  exact bodyPost_ret (v := .tuple #[.agg _, .int .i64 er]) (res_ct 4 rfl rfl hW9 uDrinker (by kernel_rfl)) rfl ⟨_, _, rfl, S1.out.off (apartSd S1.out (keepU R0.out X1.out) (by simp)) o9, slOffU SN1.out N1.out o9 (by have := HS0.out; omega), ext_off (X0.out.trans X1.out) o9 (fun b hb => by omega)⟩
set_option maxRecDepth 100000 in
set_option maxHeartbeats 4000000 in
theorem bOpen_any (w : World) (vd vm : Value) (L : List Dk) (M : List Ml) (h : BV w vd vm L M) (hl : SmB L M) (a b : Int) (qv : Value) (Q : List Int) (hQ : Sl w qv Q) (hq : Q.length ≤ 100) :
    Calls Tryz.prog 41 #[.agg #[vd, vm], .int .i64 a, qv] w (GivesBar w (stepBB L M 0 a b Q)) := by
  have hmf : ∀ (fn : Fn) (first cap : Array Value) (w : World), (Instr.makeFunc fn first cap).run Tryz.prog w = .ok (.func fn first cap) w := fun _ _ _ _ => rfl
  obtain ⟨ao, c, bo, d, rfl, rfl⟩ := h.len
  obtain ⟨qa, qc, rfl⟩ := hQ.len
  obtain ⟨W0, hW0⟩ : ∃ W0, W0 = ((w.alloc (.cells #[.slice ao L.length c, .slice bo M.length d] 25)).alloc (.cells #[.slice qa Q.length qc] 26)).alloc (.cells #[.slice none 0 0, .slice none 0 0] 25) := ⟨_, rfl⟩
  have X0 : Hid (Ext w W0) := Lib.hid (hW0 ▸ (((Ext.refl w).alloc _).alloc _).alloc _)
  have B0 : Hid (W0.heap[w.heap.size]? = some (.cells #[.slice ao L.length c, .slice bo M.length d] 25 (0, 0))) := Lib.hid (hW0 ▸ old1 (old1 (at0 w _) _) _)
  have N0' : Hid (W0.heap[w.heap.size + 1]? = some (.cells #[.slice qa Q.length qc] 26 (0, 0))) := Lib.hid (hW0 ▸ old1 (at1 w _ _) _)
  have R0 : Hid (W0.heap[w.heap.size + 2]? = some (.cells #[.slice none 0 0, .slice none 0 0] 25 (0, 0))) := Lib.hid (hW0 ▸ at2 w _ _ _)
  have HQS := Lib.hid (hQ.ext X0.out)
  have HW0 := Lib.hid hW0
  have HV := Lib.hid (h.ext X0.out)
  have HL := Lib.hid hl
  obtain ⟨r, hr⟩ : ∃ r, faultB L M [a] = r := ⟨_, rfl⟩
  have HRF := Lib.hid hr
  obtain ⟨k0, k1⟩ := cells2S B0.out
  have HFA : Hid (∀ W vn, Ext W0 W → Sl W vn [a] → _) := Lib.hid fun W vn hW hn => faultB_any W _ _ vn L M [a] (HV.out.ext hW) hl hn r hr
  clear h hl hW0 hr hQ
  go_enter Tryz.func41, Tryz.ntmps41
  go_upto_region 1 with (fail)
  rw [← HW0.out]
  by_cases hr0 : r = 0
  · subst hr0
    have HCK : Hid (chkB L M = true ∧ hasK L a = true) := Lib.hid (by
      have := HRF.out
      unfold faultB at this
      split at this
      · next q =>
        refine ⟨q, ?_⟩
        split at this
        · next q2 => simpa using q2
        · simp at this
      · simp at this)
    obtain ⟨A, hA⟩ : ∃ A : Nat, a = A := ⟨a.toNat, by have := hasK_iff.1 HCK.out.2; omega⟩
    subst hA
    have hAL : A < L.length := by have := hasK_iff.1 HCK.out.2; omega
    obtain ⟨⟨i0, p0, S0, t0, N0⟩, hA⟩ : ∃ x, L[A]? = some x := ⟨_, List.getElem?_eq_getElem hAL⟩
    have HBE : Hid (behB L M A (openR ⟨i0, p0, S0, t0, N0⟩ Q) = stepBB L M 0 A b Q) := Lib.hid (by rw [stepBB_yes HCK.out.1]; exact beh_open hA b Q)
    have hS0 : S0.length ≤ 100 := HL.out.s _ (List.mem_of_getElem? hA)
    have HBH : Hid (∀ W, Ext W0 W → _) := Lib.hid fun W hW => HBE.out ▸ behindB_any W _ _ L M (HV.out.ext hW) HL.out A i0 p0 t0 S0 N0 hA 82 #[.pointer (some ⟨w.heap.size + 1, 0, none⟩)] (openR ⟨i0, p0, S0, t0, N0⟩ Q) (enters_of Tryz.func82 (by kernel_rfl) rfl) (fun V u nu hV hu hnu => open_one V (w.heap.size + 1) i0 p0 t0 u nu _ S0 N0 Q hu hnu (by omega) (keepU N0'.out (hW.trans hV)) (HQS.out.ext (hW.trans hV)) (by omega)) (Nat.le_trans openR_few.1 hS0) (Nat.le_trans openR_few.2 hq)
    obtain ⟨⟨⟨L2, M2⟩, er⟩, hq⟩ : ∃ q, stepBB L M 0 A b Q = q := ⟨_, rfl⟩
    rw [hq] at HBH
    have HQ := Lib.hid hq
    clear hq hA HBE
    go_wp2_with (first
      | (go_at_call 79; refine (HFA.out (W0.alloc _) _ ((Ext.refl _).alloc _) (Sl.litAt W0 _ rfl [(A : Int)] (by simp))).mono ?_; rintro e w1 ⟨rfl, hx⟩; have X1 : Hid (Ext W0 w1) := Lib.hid (Ext.trans ((Ext.refl _).alloc _) hx); obtain ⟨j0, j1⟩ := cells2S (keepU B0.out X1.out); clear hx)
      | (go_at_call 80; refine (HBH.out w1 X1.out).mono ?_; rintro e w2 ⟨vd2, vm2, rfl, sv2, hx⟩; dsimp only at sv2 ⊢; obtain ⟨a1, n1, c1, a2, n2, c2, rfl, rfl⟩ := sv2.sh; have SV2 := Lib.hid sv2; have X2 := Lib.hid (X1.out.trans hx); clear sv2 hx)
      | refine haltst 25 ?_)
    refine .inl ?_
    have RC := Lib.hid (keepU R0.out X2.out)
    refine st_l 25 (.tmp 6) (.tmp 23) (w.heap.size + 2) 0 25 _ #[.slice a1 n1 c1, .slice a2 n2 c2] _ rfl rfl RC.out (by kernel_rfl) (by simp) rfl rfl ?_
    intro W9 hW9 o9
    simp only [Act.put]
    go_wp2
    exact bodyPost_ret (v := .tuple #[.agg #[.slice a1 n1 c1, .slice a2 n2 c2], .int .i64 er]) (res_ct 7 rfl rfl hW9 uBar (by kernel_rfl)) rfl (by rw [HQ.out]; exact ⟨_, _, rfl, SV2.out.off RC.out o9, ext_off (X0.out.trans X2.out) o9 (fun b hb => by omega)⟩)
  · have HR : Hid (stepBB L M 0 a b Q = (noB, r)) := Lib.hid (by
      have := HRF.out
      unfold faultB at this
      split at this
      · next q =>
        split at this
        · omega
        · next q2 => rw [← this]; rw [stepBB_yes q]; exact stepB_node (.inl fun hn => q2 (by simpa using hasK_iff.2 hn))
      · next q => rw [← this]; exact stepBB_no (by simpa using q) _ _ _ _)
    have q0 : (r != 0) = true := by simp [hr0]
    clear hr0
    go_wp2_with (first
      | (go_at_call 79; refine (HFA.out (W0.alloc _) _ ((Ext.refl _).alloc _) (Sl.litAt W0 _ rfl [a] (by simp))).mono ?_; rintro e w1 ⟨rfl, hx⟩; have X1 : Hid (Ext W0 w1) := Lib.hid (Ext.trans ((Ext.refl _).alloc _) hx); clear hx)
      | refine haltst 25 ?_)
    refine .inl ?_
    refine st_l 25 (.tmp 6) (.tmp 16) (w.heap.size + 2) 0 25 _ #[.slice none 0 0, .slice none 0 0] _ rfl rfl (keepU R0.out X1.out) (by kernel_rfl) (by simp) rfl rfl ?_
    intro W9 hW9 o9
    simp only [Act.put]
    go_wp2
    exact bodyPost_ret (v := .tuple #[.agg #[.slice none 0 0, .slice none 0 0], .int .i64 r]) (res_ct 7 rfl rfl hW9 uBar (by kernel_rfl)) rfl (givesBar_no HR.out (ext_off (X0.out.trans X1.out) o9 (fun b hb => by omega)))
end Go.Proofs.YtfbambemjokmgaaGreat
