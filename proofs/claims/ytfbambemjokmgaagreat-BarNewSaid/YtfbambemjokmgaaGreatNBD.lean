/- Texts of this seat. -/
import Derived.Test.YtfbambemjokmgaaGreatNBC
namespace Go.Proofs.YtfbambemjokmgaaGreat
open Go.RowKit
set_option maxRecDepth 100000 in
set_option maxHeartbeats 8000000 in
theorem dkOpen_any (w : World) (id ph th : Int) (v nv qv : Value) (L : List Sd) (N Q : List Int) (h : Sl w v L) (hN : Sl w nv N) (hQ : Sl w qv Q) (hl : L.length ≤ 1000) (hq : Q.length ≤ 1000) :
    Calls Tryz.prog 83 #[.agg #[.int .i64 id, .int .i64 ph, v, .int .i64 th, nv], qv] w (GivesDN w (openR ⟨id, ph, L, th, N⟩ Q)) := by
  obtain ⟨ao, c, rfl⟩ := h.len
  obtain ⟨na, nc, rfl⟩ := hN.len
  obtain ⟨qa, qc, rfl⟩ := hQ.len
  obtain ⟨W0, hW0⟩ : ∃ W0, W0 = (w.alloc (.cells #[.int .i64 id, .int .i64 ph, .slice ao L.length c, .int .i64 th, .slice na N.length nc] 63)).alloc (.cells #[.int .i64 0, .int .i64 0, .slice none 0 0, .int .i64 0, .slice none 0 0] 63) := ⟨_, rfl⟩
  have X0 : Hid (Ext w W0) := Lib.hid (hW0 ▸ ((Ext.refl w).alloc _).alloc _)
  have D0 : Hid (W0.heap[w.heap.size]? = some (.cells #[.int .i64 id, .int .i64 ph, .slice ao L.length c, .int .i64 th, .slice na N.length nc] 63 (0, 0))) := Lib.hid (hW0 ▸ old1 (at0 w _) _)
  have R0 : Hid (W0.heap[w.heap.size + 1]? = some (.cells #[.int .i64 0, .int .i64 0, .slice none 0 0, .int .i64 0, .slice none 0 0] 63 (0, 0))) := Lib.hid (hW0 ▸ at1 w _ _)
  have HW0 := Lib.hid hW0
  have HS := Lib.hid (h.ext X0.out)
  have HN := Lib.hid (hN.ext X0.out)
  have HQ := Lib.hid (hQ.ext X0.out)
  obtain ⟨t, ht⟩ : ∃ t, chkK ⟨id, ph, L, th, N⟩ = t := ⟨_, rfl⟩
  have HT := Lib.hid ht
  have HQL : Hid (Q.length ≤ 1000) := Lib.hid hq
  clear h hN hQ hW0 ht hq
  obtain ⟨⟨d0, d1, d2⟩, d3, d4⟩ := cells5 D0.out
  have HC := Lib.hid (dkCheck_any W0 id ph th _ _ L N HS.out HN.out hl t HT.out)
  go_enter Tryz.func83, Tryz.ntmps83
  go_upto_region 1 with (fail)
  rw [← HW0.out]
  cases t
  · have HR : Hid (openR ⟨id, ph, L, th, N⟩ Q = (noK, 150)) := Lib.hid (by unfold openR; rw [HT.out]; rfl)
    go_upto_region 3 with (first
      | (go_at_call 58; refine HC.out.mono ?_; rintro e w1 ⟨rfl, hx⟩; dsimp only [cond]; have X1 : Hid (Ext W0 w1) := Lib.hid hx; clear hx))
    go_wp2_with (first | refine haltst 63 ?_)
    refine .inl ?_
    refine st_l 63 (.tmp 4) (.tmp 12) (w.heap.size + 1) 0 63 #[.int .i64 0, .int .i64 0, .slice none 0 0, .int .i64 0, .slice none 0 0] #[.int .i64 0, .int .i64 0, .slice none 0 0, .int .i64 0, .slice none 0 0] #[.int .i64 0, .int .i64 0, .slice none 0 0, .int .i64 0, .slice none 0 0] rfl rfl (keepU R0.out X1.out) (by kernel_rfl) (by simp) rfl rfl ?_
    intro W9 hW9 o9
    simp only [Act.put]
    go_wp2
    exact bodyPost_ret (v := .tuple #[.agg #[.int .i64 0, .int .i64 0, .slice none 0 0, .int .i64 0, .slice none 0 0], .int .i64 150]) (res_ct 5 rfl rfl hW9 uDrinker (by kernel_rfl)) rfl (givesDNNo HR.out (ext_off (X0.out.trans X1.out) o9 (fun b hb => by omega)))
  · go_upto_region 4 with (first
      | (go_at_call 58; refine HC.out.mono ?_; rintro e w1 ⟨rfl, hx⟩; dsimp only [cond]; have X1 : Hid (Ext W0 w1) := Lib.hid hx; clear hx))
    clear d0 d1 d2 d3 d4 HC
    obtain ⟨⟨d0, d1, d2⟩, d3, d4⟩ := cells5 (keepU D0.out X1.out)
    by_cases e1 : th = 0
    · have t1 : (th != 0) = false := by simp [e1]
      obtain ⟨q, hq⟩ : ∃ q, (Q.all fun p => decide (p ∈ peersL (fun s => decide (s.state = 0)) L)) = q := ⟨_, rfl⟩
      have HQQ := Lib.hid hq
      have HTH := Lib.hid e1
      clear hq e1
      go_upto_region 7 with (fail)
      cases q
      · have HR : Hid (openR ⟨id, ph, L, th, N⟩ Q = (noK, 151)) := Lib.hid (by unfold openR; rw [HT.out, if_pos rfl, if_neg (by dsimp only; rw [HTH.out]; simp), if_neg (by dsimp only; rw [HQQ.out]; simp)])
        go_upto_region 8 with (first
          | (go_at_call 102; refine (peers_any w1 id ph th _ _ _ L N (fun s => decide (s.state = 0)) (HS.out.ext X1.out) (HN.out.ext X1.out) (tellsLive _) hl).mono ?_; rintro e w2 ⟨v2, rfl, o2, x2⟩; obtain ⟨a2, n2, c2, rfl⟩ := o2.sh; have X2 : Hid (Ext W0 w2) := Lib.hid (Ext.trans X1.out x2); have O2 := Lib.hid o2; clear x2 o2)
          | (go_at_call 101; refine (setWithin_val w2 _ _ Q _ (HQ.out.ext X2.out) O2.out.sl (Nat.le_trans (peersL_len _ _) (by omega)) _ HQQ.out).mono ?_; rintro e w3 ⟨rfl, x3⟩; have X3 : Hid (Ext W0 w3) := Lib.hid (Ext.trans X2.out x3); clear x3))
        go_wp2_with (first | refine haltst 63 ?_)
        refine .inl ?_
        refine st_l 63 (.tmp 4) (.tmp 24) (w.heap.size + 1) 0 63 #[.int .i64 0, .int .i64 0, .slice none 0 0, .int .i64 0, .slice none 0 0] #[.int .i64 0, .int .i64 0, .slice none 0 0, .int .i64 0, .slice none 0 0] #[.int .i64 0, .int .i64 0, .slice none 0 0, .int .i64 0, .slice none 0 0] rfl rfl (keepU R0.out X3.out) (by kernel_rfl) (by simp) rfl rfl ?_
        intro W9 hW9 o9
        simp only [Act.put]
        go_wp2
        exact bodyPost_ret (v := .tuple #[.agg #[.int .i64 0, .int .i64 0, .slice none 0 0, .int .i64 0, .slice none 0 0], .int .i64 151]) (res_ct 5 rfl rfl hW9 uDrinker (by kernel_rfl)) rfl (givesDNNo HR.out (ext_off (X0.out.trans X3.out) o9 (fun b hb => by omega)))
      · have HR : Hid (openR ⟨id, ph, L, th, N⟩ Q = (⟨id, ph, L, 1, norm Q⟩, 0)) := Lib.hid (by unfold openR; rw [HT.out, if_pos rfl, if_neg (by dsimp only; rw [HTH.out]; simp), if_pos (by dsimp only; rw [HQQ.out])])
        go_upto_region 9 with (first
          | (go_at_call 102; refine (peers_any w1 id ph th _ _ _ L N (fun s => decide (s.state = 0)) (HS.out.ext X1.out) (HN.out.ext X1.out) (tellsLive _) hl).mono ?_; rintro e w2 ⟨v2, rfl, o2, x2⟩; obtain ⟨a2, n2, c2, rfl⟩ := o2.sh; have X2 : Hid (Ext W0 w2) := Lib.hid (Ext.trans X1.out x2); have O2 := Lib.hid o2; clear x2 o2)
          | (go_at_call 101; refine (setWithin_val w2 _ _ Q _ (HQ.out.ext X2.out) O2.out.sl (Nat.le_trans (peersL_len _ _) (by omega)) _ HQQ.out).mono ?_; rintro e w3 ⟨rfl, x3⟩; have X3 : Hid (Ext W0 w3) := Lib.hid (Ext.trans X2.out x3); clear x3))
        clear d0 d1 d2 d3 d4 HQQ X1 X2 O2
        go_cut [5] (fun s5 wx => ∃ (fa : Option Addr) (fn fc : Nat) (ma : Option Addr) (mn mc : Nat), s5 = .int .i64 0 ∧ Hid (wx.heap[w.heap.size]? = some (.cells #[.int .i64 id, .int .i64 ph, .slice fa fn fc, .int .i64 1, .slice ma mn mc] 63 (0, 0))) ∧ Hid (wx.heap[w.heap.size + 1]? = some (.cells #[.int .i64 0, .int .i64 0, .slice none 0 0, .int .i64 0, .slice none 0 0] 63 (0, 0))) ∧ Hid (Ow wx (w.heap.size + 2) (.slice fa fn fc) L) ∧ Hid (Ow wx (w.heap.size + 2) (.slice ma mn mc) (norm Q)) ∧ Hid (Ext w wx))
        case first =>
          (refine wp_region_X_lit (K := fun V => Ext w V) (by kernel_rfl) (fun w1 hw1 => ?_))
          have HX1 : Hid (Ext W0 w1) := Lib.hid (Ext.trans X3.out hw1)
          clear hw1
          have XA := Lib.hid (X0.out.trans HX1.out)
          obtain ⟨⟨d0, d1, d2⟩, d3, d4⟩ := cells5 (keepU D0.out HX1.out)
          refine xtv 0 (h := ?_)
          refine xtv 2 (h := ?_)
          refine xtv 3 (h := ?_)
          refine xtwo 1 4 (hk := XA.out) (h := RunX.of 1 (h := ?_)) (h' := RunX.of 4 (h := ?_))
          · go_simp
            refine (setOfE_any w1 _ Q (HQ.out.ext HX1.out) (by have := HQL.out; omega)).mono ?_
            rintro eO wO ⟨vO, rfl, oO, xO⟩
            obtain ⟨ma, mn, mc, rfl⟩ := oO.sh
            have XP : Hid (Ext W0 wO) := Lib.hid (Ext.trans HX1.out xO)
            have OO := Lib.hid oO
            clear xO oO
            dsimp only
            (try (simp only [Act.put, List.setIfInBounds_toArray, List.set]))
            clear d0 d1 d2 d3 d4
            obtain ⟨⟨d0, d1, d2⟩, d3, d4⟩ := cells5 (keepU D0.out XP.out)
            refine xone 4 (hk := (X0.out.trans XP.out)) (h := RunX.of 4 (h := ?_))
            go_simp
            (try (simp only [Act.put, List.setIfInBounds_toArray, List.set]))
            refine xtv 6 (h := ?_)
            refine xone 5 (hk := (X0.out.trans XP.out)) (h := RunX.of 5 (h := ?_))
            go_simp
            refine (clone_sd wO _ L (HS.out.ext XP.out) hl).mono ?_
            rintro eC wC ⟨vC, rfl, oC, xC⟩
            obtain ⟨fa, fn, fc, rfl⟩ := oC.sh
            have XR : Hid (Ext W0 wC) := Lib.hid (Ext.trans XP.out xC)
            have OC := Lib.hid oC
            have OOL := Lib.hid (OO.out.ext xC)
            have OCL := OC
            clear xC oC
            dsimp only
            (try (simp only [Act.put, List.setIfInBounds_toArray, List.set]))
            have hz : w.heap.size + 2 ≤ W0.heap.size := by have := blk_lt R0.out; omega
            have B0 := Lib.hid (keepU D0.out XR.out)
            have Q0 := Lib.hid (keepU R0.out XR.out)
            have XX := Lib.hid (X0.out.trans XR.out)
            have S0 : Hid (Ow wC (w.heap.size + 2) (.slice fa fn fc) L) := Lib.hid (OCL.out.mono (by have := Below.size HX1.out; first | omega | (have := Below.size XP.out; omega)))
            have T0 : Hid (Ow wC (w.heap.size + 2) (.slice ma mn mc) (norm Q)) := Lib.hid (OOL.out.mono (by have := Below.size HX1.out; first | omega | (have := Below.size XP.out; omega)))
            clear OCL OOL d0 d1 d2 d3 d4
            have c7 := blk_cell B0.out 3 rfl
            have f7 := blk_free B0.out 3
            refine xone 7 (hk := XX.out) (h := RunX.of 7 (h := ?_))
            go_simp
            (try (simp only [Act.put, List.setIfInBounds_toArray, List.set]))
            obtain ⟨Wa, hWa⟩ : ∃ Wa, Wa = wC.setCell ⟨w.heap.size, 3, none⟩ (.int .i64 1) := ⟨_, rfl⟩
            have Ba := Lib.hid (hWa ▸ blk_set B0.out 3 (.int .i64 1) : Wa.heap[w.heap.size]? = some (.cells #[.int .i64 id, .int .i64 ph, .slice ao L.length c, .int .i64 1, .slice na N.length nc] 63 (0, 0)))
            have Qa := Lib.hid (hWa ▸ (set_other _ _ _ _ (by show w.heap.size + 1 ≠ w.heap.size; omega)).trans Q0.out : Wa.heap[w.heap.size + 1]? = some (.cells #[.int .i64 0, .int .i64 0, .slice none 0 0, .int .i64 0, .slice none 0 0] 63 (0, 0)))
            have Xa : Hid (Ext w Wa) := Lib.hid (hWa ▸ below_set XX.out (Nat.le_refl _) _)
            have Sa := Lib.hid (hWa ▸ S0.out.set (d := ⟨w.heap.size, 3, none⟩) (by show w.heap.size < _; omega) _)
            have Ta := Lib.hid (hWa ▸ T0.out.set (d := ⟨w.heap.size, 3, none⟩) (by show w.heap.size < _; omega) _)
            rw [← hWa]
            clear hWa c7 f7
            refine xtv 8 (h := ?_)
            have c9 := blk_cell Ba.out 4 rfl
            have f9 := blk_free Ba.out 4
            refine xone 9 (hk := Xa.out) (h := RunX.of 9 (h := ?_))
            go_simp
            (try (simp only [Act.put, List.setIfInBounds_toArray, List.set]))
            obtain ⟨Wb, hWb⟩ : ∃ Wb, Wb = Wa.setCell ⟨w.heap.size, 4, none⟩ (.slice ma mn mc) := ⟨_, rfl⟩
            have Bb := Lib.hid (hWb ▸ blk_set Ba.out 4 (.slice ma mn mc) : Wb.heap[w.heap.size]? = some (.cells #[.int .i64 id, .int .i64 ph, .slice ao L.length c, .int .i64 1, .slice ma mn mc] 63 (0, 0)))
            have Qb := Lib.hid (hWb ▸ (set_other _ _ _ _ (by show w.heap.size + 1 ≠ w.heap.size; omega)).trans Qa.out : Wb.heap[w.heap.size + 1]? = some (.cells #[.int .i64 0, .int .i64 0, .slice none 0 0, .int .i64 0, .slice none 0 0] 63 (0, 0)))
            have Xb : Hid (Ext w Wb) := Lib.hid (hWb ▸ below_set Xa.out (Nat.le_refl _) _)
            have Sb := Lib.hid (hWb ▸ Sa.out.set (d := ⟨w.heap.size, 4, none⟩) (by show w.heap.size < _; omega) _)
            have Tb := Lib.hid (hWb ▸ Ta.out.set (d := ⟨w.heap.size, 4, none⟩) (by show w.heap.size < _; omega) _)
            rw [← hWb]
            clear hWb c9 f9
            refine xtv 10 (h := ?_)
            refine xtv 11 (h := ?_)
            have cc := blk_cell Bb.out 2 rfl
            have fc2 := blk_free Bb.out 2
            refine xone 12 (hk := Xb.out) (h := RunX.of 12 (h := ?_))
            go_simp
            (try (simp only [Act.put, List.setIfInBounds_toArray, List.set]))
            obtain ⟨Wc, hWc⟩ : ∃ Wc, Wc = Wb.setCell ⟨w.heap.size, 2, none⟩ (.slice fa fn fc) := ⟨_, rfl⟩
            have Bc := Lib.hid (hWc ▸ blk_set Bb.out 2 (.slice fa fn fc) : Wc.heap[w.heap.size]? = some (.cells #[.int .i64 id, .int .i64 ph, .slice fa fn fc, .int .i64 1, .slice ma mn mc] 63 (0, 0)))
            have Qc := Lib.hid (hWc ▸ (set_other _ _ _ _ (by show w.heap.size + 1 ≠ w.heap.size; omega)).trans Qb.out : Wc.heap[w.heap.size + 1]? = some (.cells #[.int .i64 0, .int .i64 0, .slice none 0 0, .int .i64 0, .slice none 0 0] 63 (0, 0)))
            have Xc : Hid (Ext w Wc) := Lib.hid (hWc ▸ below_set Xb.out (Nat.le_refl _) _)
            have Sc := Lib.hid (hWc ▸ Sb.out.set (d := ⟨w.heap.size, 2, none⟩) (by show w.heap.size < _; omega) _)
            have Tc := Lib.hid (hWc ▸ Tb.out.set (d := ⟨w.heap.size, 2, none⟩) (by show w.heap.size < _; omega) _)
            rw [← hWc]
            clear hWc cc fc2
            (refine xdone (by kernel_rfl) (Xc.out) ?_)
            go_wp2_with fail
            go_meet
            exact ⟨_, _, _, _, _, _, rfl, Bc, Qc, Sc, Tc, Xc⟩
          · go_simp
            (try (simp only [Act.put, List.setIfInBounds_toArray, List.set]))
            refine xtv 6 (h := ?_)
            refine xone 1 (hk := XA.out) (h := RunX.of 1 (h := ?_))
            go_simp
            refine (setOfE_any w1 _ Q (HQ.out.ext HX1.out) (by have := HQL.out; omega)).mono ?_
            rintro eO wO ⟨vO, rfl, oO, xO⟩
            obtain ⟨ma, mn, mc, rfl⟩ := oO.sh
            have XP : Hid (Ext W0 wO) := Lib.hid (Ext.trans HX1.out xO)
            have OO := Lib.hid oO
            clear xO oO
            dsimp only
            (try (simp only [Act.put, List.setIfInBounds_toArray, List.set]))
            refine xone 5 (hk := (X0.out.trans XP.out)) (h := RunX.of 5 (h := ?_))
            go_simp
            refine (clone_sd wO _ L (HS.out.ext XP.out) hl).mono ?_
            rintro eC wC ⟨vC, rfl, oC, xC⟩
            obtain ⟨fa, fn, fc, rfl⟩ := oC.sh
            have XR : Hid (Ext W0 wC) := Lib.hid (Ext.trans XP.out xC)
            have OC := Lib.hid oC
            have OOL := Lib.hid (OO.out.ext xC)
            have OCL := OC
            clear xC oC
            dsimp only
            (try (simp only [Act.put, List.setIfInBounds_toArray, List.set]))
            have hz : w.heap.size + 2 ≤ W0.heap.size := by have := blk_lt R0.out; omega
            have B0 := Lib.hid (keepU D0.out XR.out)
            have Q0 := Lib.hid (keepU R0.out XR.out)
            have XX := Lib.hid (X0.out.trans XR.out)
            have S0 : Hid (Ow wC (w.heap.size + 2) (.slice fa fn fc) L) := Lib.hid (OCL.out.mono (by have := Below.size HX1.out; first | omega | (have := Below.size XP.out; omega)))
            have T0 : Hid (Ow wC (w.heap.size + 2) (.slice ma mn mc) (norm Q)) := Lib.hid (OOL.out.mono (by have := Below.size HX1.out; first | omega | (have := Below.size XP.out; omega)))
            clear OCL OOL d0 d1 d2 d3 d4
            have c7 := blk_cell B0.out 3 rfl
            have f7 := blk_free B0.out 3
            refine xone 7 (hk := XX.out) (h := RunX.of 7 (h := ?_))
            go_simp
            (try (simp only [Act.put, List.setIfInBounds_toArray, List.set]))
            obtain ⟨Wa, hWa⟩ : ∃ Wa, Wa = wC.setCell ⟨w.heap.size, 3, none⟩ (.int .i64 1) := ⟨_, rfl⟩
            have Ba := Lib.hid (hWa ▸ blk_set B0.out 3 (.int .i64 1) : Wa.heap[w.heap.size]? = some (.cells #[.int .i64 id, .int .i64 ph, .slice ao L.length c, .int .i64 1, .slice na N.length nc] 63 (0, 0)))
            have Qa := Lib.hid (hWa ▸ (set_other _ _ _ _ (by show w.heap.size + 1 ≠ w.heap.size; omega)).trans Q0.out : Wa.heap[w.heap.size + 1]? = some (.cells #[.int .i64 0, .int .i64 0, .slice none 0 0, .int .i64 0, .slice none 0 0] 63 (0, 0)))
            have Xa : Hid (Ext w Wa) := Lib.hid (hWa ▸ below_set XX.out (Nat.le_refl _) _)
            have Sa := Lib.hid (hWa ▸ S0.out.set (d := ⟨w.heap.size, 3, none⟩) (by show w.heap.size < _; omega) _)
            have Ta := Lib.hid (hWa ▸ T0.out.set (d := ⟨w.heap.size, 3, none⟩) (by show w.heap.size < _; omega) _)
            rw [← hWa]
            clear hWa c7 f7
            refine xtv 8 (h := ?_)
            have c9 := blk_cell Ba.out 4 rfl
            have f9 := blk_free Ba.out 4
            refine xone 9 (hk := Xa.out) (h := RunX.of 9 (h := ?_))
            go_simp
            (try (simp only [Act.put, List.setIfInBounds_toArray, List.set]))
            obtain ⟨Wb, hWb⟩ : ∃ Wb, Wb = Wa.setCell ⟨w.heap.size, 4, none⟩ (.slice ma mn mc) := ⟨_, rfl⟩
            have Bb := Lib.hid (hWb ▸ blk_set Ba.out 4 (.slice ma mn mc) : Wb.heap[w.heap.size]? = some (.cells #[.int .i64 id, .int .i64 ph, .slice ao L.length c, .int .i64 1, .slice ma mn mc] 63 (0, 0)))
            have Qb := Lib.hid (hWb ▸ (set_other _ _ _ _ (by show w.heap.size + 1 ≠ w.heap.size; omega)).trans Qa.out : Wb.heap[w.heap.size + 1]? = some (.cells #[.int .i64 0, .int .i64 0, .slice none 0 0, .int .i64 0, .slice none 0 0] 63 (0, 0)))
            have Xb : Hid (Ext w Wb) := Lib.hid (hWb ▸ below_set Xa.out (Nat.le_refl _) _)
            have Sb := Lib.hid (hWb ▸ Sa.out.set (d := ⟨w.heap.size, 4, none⟩) (by show w.heap.size < _; omega) _)
            have Tb := Lib.hid (hWb ▸ Ta.out.set (d := ⟨w.heap.size, 4, none⟩) (by show w.heap.size < _; omega) _)
            rw [← hWb]
            clear hWb c9 f9
            refine xtv 10 (h := ?_)
            refine xtv 11 (h := ?_)
            have cc := blk_cell Bb.out 2 rfl
            have fc2 := blk_free Bb.out 2
            refine xone 12 (hk := Xb.out) (h := RunX.of 12 (h := ?_))
            go_simp
            (try (simp only [Act.put, List.setIfInBounds_toArray, List.set]))
            obtain ⟨Wc, hWc⟩ : ∃ Wc, Wc = Wb.setCell ⟨w.heap.size, 2, none⟩ (.slice fa fn fc) := ⟨_, rfl⟩
            have Bc := Lib.hid (hWc ▸ blk_set Bb.out 2 (.slice fa fn fc) : Wc.heap[w.heap.size]? = some (.cells #[.int .i64 id, .int .i64 ph, .slice fa fn fc, .int .i64 1, .slice ma mn mc] 63 (0, 0)))
            have Qc := Lib.hid (hWc ▸ (set_other _ _ _ _ (by show w.heap.size + 1 ≠ w.heap.size; omega)).trans Qb.out : Wc.heap[w.heap.size + 1]? = some (.cells #[.int .i64 0, .int .i64 0, .slice none 0 0, .int .i64 0, .slice none 0 0] 63 (0, 0)))
            have Xc : Hid (Ext w Wc) := Lib.hid (hWc ▸ below_set Xb.out (Nat.le_refl _) _)
            have Sc := Lib.hid (hWc ▸ Sb.out.set (d := ⟨w.heap.size, 2, none⟩) (by show w.heap.size < _; omega) _)
            have Tc := Lib.hid (hWc ▸ Tb.out.set (d := ⟨w.heap.size, 2, none⟩) (by show w.heap.size < _; omega) _)
            rw [← hWc]
            clear hWc cc fc2
            (refine xdone (by kernel_rfl) (Xc.out) ?_)
            go_wp2_with fail
            go_meet
            exact ⟨_, _, _, _, _, _, rfl, Bc, Qc, Sc, Tc, Xc⟩
        case rest =>
          obtain ⟨fa, fn, fc, ma, mn, mc, rfl, BC, QC, SC, TC, XC⟩ := hcut
          obtain ⟨⟨d0, d1, d2⟩, d3, d4⟩ := cells5 BC.out
          go_wp2_with (first | refine haltst 63 ?_)
          refine .inl ?_
          refine st_l 63 (.tmp 4) (.tmp 35) (w.heap.size + 1) 0 63 #[.int .i64 0, .int .i64 0, .slice none 0 0, .int .i64 0, .slice none 0 0] #[.int .i64 id, .int .i64 ph, .slice fa fn fc, .int .i64 1, .slice ma mn mc] #[.int .i64 id, .int .i64 ph, .slice fa fn fc, .int .i64 1, .slice ma mn mc] rfl rfl QC.out (by kernel_rfl) (by simp) rfl rfl ?_
          intro W9 hW9 o9
          simp only [Act.put]
          go_wp2
          exact bodyPost_ret (v := .tuple #[.agg #[.int .i64 id, .int .i64 ph, .slice fa fn fc, .int .i64 1, .slice ma mn mc], .int .i64 0]) (res_ct 5 rfl rfl hW9 uDrinker (by kernel_rfl)) rfl (by
            rw [HR.out]
            exact ⟨_, _, rfl, (owU SC.out (fun b hb => o9.block b (SC.out.low b hb).2 (by have := (SC.out.low b hb).1; omega))).sl, (owU TC.out (fun b hb => o9.block b (TC.out.low b hb).2 (by have := (TC.out.low b hb).1; omega))).sl, ext_off XC.out o9 (fun b hb => by omega), fun b hb => by have := (TC.out.low b hb).1; omega⟩)
    · have t1 : (th != 0) = true := by simp [e1]
      have HR : Hid (openR ⟨id, ph, L, th, N⟩ Q = (noK, 152)) := Lib.hid (by unfold openR; rw [HT.out, if_pos rfl, if_pos (by dsimp only; exact e1)])
      clear e1
      go_upto_region 5 with (fail)
      go_wp2_with (first | refine haltst 63 ?_)
      refine .inl ?_
      refine st_l 63 (.tmp 4) (.tmp 17) (w.heap.size + 1) 0 63 #[.int .i64 0, .int .i64 0, .slice none 0 0, .int .i64 0, .slice none 0 0] #[.int .i64 0, .int .i64 0, .slice none 0 0, .int .i64 0, .slice none 0 0] #[.int .i64 0, .int .i64 0, .slice none 0 0, .int .i64 0, .slice none 0 0] rfl rfl (keepU R0.out X1.out) (by kernel_rfl) (by simp) rfl rfl ?_
      intro W9 hW9 o9
      simp only [Act.put]
      go_wp2
      exact bodyPost_ret (v := .tuple #[.agg #[.int .i64 0, .int .i64 0, .slice none 0 0, .int .i64 0, .slice none 0 0], .int .i64 152]) (res_ct 5 rfl rfl hW9 uDrinker (by kernel_rfl)) rfl (givesDNNo HR.out (ext_off (X0.out.trans X1.out) o9 (fun b hb => by omega)))
set_option maxRecDepth 100000 in
set_option maxHeartbeats 8000000 in
theorem dkClose_any (w : World) (id ph th : Int) (v nv : Value) (L : List Sd) (N : List Int) (h : Sl w v L) (hN : Sl w nv N) (hl : L.length ≤ 1000) :
    Calls Tryz.prog 81 #[.agg #[.int .i64 id, .int .i64 ph, v, .int .i64 th, nv]] w (GivesDN w (closeR ⟨id, ph, L, th, N⟩)) := by
  obtain ⟨ao, c, rfl⟩ := h.len
  obtain ⟨na, nc, rfl⟩ := hN.len
  obtain ⟨W0, hW0⟩ : ∃ W0, W0 = (w.alloc (.cells #[.int .i64 id, .int .i64 ph, .slice ao L.length c, .int .i64 th, .slice na N.length nc] 63)).alloc (.cells #[.int .i64 0, .int .i64 0, .slice none 0 0, .int .i64 0, .slice none 0 0] 63) := ⟨_, rfl⟩
  have X0 : Hid (Ext w W0) := Lib.hid (hW0 ▸ ((Ext.refl w).alloc _).alloc _)
  have D0 : Hid (W0.heap[w.heap.size]? = some (.cells #[.int .i64 id, .int .i64 ph, .slice ao L.length c, .int .i64 th, .slice na N.length nc] 63 (0, 0))) := Lib.hid (hW0 ▸ old1 (at0 w _) _)
  have R0 : Hid (W0.heap[w.heap.size + 1]? = some (.cells #[.int .i64 0, .int .i64 0, .slice none 0 0, .int .i64 0, .slice none 0 0] 63 (0, 0))) := Lib.hid (hW0 ▸ at1 w _ _)
  have HW0 := Lib.hid hW0
  have HS := Lib.hid (h.ext X0.out)
  have HN := Lib.hid (hN.ext X0.out)
  obtain ⟨t, ht⟩ : ∃ t, chkK ⟨id, ph, L, th, N⟩ = t := ⟨_, rfl⟩
  have HT := Lib.hid ht
  clear h hN hW0 ht
  obtain ⟨⟨d0, d1, d2⟩, d3, d4⟩ := cells5 D0.out
  have HC := Lib.hid (dkCheck_any W0 id ph th _ _ L N HS.out HN.out hl t HT.out)
  go_enter Tryz.func81, Tryz.ntmps81
  go_upto_region 1 with (fail)
  rw [← HW0.out]
  cases t
  · have HR : Hid (closeR ⟨id, ph, L, th, N⟩ = (noK, 150)) := Lib.hid (by unfold closeR; rw [HT.out]; rfl)
    go_upto_region 3 with (first
      | (go_at_call 58; refine HC.out.mono ?_; rintro e w1 ⟨rfl, hx⟩; dsimp only [cond]; have X1 : Hid (Ext W0 w1) := Lib.hid hx; clear hx))
    go_wp2_with (first | refine haltst 63 ?_)
    refine .inl ?_
    refine st_l 63 (.tmp 2) (.tmp 9) (w.heap.size + 1) 0 63 #[.int .i64 0, .int .i64 0, .slice none 0 0, .int .i64 0, .slice none 0 0] #[.int .i64 0, .int .i64 0, .slice none 0 0, .int .i64 0, .slice none 0 0] #[.int .i64 0, .int .i64 0, .slice none 0 0, .int .i64 0, .slice none 0 0] rfl rfl (keepU R0.out X1.out) (by kernel_rfl) (by simp) rfl rfl ?_
    intro W9 hW9 o9
    simp only [Act.put]
    go_wp2
    exact bodyPost_ret (v := .tuple #[.agg #[.int .i64 0, .int .i64 0, .slice none 0 0, .int .i64 0, .slice none 0 0], .int .i64 150]) (res_ct 3 rfl rfl hW9 uDrinker (by kernel_rfl)) rfl (givesDNNo HR.out (ext_off (X0.out.trans X1.out) o9 (fun b hb => by omega)))
  · go_upto_region 4 with (first
      | (go_at_call 58; refine HC.out.mono ?_; rintro e w1 ⟨rfl, hx⟩; dsimp only [cond]; have X1 : Hid (Ext W0 w1) := Lib.hid hx; clear hx))
    clear d0 d1 d2 d3 d4 HC
    obtain ⟨⟨d0, d1, d2⟩, d3, d4⟩ := cells5 (keepU D0.out X1.out)
    by_cases e1 : th = 0
    · have t1 : (th == 0) = true := by simp [e1]
      have HR : Hid (closeR ⟨id, ph, L, th, N⟩ = (noK, 152)) := Lib.hid (by unfold closeR; rw [HT.out, if_pos rfl, if_pos (by dsimp only; exact e1)])
      clear e1
      go_upto_region 5 with (fail)
      go_wp2_with (first | refine haltst 63 ?_)
      refine .inl ?_
      refine st_l 63 (.tmp 2) (.tmp 14) (w.heap.size + 1) 0 63 #[.int .i64 0, .int .i64 0, .slice none 0 0, .int .i64 0, .slice none 0 0] #[.int .i64 0, .int .i64 0, .slice none 0 0, .int .i64 0, .slice none 0 0] #[.int .i64 0, .int .i64 0, .slice none 0 0, .int .i64 0, .slice none 0 0] rfl rfl (keepU R0.out X1.out) (by kernel_rfl) (by simp) rfl rfl ?_
      intro W9 hW9 o9
      simp only [Act.put]
      go_wp2
      exact bodyPost_ret (v := .tuple #[.agg #[.int .i64 0, .int .i64 0, .slice none 0 0, .int .i64 0, .slice none 0 0], .int .i64 152]) (res_ct 3 rfl rfl hW9 uDrinker (by kernel_rfl)) rfl (givesDNNo HR.out (ext_off (X0.out.trans X1.out) o9 (fun b hb => by omega)))
    · have t1 : (th == 0) = false := by simp [e1]
      have HR : Hid (closeR ⟨id, ph, L, th, N⟩ = (⟨id, ph, L, 0, []⟩, 0)) := Lib.hid (by unfold closeR; rw [HT.out, if_pos rfl, if_neg (by dsimp only; exact e1)])
      clear e1
      go_upto_region 6 with (fail)
      go_upto_region 7 with (first
        | (go_at_call 72; refine (clone_sd w1 _ L (HS.out.ext X1.out) hl).mono ?_; rintro e w5 ⟨v5, rfl, o5, x5⟩; obtain ⟨fa, fn, fc, rfl⟩ := o5.sh; have X5 : Hid (Ext W0 w5) := Lib.hid (Ext.trans X1.out x5); have O5 := Lib.hid o5; have B5 := Lib.hid (keepU D0.out X5.out); have c2 := blk_cell B5.out 2 rfl; have c3 := blk_cell B5.out 3 rfl; have c4 := blk_cell B5.out 4 rfl; have f2 := blk_free B5.out 2; have f3 := blk_free B5.out 3; have f4 := blk_free B5.out 4; clear o5 x5))
      obtain ⟨Wc, hWc⟩ : ∃ Wc, Wc = ((w5.setCell ⟨w.heap.size, 3, none⟩ (.int .i64 0)).setCell ⟨w.heap.size, 4, none⟩ (.slice none 0 0)).setCell ⟨w.heap.size, 2, none⟩ (.slice fa fn fc) := ⟨_, rfl⟩
      have hz : w.heap.size + 2 ≤ w1.heap.size := by have := blk_lt (keepU R0.out X1.out); omega
      have BC : Hid (Wc.heap[w.heap.size]? = some (.cells #[.int .i64 id, .int .i64 ph, .slice fa fn fc, .int .i64 0, .slice none 0 0] 63 (0, 0))) := Lib.hid (by rw [hWc, blk_set (blk_set (blk_set B5.out 3 _) 4 _) 2 _]; rfl)
      have QC : Hid (Wc.heap[w.heap.size + 1]? = some (.cells #[.int .i64 0, .int .i64 0, .slice none 0 0, .int .i64 0, .slice none 0 0] 63 (0, 0))) := Lib.hid (by rw [hWc, set_other _ _ _ _ (by show w.heap.size + 1 ≠ w.heap.size; omega), set_other _ _ _ _ (by show w.heap.size + 1 ≠ w.heap.size; omega), set_other _ _ _ _ (by show w.heap.size + 1 ≠ w.heap.size; omega)]; exact keepU R0.out X5.out)
      have XC : Hid (Ext w Wc) := Lib.hid (hWc ▸ below_set (below_set (below_set (X0.out.trans X5.out) (Nat.le_refl _) _) (Nat.le_refl _) _) (Nat.le_refl _) _)
      have SC : Hid (Ow Wc w1.heap.size (.slice fa fn fc) L) := Lib.hid (hWc ▸ ((O5.out.set (d := ⟨w.heap.size, 3, none⟩) (by show w.heap.size < _; omega) _).set (d := ⟨w.heap.size, 4, none⟩) (by show w.heap.size < _; omega) _).set (d := ⟨w.heap.size, 2, none⟩) (by show w.heap.size < _; omega) _)
      rw [← hWc]
      clear hWc c2 c3 c4 f2 f3 f4 d0 d1 d2 d3 d4
      obtain ⟨⟨d0, d1, d2⟩, d3, d4⟩ := cells5 BC.out
      go_wp2_with (first | refine haltst 63 ?_)
      refine .inl ?_
      refine st_l 63 (.tmp 2) (.tmp 23) (w.heap.size + 1) 0 63 #[.int .i64 0, .int .i64 0, .slice none 0 0, .int .i64 0, .slice none 0 0] #[.int .i64 id, .int .i64 ph, .slice fa fn fc, .int .i64 0, .slice none 0 0] #[.int .i64 id, .int .i64 ph, .slice fa fn fc, .int .i64 0, .slice none 0 0] rfl rfl QC.out (by kernel_rfl) (by simp) rfl rfl ?_
      intro W9 hW9 o9
      simp only [Act.put]
      go_wp2
      exact bodyPost_ret (v := .tuple #[.agg #[.int .i64 id, .int .i64 ph, .slice fa fn fc, .int .i64 0, .slice none 0 0], .int .i64 0]) (res_ct 3 rfl rfl hW9 uDrinker (by kernel_rfl)) rfl (by
        rw [HR.out]
        exact ⟨_, _, rfl, (owU SC.out (fun b hb => o9.block b (SC.out.low b hb).2 (by have := (SC.out.low b hb).1; omega))).sl, slNoneU _, ext_off XC.out o9 (fun b hb => by omega), fun b hb => by simp [Value.ownBlock] at hb⟩)
end Go.Proofs.YtfbambemjokmgaaGreat
namespace Go.Proofs.YtfbambemjokmgaaGreat
open Go.RowKit
set_option maxRecDepth 100000 in
set_option maxHeartbeats 2000000 in
theorem meantK_one (W : World) (g1 g2 : Nat) (p k me n : Int) (s : Sd) (h1 : W.heap[g1]? = some (.cells #[.int .i64 p] 3 (0, 0))) (h2 : W.heap[g2]? = some (.cells #[.int .i64 k, .int .i64 me, .int .i64 n] 93 (0, 0))) (t : Bool) (ht : (s.peer == p && s.epoch == me) = t) :
    Calls Tryz.prog 161 #[.agg s.cs, .pointer (some ⟨g1, 0, none⟩), .pointer (some ⟨g2, 0, none⟩)] W fun e W' => e = .returned (.bool t) ∧ Ext W W' := by
  obtain ⟨y0, y1, y2, y3, y4, y5, y6, y7⟩ := s
  unfold Sd.cs
  dsimp only at ht ⊢
  obtain ⟨W1, hW1⟩ : ∃ W1, W1 = W.alloc (.cells #[.int .i64 y0, .int .i64 y1, .int .i64 y2, .bool y3, .bool y4, .bool y5, .bool y6, .bool y7] 66) := ⟨_, rfl⟩
  have X1 : Hid (Ext W W1) := Lib.hid (hW1 ▸ (Ext.refl W).alloc _)
  have d1 : W1.heap[W.heap.size]? = some (.cells #[.int .i64 y0, .int .i64 y1, .int .i64 y2, .bool y3, .bool y4, .bool y5, .bool y6, .bool y7] 66 (0, 0)) := hW1 ▸ at0 W _
  have HW1 := Lib.hid hW1
  have x0 := blk_cell d1 0 rfl
  have x1 := blk_cell d1 1 rfl
  have k1 := blk_cell (keepU h1 X1.out) 0 rfl
  have k2 := blk_cell (keepU h2 X1.out) 1 rfl
  have HT := Lib.hid ht
  clear ht h1 h2 hW1 d1
  by_cases e1 : y0 = p
  · have t1 : (y0 == p) = true := by simp [e1]
    by_cases e2 : y1 = me
    · have t2 : (y1 == me) = true := by simp [e2]
      have HF : Hid (true = t) := Lib.hid (by rw [← HT.out, t1, t2]; rfl)
      clear e1 e2 HT
      go_enter Tryz.func161, Tryz.ntmps161
      go_upto_region 1 with (fail)
      rw [← HW1.out]
      go_wp2
      go_ret
      exact ⟨ret_bool HF.out, X1.out⟩
    · have t2 : (y1 == me) = false := by simp [e2]
      have HF : Hid (false = t) := Lib.hid (by rw [← HT.out, t1, t2]; rfl)
      clear e1 e2 HT
      go_enter Tryz.func161, Tryz.ntmps161
      go_upto_region 1 with (fail)
      rw [← HW1.out]
      go_wp2
      go_ret
      exact ⟨ret_bool HF.out, X1.out⟩
  · have t1 : (y0 == p) = false := by simp [e1]
    have HF : Hid (false = t) := Lib.hid (by rw [← HT.out, t1]; rfl)
    clear e1 HT
    go_enter Tryz.func161, Tryz.ntmps161
    go_upto_region 1 with (fail)
    rw [← HW1.out]
    go_wp2
    go_ret
    exact ⟨ret_bool HF.out, X1.out⟩
theorem indexK_meant (w : World) (v : Value) (L : List Sd) (g1 g2 : Nat) (p k me n : Int) (h : Sl w v L) (h1 : w.heap[g1]? = some (.cells #[.int .i64 p] 3 (0, 0))) (h2 : w.heap[g2]? = some (.cells #[.int .i64 k, .int .i64 me, .int .i64 n] 93 (0, 0))) :
    Calls Tryz.prog 162 #[v, .func (.func 161) #[] #[.pointer (some ⟨g1, 0, none⟩), .pointer (some ⟨g2, 0, none⟩)]] w fun e w' => ∃ r : Int, e = .returned (.int .i64 r) ∧ ((r = -1 ∧ findS (fun s => s.peer == p && s.epoch == me) L = none) ∨ ∃ (i : Nat) (s : Sd), r = (i : Int) ∧ L[i]? = some s ∧ findS (fun s => s.peer == p && s.epoch == me) L = some (i, s)) ∧ Ext w w' := by
  refine (indexFunc_sd w v L 161 #[.pointer (some ⟨g1, 0, none⟩), .pointer (some ⟨g2, 0, none⟩)] (fun _ V => Ext w V) (fun _ s => s.peer == p && s.epoch == me) (enters_of Tryz.func161 (by kernel_rfl) rfl) (fun _ W hW => h.ext hW) ?_ (Ext.refl w)).mono ?_
  · intro i s W hi hW
    refine (meantK_one W g1 g2 p k me n s (keepU h1 hW) (keepU h2 hW) _ rfl).mono ?_
    rintro e W' ⟨rfl, hx⟩
    exact ⟨rfl, Ext.trans hW hx⟩
  · rintro e w' ⟨r, rfl, hr, i, hx⟩
    refine ⟨r, rfl, ?_, hx⟩
    rcases hr with ⟨e, hn⟩ | ⟨i, s, e, hs, hq, hn⟩
    · exact .inl ⟨e, findS_none hn⟩
    · exact .inr ⟨i, s, e, hs, findS_some hs hq hn⟩
def withK (L : List Sd) (p k me : Int) : List Sd × Int := match findS (fun s => s.peer == p && s.epoch == me) L with
  | none => ([], 131)
  | some (i, s) => if k = 4 then (if s.ask = true then ([], 132) else (L.set i { s with ask := true }, 0)) else (if s.bottle = true then ([], 132) else (L.set i { s with bottle := true }, 0))
def GivesW (w : World) (r : List Sd × Int) (e : Ending) (w' : World) : Prop := ∃ v', e = .returned (.tuple #[v', .int .i64 r.2]) ∧ Sl w' v' r.1 ∧ Ext w w' ∧ ∀ b, v'.ownBlock = some b → w.heap.size ≤ b
set_option maxRecDepth 100000 in
set_option maxHeartbeats 8000000 in
theorem withK_any (w : World) (v : Value) (L : List Sd) (p k me n : Int) (h : Sl w v L) (hl : L.length ≤ 1000) :
    Calls Tryz.prog 134 #[v, .int .i64 p, .agg #[.int .i64 k, .int .i64 me, .int .i64 n]] w (GivesW w (withK L p k me)) := by
  obtain ⟨ao, c, rfl⟩ := h.len
  have hmf : ∀ (fn : Fn) (first cap : Array Value) (w : World), (Instr.makeFunc fn first cap).run Tryz.prog w = .ok (.func fn first cap) w := fun _ _ _ _ => rfl
  have hlen := h.length_le
  obtain ⟨W0, hW0⟩ : ∃ W0, W0 = (w.alloc (.cells #[.int .i64 p] 3)).alloc (.cells #[.int .i64 k, .int .i64 me, .int .i64 n] 93) := ⟨_, rfl⟩
  have X0 : Hid (Ext w W0) := Lib.hid (hW0 ▸ ((Ext.refl w).alloc _).alloc _)
  have P0 : Hid (W0.heap[w.heap.size]? = some (.cells #[.int .i64 p] 3 (0, 0))) := Lib.hid (hW0 ▸ old1 (at0 w _) _)
  have M0 : Hid (W0.heap[w.heap.size + 1]? = some (.cells #[.int .i64 k, .int .i64 me, .int .i64 n] 93 (0, 0))) := Lib.hid (hW0 ▸ at1 w _ _)
  have HW0 := Lib.hid hW0
  have HS := Lib.hid (h.ext X0.out)
  clear h hW0
  go_enter Tryz.func134, Tryz.ntmps134
  go_upto_region 1 with (fail)
  rw [← HW0.out]
  go_upto_region 3 with (first
    | (go_at_call 162; refine (indexK_meant W0 _ L w.heap.size (w.heap.size + 1) p k me n HS.out P0.out M0.out).mono ?_; rintro e w2 ⟨r, rfl, hr, hx⟩; have X2 : Hid (Ext W0 w2) := Lib.hid hx; have HRR := Lib.hid hr; clear hx hr))
  rcases HRR.out with ⟨rfl, hf⟩ | ⟨i, s, rfl, hsi, hf⟩
  · have HR : Hid (withK L p k me = ([], 131)) := Lib.hid (by unfold withK; rw [hf])
    clear hf HRR
    go_wp2
    go_ret2
    exact ⟨_, by rw [HR.out]; rfl, by rw [HR.out]; exact slNoneU _, X0.out.trans X2.out, fun b hb => by simp [Value.ownBlock] at hb⟩
  · have hlt : i < L.length := (List.getElem?_eq_some_iff.1 hsi).1
    have ho1 : ¬ ((i : Int) < 0) := by omega
    have HR : Hid (withK L p k me = if k = 4 then (if s.ask = true then ([], 132) else (L.set i { s with ask := true }, 0)) else (if s.bottle = true then ([], 132) else (L.set i { s with bottle := true }, 0))) := Lib.hid (by unfold withK; rw [hf])
    clear hf HRR
    go_upto_region 6 with (first
      | (go_at_call 72; refine (clone_sd w2 _ L (HS.out.ext X2.out) hl).mono ?_; rintro e w5 ⟨v5, rfl, o5, x5⟩; obtain ⟨a5, n5, c5, rfl⟩ := o5.sh; have X5 : Hid (Ext w2 w5) := Lib.hid x5; have O5 := Lib.hid o5; clear o5 x5))
    have hz2 : w.heap.size + 2 ≤ w2.heap.size := by have := blk_lt (keepU M0.out X2.out); omega
    obtain ⟨b1, off, s', hsy, hsj, hao, hn1, hnc, hc63, hb, hcs⟩ := O5.out.sl.sidesAt hlt
    subst hao
    obtain rfl : s' = s := by have := hsj.symm.trans hsi; simpa using this
    obtain ⟨⟨⟨x0, x1⟩, x2, x3⟩, ⟨x4, x5⟩, x6, x7⟩ := hcs _ (Ext.refl _)
    subst hn1
    obtain ⟨p0, m0, m1, m2⟩ : w5.cell? ⟨w.heap.size, 0, none⟩ = some (.int .i64 p) ∧ _ := ⟨blk_cell (keepU P0.out (X2.out.trans X5.out)) 0 rfl, cells3U (keepU M0.out (X2.out.trans X5.out))⟩
    obtain ⟨z1, z2, z3, z4⟩ := Ow.setCell1 (i := 6) (x' := { s' with bottle := true }) (u := .bool true) O5.out hsj (by decide) rfl
    obtain ⟨_, _, u3, u4⟩ := Ow.setCell1 (i := 7) (x' := { s' with ask := true }) (u := .bool true) O5.out hsj (by decide) rfl
    subst z1
    change w5.frozen? ⟨b1, 0 + i * 8 + 6, none⟩ = false at z3
    change w5.frozen? ⟨b1, 0 + i * 8 + 7, none⟩ = false at u3
    simp only [Nat.zero_add] at x6 x7 z3 u3
    rw [show (0 + i * Elem.k Sd + 6 : Nat) = i * 8 + 6 from by show 0 + i * 8 + 6 = _; omega] at z4
    rw [show (0 + i * Elem.k Sd + 7 : Nat) = i * 8 + 7 from by show 0 + i * 8 + 7 = _; omega] at u4
    have Z4 := Lib.hid z4
    have U4 := Lib.hid u4
    have HB1 : Hid (w2.heap.size ≤ b1) := Lib.hid z2
    have hnn : ∀ q : Nat, (Value.pointer (some ⟨b1, q, none⟩)) ≠ .pointer none := fun _ h => by cases h
    clear hsy hsj hcs hsi z4 u4 z2 hnn
    obtain ⟨y0, y1, y2, y3, y4, y5, y6, y7⟩ := s'
    dsimp only at x0 x1 x2 x3 x4 x5 x6 x7 HR Z4 U4
    by_cases e4 : k = 4
    · have t4 : (k == 4) = true := by simp [e4]
      have HR2 := Lib.hid (HR.out.trans (if_pos e4))
      clear e4 HR
      cases y7
      · go_wp2
        go_ret2
        exact ⟨_, by rw [HR2.out]; rfl, by rw [HR2.out]; exact U4.out.sl, below_set (X0.out.trans (X2.out.trans X5.out)) (by have := HB1.out; show w.heap.size ≤ b1; omega) _, fun b hb => by have := (U4.out.low b hb).1; omega⟩
      · go_wp2
        go_ret2
        exact ⟨_, by rw [HR2.out]; rfl, by rw [HR2.out]; exact slNoneU _, X0.out.trans (X2.out.trans X5.out), fun b hb => by simp [Value.ownBlock] at hb⟩
    · have t4 : (k == 4) = false := by simp [e4]
      have HR2 := Lib.hid (HR.out.trans (if_neg e4))
      clear e4 HR
      cases y6
      · go_wp2
        go_ret2
        exact ⟨_, by rw [HR2.out]; rfl, by rw [HR2.out]; exact Z4.out.sl, below_set (X0.out.trans (X2.out.trans X5.out)) (by have := HB1.out; show w.heap.size ≤ b1; omega) _, fun b hb => by have := (Z4.out.low b hb).1; omega⟩
      · go_wp2
        go_ret2
        exact ⟨_, by rw [HR2.out]; rfl, by rw [HR2.out]; exact slNoneU _, X0.out.trans (X2.out.trans X5.out), fun b hb => by simp [Value.ownBlock] at hb⟩
end Go.Proofs.YtfbambemjokmgaaGreat
