/- Layer 15, the document's answers: Get. -/
import Derived.Test.YtpjpjchnfllcmaaX7
namespace Go.Proofs.Ytpjpjchnfllcmaa
open Go.RowKit

set_option maxRecDepth 100000 in
set_option maxHeartbeats 16000000 in
theorem refDkGet_any (w : World) (id ph th p kd me n : Int) (v nv : Value) (L : List Sd) (N : List Int) (h : Sl w v L) (hN : Sl w nv N) (hl : L.length ≤ 1000) :
    Calls Try.prog 21 #[.agg #[.int .i64 id, .int .i64 ph, v, .int .i64 th, nv], .int .i64 p, .agg #[.int .i64 kd, .int .i64 me, .int .i64 n]] w (GivesD w (getK ⟨id, ph, L, th, N⟩ p kd me n)) := by
  obtain ⟨ao, c, rfl⟩ := h.len
  obtain ⟨na, nc, rfl⟩ := hN.len
  obtain ⟨W0, hW0⟩ : ∃ W0, W0 = ((w.alloc (.cells #[.int .i64 id, .int .i64 ph, .slice ao L.length c, .int .i64 th, .slice na N.length nc] 29)).alloc (.cells #[.int .i64 kd, .int .i64 me, .int .i64 n] 44)).alloc (.cells #[.int .i64 0, .int .i64 0, .slice none 0 0, .int .i64 0, .slice none 0 0] 29) := ⟨_, rfl⟩
  have X0 : Hid (Ext w W0) := Lib.hid (hW0 ▸ (((Ext.refl w).alloc _).alloc _).alloc _)
  have D0 : Hid (W0.heap[w.heap.size]? = some (.cells #[.int .i64 id, .int .i64 ph, .slice ao L.length c, .int .i64 th, .slice na N.length nc] 29 (0, 0))) := Lib.hid (hW0 ▸ old1 (old1 (at0 w _) _) _)
  have M0 : Hid (W0.heap[w.heap.size + 1]? = some (.cells #[.int .i64 kd, .int .i64 me, .int .i64 n] 44 (0, 0))) := Lib.hid (hW0 ▸ old1 (at1 w _ _) _)
  have R0 : Hid (W0.heap[w.heap.size + 2]? = some (.cells #[.int .i64 0, .int .i64 0, .slice none 0 0, .int .i64 0, .slice none 0 0] 29 (0, 0))) := Lib.hid (hW0 ▸ at2 w _ _ _)
  have HW0 := Lib.hid hW0
  have HS := Lib.hid (h.ext X0.out)
  have HSw := Lib.hid h
  have HN := Lib.hid (hN.ext X0.out)
  have HNw := Lib.hid hN
  obtain ⟨t, ht⟩ : ∃ t, chkK ⟨id, ph, L, th, N⟩ = t := ⟨_, rfl⟩
  have HT := Lib.hid ht
  clear h hN hW0 ht
  obtain ⟨⟨d0, d1, d2⟩, d3, d4⟩ := cells5 D0.out
  have HC := Lib.hid (refDkCheck_any W0 id ph th _ _ L N HS.out HN.out t HT.out)
  go_enter Try.func21, Try.ntmps21
  go_upto_region 1 with (fail)
  rw [← HW0.out]
  cases t
  · have HR : Hid (getK ⟨id, ph, L, th, N⟩ p kd me n = (noK, 150)) := Lib.hid (by unfold getK; rw [HT.out]; rfl)
    go_upto_region 2 with (first
      | (go_at_call 16; refine HC.out.mono ?_; rintro e w1 ⟨rfl, hx⟩; have X1 : Hid (Ext W0 w1) := Lib.hid hx; clear hx))
    go_wp2_with (first | refine haltst 29 ?_)
    refine .inl ?_
    refine st_l 29 (.tmp 6) (.tmp 15) (w.heap.size + 2) 0 29 #[.int .i64 0, .int .i64 0, .slice none 0 0, .int .i64 0, .slice none 0 0] #[.int .i64 0, .int .i64 0, .slice none 0 0, .int .i64 0, .slice none 0 0] #[.int .i64 0, .int .i64 0, .slice none 0 0, .int .i64 0, .slice none 0 0] rfl rfl (keepU R0.out X1.out) (by kernel_rfl) (by simp) rfl rfl ?_
    intro W9 hW9 o9
    simp only [Act.put]
    go_wp2
    exact bodyPost_ret (v := .tuple #[.agg #[.int .i64 0, .int .i64 0, .slice none 0 0, .int .i64 0, .slice none 0 0], .int .i64 150]) (res_ct 7 rfl rfl hW9 uDrinker (by kernel_rfl)) rfl (givesDNo HR.out (ext_off (X0.out.trans X1.out) o9 (fun b hb => by omega)))
  · obtain ⟨r, hr⟩ : ∃ r, sideAt p L = r := ⟨_, rfl⟩
    have HSD : Hid (∀ V, Ext W0 V → Calls Try.prog 36 #[.agg #[.int .i64 id, .int .i64 ph, .slice ao L.length c, .int .i64 th, .slice na N.length nc], .int .i64 p] V fun e w' => e = .returned (.int .i64 r) ∧ Ext V w') := Lib.hid fun V hV => by rw [← hr]; exact refDSide_any V id ph th p _ _ L N (HS.out.ext hV) (HN.out.ext hV)
    have HRR := Lib.hid hr
    have HDN : Hid (dnOk ⟨id, ph, L⟩ = true) := Lib.hid (chk_dn HT.out)
    have HG1 : Hid (∀ x, findS (fun s => s.peer == p && s.epoch == me) L = x → getK ⟨id, ph, L, th, N⟩ p kd me n = (match x with
      | none => (noK, 131)
      | some (i, s) => if n = 0 ∧ kd = 3 then (if s.bottle = true then (noK, 132) else (⟨id, ph, L.set i { s with bottle := true }, th, N⟩, 0))
        else if n = 0 ∧ kd = 4 then (if s.ask = true then (noK, 132) else (⟨id, ph, L.set i { s with ask := true }, th, N⟩, 0))
        else if (withR s kd n).2 = 0 then (⟨id, ph, L.set i (withR s kd n).1, th, N⟩, 0) else (noK, (withR s kd n).2))) := Lib.hid (fun x hx => by subst hx; unfold getK; rw [HT.out, if_pos rfl]; rfl)
    clear hr
    go_upto_region 4 with (first
      | (go_at_call 16; refine HC.out.mono ?_; rintro e w1 ⟨rfl, hx⟩; have X1 : Hid (Ext W0 w1) := Lib.hid hx; clear d0 d1 d2 d3 d4; obtain ⟨⟨d0, d1, d2⟩, d3, d4⟩ := cells5 (keepU D0.out hx); clear hx)
      | (go_at_call 36; refine (HSD.out w1 X1.out).mono ?_; rintro e w2 ⟨rfl, hx⟩; have X2 : Hid (Ext W0 w2) := Lib.hid (X1.out.trans hx); clear hx))
    clear d0 d1 d2 d3 d4 HC HSD
    have HKD : Hid (∀ V, Ext w2 V → _) := Lib.hid fun V hV => cells5 (keepU (keepU D0.out X2.out) hV)
    have HKM : Hid (∀ V, Ext w2 V → _) := Lib.hid fun V hV => cells3U (keepU (keepU M0.out X2.out) hV)
    by_cases hneg : r < 0
    · have HNO : Hid (∀ s ∈ L, s.peer ≠ p) := Lib.hid (by
        rcases sideAt_ways p L with ⟨_, hn⟩ | ⟨k2, s, e, _⟩
        · exact hn
        · rw [HRR.out] at e; omega)
      have HR : Hid (getK ⟨id, ph, L, th, N⟩ p kd me n = (noK, 131)) := Lib.hid (HG1.out _ (find_none HNO.out))
      refine wp_region_M_lit (by kernel_rfl) ?_
      refine tv 0 (h := ?_)
      refine tv 1 (h := ?_)
      refine tv 2 (h := ?_)
      (refine takeU 3 (h := ?_); (simp only [Act.put, List.setIfInBounds_toArray, List.set]))
      (refine takeU 4 (h := ?_); (simp only [Act.put, List.setIfInBounds_toArray, List.set]))
      (refine takeU 5 (h := ?_); (simp only [Act.put, List.setIfInBounds_toArray, List.set]))
      (refine takeU 6 (h := ?_); (simp only [Act.put, List.setIfInBounds_toArray, List.set]))
      (refine takeU 7 (h := ?_); (simp only [Act.put, List.setIfInBounds_toArray, List.set]))
      (refine takeU 8 (h := ?_); (simp only [Act.put, List.setIfInBounds_toArray, List.set]))
      (refine takeU 9 (h := ?_); (simp only [Act.put, List.setIfInBounds_toArray, List.set]))
      (refine takeU 10 (h := ?_); (simp only [Act.put, List.setIfInBounds_toArray, List.set]))
      (refine takeU 11 (h := ?_); (simp only [Act.put, List.setIfInBounds_toArray, List.set]))
      (refine takeU 12 (h := ?_); (simp only [Act.put, List.setIfInBounds_toArray, List.set]))
      refine tv 13 (h := ?_)
      (refine doneM (by kernel_rfl) ?_; intro w' hw'; show _)
      have HW := Lib.hid (X2.out.trans hw')
      clear hw'
      go_upto_region 5 with (fail)
      go_wp2_with (first | refine haltst 29 ?_)
      refine .inl ?_
      refine st_l 29 (.tmp 6) (.tmp 33) (w.heap.size + 2) 0 29 #[.int .i64 0, .int .i64 0, .slice none 0 0, .int .i64 0, .slice none 0 0] #[.int .i64 0, .int .i64 0, .slice none 0 0, .int .i64 0, .slice none 0 0] #[.int .i64 0, .int .i64 0, .slice none 0 0, .int .i64 0, .slice none 0 0] rfl rfl (keepU R0.out HW.out) (by kernel_rfl) (by simp) rfl rfl ?_
      intro W9 hW9 o9
      simp only [Act.put]
      go_wp2
      exact bodyPost_ret (v := .tuple #[.agg #[.int .i64 0, .int .i64 0, .slice none 0 0, .int .i64 0, .slice none 0 0], .int .i64 131]) (res_ct 7 rfl rfl hW9 uDrinker (by kernel_rfl)) rfl (givesDNo HR.out (ext_off (X0.out.trans HW.out) o9 (fun b hb => by omega)))
    · obtain ⟨s, hsk, hkl, hpe⟩ : ∃ s, L[r.toNat]? = some s ∧ r < (L.length : Int) ∧ s.peer = p := by
        rcases sideAt_ways p L with ⟨e, _⟩ | ⟨k2, s, e, hk2, hs, hp⟩
        · rw [HRR.out] at e; omega
        · rw [HRR.out] at e
          obtain rfl : r.toNat = k2 := by omega
          exact ⟨s, hs, by omega, hp⟩
      have hr0 : 0 ≤ r := by omega
      have HRN : Hid ((r.toNat : Int) = r) := Lib.hid (by omega)
      have HKL : Hid (r.toNat < L.length) := Lib.hid (by omega)
      obtain ⟨b2, off2, s', hsy, hsj, rfl, hn2, hnc2, hc632, hb2, hcs⟩ := HS.out.sidesAt (k := r.toNat) (by omega)
      obtain rfl : s' = s := by have := hsj.symm.trans hsk; simpa using this
      have HCS := Lib.hid hcs
      have HSK := Lib.hid hsk
      have HPE := Lib.hid hpe
      clear hsy hsj hcs hn2 hsk hpe
      obtain ⟨y0, y1, y2, y3, y4, y5, y6, y7⟩ := s'
      dsimp only at HCS
      have hd0 : decide (r < 0) = false := decide_eq_false hneg
      by_cases e1 : y1 = me
      · have HRR2 := Lib.hid (HG1.out _ (find_here HDN.out HSK.out HPE.out e1))
        dsimp only at HRR2
        have t1 : (y1 != me) = false := by simp [e1]
        have HE1 := Lib.hid e1
        clear e1 HG1
        refine wp_region_M_lit (by kernel_rfl) ?_
        refine tv 0 (h := ?_)
        refine tv 1 (h := ?_)
        refine tv 2 (h := ?_)
        refine tv 3 (h := ?_)
        refine tv 4 (h := ?_)
        refine tv 5 (hv := by intro w' hw'; obtain ⟨⟨d0, d1, d2⟩, d3, d4⟩ := HKD.out w' hw'; go_simp; first | done | with_reducible rfl) (h := ?_)
        refine tv 6 (h := ?_)
        refine tv 7 (h := ?_)
        refine tv 8 (h := ?_)
        refine tv 9 (hv := by intro w' hw'; obtain ⟨⟨⟨x0, x1⟩, x2, x3⟩, ⟨x4, x5⟩, x6, x7⟩ := HCS.out w' (X2.out.trans hw'); go_simp; first | done | with_reducible rfl) (h := ?_)
        refine tv 10 (h := ?_)
        refine tv 11 (hv := by intro w' hw'; obtain ⟨m0, m1, m2⟩ := HKM.out w' hw'; go_simp; first | done | with_reducible rfl) (h := ?_)
        refine tv 12 (h := ?_)
        refine tv 13 (h := ?_)
        (refine doneM (by kernel_rfl) ?_; intro w' hw'; show _)
        have HW := Lib.hid (X2.out.trans hw')
        clear hw' hd0 t1
        obtain ⟨⟨d0, d1, d2⟩, d3, d4⟩ := cells5 (keepU D0.out HW.out)
        obtain ⟨⟨⟨x0, x1⟩, x2, x3⟩, ⟨x4, x5⟩, x6, x7⟩ := HCS.out _ HW.out
        go_upto_region 7 with (fail)
        obtain ⟨gx, hgx⟩ : ∃ gx, gx = w'.heap.size := ⟨_, rfl⟩
        obtain ⟨W3, hW3⟩ : ∃ W3, W3 = w'.alloc (.cells #[.int .i64 y0, .int .i64 y1, .int .i64 y2, .bool y3, .bool y4, .bool y5, .bool y6, .bool y7] 53) := ⟨_, rfl⟩
        have X3 : Hid (Ext W0 W3) := Lib.hid (hW3 ▸ HW.out.alloc _)
        have B3 : Hid (W3.heap[gx]? = some (.cells #[.int .i64 y0, .int .i64 y1, .int .i64 y2, .bool y3, .bool y4, .bool y5, .bool y6, .bool y7] 53 (0, 0))) := Lib.hid (by rw [hW3, hgx]; exact at0 w' _)
        have hgl : w.heap.size + 3 ≤ gx := by rw [hgx]; have := blk_lt (keepU R0.out HW.out); omega
        rw [← hW3]
        try rw [← hgx]
        clear hW3 hgx d0 d1 d2 d3 d4 x0 x1 x2 x3 x4 x5 x6 x7 HKD HKM HCS
        obtain ⟨⟨d0, d1, d2⟩, d3, d4⟩ := cells5 (keepU D0.out X3.out)
        obtain ⟨m0, m1, m2⟩ := cells3U (keepU M0.out X3.out)
        obtain ⟨⟨⟨z0, z1⟩, z2, z3⟩, ⟨z4, z5⟩, z6, z7⟩ := cells8U B3.out
        obtain ⟨⟨s2, er⟩, hwr⟩ : ∃ q, withR ⟨y0, y1, y2, y3, y4, y5, y6, y7⟩ kd n = q := ⟨_, rfl⟩
        have HGR : Hid (getR ⟨id, ph, L⟩ p kd me n = if er = 0 then (⟨id, ph, L.set r.toNat s2⟩, 0) else (noD, er)) := Lib.hid (by
          unfold getR
          rw [HDN.out, if_pos rfl]
          dsimp only
          rw [find_here HDN.out HSK.out HPE.out HE1.out]
          dsimp only
          rw [hwr])
        have HGE := Lib.hid (refGet_any W3 id ph p kd me n _ L (HSw.out.ext (X0.out.trans X3.out)) hl)
        rw [HGR.out] at HGE
        rw [hwr] at HRR2
        dsimp only at HRR2
        clear hwr HGR hneg
        by_cases en : n = 0
        · have t2 : (n == 0) = true := by simp [en]
          by_cases k3 : kd = 3
          · have t3 : (kd == 3) = true := by simp [k3]
            have HBT : Hid ((n = 0 ∧ kd = 3)) := Lib.hid ⟨en, k3⟩
            clear en k3 HGE
            cases y6
            · have HR : Hid (getK ⟨id, ph, L, th, N⟩ p kd me n = (⟨id, ph, L.set r.toNat ⟨y0, y1, y2, y3, y4, y5, true, y7⟩, th, N⟩, 0)) := Lib.hid (by rw [HRR2.out, if_pos HBT.out]; rfl)
              have f6 := blk_free B3.out 6
              
              go_upto_region 11 with (fail)
              
              obtain ⟨W4, hW4⟩ : ∃ W4, W4 = W3.setCell ⟨gx, 6, none⟩ (.bool true) := ⟨_, rfl⟩
              have B4 : Hid (W4.heap[gx]? = some (.cells #[.int .i64 y0, .int .i64 y1, .int .i64 y2, .bool y3, .bool y4, .bool y5, .bool true, .bool y7] 53 (0, 0))) := Lib.hid (by rw [hW4, blk_set B3.out]; rfl)
              have D4 : Hid (W4.heap[w.heap.size]? = some (.cells #[.int .i64 id, .int .i64 ph, .slice (some ⟨b2, off2, none⟩) L.length c, .int .i64 th, .slice na N.length nc] 29 (0, 0))) := Lib.hid (by rw [hW4, set_other _ _ _ _ (by show w.heap.size ≠ gx; omega)]; exact keepU D0.out X3.out)
              have R4 : Hid (W4.heap[w.heap.size + 2]? = some (.cells #[.int .i64 0, .int .i64 0, .slice none 0 0, .int .i64 0, .slice none 0 0] 29 (0, 0))) := Lib.hid (by rw [hW4, set_other _ _ _ _ (by show w.heap.size + 2 ≠ gx; omega)]; exact keepU R0.out X3.out)
              have X4 : Hid (Ext w W4) := Lib.hid (hW4 ▸ below_set (X0.out.trans X3.out) (by show w.heap.size ≤ gx; omega) _)
              rw [← hW4]
              clear hW4 d0 d1 d2 d3 d4 z0 z1 z2 z3 z4 z5 z6 z7 f6
              obtain ⟨⟨d0, d1, d2⟩, d3, d4⟩ := cells5 D4.out
              obtain ⟨⟨⟨z0, z1⟩, z2, z3⟩, ⟨z4, z5⟩, z6, z7⟩ := cells8U B4.out
              have HST : Hid (Calls Try.prog 45 #[.agg #[.int .i64 id, .int .i64 ph, .slice (some ⟨b2, off2, none⟩) L.length c], .int .i64 r, .agg #[.int .i64 y0, .int .i64 y1, .int .i64 y2, .bool y3, .bool y4, .bool y5, .bool true, .bool y7]] W4 fun e w' => ∃ v', e = .returned (.agg #[.int .i64 id, .int .i64 ph, v']) ∧ Ow w' W4.heap.size v' (L.set r.toNat ⟨y0, y1, y2, y3, y4, y5, true, y7⟩) ∧ Ext W4 w') := Lib.hid (by
                have := refSet_any W4 id ph _ L r.toNat ⟨y0, y1, y2, y3, y4, y5, true, y7⟩ (HSw.out.ext X4.out) HKL.out hl
                rw [HRN.out] at this
                exact this)
              
              go_upto_region 12 with (first
                | (go_at_call 45; refine HST.out.mono ?_; rintro e w5 ⟨v5, rfl, o5, x5⟩; obtain ⟨fa, fn, fc, rfl⟩ := o5.sh; have X5 : Hid (Ext W4 w5) := Lib.hid x5; have O5 := Lib.hid o5; clear o5 x5)
                | refine haltst 25 ?_)
              refine .inl ?_
              refine st_l 25 (.tmp 57) (.tmp 56) w.heap.size 0 29 #[.int .i64 id, .int .i64 ph, .slice (some ⟨b2, off2, none⟩) L.length c, .int .i64 th, .slice na N.length nc] #[.int .i64 id, .int .i64 ph, .slice fa fn fc] #[.int .i64 id, .int .i64 ph, .slice fa fn fc, .int .i64 th, .slice na N.length nc] rfl rfl (keepU D4.out X5.out) (by kernel_rfl) (by simp) rfl rfl ?_
              intro W6 hW6 o6
              simp only [Act.put]
              have hz4 : w.heap.size + 3 ≤ W4.heap.size := by have := blk_lt R4.out; omega
              have S6 := Lib.hid (owU O5.out (fun b hb => o6.block b (O5.out.low b hb).2 (by have := (O5.out.low b hb).1; omega)))
              have R6 := Lib.hid ((o6.block (w.heap.size + 2) (blk_lt (keepU R4.out X5.out)) (by omega)).trans (keepU R4.out X5.out))
              have X6 := Lib.hid (ext_off (X4.out.trans X5.out) o6 (fun b hb => by omega))
              have B6 := Lib.hid hW6
              clear hW6 o6 d0 d1 d2 d3 d4 z0 z1 z2 z3 z4 z5 z6 z7
              obtain ⟨⟨d0, d1, d2⟩, d3, d4⟩ := cells5 B6.out
              go_wp2_with (first | refine haltst 29 ?_)
              refine .inl ?_
              refine st_l 29 (.tmp 6) (.tmp 58) (w.heap.size + 2) 0 29 #[.int .i64 0, .int .i64 0, .slice none 0 0, .int .i64 0, .slice none 0 0] #[.int .i64 id, .int .i64 ph, .slice fa fn fc, .int .i64 th, .slice na N.length nc] #[.int .i64 id, .int .i64 ph, .slice fa fn fc, .int .i64 th, .slice na N.length nc] rfl rfl R6.out (by kernel_rfl) (by simp) rfl rfl ?_
              intro W9 hW9 o9
              simp only [Act.put]
              go_wp2
              exact bodyPost_ret (v := .tuple #[.agg #[.int .i64 id, .int .i64 ph, .slice fa fn fc, .int .i64 th, .slice na N.length nc], .int .i64 0]) (res_ct 7 rfl rfl hW9 uDrinker (by kernel_rfl)) rfl (by
                rw [HR.out]
                have x9 := ext_off X6.out o9 (fun b hb => by omega)
                exact ⟨_, _, rfl, (owU S6.out (fun b hb => o9.block b (S6.out.low b hb).2 (by have := (S6.out.low b hb).1; omega))).sl, HNw.out.ext x9, x9⟩)
            · have HR : Hid (getK ⟨id, ph, L, th, N⟩ p kd me n = (noK, 132)) := Lib.hid (by rw [HRR2.out, if_pos HBT.out]; rfl)
              go_upto_region 9 with (fail)
              go_wp2_with (first | refine haltst 29 ?_)
              refine .inl ?_
              refine st_l 29 (.tmp 6) (.tmp 50) (w.heap.size + 2) 0 29 #[.int .i64 0, .int .i64 0, .slice none 0 0, .int .i64 0, .slice none 0 0] #[.int .i64 0, .int .i64 0, .slice none 0 0, .int .i64 0, .slice none 0 0] #[.int .i64 0, .int .i64 0, .slice none 0 0, .int .i64 0, .slice none 0 0] rfl rfl (keepU R0.out X3.out) (by kernel_rfl) (by simp) rfl rfl ?_
              intro W9 hW9 o9
              simp only [Act.put]
              go_wp2
              exact bodyPost_ret (v := .tuple #[.agg #[.int .i64 0, .int .i64 0, .slice none 0 0, .int .i64 0, .slice none 0 0], .int .i64 132]) (res_ct 7 rfl rfl hW9 uDrinker (by kernel_rfl)) rfl (givesDNo HR.out (ext_off (X0.out.trans X3.out) o9 (fun b hb => by omega)))
          · have t3 : (kd == 3) = false := by simp [k3]
            by_cases k4 : kd = 4
            · have t4 : (kd == 4) = true := by simp [k4]
              have HBT : Hid (¬ (n = 0 ∧ kd = 3)) := Lib.hid (fun q => k3 q.2)
              have HBT2 : Hid (n = 0 ∧ kd = 4) := Lib.hid ⟨en, k4⟩
              clear en k3 k4 HGE
              cases y7
              · have HR : Hid (getK ⟨id, ph, L, th, N⟩ p kd me n = (⟨id, ph, L.set r.toNat ⟨y0, y1, y2, y3, y4, y5, y6, true⟩, th, N⟩, 0)) := Lib.hid (by rw [HRR2.out, if_neg HBT.out, if_pos HBT2.out]; rfl)
                have f6 := blk_free B3.out 7
                
                go_upto_region 17 with (fail)
                
                obtain ⟨W4, hW4⟩ : ∃ W4, W4 = W3.setCell ⟨gx, 7, none⟩ (.bool true) := ⟨_, rfl⟩
                have B4 : Hid (W4.heap[gx]? = some (.cells #[.int .i64 y0, .int .i64 y1, .int .i64 y2, .bool y3, .bool y4, .bool y5, .bool y6, .bool true] 53 (0, 0))) := Lib.hid (by rw [hW4, blk_set B3.out]; rfl)
                have D4 : Hid (W4.heap[w.heap.size]? = some (.cells #[.int .i64 id, .int .i64 ph, .slice (some ⟨b2, off2, none⟩) L.length c, .int .i64 th, .slice na N.length nc] 29 (0, 0))) := Lib.hid (by rw [hW4, set_other _ _ _ _ (by show w.heap.size ≠ gx; omega)]; exact keepU D0.out X3.out)
                have R4 : Hid (W4.heap[w.heap.size + 2]? = some (.cells #[.int .i64 0, .int .i64 0, .slice none 0 0, .int .i64 0, .slice none 0 0] 29 (0, 0))) := Lib.hid (by rw [hW4, set_other _ _ _ _ (by show w.heap.size + 2 ≠ gx; omega)]; exact keepU R0.out X3.out)
                have X4 : Hid (Ext w W4) := Lib.hid (hW4 ▸ below_set (X0.out.trans X3.out) (by show w.heap.size ≤ gx; omega) _)
                rw [← hW4]
                clear hW4 d0 d1 d2 d3 d4 z0 z1 z2 z3 z4 z5 z6 z7 f6
                obtain ⟨⟨d0, d1, d2⟩, d3, d4⟩ := cells5 D4.out
                obtain ⟨⟨⟨z0, z1⟩, z2, z3⟩, ⟨z4, z5⟩, z6, z7⟩ := cells8U B4.out
                have HST : Hid (Calls Try.prog 45 #[.agg #[.int .i64 id, .int .i64 ph, .slice (some ⟨b2, off2, none⟩) L.length c], .int .i64 r, .agg #[.int .i64 y0, .int .i64 y1, .int .i64 y2, .bool y3, .bool y4, .bool y5, .bool y6, .bool true]] W4 fun e w' => ∃ v', e = .returned (.agg #[.int .i64 id, .int .i64 ph, v']) ∧ Ow w' W4.heap.size v' (L.set r.toNat ⟨y0, y1, y2, y3, y4, y5, y6, true⟩) ∧ Ext W4 w') := Lib.hid (by
                  have := refSet_any W4 id ph _ L r.toNat ⟨y0, y1, y2, y3, y4, y5, y6, true⟩ (HSw.out.ext X4.out) HKL.out hl
                  rw [HRN.out] at this
                  exact this)
                
                go_upto_region 18 with (first
                  | (go_at_call 45; refine HST.out.mono ?_; rintro e w5 ⟨v5, rfl, o5, x5⟩; obtain ⟨fa, fn, fc, rfl⟩ := o5.sh; have X5 : Hid (Ext W4 w5) := Lib.hid x5; have O5 := Lib.hid o5; clear o5 x5)
                  | refine haltst 25 ?_)
                refine .inl ?_
                refine st_l 25 (.tmp 76) (.tmp 75) w.heap.size 0 29 #[.int .i64 id, .int .i64 ph, .slice (some ⟨b2, off2, none⟩) L.length c, .int .i64 th, .slice na N.length nc] #[.int .i64 id, .int .i64 ph, .slice fa fn fc] #[.int .i64 id, .int .i64 ph, .slice fa fn fc, .int .i64 th, .slice na N.length nc] rfl rfl (keepU D4.out X5.out) (by kernel_rfl) (by simp) rfl rfl ?_
                intro W6 hW6 o6
                simp only [Act.put]
                have hz4 : w.heap.size + 3 ≤ W4.heap.size := by have := blk_lt R4.out; omega
                have S6 := Lib.hid (owU O5.out (fun b hb => o6.block b (O5.out.low b hb).2 (by have := (O5.out.low b hb).1; omega)))
                have R6 := Lib.hid ((o6.block (w.heap.size + 2) (blk_lt (keepU R4.out X5.out)) (by omega)).trans (keepU R4.out X5.out))
                have X6 := Lib.hid (ext_off (X4.out.trans X5.out) o6 (fun b hb => by omega))
                have B6 := Lib.hid hW6
                clear hW6 o6 d0 d1 d2 d3 d4 z0 z1 z2 z3 z4 z5 z6 z7
                obtain ⟨⟨d0, d1, d2⟩, d3, d4⟩ := cells5 B6.out
                go_wp2_with (first | refine haltst 29 ?_)
                refine .inl ?_
                refine st_l 29 (.tmp 6) (.tmp 77) (w.heap.size + 2) 0 29 #[.int .i64 0, .int .i64 0, .slice none 0 0, .int .i64 0, .slice none 0 0] #[.int .i64 id, .int .i64 ph, .slice fa fn fc, .int .i64 th, .slice na N.length nc] #[.int .i64 id, .int .i64 ph, .slice fa fn fc, .int .i64 th, .slice na N.length nc] rfl rfl R6.out (by kernel_rfl) (by simp) rfl rfl ?_
                intro W9 hW9 o9
                simp only [Act.put]
                go_wp2
                exact bodyPost_ret (v := .tuple #[.agg #[.int .i64 id, .int .i64 ph, .slice fa fn fc, .int .i64 th, .slice na N.length nc], .int .i64 0]) (res_ct 7 rfl rfl hW9 uDrinker (by kernel_rfl)) rfl (by
                  rw [HR.out]
                  have x9 := ext_off X6.out o9 (fun b hb => by omega)
                  exact ⟨_, _, rfl, (owU S6.out (fun b hb => o9.block b (S6.out.low b hb).2 (by have := (S6.out.low b hb).1; omega))).sl, HNw.out.ext x9, x9⟩)
              · have HR : Hid (getK ⟨id, ph, L, th, N⟩ p kd me n = (noK, 132)) := Lib.hid (by rw [HRR2.out, if_neg HBT.out, if_pos HBT2.out]; rfl)
                go_upto_region 15 with (fail)
                go_wp2_with (first | refine haltst 29 ?_)
                refine .inl ?_
                refine st_l 29 (.tmp 6) (.tmp 69) (w.heap.size + 2) 0 29 #[.int .i64 0, .int .i64 0, .slice none 0 0, .int .i64 0, .slice none 0 0] #[.int .i64 0, .int .i64 0, .slice none 0 0, .int .i64 0, .slice none 0 0] #[.int .i64 0, .int .i64 0, .slice none 0 0, .int .i64 0, .slice none 0 0] rfl rfl (keepU R0.out X3.out) (by kernel_rfl) (by simp) rfl rfl ?_
                intro W9 hW9 o9
                simp only [Act.put]
                go_wp2
                exact bodyPost_ret (v := .tuple #[.agg #[.int .i64 0, .int .i64 0, .slice none 0 0, .int .i64 0, .slice none 0 0], .int .i64 132]) (res_ct 7 rfl rfl hW9 uDrinker (by kernel_rfl)) rfl (givesDNo HR.out (ext_off (X0.out.trans X3.out) o9 (fun b hb => by omega)))
            · have t4 : (kd == 4) = false := by simp [k4]
              have HRX : Hid (getK ⟨id, ph, L, th, N⟩ p kd me n = if er = 0 then (⟨id, ph, L.set r.toNat s2, th, N⟩, 0) else (noK, er)) := Lib.hid (by rw [HRR2.out, if_neg (fun q => k3 q.2), if_neg (fun q => k4 q.2)])
              clear en k3 k4 HRR2
              by_cases her : er = 0
              · subst her
                rw [if_pos rfl] at HGE HRX
                have HR := HRX
                clear HRX
                go_upto_region 20 with (first
                  | (go_at_call 46; refine HGE.out.mono ?_; rintro e w4 ⟨v4, rfl, s4, x4, n4⟩; obtain ⟨fa, fn, fc, rfl⟩ : ∃ a n c, v4 = Value.slice a n c := (by obtain ⟨a, c, q⟩ := s4.len; exact ⟨a, _, c, q⟩); dsimp only at s4; have S4 := Lib.hid s4; have X4 : Hid (Ext W3 w4) := Lib.hid x4; have N4 := Lib.hid n4; clear s4 x4 n4))
                obtain ⟨gy, hgy⟩ : ∃ gy, gy = w4.heap.size := ⟨_, rfl⟩
                obtain ⟨W5, hW5⟩ : ∃ W5, W5 = w4.alloc (.cells #[.int .i64 id, .int .i64 ph, .slice fa fn fc] 25) := ⟨_, rfl⟩
                have X5 : Hid (Ext W3 W5) := Lib.hid (hW5 ▸ X4.out.alloc _)
                have S5 := Lib.hid (hW5 ▸ S4.out.alloc _ : Sl W5 (.slice fa fn fc) (L.set r.toNat s2))
                have B5 : Hid (W5.heap[gy]? = some (.cells #[.int .i64 id, .int .i64 ph, .slice fa fn fc] 25 (0, 0))) := Lib.hid (by rw [hW5, hgy]; exact at0 w4 _)
                rw [← hW5]
                try rw [← hgy]
                clear hW5 hgy S4 X4 d0 d1 d2 d3 d4 m0 m1 m2 z0 z1 z2 z3 z4 z5 z6 z7
                obtain ⟨e0, e1, e2⟩ := cells3U B5.out
                obtain ⟨⟨d0, d1, d2⟩, d3, d4⟩ := cells5 (keepU D0.out (X3.out.trans X5.out))
                go_upto_region 22 with (fail)
                go_wp2_with (first | refine haltst 25 ?_)
                refine .inl ?_
                refine st_l 25 (.tmp 91) (.tmp 90) w.heap.size 0 29 #[.int .i64 id, .int .i64 ph, .slice (some ⟨b2, off2, none⟩) L.length c, .int .i64 th, .slice na N.length nc] #[.int .i64 id, .int .i64 ph, .slice fa fn fc] #[.int .i64 id, .int .i64 ph, .slice fa fn fc, .int .i64 th, .slice na N.length nc] rfl rfl (keepU D0.out (X3.out.trans X5.out)) (by kernel_rfl) (by simp) rfl rfl ?_
                intro W6 hW6 o6
                simp only [Act.put]
                have hz3 : gx < W3.heap.size := blk_lt B3.out
                have S6 := Lib.hid (slOffU S5.out N4.out o6 (by omega))
                have R6 := Lib.hid ((o6.block (w.heap.size + 2) (blk_lt (keepU R0.out (X3.out.trans X5.out))) (by omega)).trans (keepU R0.out (X3.out.trans X5.out)))
                have X6 := Lib.hid (ext_off (X0.out.trans (X3.out.trans X5.out)) o6 (fun b hb => by omega))
                have B6 := Lib.hid hW6
                clear hW6 o6 d0 d1 d2 d3 d4 e0 e1 e2
                obtain ⟨⟨d0, d1, d2⟩, d3, d4⟩ := cells5 B6.out
                go_wp2_with (first | refine haltst 29 ?_)
                refine .inl ?_
                refine st_l 29 (.tmp 6) (.tmp 92) (w.heap.size + 2) 0 29 #[.int .i64 0, .int .i64 0, .slice none 0 0, .int .i64 0, .slice none 0 0] #[.int .i64 id, .int .i64 ph, .slice fa fn fc, .int .i64 th, .slice na N.length nc] #[.int .i64 id, .int .i64 ph, .slice fa fn fc, .int .i64 th, .slice na N.length nc] rfl rfl R6.out (by kernel_rfl) (by simp) rfl rfl ?_
                intro W9 hW9 o9
                simp only [Act.put]
                go_wp2
                exact bodyPost_ret (v := .tuple #[.agg #[.int .i64 id, .int .i64 ph, .slice fa fn fc, .int .i64 th, .slice na N.length nc], .int .i64 0]) (res_ct 7 rfl rfl hW9 uDrinker (by kernel_rfl)) rfl (by
                  rw [HR.out]
                  have x9 := ext_off X6.out o9 (fun b hb => by omega)
                  exact ⟨_, _, rfl, slOffU S6.out N4.out o9 (by omega), HNw.out.ext x9, x9⟩)
              · have t9 : (er != 0) = true := by simp [her]
                rw [if_neg her] at HGE HRX
                have HR := HRX
                clear HRX her
                go_upto_region 20 with (first
                  | (go_at_call 46; refine HGE.out.mono ?_; rintro e w4 ⟨v4, rfl, s4, x4, n4⟩; obtain ⟨fa, fc, rfl⟩ := s4.len; have X4 : Hid (Ext W3 w4) := Lib.hid x4; clear s4 x4 n4; dsimp only [noD]))
                obtain ⟨W5, hW5⟩ : ∃ W5, W5 = w4.alloc (.cells #[.int .i64 0, .int .i64 0, .slice fa 0 fc] 25) := ⟨_, rfl⟩
                have X5 : Hid (Ext W3 W5) := Lib.hid (hW5 ▸ X4.out.alloc _)
                clear X4
                try rw [← hW5]
                clear hW5
                go_upto_region 21 with (fail)
                go_wp2_with (first | refine haltst 29 ?_)
                refine .inl ?_
                refine st_l 29 (.tmp 6) (.tmp 88) (w.heap.size + 2) 0 29 #[.int .i64 0, .int .i64 0, .slice none 0 0, .int .i64 0, .slice none 0 0] #[.int .i64 0, .int .i64 0, .slice none 0 0, .int .i64 0, .slice none 0 0] #[.int .i64 0, .int .i64 0, .slice none 0 0, .int .i64 0, .slice none 0 0] rfl rfl (keepU R0.out (X3.out.trans X5.out)) (by kernel_rfl) (by simp) rfl rfl ?_
                intro W9 hW9 o9
                simp only [Act.put]
                go_wp2
                exact bodyPost_ret (v := .tuple #[.agg #[.int .i64 0, .int .i64 0, .slice none 0 0, .int .i64 0, .slice none 0 0], .int .i64 er]) (res_ct 7 rfl rfl hW9 uDrinker (by kernel_rfl)) rfl (givesDNo HR.out (ext_off (X0.out.trans (X3.out.trans X5.out)) o9 (fun b hb => by omega)))
        · have t2 : (n == 0) = false := by simp [en]
          have HRX : Hid (getK ⟨id, ph, L, th, N⟩ p kd me n = if er = 0 then (⟨id, ph, L.set r.toNat s2, th, N⟩, 0) else (noK, er)) := Lib.hid (by rw [HRR2.out, if_neg (fun q => en q.1), if_neg (fun q => en q.1)])
          clear en HRR2
          by_cases her : er = 0
          · subst her
            rw [if_pos rfl] at HGE HRX
            have HR := HRX
            clear HRX
            go_upto_region 20 with (first
              | (go_at_call 46; refine HGE.out.mono ?_; rintro e w4 ⟨v4, rfl, s4, x4, n4⟩; obtain ⟨fa, fn, fc, rfl⟩ : ∃ a n c, v4 = Value.slice a n c := (by obtain ⟨a, c, q⟩ := s4.len; exact ⟨a, _, c, q⟩); dsimp only at s4; have S4 := Lib.hid s4; have X4 : Hid (Ext W3 w4) := Lib.hid x4; have N4 := Lib.hid n4; clear s4 x4 n4))
            obtain ⟨gy, hgy⟩ : ∃ gy, gy = w4.heap.size := ⟨_, rfl⟩
            obtain ⟨W5, hW5⟩ : ∃ W5, W5 = w4.alloc (.cells #[.int .i64 id, .int .i64 ph, .slice fa fn fc] 25) := ⟨_, rfl⟩
            have X5 : Hid (Ext W3 W5) := Lib.hid (hW5 ▸ X4.out.alloc _)
            have S5 := Lib.hid (hW5 ▸ S4.out.alloc _ : Sl W5 (.slice fa fn fc) (L.set r.toNat s2))
            have B5 : Hid (W5.heap[gy]? = some (.cells #[.int .i64 id, .int .i64 ph, .slice fa fn fc] 25 (0, 0))) := Lib.hid (by rw [hW5, hgy]; exact at0 w4 _)
            rw [← hW5]
            try rw [← hgy]
            clear hW5 hgy S4 X4 d0 d1 d2 d3 d4 m0 m1 m2 z0 z1 z2 z3 z4 z5 z6 z7
            obtain ⟨e0, e1, e2⟩ := cells3U B5.out
            obtain ⟨⟨d0, d1, d2⟩, d3, d4⟩ := cells5 (keepU D0.out (X3.out.trans X5.out))
            go_upto_region 22 with (fail)
            go_wp2_with (first | refine haltst 25 ?_)
            refine .inl ?_
            refine st_l 25 (.tmp 91) (.tmp 90) w.heap.size 0 29 #[.int .i64 id, .int .i64 ph, .slice (some ⟨b2, off2, none⟩) L.length c, .int .i64 th, .slice na N.length nc] #[.int .i64 id, .int .i64 ph, .slice fa fn fc] #[.int .i64 id, .int .i64 ph, .slice fa fn fc, .int .i64 th, .slice na N.length nc] rfl rfl (keepU D0.out (X3.out.trans X5.out)) (by kernel_rfl) (by simp) rfl rfl ?_
            intro W6 hW6 o6
            simp only [Act.put]
            have hz3 : gx < W3.heap.size := blk_lt B3.out
            have S6 := Lib.hid (slOffU S5.out N4.out o6 (by omega))
            have R6 := Lib.hid ((o6.block (w.heap.size + 2) (blk_lt (keepU R0.out (X3.out.trans X5.out))) (by omega)).trans (keepU R0.out (X3.out.trans X5.out)))
            have X6 := Lib.hid (ext_off (X0.out.trans (X3.out.trans X5.out)) o6 (fun b hb => by omega))
            have B6 := Lib.hid hW6
            clear hW6 o6 d0 d1 d2 d3 d4 e0 e1 e2
            obtain ⟨⟨d0, d1, d2⟩, d3, d4⟩ := cells5 B6.out
            go_wp2_with (first | refine haltst 29 ?_)
            refine .inl ?_
            refine st_l 29 (.tmp 6) (.tmp 92) (w.heap.size + 2) 0 29 #[.int .i64 0, .int .i64 0, .slice none 0 0, .int .i64 0, .slice none 0 0] #[.int .i64 id, .int .i64 ph, .slice fa fn fc, .int .i64 th, .slice na N.length nc] #[.int .i64 id, .int .i64 ph, .slice fa fn fc, .int .i64 th, .slice na N.length nc] rfl rfl R6.out (by kernel_rfl) (by simp) rfl rfl ?_
            intro W9 hW9 o9
            simp only [Act.put]
            go_wp2
            exact bodyPost_ret (v := .tuple #[.agg #[.int .i64 id, .int .i64 ph, .slice fa fn fc, .int .i64 th, .slice na N.length nc], .int .i64 0]) (res_ct 7 rfl rfl hW9 uDrinker (by kernel_rfl)) rfl (by
              rw [HR.out]
              have x9 := ext_off X6.out o9 (fun b hb => by omega)
              exact ⟨_, _, rfl, slOffU S6.out N4.out o9 (by omega), HNw.out.ext x9, x9⟩)
          · have t9 : (er != 0) = true := by simp [her]
            rw [if_neg her] at HGE HRX
            have HR := HRX
            clear HRX her
            go_upto_region 20 with (first
              | (go_at_call 46; refine HGE.out.mono ?_; rintro e w4 ⟨v4, rfl, s4, x4, n4⟩; obtain ⟨fa, fc, rfl⟩ := s4.len; have X4 : Hid (Ext W3 w4) := Lib.hid x4; clear s4 x4 n4; dsimp only [noD]))
            obtain ⟨W5, hW5⟩ : ∃ W5, W5 = w4.alloc (.cells #[.int .i64 0, .int .i64 0, .slice fa 0 fc] 25) := ⟨_, rfl⟩
            have X5 : Hid (Ext W3 W5) := Lib.hid (hW5 ▸ X4.out.alloc _)
            clear X4
            try rw [← hW5]
            clear hW5
            go_upto_region 21 with (fail)
            go_wp2_with (first | refine haltst 29 ?_)
            refine .inl ?_
            refine st_l 29 (.tmp 6) (.tmp 88) (w.heap.size + 2) 0 29 #[.int .i64 0, .int .i64 0, .slice none 0 0, .int .i64 0, .slice none 0 0] #[.int .i64 0, .int .i64 0, .slice none 0 0, .int .i64 0, .slice none 0 0] #[.int .i64 0, .int .i64 0, .slice none 0 0, .int .i64 0, .slice none 0 0] rfl rfl (keepU R0.out (X3.out.trans X5.out)) (by kernel_rfl) (by simp) rfl rfl ?_
            intro W9 hW9 o9
            simp only [Act.put]
            go_wp2
            exact bodyPost_ret (v := .tuple #[.agg #[.int .i64 0, .int .i64 0, .slice none 0 0, .int .i64 0, .slice none 0 0], .int .i64 er]) (res_ct 7 rfl rfl hW9 uDrinker (by kernel_rfl)) rfl (givesDNo HR.out (ext_off (X0.out.trans (X3.out.trans X5.out)) o9 (fun b hb => by omega)))
      · have HR := Lib.hid (HG1.out _ (find_other HDN.out HSK.out HPE.out e1))
        dsimp only at HR
        have t1 : (y1 != me) = true := by simp [e1]
        clear e1 HG1
        refine wp_region_M_lit (by kernel_rfl) ?_
        refine tv 0 (h := ?_)
        refine tv 1 (h := ?_)
        refine tv 2 (h := ?_)
        refine tv 3 (h := ?_)
        refine tv 4 (h := ?_)
        refine tv 5 (hv := by intro w' hw'; obtain ⟨⟨d0, d1, d2⟩, d3, d4⟩ := HKD.out w' hw'; go_simp; first | done | with_reducible rfl) (h := ?_)
        refine tv 6 (h := ?_)
        refine tv 7 (h := ?_)
        refine tv 8 (h := ?_)
        refine tv 9 (hv := by intro w' hw'; obtain ⟨⟨⟨x0, x1⟩, x2, x3⟩, ⟨x4, x5⟩, x6, x7⟩ := HCS.out w' (X2.out.trans hw'); go_simp; first | done | with_reducible rfl) (h := ?_)
        refine tv 10 (h := ?_)
        refine tv 11 (hv := by intro w' hw'; obtain ⟨m0, m1, m2⟩ := HKM.out w' hw'; go_simp; first | done | with_reducible rfl) (h := ?_)
        refine tv 12 (h := ?_)
        refine tv 13 (h := ?_)
        (refine doneM (by kernel_rfl) ?_; intro w' hw'; show _)
        have HW := Lib.hid (X2.out.trans hw')
        clear hw' hd0 t1
        go_upto_region 5 with (fail)
        go_wp2_with (first | refine haltst 29 ?_)
        refine .inl ?_
        refine st_l 29 (.tmp 6) (.tmp 33) (w.heap.size + 2) 0 29 #[.int .i64 0, .int .i64 0, .slice none 0 0, .int .i64 0, .slice none 0 0] #[.int .i64 0, .int .i64 0, .slice none 0 0, .int .i64 0, .slice none 0 0] #[.int .i64 0, .int .i64 0, .slice none 0 0, .int .i64 0, .slice none 0 0] rfl rfl (keepU R0.out HW.out) (by kernel_rfl) (by simp) rfl rfl ?_
        intro W9 hW9 o9
        simp only [Act.put]
        go_wp2
        exact bodyPost_ret (v := .tuple #[.agg #[.int .i64 0, .int .i64 0, .slice none 0 0, .int .i64 0, .slice none 0 0], .int .i64 131]) (res_ct 7 rfl rfl hW9 uDrinker (by kernel_rfl)) rfl (givesDNo HR.out (ext_off (X0.out.trans HW.out) o9 (fun b hb => by omega)))
end Go.Proofs.Ytpjpjchnfllcmaa
