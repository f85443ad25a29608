/- Texts of this seat. -/
import Derived.Test.YtfbambemjokmgaaGreatNBW
namespace Go.Proofs.YtfbambemjokmgaaGreat
open Go.RowKit
theorem intAtJ {w : World} {ao : Option Addr} {n c : Nat} {L : List Int} (h : Sl w (.slice ao n c) L) {k : Nat} (hk : k < L.length) :
    ∃ b off, ao = some ⟨b, off, none⟩ ∧ n = L.length ∧ n ≤ c ∧ c ≤ 9223372036854775807 ∧ ∀ W, Ext w W → W.cell? ⟨b, off + k, none⟩ = some (.int .i64 (L.getD k 0)) := by
  rcases h.parts with ⟨rfl, _⟩ | ⟨b, off, c', hv, h1, h2, h3, _, h4⟩
  · simp at hk
  · simp only [Value.slice.injEq] at hv
    obtain ⟨rfl, rfl, rfl⟩ := hv
    refine ⟨b, off, rfl, rfl, h1, h2, fun W hW => ?_⟩
    have := h4 k (L.getD k 0) (by simp [hk]) 0 _ rfl
    rw [show off + (k * Elem.k Int + 0) = off + k from by show off + (k * 1 + 0) = _; omega] at this
    exact (hW.cell (p := ⟨b, off + k, none⟩) h3).trans this
set_option maxRecDepth 100000 in
set_option maxHeartbeats 16000000 in
theorem isApartB_any (W : World) (N : Int) (E : List Edge) (ok : OkG N E) (hN10 : N ≤ 10) (vd vm : Value) (ds : List Dk) (ms : List Ml) (h : BV W vd vm ds ms) (hgd : GoodBE N E ds ms) :
    Calls Tryz.prog 31 #[.agg #[vd, vm]] W fun e W' => e = .returned (.bool true) ∧ Ext W W' := by
  obtain ⟨ao, c, bo, d, rfl, rfl⟩ := h.len
  obtain ⟨W0, hW0⟩ : ∃ W0, W0 = W.alloc (.cells #[.slice ao ds.length c, .slice bo ms.length d] 25) := ⟨_, rfl⟩
  have X0 : Hid (Ext W W0) := Lib.hid (hW0 ▸ (Ext.refl W).alloc _)
  have B0 : Hid (W0.heap[W.heap.size]? = some (.cells #[.slice ao ds.length c, .slice bo ms.length d] 25 (0, 0))) := Lib.hid (hW0 ▸ at0 W _)
  have HW0 := Lib.hid hW0
  have HV := Lib.hid (h.ext X0.out)
  have HSM := Lib.hid (hgd.sm ok hN10)
  have hlen : ds.length = N.toNat := hgd.len
  have hN0 := ok.n0
  have HSC : Hid (∀ V, Ext W0 V → V.cell? ⟨W.heap.size, 0, none⟩ = some (.slice ao ds.length c) ∧ V.cell? ⟨W.heap.size, 1, none⟩ = some (.slice bo ms.length d)) := Lib.hid fun V hV => cells2S (keepU B0.out hV)
  have HAA : Hid (∀ a : Int, a ∈ whoK ds 2 → ∃ A : Nat, a = A ∧ A < ds.length ∧ (ds.getD A noK).id = a ∧ ∀ p ∈ (ds.getD A noK).need, ∃ B : Nat, p = B ∧ B < ds.length ∧ ∃ s, sideR (ds.getD A noK).sides p = (s, true) ∧ s.bottle = true ∧ ¬ ((ds.getD B noK).thirst = 2 ∧ a ∈ (ds.getD B noK).need)) := Lib.hid fun a ha => by
    obtain ⟨h1, h2, h3⟩ := hgd.apart ok ha
    refine ⟨a.toNat, by omega, by omega, h2, fun p hp => ?_⟩
    obtain ⟨q1, q2⟩ := h3 p hp
    exact ⟨p.toNat, by omega, by omega, q2⟩
  have HPH := Lib.hid (whoB_any W0 _ _ ds ms HV.out (by have := HSM.out.n; omega) 2)
  have hpl : (whoK ds 2).length ≤ 100 := by
    unfold whoK
    rw [List.length_map]
    exact Nat.le_trans (List.length_filter_le _ _) (by have := HSM.out.n; omega)
  obtain ⟨P, hP⟩ : ∃ P, P = whoK ds 2 := ⟨_, rfl⟩
  rw [← hP] at HAA HPH hpl
  obtain ⟨k0, k1⟩ := HSC.out W0 (Ext.refl _)
  clear h hW0 ok hgd hP hlen hN0 hN10
  go_enter Tryz.func31, Tryz.ntmps31
  go_upto_region 1 with (fail)
  rw [← HW0.out]
  go_wp2_with (go_at_call 22; refine HPH.out.mono ?_; rintro e w1 ⟨vp, rfl, op, hx⟩; obtain ⟨pa, pc, rfl⟩ := op.sl.len; have HP := Lib.hid op.sl; have X1 : Hid (Ext W0 w1) := Lib.hid hx; clear op hx)
  clear k0 k1
  go_loopw [4] (fun i wr => ∃ k : Nat, k ≤ P.length ∧ i = .int .i64 k ∧ Hid (Ext w1 wr)) (fun i _ => P.length - (intOf i).toNat)
  case atStart => exact ⟨0, Nat.zero_le _, rfl, Lib.hid (Ext.refl _)⟩
  case round =>
    obtain ⟨k, hk, rfl, HX⟩ := hrel
    by_cases hlt : k < P.length
    · have hki : (k : Int) < (P.length : Int) := by omega
      obtain ⟨pb, po, hpa, _, hnc1, hc631, hcellP⟩ := intAtJ HP.out hlt
      subst hpa
      have hmem : P.getD k 0 ∈ P := by rw [List.getD_eq_getElem?_getD, List.getElem?_eq_getElem hlt]; exact List.getElem_mem hlt
      obtain ⟨A, hpA, hAL, hid, hall⟩ := HAA.out _ hmem
      rw [hpA] at hcellP hid hall
      have HCP := Lib.hid hcellP
      obtain ⟨b3, o3, so, sc, no, nc, dd, hyk, hao, hn3, hnc3, hc633, hb3, hsl, hnl, hcell⟩ := HV.out.ds.drinkerAt hAL
      subst hao
      have hdd : ds.getD A noK = dd := by rw [List.getD_eq_getElem?_getD, hyk]; rfl
      rw [hdd] at hid hall
      have HALL := Lib.hid hall
      have HDC := Lib.hid hcell
      have HSL := Lib.hid hsl.sl
      have HNL := Lib.hid hnl.sl
      have hAi : (A : Int) < (ds.length : Int) := by omega
      obtain ⟨e0, e1, e2, e3, e4⟩ := dd
      dsimp only at HALL HDC HSL HNL hid
      subst hid
      obtain ⟨W5, hW5⟩ : ∃ W5, W5 = wr := ⟨_, rfl⟩
      rw [← hW5] at HX ⊢
      clear hyk hn3 hsl hnl hcell hall hdd hcellP hmem hpA hW5
      go_upto_region 5 with (fail)
      go_wp2_with fail
      refine wp_region_M_lit (by kernel_rfl) ?_
      refine tv 0 (h := ?_)
      refine tv 1 (hv := by intro w' hw'; obtain ⟨c0, c1⟩ := HSC.out w' (X1.out.trans (HX.out.trans hw')); go_simp; first | done | with_reducible rfl) (h := ?_)
      refine tv 2 (h := ?_)
      refine tv 3 (h := ?_)
      refine tv 4 (hv := by intro w' hw'; have hz := hki; go_simp; first | done | with_reducible rfl) (h := ?_)
      refine tv 5 (hv := by intro w' hw'; have hz := HCP.out w' (HX.out.trans hw'); go_simp; first | done | with_reducible rfl) (h := ?_)
      refine tv 6 (hv := by intro w' hw'; have hz := hAi; go_simp; first | done | with_reducible rfl) (h := ?_)
      refine tv 7 (hv := by intro w' hw'; obtain ⟨⟨c0, c1, c2⟩, c3, c4⟩ := HDC.out w' (X1.out.trans (HX.out.trans hw')); go_simp; first | done | with_reducible rfl) (h := ?_)
      (refine runOne 8 (h := ?_); intro w' hw'; go_simp; refine ⟨Ext.alloc (Ext.refl _) _, ?_⟩; try (simp only [Act.put, List.setIfInBounds_toArray, List.set]))
      obtain ⟨gd, hgd⟩ : ∃ g, g = w'.heap.size := ⟨_, rfl⟩
      have GD := Lib.hid (at0 w' (.cells #[.int .i64 0, .int .i64 0, .slice none 0 0, .int .i64 0, .slice none 0 0] 63))
      have HXW : Hid (Ext W5 (w'.alloc (.cells #[.int .i64 0, .int .i64 0, .slice none 0 0, .int .i64 0, .slice none 0 0] 63))) := Lib.hid (hw'.alloc _)
      have hgw : W5.heap.size ≤ gd := hgd ▸ Below.size hw'
      rw [← hgd] at GD ⊢
      replace hgd := Lib.hid hgd
      clear hw'
      refine runLate 9 (h := ?_)
      intro wq hq
      refine wp_st 63 (.tmp 5) (.tmp 25) rfl gd 0 63 _ #[.int .i64 (A : Int), .int .i64 e1, .slice so e2.length sc, .int .i64 e3, .slice no e4.length nc] _ rfl rfl (keepU GD.out hq) (by kernel_rfl) (by simp) rfl rfl ?_
      intro W7 hW7 o7
      simp only [Act.put]
      (try (simp only [Act.put, List.setIfInBounds_toArray, List.set]))
      (refine lateDone (by kernel_rfl) ?_)
      have X7 : Hid (Ext W5 W7) := Lib.hid (ext_off (HXW.out.trans hq) o7 (fun b hb => by omega))
      have D7 := Lib.hid hW7
      clear hW7 o7 hq
      have HX7 : Hid (Ext W0 W7) := Lib.hid (X1.out.trans (HX.out.trans X7.out))
      have HN7 : Hid (Sl W7 (.slice no e4.length nc) e4) := Lib.hid (HNL.out.ext HX7.out)
      have HD7 : Hid (∀ V, Ext W7 V → (V.cell? ⟨gd, 0, none⟩ = some (.int .i64 (A : Int)) ∧ V.cell? ⟨gd, 1, none⟩ = some (.int .i64 e1) ∧ V.cell? ⟨gd, 2, none⟩ = some (.slice so e2.length sc)) ∧ V.cell? ⟨gd, 3, none⟩ = some (.int .i64 e3) ∧ V.cell? ⟨gd, 4, none⟩ = some (.slice no e4.length nc)) := Lib.hid fun V hV => cells5 (keepU D7.out hV)
      go_wp2
      go_loopw [6] (fun i wq => ∃ q : Nat, q ≤ e4.length ∧ i = .int .i64 q ∧ Hid (Ext W7 wq)) (fun i _ => e4.length - (intOf i).toNat)
      case atStart => exact ⟨0, Nat.zero_le _, rfl, Lib.hid (Ext.refl _)⟩
      case round =>
        obtain ⟨q, hq, rfl, HX8⟩ := hrel
        by_cases hlt3 : q < e4.length
        · have hqi : (q : Int) < (e4.length : Int) := by omega
          obtain ⟨nb, nf, hno, _, hnc5, hc635, hcellN⟩ := intAtJ HN7.out hlt3
          subst hno
          have hmem : e4.getD q 0 ∈ e4 := by rw [List.getD_eq_getElem?_getD, List.getElem?_eq_getElem hlt3]; exact List.getElem_mem hlt3
          obtain ⟨B, hpB, hBL, s, hsd, hsb, hno2⟩ := HALL.out _ hmem
          rw [hpB] at hcellN hsd
          have HCN := Lib.hid hcellN
          obtain ⟨b4, o4, so2, sc2, no2, nc2, ff, hfk, hao2, hn4, hnc4, hc634, hb4, hsl2, hnl2, hcell2⟩ := HV.out.ds.drinkerAt hBL
          obtain ⟨rfl, rfl⟩ : b3 = b4 ∧ o3 = o4 := by simpa using hao2
          have hff : ds.getD B noK = ff := by rw [List.getD_eq_getElem?_getD, hfk]; rfl
          rw [hff] at hno2
          have HDF := Lib.hid hcell2
          have HNF := Lib.hid hnl2.sl
          have HNO := Lib.hid hno2
          have hBi : (B : Int) < (ds.length : Int) := by omega
          have HXX : Hid (Ext W0 wr) := Lib.hid (HX7.out.trans HX8.out)
          obtain ⟨s0, s1, s2, s3, s4, s5, s6, s7⟩ := s
          dsimp only at hsb
          subst hsb
          have HSD : Hid (∀ V, Ext W0 V → Calls Tryz.prog 32 #[.agg #[.int .i64 (A : Int), .int .i64 e1, .slice so e2.length sc], .int .i64 (B : Int)] V fun e w' => e = .returned (.tuple #[.agg #[.int .i64 s0, .int .i64 s1, .int .i64 s2, .bool s3, .bool s4, .bool s5, .bool true, .bool s7], .bool true]) ∧ Ext V w') := Lib.hid fun V hV => refSide_any V A e1 _ e2 B (HSL.out.ext hV) _ true hsd
          obtain ⟨f0, f1, f2, f3, f4⟩ := ff
          dsimp only at HDF HNF HNO
          clear hfk hao2 hn4 hsl2 hnl2 hcell2 hff hno2 hcellN hmem hpB hsd
          obtain ⟨W8, hW8⟩ : ∃ W8, W8 = wr := ⟨_, rfl⟩
          rw [← hW8] at HX8 HXX ⊢
          clear hW8
          obtain ⟨⟨i0, i1, i2⟩, i3, i4⟩ := HD7.out W8 HX8.out
          go_upto_region 9 with (fail)
          clear i0 i1 i2 i3 i4
          go_cut [7, 8] (fun q1 q2 wx => ∃ g, q1 = .pointer (some ⟨g, 0, none⟩) ∧ q2 = .bool true ∧ Hid (wx.heap[g]? = some (.cells #[.int .i64 s0, .int .i64 s1, .int .i64 s2, .bool s3, .bool s4, .bool s5, .bool true, .bool s7] 66 (0, 0))) ∧ Hid (Ext W8 wx) ∧ W8.heap.size ≤ g)
          case first =>
            go_wp2_with fail
            (refine wp_region_X_lit (K := fun V => Ext W8 V) (by kernel_rfl) (fun w1 hw1 => ?_))
            have z1 : Hid (Ext W8 w1) := Lib.hid hw1
            clear hw1
            refine xtv 0 (h := ?_)
            refine xtv 1 (hv := by intro w' hw'; obtain ⟨⟨c0, c1, c2⟩, c3, c4⟩ := HD7.out w' (HX8.out.trans hw'); go_simp; first | done | with_reducible rfl) (h := ?_)
            refine xtv 2 (h := ?_)
            refine xtv 3 (hv := by intro w' hw'; obtain ⟨⟨c0, c1, c2⟩, c3, c4⟩ := HD7.out w' (HX8.out.trans hw'); go_simp; first | done | with_reducible rfl) (h := ?_)
            refine xtv 4 (h := ?_)
            refine xtv 5 (hv := by intro w' hw'; have hz := hqi; go_simp; first | done | with_reducible rfl) (h := ?_)
            refine xtv 6 (hv := by intro w' hw'; have hz := HCN.out w' (HX8.out.trans hw'); go_simp; first | done | with_reducible rfl) (h := ?_)
            refine xtwo 7 11 (hk := z1.out) (h := RunX.of 7 (h := ?_)) (h' := RunX.of 11 (h := ?_))
            · go_simp
              refine (HSD.out w1 (HXX.out.trans z1.out)).mono ?_
              rintro e6 w6 ⟨rfl, x6⟩
              have y6 : Hid (Ext W8 w6) := Lib.hid (Ext.trans z1.out x6)
              clear x6
              dsimp only
              (try (simp only [Act.put, List.setIfInBounds_toArray, List.set]))
              refine xtv 8 (h := ?_)
              refine xtv 9 (h := ?_)
              refine xtv 10 (h := ?_)
              refine xone 11 (hk := y6.out) (h := RunX.of 11 (h := ?_))
              go_simp
              (try (simp only [Act.put, List.setIfInBounds_toArray, List.set]))
              obtain ⟨gx, hgx⟩ : ∃ g, g = w6.heap.size := ⟨_, rfl⟩
              obtain ⟨W9, hW9⟩ : ∃ W9, W9 = w6.alloc (.cells #[.int .i64 0, .int .i64 0, .int .i64 0, .bool false, .bool false, .bool false, .bool false, .bool false] 66) := ⟨_, rfl⟩
              have B9 : Hid (W9.heap[gx]? = some (.cells #[.int .i64 0, .int .i64 0, .int .i64 0, .bool false, .bool false, .bool false, .bool false, .bool false] 66 (0, 0))) := Lib.hid (hW9 ▸ hgx ▸ at0 w6 _)
              have Y9 : Hid (Ext W8 W9) := Lib.hid (hW9 ▸ y6.out.alloc _)
              have pg : W8.heap.size ≤ gx := hgx ▸ Below.size y6.out
              rw [← hW9, ← hgx]
              clear hW9 hgx
              refine xone 12 (hk := Y9.out) (h := RunX.of 12 (h := ?_))
              refine wp_st 66 (.tmp 7) (.tmp 42) rfl gx 0 66 #[.int .i64 0, .int .i64 0, .int .i64 0, .bool false, .bool false, .bool false, .bool false, .bool false] #[.int .i64 s0, .int .i64 s1, .int .i64 s2, .bool s3, .bool s4, .bool s5, .bool true, .bool s7] #[.int .i64 s0, .int .i64 s1, .int .i64 s2, .bool s3, .bool s4, .bool s5, .bool true, .bool s7] rfl rfl B9.out (by kernel_rfl) (by simp) rfl rfl ?_
              intro WB hWB oB
              simp only [Act.put]
              have YB : Hid (Ext W8 WB) := Lib.hid (ext_off Y9.out oB (fun b hb => by omega))
              have RB := Lib.hid hWB
              clear hWB oB
              refine xtv 13 (h := ?_)
              (refine xdone (by kernel_rfl) (YB.out) ?_)
              go_wp2_with fail
              go_meet
              exact ⟨_, rfl, rfl, RB, YB, pg⟩
            · go_simp
              (try (simp only [Act.put, List.setIfInBounds_toArray, List.set]))
              obtain ⟨gx, hgx⟩ : ∃ g, g = w1.heap.size := ⟨_, rfl⟩
              obtain ⟨W9, hW9⟩ : ∃ W9, W9 = w1.alloc (.cells #[.int .i64 0, .int .i64 0, .int .i64 0, .bool false, .bool false, .bool false, .bool false, .bool false] 66) := ⟨_, rfl⟩
              have B9 : Hid (W9.heap[gx]? = some (.cells #[.int .i64 0, .int .i64 0, .int .i64 0, .bool false, .bool false, .bool false, .bool false, .bool false] 66 (0, 0))) := Lib.hid (hW9 ▸ hgx ▸ at0 w1 _)
              have Y9 : Hid (Ext W8 W9) := Lib.hid (hW9 ▸ z1.out.alloc _)
              have pg : W8.heap.size ≤ gx := hgx ▸ Below.size z1.out
              rw [← hW9, ← hgx]
              clear hW9 hgx
              refine xone 7 (hk := Y9.out) (h := RunX.of 7 (h := ?_))
              go_simp
              refine (HSD.out W9 (HXX.out.trans Y9.out)).mono ?_
              rintro e6 w6 ⟨rfl, x6⟩
              have y6 : Hid (Ext W8 w6) := Lib.hid (Ext.trans Y9.out x6)
              have B6 := Lib.hid (keepU B9.out x6)
              clear x6
              dsimp only
              (try (simp only [Act.put, List.setIfInBounds_toArray, List.set]))
              refine xtv 8 (h := ?_)
              refine xtv 9 (h := ?_)
              refine xtv 10 (h := ?_)
              refine xone 12 (hk := y6.out) (h := RunX.of 12 (h := ?_))
              refine wp_st 66 (.tmp 7) (.tmp 42) rfl gx 0 66 #[.int .i64 0, .int .i64 0, .int .i64 0, .bool false, .bool false, .bool false, .bool false, .bool false] #[.int .i64 s0, .int .i64 s1, .int .i64 s2, .bool s3, .bool s4, .bool s5, .bool true, .bool s7] #[.int .i64 s0, .int .i64 s1, .int .i64 s2, .bool s3, .bool s4, .bool s5, .bool true, .bool s7] rfl rfl B6.out (by kernel_rfl) (by simp) rfl rfl ?_
              intro WB hWB oB
              simp only [Act.put]
              have YB : Hid (Ext W8 WB) := Lib.hid (ext_off y6.out oB (fun b hb => by omega))
              have RB := Lib.hid hWB
              clear hWB oB
              refine xtv 13 (h := ?_)
              (refine xdone (by kernel_rfl) (YB.out) ?_)
              go_wp2_with fail
              go_meet
              exact ⟨_, rfl, rfl, RB, YB, pg⟩
          case rest =>
          obtain ⟨gx, rfl, rfl, S9, X9, hgx8⟩ := hcut
          obtain ⟨W9, hW9⟩ : ∃ W9, W9 = wc := ⟨_, rfl⟩
          rw [← hW9] at S9 X9 ⊢
          clear hW9
          have HXX9 : Hid (Ext W0 W9) := Lib.hid (HXX.out.trans X9.out)
          have HX89 : Hid (Ext W7 W9) := Lib.hid (HX8.out.trans X9.out)
          clear hgx8
          go_upto_region 10 with (fail)
          go_wp2_with fail
          refine wp_region_M_lit (by kernel_rfl) ?_
          refine tv 0 (h := ?_)
          refine tv 1 (hv := by intro w' hw'; obtain ⟨c0, c1⟩ := HSC.out w' (HXX9.out.trans hw'); go_simp; first | done | with_reducible rfl) (h := ?_)
          refine tv 2 (h := ?_)
          refine tv 3 (hv := by intro w' hw'; obtain ⟨⟨c0, c1, c2⟩, c3, c4⟩ := HD7.out w' (HX89.out.trans hw'); go_simp; first | done | with_reducible rfl) (h := ?_)
          refine tv 4 (h := ?_)
          refine tv 5 (hv := by intro w' hw'; have hz := hqi; go_simp; first | done | with_reducible rfl) (h := ?_)
          refine tv 6 (hv := by intro w' hw'; have hz := HCN.out w' (HX89.out.trans hw'); go_simp; first | done | with_reducible rfl) (h := ?_)
          refine tv 7 (hv := by intro w' hw'; have hz := hBi; go_simp; first | done | with_reducible rfl) (h := ?_)
          refine tv 8 (hv := by intro w' hw'; obtain ⟨⟨c0, c1, c2⟩, c3, c4⟩ := HDF.out w' (HXX9.out.trans hw'); go_simp; first | done | with_reducible rfl) (h := ?_)
          (refine runOne 9 (h := ?_); intro w' hw'; go_simp; refine ⟨Ext.alloc (Ext.refl _) _, ?_⟩; try (simp only [Act.put, List.setIfInBounds_toArray, List.set]))
          obtain ⟨gy, hgy⟩ : ∃ g, g = w'.heap.size := ⟨_, rfl⟩
          have GY := Lib.hid (at0 w' (.cells #[.int .i64 0, .int .i64 0, .slice none 0 0, .int .i64 0, .slice none 0 0] 63))
          have HXW3 : Hid (Ext W9 (w'.alloc (.cells #[.int .i64 0, .int .i64 0, .slice none 0 0, .int .i64 0, .slice none 0 0] 63))) := Lib.hid (hw'.alloc _)
          have hgy9 : W9.heap.size ≤ gy := hgy ▸ Below.size hw'
          rw [← hgy] at GY ⊢
          replace hgy := Lib.hid hgy
          clear hw'
          refine runLate 10 (h := ?_)
          intro wq hq2
          refine wp_st 63 (.tmp 9) (.tmp 52) rfl gy 0 63 _ #[.int .i64 f0, .int .i64 f1, .slice so2 f2.length sc2, .int .i64 f3, .slice no2 f4.length nc2] _ rfl rfl (keepU GY.out hq2) (by kernel_rfl) (by simp) rfl rfl ?_
          intro WA hWA oA
          simp only [Act.put]
          (try (simp only [Act.put, List.setIfInBounds_toArray, List.set]))
          (refine lateDone (by kernel_rfl) ?_)
          have XA : Hid (Ext W9 WA) := Lib.hid (ext_off (HXW3.out.trans hq2) oA (fun b hb => by omega))
          have DA := Lib.hid hWA
          have HX7A : Hid (Ext W7 WA) := Lib.hid (HX89.out.trans XA.out)
          have HNA : Hid (Sl WA (.slice no2 f4.length nc2) f4) := Lib.hid (HNF.out.ext (HXX9.out.trans XA.out))
          clear hWA oA hq2 hgy9
          obtain ⟨⟨⟨x0, x1⟩, x2, x3⟩, ⟨x4, x5⟩, x6, x7⟩ := cells8U (keepU S9.out XA.out)
          obtain ⟨⟨y0, y1, y2⟩, y3, y4⟩ := cells5 DA.out
          obtain ⟨⟨z0, z1, z2⟩, z3, z4⟩ := HD7.out WA HX7A.out
          by_cases h2 : f3 = 2
          · have HH := Lib.hid (refHasI_val WA _ f4 (A : Int) HNA.out false (decide_eq_false fun hc => HNO.out ⟨h2, hc⟩))
            have q2 : (f3 == 2) = true := by simp [h2]
            clear h2
            go_wp2_with (go_at_call 33; refine HH.out.mono ?_; rintro e w6 ⟨rfl, rfl⟩)
            go_roundw
            case rel => exact ⟨q + 1, by omega, by go_num, HX7A⟩
            case measure => simp [intOf]; omega
          · have q2 : (f3 == 2) = false := by simp [h2]
            clear h2
            go_wp2
            go_roundw
            case rel => exact ⟨q + 1, by omega, by go_num, HX7A⟩
            case measure => simp [intOf]; omega
        · obtain ⟨⟨i0, i1, i2⟩, i3, i4⟩ := HD7.out wr HX8.out
          go_wp2
          go_roundw
          case rel => exact ⟨k + 1, by omega, by go_num, Lib.hid (HX.out.trans (X7.out.trans HX8.out))⟩
          case measure => simp [intOf]; omega
    · go_wp2
      go_ret
      exact ⟨rfl, X0.out.trans (X1.out.trans HX.out)⟩
end Go.Proofs.YtfbambemjokmgaaGreat
