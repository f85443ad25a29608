/- Texts of this seat. -/
import Derived.Test.YtfbambemjokmgaaGreatNBW
namespace Go.Proofs.YtfbambemjokmgaaGreat
open Go.RowKit
def GivesQB (w : World) (N : Int) (E : List Edge) (ds : List Dk) (e : Ending) (w' : World) : Prop := ∃ vd vm, e = .returned (.tuple #[.agg #[vd, vm], .bool true]) ∧ BV w' vd vm ds [] ∧ GoodBE N E ds [] ∧ Ext w w'
def QBt (W : World) (g : Nat) (N : Int) (E : List Edge) (f : Nat) (dsF : List Dk) : Prop := ∃ ds ms, GoodBE N E ds ms ∧ quietB f ds ms = some (dsF, []) ∧ BRt W g ds ms
set_option maxRecDepth 100000 in
set_option maxHeartbeats 32000000 in
theorem quietB_any (w : World) (vd vm : Value) (ds0 : List Dk) (ms0 : List Ml) (h : BV w vd vm ds0 ms0) (N : Int) (E : List Edge) (ok : OkG N E) (hN10 : N ≤ 10) (hgd : GoodBE N E ds0 ms0) (f : Nat) (hf : f ≤ 100000) (dsF : List Dk) (hq : quietB f ds0 ms0 = some (dsF, [])) :
    Calls Tryz.prog 38 #[.agg #[vd, vm], .int .i64 f] w (GivesQB w N E dsF) := by
  obtain ⟨ao, n0, c, bo, m0, d, rfl, rfl⟩ := h.sh
  obtain ⟨W0, hW0⟩ : ∃ W0, W0 = (w.alloc (.cells #[.slice ao n0 c, .slice bo m0 d] 25)).alloc (.cells #[.slice none 0 0, .slice none 0 0] 25) := ⟨_, rfl⟩
  have X0 : Hid (Ext w W0) := Lib.hid (hW0 ▸ ((Ext.refl w).alloc _).alloc _)
  have B0 : Hid (W0.heap[w.heap.size]? = some (.cells #[.slice ao n0 c, .slice bo m0 d] 25 (0, 0))) := Lib.hid (hW0 ▸ old1 (at0 w _) _)
  have R0 : Hid (W0.heap[w.heap.size + 1]? = some (.cells #[.slice none 0 0, .slice none 0 0] 25 (0, 0))) := Lib.hid (hW0 ▸ at1 w _ _)
  have HW0 := Lib.hid hW0
  have HOK := Lib.hid ok
  have HN10 := Lib.hid hN10
  have HQ0 : Hid (QBt W0 w.heap.size N E f dsF) := Lib.hid ⟨ds0, ms0, hgd, hq, _, _, _, _, _, _, B0.out, h.ext X0.out⟩
  clear h hW0 ok hgd hq hN10
  go_enter Tryz.func38, Tryz.ntmps38
  go_upto_region 1 with (fail)
  rw [← HW0.out]
  go_wp2
  go_loopw [6] (fun i wr => ∃ j : Nat, j ≤ f ∧ i = .int .i64 j ∧ Hid (QBt wr w.heap.size N E (f - j) dsF) ∧ Hid (wr.heap[w.heap.size + 1]? = some (.cells #[.slice none 0 0, .slice none 0 0] 25 (0, 0))) ∧ Hid (Ext w wr)) (fun i _ => f - (intOf i).toNat)
  case atStart => exact ⟨0, Nat.zero_le _, rfl, HQ0, R0, X0⟩
  case round =>
    obtain ⟨j, hj, rfl, HQA, HR, HX⟩ := hrel
    obtain ⟨ds, ms, hgd, hq, sa, sn, sc, sb, sm, sd, hbx, hsv⟩ := HQA.out
    have HGD := Lib.hid hgd
    have HQS := Lib.hid hq
    have HBX := Lib.hid hbx
    have HSV := Lib.hid hsv
    have HSM := Lib.hid (hgd.sm HOK.out HN10.out)
    obtain ⟨bo', d', hv⟩ := hsv.ms.len
    simp only [Value.slice.injEq] at hv
    obtain ⟨rfl, rfl, rfl⟩ := hv
    obtain ⟨k0, k1⟩ := cells2S hbx
    clear hgd hq hbx hsv HQA
    by_cases hgo : j < f ∧ ms ≠ []
    · obtain ⟨hlt, hne⟩ := hgo
      obtain ⟨m, l, rfl⟩ := List.exists_cons_of_ne_nil hne
      obtain ⟨q, hq⟩ : ∃ q, f - j = q + 1 := ⟨f - j - 1, by omega⟩
      have hq1 : f - (j + 1) = q := by omega
      have hst := HQS.out
      rw [hq] at hst
      unfold quietB at hst
      have hfr : ∃ ds2 ms2, stepBB ds (m :: l) 2 m.from_ m.to_ [] = ((ds2, ms2), 0) ∧ quietB q ds2 ms2 = some (dsF, []) := by
        rw [HGD.out.stepBB HOK.out]
        by_cases he : (stepB ds (m :: l) 2 m.from_ m.to_ []).2 = 0
        · rw [if_pos he] at hst
          exact ⟨_, _, by rw [← he], hst⟩
        · rw [if_neg he] at hst
          cases hst
      obtain ⟨ds2, ms2, hq2, hq3⟩ := hfr
      have HQ := Lib.hid hq2
      have HQ3 : Hid (quietB (f - (j + 1)) ds2 ms2 = some (dsF, [])) := Lib.hid (by rw [hq1]; exact hq3)
      have HG2 : Hid (GoodBE N E ds2 ms2) := Lib.hid (by
        rw [HGD.out.stepBB HOK.out] at hq2
        rcases HGD.out.step HOK.out (k := 2) (a := m.from_) (b := m.to_) (Q := []) (by omega) with ⟨_, h⟩ | ⟨_, h⟩
        · rw [hq2] at h; exact h
        · rw [hq2] at h; simp at h)
      obtain ⟨mb, mo, y, _, hyk, hao, hn0, hnc, hc63, hb, hcell⟩ := HSV.out.ms.mailAt (k := 0) (by simp)
      subst hao
      obtain rfl : y = m := by simpa using hyk.symm
      obtain ⟨y0, y1, y2, y3, y4⟩ := y
      simp only [Nat.zero_mul, Nat.add_zero] at hcell
      dsimp only at hcell HQ
      have HMC := Lib.hid hcell
      obtain ⟨ms, hms⟩ : ∃ q : List Ml, q = (⟨y0, y1, y2, y3, y4⟩ : Ml) :: l := ⟨_, rfl⟩
      rw [← hms] at HGD HQS HSM HSV HQ HBX k1
      have hml : 0 < ms.length := by rw [hms]; simp
      have hmi : (0 : Int) < (ms.length : Int) := by omega
      have hji : (j : Int) < (f : Int) := by omega
      clear hst hq hq1 hq2 hq3 hyk hn0 hcell hms hne
      go_upto_region 4 with (fail)
      clear k0 k1
      go_cut [7, 8] (fun s7 s8 wx => ∃ g, s7 = .pointer (some ⟨g, 0, none⟩) ∧ s8 = .int .i64 0 ∧ Hid (BRt wx g ds2 ms2) ∧ Hid (Ext wr wx) ∧ wr.heap.size ≤ g)
      case first =>
        go_wp2_with fail
        (refine wp_region_X_lit (K := fun V => Ext wr V) (by kernel_rfl) (fun w1 hw1 => ?_))
        have Z1 : Hid (Ext wr w1) := Lib.hid hw1
        clear hw1
        refine xtv 0 (hv := by intro w' hw'; obtain ⟨c0, c1⟩ := cells2S (keepU HBX.out hw'); go_simp; first | done | with_reducible rfl) (h := ?_)
        refine xtv 2 (h := ?_)
        refine xtv 3 (hv := by intro w' hw'; obtain ⟨c0, c1⟩ := cells2S (keepU HBX.out hw'); go_simp; first | done | with_reducible rfl) (h := ?_)
        refine xtv 4 (hv := by intro w' hw'; have hz := hml; have hz2 := hmi; go_simp; first | done | with_reducible rfl) (h := ?_)
        refine xtv 5 (h := ?_)
        refine xtv 6 (hv := by intro w' hw'; obtain ⟨⟨c0, c1⟩, c2, c3, c4⟩ := HMC.out w' hw'; go_simp; first | done | with_reducible rfl) (h := ?_)
        refine xtv 7 (h := ?_)
        refine xtv 8 (hv := by intro w' hw'; obtain ⟨c0, c1⟩ := cells2S (keepU HBX.out hw'); go_simp; first | done | with_reducible rfl) (h := ?_)
        refine xtv 9 (hv := by intro w' hw'; have hz := hml; have hz2 := hmi; go_simp; first | done | with_reducible rfl) (h := ?_)
        refine xtv 10 (h := ?_)
        refine xtv 11 (hv := by intro w' hw'; obtain ⟨⟨c0, c1⟩, c2, c3, c4⟩ := HMC.out w' hw'; go_simp; first | done | with_reducible rfl) (h := ?_)
        refine xtwo 1 16 (hk := Z1.out) (h := RunX.of 1 (h := ?_)) (h' := RunX.of 16 (h := ?_))
        · go_simp
          refine (ownB_any w1 _ _ ds ms (HSV.out.ext Z1.out) HSM.out).mono ?_
          rintro e3 w3 ⟨vd3, vm3, rfl, sv3, x3⟩
          obtain ⟨a3, n3, c3, b3, m3, d3, rfl, rfl⟩ := sv3.sh
          have S3 := Lib.hid sv3
          have Y3 : Hid (Ext wr w3) := Lib.hid (Ext.trans Z1.out x3)
          clear sv3 x3
          dsimp only
          (try (simp only [Act.put, List.setIfInBounds_toArray, List.set]))
          refine xtwo 12 16 (hk := Y3.out) (h := RunX.of 12 (h := ?_)) (h' := RunX.of 16 (h := ?_))
          · go_simp
            refine (HQ.out ▸ bDeliver_any w3 _ _ ds ms (S3.out.ext (Ext.refl _)) HSM.out y0 y1).mono ?_
            rintro e4 w4 ⟨vd4, vm4, rfl, sv4, x4⟩
            dsimp only at sv4 ⊢
            obtain ⟨a4, n4, c4, b4, m4, d4, rfl, rfl⟩ := sv4.sh
            have S4 := Lib.hid sv4
            have Y4 : Hid (Ext wr w4) := Lib.hid (Ext.trans Y3.out x4)
            have Z4 := Lib.hid x4
            clear sv4 x4
            (try (simp only [Act.put, List.setIfInBounds_toArray, List.set]))
            refine xtv 13 (h := ?_)
            refine xtv 14 (h := ?_)
            refine xtv 15 (h := ?_)
            refine xone 16 (hk := Y4.out) (h := RunX.of 16 (h := ?_))
            go_simp
            (try (simp only [Act.put, List.setIfInBounds_toArray, List.set]))
            obtain ⟨gx, hgx⟩ : ∃ g, g = w4.heap.size := ⟨_, rfl⟩
            obtain ⟨w5, hw5⟩ : ∃ q, q = w4.alloc (.cells #[.slice none 0 0, .slice none 0 0] 25) := ⟨_, rfl⟩
            have B5 : Hid (w5.heap[gx]? = some (.cells #[.slice none 0 0, .slice none 0 0] 25 (0, 0))) := Lib.hid (hw5 ▸ hgx ▸ at0 w4 _)
            have Y5 : Hid (Ext wr w5) := Lib.hid (hw5 ▸ Y4.out.alloc _)
            have Z5 : Hid (Ext w4 w5) := Lib.hid (hw5 ▸ (Ext.refl _).alloc _)
            have hgw : wr.heap.size ≤ gx := hgx ▸ Below.size Y4.out
            rw [← hw5, ← hgx]
            clear hw5 hgx
            refine xone 17 (hk := Y5.out) (h := RunX.of 17 (h := ?_))
            refine wp_st 25 (.tmp 7) (.tmp 34) rfl gx 0 25 #[.slice none 0 0, .slice none 0 0] #[.slice a4 n4 c4, .slice b4 m4 d4] _ rfl rfl B5.out (by kernel_rfl) (by simp) rfl rfl ?_
            intro WB hWB oB
            simp only [Act.put]
            have YB : Hid (Ext wr WB) := Lib.hid (ext_off Y5.out oB (fun b hb => by omega))
            have SB1 : Hid (BRt WB gx ds2 ms2) := Lib.hid ⟨_, _, _, _, _, _, hWB, BV.off (S4.out.ext Z5.out) B5.out oB⟩
            clear hWB oB
            refine xtv 18 (h := ?_)
            (refine xdone (by kernel_rfl) (YB.out) ?_)
            go_wp2_with fail
            go_meet
            exact ⟨gx, rfl, rfl, SB1, YB, hgw⟩
          · go_simp
            (try (simp only [Act.put, List.setIfInBounds_toArray, List.set]))
            obtain ⟨gx, hgx⟩ : ∃ g, g = w3.heap.size := ⟨_, rfl⟩
            obtain ⟨w5, hw5⟩ : ∃ q, q = w3.alloc (.cells #[.slice none 0 0, .slice none 0 0] 25) := ⟨_, rfl⟩
            have B5 : Hid (w5.heap[gx]? = some (.cells #[.slice none 0 0, .slice none 0 0] 25 (0, 0))) := Lib.hid (hw5 ▸ hgx ▸ at0 w3 _)
            have Y5 : Hid (Ext wr w5) := Lib.hid (hw5 ▸ Y3.out.alloc _)
            have Z5 : Hid (Ext w3 w5) := Lib.hid (hw5 ▸ (Ext.refl _).alloc _)
            have hgw : wr.heap.size ≤ gx := hgx ▸ Below.size Y3.out
            rw [← hw5, ← hgx]
            clear hw5 hgx
            refine xone 12 (hk := Y5.out) (h := RunX.of 12 (h := ?_))
            go_simp
            refine (HQ.out ▸ bDeliver_any w5 _ _ ds ms (S3.out.ext Z5.out) HSM.out y0 y1).mono ?_
            rintro e4 w4 ⟨vd4, vm4, rfl, sv4, x4⟩
            dsimp only at sv4 ⊢
            obtain ⟨a4, n4, c4, b4, m4, d4, rfl, rfl⟩ := sv4.sh
            have S4 := Lib.hid sv4
            have Y4 : Hid (Ext wr w4) := Lib.hid (Ext.trans Y5.out x4)
            have Z4 := Lib.hid x4
            clear sv4 x4
            (try (simp only [Act.put, List.setIfInBounds_toArray, List.set]))
            refine xtv 13 (h := ?_)
            refine xtv 14 (h := ?_)
            refine xtv 15 (h := ?_)
            refine xone 17 (hk := Y4.out) (h := RunX.of 17 (h := ?_))
            refine wp_st 25 (.tmp 7) (.tmp 34) rfl gx 0 25 #[.slice none 0 0, .slice none 0 0] #[.slice a4 n4 c4, .slice b4 m4 d4] _ rfl rfl (keepU B5.out Z4.out) (by kernel_rfl) (by simp) rfl rfl ?_
            intro WB hWB oB
            simp only [Act.put]
            have YB : Hid (Ext wr WB) := Lib.hid (ext_off Y4.out oB (fun b hb => by omega))
            have SB1 : Hid (BRt WB gx ds2 ms2) := Lib.hid ⟨_, _, _, _, _, _, hWB, BV.off S4.out (keepU B5.out Z4.out) oB⟩
            clear hWB oB
            refine xtv 18 (h := ?_)
            (refine xdone (by kernel_rfl) (YB.out) ?_)
            go_wp2_with fail
            go_meet
            exact ⟨gx, rfl, rfl, SB1, YB, hgw⟩
        · go_simp
          (try (simp only [Act.put, List.setIfInBounds_toArray, List.set]))
          obtain ⟨gx, hgx⟩ : ∃ g, g = w1.heap.size := ⟨_, rfl⟩
          obtain ⟨w2, hw2⟩ : ∃ q, q = w1.alloc (.cells #[.slice none 0 0, .slice none 0 0] 25) := ⟨_, rfl⟩
          have B2 : Hid (w2.heap[gx]? = some (.cells #[.slice none 0 0, .slice none 0 0] 25 (0, 0))) := Lib.hid (hw2 ▸ hgx ▸ at0 w1 _)
          have Y2 : Hid (Ext wr w2) := Lib.hid (hw2 ▸ Z1.out.alloc _)
          have Z2 : Hid (Ext w1 w2) := Lib.hid (hw2 ▸ (Ext.refl _).alloc _)
          have hgw : wr.heap.size ≤ gx := hgx ▸ Below.size Z1.out
          rw [← hw2, ← hgx]
          clear hw2 hgx
          refine xone 1 (hk := Y2.out) (h := RunX.of 1 (h := ?_))
          go_simp
          refine (ownB_any w2 _ _ ds ms (HSV.out.ext Y2.out) HSM.out).mono ?_
          rintro e3 w3 ⟨vd3, vm3, rfl, sv3, x3⟩
          obtain ⟨a3, n3, c3, b3, m3, d3, rfl, rfl⟩ := sv3.sh
          have S3 := Lib.hid sv3
          have Y3 : Hid (Ext wr w3) := Lib.hid (Ext.trans Y2.out x3)
          have Z3 := Lib.hid x3
          clear sv3 x3
          dsimp only
          (try (simp only [Act.put, List.setIfInBounds_toArray, List.set]))
          refine xone 12 (hk := Y3.out) (h := RunX.of 12 (h := ?_))
          go_simp
          refine (HQ.out ▸ bDeliver_any w3 _ _ ds ms (S3.out.ext (Ext.refl _)) HSM.out y0 y1).mono ?_
          rintro e4 w4 ⟨vd4, vm4, rfl, sv4, x4⟩
          dsimp only at sv4 ⊢
          obtain ⟨a4, n4, c4, b4, m4, d4, rfl, rfl⟩ := sv4.sh
          have S4 := Lib.hid sv4
          have Y4 : Hid (Ext wr w4) := Lib.hid (Ext.trans Y3.out x4)
          have Z4 := Lib.hid x4
          clear sv4 x4
          (try (simp only [Act.put, List.setIfInBounds_toArray, List.set]))
          refine xtv 13 (h := ?_)
          refine xtv 14 (h := ?_)
          refine xtv 15 (h := ?_)
          refine xone 17 (hk := Y4.out) (h := RunX.of 17 (h := ?_))
          refine wp_st 25 (.tmp 7) (.tmp 34) rfl gx 0 25 #[.slice none 0 0, .slice none 0 0] #[.slice a4 n4 c4, .slice b4 m4 d4] _ rfl rfl (keepU (keepU B2.out Z3.out) Z4.out) (by kernel_rfl) (by simp) rfl rfl ?_
          intro WB hWB oB
          simp only [Act.put]
          have YB : Hid (Ext wr WB) := Lib.hid (ext_off Y4.out oB (fun b hb => by omega))
          have SB1 : Hid (BRt WB gx ds2 ms2) := Lib.hid ⟨_, _, _, _, _, _, hWB, BV.off S4.out (keepU (keepU B2.out Z3.out) Z4.out) oB⟩
          clear hWB oB
          refine xtv 18 (h := ?_)
          (refine xdone (by kernel_rfl) (YB.out) ?_)
          go_wp2_with fail
          go_meet
          exact ⟨gx, rfl, rfl, SB1, YB, hgw⟩
      case rest =>
        obtain ⟨gt, rfl, rfl, HT, HX2, hgt⟩ := hcut
        obtain ⟨WC, hWC⟩ : ∃ q, q = wc := ⟨_, rfl⟩
        rw [← hWC] at HT HX2 ⊢
        clear hWC
        have XC : Hid (Ext w WC) := Lib.hid (HX.out.trans HX2.out)
        have BC := Lib.hid (keepU HBX.out HX2.out)
        have RC := Lib.hid (keepU HR.out HX2.out)
        obtain ⟨ta, tn, tc, tb, tm, td, htb, htv⟩ := HT.out
        obtain ⟨j0, j1⟩ := cells2S htb
        have HTV := Lib.hid htv
        clear htb htv
        go_wp2_with (first | refine haltst 25 ?_)
        refine .inl ?_
        refine st_l 25 (.tmp 2) (.tmp 39) w.heap.size 0 25 _ #[.slice ta tn tc, .slice tb tm td] _ rfl rfl BC.out (by kernel_rfl) (by simp) rfl rfl ?_
        intro W5 hW5 o5
        simp only [Act.put]
        have X5 : Hid (Ext w W5) := Lib.hid (ext_off XC.out o5 (fun b hb => by omega))
        have R5 := Lib.hid (o5.blk RC.out (by omega))
        have V5 := Lib.hid (HTV.out.off BC.out o5)
        have B5 := Lib.hid hW5
        clear hW5 o5 j0 j1
        go_wp2
        go_roundw
        case rel => exact ⟨j + 1, by omega, by go_num, Lib.hid ⟨ds2, ms2, HG2.out, HQ3.out, _, _, _, _, _, _, B5.out, V5.out⟩, R5, X5⟩
        case measure => simp [intOf]; omega
    · have hend : ds = dsF ∧ ms = [] := by
        have hst := HQS.out
        cases hq : f - j with
        | zero => rw [hq] at hst; unfold quietB at hst; simpa using hst
        | succ q =>
          have : ms = [] := Classical.byContradiction fun h => hgo ⟨by omega, h⟩
          subst this
          rw [hq] at hst; unfold quietB at hst
          simpa using hst
      obtain ⟨rfl, rfl⟩ := hend
      have HBX2 : Hid (wr.heap[w.heap.size]? = some (.cells #[.slice sa sn sc, .slice sb 0 sd] 25 (0, 0))) := Lib.hid HBX.out
      obtain ⟨k0, k1⟩ := cells2S HBX2.out
      clear hgo HQS
      by_cases hlt : j < f
      all_goals
        go_upto_region 8 with (fail)
        go_wp2_with fail
        (refine wp_region_X_lit (K := fun V => Ext w V ∧ V.heap[w.heap.size]? = some (.cells #[.slice sa sn sc, .slice sb 0 sd] 25 (0, 0))) (by kernel_rfl) (fun w1 hw1 => ?_))
        have Z1 := Lib.hid hw1
        clear hw1 k0 k1
        have K1 : Hid (Ext w w1 ∧ w1.heap[w.heap.size]? = some (.cells #[.slice sa sn sc, .slice sb 0 sd] 25 (0, 0))) := Lib.hid ⟨HX.out.trans Z1.out, keepU HBX2.out Z1.out⟩
        refine xtv 0 (hv := by intro w' hw'; obtain ⟨c0, c1⟩ := cells2S hw'.2; go_simp; first | done | with_reducible rfl) (h := ?_)
        refine xtv 1 (h := ?_)
        refine xtv 2 (hv := by intro w' hw'; obtain ⟨c0, c1⟩ := cells2S hw'.2; go_simp; first | done | with_reducible rfl) (h := ?_)
        refine xtv 3 (h := ?_)
        refine xtv 4 (h := ?_)
        refine xone 5 (hk := K1.out) (h := RunX.of 5 (h := ?_))
        refine wp_st 25 (.tmp 4) (.tmp 40) rfl (w.heap.size + 1) 0 25 _ #[.slice sa sn sc, .slice sb 0 sd] _ rfl rfl (keepU HR.out Z1.out) (by kernel_rfl) (by simp) rfl rfl ?_
        intro W9 hW9 o9
        simp only [Act.put]
        have Y9 : Hid (Ext w W9) := Lib.hid (ext_off (HX.out.trans Z1.out) o9 (fun b hb => by omega))
        have V9 := Lib.hid ((HSV.out.ext Z1.out).off (keepU HR.out Z1.out) o9)
        have R9 := Lib.hid hW9
        have K9 := Lib.hid (o9.blk (keepU HBX2.out Z1.out) (by omega))
        clear hW9 o9
        refine xtv 6 (h := ?_)
        (refine xdone (by kernel_rfl) (⟨Y9.out, K9.out⟩) ?_)
        go_wp2
        exact bodyPost_ret (v := .tuple #[.agg #[.slice sa sn sc, .slice sb 0 sd], .bool true]) (res_ct 5 rfl rfl R9.out uBar (by kernel_rfl)) rfl ⟨_, _, rfl, V9.out, HGD.out, Y9.out⟩
end Go.Proofs.YtfbambemjokmgaaGreat
