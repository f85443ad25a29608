/- Layer 17: SessEnds. -/
import Derived.Test.YtgcnjkabpcbkgaaHW
import Derived.Test.YtgcnjkabpcbkgaaHLOrder
import Derived.Test.YtgcnjkabpcbkgaaH4
namespace Go.Proofs.Ytgcnjkabpcbkgaa
open Go.RowKit

set_option maxRecDepth 100000 in
set_option maxHeartbeats 16000000 in
theorem sessEnds_any (w : World) (v : Value) (L : List Akt) (h : Ns AV Non w v L) :
    Calls Try.prog 5 #[v] w fun e w' => e = .returned (.bool true) ∧ Ext w w' := by
  obtain ⟨ao, c, rfl⟩ := h.len
  have hlen := h.length_le
  have HS := Lib.hid h
  clear h
  obtain ⟨f, hf⟩ : ∃ f, fewA L = f := ⟨_, rfl⟩
  have HF := Lib.hid hf
  cases f
  · clear hf
    go_enter Try.func5, Try.ntmps5
    go_wp2_with (first
      | (have hgd := X2; go_at_call 9; refine (awakeH_any _).mono ?_; rintro e w9 ⟨rfl, x9⟩; have X9 : Hid (Ext w w9) := Lib.hid (X2.out.trans x9); clear x9)
      | (go_at_call 9; refine (awakeH_any _).mono ?_; rintro e w1 ⟨rfl, x1⟩; have X1 : Hid (Ext w w1) := Lib.hid x1; clear x1)
      | (go_at_call 11; refine (fewA_any _ w1 _ L (HS.out.ext X1.out) _ HF.out).mono ?_; rintro e w2 ⟨rfl, x2⟩; have X2 : Hid (Ext w w2) := Lib.hid (X1.out.trans x2); clear x2))
    go_ret
    exact ⟨rfl, X9.out⟩
  have HFY := Lib.hid (fewA_yes.1 hf)
  clear hf
  go_enter Try.func5, Try.ntmps5
  go_wp2_with (first
    | (go_at_call 9; refine (awakeH_any _).mono ?_; rintro e w1 ⟨rfl, x1⟩; have X1 : Hid (Ext w w1) := Lib.hid x1; clear x1)
    | (go_at_call 11; refine (fewA_any _ w1 _ L (HS.out.ext X1.out) _ HF.out).mono ?_; rintro e w2 ⟨rfl, x2⟩; have X2 : Hid (Ext w w2) := Lib.hid (X1.out.trans x2); clear x2)
    | refine haltst 24 ?_)
  refine .inl ?_
  obtain ⟨wA, hwA⟩ : ∃ q, q = (w2.alloc (.cells #[] 3)).alloc (.cells #[] 3) := ⟨_, rfl⟩
  have XA : Hid (Ext w2 wA) := Lib.hid (by rw [hwA]; exact ((Ext.refl w2).alloc _).alloc _)
  have OA : Hid (Ow wA w2.heap.size (.slice (some ⟨w2.heap.size, 0, none⟩) 0 0) ([] : List Int)) := Lib.hid (by rw [hwA]; exact (Ow.litAt w2 _ _ rfl (Nat.le_refl _) [] (by simp)).alloc _)
  have EA : Hid (Ow wA w2.heap.size (.slice (some ⟨w2.heap.size + 1, 0, none⟩) 0 0) ([] : List Int)) := Lib.hid (by rw [hwA]; exact Ow.litAt (w2.alloc _) _ _ (by rw [size_alloc]) (by rw [size_alloc]; omega) [] (by simp))
  have HZA : Hid (wA.heap.size = w2.heap.size + 2) := Lib.hid (by rw [hwA, size_alloc, size_alloc])
  rw [← hwA]
  clear hwA
  obtain ⟨g3, hg3⟩ : ∃ g, g = wA.heap.size := ⟨_, rfl⟩
  have hb := at0 wA (.cells #[.int .i64 0, .slice none 0 0] 24)
  rw [← hg3] at hb
  try rw [show w2.heap.size + 1 + 1 = g3 from by rw [hg3]; have := HZA.out; omega]
  try rw [← hg3]
  refine st_l 24 (.tmp 3) (.tmp 20) g3 0 24 _ #[.int .i64 0, .slice none 0 0] _ rfl rfl hb (by kernel_rfl) (by simp) rfl rfl ?_
  intro W3 hW3 o3
  simp only [Act.put]
  have D3 := Lib.hid hW3
  have Y3 : Hid (Ext w2 W3) := Lib.hid (XA.out.trans (ext_off ((Ext.refl wA).alloc _) o3 (fun b hb => by omega)))
  have O3 : Hid (Ow W3 w2.heap.size (.slice (some ⟨w2.heap.size, 0, none⟩) 0 0) ([] : List Int)) := Lib.hid (owU (OA.out.alloc _) (fun b hb => o3.block b ((OA.out.alloc _).low b hb).2 (by simp [Value.ownBlock] at hb; have := HZA.out; omega)))
  have E3 : Hid (Ow W3 w2.heap.size (.slice (some ⟨w2.heap.size + 1, 0, none⟩) 0 0) ([] : List Int)) := Lib.hid (owU (EA.out.alloc _) (fun b hb => o3.block b ((EA.out.alloc _).low b hb).2 (by simp [Value.ownBlock] at hb; have := HZA.out; omega)))
  have DI3 : Hid ((∀ b, (Value.slice (some ⟨w2.heap.size, 0, none⟩) 0 0).ownBlock = some b → b ≠ g3 ∧ (Value.slice (some ⟨w2.heap.size + 1, 0, none⟩) 0 0).ownBlock ≠ some b) ∧ (∀ b, (Value.slice (some ⟨w2.heap.size + 1, 0, none⟩) 0 0).ownBlock = some b → b ≠ g3)) := Lib.hid (by
    have := HZA.out
    simp only [Value.ownBlock, Option.some.injEq, ne_eq]
    exact ⟨fun b hb => ⟨by omega, by omega⟩, fun b hb => by omega⟩)
  have G3 : Hid (w2.heap.size ≤ g3) := Lib.hid (by have := HZA.out; omega)
  clear hW3 o3 hb hg3
  go_wp2
  go_loopw [4, 5, 6] (fun l4 l5 i wr => ∃ k : Nat, k ≤ L.length ∧ i = .int .i64 k ∧ ∃ n M qa qn qc oa om oc ea em ec op en, l4 = .slice oa om oc ∧ l5 = .slice ea em ec ∧ Hid (wr.heap[g3]? = some (.cells #[.int .i64 n, .slice qa qn qc] 24 (0, 0))) ∧ Hid (Ns HV (fun b => b = g3 ∨ (Value.slice oa om oc).ownBlock = some b ∨ (Value.slice ea em ec).ownBlock = some b) wr (.slice qa qn qc) M) ∧ Hid (Ow wr w2.heap.size (.slice oa om oc) op) ∧ Hid (Ow wr w2.heap.size (.slice ea em ec) en) ∧ Hid ((∀ b, (Value.slice oa om oc).ownBlock = some b → b ≠ g3 ∧ (Value.slice ea em ec).ownBlock ≠ some b) ∧ (∀ b, (Value.slice ea em ec).ownBlock = some b → b ≠ g3)) ∧ Hid (EndsH (n, M) op en) ∧ Hid (op.length ≤ k ∧ en.length ≤ k) ∧ Hid (Ext w2 wr)) (fun _ _ i _ => L.length - (intOf i).toNat)
  case atStart => exact ⟨0, Nat.zero_le _, rfl, 0, [], _, _, _, _, _, _, _, _, _, [], [], rfl, rfl, D3, Lib.hid (Ns.nil _ _), O3, E3, DI3, Lib.hid EndsH.no, Lib.hid ⟨Nat.le_refl _, Nat.le_refl _⟩, Y3⟩
  case round =>
    obtain ⟨k, hk, rfl, n, M, qa, qn, qc, oa, om, oc, ea, em, ec, op, en, rfl, rfl, DR, NR, OW, EW, DI, ER, LE, XR⟩ := hrel
    by_cases hlt : k < L.length
    · obtain ⟨b1, off, so, sc, y, hyk, rfl, hn, hnc, hc63, hb, hsn, hcs⟩ := HS.out.actAt hlt
      have XW : Hid (Ext w wr) := Lib.hid (X2.out.trans XR.out)
      obtain ⟨⟨x0, x1⟩, x2, x3⟩ := hcs wr XW.out
      have HSN := Lib.hid (hsn.sl.ext XW.out)
      have hNl : y.2.2.2.length ≤ 1000 := Nat.le_trans (HFY.out.2 y (List.mem_of_getElem? hyk)) (by decide)
      clear hcs hyk hn hsn
      obtain ⟨yk, sid, mm, N⟩ := y
      dsimp only at x0 x1 x2 x3 HSN hNl
      obtain ⟨kk, hkk'⟩ : ∃ kk : Int, min (max yk 0) 5 = kk := ⟨_, rfl⟩
      have hkk : 0 ≤ kk ∧ kk ≤ 5 := by omega
      obtain ⟨⟨⟨q1, q2⟩, q4, q3⟩, hq⟩ : ∃ r, stepH (n, M) kk sid mm N = r := ⟨_, rfl⟩
      have HST := Lib.hid hq
      have HOKL : Hid (M.length ≤ 1000) := Lib.hid (Nat.le_trans ER.out.ok.few (by decide))
      have HOKS : Hid (∀ s ∈ M, s.need.length ≤ 1000) := Lib.hid (ok_need ER.out.ok)
      have hLk : k ≤ 60 := by have := HFY.out.1; omega
      clear hq
      obtain ⟨W7, hW7⟩ : ∃ q, q = wr.alloc (.cells #[.int .i64 yk, .int .i64 sid, .int .i64 mm, .slice so N.length sc] 27) := ⟨_, rfl⟩
      have J7 : Hid (W7.heap[wr.heap.size]? = some (.cells #[.int .i64 yk, .int .i64 sid, .int .i64 mm, .slice so N.length sc] 27 (0, 0))) := Lib.hid (by rw [hW7]; exact at0 wr _)
      have Y7 : Hid (Ext wr W7) := Lib.hid (by rw [hW7]; exact (Ext.refl wr).alloc _)
      have HW7 := Lib.hid hW7
      clear hW7
      go_upto_region 8 with (fail)
      rw [← HW7.out]
      clear x0 x1 x2 x3
      have i0 := blk_cell J7.out 0 rfl
      have f0 := blk_free J7.out 0
      have hmk : min (max yk 0) 5 = kk := hkk'
      go_upto_region 9 with (fail)
      clear hmk hkk'
      obtain ⟨W8, hW8⟩ : ∃ q, q = W7.setCell ⟨wr.heap.size, 0, none⟩ (.int .i64 kk) := ⟨_, rfl⟩
      have J8 : Hid (W8.heap[wr.heap.size]? = some (.cells #[.int .i64 kk, .int .i64 sid, .int .i64 mm, .slice so N.length sc] 27 (0, 0))) := Lib.hid (by rw [hW8, blk_set J7.out]; rfl)
      have Y8 : Hid (Ext wr W8) := Lib.hid (by rw [hW8]; exact below_set Y7.out (Nat.le_refl _) _)
      rw [← hW8]
      clear hW8 i0 f0
      have HNN := Lib.hid (HSN.out.ext Y8.out)
      have HB : Hid (∀ V, Ext W8 V → V.cell? ⟨g3, 0, none⟩ = some (.int .i64 n) ∧ V.cell? ⟨g3, 1, none⟩ = some (.slice qa qn qc)) := Lib.hid fun V hV => ⟨blk_cell (keepU DR.out (Y8.out.trans hV)) 0 rfl, blk_cell (keepU DR.out (Y8.out.trans hV)) 1 rfl⟩
      have HAC : Hid (∀ V, Ext W8 V → (V.cell? ⟨wr.heap.size, 0, none⟩ = some (.int .i64 kk) ∧ V.cell? ⟨wr.heap.size, 1, none⟩ = some (.int .i64 sid)) ∧ V.cell? ⟨wr.heap.size, 2, none⟩ = some (.int .i64 mm) ∧ V.cell? ⟨wr.heap.size, 3, none⟩ = some (.slice so N.length sc)) := Lib.hid fun V hV => ⟨⟨blk_cell (keepU J8.out hV) 0 rfl, blk_cell (keepU J8.out hV) 1 rfl⟩, blk_cell (keepU J8.out hV) 2 rfl, blk_cell (keepU J8.out hV) 3 rfl⟩
      have g3LT : g3 < W8.heap.size := blk_lt (keepU DR.out Y8.out)
      have g3LR : g3 < wr.heap.size := blk_lt DR.out
      obtain ⟨FX, hFX⟩ : ∃ F : Nat → Prop, F = fun b => b = g3 ∨ (Value.slice oa om oc).ownBlock = some b ∨ (Value.slice ea em ec).ownBlock = some b := ⟨_, rfl⟩
      have HFX := Lib.hid hFX
      rw [← hFX] at NR
      have NB := Lib.hid (NR.out.ext Y8.out)
      have HFL : Hid (∀ b, FX b → b < W8.heap.size) := Lib.hid fun b hb => by
        rw [hFX] at hb
        have := Below.size Y8.out
        rcases hb with hb | hb | hb
        · omega
        · have := (OW.out.low b hb).2; omega
        · have := (EW.out.low b hb).2; omega
      clear hFX
      go_cut [8, 9, 10] (fun s7 s8 s9 wx => ∃ gx a2 m2 c2 b2 i2 j2, s7 = .pointer (some ⟨gx, 0, none⟩) ∧ s8 = .slice b2 i2 j2 ∧ s9 = .int .i64 q3 ∧ Hid (Ext W8 wx ∧ wx.heap[gx]? = some (.cells #[.int .i64 q1, .slice a2 m2 c2] 24 (0, 0)) ∧ Ns HV FX wx (.slice a2 m2 c2) q2 ∧ Sa FX wx (.slice b2 i2 j2) q4))
      case first =>
        (refine wp_region_X_lit (K := fun V => Ext W8 V) (by kernel_rfl) (fun w1 hw1 => ?_))
        have Y1 : Hid (Ext W8 w1) := Lib.hid hw1
        clear hw1
        refine xtv 0 (hv := by intro w' hw'; obtain ⟨c0, c1⟩ := HB.out w' hw'; go_simp; first | done | with_reducible rfl) (h := ?_)
        refine xtv 2 (hv := by intro w' hw'; obtain ⟨⟨c0, c1⟩, c2, c3⟩ := HAC.out w' hw'; go_simp; first | done | with_reducible rfl) (h := ?_)
        refine xtwo 1 8 (hk := Y1.out) (h := RunX.of 1 (h := ?_)) (h' := RunX.of 8 (h := ?_))
        · go_simp
          refine (ownBk_any FX w1 n _ M (NB.out.ext Y1.out) HOKL.out HOKS.out (fun b hb => by have := Below.size Y1.out; have := HFL.out b hb; omega)).mono ?_
          rintro e2 w2 ⟨a1, m1, c1, rfl, n2, x2⟩
          have O2 := Lib.hid n2
          have Y2 : Hid (Ext W8 w2) := Lib.hid (Y1.out.trans x2)
          have Z2 : Hid (Ext w1 w2) := Lib.hid x2
          clear n2 x2
          dsimp only
          (try (simp only [Act.put, List.setIfInBounds_toArray, List.set]))
          refine xtwo 3 8 (hk := Y2.out) (h := RunX.of 3 (h := ?_)) (h' := RunX.of 8 (h := ?_))
          · go_simp
            refine (HST.out ▸ act_any FX w2 n kk sid mm _ _ M N O2.out (HNN.out.ext Y2.out) HOKL.out hNl (fun b hb => by have := Below.size Y2.out; have := HFL.out b hb; omega) hkk).mono ?_
            rintro e3 w3 ⟨a2, m2, c2, b2, i2, j2, rfl, n3, s3, x3⟩
            dsimp only at n3 s3 ⊢
            have N3 := Lib.hid n3
            have S3 := Lib.hid s3
            have Y3 : Hid (Ext W8 w3) := Lib.hid (Y2.out.trans x3)
            have Z3 : Hid (Ext w2 w3) := Lib.hid x3
            clear n3 s3 x3
            (try (simp only [Act.put, List.setIfInBounds_toArray, List.set]))
            refine xtv 4 (h := ?_)
            refine xtv 5 (h := ?_)
            refine xtv 6 (h := ?_)
            refine xtv 7 (h := ?_)
            refine xone 8 (hk := Y3.out) (h := RunX.of 8 (h := ?_))
            go_simp
            (try (simp only [Act.put, List.setIfInBounds_toArray, List.set]))
            obtain ⟨w4, hw4⟩ : ∃ q, q = w3.alloc (.cells #[.int .i64 0, .slice none 0 0] 24) := ⟨_, rfl⟩
            obtain ⟨gx, hgx⟩ : ∃ g, g = w3.heap.size := ⟨_, rfl⟩
            have D4 : Hid (w4.heap[gx]? = some (.cells #[.int .i64 0, .slice none 0 0] 24 (0, 0))) := Lib.hid (hw4 ▸ hgx ▸ at0 w3 _)
            have hgw : W8.heap.size ≤ gx := by have := Below.size Y3.out; omega
            have Y4 : Hid (Ext W8 w4) := Lib.hid (hw4 ▸ Y3.out.alloc _)
            have Z4 : Hid (Ext w3 w4) := Lib.hid (hw4 ▸ (Ext.refl _).alloc _)
            skip
            have NG4 : Hid (Ns HV (fun b => FX b ∨ b = gx) w4 (.slice a2 m2 c2) q2 ∧ Sa (fun b => FX b ∨ b = gx) w4 (.slice b2 i2 j2) q4) := Lib.hid ⟨(N3.out.grow (G := (fun b => FX b ∨ b = gx)) (fun b hb => hb.imp (fun q => q) (fun e => by omega))).ext Z4.out, S3.out.off (Off.of_ext Z4.out) (fun b hb => hb.imp (fun q => q) (fun e => by omega))⟩
            rw [← hw4, ← hgx]
            clear hw4 hgx
            refine xone 9 (hk := Y4.out) (h := RunX.of 9 (h := ?_))
            refine wp_st 24 (.tmp 8) (.tmp 43) rfl gx 0 24 #[.int .i64 0, .slice none 0 0] #[.int .i64 q1, .slice a2 m2 c2] _ rfl rfl D4.out (by kernel_rfl) (by simp) rfl rfl ?_
            intro WB hWB oB
            simp only [Act.put]
            have YB : Hid (Ext W8 WB) := Lib.hid (ext_off Y4.out oB (fun b hb => by omega))
            have CB : Hid (Ext W8 WB ∧ WB.heap[gx]? = some (.cells #[.int .i64 q1, .slice a2 m2 c2] 24 (0, 0)) ∧ Ns HV FX WB (.slice a2 m2 c2) q2 ∧ Sa FX WB (.slice b2 i2 j2) q4) := Lib.hid ⟨YB.out, hWB, ns_less (NG4.out.1.off (oB.mono (fun b hb => .inr hb)) (Grows.refl _ _)) (fun b hb => .inl hb), (NG4.out.2.off (oB.mono (fun b hb => .inr hb)) (Grows.refl _ _)).off (Off.refl _ _) (fun b hb => .inl (.inl hb))⟩
            clear hWB oB
            refine xtv 10 (h := ?_)
            refine xtv 11 (h := ?_)
            (refine xdone (by kernel_rfl) (YB.out) ?_)
            go_wp2_with fail
            go_meet
            exact ⟨gx, a2, m2, c2, b2, i2, j2, rfl, rfl, rfl, CB⟩
          · go_simp
            (try (simp only [Act.put, List.setIfInBounds_toArray, List.set]))
            obtain ⟨w5, hw5⟩ : ∃ q, q = w2.alloc (.cells #[.int .i64 0, .slice none 0 0] 24) := ⟨_, rfl⟩
            obtain ⟨gx, hgx⟩ : ∃ g, g = w2.heap.size := ⟨_, rfl⟩
            have D5 : Hid (w5.heap[gx]? = some (.cells #[.int .i64 0, .slice none 0 0] 24 (0, 0))) := Lib.hid (hw5 ▸ hgx ▸ at0 w2 _)
            have hgw : W8.heap.size ≤ gx := by have := Below.size Y2.out; omega
            have Y5 : Hid (Ext W8 w5) := Lib.hid (hw5 ▸ Y2.out.alloc _)
            have Z5 : Hid (Ext w2 w5) := Lib.hid (hw5 ▸ (Ext.refl _).alloc _)
            have OG5 : Hid (Ns HV (fun b => FX b ∨ b = gx) w5 (.slice a1 m1 c1) M) := Lib.hid ((O2.out.grow (G := (fun b => FX b ∨ b = gx)) (fun b hb => hb.imp (fun q => q) (fun e => by omega))).ext Z5.out)
            skip
            rw [← hw5, ← hgx]
            clear hw5 hgx
            refine xone 3 (hk := Y5.out) (h := RunX.of 3 (h := ?_))
            go_simp
            refine (HST.out ▸ act_any (fun b => FX b ∨ b = gx) w5 n kk sid mm _ _ M N OG5.out (HNN.out.ext Y5.out) HOKL.out hNl (fun b hb => by have := Below.size Y5.out; rcases hb with hb | hb; (have := HFL.out b hb; omega); (have := blk_lt D5.out; omega)) hkk).mono ?_
            rintro e6 w6 ⟨a2, m2, c2, b2, i2, j2, rfl, n6, s6, x6⟩
            dsimp only at n6 s6 ⊢
            have N6 := Lib.hid n6
            have S6 := Lib.hid s6
            have Y6 : Hid (Ext W8 w6) := Lib.hid (Y5.out.trans x6)
            have Z6 : Hid (Ext w5 w6) := Lib.hid x6
            clear n6 s6 x6
            (try (simp only [Act.put, List.setIfInBounds_toArray, List.set]))
            refine xtv 4 (h := ?_)
            refine xtv 5 (h := ?_)
            refine xtv 6 (h := ?_)
            refine xtv 7 (h := ?_)
            refine xone 9 (hk := Y6.out) (h := RunX.of 9 (h := ?_))
            refine wp_st 24 (.tmp 8) (.tmp 43) rfl gx 0 24 #[.int .i64 0, .slice none 0 0] #[.int .i64 q1, .slice a2 m2 c2] _ rfl rfl (keepU D5.out Z6.out) (by kernel_rfl) (by simp) rfl rfl ?_
            intro WB hWB oB
            simp only [Act.put]
            have YB : Hid (Ext W8 WB) := Lib.hid (ext_off Y6.out oB (fun b hb => by omega))
            have CB : Hid (Ext W8 WB ∧ WB.heap[gx]? = some (.cells #[.int .i64 q1, .slice a2 m2 c2] 24 (0, 0)) ∧ Ns HV FX WB (.slice a2 m2 c2) q2 ∧ Sa FX WB (.slice b2 i2 j2) q4) := Lib.hid ⟨YB.out, hWB, ns_less (N6.out.off (oB.mono (fun b hb => .inr hb)) (Grows.refl _ _)) (fun b hb => .inl hb), (S6.out.off (oB.mono (fun b hb => .inr hb)) (Grows.refl _ _)).off (Off.refl _ _) (fun b hb => .inl (.inl hb))⟩
            clear hWB oB
            refine xtv 10 (h := ?_)
            refine xtv 11 (h := ?_)
            (refine xdone (by kernel_rfl) (YB.out) ?_)
            go_wp2_with fail
            go_meet
            exact ⟨gx, a2, m2, c2, b2, i2, j2, rfl, rfl, rfl, CB⟩
        · go_simp
          (try (simp only [Act.put, List.setIfInBounds_toArray, List.set]))
          obtain ⟨w7, hw7⟩ : ∃ q, q = w1.alloc (.cells #[.int .i64 0, .slice none 0 0] 24) := ⟨_, rfl⟩
          obtain ⟨gx, hgx⟩ : ∃ g, g = w1.heap.size := ⟨_, rfl⟩
          have D7 : Hid (w7.heap[gx]? = some (.cells #[.int .i64 0, .slice none 0 0] 24 (0, 0))) := Lib.hid (hw7 ▸ hgx ▸ at0 w1 _)
          have hgw : W8.heap.size ≤ gx := by have := Below.size Y1.out; omega
          have Y7 : Hid (Ext W8 w7) := Lib.hid (hw7 ▸ Y1.out.alloc _)
          have Z7 : Hid (Ext w1 w7) := Lib.hid (hw7 ▸ (Ext.refl _).alloc _)
          skip
          skip
          rw [← hw7, ← hgx]
          clear hw7 hgx
          refine xone 1 (hk := Y7.out) (h := RunX.of 1 (h := ?_))
          go_simp
          refine (ownBk_any (fun b => FX b ∨ b = gx) w7 n _ M ((NB.out.grow (G := (fun b => FX b ∨ b = gx)) (fun b hb => hb.imp (fun q => q) (fun e => by omega))).ext Y7.out) HOKL.out HOKS.out (fun b hb => by have := Below.size Y7.out; rcases hb with hb | hb; (have := HFL.out b hb; omega); (have := blk_lt D7.out; omega))).mono ?_
          rintro e8 w8 ⟨a1, m1, c1, rfl, n8, x8⟩
          have O8 := Lib.hid n8
          have Y8 : Hid (Ext W8 w8) := Lib.hid (Y7.out.trans x8)
          have Z8 : Hid (Ext w7 w8) := Lib.hid x8
          clear n8 x8
          dsimp only
          (try (simp only [Act.put, List.setIfInBounds_toArray, List.set]))
          refine xone 3 (hk := Y8.out) (h := RunX.of 3 (h := ?_))
          go_simp
          refine (HST.out ▸ act_any (fun b => FX b ∨ b = gx) w8 n kk sid mm _ _ M N O8.out (HNN.out.ext Y8.out) HOKL.out hNl (fun b hb => by have := Below.size Y8.out; rcases hb with hb | hb; (have := HFL.out b hb; omega); (have := blk_lt (keepU D7.out Z8.out); omega)) hkk).mono ?_
          rintro e9 w9 ⟨a2, m2, c2, b2, i2, j2, rfl, n9, s9, x9⟩
          dsimp only at n9 s9 ⊢
          have N9 := Lib.hid n9
          have S9 := Lib.hid s9
          have Y9 : Hid (Ext W8 w9) := Lib.hid (Y8.out.trans x9)
          have Z9 : Hid (Ext w8 w9) := Lib.hid x9
          clear n9 s9 x9
          (try (simp only [Act.put, List.setIfInBounds_toArray, List.set]))
          refine xtv 4 (h := ?_)
          refine xtv 5 (h := ?_)
          refine xtv 6 (h := ?_)
          refine xtv 7 (h := ?_)
          refine xone 9 (hk := Y9.out) (h := RunX.of 9 (h := ?_))
          refine wp_st 24 (.tmp 8) (.tmp 43) rfl gx 0 24 #[.int .i64 0, .slice none 0 0] #[.int .i64 q1, .slice a2 m2 c2] _ rfl rfl (keepU (keepU D7.out Z8.out) Z9.out) (by kernel_rfl) (by simp) rfl rfl ?_
          intro WB hWB oB
          simp only [Act.put]
          have YB : Hid (Ext W8 WB) := Lib.hid (ext_off Y9.out oB (fun b hb => by omega))
          have CB : Hid (Ext W8 WB ∧ WB.heap[gx]? = some (.cells #[.int .i64 q1, .slice a2 m2 c2] 24 (0, 0)) ∧ Ns HV FX WB (.slice a2 m2 c2) q2 ∧ Sa FX WB (.slice b2 i2 j2) q4) := Lib.hid ⟨YB.out, hWB, ns_less (N9.out.off (oB.mono (fun b hb => .inr hb)) (Grows.refl _ _)) (fun b hb => .inl hb), (S9.out.off (oB.mono (fun b hb => .inr hb)) (Grows.refl _ _)).off (Off.refl _ _) (fun b hb => .inl (.inl hb))⟩
          clear hWB oB
          refine xtv 10 (h := ?_)
          refine xtv 11 (h := ?_)
          (refine xdone (by kernel_rfl) (YB.out) ?_)
          go_wp2_with fail
          go_meet
          exact ⟨gx, a2, m2, c2, b2, i2, j2, rfl, rfl, rfl, CB⟩
      case rest =>
        obtain ⟨gx, a2, m2, c2, b2, i2, j2, rfl, rfl, rfl, HCUT⟩ := hcut
        obtain ⟨x9, d9, n9, s9⟩ := HCUT.out
        have X9 := Lib.hid x9
        have N9 := Lib.hid n9
        have S9 := Lib.hid s9
        have d0 := blk_cell d9 0 rfl
        have d1 := blk_cell d9 1 rfl
        clear x9 d9 n9 s9 HCUT
        have XC : Hid (Ext w2 wc) := Lib.hid (XR.out.trans (Y8.out.trans X9.out))
        have YC : Hid (Ext wr wc) := Lib.hid (Y8.out.trans X9.out)
        have DC : Hid (wc.heap[g3]? = some (.cells #[.int .i64 n, .slice qa qn qc] 24 (0, 0))) := Lib.hid (keepU DR.out YC.out)
        have hFX := HFX.out
        subst hFX
        by_cases he : q3 = 0
        rotate_left
        · have hd : (q3 != 0) = true := by simpa using he
          have hno := stepH_no (b := (n, M)) (k := kk) (id := sid) (n := mm) (need := N) (by rw [HST.out]; exact he)
          rw [HST.out] at hno
          simp only [noH, Prod.mk.injEq] at hno
          obtain ⟨rfl, rfl⟩ := hno
          clear he HST
          go_wp2_with ((go_at_call 18; refine (refBkSame_any _ Non wc 0 0 _ _ [] [] N9.out (Ns.nil _ _) true (decide_eq_true rfl)).mono ?_; rintro e wE ⟨rfl, xE⟩; have XE : Hid (Ext wc wE) := Lib.hid xE; clear xE))
          go_roundw
          case rel => exact ⟨k + 1, by omega, by go_num, n, M, _, _, _, _, _, _, _, _, _, op, en, rfl, rfl, Lib.hid (keepU DC.out XE.out), Lib.hid (NR.out.ext (YC.out.trans XE.out)), Lib.hid (OW.out.ext (YC.out.trans XE.out)), Lib.hid (EW.out.ext (YC.out.trans XE.out)), DI, ER, Lib.hid ⟨by have := LE.out.1; omega, by have := LE.out.2; omega⟩, Lib.hid (XC.out.trans XE.out)⟩
          case measure => simp [intOf]; omega
        subst he
        have hst := ER.out.step (k := kk) (id := sid) (n := mm) (need := N) (by omega) (by rw [HST.out])
        rw [HST.out] at hst
        dsimp only at hst
        have HES := Lib.hid hst
        clear hst
        go_upto_region 14 with (first | refine haltst 24 ?_)
        refine .inl ?_
        refine st_l 24 (.tmp 3) (.tmp 52) g3 0 24 _ #[.int .i64 q1, .slice a2 m2 c2] _ rfl rfl DC.out (by kernel_rfl) (by simp) rfl rfl ?_
        intro WD hWD oD
        simp only [Act.put]
        have DD := Lib.hid hWD
        have oD' : Off (fun b => b = g3 ∨ (Value.slice oa om oc).ownBlock = some b ∨ (Value.slice ea em ec).ownBlock = some b) wc WD := oD.mono fun b hb => .inl hb
        have ND := Lib.hid (N9.out.off oD' (Grows.refl _ _))
        have SD := Lib.hid (S9.out.off oD' (Grows.refl _ _))
        have OD : Hid (Ow WD w2.heap.size (.slice oa om oc) op) := Lib.hid (owU (OW.out.ext YC.out) (fun b hb => oD.block b ((OW.out.ext YC.out).low b hb).2 (DI.out.1 b hb).1))
        have ED : Hid (Ow WD w2.heap.size (.slice ea em ec) en) := Lib.hid (owU (EW.out.ext YC.out) (fun b hb => oD.block b ((EW.out.ext YC.out).low b hb).2 (DI.out.2 b hb)))
        have JD : Hid (WD.heap[wr.heap.size]? = some (.cells #[.int .i64 kk, .int .i64 sid, .int .i64 mm, .slice so N.length sc] 27 (0, 0))) := Lib.hid (oD.blk (keepU J8.out X9.out) (by omega))
        have XD : Hid (Ext w2 WD) := Lib.hid (ext_off XC.out oD (fun b hb => by have := G3.out; omega))
        clear hWD oD oD' d0 d1
        have i0 := blk_cell JD.out 0 rfl
        have i1 := blk_cell JD.out 1 rfl
        have hol : op.length ≤ 100 := by have := LE.out.1; omega
        have hel : en.length ≤ 100 := by have := LE.out.2; omega
        have hz2 : w2.heap.size ≤ WD.heap.size := Below.size XD.out
        have g3LD : g3 < WD.heap.size := blk_lt DD.out
        rcases (show kk = 0 ∨ kk = 1 ∨ kk = 2 ∨ kk = 3 ∨ kk = 4 ∨ kk = 5 by omega) with hk6 | hk6 | hk6 | hk6 | hk6 | hk6
        · subst hk6
          have HES2 : Hid (EndsH (q1, q2) (op ++ [sid]) (en)) := Lib.hid (by simpa [opendH, endedH] using HES.out)
          have HLE : Hid ((op ++ [sid]).length ≤ k + 1 ∧ (en).length ≤ k + 1) := Lib.hid (by
            have h1 := HES2.out.len
            have h2 := LE.out.1
            dsimp only at h1
            have h3 : (op ++ [sid]).length ≤ k + 1 := by rw [List.length_append]; simp only [List.length_cons, List.length_nil]; omega
            exact ⟨h3, by omega⟩)
          clear HES
          go_wp2_with (first
            | (at_builtin; refine wpList_append_sl (α := Int) rfl (.tmp 57) (.tmp 60) rfl w2.heap.size _ op rfl ?_ (.slice (some ⟨_, 0, none⟩) 1 1) [sid] rfl ?_ ?_ ?_ ?_; exact (OD.out.ext ((Ext.refl WD).alloc (.cells #[.int .i64 sid] 3))); exact (Sl.litAt WD _ rfl [(sid : Int)] (show (1 : Nat) ≤ 1000000 by decide)); (first | omega | (simp; omega)); exact (by rw [size_alloc]; omega); intro v7 W7 ho7 ha7; obtain ⟨a7, n7, c7, rfl⟩ := ho7.sh; have hq7 := ha7.block; have og := off_grown ha7.grown; have O7 : Hid (Ow W7 w2.heap.size (.slice a7 n7 c7) (op ++ [sid])) := Lib.hid ho7; have D7 : Hid (W7.heap[g3]? = some (.cells #[.int .i64 q1, .slice a2 m2 c2] 24 (0, 0))) := Lib.hid (og.blk (keepU DD.out ((Ext.refl WD).alloc (.cells #[.int .i64 sid] 3))) (fun e => (DI.out.1 g3 e).1 rfl)); have N7 : Hid (Ns HV (fun b => b = g3 ∨ (Value.slice a7 n7 c7).ownBlock = some b ∨ (Value.slice ea em ec).ownBlock = some b) W7 (.slice a2 m2 c2) q2) := Lib.hid ((ND.out.ext ((Ext.refl WD).alloc (.cells #[.int .i64 sid] 3))).off (og.mono (fun b hb => .inr (.inl hb))) (fun b hb => by rcases hb with hb | hb | hb; (exact .inl (.inl hb)); (rcases hq7 with q | q; (exact .inl (.inr (.inl (q.symm.trans hb)))); (exact .inr (q b hb))); (exact .inl (.inr (.inr hb))))); have E7 : Hid (Ow W7 w2.heap.size (.slice ea em ec) en) := Lib.hid (owU (ED.out.ext ((Ext.refl WD).alloc (.cells #[.int .i64 sid] 3))) (fun b hb => og.block b ((ED.out.ext ((Ext.refl WD).alloc (.cells #[.int .i64 sid] 3))).low b hb).2 (fun e => (DI.out.1 b e).2 hb))); have I7 : Hid ((∀ b, (Value.slice a7 n7 c7).ownBlock = some b → b ≠ g3 ∧ (Value.slice ea em ec).ownBlock ≠ some b) ∧ (∀ b, (Value.slice ea em ec).ownBlock = some b → b ≠ g3)) := Lib.hid ⟨fun b hb => by rcases hq7 with q | q; (exact DI.out.1 b (q.symm.trans hb)); (have h1 := q b hb; have h2 := Below.size ((Ext.refl WD).alloc (.cells #[.int .i64 sid] 3)); exact ⟨by omega, fun e => by have := (ED.out.low b e).2; omega⟩), DI.out.2⟩; have X7 : Hid (Ext w2 W7) := Lib.hid (Below.trans (XD.out.trans ((Ext.refl WD).alloc (.cells #[.int .i64 sid] 3))) ha7.below); clear ho7 ha7 hq7 og))
          go_roundw
          case rel => exact ⟨k + 1, by omega, by go_num, q1, q2, _, _, _, _, _, _, _, _, _, op ++ [sid], en, rfl, rfl, D7, N7, O7, E7, I7, HES2, HLE, X7⟩
          case measure => simp [intOf]; omega
        · subst hk6
          have HES2 : Hid (EndsH (q1, q2) (op) (en)) := Lib.hid (by simpa [opendH, endedH] using HES.out)
          have HLE : Hid ((op).length ≤ k + 1 ∧ (en).length ≤ k + 1) := Lib.hid (by
            have h1 := HES2.out.len
            have h2 := LE.out.1
            dsimp only at h1
            have h3 : (op).length ≤ k + 1 := by omega
            exact ⟨h3, by omega⟩)
          clear HES
          go_wp2
          go_roundw
          case rel => exact ⟨k + 1, by omega, by go_num, q1, q2, _, _, _, _, _, _, _, _, _, op, en, rfl, rfl, DD, ND, OD, ED, DI, HES2, HLE, XD⟩
          case measure => simp [intOf]; omega
        · subst hk6
          have HES2 : Hid (EndsH (q1, q2) (op) (en ++ [sid])) := Lib.hid (by simpa [opendH, endedH] using HES.out)
          have HLE : Hid ((op).length ≤ k + 1 ∧ (en ++ [sid]).length ≤ k + 1) := Lib.hid (by
            have h1 := HES2.out.len
            have h2 := LE.out.1
            dsimp only at h1
            have h3 : (op).length ≤ k + 1 := by omega
            exact ⟨h3, by omega⟩)
          clear HES
          go_wp2_with (first
            | (at_builtin; refine wpList_append_sl (α := Int) rfl (.tmp 65) (.tmp 68) rfl w2.heap.size _ en rfl ?_ (.slice (some ⟨_, 0, none⟩) 1 1) [sid] rfl ?_ ?_ ?_ ?_; exact (ED.out.ext ((Ext.refl WD).alloc (.cells #[.int .i64 sid] 3))); exact (Sl.litAt WD _ rfl [(sid : Int)] (show (1 : Nat) ≤ 1000000 by decide)); (first | omega | (simp; omega)); exact (by rw [size_alloc]; omega); intro v7 W7 ho7 ha7; obtain ⟨a7, n7, c7, rfl⟩ := ho7.sh; have hq7 := ha7.block; have og := off_grown ha7.grown; have E7 : Hid (Ow W7 w2.heap.size (.slice a7 n7 c7) (en ++ [sid])) := Lib.hid ho7; have D7 : Hid (W7.heap[g3]? = some (.cells #[.int .i64 q1, .slice a2 m2 c2] 24 (0, 0))) := Lib.hid (og.blk (keepU DD.out ((Ext.refl WD).alloc (.cells #[.int .i64 sid] 3))) (fun e => DI.out.2 g3 e rfl)); have N7 : Hid (Ns HV (fun b => b = g3 ∨ (Value.slice oa om oc).ownBlock = some b ∨ (Value.slice a7 n7 c7).ownBlock = some b) W7 (.slice a2 m2 c2) q2) := Lib.hid ((ND.out.ext ((Ext.refl WD).alloc (.cells #[.int .i64 sid] 3))).off (og.mono (fun b hb => .inr (.inr hb))) (fun b hb => by rcases hb with hb | hb | hb; (exact .inl (.inl hb)); (exact .inl (.inr (.inl hb))); (rcases hq7 with q | q; (exact .inl (.inr (.inr (q.symm.trans hb)))); (exact .inr (q b hb))))); have O7 : Hid (Ow W7 w2.heap.size (.slice oa om oc) op) := Lib.hid (owU (OD.out.ext ((Ext.refl WD).alloc (.cells #[.int .i64 sid] 3))) (fun b hb => og.block b ((OD.out.ext ((Ext.refl WD).alloc (.cells #[.int .i64 sid] 3))).low b hb).2 (fun e => (DI.out.1 b hb).2 e))); have I7 : Hid ((∀ b, (Value.slice oa om oc).ownBlock = some b → b ≠ g3 ∧ (Value.slice a7 n7 c7).ownBlock ≠ some b) ∧ (∀ b, (Value.slice a7 n7 c7).ownBlock = some b → b ≠ g3)) := Lib.hid ⟨fun b hb => ⟨(DI.out.1 b hb).1, fun e => by rcases hq7 with q | q; (exact (DI.out.1 b hb).2 (q.symm.trans e)); (have h1 := q b e; have h2 := Below.size ((Ext.refl WD).alloc (.cells #[.int .i64 sid] 3)); have := (OD.out.low b hb).2; omega)⟩, fun b hb => by rcases hq7 with q | q; (exact DI.out.2 b (q.symm.trans hb)); (have h1 := q b hb; have h2 := Below.size ((Ext.refl WD).alloc (.cells #[.int .i64 sid] 3)); omega)⟩; have X7 : Hid (Ext w2 W7) := Lib.hid (Below.trans (XD.out.trans ((Ext.refl WD).alloc (.cells #[.int .i64 sid] 3))) ha7.below); clear ho7 ha7 hq7 og))
          go_roundw
          case rel => exact ⟨k + 1, by omega, by go_num, q1, q2, _, _, _, _, _, _, _, _, _, op, en ++ [sid], rfl, rfl, D7, N7, O7, E7, I7, HES2, HLE, X7⟩
          case measure => simp [intOf]; omega
        · subst hk6
          have HES2 : Hid (EndsH (q1, q2) (op) (en ++ [sid])) := Lib.hid (by simpa [opendH, endedH] using HES.out)
          have HLE : Hid ((op).length ≤ k + 1 ∧ (en ++ [sid]).length ≤ k + 1) := Lib.hid (by
            have h1 := HES2.out.len
            have h2 := LE.out.1
            dsimp only at h1
            have h3 : (op).length ≤ k + 1 := by omega
            exact ⟨h3, by omega⟩)
          clear HES
          go_wp2_with (first
            | (at_builtin; refine wpList_append_sl (α := Int) rfl (.tmp 65) (.tmp 68) rfl w2.heap.size _ en rfl ?_ (.slice (some ⟨_, 0, none⟩) 1 1) [sid] rfl ?_ ?_ ?_ ?_; exact (ED.out.ext ((Ext.refl WD).alloc (.cells #[.int .i64 sid] 3))); exact (Sl.litAt WD _ rfl [(sid : Int)] (show (1 : Nat) ≤ 1000000 by decide)); (first | omega | (simp; omega)); exact (by rw [size_alloc]; omega); intro v7 W7 ho7 ha7; obtain ⟨a7, n7, c7, rfl⟩ := ho7.sh; have hq7 := ha7.block; have og := off_grown ha7.grown; have E7 : Hid (Ow W7 w2.heap.size (.slice a7 n7 c7) (en ++ [sid])) := Lib.hid ho7; have D7 : Hid (W7.heap[g3]? = some (.cells #[.int .i64 q1, .slice a2 m2 c2] 24 (0, 0))) := Lib.hid (og.blk (keepU DD.out ((Ext.refl WD).alloc (.cells #[.int .i64 sid] 3))) (fun e => DI.out.2 g3 e rfl)); have N7 : Hid (Ns HV (fun b => b = g3 ∨ (Value.slice oa om oc).ownBlock = some b ∨ (Value.slice a7 n7 c7).ownBlock = some b) W7 (.slice a2 m2 c2) q2) := Lib.hid ((ND.out.ext ((Ext.refl WD).alloc (.cells #[.int .i64 sid] 3))).off (og.mono (fun b hb => .inr (.inr hb))) (fun b hb => by rcases hb with hb | hb | hb; (exact .inl (.inl hb)); (exact .inl (.inr (.inl hb))); (rcases hq7 with q | q; (exact .inl (.inr (.inr (q.symm.trans hb)))); (exact .inr (q b hb))))); have O7 : Hid (Ow W7 w2.heap.size (.slice oa om oc) op) := Lib.hid (owU (OD.out.ext ((Ext.refl WD).alloc (.cells #[.int .i64 sid] 3))) (fun b hb => og.block b ((OD.out.ext ((Ext.refl WD).alloc (.cells #[.int .i64 sid] 3))).low b hb).2 (fun e => (DI.out.1 b hb).2 e))); have I7 : Hid ((∀ b, (Value.slice oa om oc).ownBlock = some b → b ≠ g3 ∧ (Value.slice a7 n7 c7).ownBlock ≠ some b) ∧ (∀ b, (Value.slice a7 n7 c7).ownBlock = some b → b ≠ g3)) := Lib.hid ⟨fun b hb => ⟨(DI.out.1 b hb).1, fun e => by rcases hq7 with q | q; (exact (DI.out.1 b hb).2 (q.symm.trans e)); (have h1 := q b e; have h2 := Below.size ((Ext.refl WD).alloc (.cells #[.int .i64 sid] 3)); have := (OD.out.low b hb).2; omega)⟩, fun b hb => by rcases hq7 with q | q; (exact DI.out.2 b (q.symm.trans hb)); (have h1 := q b hb; have h2 := Below.size ((Ext.refl WD).alloc (.cells #[.int .i64 sid] 3)); omega)⟩; have X7 : Hid (Ext w2 W7) := Lib.hid (Below.trans (XD.out.trans ((Ext.refl WD).alloc (.cells #[.int .i64 sid] 3))) ha7.below); clear ho7 ha7 hq7 og))
          go_roundw
          case rel => exact ⟨k + 1, by omega, by go_num, q1, q2, _, _, _, _, _, _, _, _, _, op, en ++ [sid], rfl, rfl, D7, N7, O7, E7, I7, HES2, HLE, X7⟩
          case measure => simp [intOf]; omega
        · obtain ⟨x, hx⟩ : ∃ x, q4 = [x] := ⟨_, by have := HST.out; rw [hk6] at this; simp [stepH] at this; exact this.2.1.symm⟩
          subst hx
          rcases SD.out.sl.ints with ⟨e, _⟩ | ⟨bi, offi, ci, hv, _, _, hbi, _, hcell⟩
          · cases e
          simp only [Value.slice.injEq] at hv
          obtain ⟨rfl, rfl, rfl⟩ := hv
          have y0 : WD.cell? ⟨bi, offi, none⟩ = some (.int .i64 x) := hcell 0 (by simp)
          clear hcell
          by_cases hx0 : x = 0
          · have hd : (x != 0) = false := by simp [hx0]
            subst hk6
            have HES2 : Hid (EndsH (q1, q2) (op) (en)) := Lib.hid (by have := HES.out; simp [opendH, endedH, hx0] at this; exact this)
            have HLE : Hid ((op).length ≤ k + 1 ∧ (en).length ≤ k + 1) := Lib.hid (by
              have h1 := HES2.out.len
              have h2 := LE.out.1
              dsimp only at h1
              have h3 : (op).length ≤ k + 1 := by omega
              exact ⟨h3, by omega⟩)
            clear HES
            clear hx0
            go_wp2
            go_roundw
            case rel => exact ⟨k + 1, by omega, by go_num, q1, q2, _, _, _, _, _, _, _, _, _, op, en, rfl, rfl, DD, ND, OD, ED, DI, HES2, HLE, XD⟩
            case measure => simp [intOf]; omega
          · have hd : (x != 0) = true := by simpa using hx0
            subst hk6
            have HES2 : Hid (EndsH (q1, q2) (op) (en ++ [x])) := Lib.hid (by have := HES.out; simp [opendH, endedH, hx0] at this; exact this)
            have HLE : Hid ((op).length ≤ k + 1 ∧ (en ++ [x]).length ≤ k + 1) := Lib.hid (by
              have h1 := HES2.out.len
              have h2 := LE.out.1
              dsimp only at h1
              have h3 : (op).length ≤ k + 1 := by omega
              exact ⟨h3, by omega⟩)
            clear HES
            clear hx0
            go_wp2_with (first
              | (at_builtin; refine wpList_append_sl (α := Int) rfl (.tmp 76) (.tmp 80) rfl w2.heap.size _ en rfl ?_ (.slice (some ⟨_, 0, none⟩) 1 1) [x] rfl ?_ ?_ ?_ ?_; exact (ED.out.ext ((Ext.refl WD).alloc (.cells #[.int .i64 x] 3))); exact (Sl.litAt WD _ rfl [(x : Int)] (show (1 : Nat) ≤ 1000000 by decide)); (first | omega | (simp; omega)); exact (by rw [size_alloc]; omega); intro v7 W7 ho7 ha7; obtain ⟨a7, n7, c7, rfl⟩ := ho7.sh; have hq7 := ha7.block; have og := off_grown ha7.grown; have E7 : Hid (Ow W7 w2.heap.size (.slice a7 n7 c7) (en ++ [x])) := Lib.hid ho7; have D7 : Hid (W7.heap[g3]? = some (.cells #[.int .i64 q1, .slice a2 m2 c2] 24 (0, 0))) := Lib.hid (og.blk (keepU DD.out ((Ext.refl WD).alloc (.cells #[.int .i64 x] 3))) (fun e => DI.out.2 g3 e rfl)); have N7 : Hid (Ns HV (fun b => b = g3 ∨ (Value.slice oa om oc).ownBlock = some b ∨ (Value.slice a7 n7 c7).ownBlock = some b) W7 (.slice a2 m2 c2) q2) := Lib.hid ((ND.out.ext ((Ext.refl WD).alloc (.cells #[.int .i64 x] 3))).off (og.mono (fun b hb => .inr (.inr hb))) (fun b hb => by rcases hb with hb | hb | hb; (exact .inl (.inl hb)); (exact .inl (.inr (.inl hb))); (rcases hq7 with q | q; (exact .inl (.inr (.inr (q.symm.trans hb)))); (exact .inr (q b hb))))); have O7 : Hid (Ow W7 w2.heap.size (.slice oa om oc) op) := Lib.hid (owU (OD.out.ext ((Ext.refl WD).alloc (.cells #[.int .i64 x] 3))) (fun b hb => og.block b ((OD.out.ext ((Ext.refl WD).alloc (.cells #[.int .i64 x] 3))).low b hb).2 (fun e => (DI.out.1 b hb).2 e))); have I7 : Hid ((∀ b, (Value.slice oa om oc).ownBlock = some b → b ≠ g3 ∧ (Value.slice a7 n7 c7).ownBlock ≠ some b) ∧ (∀ b, (Value.slice a7 n7 c7).ownBlock = some b → b ≠ g3)) := Lib.hid ⟨fun b hb => ⟨(DI.out.1 b hb).1, fun e => by rcases hq7 with q | q; (exact (DI.out.1 b hb).2 (q.symm.trans e)); (have h1 := q b e; have h2 := Below.size ((Ext.refl WD).alloc (.cells #[.int .i64 x] 3)); have := (OD.out.low b hb).2; omega)⟩, fun b hb => by rcases hq7 with q | q; (exact DI.out.2 b (q.symm.trans hb)); (have h1 := q b hb; have h2 := Below.size ((Ext.refl WD).alloc (.cells #[.int .i64 x] 3)); omega)⟩; have X7 : Hid (Ext w2 W7) := Lib.hid (Below.trans (XD.out.trans ((Ext.refl WD).alloc (.cells #[.int .i64 x] 3))) ha7.below); clear ho7 ha7 hq7 og))
            go_roundw
            case rel => exact ⟨k + 1, by omega, by go_num, q1, q2, _, _, _, _, _, _, _, _, _, op, en ++ [x], rfl, rfl, D7, N7, O7, E7, I7, HES2, HLE, X7⟩
            case measure => simp [intOf]; omega
        · subst hk6
          have HES2 : Hid (EndsH (q1, q2) (op) (en ++ q4)) := Lib.hid (by simpa [opendH, endedH] using HES.out)
          have HLE : Hid ((op).length ≤ k + 1 ∧ (en ++ q4).length ≤ k + 1) := Lib.hid (by
            have h1 := HES2.out.len
            have h2 := LE.out.1
            dsimp only at h1
            have h3 : (op).length ≤ k + 1 := by omega
            exact ⟨h3, by omega⟩)
          have h4 : q4.length ≤ 100 := by
            have h1 := HLE.out.2
            rw [List.length_append] at h1
            omega
          clear HES
          go_wp2_with (first
            | (at_builtin; refine wpList_append_sl (α := Int) rfl (.tmp 84) (.tmp 85) rfl w2.heap.size _ en rfl ?_ (.slice b2 i2 j2) q4 rfl ?_ ?_ ?_ ?_; exact (ED.out.ext (Ext.refl WD)); exact SD.out.sl; (first | omega | (simp; omega)); exact hz2; intro v7 W7 ho7 ha7; obtain ⟨a7, n7, c7, rfl⟩ := ho7.sh; have hq7 := ha7.block; have og := off_grown ha7.grown; have E7 : Hid (Ow W7 w2.heap.size (.slice a7 n7 c7) (en ++ q4)) := Lib.hid ho7; have D7 : Hid (W7.heap[g3]? = some (.cells #[.int .i64 q1, .slice a2 m2 c2] 24 (0, 0))) := Lib.hid (og.blk (keepU DD.out (Ext.refl WD)) (fun e => DI.out.2 g3 e rfl)); have N7 : Hid (Ns HV (fun b => b = g3 ∨ (Value.slice oa om oc).ownBlock = some b ∨ (Value.slice a7 n7 c7).ownBlock = some b) W7 (.slice a2 m2 c2) q2) := Lib.hid ((ND.out.ext (Ext.refl WD)).off (og.mono (fun b hb => .inr (.inr hb))) (fun b hb => by rcases hb with hb | hb | hb; (exact .inl (.inl hb)); (exact .inl (.inr (.inl hb))); (rcases hq7 with q | q; (exact .inl (.inr (.inr (q.symm.trans hb)))); (exact .inr (q b hb))))); have O7 : Hid (Ow W7 w2.heap.size (.slice oa om oc) op) := Lib.hid (owU (OD.out.ext (Ext.refl WD)) (fun b hb => og.block b ((OD.out.ext (Ext.refl WD)).low b hb).2 (fun e => (DI.out.1 b hb).2 e))); have I7 : Hid ((∀ b, (Value.slice oa om oc).ownBlock = some b → b ≠ g3 ∧ (Value.slice a7 n7 c7).ownBlock ≠ some b) ∧ (∀ b, (Value.slice a7 n7 c7).ownBlock = some b → b ≠ g3)) := Lib.hid ⟨fun b hb => ⟨(DI.out.1 b hb).1, fun e => by rcases hq7 with q | q; (exact (DI.out.1 b hb).2 (q.symm.trans e)); (have h1 := q b e; have h2 := Below.size (Ext.refl WD); have := (OD.out.low b hb).2; omega)⟩, fun b hb => by rcases hq7 with q | q; (exact DI.out.2 b (q.symm.trans hb)); (have h1 := q b hb; have h2 := Below.size (Ext.refl WD); omega)⟩; have X7 : Hid (Ext w2 W7) := Lib.hid (Below.trans (XD.out.trans (Ext.refl WD)) ha7.below); clear ho7 ha7 hq7 og))
          go_roundw
          case rel => exact ⟨k + 1, by omega, by go_num, q1, q2, _, _, _, _, _, _, _, _, _, op, en ++ q4, rfl, rfl, D7, N7, O7, E7, I7, HES2, HLE, X7⟩
          case measure => simp [intOf]; omega
    · have hle1 : op.length ≤ 60 := by have := LE.out.1; have := HFY.out.1; omega
      have hle2 : en.length ≤ 60 := by have := LE.out.2; have := HFY.out.1; omega
      have hm8 : M.length ≤ 8 := ER.out.ok.few
      obtain rfl : om = op.length := (by obtain ⟨_, _, e⟩ := OW.out.sl.len; simp only [Value.slice.injEq] at e; exact e.2.1)
      obtain rfl : em = en.length := (by obtain ⟨_, _, e⟩ := EW.out.sl.len; simp only [Value.slice.injEq] at e; exact e.2.1)
      obtain rfl : qn = M.length := (by obtain ⟨_, _, e⟩ := NR.out.len; simp only [Value.slice.injEq] at e; exact e.2.1)
      have hwl : IntKind.i64.wrap ((en.length : Int) + (M.length : Int)) = (en.length : Int) + (M.length : Int) := wrapN _ (by omega) (by omega)
      have hel : ((op.length : Int) == (en.length : Int) + (M.length : Int)) = true := by have := ER.out.len; dsimp only at this; rw [this]; simp
      have hm8' : (M.length : Int) ≤ 8 := by omega
      have HND := Lib.hid ER.out.nd
      have HSU := Lib.hid ER.out.esub
      have HDS := Lib.hid ER.out.dis
      obtain ⟨WO, rfl⟩ : ∃ q, q = wr := ⟨_, rfl⟩
      have HB : Hid (∀ V, Ext WO V → V.cell? ⟨g3, 0, none⟩ = some (.int .i64 n) ∧ V.cell? ⟨g3, 1, none⟩ = some (.slice qa M.length qc)) := Lib.hid fun V hV => ⟨blk_cell (keepU DR.out hV) 0 rfl, blk_cell (keepU DR.out hV) 1 rfl⟩
      go_wp2
      go_loopw [11] (fun i wr => ∃ j : Nat, j ≤ en.length ∧ i = .int .i64 j ∧ Hid (Ext WO wr)) (fun i _ => en.length - (intOf i).toNat)
      case atStart => exact ⟨0, Nat.zero_le _, rfl, Lib.hid (Ext.refl _)⟩
      case round =>
        obtain ⟨j, hj, rfl, XS⟩ := hrel
        by_cases hjl : j < en.length
        · rcases EW.out.sl.ints with ⟨e, _⟩ | ⟨be, offe, ce, hv, hce, hc63e, hbe, _, hcelle⟩
          · rw [e] at hjl; exact absurd hjl (Nat.not_lt_zero _)
          simp only [Value.slice.injEq] at hv
          obtain ⟨rfl, _, rfl⟩ := hv
          obtain ⟨x, hx⟩ : ∃ x, x = en.getD j 0 := ⟨_, rfl⟩
          have hxe : en[j]? = some x := by rw [hx]; simp [hjl]
          have hxm : x ∈ en := List.mem_of_getElem? hxe
          have HCX : Hid (∀ V, Ext wr V → V.cell? ⟨be, offe + j, none⟩ = some (.int .i64 x)) := Lib.hid fun V hV => by rw [hx]; exact ((XS.out.trans hV).cell (p := ⟨be, offe + j, none⟩) hbe).trans (hcelle j hjl)
          have hnot : decide (x ∈ en.take j) = false := decide_eq_false fun hm => by
            obtain ⟨i, hi, e⟩ := List.getElem_of_mem hm
            rw [List.length_take] at hi
            rw [List.getElem_take] at e
            have h2 := (List.getElem?_eq_some_iff.1 hxe).2
            exact List.pairwise_iff_getElem.1 HND.out i j (by omega) hjl (by omega) (e.trans h2.symm)
          have C1 : Hid (∀ V, Ext wr V → Calls Try.prog 22 #[.slice (some ⟨be, offe, none⟩) j ec, .int .i64 x] V fun e w' => e = .returned (.bool false) ∧ Ext V w') := Lib.hid fun V hV => (refHas_val V _ (en.take j) x (by have := (EW.out.sl.ext (XS.out.trans hV)).cut 0 j (by omega) (by omega); simpa using this) _ hnot).mono fun e w' ⟨he, hw⟩ => ⟨he, hw ▸ Ext.refl _⟩
          have C2 : Hid (∀ V, Ext wr V → Calls Try.prog 22 #[.slice oa op.length oc, .int .i64 x] V fun e w' => e = .returned (.bool true) ∧ Ext V w') := Lib.hid fun V hV => (refHas_val V _ op x (OW.out.sl.ext (XS.out.trans hV)) _ (decide_eq_true (HSU.out x hxm))).mono fun e w' ⟨he, hw⟩ => ⟨he, hw ▸ Ext.refl _⟩
          have C3 : Hid (∀ V, Ext wr V → Calls Try.prog 16 #[.agg #[.int .i64 n, .slice qa M.length qc], .int .i64 x] V fun e w' => e = .returned (.int .i64 (-1)) ∧ Ext V w') := Lib.hid fun V hV => refFind_any _ V n x _ M (NR.out.ext (XS.out.trans hV)) (-1) (findH_none fun i s hs e => HDS.out s (List.mem_of_getElem? hs) (by rw [e]; exact hxm))
          have hje : (j : Int) ≤ (ec : Int) := by omega
          have hjn : (j : Int) < (en.length : Int) := by omega
          clear hcelle hx hxe hxm hnot hwl hel
          go_upto_region 28 with (fail)
          refine wp_region_M_lit (by kernel_rfl) ?_
          refine tv 0 (h := ?_)
          refine tv 1 (h := ?_)
          refine tv 2 (hv := by intro w' hw'; have hz := hje; go_simp; first | done | with_reducible rfl) (h := ?_)
          refine tv 3 (h := ?_)
          refine tv 4 (h := ?_)
          refine tv 5 (hv := by intro w' hw'; have hz := hjn; go_simp; first | done | with_reducible rfl) (h := ?_)
          refine tv 6 (hv := by intro w' hw'; have hc := HCX.out w' hw'; go_simp; first | done | with_reducible rfl) (h := ?_)
          (refine takeG 7 (v := ?_) (hv := fun w' hw' => ?_) (h := ?_); rotate_left; focus (go_simp; refine ⟨Ext.refl _, ?_⟩; (exact C1.out w' hw'))); (simp only [Act.put, List.setIfInBounds_toArray, List.set])
          refine tv 8 (h := ?_)
          refine tv 9 (h := ?_)
          refine tv 10 (h := ?_)
          refine tv 11 (h := ?_)
          refine tv 12 (hv := by intro w' hw'; have hz := hjn; go_simp; first | done | with_reducible rfl) (h := ?_)
          refine tv 13 (hv := by intro w' hw'; have hc := HCX.out w' hw'; go_simp; first | done | with_reducible rfl) (h := ?_)
          (refine takeG 14 (v := ?_) (hv := fun w' hw' => ?_) (h := ?_); rotate_left; focus (go_simp; refine ⟨Ext.refl _, ?_⟩; (exact C2.out w' hw'))); (simp only [Act.put, List.setIfInBounds_toArray, List.set])
          refine tv 15 (h := ?_)
          refine tv 16 (h := ?_)
          refine tv 17 (h := ?_)
          refine tv 18 (hv := by intro w' hw'; obtain ⟨c0, c1⟩ := HB.out w' (XS.out.trans hw'); go_simp; first | done | with_reducible rfl) (h := ?_)
          refine tv 19 (h := ?_)
          refine tv 20 (h := ?_)
          refine tv 21 (hv := by intro w' hw'; have hz := hjn; go_simp; first | done | with_reducible rfl) (h := ?_)
          refine tv 22 (hv := by intro w' hw'; have hc := HCX.out w' hw'; go_simp; first | done | with_reducible rfl) (h := ?_)
          (refine takeG 23 (v := ?_) (hv := fun w' hw' => ?_) (h := ?_); rotate_left; focus (go_simp; refine ⟨Ext.refl _, ?_⟩; (exact C3.out w' hw'))); (simp only [Act.put, List.setIfInBounds_toArray, List.set])
          refine tv 24 (h := ?_)
          refine tv 25 (h := ?_)
          (refine doneM (by kernel_rfl) ?_; intro w' hw'; show _)
          have HW := Lib.hid hw'
          clear hw'
          go_wp2
          go_roundw
          case rel => exact ⟨j + 1, by omega, by go_num, Lib.hid (XS.out.trans HW.out)⟩
          case measure => simp [intOf]; omega
        · obtain ⟨d0, d1⟩ := HB.out wr XS.out
          go_wp2
          go_ret
          exact ⟨rfl, X2.out.trans (XR.out.trans XS.out)⟩

end Go.Proofs.Ytgcnjkabpcbkgaa
