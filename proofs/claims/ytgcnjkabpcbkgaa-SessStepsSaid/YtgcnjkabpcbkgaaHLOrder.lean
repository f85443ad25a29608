/- Layer 17: SessOrder. -/
import Derived.Test.YtgcnjkabpcbkgaaHW
import Derived.Test.YtgcnjkabpcbkgaaHA
namespace Go.Proofs.Ytgcnjkabpcbkgaa
open Go.RowKit

theorem ok_need {b : Bk} (h : OkH b) : ∀ s ∈ b.2, s.need.length ≤ 1000 := fun s hs => Nat.le_trans (need_at.1 (h.each s hs).2.2.1).2 (by decide)

set_option maxRecDepth 100000 in
set_option maxHeartbeats 16000000 in
theorem sessOrder_any (w : World) (v : Value) (L : List Akt) (h : Ns AV Non w v L) :
    Calls Try.prog 4 #[v] w fun e w' => e = .returned (.bool true) ∧ Ext w w' := by
  obtain ⟨ao, c, rfl⟩ := h.len
  have hlen := h.length_le
  have HS := Lib.hid h
  clear h
  obtain ⟨f, hf⟩ : ∃ f, fewA L = f := ⟨_, rfl⟩
  have HF := Lib.hid hf
  cases f
  · clear hf
    go_enter Try.func4, Try.ntmps4
    go_wp2_with (first
      | (have hgd := X2; go_at_call 9; refine (awakeH_any _).mono ?_; rintro e w9 ⟨rfl, x9⟩; have X9 : Hid (Ext w w9) := Lib.hid (X2.out.trans x9); clear x9)
      | (go_at_call 9; refine (awakeH_any _).mono ?_; rintro e w1 ⟨rfl, x1⟩; have X1 : Hid (Ext w w1) := Lib.hid x1; clear x1)
      | (go_at_call 11; refine (fewA_any _ w1 _ L (HS.out.ext X1.out) _ HF.out).mono ?_; rintro e w2 ⟨rfl, x2⟩; have X2 : Hid (Ext w w2) := Lib.hid (X1.out.trans x2); clear x2))
    go_ret
    exact ⟨rfl, X9.out⟩
  have HFY := Lib.hid (fewA_yes.1 hf)
  clear hf
  go_enter Try.func4, Try.ntmps4
  go_wp2_with (first
    | (go_at_call 9; refine (awakeH_any _).mono ?_; rintro e w1 ⟨rfl, x1⟩; have X1 : Hid (Ext w w1) := Lib.hid x1; clear x1)
    | (go_at_call 11; refine (fewA_any _ w1 _ L (HS.out.ext X1.out) _ HF.out).mono ?_; rintro e w2 ⟨rfl, x2⟩; have X2 : Hid (Ext w w2) := Lib.hid (X1.out.trans x2); clear x2)
    | refine haltst 24 ?_)
  refine .inl ?_
  obtain ⟨g3, hg3⟩ : ∃ g, g = w2.heap.size := ⟨_, rfl⟩
  have hb := at0 w2 (.cells #[.int .i64 0, .slice none 0 0] 24)
  rw [← hg3] at hb ⊢
  refine st_l 24 (.tmp 3) (.tmp 18) g3 0 24 _ #[.int .i64 0, .slice none 0 0] _ rfl rfl hb (by kernel_rfl) (by simp) rfl rfl ?_
  intro W3 hW3 o3
  simp only [Act.put]
  have D3 := Lib.hid hW3
  have Y3 : Hid (Ext w2 W3) := Lib.hid (ext_off ((Ext.refl w2).alloc _) o3 (fun b hb => by omega))
  have G3 : Hid (w2.heap.size ≤ g3) := Lib.hid (by omega)
  clear hW3 o3 hb hg3
  go_wp2
  go_loopw [4, 5] (fun l4 i wr => ∃ (k : Nat) (last : Int), k ≤ L.length ∧ i = .int .i64 k ∧ l4 = .int .i64 last ∧ ∃ n M qa qn qc, Hid (wr.heap[g3]? = some (.cells #[.int .i64 n, .slice qa qn qc] 24 (0, 0))) ∧ Hid (Ns HV (fun b => b = g3) wr (.slice qa qn qc) M) ∧ Hid (OrdH (n, M) last) ∧ Hid (Ext w2 wr)) (fun _ i _ => L.length - (intOf i).toNat)
  case atStart => exact ⟨0, 0, Nat.zero_le _, rfl, rfl, 0, [], _, _, _, D3, Lib.hid (Ns.nil _ _), Lib.hid OrdH.no, Y3⟩
  case round =>
    obtain ⟨k, last, hk, rfl, rfl, n, M, qa, qn, qc, DR, NR, OR, XR⟩ := hrel
    by_cases hlt : k < L.length
    · obtain ⟨b1, off, so, sc, y, hyk, rfl, hn, hnc, hc63, hb, hsn, hcs⟩ := HS.out.actAt hlt
      have XW : Hid (Ext w wr) := Lib.hid (X2.out.trans XR.out)
      obtain ⟨⟨x0, x1⟩, x2, x3⟩ := hcs wr XW.out
      have HSN := Lib.hid (hsn.sl.ext XW.out)
      have hNl : y.2.2.2.length ≤ 1000 := Nat.le_trans (HFY.out.2 y (List.mem_of_getElem? hyk)) (by decide)
      clear hcs hyk hn hsn
      obtain ⟨yk, sid, mm, N⟩ := y
      dsimp only at x0 x1 x2 x3 HSN hNl
      obtain ⟨kk, hkk'⟩ : ∃ kk : Int, min (max yk 0) 5 = kk := ⟨_, rfl⟩
      have hkk : 0 ≤ kk ∧ kk ≤ 5 := by omega
      obtain ⟨⟨⟨q1, q2⟩, q4, q3⟩, hq⟩ : ∃ r, stepH (n, M) kk sid mm N = r := ⟨_, rfl⟩
      have HST := Lib.hid hq
      have HOKL : Hid (M.length ≤ 1000) := Lib.hid (Nat.le_trans OR.out.ok.few (by decide))
      have HOKS : Hid (∀ s ∈ M, s.need.length ≤ 1000) := Lib.hid (ok_need OR.out.ok)
      have g3LT0 := blk_lt DR.out
      clear hq
      obtain ⟨W7, hW7⟩ : ∃ q, q = wr.alloc (.cells #[.int .i64 yk, .int .i64 sid, .int .i64 mm, .slice so N.length sc] 27) := ⟨_, rfl⟩
      have J7 : Hid (W7.heap[wr.heap.size]? = some (.cells #[.int .i64 yk, .int .i64 sid, .int .i64 mm, .slice so N.length sc] 27 (0, 0))) := Lib.hid (by rw [hW7]; exact at0 wr _)
      have Y7 : Hid (Ext wr W7) := Lib.hid (by rw [hW7]; exact (Ext.refl wr).alloc _)
      have HW7 := Lib.hid hW7
      clear hW7
      go_upto_region 8 with (fail)
      rw [← HW7.out]
      clear x0 x1 x2 x3
      have i0 := blk_cell J7.out 0 rfl
      have f0 := blk_free J7.out 0
      have hmk : min (max yk 0) 5 = kk := hkk'
      go_upto_region 9 with (fail)
      clear hmk hkk'
      obtain ⟨W8, hW8⟩ : ∃ q, q = W7.setCell ⟨wr.heap.size, 0, none⟩ (.int .i64 kk) := ⟨_, rfl⟩
      have J8 : Hid (W8.heap[wr.heap.size]? = some (.cells #[.int .i64 kk, .int .i64 sid, .int .i64 mm, .slice so N.length sc] 27 (0, 0))) := Lib.hid (by rw [hW8, blk_set J7.out]; rfl)
      have Y8 : Hid (Ext wr W8) := Lib.hid (by rw [hW8]; exact below_set Y7.out (Nat.le_refl _) _)
      rw [← hW8]
      clear hW8 i0 f0
      have HNN := Lib.hid (HSN.out.ext Y8.out)
      have NB := Lib.hid (NR.out.ext Y8.out)
      have HB : Hid (∀ V, Ext W8 V → V.cell? ⟨g3, 0, none⟩ = some (.int .i64 n) ∧ V.cell? ⟨g3, 1, none⟩ = some (.slice qa qn qc)) := Lib.hid fun V hV => ⟨blk_cell (keepU DR.out (Y8.out.trans hV)) 0 rfl, blk_cell (keepU DR.out (Y8.out.trans hV)) 1 rfl⟩
      have HAC : Hid (∀ V, Ext W8 V → (V.cell? ⟨wr.heap.size, 0, none⟩ = some (.int .i64 kk) ∧ V.cell? ⟨wr.heap.size, 1, none⟩ = some (.int .i64 sid)) ∧ V.cell? ⟨wr.heap.size, 2, none⟩ = some (.int .i64 mm) ∧ V.cell? ⟨wr.heap.size, 3, none⟩ = some (.slice so N.length sc)) := Lib.hid fun V hV => ⟨⟨blk_cell (keepU J8.out hV) 0 rfl, blk_cell (keepU J8.out hV) 1 rfl⟩, blk_cell (keepU J8.out hV) 2 rfl, blk_cell (keepU J8.out hV) 3 rfl⟩
      obtain ⟨FX, hFX⟩ : ∃ F : Nat → Prop, F = fun b => b = g3 := ⟨_, rfl⟩
      have HFX := Lib.hid hFX
      rw [← hFX] at NB
      have HFL : Hid (∀ b, FX b → b < W8.heap.size) := Lib.hid fun b hb => by rw [hFX] at hb; have := blk_lt (keepU DR.out Y8.out); omega
      clear hFX
      go_cut [7, 8, 9] (fun s7 s8 s9 wx => ∃ gx a2 m2 c2 b2 i2 j2, s7 = .pointer (some ⟨gx, 0, none⟩) ∧ s8 = .slice b2 i2 j2 ∧ s9 = .int .i64 q3 ∧ Hid (Ext W8 wx ∧ wx.heap[gx]? = some (.cells #[.int .i64 q1, .slice a2 m2 c2] 24 (0, 0)) ∧ Ns HV FX wx (.slice a2 m2 c2) q2 ∧ Sa FX wx (.slice b2 i2 j2) q4))
      case first =>
        (refine wp_region_X_lit (K := fun V => Ext W8 V) (by kernel_rfl) (fun w1 hw1 => ?_))
        have Y1 : Hid (Ext W8 w1) := Lib.hid hw1
        clear hw1
        refine xtv 0 (hv := by intro w' hw'; obtain ⟨c0, c1⟩ := HB.out w' hw'; go_simp; first | done | with_reducible rfl) (h := ?_)
        refine xtv 2 (hv := by intro w' hw'; obtain ⟨⟨c0, c1⟩, c2, c3⟩ := HAC.out w' hw'; go_simp; first | done | with_reducible rfl) (h := ?_)
        refine xtwo 1 8 (hk := Y1.out) (h := RunX.of 1 (h := ?_)) (h' := RunX.of 8 (h := ?_))
        · go_simp
          refine (ownBk_any FX w1 n _ M (NB.out.ext Y1.out) HOKL.out HOKS.out (fun b hb => by have := Below.size Y1.out; have := HFL.out b hb; omega)).mono ?_
          rintro e2 w2 ⟨a1, m1, c1, rfl, n2, x2⟩
          have O2 := Lib.hid n2
          have Y2 : Hid (Ext W8 w2) := Lib.hid (Y1.out.trans x2)
          have Z2 : Hid (Ext w1 w2) := Lib.hid x2
          clear n2 x2
          dsimp only
          (try (simp only [Act.put, List.setIfInBounds_toArray, List.set]))
          refine xtwo 3 8 (hk := Y2.out) (h := RunX.of 3 (h := ?_)) (h' := RunX.of 8 (h := ?_))
          · go_simp
            refine (HST.out ▸ act_any FX w2 n kk sid mm _ _ M N O2.out (HNN.out.ext Y2.out) HOKL.out hNl (fun b hb => by have := Below.size Y2.out; have := HFL.out b hb; omega) hkk).mono ?_
            rintro e3 w3 ⟨a2, m2, c2, b2, i2, j2, rfl, n3, s3, x3⟩
            dsimp only at n3 s3 ⊢
            have N3 := Lib.hid n3
            have S3 := Lib.hid s3
            have Y3 : Hid (Ext W8 w3) := Lib.hid (Y2.out.trans x3)
            have Z3 : Hid (Ext w2 w3) := Lib.hid x3
            clear n3 s3 x3
            (try (simp only [Act.put, List.setIfInBounds_toArray, List.set]))
            refine xtv 4 (h := ?_)
            refine xtv 5 (h := ?_)
            refine xtv 6 (h := ?_)
            refine xtv 7 (h := ?_)
            refine xone 8 (hk := Y3.out) (h := RunX.of 8 (h := ?_))
            go_simp
            (try (simp only [Act.put, List.setIfInBounds_toArray, List.set]))
            obtain ⟨w4, hw4⟩ : ∃ q, q = w3.alloc (.cells #[.int .i64 0, .slice none 0 0] 24) := ⟨_, rfl⟩
            obtain ⟨gx, hgx⟩ : ∃ g, g = w3.heap.size := ⟨_, rfl⟩
            have D4 : Hid (w4.heap[gx]? = some (.cells #[.int .i64 0, .slice none 0 0] 24 (0, 0))) := Lib.hid (hw4 ▸ hgx ▸ at0 w3 _)
            have hgw : W8.heap.size ≤ gx := by have := Below.size Y3.out; omega
            have Y4 : Hid (Ext W8 w4) := Lib.hid (hw4 ▸ Y3.out.alloc _)
            have Z4 : Hid (Ext w3 w4) := Lib.hid (hw4 ▸ (Ext.refl _).alloc _)
            skip
            have NG4 : Hid (Ns HV (fun b => FX b ∨ b = gx) w4 (.slice a2 m2 c2) q2 ∧ Sa (fun b => FX b ∨ b = gx) w4 (.slice b2 i2 j2) q4) := Lib.hid ⟨(N3.out.grow (G := (fun b => FX b ∨ b = gx)) (fun b hb => hb.imp (fun q => q) (fun e => by omega))).ext Z4.out, S3.out.off (Off.of_ext Z4.out) (fun b hb => hb.imp (fun q => q) (fun e => by omega))⟩
            rw [← hw4, ← hgx]
            clear hw4 hgx
            refine xone 9 (hk := Y4.out) (h := RunX.of 9 (h := ?_))
            refine wp_st 24 (.tmp 7) (.tmp 39) rfl gx 0 24 #[.int .i64 0, .slice none 0 0] #[.int .i64 q1, .slice a2 m2 c2] _ rfl rfl D4.out (by kernel_rfl) (by simp) rfl rfl ?_
            intro WB hWB oB
            simp only [Act.put]
            have YB : Hid (Ext W8 WB) := Lib.hid (ext_off Y4.out oB (fun b hb => by omega))
            have CB : Hid (Ext W8 WB ∧ WB.heap[gx]? = some (.cells #[.int .i64 q1, .slice a2 m2 c2] 24 (0, 0)) ∧ Ns HV FX WB (.slice a2 m2 c2) q2 ∧ Sa FX WB (.slice b2 i2 j2) q4) := Lib.hid ⟨YB.out, hWB, ns_less (NG4.out.1.off (oB.mono (fun b hb => .inr hb)) (Grows.refl _ _)) (fun b hb => .inl hb), (NG4.out.2.off (oB.mono (fun b hb => .inr hb)) (Grows.refl _ _)).off (Off.refl _ _) (fun b hb => .inl (.inl hb))⟩
            clear hWB oB
            refine xtv 10 (h := ?_)
            refine xtv 11 (h := ?_)
            (refine xdone (by kernel_rfl) (YB.out) ?_)
            go_wp2_with fail
            go_meet
            exact ⟨gx, a2, m2, c2, b2, i2, j2, rfl, rfl, rfl, CB⟩
          · go_simp
            (try (simp only [Act.put, List.setIfInBounds_toArray, List.set]))
            obtain ⟨w5, hw5⟩ : ∃ q, q = w2.alloc (.cells #[.int .i64 0, .slice none 0 0] 24) := ⟨_, rfl⟩
            obtain ⟨gx, hgx⟩ : ∃ g, g = w2.heap.size := ⟨_, rfl⟩
            have D5 : Hid (w5.heap[gx]? = some (.cells #[.int .i64 0, .slice none 0 0] 24 (0, 0))) := Lib.hid (hw5 ▸ hgx ▸ at0 w2 _)
            have hgw : W8.heap.size ≤ gx := by have := Below.size Y2.out; omega
            have Y5 : Hid (Ext W8 w5) := Lib.hid (hw5 ▸ Y2.out.alloc _)
            have Z5 : Hid (Ext w2 w5) := Lib.hid (hw5 ▸ (Ext.refl _).alloc _)
            have OG5 : Hid (Ns HV (fun b => FX b ∨ b = gx) w5 (.slice a1 m1 c1) M) := Lib.hid ((O2.out.grow (G := (fun b => FX b ∨ b = gx)) (fun b hb => hb.imp (fun q => q) (fun e => by omega))).ext Z5.out)
            skip
            rw [← hw5, ← hgx]
            clear hw5 hgx
            refine xone 3 (hk := Y5.out) (h := RunX.of 3 (h := ?_))
            go_simp
            refine (HST.out ▸ act_any (fun b => FX b ∨ b = gx) w5 n kk sid mm _ _ M N OG5.out (HNN.out.ext Y5.out) HOKL.out hNl (fun b hb => by have := Below.size Y5.out; rcases hb with hb | hb; (have := HFL.out b hb; omega); (have := blk_lt D5.out; omega)) hkk).mono ?_
            rintro e6 w6 ⟨a2, m2, c2, b2, i2, j2, rfl, n6, s6, x6⟩
            dsimp only at n6 s6 ⊢
            have N6 := Lib.hid n6
            have S6 := Lib.hid s6
            have Y6 : Hid (Ext W8 w6) := Lib.hid (Y5.out.trans x6)
            have Z6 : Hid (Ext w5 w6) := Lib.hid x6
            clear n6 s6 x6
            (try (simp only [Act.put, List.setIfInBounds_toArray, List.set]))
            refine xtv 4 (h := ?_)
            refine xtv 5 (h := ?_)
            refine xtv 6 (h := ?_)
            refine xtv 7 (h := ?_)
            refine xone 9 (hk := Y6.out) (h := RunX.of 9 (h := ?_))
            refine wp_st 24 (.tmp 7) (.tmp 39) rfl gx 0 24 #[.int .i64 0, .slice none 0 0] #[.int .i64 q1, .slice a2 m2 c2] _ rfl rfl (keepU D5.out Z6.out) (by kernel_rfl) (by simp) rfl rfl ?_
            intro WB hWB oB
            simp only [Act.put]
            have YB : Hid (Ext W8 WB) := Lib.hid (ext_off Y6.out oB (fun b hb => by omega))
            have CB : Hid (Ext W8 WB ∧ WB.heap[gx]? = some (.cells #[.int .i64 q1, .slice a2 m2 c2] 24 (0, 0)) ∧ Ns HV FX WB (.slice a2 m2 c2) q2 ∧ Sa FX WB (.slice b2 i2 j2) q4) := Lib.hid ⟨YB.out, hWB, ns_less (N6.out.off (oB.mono (fun b hb => .inr hb)) (Grows.refl _ _)) (fun b hb => .inl hb), (S6.out.off (oB.mono (fun b hb => .inr hb)) (Grows.refl _ _)).off (Off.refl _ _) (fun b hb => .inl (.inl hb))⟩
            clear hWB oB
            refine xtv 10 (h := ?_)
            refine xtv 11 (h := ?_)
            (refine xdone (by kernel_rfl) (YB.out) ?_)
            go_wp2_with fail
            go_meet
            exact ⟨gx, a2, m2, c2, b2, i2, j2, rfl, rfl, rfl, CB⟩
        · go_simp
          (try (simp only [Act.put, List.setIfInBounds_toArray, List.set]))
          obtain ⟨w7, hw7⟩ : ∃ q, q = w1.alloc (.cells #[.int .i64 0, .slice none 0 0] 24) := ⟨_, rfl⟩
          obtain ⟨gx, hgx⟩ : ∃ g, g = w1.heap.size := ⟨_, rfl⟩
          have D7 : Hid (w7.heap[gx]? = some (.cells #[.int .i64 0, .slice none 0 0] 24 (0, 0))) := Lib.hid (hw7 ▸ hgx ▸ at0 w1 _)
          have hgw : W8.heap.size ≤ gx := by have := Below.size Y1.out; omega
          have Y7 : Hid (Ext W8 w7) := Lib.hid (hw7 ▸ Y1.out.alloc _)
          have Z7 : Hid (Ext w1 w7) := Lib.hid (hw7 ▸ (Ext.refl _).alloc _)
          skip
          skip
          rw [← hw7, ← hgx]
          clear hw7 hgx
          refine xone 1 (hk := Y7.out) (h := RunX.of 1 (h := ?_))
          go_simp
          refine (ownBk_any (fun b => FX b ∨ b = gx) w7 n _ M ((NB.out.grow (G := (fun b => FX b ∨ b = gx)) (fun b hb => hb.imp (fun q => q) (fun e => by omega))).ext Y7.out) HOKL.out HOKS.out (fun b hb => by have := Below.size Y7.out; rcases hb with hb | hb; (have := HFL.out b hb; omega); (have := blk_lt D7.out; omega))).mono ?_
          rintro e8 w8 ⟨a1, m1, c1, rfl, n8, x8⟩
          have O8 := Lib.hid n8
          have Y8 : Hid (Ext W8 w8) := Lib.hid (Y7.out.trans x8)
          have Z8 : Hid (Ext w7 w8) := Lib.hid x8
          clear n8 x8
          dsimp only
          (try (simp only [Act.put, List.setIfInBounds_toArray, List.set]))
          refine xone 3 (hk := Y8.out) (h := RunX.of 3 (h := ?_))
          go_simp
          refine (HST.out ▸ act_any (fun b => FX b ∨ b = gx) w8 n kk sid mm _ _ M N O8.out (HNN.out.ext Y8.out) HOKL.out hNl (fun b hb => by have := Below.size Y8.out; rcases hb with hb | hb; (have := HFL.out b hb; omega); (have := blk_lt (keepU D7.out Z8.out); omega)) hkk).mono ?_
          rintro e9 w9 ⟨a2, m2, c2, b2, i2, j2, rfl, n9, s9, x9⟩
          dsimp only at n9 s9 ⊢
          have N9 := Lib.hid n9
          have S9 := Lib.hid s9
          have Y9 : Hid (Ext W8 w9) := Lib.hid (Y8.out.trans x9)
          have Z9 : Hid (Ext w8 w9) := Lib.hid x9
          clear n9 s9 x9
          (try (simp only [Act.put, List.setIfInBounds_toArray, List.set]))
          refine xtv 4 (h := ?_)
          refine xtv 5 (h := ?_)
          refine xtv 6 (h := ?_)
          refine xtv 7 (h := ?_)
          refine xone 9 (hk := Y9.out) (h := RunX.of 9 (h := ?_))
          refine wp_st 24 (.tmp 7) (.tmp 39) rfl gx 0 24 #[.int .i64 0, .slice none 0 0] #[.int .i64 q1, .slice a2 m2 c2] _ rfl rfl (keepU (keepU D7.out Z8.out) Z9.out) (by kernel_rfl) (by simp) rfl rfl ?_
          intro WB hWB oB
          simp only [Act.put]
          have YB : Hid (Ext W8 WB) := Lib.hid (ext_off Y9.out oB (fun b hb => by omega))
          have CB : Hid (Ext W8 WB ∧ WB.heap[gx]? = some (.cells #[.int .i64 q1, .slice a2 m2 c2] 24 (0, 0)) ∧ Ns HV FX WB (.slice a2 m2 c2) q2 ∧ Sa FX WB (.slice b2 i2 j2) q4) := Lib.hid ⟨YB.out, hWB, ns_less (N9.out.off (oB.mono (fun b hb => .inr hb)) (Grows.refl _ _)) (fun b hb => .inl hb), (S9.out.off (oB.mono (fun b hb => .inr hb)) (Grows.refl _ _)).off (Off.refl _ _) (fun b hb => .inl (.inl hb))⟩
          clear hWB oB
          refine xtv 10 (h := ?_)
          refine xtv 11 (h := ?_)
          (refine xdone (by kernel_rfl) (YB.out) ?_)
          go_wp2_with fail
          go_meet
          exact ⟨gx, a2, m2, c2, b2, i2, j2, rfl, rfl, rfl, CB⟩
      case rest =>
        obtain ⟨gx, a2, m2, c2, b2, i2, j2, rfl, rfl, rfl, HCUT⟩ := hcut
        obtain ⟨x9, d9, n9, s9⟩ := HCUT.out
        have X9 := Lib.hid x9
        have N9 := Lib.hid n9
        have S9 := Lib.hid s9
        have d0 := blk_cell d9 0 rfl
        have d1 := blk_cell d9 1 rfl
        clear x9 d9 n9 s9 HCUT
        have hFX := HFX.out
        subst hFX
        have XC : Hid (Ext w2 wc) := Lib.hid (XR.out.trans (Y8.out.trans X9.out))
        have DC : Hid (wc.heap[g3]? = some (.cells #[.int .i64 n, .slice qa qn qc] 24 (0, 0))) := Lib.hid (keepU DR.out (Y8.out.trans X9.out))
        by_cases he : q3 = 0
        rotate_left
        · have hd : (q3 != 0) = true := by simpa using he
          have NC := Lib.hid (NB.out.ext X9.out)
          clear he
          go_wp2
          go_roundw
          case rel => exact ⟨k + 1, last, by omega, by go_num, rfl, n, M, _, _, _, DC, NC, OR, XC⟩
          case measure => simp [intOf]; omega
        subst he
        have hst := OR.out.step (k := kk) (id := sid) (n := mm) (need := N) (by rw [HST.out])
        rw [HST.out] at hst
        obtain ⟨okq, h1, h2⟩ := hst
        dsimp only at okq h1 h2
        have HCK : Hid (chkH (q1, q2) = true) := Lib.hid (okH_iff.2 okq)
        have HLQ : Hid (q2.length ≤ 1000) := Lib.hid (Nat.le_trans okq.few (by decide))
        have H1 := Lib.hid h1
        have H2 := Lib.hid h2
        clear okq h1 h2
        go_wp2_with (first | refine haltst 24 ?_)
        refine .inl ?_
        refine st_l 24 (.tmp 3) (.tmp 44) g3 0 24 _ #[.int .i64 q1, .slice a2 m2 c2] _ rfl rfl DC.out (by kernel_rfl) (by simp) rfl rfl ?_
        intro WD hWD oD
        simp only [Act.put]
        have DD := Lib.hid hWD
        have ND := Lib.hid (N9.out.off oD (Grows.refl _ _))
        have SD := Lib.hid (S9.out.off oD (Grows.refl (fun b => b = g3) _)).sl
        have JD : Hid (WD.heap[wr.heap.size]? = some (.cells #[.int .i64 kk, .int .i64 sid, .int .i64 mm, .slice so N.length sc] 27 (0, 0))) := Lib.hid (oD.blk (keepU J8.out X9.out) (by omega))
        have XD : Hid (Ext w2 WD) := Lib.hid (ext_off XC.out oD (fun b hb => by have := G3.out; omega))
        clear hWD oD d0 d1
        have d0 := blk_cell DD.out 0 rfl
        have d1 := blk_cell DD.out 1 rfl
        by_cases hk1 : kk = 1
        · obtain ⟨x, hx, hlx, hox⟩ := H1.out hk1
          subst hx
          have hd : (kk == 1) = true := by simpa using hk1
          have hle : ¬ x ≤ last := by omega
          have HOX := Lib.hid hox
          rcases SD.out.ints with ⟨e, _⟩ | ⟨bi, offi, ci, hv, _, _, hbi, _, hcell⟩
          · cases e
          simp only [Value.slice.injEq] at hv
          obtain ⟨rfl, rfl, rfl⟩ := hv
          have HID : Hid (∀ V, Ext WD V → V.cell? ⟨bi, offi, none⟩ = some (.int .i64 x)) := Lib.hid fun V hV => (hV.cell (p := ⟨bi, offi, none⟩) hbi).trans (hcell 0 (by simp))
          clear hcell hk1 hox
          go_wp2_with (go_at_call 20; refine (sessCheck_any _ WD q1 _ q2 ND.out HLQ.out _ HCK.out).mono ?_; rintro e wE ⟨rfl, xE⟩; have XE : Hid (Ext WD wE) := Lib.hid xE; clear xE; have y0 := HID.out wE XE.out; have i0 := blk_cell (keepU JD.out XE.out) 0 rfl)
          go_roundw
          case rel => exact ⟨k + 1, x, by omega, by go_num, rfl, q1, q2, _, _, _, Lib.hid (keepU DD.out XE.out), Lib.hid (ND.out.ext XE.out), HOX, Lib.hid (XD.out.trans XE.out)⟩
          case measure => simp [intOf]; omega
        · have hd : (kk == 1) = false := by simpa using hk1
          have HOX := Lib.hid (H2.out hk1)
          clear hk1
          go_wp2_with (go_at_call 20; refine (sessCheck_any _ WD q1 _ q2 ND.out HLQ.out _ HCK.out).mono ?_; rintro e wE ⟨rfl, xE⟩; have XE : Hid (Ext WD wE) := Lib.hid xE; clear xE; have i0 := blk_cell (keepU JD.out XE.out) 0 rfl)
          go_roundw
          case rel => exact ⟨k + 1, last, by omega, by go_num, rfl, q1, q2, _, _, _, Lib.hid (keepU DD.out XE.out), Lib.hid (ND.out.ext XE.out), HOX, Lib.hid (XD.out.trans XE.out)⟩
          case measure => simp [intOf]; omega
    · go_wp2
      go_ret
      exact ⟨rfl, X2.out.trans XR.out⟩

end Go.Proofs.Ytgcnjkabpcbkgaa
