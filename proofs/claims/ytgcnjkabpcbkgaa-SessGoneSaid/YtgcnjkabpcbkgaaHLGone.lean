/- Layer 17: SessGone. -/
import Derived.Test.YtgcnjkabpcbkgaaHW
import Derived.Test.YtgcnjkabpcbkgaaH4
namespace Go.Proofs.Ytgcnjkabpcbkgaa
open Go.RowKit

set_option maxRecDepth 100000 in
set_option maxHeartbeats 16000000 in
theorem sessGoneL_any (w : World) (n p : Int) (v : Value) (L : List Se) (h : Ns HV Non w v L) :
    Calls Try.prog 7 #[.agg #[.int .i64 n, v], .int .i64 p] w fun e w' => e = .returned (.bool true) ∧ Ext w w' := by
  obtain ⟨ao, c, rfl⟩ := h.len
  have hlen := h.length_le
  obtain ⟨W0, hW0⟩ : ∃ W0, W0 = w.alloc (.cells #[.int .i64 n, .slice ao L.length c] 24) := ⟨_, rfl⟩
  have X0 : Hid (Ext w W0) := Lib.hid (by rw [hW0]; exact (Ext.refl w).alloc _)
  have B0 : Hid (W0.heap[w.heap.size]? = some (.cells #[.int .i64 n, .slice ao L.length c] 24 (0, 0))) := Lib.hid (by rw [hW0]; exact at0 w _)
  have HW0 := Lib.hid hW0
  have HS := Lib.hid (h.ext X0.out)
  have HK : Hid (∀ V, Ext W0 V → V.cell? ⟨w.heap.size, 0, none⟩ = some (.int .i64 n) ∧ V.cell? ⟨w.heap.size, 1, none⟩ = some (.slice ao L.length c)) := Lib.hid fun V hV => ⟨blk_cell (keepU B0.out hV) 0 rfl, blk_cell (keepU B0.out hV) 1 rfl⟩
  obtain ⟨k0, k1⟩ := HK.out W0 (Ext.refl _)
  clear h hW0
  obtain ⟨f, hf⟩ : ∃ f, fewH L = f := ⟨_, rfl⟩
  have HF := Lib.hid hf
  cases f
  · clear hf
    go_enter Try.func7, Try.ntmps7
    go_upto_region 1 with (fail)
    rw [← HW0.out]
    go_wp2_with (first
      | (have hgd := X2; go_at_call 9; refine (awakeH_any _).mono ?_; rintro e w9 ⟨rfl, x9⟩; have X9 : Hid (Ext W0 w9) := Lib.hid (X2.out.trans x9); clear x9)
      | (go_at_call 9; refine (awakeH_any _).mono ?_; rintro e w1 ⟨rfl, x1⟩; have X1 : Hid (Ext W0 w1) := Lib.hid x1; clear x1; clear k0 k1; obtain ⟨k0, k1⟩ := HK.out w1 X1.out)
      | (go_at_call 10; refine (refBkFew_any _ w1 n _ L (HS.out.ext X1.out) _ HF.out).mono ?_; rintro e w2 ⟨rfl, x2⟩; have X2 : Hid (Ext W0 w2) := Lib.hid (X1.out.trans x2); clear x2; clear k0 k1; obtain ⟨k0, k1⟩ := HK.out w2 X2.out))
    go_ret
    exact ⟨rfl, X0.out.trans X9.out⟩
  have HFY := Lib.hid (fewH_iff.1 hf)
  clear hf
  obtain ⟨t, ht⟩ : ∃ t, chkH (n, L) = t := ⟨_, rfl⟩
  cases t
  · have HQ : Hid (goneH (n, L) p = ((0, []), [], 170)) := Lib.hid (by unfold goneH; rw [if_neg (by rw [ht]; exact Bool.false_ne_true)]; rfl)
    clear ht
    go_enter Try.func7, Try.ntmps7
    go_upto_region 1 with (fail)
    rw [← HW0.out]
    go_wp2_with (first
      | (go_at_call 9; refine (awakeH_any _).mono ?_; rintro e w1 ⟨rfl, x1⟩; have X1 : Hid (Ext W0 w1) := Lib.hid x1; clear x1; clear k0 k1; obtain ⟨k0, k1⟩ := HK.out w1 X1.out)
      | (go_at_call 10; refine (refBkFew_any _ w1 n _ L (HS.out.ext X1.out) _ HF.out).mono ?_; rintro e w2 ⟨rfl, x2⟩; have X2 : Hid (Ext W0 w2) := Lib.hid (X1.out.trans x2); clear x2; clear k0 k1; obtain ⟨k0, k1⟩ := HK.out w2 X2.out)
      | (go_at_call 13; refine (ownBk_any Non w2 n _ L (HS.out.ext X2.out) (by have := HFY.out.1; omega) (fun s hs => Nat.le_trans (HFY.out.2 s hs) (by decide)) (fun b hb => hb.elim)).mono ?_; rintro e w3 ⟨a3, m3, c3, rfl, n3, x3⟩; have N3 := Lib.hid n3; have X3 : Hid (Ext W0 w3) := Lib.hid (X2.out.trans x3); clear n3 x3; clear k0 k1; obtain ⟨k0, k1⟩ := HK.out w3 X3.out)
      | (go_at_call 25; refine (HQ.out ▸ sessGone_any Non w3 n p _ L N3.out (by have := HFY.out.1; omega) (fun b hb => hb.elim)).mono ?_; rintro e w6 ⟨a6, m6, c6, b6, i6, j6, rfl, n6, s6, x6⟩; dsimp only at n6 s6 ⊢; obtain rfl : i6 = 0 := (by obtain ⟨_, _, e⟩ := s6.sl.len; simp only [Value.slice.injEq] at e; exact e.2.1); have N6 := Lib.hid n6; have S6 := Lib.hid s6.sl; have X6 : Hid (Ext W0 w6) := Lib.hid (X3.out.trans x6); clear n6 s6 x6; clear k0 k1; obtain ⟨k0, k1⟩ := HK.out w6 X6.out)
      | refine haltst 24 ?_)
    refine .inl ?_
    obtain ⟨gx, hgx⟩ : ∃ g, g = w6.heap.size := ⟨_, rfl⟩
    have hb := at0 w6 (.cells #[.int .i64 0, .slice none 0 0] 24)
    rw [← hgx] at hb ⊢
    refine st_l 24 (.tmp 5) (.tmp 27) gx 0 24 _ #[.int .i64 0, .slice a6 m6 c6] _ rfl rfl hb (by kernel_rfl) (by simp) rfl rfl ?_
    intro W7 hW7 o7
    simp only [Act.put]
    have D7 := Lib.hid hW7
    have Y7 : Hid (Ext w6 W7) := Lib.hid (ext_off ((Ext.refl w6).alloc _) o7 (fun b hb => by omega))
    have X7 : Hid (Ext W0 W7) := Lib.hid (X6.out.trans Y7.out)
    have GX : Hid (w6.heap.size ≤ gx ∧ gx < W7.heap.size) := Lib.hid ⟨by omega, blk_lt hW7⟩
    clear hW7 o7 hb hgx k0 k1
    go_wp2
    go_ret
    exact ⟨rfl, X0.out.trans X7.out⟩
  have ok := okH_iff.1 ht
  obtain ⟨K, hK⟩ : ∃ K, K = L.filter fun s => !goesH p s := ⟨_, rfl⟩
  obtain ⟨I, hI⟩ : ∃ I, I = (L.filter (goesH p)).map Se.id := ⟨_, rfl⟩
  have HQ : Hid (goneH (n, L) p = ((n, K), I, 0)) := Lib.hid (by rw [hK, hI]; unfold goneH; rw [if_pos ht])
  have HIN : Hid (∀ s ∈ L, decide (s.id ∈ I) = goesH p s) := Lib.hid fun s hs => by
    rw [hI]
    have := gone_ids ok (p := p) (s := s) hs
    dsimp only at this
    cases hg : goesH p s
    · exact decide_eq_false fun q => by rw [this.1 q] at hg; cases hg
    · exact decide_eq_true (this.2 hg)
  have HFI : Hid (∀ s ∈ L, (findH K s.id < 0) ↔ goesH p s = true) := Lib.hid fun s hs => by
    rw [hK, findH_neg]
    exact gone_at ok hs
  have hKL : K.length + I.length = L.length := by rw [hK, hI]; exact gone_len L p
  have HLS : Hid (∀ s ∈ K, s.need.length ≤ 1000) := Lib.hid fun s hs => Nat.le_trans (HFY.out.2 s (by rw [hK] at hs; exact (List.mem_filter.1 hs).1)) (by decide)
  have HLL : Hid (K.length ≤ 1000) := Lib.hid (by have := HFY.out.1; omega)
  have HQ2 : Hid (goneH (n, K) p = ((n, K), [], 0)) := Lib.hid (by
    have okK : OkH (n, K) := by rw [hK]; exact ok.sub (List.filter_sublist ..)
    unfold goneH
    rw [if_pos (okH_iff.2 okK)]
    dsimp only
    rw [hK, gone_again, gone_none]
    rfl)
  have hlK : K.length ≤ 12 := by have := HFY.out.1; omega
  have hlI : I.length ≤ 12 := by have := HFY.out.1; omega
  have hwl : IntKind.i64.wrap ((K.length : Int) + (I.length : Int)) = (K.length : Int) + (I.length : Int) := wrapN _ (by omega) (by omega)
  have hel : ((K.length : Int) + (I.length : Int) == (L.length : Int)) = true := by rw [← hKL]; simp
  have HKL := Lib.hid hKL
  clear ht ok hK hI hKL
  go_enter Try.func7, Try.ntmps7
  go_upto_region 1 with (fail)
  rw [← HW0.out]
  go_wp2_with (first
    | (go_at_call 9; refine (awakeH_any _).mono ?_; rintro e w1 ⟨rfl, x1⟩; have X1 : Hid (Ext W0 w1) := Lib.hid x1; clear x1; clear k0 k1; obtain ⟨k0, k1⟩ := HK.out w1 X1.out)
    | (go_at_call 10; refine (refBkFew_any _ w1 n _ L (HS.out.ext X1.out) _ HF.out).mono ?_; rintro e w2 ⟨rfl, x2⟩; have X2 : Hid (Ext W0 w2) := Lib.hid (X1.out.trans x2); clear x2; clear k0 k1; obtain ⟨k0, k1⟩ := HK.out w2 X2.out)
    | (go_at_call 13; refine (ownBk_any Non w2 n _ L (HS.out.ext X2.out) (by have := HFY.out.1; omega) (fun s hs => Nat.le_trans (HFY.out.2 s hs) (by decide)) (fun b hb => hb.elim)).mono ?_; rintro e w3 ⟨a3, m3, c3, rfl, n3, x3⟩; have N3 := Lib.hid n3; have X3 : Hid (Ext W0 w3) := Lib.hid (X2.out.trans x3); clear n3 x3; clear k0 k1; obtain ⟨k0, k1⟩ := HK.out w3 X3.out)
    | (go_at_call 25; refine (HQ.out ▸ sessGone_any Non w3 n p _ L N3.out (by have := HFY.out.1; omega) (fun b hb => hb.elim)).mono ?_; rintro e w6 ⟨a6, m6, c6, b6, i6, j6, rfl, n6, s6, x6⟩; dsimp only at n6 s6 ⊢; obtain rfl : i6 = I.length := (by obtain ⟨_, _, e⟩ := s6.sl.len; simp only [Value.slice.injEq] at e; exact e.2.1); obtain rfl : m6 = K.length := (by obtain ⟨_, _, e⟩ := n6.len; simp only [Value.slice.injEq] at e; exact e.2.1); have N6 := Lib.hid n6; have S6 := Lib.hid s6.sl; have X6 : Hid (Ext W0 w6) := Lib.hid (X3.out.trans x6); clear n6 s6 x6; clear k0 k1; obtain ⟨k0, k1⟩ := HK.out w6 X6.out)
    | refine haltst 24 ?_)
  refine .inl ?_
  obtain ⟨gx, hgx⟩ : ∃ g, g = w6.heap.size := ⟨_, rfl⟩
  have hb := at0 w6 (.cells #[.int .i64 0, .slice none 0 0] 24)
  rw [← hgx] at hb ⊢
  refine st_l 24 (.tmp 5) (.tmp 27) gx 0 24 _ #[.int .i64 n, .slice a6 K.length c6] _ rfl rfl hb (by kernel_rfl) (by simp) rfl rfl ?_
  intro W7 hW7 o7
  simp only [Act.put]
  have D7 := Lib.hid hW7
  have Y7 : Hid (Ext w6 W7) := Lib.hid (ext_off ((Ext.refl w6).alloc _) o7 (fun b hb => by omega))
  have X7 : Hid (Ext W0 W7) := Lib.hid (X6.out.trans Y7.out)
  have GX : Hid (w6.heap.size ≤ gx ∧ gx < W7.heap.size) := Lib.hid ⟨by omega, blk_lt hW7⟩
  clear hW7 o7 hb hgx k0 k1
  have HD : Hid (∀ V, Ext W7 V → V.cell? ⟨gx, 0, none⟩ = some (.int .i64 n) ∧ V.cell? ⟨gx, 1, none⟩ = some (.slice a6 K.length c6)) := Lib.hid fun V hV => ⟨blk_cell (keepU D7.out hV) 0 rfl, blk_cell (keepU D7.out hV) 1 rfl⟩
  go_wp2
  go_loopw [8] (fun i wr => ∃ k : Nat, k ≤ L.length ∧ i = .int .i64 k ∧ Hid (Ext W7 wr)) (fun i _ => L.length - (intOf i).toNat)
  case atStart => exact ⟨0, Nat.zero_le _, rfl, Lib.hid (Ext.refl _)⟩
  case round =>
    obtain ⟨k, hk, rfl, XR⟩ := hrel
    obtain ⟨k0, k1⟩ := HK.out wr (X7.out.trans XR.out)
    by_cases hlt : k < L.length
    · obtain ⟨b1, off, so, sc, s, hsj, rfl, hn, hnc, hc63, hb, hsn, hcs⟩ := HS.out.sessAt hlt
      obtain ⟨⟨x0, x1⟩, x2, x3⟩ := hcs wr (X7.out.trans XR.out)
      have hsm : s ∈ L := List.mem_of_getElem? hsj
      have HID0 := Lib.hid (HIN.out s hsm)
      have HFI0 := Lib.hid (HFI.out s hsm)
      have HSN := Lib.hid (hsn.sl.ext (X7.out.trans XR.out))
      clear hcs hsj hn hsn hsm
      obtain ⟨y0, y1, y2, y3⟩ := s
      dsimp only at x0 x1 x2 x3 HSN HID0 HFI0
      obtain ⟨W8, hW8⟩ : ∃ q, q = wr.alloc (.cells #[.int .i64 y0, .slice so y1.length sc, .int .i64 y2, .int .i64 y3] 41) := ⟨_, rfl⟩
      have J8 : Hid (W8.heap[wr.heap.size]? = some (.cells #[.int .i64 y0, .slice so y1.length sc, .int .i64 y2, .int .i64 y3] 41 (0, 0))) := Lib.hid (by rw [hW8]; exact at0 wr _)
      have Y8 : Hid (Ext wr W8) := Lib.hid (by rw [hW8]; exact (Ext.refl wr).alloc _)
      have HW8 := Lib.hid hW8
      obtain ⟨r, hr⟩ : ∃ r, findH K y0 = r := ⟨_, rfl⟩
      have HR := Lib.hid hr
      rw [hr] at HFI0
      clear hW8 hr
      go_upto_region 10 with (fail)
      rw [← HW8.out]
      clear k0 k1 x0 x1 x2 x3
      obtain ⟨i0, i1, i2, i3⟩ : W8.cell? ⟨wr.heap.size, 0, none⟩ = some (.int .i64 y0) ∧ W8.cell? ⟨wr.heap.size, 1, none⟩ = some (.slice so y1.length sc) ∧ W8.cell? ⟨wr.heap.size, 2, none⟩ = some (.int .i64 y2) ∧ W8.cell? ⟨wr.heap.size, 3, none⟩ = some (.int .i64 y3) := ⟨blk_cell J8.out 0 rfl, blk_cell J8.out 1 rfl, blk_cell J8.out 2 rfl, blk_cell J8.out 3 rfl⟩
      obtain ⟨d0, d1⟩ := HD.out W8 (XR.out.trans Y8.out)
      by_cases e2 : y2 = 0
      · have g2 : (y2 == 0) = true := by simpa using e2
        by_cases ep : p ∈ y1
        · have hgo : goesH p ⟨y0, y1, y2, y3⟩ = true := by unfold goesH; rw [decide_eq_true (show y2 = 0 from e2), decide_eq_true (show p ∈ y1 from ep)]; rfl
          have HID : Hid (decide (y0 ∈ I) = true) := Lib.hid (HID0.out.trans hgo)
          have hr0 : ¬ 0 ≤ r := by have := HFI0.out.2 hgo; omega
          have HEP : Hid (decide (p ∈ y1) = true) := Lib.hid (decide_eq_true ep)
          clear e2 ep hgo
          go_upto_region 11 with ((have hgd := HEP; go_at_call 22; refine (refHas_val W8 _ y1 p (HSN.out.ext Y8.out) _ HEP.out).mono ?_; rintro e w' ⟨rfl, rfl⟩))
          clear HEP
          go_wp2_with (first
            | (go_at_call 22; refine (refHas_val W8 _ I y0 (S6.out.ext (Y7.out.trans (XR.out.trans Y8.out))) _ HID.out).mono ?_; rintro e w' ⟨rfl, rfl⟩)
            | (go_at_call 16; refine (refFind_any _ W8 n y0 _ K (N6.out.ext (Y7.out.trans (XR.out.trans Y8.out))) r HR.out).mono ?_; rintro e wF ⟨rfl, xF⟩; have XF : Hid (Ext W7 wF) := Lib.hid (XR.out.trans (Y8.out.trans xF)); clear xF))
          go_roundw
          case rel => exact ⟨k + 1, by omega, by go_num, XF⟩
          case measure => simp [intOf]; omega
        · have hgo : goesH p ⟨y0, y1, y2, y3⟩ = false := by unfold goesH; rw [decide_eq_false (show ¬ p ∈ y1 from ep), Bool.and_false]
          have HID : Hid (decide (y0 ∈ I) = false) := Lib.hid (HID0.out.trans hgo)
          have hr0 : 0 ≤ r := by
            rcases Int.lt_or_le r 0 with q | q
            · have := HFI0.out.1 q; rw [hgo] at this; cases this
            · exact q
          have HEP : Hid (decide (p ∈ y1) = false) := Lib.hid (decide_eq_false ep)
          clear e2 ep hgo
          go_upto_region 11 with ((have hgd := HEP; go_at_call 22; refine (refHas_val W8 _ y1 p (HSN.out.ext Y8.out) _ HEP.out).mono ?_; rintro e w' ⟨rfl, rfl⟩))
          clear HEP
          go_wp2_with (first
            | (go_at_call 22; refine (refHas_val W8 _ I y0 (S6.out.ext (Y7.out.trans (XR.out.trans Y8.out))) _ HID.out).mono ?_; rintro e w' ⟨rfl, rfl⟩)
            | (go_at_call 16; refine (refFind_any _ W8 n y0 _ K (N6.out.ext (Y7.out.trans (XR.out.trans Y8.out))) r HR.out).mono ?_; rintro e wF ⟨rfl, xF⟩; have XF : Hid (Ext W7 wF) := Lib.hid (XR.out.trans (Y8.out.trans xF)); clear xF))
          go_roundw
          case rel => exact ⟨k + 1, by omega, by go_num, XF⟩
          case measure => simp [intOf]; omega
      · have g2 : (y2 == 0) = false := by simpa using e2
        have hgo : goesH p ⟨y0, y1, y2, y3⟩ = false := by unfold goesH; rw [decide_eq_false (show ¬ y2 = 0 from e2), Bool.false_and]
        have HID : Hid (decide (y0 ∈ I) = false) := Lib.hid (HID0.out.trans hgo)
        have hr0 : 0 ≤ r := by
          rcases Int.lt_or_le r 0 with q | q
          · have := HFI0.out.1 q; rw [hgo] at this; cases this
          · exact q
        clear e2 hgo
        go_upto_region 11 with (fail)
        go_wp2_with (first
          | (go_at_call 22; refine (refHas_val W8 _ I y0 (S6.out.ext (Y7.out.trans (XR.out.trans Y8.out))) _ HID.out).mono ?_; rintro e w' ⟨rfl, rfl⟩)
          | (go_at_call 16; refine (refFind_any _ W8 n y0 _ K (N6.out.ext (Y7.out.trans (XR.out.trans Y8.out))) r HR.out).mono ?_; rintro e wF ⟨rfl, xF⟩; have XF : Hid (Ext W7 wF) := Lib.hid (XR.out.trans (Y8.out.trans xF)); clear xF))
        go_roundw
        case rel => exact ⟨k + 1, by omega, by go_num, XF⟩
        case measure => simp [intOf]; omega
    · obtain ⟨d0, d1⟩ := HD.out wr XR.out
      go_wp2_with (first
        | (go_at_call 25; refine (HQ2.out ▸ sessGone_any Non w8 n p _ K N8.out HLL.out (fun b hb => hb.elim)).mono ?_; rintro e w9 ⟨a9, m9, c9, b9, i9, j9, rfl, n9, s9, x9⟩; dsimp only at n9 s9 ⊢; obtain rfl : i9 = 0 := (by obtain ⟨_, _, e⟩ := s9.sl.len; simp only [Value.slice.injEq] at e; exact e.2.1); have N9 := Lib.hid n9; have X9 : Hid (Ext W7 w9) := Lib.hid (X8.out.trans x9); clear n9 s9 x9)
        | (go_at_call 13; refine (ownBk_any Non wr n _ K (N6.out.ext (Y7.out.trans XR.out)) HLL.out HLS.out (fun b hb => hb.elim)).mono ?_; rintro e w8 ⟨a8, m8, c8, rfl, n8, x8⟩; have N8 := Lib.hid n8; have X8 : Hid (Ext W7 w8) := Lib.hid (XR.out.trans x8); clear n8 x8)
        | refine haltst 24 ?_)
      refine .inl ?_
      obtain ⟨gy, hgy⟩ : ∃ g, g = w9.heap.size := ⟨_, rfl⟩
      have hb := at0 w9 (.cells #[.int .i64 0, .slice none 0 0] 24)
      rw [← hgy] at hb ⊢
      refine st_l 24 (.tmp 11) (.tmp 80) gy 0 24 _ #[.int .i64 n, .slice a9 m9 c9] _ rfl rfl hb (by kernel_rfl) (by simp) rfl rfl ?_
      intro WB hWB oB
      simp only [Act.put]
      have YB : Hid (Ext w9 WB) := Lib.hid (ext_off ((Ext.refl w9).alloc _) oB (fun b hb => by omega))
      have XB : Hid (Ext W7 WB) := Lib.hid (X9.out.trans YB.out)
      have e0 := blk_cell hWB 0 rfl
      have e1 := blk_cell hWB 1 rfl
      clear hWB oB hb hgy k0 k1 d0 d1
      obtain ⟨d0, d1⟩ := HD.out WB XB.out
      obtain ⟨k0, k1⟩ := HK.out WB (X7.out.trans XB.out)
      go_wp2_with (first
        | (go_at_call 18; refine (refBkSame_any Non Non WB n n _ _ K K (N6.out.ext (Y7.out.trans XB.out)) (N9.out.ext YB.out) true (decide_eq_true rfl)).mono ?_; rintro e wC ⟨rfl, xC⟩; have XC : Hid (Ext W7 wC) := Lib.hid (XB.out.trans xC); clear xC))
      go_ret
      exact ⟨rfl, X0.out.trans (X7.out.trans XC.out)⟩

end Go.Proofs.Ytgcnjkabpcbkgaa
