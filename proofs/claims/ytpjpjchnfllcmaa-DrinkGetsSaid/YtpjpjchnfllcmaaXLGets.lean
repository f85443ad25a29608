/- Layer 15, the laws: DrinkGets. -/
import Derived.Test.YtpjpjchnfllcmaaXF
import Derived.Test.YtpjpjchnfllcmaaXE
import Derived.Test.YtpjpjchnfllcmaaX8
import Derived.BigGuard
namespace Go.Proofs.Ytpjpjchnfllcmaa
open Go.RowKit

set_option maxRecDepth 100000 in
set_option maxHeartbeats 16000000 in
theorem drinkGets_any (w : World) (id ph th : Int) (ao : Option Addr) (c : Nat) (na : Option Addr) (nc : Nat) (L : List Sd) (N : List Int) (peer k me n : Int) (h : Sl w (.slice ao L.length c) L) (hN : Sl w (.slice na N.length nc) N) :
    Calls Try.prog 4 #[.agg #[.int .i64 id, .int .i64 ph, .slice ao L.length c, .int .i64 th, .slice na N.length nc], .int .i64 peer, .agg #[.int .i64 k, .int .i64 me, .int .i64 n]] w fun e w' => e = .returned (.bool true) ∧ Ext w w' := by
  have hlen := h.length_le
  have hlenN := hN.length_le
  obtain ⟨W0, hW0⟩ : ∃ W0, W0 = (w.alloc (.cells #[.int .i64 id, .int .i64 ph, .slice ao L.length c, .int .i64 th, .slice na N.length nc] 29)).alloc (.cells #[.int .i64 k, .int .i64 me, .int .i64 n] 44) := ⟨_, rfl⟩
  have X0 : Hid (Ext w W0) := Lib.hid (hW0 ▸ ((Ext.refl w).alloc _).alloc _)
  have D0 : Hid (W0.heap[w.heap.size]? = some (.cells #[.int .i64 id, .int .i64 ph, .slice ao L.length c, .int .i64 th, .slice na N.length nc] 29 (0, 0))) := Lib.hid (hW0 ▸ old1 (at0 w _) _)
  have M0 : Hid (W0.heap[w.heap.size + 1]? = some (.cells #[.int .i64 k, .int .i64 me, .int .i64 n] 44 (0, 0))) := Lib.hid (hW0 ▸ at1 w _ _)
  have HW0 := Lib.hid hW0
  have HS := Lib.hid (h.ext X0.out)
  have HN := Lib.hid (hN.ext X0.out)
  clear h hN hW0
  obtain ⟨⟨d0, d1, d2⟩, d3, d4⟩ := cells5 D0.out
  obtain ⟨t70, h70⟩ : ∃ t, (decide (L.length ≤ 70) && decide (N.length ≤ 70)) = t := ⟨_, rfl⟩
  have H70 := Lib.hid h70
  clear h70
  go_enter Try.func4, Try.ntmps4
  go_upto_region 1 with (fail)
  rw [← HW0.out]
  cases t70
  · go_wp2_with (first
      | (go_at_call 10; have hgd := XB; refine (awake_any _).mono ?_; rintro e wc ⟨rfl, hx⟩; have XC : Hid (Ext W0 wc) := Lib.hid (XB.out.trans hx); clear hx hgd)
      | (go_at_call 10; refine (awake_any W0).mono ?_; rintro e wa ⟨rfl, hx⟩; have XA : Hid (Ext W0 wa) := Lib.hid hx; clear d0 d1 d2 d3 d4; obtain ⟨⟨d0, d1, d2⟩, d3, d4⟩ := cells5 (keepU D0.out hx); clear hx)
      | (go_at_call 11; refine (dkFew_any wa id ph th _ _ L N (HS.out.ext XA.out) (HN.out.ext XA.out) _ H70.out).mono ?_; rintro e wb ⟨rfl, hx⟩; have hx := Ext.trans XA.out hx; have XB : Hid (Ext W0 wb) := Lib.hid hx; clear d0 d1 d2 d3 d4; obtain ⟨⟨d0, d1, d2⟩, d3, d4⟩ := cells5 (keepU D0.out hx); clear hx))
    go_ret
    exact ⟨rfl, X0.out.trans XC.out⟩
  have h70 := H70.out
  simp only [Bool.and_eq_true, decide_eq_true_eq] at h70
  have hL : L.length ≤ 1000 := by omega
  have hNl : N.length ≤ 1000 := by omega
  clear h70
  obtain ⟨⟨⟨i1, p1, S1, t1, P1⟩, er⟩, hr⟩ : ∃ r, getK ⟨id, ph, L, th, N⟩ peer k me n = r := ⟨_, rfl⟩
  have HR := Lib.hid hr
  clear hr
  go_upto_region 3 with (first
    | (go_at_call 10; refine (awake_any W0).mono ?_; rintro e wa ⟨rfl, hx⟩; have XA : Hid (Ext W0 wa) := Lib.hid hx; clear d0 d1 d2 d3 d4; obtain ⟨⟨d0, d1, d2⟩, d3, d4⟩ := cells5 (keepU D0.out hx); clear hx)
    | (go_at_call 11; refine (dkFew_any wa id ph th _ _ L N (HS.out.ext XA.out) (HN.out.ext XA.out) _ H70.out).mono ?_; rintro e wb ⟨rfl, hx⟩; have hx := Ext.trans XA.out hx; have XB : Hid (Ext W0 wb) := Lib.hid hx; clear d0 d1 d2 d3 d4; obtain ⟨⟨d0, d1, d2⟩, d3, d4⟩ := cells5 (keepU D0.out hx); clear hx))
  clear d0 d1 d2 d3 d4
  go_cut [7, 8] (fun s7 s8 wx => ∃ g7 a2 c2 b2 e2, s7 = .pointer (some ⟨g7, 0, none⟩) ∧ s8 = .int .i64 er ∧ Hid (wx.heap[g7]? = some (.cells #[.int .i64 i1, .int .i64 p1, .slice a2 S1.length c2, .int .i64 t1, .slice b2 P1.length e2] 29 (0, 0))) ∧ Hid (Sl wx (.slice a2 S1.length c2) S1) ∧ Hid (Sl wx (.slice b2 P1.length e2) P1) ∧ Hid (Ext W0 wx))
  case first =>
    (refine wp_region_X_lit (K := fun V => Ext W0 V) (by kernel_rfl) (fun w1 hw1 => ?_))
    have XZ : Hid (Ext W0 w1) := Lib.hid (XB.out.trans hw1)
    clear hw1
    refine xtv 0 (hv := by intro w' hw'; obtain ⟨⟨d0, d1, d2⟩, d3, d4⟩ := cells5 (keepU D0.out hw'); go_simp; first | done | with_reducible rfl) (h := ?_)
    refine xtv 2 (h := ?_)
    refine xtv 3 (hv := by intro w' hw'; obtain ⟨m0, m1, m2⟩ := cells3U (keepU M0.out hw'); go_simp; first | done | with_reducible rfl) (h := ?_)
    refine xtwo 1 8 (hk := XZ.out) (h := RunX.of 1 (h := ?_)) (h' := RunX.of 8 (h := ?_))
    · go_simp
      refine (dkOwn_any w1 id ph th _ _ L N (HS.out.ext XZ.out) (HN.out.ext XZ.out) hL hNl).mono ?_
      rintro e3' w3 ⟨v3, u3, rfl, s3, q3, x3⟩
      obtain ⟨a3, c3, rfl⟩ := s3.len
      obtain ⟨b3, e3, rfl⟩ := q3.len
      have HSd3 := Lib.hid s3
      have HNd3 := Lib.hid q3
      have X3 : Hid (Ext W0 w3) := Lib.hid (Ext.trans XZ.out x3)
      have Y3 : Hid (Ext w1 w3) := Lib.hid x3
      clear s3 q3 x3
      dsimp only
      (try (simp only [Act.put, List.setIfInBounds_toArray, List.set]))
      refine xtwo 4 8 (hk := X3.out) (h := RunX.of 4 (h := ?_)) (h' := RunX.of 8 (h := ?_))
      · go_simp
        refine (HR.out ▸ dkGet_any w3 id ph th peer k me n _ _ L N (HSd3.out.ext (Ext.refl _)) (HNd3.out.ext (Ext.refl _)) hL hNl : Calls Try.prog 20 #[.agg #[.int .i64 id, .int .i64 ph, .slice a3 L.length c3, .int .i64 th, .slice b3 N.length e3], .int .i64 peer, .agg #[.int .i64 k, .int .i64 me, .int .i64 n]] w3 (GivesDN w3 (⟨i1, p1, S1, t1, P1⟩, er))).mono ?_
        rintro e4' w4 ⟨v4, u4, rfl, s4, q4, x4, nw4⟩
        obtain ⟨a4, c4, rfl⟩ := s4.len
        obtain ⟨b4, e4, rfl⟩ := q4.len
        dsimp only at s4 q4 nw4 ⊢
        have HSd4 := Lib.hid s4
        have HNd4 := Lib.hid q4
        have X4 : Hid (Ext W0 w4) := Lib.hid (Ext.trans X3.out x4)
        have Y4 : Hid (Ext w3 w4) := Lib.hid x4
        have HNW4 := Lib.hid nw4
        clear s4 q4 x4 nw4
        (try (simp only [Act.put, List.setIfInBounds_toArray, List.set]))
        refine xtv 5 (h := ?_)
        refine xtv 6 (h := ?_)
        refine xtv 7 (h := ?_)
        refine xone 8 (hk := X4.out) (h := RunX.of 8 (h := ?_))
        go_simp
        (try (simp only [Act.put, List.setIfInBounds_toArray, List.set]))
        obtain ⟨gx, hgx⟩ : ∃ g, g = w4.heap.size := ⟨_, rfl⟩
        obtain ⟨w5, hw5⟩ : ∃ q, q = w4.alloc (.cells #[.int .i64 0, .int .i64 0, .slice none 0 0, .int .i64 0, .slice none 0 0] 29) := ⟨_, rfl⟩
        have B5 : Hid (w5.heap[gx]? = some (.cells #[.int .i64 0, .int .i64 0, .slice none 0 0, .int .i64 0, .slice none 0 0] 29 (0, 0))) := Lib.hid (hw5 ▸ hgx ▸ at0 w4 _)
        have X5 : Hid (Ext W0 w5) := Lib.hid (hw5 ▸ X4.out.alloc _)
        have Y5 : Hid (Ext w4 w5) := Lib.hid (hw5 ▸ (Ext.refl _).alloc _)
        have hgw : W0.heap.size ≤ gx := hgx ▸ Below.size X4.out
        have HGX : Hid (gx = w4.heap.size) := Lib.hid hgx
        rw [← hw5, ← hgx]
        clear hw5 hgx
        refine xone 9 (hk := X5.out) (h := RunX.of 9 (h := ?_))
        refine wp_st 29 (.tmp 7) (.tmp 25) rfl gx 0 29 #[.int .i64 0, .int .i64 0, .slice none 0 0, .int .i64 0, .slice none 0 0] #[.int .i64 i1, .int .i64 p1, .slice a4 S1.length c4, .int .i64 t1, .slice b4 P1.length e4] #[.int .i64 i1, .int .i64 p1, .slice a4 S1.length c4, .int .i64 t1, .slice b4 P1.length e4] rfl rfl B5.out (by kernel_rfl) (by simp) rfl rfl ?_
        intro WB hWB oB
        simp only [Act.put]
        have YB : Hid (Ext W0 WB) := Lib.hid (ext_off X5.out oB (fun b hb => by omega))
        have RB := Lib.hid hWB
        have SB := Lib.hid ((HSd4.out.ext Y5.out).off (apartSd (HSd4.out.ext Y5.out) B5.out (by simp)) oB)
        have QB := Lib.hid ((HNd4.out.ext Y5.out).off (HNd4.out.low.imp (fun q => q) fun q b hb hf => by have := q b hb; have := HGX.out; omega) oB)
        clear hWB oB
        refine xtv 10 (h := ?_)
        (refine xdone (by kernel_rfl) (YB.out) ?_)
        go_wp2_with fail
        go_meet
        exact ⟨gx, _, _, _, _, rfl, rfl, RB, SB, QB, YB⟩
      · go_simp
        (try (simp only [Act.put, List.setIfInBounds_toArray, List.set]))
        obtain ⟨gx, hgx⟩ : ∃ g, g = w3.heap.size := ⟨_, rfl⟩
        obtain ⟨w5, hw5⟩ : ∃ q, q = w3.alloc (.cells #[.int .i64 0, .int .i64 0, .slice none 0 0, .int .i64 0, .slice none 0 0] 29) := ⟨_, rfl⟩
        have B5 : Hid (w5.heap[gx]? = some (.cells #[.int .i64 0, .int .i64 0, .slice none 0 0, .int .i64 0, .slice none 0 0] 29 (0, 0))) := Lib.hid (hw5 ▸ hgx ▸ at0 w3 _)
        have X5 : Hid (Ext W0 w5) := Lib.hid (hw5 ▸ X3.out.alloc _)
        have Y5 : Hid (Ext w3 w5) := Lib.hid (hw5 ▸ (Ext.refl _).alloc _)
        have hgw : W0.heap.size ≤ gx := hgx ▸ Below.size X3.out
        have HGX : Hid (gx = w3.heap.size) := Lib.hid hgx
        rw [← hw5, ← hgx]
        clear hw5 hgx
        refine xone 4 (hk := X5.out) (h := RunX.of 4 (h := ?_))
        go_simp
        refine (HR.out ▸ dkGet_any w5 id ph th peer k me n _ _ L N (HSd3.out.ext Y5.out) (HNd3.out.ext Y5.out) hL hNl : Calls Try.prog 20 #[.agg #[.int .i64 id, .int .i64 ph, .slice a3 L.length c3, .int .i64 th, .slice b3 N.length e3], .int .i64 peer, .agg #[.int .i64 k, .int .i64 me, .int .i64 n]] w5 (GivesDN w5 (⟨i1, p1, S1, t1, P1⟩, er))).mono ?_
        rintro e4' w4 ⟨v4, u4, rfl, s4, q4, x4, nw4⟩
        obtain ⟨a4, c4, rfl⟩ := s4.len
        obtain ⟨b4, e4, rfl⟩ := q4.len
        dsimp only at s4 q4 nw4 ⊢
        have HSd4 := Lib.hid s4
        have HNd4 := Lib.hid q4
        have X4 : Hid (Ext W0 w4) := Lib.hid (Ext.trans X5.out x4)
        have Y4 : Hid (Ext w5 w4) := Lib.hid x4
        have HNW4 := Lib.hid nw4
        clear s4 q4 x4 nw4
        (try (simp only [Act.put, List.setIfInBounds_toArray, List.set]))
        refine xtv 5 (h := ?_)
        refine xtv 6 (h := ?_)
        refine xtv 7 (h := ?_)
        refine xone 9 (hk := X4.out) (h := RunX.of 9 (h := ?_))
        refine wp_st 29 (.tmp 7) (.tmp 25) rfl gx 0 29 #[.int .i64 0, .int .i64 0, .slice none 0 0, .int .i64 0, .slice none 0 0] #[.int .i64 i1, .int .i64 p1, .slice a4 S1.length c4, .int .i64 t1, .slice b4 P1.length e4] #[.int .i64 i1, .int .i64 p1, .slice a4 S1.length c4, .int .i64 t1, .slice b4 P1.length e4] rfl rfl (keepU B5.out Y4.out) (by kernel_rfl) (by simp) rfl rfl ?_
        intro WB hWB oB
        simp only [Act.put]
        have YB : Hid (Ext W0 WB) := Lib.hid (ext_off X4.out oB (fun b hb => by omega))
        have RB := Lib.hid hWB
        have SB := Lib.hid (HSd4.out.off (apartSd HSd4.out (keepU B5.out Y4.out) (by simp)) oB)
        have QB := Lib.hid (HNd4.out.off (.inr fun b hb hf => by have := HNW4.out b hb; have := blk_lt B5.out; omega) oB)
        clear hWB oB
        refine xtv 10 (h := ?_)
        (refine xdone (by kernel_rfl) (YB.out) ?_)
        go_wp2_with fail
        go_meet
        exact ⟨gx, _, _, _, _, rfl, rfl, RB, SB, QB, YB⟩
    · go_simp
      (try (simp only [Act.put, List.setIfInBounds_toArray, List.set]))
      obtain ⟨gx, hgx⟩ : ∃ g, g = w1.heap.size := ⟨_, rfl⟩
      obtain ⟨w2, hw2⟩ : ∃ q, q = w1.alloc (.cells #[.int .i64 0, .int .i64 0, .slice none 0 0, .int .i64 0, .slice none 0 0] 29) := ⟨_, rfl⟩
      have B2 : Hid (w2.heap[gx]? = some (.cells #[.int .i64 0, .int .i64 0, .slice none 0 0, .int .i64 0, .slice none 0 0] 29 (0, 0))) := Lib.hid (hw2 ▸ hgx ▸ at0 w1 _)
      have X2 : Hid (Ext W0 w2) := Lib.hid (hw2 ▸ XZ.out.alloc _)
      have Y2 : Hid (Ext w1 w2) := Lib.hid (hw2 ▸ (Ext.refl _).alloc _)
      have hgw : W0.heap.size ≤ gx := hgx ▸ Below.size XZ.out
      have HGX : Hid (gx = w1.heap.size) := Lib.hid hgx
      rw [← hw2, ← hgx]
      clear hw2 hgx
      refine xone 1 (hk := X2.out) (h := RunX.of 1 (h := ?_))
      go_simp
      refine (dkOwn_any w2 id ph th _ _ L N (HS.out.ext X2.out) (HN.out.ext X2.out) hL hNl).mono ?_
      rintro e3' w3 ⟨v3, u3, rfl, s3, q3, x3⟩
      obtain ⟨a3, c3, rfl⟩ := s3.len
      obtain ⟨b3, e3, rfl⟩ := q3.len
      have HSd3 := Lib.hid s3
      have HNd3 := Lib.hid q3
      have X3 : Hid (Ext W0 w3) := Lib.hid (Ext.trans X2.out x3)
      have Y3 : Hid (Ext w2 w3) := Lib.hid x3
      clear s3 q3 x3
      dsimp only
      (try (simp only [Act.put, List.setIfInBounds_toArray, List.set]))
      refine xone 4 (hk := X3.out) (h := RunX.of 4 (h := ?_))
      go_simp
      refine (HR.out ▸ dkGet_any w3 id ph th peer k me n _ _ L N (HSd3.out.ext (Ext.refl _)) (HNd3.out.ext (Ext.refl _)) hL hNl : Calls Try.prog 20 #[.agg #[.int .i64 id, .int .i64 ph, .slice a3 L.length c3, .int .i64 th, .slice b3 N.length e3], .int .i64 peer, .agg #[.int .i64 k, .int .i64 me, .int .i64 n]] w3 (GivesDN w3 (⟨i1, p1, S1, t1, P1⟩, er))).mono ?_
      rintro e4' w4 ⟨v4, u4, rfl, s4, q4, x4, nw4⟩
      obtain ⟨a4, c4, rfl⟩ := s4.len
      obtain ⟨b4, e4, rfl⟩ := q4.len
      dsimp only at s4 q4 nw4 ⊢
      have HSd4 := Lib.hid s4
      have HNd4 := Lib.hid q4
      have X4 : Hid (Ext W0 w4) := Lib.hid (Ext.trans X3.out x4)
      have Y4 : Hid (Ext w3 w4) := Lib.hid x4
      have HNW4 := Lib.hid nw4
      clear s4 q4 x4 nw4
      (try (simp only [Act.put, List.setIfInBounds_toArray, List.set]))
      refine xtv 5 (h := ?_)
      refine xtv 6 (h := ?_)
      refine xtv 7 (h := ?_)
      refine xone 9 (hk := X4.out) (h := RunX.of 9 (h := ?_))
      refine wp_st 29 (.tmp 7) (.tmp 25) rfl gx 0 29 #[.int .i64 0, .int .i64 0, .slice none 0 0, .int .i64 0, .slice none 0 0] #[.int .i64 i1, .int .i64 p1, .slice a4 S1.length c4, .int .i64 t1, .slice b4 P1.length e4] #[.int .i64 i1, .int .i64 p1, .slice a4 S1.length c4, .int .i64 t1, .slice b4 P1.length e4] rfl rfl (keepU (keepU B2.out Y3.out) Y4.out) (by kernel_rfl) (by simp) rfl rfl ?_
      intro WB hWB oB
      simp only [Act.put]
      have YB : Hid (Ext W0 WB) := Lib.hid (ext_off X4.out oB (fun b hb => by omega))
      have RB := Lib.hid hWB
      have SB := Lib.hid (HSd4.out.off (apartSd HSd4.out (keepU (keepU B2.out Y3.out) Y4.out) (by simp)) oB)
      have QB := Lib.hid (HNd4.out.off (.inr fun b hb hf => by have := HNW4.out b hb; have := blk_lt (keepU B2.out Y3.out); omega) oB)
      clear hWB oB
      refine xtv 10 (h := ?_)
      (refine xdone (by kernel_rfl) (YB.out) ?_)
      go_wp2_with fail
      go_meet
      exact ⟨gx, _, _, _, _, rfl, rfl, RB, SB, QB, YB⟩
  case rest =>
    obtain ⟨g7, a2, c2, b2, e2, rfl, rfl, G7, SD7, ND7, XC7⟩ := hcut
    obtain ⟨⟨d0, d1, d2⟩, d3, d4⟩ := cells5 (keepU D0.out XC7.out)
    obtain ⟨m0, m1, m2⟩ := cells3U (keepU M0.out XC7.out)
    go_upto_region 5 with (first
      | (go_at_call 21; refine (HR.out ▸ refDkGet_any wc id ph th peer k me n _ _ L N (HS.out.ext XC7.out) (HN.out.ext XC7.out) hL : Calls Try.prog 21 #[.agg #[.int .i64 id, .int .i64 ph, .slice ao L.length c, .int .i64 th, .slice na N.length nc], .int .i64 peer, .agg #[.int .i64 k, .int .i64 me, .int .i64 n]] wc (GivesD wc (⟨i1, p1, S1, t1, P1⟩, er))).mono ?_; rintro e w5 ⟨v5, u5, rfl, s5, q5, x5⟩; obtain ⟨a5, c5, rfl⟩ := s5.len; obtain ⟨b5, e5, rfl⟩ := q5.len; have HSd5 := Lib.hid s5; have HNd5 := Lib.hid q5; have X5 : Hid (Ext W0 w5) := Lib.hid (Ext.trans XC7.out x5); have Y5 := Lib.hid x5; clear s5 q5 x5))
    obtain ⟨g9, hg9⟩ : ∃ g, g = w5.heap.size := ⟨_, rfl⟩
    obtain ⟨W6, hW6⟩ : ∃ W, W = w5.alloc (.cells #[.int .i64 i1, .int .i64 p1, .slice a5 S1.length c5, .int .i64 t1, .slice b5 P1.length e5] 29) := ⟨_, rfl⟩
    have XW6 : Hid (Ext W0 W6) := Lib.hid (hW6 ▸ X5.out.alloc _)
    have Bg9 : Hid (W6.heap[g9]? = some (.cells #[.int .i64 i1, .int .i64 p1, .slice a5 S1.length c5, .int .i64 t1, .slice b5 P1.length e5] 29 (0, 0))) := Lib.hid (by rw [hW6, hg9]; exact at0 w5 _)
    have SA6 := Lib.hid (hW6 ▸ HSd5.out.alloc _ : Sl W6 (.slice a5 S1.length c5) S1)
    have QA6 := Lib.hid (hW6 ▸ HNd5.out.alloc _ : Sl W6 (.slice b5 P1.length e5) P1)
    have Z6 := Lib.hid (hW6 ▸ Y5.out.alloc _ : Ext wc W6)
    rw [← hW6, ← hg9]
    clear hW6 hg9
    clear d0 d1 d2 d3 d4 m0 m1 m2
    obtain ⟨⟨k0, k1, k2⟩, k3, k4⟩ := cells5 (keepU G7.out Z6.out)
    obtain ⟨⟨l0, l1, l2⟩, l3, l4⟩ := cells5 Bg9.out
    go_wp2_with (first
      | (go_at_call 15; refine (refDkSame_any W6 i1 p1 t1 i1 p1 t1 _ _ _ _ S1 S1 P1 P1 (SD7.out.ext Z6.out) SA6.out (ND7.out.ext Z6.out) QA6.out true (by simp)).mono ?_; rintro e w8 ⟨rfl, hx⟩; have X8 : Hid (Ext W0 w8) := Lib.hid (XW6.out.trans hx); clear hx))
    go_ret
    exact ⟨rfl, X0.out.trans X8.out⟩
end Go.Proofs.Ytpjpjchnfllcmaa
