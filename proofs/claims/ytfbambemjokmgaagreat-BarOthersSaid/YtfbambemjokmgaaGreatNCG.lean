/- Texts of this seat. -/
import Derived.Test.YtfbambemjokmgaaGreatNBB
import Derived.Test.YtfbambemjokmgaaGreatNBN
import Derived.Test.YtfbambemjokmgaaGreatNBS
import Derived.Test.YtfbambemjokmgaaGreatNBU
import Derived.Test.YtfbambemjokmgaaGreatNBV
import Derived.Test.YtfbambemjokmgaaGreatNCE
namespace Go.Proofs.YtfbambemjokmgaaGreat
open Go.RowKit
def fewK (L : List Dk) (m : Nat) : Bool := ((L.take 25).all fun d => decide (d.need.length ≤ 24)) && decide (L.length ≤ 24) && fewB (L.map Dk.dn) m
set_option maxHeartbeats 1000000 in
theorem refFewB_any (w : World) (v vm : Value) (L : List Dk) (M : List Ml) (h : BV w v vm L M) (t : Bool) (ht : fewK L M.length = t) :
    Calls Tryz.prog 12 #[.agg #[v, vm]] w fun e w' => e = .returned (.bool t) ∧ Ext w w' := by
  obtain ⟨ao, c, mo, mc, rfl, rfl⟩ := h.len
  have HV := Lib.hid h
  have HS := Lib.hid h.ds
  have hml := h.ms.length_le
  have HT := Lib.hid ht
  have l1 := h.ds.length_le
  have HK : Hid (∀ V, Ext (w.alloc (.cells #[.slice ao L.length c, .slice mo M.length mc] 25)) V → V.cell? ⟨w.heap.size, 0, none⟩ = some (.slice ao L.length c) ∧ V.cell? ⟨w.heap.size, 1, none⟩ = some (.slice mo M.length mc)) := Lib.hid fun V hV => ⟨cell_atD V hV rfl, cell_atD V hV rfl⟩
  clear h ht
  go_enter Tryz.func12, Tryz.ntmps12
  go_wp2
  go_loopw [3] (fun i wr => ∃ k : Nat, k ≤ L.length ∧ k ≤ 25 ∧ i = .int .i64 k ∧ Hid ((L.take k).all (fun d => decide (d.need.length ≤ 24)) = true) ∧ Hid (Ext (w.alloc (.cells #[.slice ao L.length c, .slice mo M.length mc] 25)) wr)) (fun i _ => L.length - (intOf i).toNat)
  case atStart => exact ⟨0, Nat.zero_le _, by omega, rfl, Lib.hid rfl, Lib.hid (Ext.refl _)⟩
  case round =>
    obtain ⟨k, hk, hk25, rfl, HQ, HX⟩ := hrel
    obtain ⟨k0, k1⟩ := HK.out wr HX.out
    have XX := Lib.hid (Ext.trans ((Ext.refl w).alloc _) HX.out)
    by_cases hlt : k < L.length
    · by_cases h25 : k < 25
      · obtain ⟨b1, o1, so1, sc1, no1, nc1, d, hyk, rfl, hn, hnc, hc63, hb, hsl, hnl, hcell⟩ := HS.out.drinkerAt hlt
        obtain ⟨⟨a0, a1, a2⟩, a3, a4⟩ := hcell wr XX.out
        have HN := Lib.hid (all_nextD (fun d : Dk => decide (d.need.length ≤ 24)) hyk)
        have hdl := hnl.sl.length_le
        clear hcell hyk hn hsl hnl a0 a1 a2 a3
        by_cases h24 : d.need.length ≤ 24
        · have hi24 : ¬ (24 : Int) < (d.need.length : Int) := by omega
          have HF : Hid ((L.take (k + 1)).all (fun d => decide (d.need.length ≤ 24)) = true) := Lib.hid (HN.out.trans (by rw [HQ.out, decide_eq_true h24]; rfl))
          go_wp2
          go_roundw
          case rel => exact ⟨k + 1, by omega, by omega, by go_num, HF, HX⟩
          case measure => simp [intOf]; omega
        · have hi24 : (24 : Int) < (d.need.length : Int) := by omega
          have HF : Hid (false = t) := Lib.hid (by
            rw [← HT.out]
            unfold fewK
            rw [all_takeD (k := k + 1) (by omega) (HN.out.trans (by rw [decide_eq_false h24, Bool.and_false]))]
            rfl)
          go_wp2
          go_ret
          exact ⟨ret_bool HF.out, XX.out⟩
      · have hi25 : ¬ (k : Int) < 25 := by omega
        have hL24 : ¬ (L.length : Int) ≤ 24 := by omega
        have HF : Hid (false = t) := Lib.hid (by rw [← HT.out]; unfold fewK; rw [decide_eq_false (show ¬ L.length ≤ 24 by omega), Bool.and_false, Bool.false_and])
        go_wp2
        go_ret
        exact ⟨ret_bool HF.out, XX.out⟩
    · have hkl : k = L.length := by omega
      have HA : Hid ((L.take 25).all (fun d => decide (d.need.length ≤ 24)) = true) := Lib.hid (by
        have hq := HQ.out
        rw [hkl, List.take_length] at hq
        rw [List.take_of_length_le (by omega)]
        exact hq)
      by_cases h24 : L.length ≤ 24
      · have hL24 : (L.length : Int) ≤ 24 := by omega
        have HV2 := Lib.hid (HV.out.ext XX.out)
        have hT : fewB (L.map Dk.dn) M.length = t := by rw [← HT.out]; unfold fewK; rw [HA.out, decide_eq_true h24]; rfl
        have HTT := Lib.hid hT
        clear hT
        go_wp2_with (first
          | (go_at_call 27; refine (refSceneB_any wr _ _ L M HV2.out (by omega)).mono ?_; rintro e w1 ⟨vd, mo1, mn1, mc1, rfl, rfl, sv1, hx⟩; have S1 := Lib.hid sv1; have X1 := Lib.hid (XX.out.trans hx); clear sv1 hx)
          | (go_at_call 49; refine (refFew_any Non w1 _ _ _ _ (L.map Dk.dn) S1.out.ds hml t HTT.out).mono ?_; rintro e w2 ⟨rfl, hx⟩; have X2 := Lib.hid (X1.out.trans hx); clear hx))
        go_ret
        exact ⟨rfl, X2.out⟩
      · have hL24 : ¬ (L.length : Int) ≤ 24 := by omega
        have HF : Hid (false = t) := Lib.hid (by rw [← HT.out]; unfold fewK; rw [decide_eq_false h24, Bool.and_false, Bool.false_and])
        go_wp2
        go_ret
        exact ⟨ret_bool HF.out, XX.out⟩
end Go.Proofs.YtfbambemjokmgaaGreat
namespace Go.Proofs.YtfbambemjokmgaaGreat
open Go.RowKit
theorem fewK_lens {L : List Dk} {m : Nat} (h : fewK L m = true) : L.length ≤ 24 ∧ m ≤ 40 ∧ (∀ d ∈ L, d.sides.length ≤ 24) ∧ ∀ d ∈ L, d.need.length ≤ 24 := by
  simp only [fewK, Bool.and_eq_true, decide_eq_true_eq] at h
  obtain ⟨⟨h1, h2⟩, h3⟩ := h
  obtain ⟨g1, g2, g3⟩ := fewT_lens h3
  refine ⟨h2, g2, fun d hd => g3 d.dn (List.mem_map.2 ⟨d, hd, rfl⟩), fun d hd => ?_⟩
  rw [List.take_of_length_le (by omega)] at h1
  simpa using List.all_eq_true.1 h1 d hd
theorem stepBB_rest {ds ds2 : List Dk} {ms ms2 : List Ml} {k a b er : Int} {Q : List Int} (h : stepBB ds ms k a b Q = ((ds2, ms2), er)) :
    (er ≠ 0 ∧ ds2 = [] ∧ ms2 = []) ∨ (er = 0 ∧ ds2.length = ds.length ∧ ∀ i : Nat, (i : Int) ≠ (if k = 2 then b else a) → ds2[i]? = ds[i]?) := by
  unfold stepBB at h
  split at h
  · by_cases he : (stepB ds ms k a b Q).2 = 0
    · have hw : 0 ≤ (if k = 2 then b else a) := by
        unfold stepB at he
        split at he
        · cases he
        · next hn => split <;> omega
      obtain ⟨d, hd⟩ := stepB_set he
      rw [h] at hd he
      dsimp only at hd he
      subst hd
      refine .inr ⟨he, by rw [List.length_set], fun i hi => ?_⟩
      rw [List.getElem?_set_ne (by omega)]
    · have hd := stepB_no he
      rw [h] at hd he
      cases hd
      exact .inl ⟨he, rfl, rfl⟩
  · cases h
    exact .inl ⟨by omega, rfl, rfl⟩
def SBK (W : World) (g : Nat) (ds : List Dk) (ms : List Ml) : Prop := ∃ a n c b m d, W.heap[g]? = some (.cells #[.slice a n c, .slice b m d] 25 (0, 0)) ∧ BV W (.slice a n c) (.slice b m d) ds ms
set_option maxRecDepth 100000 in
set_option maxHeartbeats 32000000 in
theorem barOthers_any (w : World) (o0 : Option Addr) (c0 : Nat) (ds : List Dk) (m0 : Option Addr) (n0 : Nat) (ms : List Ml) (k ka kb : Int) (q0 : Option Addr) (Q : List Int) (p0 : Nat) (h : Ns KV Non w (.slice o0 ds.length c0) ds) (hm : Sl w (.slice m0 ms.length n0) ms) (hQ : Sl w (.slice q0 Q.length p0) Q) :
    Calls Tryz.prog 10 #[.agg #[.slice o0 ds.length c0, .slice m0 ms.length n0], .agg #[.int .i64 k, .int .i64 ka, .int .i64 kb, .slice q0 Q.length p0]] w fun e w' => e = .returned (.bool true) ∧ Below w.heap.size w w' := by
  obtain ⟨W0, hW0⟩ : ∃ W0, W0 = (w.alloc (.cells #[.slice o0 ds.length c0, .slice m0 ms.length n0] 25)).alloc (.cells #[.int .i64 k, .int .i64 ka, .int .i64 kb, .slice q0 Q.length p0] 28) := ⟨_, rfl⟩
  have X0 : Hid (Ext w W0) := Lib.hid (hW0 ▸ ((Ext.refl w).alloc _).alloc _)
  have B0 : Hid (W0.heap[w.heap.size]? = some (.cells #[.slice o0 ds.length c0, .slice m0 ms.length n0] 25 (0, 0))) := Lib.hid (hW0 ▸ old1 (at0 w _) _)
  have D0 : Hid (W0.heap[w.heap.size + 1]? = some (.cells #[.int .i64 k, .int .i64 ka, .int .i64 kb, .slice q0 Q.length p0] 28 (0, 0))) := Lib.hid (hW0 ▸ at1 w _ _)
  have HW0 := Lib.hid hW0
  have HV0 : Hid (BV w (.slice o0 ds.length c0) (.slice m0 ms.length n0) ds ms) := Lib.hid ⟨h, hm⟩
  have HV := Lib.hid (HV0.out.ext X0.out)
  have hs0 : W0.heap.size = w.heap.size + 2 := by rw [hW0, size_alloc, size_alloc]
  replace hs0 := Lib.hid hs0
  have hml := hm.length_le
  obtain ⟨t, ht⟩ : ∃ t, fewK ds ms.length = t := ⟨_, rfl⟩
  have HT := Lib.hid ht
  have HQS := Lib.hid hQ
  have hql := hQ.length_le
  clear h hm hQ hW0 ht
  go_enter Tryz.func10, Tryz.ntmps10
  go_upto_region 1 with (fail)
  rw [← HW0.out]
  cases t
  · go_wp2_with (first
      | (have hgd := X2; go_at_call 11; refine (awakeB_any _).mono ?_; rintro e w3 ⟨rfl, hx⟩; have X3 := Lib.hid (X2.out.trans hx); clear hx)
      | (go_at_call 11; refine (awakeB_any _).mono ?_; rintro e w1 ⟨rfl, hx⟩; have X1 := Lib.hid hx; obtain ⟨k0, k1⟩ := cells2S (keepU B0.out hx); clear hx)
      | (go_at_call 12; refine (refFewB_any w1 _ _ ds ms (HV.out.ext X1.out) false HT.out).mono ?_; rintro e w2 ⟨rfl, hx⟩; have X2 := Lib.hid (X1.out.trans hx); obtain ⟨_, _, z3⟩ := cells4A (keepU D0.out X2.out); clear hx))
    go_ret
    exact ⟨rfl, X0.out.trans X3.out⟩
  obtain ⟨f1, f2, f3, f4⟩ := fewK_lens HT.out
  have HSM : Hid (SmB ds ms) := Lib.hid ⟨by omega, fun d hd => by have := f3 d hd; omega, fun d hd => by have := f4 d hd; omega, by omega⟩
  by_cases h24 : (24 : Int) < (Q.length : Int)
  · clear f3 f4
    go_wp2_with (first
      | (have hgd := X2; go_at_call 11; refine (awakeB_any _).mono ?_; rintro e w3 ⟨rfl, hx⟩; have X3 := Lib.hid (X2.out.trans hx); clear hx)
      | (go_at_call 11; refine (awakeB_any _).mono ?_; rintro e w1 ⟨rfl, hx⟩; have X1 := Lib.hid hx; obtain ⟨k0, k1⟩ := cells2S (keepU B0.out hx); clear hx)
      | (go_at_call 12; refine (refFewB_any w1 _ _ ds ms (HV.out.ext X1.out) true HT.out).mono ?_; rintro e w2 ⟨rfl, hx⟩; have X2 := Lib.hid (X1.out.trans hx); obtain ⟨_, _, z3⟩ := cells4A (keepU D0.out X2.out); clear hx))
    go_ret
    exact ⟨rfl, X0.out.trans X3.out⟩
  obtain ⟨kc, hkc⟩ : ∃ q, min (max k 0) 2 = q := ⟨_, rfl⟩
  have HK : Hid (kc = 0 ∨ kc = 1 ∨ kc = 2) := Lib.hid (by omega)
  have HKC := Lib.hid hkc
  clear hkc
  clear f3 f4
  go_upto_region 3 with (first
    | (go_at_call 11; refine (awakeB_any _).mono ?_; rintro e w1 ⟨rfl, hx⟩; have X1 := Lib.hid hx; obtain ⟨k0, k1⟩ := cells2S (keepU B0.out hx); clear hx)
    | (go_at_call 12; refine (refFewB_any w1 _ _ ds ms (HV.out.ext X1.out) true HT.out).mono ?_; rintro e w2 ⟨rfl, hx⟩; have X2 := Lib.hid (X1.out.trans hx); obtain ⟨_, _, z3⟩ := cells4A (keepU D0.out X2.out); clear hx))
  obtain ⟨⟨j0, j1⟩, j2, j3⟩ := cells4A (keepU D0.out X2.out)
  have f3 := blk_free (keepU D0.out X2.out) 0
  go_upto_region 4 with (fail)
  rw [HKC.out]
  obtain ⟨wr, hwr⟩ : ∃ q, q = w2.setCell ⟨w.heap.size + 1, 0, none⟩ (.int .i64 kc) := ⟨_, rfl⟩
  have o3 : Off (fun b => b = w.heap.size + 1) w2 wr := hwr ▸ off_set w2 ⟨w.heap.size + 1, 0, none⟩ _
  have HAB : Hid (wr.heap[w.heap.size + 1]? = some (.cells #[.int .i64 kc, .int .i64 ka, .int .i64 kb, .slice q0 Q.length p0] 28 (0, 0))) := Lib.hid (by rw [hwr, blk_set (keepU D0.out X2.out)]; rfl)
  have HBX : Hid (wr.heap[w.heap.size]? = some (.cells #[.slice o0 ds.length c0, .slice m0 ms.length n0] 25 (0, 0))) := Lib.hid (o3.blk (keepU B0.out X2.out) (by omega))
  have HX : Hid (Ext w wr) := Lib.hid (ext_off (X0.out.trans X2.out) o3 (fun b hb => by omega))
  have HSV := Lib.hid (HV0.out.ext HX.out)
  rw [← hwr]
  have HQW := Lib.hid (HQS.out.ext HX.out)
  clear hwr o3 k0 k1 j0 j1 j2 j3 z3 f3
  obtain ⟨⟨⟨ds2, ms2⟩, er⟩, hq⟩ : ∃ q, stepBB ds ms (actN kc) ka kb Q = q := ⟨_, rfl⟩
  have HQ := Lib.hid hq
  have HRE := Lib.hid (stepBB_rest hq)
  have HAK : Hid (actN kc = kc) := Lib.hid (by unfold actN; rcases HK.out with rfl | rfl | rfl <;> rfl)
  have hq100 : Hid (Q.length ≤ 100) := Lib.hid (by omega)
  clear hq

  go_cut [5, 6] (fun s5 s6 wx => ∃ g, s5 = .pointer (some ⟨g, 0, none⟩) ∧ s6 = .int .i64 er ∧ Hid (SBK wx g ds2 ms2) ∧ Hid (Ext wr wx) ∧ wr.heap.size ≤ g)
  case first =>
    go_wp2_with fail
    (refine wp_region_X_lit (K := fun V => Ext wr V) (by kernel_rfl) (fun w1 hw1 => ?_))
    have Z1 : Hid (Ext wr w1) := Lib.hid hw1
    clear hw1
    refine xtv 0 (hv := by intro w' hw'; obtain ⟨c0, c1⟩ := cells2S (keepU HBX.out hw'); go_simp; first | done | with_reducible rfl) (h := ?_)
    refine xtv 2 (hv := by intro w' hw'; obtain ⟨⟨c0, c1⟩, c2, c3⟩ := cells4A (keepU HAB.out hw'); go_simp; first | done | with_reducible rfl) (h := ?_)
    refine xtwo 1 7 (hk := Z1.out) (h := RunX.of 1 (h := ?_)) (h' := RunX.of 7 (h := ?_))
    · go_simp
      refine (ownB_any w1 _ _ ds ms (HSV.out.ext Z1.out) HSM.out).mono ?_
      rintro e3 w3 ⟨vd3, vm3, rfl, sv3, x3⟩
      obtain ⟨a3, n3, c3, b3, m3, d3, rfl, rfl⟩ := sv3.sh
      have S3 := Lib.hid sv3
      have Y3 : Hid (Ext wr w3) := Lib.hid (Ext.trans Z1.out x3)
      clear sv3 x3
      dsimp only
      (try (simp only [Act.put, List.setIfInBounds_toArray, List.set]))
      refine xtwo 3 7 (hk := Y3.out) (h := RunX.of 3 (h := ?_)) (h' := RunX.of 7 (h := ?_))
      · go_simp
        refine (HQ.out ▸ actB_any w3 _ _ _ ds ms (S3.out.ext (Ext.refl _)) HSM.out kc ka kb Q (HQW.out.ext Y3.out) hq100.out).mono ?_
        rintro e4 w4 ⟨vd4, vm4, rfl, sv4, x4⟩
        dsimp only at sv4 ⊢
        obtain ⟨a4, n4, c4, b4, m4, d4, rfl, rfl⟩ := sv4.sh
        have S4 := Lib.hid sv4
        have Y4 : Hid (Ext wr w4) := Lib.hid (Ext.trans Y3.out x4)
        have Z4 := Lib.hid x4
        clear sv4 x4
        (try (simp only [Act.put, List.setIfInBounds_toArray, List.set]))
        refine xtv 4 (h := ?_)
        refine xtv 5 (h := ?_)
        refine xtv 6 (h := ?_)
        refine xone 7 (hk := Y4.out) (h := RunX.of 7 (h := ?_))
        go_simp
        (try (simp only [Act.put, List.setIfInBounds_toArray, List.set]))
        obtain ⟨gx, hgx⟩ : ∃ g, g = w4.heap.size := ⟨_, rfl⟩
        obtain ⟨w5, hw5⟩ : ∃ q, q = w4.alloc (.cells #[.slice none 0 0, .slice none 0 0] 25) := ⟨_, rfl⟩
        have B5 : Hid (w5.heap[gx]? = some (.cells #[.slice none 0 0, .slice none 0 0] 25 (0, 0))) := Lib.hid (hw5 ▸ hgx ▸ at0 w4 _)
        have Y5 : Hid (Ext wr w5) := Lib.hid (hw5 ▸ Y4.out.alloc _)
        have Z5 : Hid (Ext w4 w5) := Lib.hid (hw5 ▸ (Ext.refl _).alloc _)
        have hgw : wr.heap.size ≤ gx := hgx ▸ Below.size Y4.out
        rw [← hw5, ← hgx]
        clear hw5 hgx
        refine xone 8 (hk := Y5.out) (h := RunX.of 8 (h := ?_))
        refine wp_st 25 (.tmp 5) (.tmp 33) rfl gx 0 25 #[.slice none 0 0, .slice none 0 0] #[.slice a4 n4 c4, .slice b4 m4 d4] _ rfl rfl B5.out (by kernel_rfl) (by simp) rfl rfl ?_
        intro WB hWB oB
        simp only [Act.put]
        have YB : Hid (Ext wr WB) := Lib.hid (ext_off Y5.out oB (fun b hb => by omega))
        have SB1 : Hid (SBK WB gx ds2 ms2) := Lib.hid ⟨_, _, _, _, _, _, hWB, BV.off (S4.out.ext Z5.out) B5.out oB⟩
        clear hWB oB
        refine xtv 9 (h := ?_)
        (refine xdone (by kernel_rfl) (YB.out) ?_)
        go_wp2_with fail
        go_meet
        exact ⟨gx, rfl, rfl, SB1, YB, hgw⟩
      · go_simp
        (try (simp only [Act.put, List.setIfInBounds_toArray, List.set]))
        obtain ⟨gx, hgx⟩ : ∃ g, g = w3.heap.size := ⟨_, rfl⟩
        obtain ⟨w5, hw5⟩ : ∃ q, q = w3.alloc (.cells #[.slice none 0 0, .slice none 0 0] 25) := ⟨_, rfl⟩
        have B5 : Hid (w5.heap[gx]? = some (.cells #[.slice none 0 0, .slice none 0 0] 25 (0, 0))) := Lib.hid (hw5 ▸ hgx ▸ at0 w3 _)
        have Y5 : Hid (Ext wr w5) := Lib.hid (hw5 ▸ Y3.out.alloc _)
        have Z5 : Hid (Ext w3 w5) := Lib.hid (hw5 ▸ (Ext.refl _).alloc _)
        have hgw : wr.heap.size ≤ gx := hgx ▸ Below.size Y3.out
        rw [← hw5, ← hgx]
        clear hw5 hgx
        refine xone 3 (hk := Y5.out) (h := RunX.of 3 (h := ?_))
        go_simp
        refine (HQ.out ▸ actB_any w5 _ _ _ ds ms (S3.out.ext Z5.out) HSM.out kc ka kb Q (HQW.out.ext Y5.out) hq100.out).mono ?_
        rintro e4 w4 ⟨vd4, vm4, rfl, sv4, x4⟩
        dsimp only at sv4 ⊢
        obtain ⟨a4, n4, c4, b4, m4, d4, rfl, rfl⟩ := sv4.sh
        have S4 := Lib.hid sv4
        have Y4 : Hid (Ext wr w4) := Lib.hid (Ext.trans Y5.out x4)
        have Z4 := Lib.hid x4
        clear sv4 x4
        (try (simp only [Act.put, List.setIfInBounds_toArray, List.set]))
        refine xtv 4 (h := ?_)
        refine xtv 5 (h := ?_)
        refine xtv 6 (h := ?_)
        refine xone 8 (hk := Y4.out) (h := RunX.of 8 (h := ?_))
        refine wp_st 25 (.tmp 5) (.tmp 33) rfl gx 0 25 #[.slice none 0 0, .slice none 0 0] #[.slice a4 n4 c4, .slice b4 m4 d4] _ rfl rfl (keepU B5.out Z4.out) (by kernel_rfl) (by simp) rfl rfl ?_
        intro WB hWB oB
        simp only [Act.put]
        have YB : Hid (Ext wr WB) := Lib.hid (ext_off Y4.out oB (fun b hb => by omega))
        have SB1 : Hid (SBK WB gx ds2 ms2) := Lib.hid ⟨_, _, _, _, _, _, hWB, BV.off S4.out (keepU B5.out Z4.out) oB⟩
        clear hWB oB
        refine xtv 9 (h := ?_)
        (refine xdone (by kernel_rfl) (YB.out) ?_)
        go_wp2_with fail
        go_meet
        exact ⟨gx, rfl, rfl, SB1, YB, hgw⟩
    · go_simp
      (try (simp only [Act.put, List.setIfInBounds_toArray, List.set]))
      obtain ⟨gx, hgx⟩ : ∃ g, g = w1.heap.size := ⟨_, rfl⟩
      obtain ⟨w2, hw2⟩ : ∃ q, q = w1.alloc (.cells #[.slice none 0 0, .slice none 0 0] 25) := ⟨_, rfl⟩
      have B2 : Hid (w2.heap[gx]? = some (.cells #[.slice none 0 0, .slice none 0 0] 25 (0, 0))) := Lib.hid (hw2 ▸ hgx ▸ at0 w1 _)
      have Y2 : Hid (Ext wr w2) := Lib.hid (hw2 ▸ Z1.out.alloc _)
      have Z2 : Hid (Ext w1 w2) := Lib.hid (hw2 ▸ (Ext.refl _).alloc _)
      have hgw : wr.heap.size ≤ gx := hgx ▸ Below.size Z1.out
      rw [← hw2, ← hgx]
      clear hw2 hgx
      refine xone 1 (hk := Y2.out) (h := RunX.of 1 (h := ?_))
      go_simp
      refine (ownB_any w2 _ _ ds ms (HSV.out.ext Y2.out) HSM.out).mono ?_
      rintro e3 w3 ⟨vd3, vm3, rfl, sv3, x3⟩
      obtain ⟨a3, n3, c3, b3, m3, d3, rfl, rfl⟩ := sv3.sh
      have S3 := Lib.hid sv3
      have Y3 : Hid (Ext wr w3) := Lib.hid (Ext.trans Y2.out x3)
      have Z3 := Lib.hid x3
      clear sv3 x3
      dsimp only
      (try (simp only [Act.put, List.setIfInBounds_toArray, List.set]))
      refine xone 3 (hk := Y3.out) (h := RunX.of 3 (h := ?_))
      go_simp
      refine (HQ.out ▸ actB_any w3 _ _ _ ds ms (S3.out.ext (Ext.refl _)) HSM.out kc ka kb Q (HQW.out.ext Y3.out) hq100.out).mono ?_
      rintro e4 w4 ⟨vd4, vm4, rfl, sv4, x4⟩
      dsimp only at sv4 ⊢
      obtain ⟨a4, n4, c4, b4, m4, d4, rfl, rfl⟩ := sv4.sh
      have S4 := Lib.hid sv4
      have Y4 : Hid (Ext wr w4) := Lib.hid (Ext.trans Y3.out x4)
      have Z4 := Lib.hid x4
      clear sv4 x4
      (try (simp only [Act.put, List.setIfInBounds_toArray, List.set]))
      refine xtv 4 (h := ?_)
      refine xtv 5 (h := ?_)
      refine xtv 6 (h := ?_)
      refine xone 8 (hk := Y4.out) (h := RunX.of 8 (h := ?_))
      refine wp_st 25 (.tmp 5) (.tmp 33) rfl gx 0 25 #[.slice none 0 0, .slice none 0 0] #[.slice a4 n4 c4, .slice b4 m4 d4] _ rfl rfl (keepU (keepU B2.out Z3.out) Z4.out) (by kernel_rfl) (by simp) rfl rfl ?_
      intro WB hWB oB
      simp only [Act.put]
      have YB : Hid (Ext wr WB) := Lib.hid (ext_off Y4.out oB (fun b hb => by omega))
      have SB1 : Hid (SBK WB gx ds2 ms2) := Lib.hid ⟨_, _, _, _, _, _, hWB, BV.off S4.out (keepU (keepU B2.out Z3.out) Z4.out) oB⟩
      clear hWB oB
      refine xtv 9 (h := ?_)
      (refine xdone (by kernel_rfl) (YB.out) ?_)
      go_wp2_with fail
      go_meet
      exact ⟨gx, rfl, rfl, SB1, YB, hgw⟩
  case rest =>
  obtain ⟨gt, rfl, rfl, HTB, HX2, hgt⟩ := hcut
  obtain ⟨WC, hWC⟩ : ∃ q, q = wc := ⟨_, rfl⟩
  rw [← hWC] at HTB HX2 ⊢
  clear hWC
  have XC : Hid (Ext w WC) := Lib.hid (HX.out.trans HX2.out)
  have BC := Lib.hid (keepU HBX.out HX2.out)
  have AC := Lib.hid (keepU HAB.out HX2.out)
  have VC := Lib.hid (HSV.out.ext HX2.out)
  obtain ⟨ta, tn, tc, tb, tm, td, htb, htv⟩ := HTB.out
  have TB' := Lib.hid htb
  have HTV := Lib.hid htv
  obtain ⟨k0, k1⟩ := cells2S BC.out
  obtain ⟨j0, j1⟩ := cells2S htb
  obtain ⟨⟨i0, i1⟩, i2, i3⟩ := cells4A AC.out
  clear htb htv
  by_cases he : er = 0
  · have HR2 : Hid (ds2.length = ds.length ∧ ∀ i : Nat, (i : Int) ≠ (if kc = 2 then kb else ka) → ds2[i]? = ds[i]?) := Lib.hid (by
      rcases HRE.out with ⟨h, _⟩ | ⟨_, h⟩
      · exact absurd he h
      · rw [HAK.out] at h; exact h)
    subst he
    obtain ⟨ao2, co2, hv2⟩ := HTV.out.ds.len
    simp only [Value.slice.injEq] at hv2
    obtain ⟨rfl, rfl, rfl⟩ := hv2
    obtain ⟨wh, hwh⟩ : ∃ q, (if kc = 2 then kb else ka) = q := ⟨_, rfl⟩
    rw [hwh] at HR2
    have HWH := Lib.hid hwh
    have HLN : Hid (((ds2.length : Int) == (ds.length : Int)) = true) := Lib.hid (by rw [HR2.out.1]; simp)
    have hl2 : (ds2.length : Int) = (ds.length : Int) := by rw [HR2.out.1]
    replace hl2 := Lib.hid hl2
    clear hwh
    have HC2 : Hid (∀ V, Ext WC V → V.cell? ⟨w.heap.size, 0, none⟩ = some (.slice o0 ds.length c0) ∧ V.cell? ⟨w.heap.size, 1, none⟩ = some (.slice m0 ms.length n0)) := Lib.hid fun V hV => cells2S (keepU BC.out hV)
    have HC5 : Hid (∀ V, Ext WC V → V.cell? ⟨gt, 0, none⟩ = some (.slice ta ds2.length tc) ∧ V.cell? ⟨gt, 1, none⟩ = some (.slice tb tm td)) := Lib.hid fun V hV => cells2S (keepU TB'.out hV)
    clear HQ HRE HTB
    rcases HK.out with rfl | rfl | rfl
    · obtain rfl : ka = wh := by simpa using HWH.out
      clear HWH HK HKC HAK
      go_upto_region 11 with (fail)
      go_loopw [8] (fun i wr5 => ∃ q : Nat, q ≤ ds.length ∧ i = .int .i64 q ∧ Hid (Ext WC wr5)) (fun i _ => ds.length - (intOf i).toNat)
      case atStart => exact ⟨0, Nat.zero_le _, rfl, Lib.hid (Ext.refl _)⟩
      case round =>
        obtain ⟨q, hq, rfl, HX5⟩ := hrel
        obtain ⟨a0, a1⟩ := HC2.out _ HX5.out
        by_cases hlt : q < ds.length
        · by_cases hw : (q : Int) = ka
          · have ht : ((q : Int) != ka) = false := by simp [hw]
            clear hw
            go_upto_region 13 with (fail)
            go_wp2_with fail
            refine wp_region_M_lit (by kernel_rfl) ?_
            refine tv 0 (h := ?_)
            refine tv 1 (h := ?_)
            refine tv 2 (hv := by intro w' hw'; have hz := ht; go_simp; first | done | with_reducible rfl) (h := ?_)
            refine tv 3 (h := ?_)
            (refine takeU 4 (h := ?_); (simp only [Act.put, List.setIfInBounds_toArray, List.set]))
            (refine takeU 5 (h := ?_); (simp only [Act.put, List.setIfInBounds_toArray, List.set]))
            (refine takeU 6 (h := ?_); (simp only [Act.put, List.setIfInBounds_toArray, List.set]))
            (refine takeU 7 (h := ?_); (simp only [Act.put, List.setIfInBounds_toArray, List.set]))
            (refine takeU 8 (h := ?_); (simp only [Act.put, List.setIfInBounds_toArray, List.set]))
            (refine takeU 9 (h := ?_); (simp only [Act.put, List.setIfInBounds_toArray, List.set]))
            (refine takeU 10 (h := ?_); (simp only [Act.put, List.setIfInBounds_toArray, List.set]))
            (refine takeU 11 (h := ?_); (simp only [Act.put, List.setIfInBounds_toArray, List.set]))
            (refine takeU 12 (h := ?_); (simp only [Act.put, List.setIfInBounds_toArray, List.set]))
            (refine takeU 13 (h := ?_); (simp only [Act.put, List.setIfInBounds_toArray, List.set]))
            (refine takeU 14 (h := ?_); (simp only [Act.put, List.setIfInBounds_toArray, List.set]))
            (refine takeU 15 (h := ?_); (simp only [Act.put, List.setIfInBounds_toArray, List.set]))
            (refine takeU 16 (h := ?_); (simp only [Act.put, List.setIfInBounds_toArray, List.set]))
            (refine takeU 17 (h := ?_); (simp only [Act.put, List.setIfInBounds_toArray, List.set]))
            (refine takeU 18 (h := ?_); (simp only [Act.put, List.setIfInBounds_toArray, List.set]))
            (refine takeU 19 (h := ?_); (simp only [Act.put, List.setIfInBounds_toArray, List.set]))
            (refine takeU 20 (h := ?_); (simp only [Act.put, List.setIfInBounds_toArray, List.set]))
            (refine takeU 21 (h := ?_); (simp only [Act.put, List.setIfInBounds_toArray, List.set]))
            (refine takeU 22 (h := ?_); (simp only [Act.put, List.setIfInBounds_toArray, List.set]))
            refine tv 23 (h := ?_)
            (refine doneM (by kernel_rfl) ?_; intro w' hw'; show _)
            have HX6 := Lib.hid (HX5.out.trans hw')
            clear hw'
            go_wp2
            go_roundw
            case rel => exact ⟨q + 1, by omega, by go_num, HX6⟩
            case measure => simp [intOf]; omega
          · have ht : ((q : Int) != ka) = true := by simp [hw]
            have hq2 : q < ds2.length := by have := hl2.out; omega
            obtain ⟨b5, f5, so5, sn5, no5, nn5, dd, hyk, ho5, hn5, hnc5, hc5, hb5, hsl5, hnl5, hcell5⟩ := HV0.out.ds.drinkerAt hlt
            obtain ⟨b6, f6, so6, sn6, no6, nn6, dd2, hyk2, ho6, hn6, hnc6, hc6, hb6, hsl6, hnl6, hcell6⟩ := HTV.out.ds.drinkerAt hq2
            subst ho5 ho6
            obtain rfl : dd2 = dd := by have := (HR2.out.2 q hw).symm.trans hyk2; rw [hyk] at this; simpa using this.symm
            have HD5 : Hid (∀ V, Ext WC V → _) := Lib.hid fun V hV => hcell5 V (XC.out.trans hV)
            have HD6 := Lib.hid hcell6
            have HS5 := Lib.hid (hsl5.sl.ext XC.out)
            have HM5 := Lib.hid (hnl5.sl.ext XC.out)
            have HS6 := Lib.hid hsl6.sl
            have HM6 := Lib.hid hnl6.sl
            have hqi : (q : Int) < (ds.length : Int) := by omega
            have hqj : (q : Int) < (ds2.length : Int) := by omega
            obtain ⟨e0, e1, e2, e3, e4⟩ := dd2
            dsimp only at HD5 HD6 HS5 HS6 HM5 HM6
            have HSO : Hid (∀ V, Ext WC V → _) := Lib.hid fun V hV => refDkSame_any V e0 e1 e3 e0 e1 e3 _ _ _ _ e2 e2 e4 e4 (HS5.out.ext hV) (HS6.out.ext hV) (HM5.out.ext hV) (HM6.out.ext hV) true (by simp)
            clear hcell5 hcell6 hsl5 hsl6 hnl5 hnl6 hyk hyk2 hn5 hn6 hw
            go_upto_region 13 with (fail)
            go_wp2_with fail
            refine wp_region_M_lit (by kernel_rfl) ?_
            refine tv 0 (h := ?_)
            refine tv 1 (h := ?_)
            refine tv 2 (hv := by intro w' hw'; have hz := ht; go_simp; first | done | with_reducible rfl) (h := ?_)
            refine tv 3 (h := ?_)
            refine tv 4 (h := ?_)
            refine tv 5 (h := ?_)
            refine tv 6 (hv := by intro w' hw'; obtain ⟨d0, d1⟩ := HC5.out w' (HX5.out.trans hw'); go_simp; first | done | with_reducible rfl) (h := ?_)
            refine tv 7 (h := ?_)
            refine tv 8 (hv := by intro w' hw'; have hz : decide ((ds2.length : Int) ≤ (q : Int)) = false := decide_eq_false (by omega); have hz2 : decide (ds2.length ≤ q) = false := decide_eq_false (by omega); have hz3 : ¬ ds2.length ≤ q := (by omega); go_simp; first | done | with_reducible rfl) (h := ?_)
            refine tv 9 (h := ?_)
            refine tv 10 (h := ?_)
            refine tv 11 (hv := by intro w' hw'; obtain ⟨d0, d1⟩ := HC2.out w' (HX5.out.trans hw'); go_simp; first | done | with_reducible rfl) (h := ?_)
            refine tv 12 (h := ?_)
            refine tv 13 (hv := by intro w' hw'; have hz := hqi; go_simp; first | done | with_reducible rfl) (h := ?_)
            refine tv 14 (hv := by intro w' hw'; obtain ⟨⟨d0, d1, d2⟩, d3, d4⟩ := HD5.out w' (HX5.out.trans hw'); go_simp; first | done | with_reducible rfl) (h := ?_)
            refine tv 15 (h := ?_)
            refine tv 16 (hv := by intro w' hw'; obtain ⟨d0, d1⟩ := HC5.out w' (HX5.out.trans hw'); go_simp; first | done | with_reducible rfl) (h := ?_)
            refine tv 17 (h := ?_)
            refine tv 18 (hv := by intro w' hw'; have hz := hqj; go_simp; first | done | with_reducible rfl) (h := ?_)
            refine tv 19 (hv := by intro w' hw'; obtain ⟨⟨d0, d1, d2⟩, d3, d4⟩ := HD6.out w' (HX5.out.trans hw'); go_simp; first | done | with_reducible rfl) (h := ?_)
            (refine takeG 20 (v := ?_) (hv := fun w' hw' => ?_) (h := ?_); rotate_left; focus (go_simp; refine ⟨Ext.refl _, ?_⟩; (exact HSO.out w' (HX5.out.trans hw')))); (simp only [Act.put, List.setIfInBounds_toArray, List.set])
            refine tv 21 (h := ?_)
            refine tv 22 (h := ?_)
            refine tv 23 (h := ?_)
            (refine doneM (by kernel_rfl) ?_; intro w' hw'; show _)
            have HX6 := Lib.hid (HX5.out.trans hw')
            clear hw'
            go_wp2
            go_roundw
            case rel => exact ⟨q + 1, by omega, by go_num, HX6⟩
            case measure => simp [intOf]; omega
        · obtain ⟨d0, d1⟩ := HC5.out _ HX5.out
          have hln := HLN.out
          go_wp2
          go_ret
          exact ⟨rfl, XC.out.trans HX5.out⟩
    · obtain rfl : ka = wh := by simpa using HWH.out
      clear HWH HK HKC HAK
      go_upto_region 11 with (fail)
      go_loopw [8] (fun i wr5 => ∃ q : Nat, q ≤ ds.length ∧ i = .int .i64 q ∧ Hid (Ext WC wr5)) (fun i _ => ds.length - (intOf i).toNat)
      case atStart => exact ⟨0, Nat.zero_le _, rfl, Lib.hid (Ext.refl _)⟩
      case round =>
        obtain ⟨q, hq, rfl, HX5⟩ := hrel
        obtain ⟨a0, a1⟩ := HC2.out _ HX5.out
        by_cases hlt : q < ds.length
        · by_cases hw : (q : Int) = ka
          · have ht : ((q : Int) != ka) = false := by simp [hw]
            clear hw
            go_upto_region 13 with (fail)
            go_wp2_with fail
            refine wp_region_M_lit (by kernel_rfl) ?_
            refine tv 0 (h := ?_)
            refine tv 1 (h := ?_)
            refine tv 2 (hv := by intro w' hw'; have hz := ht; go_simp; first | done | with_reducible rfl) (h := ?_)
            refine tv 3 (h := ?_)
            (refine takeU 4 (h := ?_); (simp only [Act.put, List.setIfInBounds_toArray, List.set]))
            (refine takeU 5 (h := ?_); (simp only [Act.put, List.setIfInBounds_toArray, List.set]))
            (refine takeU 6 (h := ?_); (simp only [Act.put, List.setIfInBounds_toArray, List.set]))
            (refine takeU 7 (h := ?_); (simp only [Act.put, List.setIfInBounds_toArray, List.set]))
            (refine takeU 8 (h := ?_); (simp only [Act.put, List.setIfInBounds_toArray, List.set]))
            (refine takeU 9 (h := ?_); (simp only [Act.put, List.setIfInBounds_toArray, List.set]))
            (refine takeU 10 (h := ?_); (simp only [Act.put, List.setIfInBounds_toArray, List.set]))
            (refine takeU 11 (h := ?_); (simp only [Act.put, List.setIfInBounds_toArray, List.set]))
            (refine takeU 12 (h := ?_); (simp only [Act.put, List.setIfInBounds_toArray, List.set]))
            (refine takeU 13 (h := ?_); (simp only [Act.put, List.setIfInBounds_toArray, List.set]))
            (refine takeU 14 (h := ?_); (simp only [Act.put, List.setIfInBounds_toArray, List.set]))
            (refine takeU 15 (h := ?_); (simp only [Act.put, List.setIfInBounds_toArray, List.set]))
            (refine takeU 16 (h := ?_); (simp only [Act.put, List.setIfInBounds_toArray, List.set]))
            (refine takeU 17 (h := ?_); (simp only [Act.put, List.setIfInBounds_toArray, List.set]))
            (refine takeU 18 (h := ?_); (simp only [Act.put, List.setIfInBounds_toArray, List.set]))
            (refine takeU 19 (h := ?_); (simp only [Act.put, List.setIfInBounds_toArray, List.set]))
            (refine takeU 20 (h := ?_); (simp only [Act.put, List.setIfInBounds_toArray, List.set]))
            (refine takeU 21 (h := ?_); (simp only [Act.put, List.setIfInBounds_toArray, List.set]))
            (refine takeU 22 (h := ?_); (simp only [Act.put, List.setIfInBounds_toArray, List.set]))
            refine tv 23 (h := ?_)
            (refine doneM (by kernel_rfl) ?_; intro w' hw'; show _)
            have HX6 := Lib.hid (HX5.out.trans hw')
            clear hw'
            go_wp2
            go_roundw
            case rel => exact ⟨q + 1, by omega, by go_num, HX6⟩
            case measure => simp [intOf]; omega
          · have ht : ((q : Int) != ka) = true := by simp [hw]
            have hq2 : q < ds2.length := by have := hl2.out; omega
            obtain ⟨b5, f5, so5, sn5, no5, nn5, dd, hyk, ho5, hn5, hnc5, hc5, hb5, hsl5, hnl5, hcell5⟩ := HV0.out.ds.drinkerAt hlt
            obtain ⟨b6, f6, so6, sn6, no6, nn6, dd2, hyk2, ho6, hn6, hnc6, hc6, hb6, hsl6, hnl6, hcell6⟩ := HTV.out.ds.drinkerAt hq2
            subst ho5 ho6
            obtain rfl : dd2 = dd := by have := (HR2.out.2 q hw).symm.trans hyk2; rw [hyk] at this; simpa using this.symm
            have HD5 : Hid (∀ V, Ext WC V → _) := Lib.hid fun V hV => hcell5 V (XC.out.trans hV)
            have HD6 := Lib.hid hcell6
            have HS5 := Lib.hid (hsl5.sl.ext XC.out)
            have HM5 := Lib.hid (hnl5.sl.ext XC.out)
            have HS6 := Lib.hid hsl6.sl
            have HM6 := Lib.hid hnl6.sl
            have hqi : (q : Int) < (ds.length : Int) := by omega
            have hqj : (q : Int) < (ds2.length : Int) := by omega
            obtain ⟨e0, e1, e2, e3, e4⟩ := dd2
            dsimp only at HD5 HD6 HS5 HS6 HM5 HM6
            have HSO : Hid (∀ V, Ext WC V → _) := Lib.hid fun V hV => refDkSame_any V e0 e1 e3 e0 e1 e3 _ _ _ _ e2 e2 e4 e4 (HS5.out.ext hV) (HS6.out.ext hV) (HM5.out.ext hV) (HM6.out.ext hV) true (by simp)
            clear hcell5 hcell6 hsl5 hsl6 hnl5 hnl6 hyk hyk2 hn5 hn6 hw
            go_upto_region 13 with (fail)
            go_wp2_with fail
            refine wp_region_M_lit (by kernel_rfl) ?_
            refine tv 0 (h := ?_)
            refine tv 1 (h := ?_)
            refine tv 2 (hv := by intro w' hw'; have hz := ht; go_simp; first | done | with_reducible rfl) (h := ?_)
            refine tv 3 (h := ?_)
            refine tv 4 (h := ?_)
            refine tv 5 (h := ?_)
            refine tv 6 (hv := by intro w' hw'; obtain ⟨d0, d1⟩ := HC5.out w' (HX5.out.trans hw'); go_simp; first | done | with_reducible rfl) (h := ?_)
            refine tv 7 (h := ?_)
            refine tv 8 (hv := by intro w' hw'; have hz : decide ((ds2.length : Int) ≤ (q : Int)) = false := decide_eq_false (by omega); have hz2 : decide (ds2.length ≤ q) = false := decide_eq_false (by omega); have hz3 : ¬ ds2.length ≤ q := (by omega); go_simp; first | done | with_reducible rfl) (h := ?_)
            refine tv 9 (h := ?_)
            refine tv 10 (h := ?_)
            refine tv 11 (hv := by intro w' hw'; obtain ⟨d0, d1⟩ := HC2.out w' (HX5.out.trans hw'); go_simp; first | done | with_reducible rfl) (h := ?_)
            refine tv 12 (h := ?_)
            refine tv 13 (hv := by intro w' hw'; have hz := hqi; go_simp; first | done | with_reducible rfl) (h := ?_)
            refine tv 14 (hv := by intro w' hw'; obtain ⟨⟨d0, d1, d2⟩, d3, d4⟩ := HD5.out w' (HX5.out.trans hw'); go_simp; first | done | with_reducible rfl) (h := ?_)
            refine tv 15 (h := ?_)
            refine tv 16 (hv := by intro w' hw'; obtain ⟨d0, d1⟩ := HC5.out w' (HX5.out.trans hw'); go_simp; first | done | with_reducible rfl) (h := ?_)
            refine tv 17 (h := ?_)
            refine tv 18 (hv := by intro w' hw'; have hz := hqj; go_simp; first | done | with_reducible rfl) (h := ?_)
            refine tv 19 (hv := by intro w' hw'; obtain ⟨⟨d0, d1, d2⟩, d3, d4⟩ := HD6.out w' (HX5.out.trans hw'); go_simp; first | done | with_reducible rfl) (h := ?_)
            (refine takeG 20 (v := ?_) (hv := fun w' hw' => ?_) (h := ?_); rotate_left; focus (go_simp; refine ⟨Ext.refl _, ?_⟩; (exact HSO.out w' (HX5.out.trans hw')))); (simp only [Act.put, List.setIfInBounds_toArray, List.set])
            refine tv 21 (h := ?_)
            refine tv 22 (h := ?_)
            refine tv 23 (h := ?_)
            (refine doneM (by kernel_rfl) ?_; intro w' hw'; show _)
            have HX6 := Lib.hid (HX5.out.trans hw')
            clear hw'
            go_wp2
            go_roundw
            case rel => exact ⟨q + 1, by omega, by go_num, HX6⟩
            case measure => simp [intOf]; omega
        · obtain ⟨d0, d1⟩ := HC5.out _ HX5.out
          have hln := HLN.out
          go_wp2
          go_ret
          exact ⟨rfl, XC.out.trans HX5.out⟩
    · obtain rfl : kb = wh := by simpa using HWH.out
      clear HWH HK HKC HAK
      go_upto_region 11 with (fail)
      go_loopw [8] (fun i wr5 => ∃ q : Nat, q ≤ ds.length ∧ i = .int .i64 q ∧ Hid (Ext WC wr5)) (fun i _ => ds.length - (intOf i).toNat)
      case atStart => exact ⟨0, Nat.zero_le _, rfl, Lib.hid (Ext.refl _)⟩
      case round =>
        obtain ⟨q, hq, rfl, HX5⟩ := hrel
        obtain ⟨a0, a1⟩ := HC2.out _ HX5.out
        by_cases hlt : q < ds.length
        · by_cases hw : (q : Int) = kb
          · have ht : ((q : Int) != kb) = false := by simp [hw]
            clear hw
            go_upto_region 13 with (fail)
            go_wp2_with fail
            refine wp_region_M_lit (by kernel_rfl) ?_
            refine tv 0 (h := ?_)
            refine tv 1 (h := ?_)
            refine tv 2 (hv := by intro w' hw'; have hz := ht; go_simp; first | done | with_reducible rfl) (h := ?_)
            refine tv 3 (h := ?_)
            (refine takeU 4 (h := ?_); (simp only [Act.put, List.setIfInBounds_toArray, List.set]))
            (refine takeU 5 (h := ?_); (simp only [Act.put, List.setIfInBounds_toArray, List.set]))
            (refine takeU 6 (h := ?_); (simp only [Act.put, List.setIfInBounds_toArray, List.set]))
            (refine takeU 7 (h := ?_); (simp only [Act.put, List.setIfInBounds_toArray, List.set]))
            (refine takeU 8 (h := ?_); (simp only [Act.put, List.setIfInBounds_toArray, List.set]))
            (refine takeU 9 (h := ?_); (simp only [Act.put, List.setIfInBounds_toArray, List.set]))
            (refine takeU 10 (h := ?_); (simp only [Act.put, List.setIfInBounds_toArray, List.set]))
            (refine takeU 11 (h := ?_); (simp only [Act.put, List.setIfInBounds_toArray, List.set]))
            (refine takeU 12 (h := ?_); (simp only [Act.put, List.setIfInBounds_toArray, List.set]))
            (refine takeU 13 (h := ?_); (simp only [Act.put, List.setIfInBounds_toArray, List.set]))
            (refine takeU 14 (h := ?_); (simp only [Act.put, List.setIfInBounds_toArray, List.set]))
            (refine takeU 15 (h := ?_); (simp only [Act.put, List.setIfInBounds_toArray, List.set]))
            (refine takeU 16 (h := ?_); (simp only [Act.put, List.setIfInBounds_toArray, List.set]))
            (refine takeU 17 (h := ?_); (simp only [Act.put, List.setIfInBounds_toArray, List.set]))
            (refine takeU 18 (h := ?_); (simp only [Act.put, List.setIfInBounds_toArray, List.set]))
            (refine takeU 19 (h := ?_); (simp only [Act.put, List.setIfInBounds_toArray, List.set]))
            (refine takeU 20 (h := ?_); (simp only [Act.put, List.setIfInBounds_toArray, List.set]))
            (refine takeU 21 (h := ?_); (simp only [Act.put, List.setIfInBounds_toArray, List.set]))
            (refine takeU 22 (h := ?_); (simp only [Act.put, List.setIfInBounds_toArray, List.set]))
            refine tv 23 (h := ?_)
            (refine doneM (by kernel_rfl) ?_; intro w' hw'; show _)
            have HX6 := Lib.hid (HX5.out.trans hw')
            clear hw'
            go_wp2
            go_roundw
            case rel => exact ⟨q + 1, by omega, by go_num, HX6⟩
            case measure => simp [intOf]; omega
          · have ht : ((q : Int) != kb) = true := by simp [hw]
            have hq2 : q < ds2.length := by have := hl2.out; omega
            obtain ⟨b5, f5, so5, sn5, no5, nn5, dd, hyk, ho5, hn5, hnc5, hc5, hb5, hsl5, hnl5, hcell5⟩ := HV0.out.ds.drinkerAt hlt
            obtain ⟨b6, f6, so6, sn6, no6, nn6, dd2, hyk2, ho6, hn6, hnc6, hc6, hb6, hsl6, hnl6, hcell6⟩ := HTV.out.ds.drinkerAt hq2
            subst ho5 ho6
            obtain rfl : dd2 = dd := by have := (HR2.out.2 q hw).symm.trans hyk2; rw [hyk] at this; simpa using this.symm
            have HD5 : Hid (∀ V, Ext WC V → _) := Lib.hid fun V hV => hcell5 V (XC.out.trans hV)
            have HD6 := Lib.hid hcell6
            have HS5 := Lib.hid (hsl5.sl.ext XC.out)
            have HM5 := Lib.hid (hnl5.sl.ext XC.out)
            have HS6 := Lib.hid hsl6.sl
            have HM6 := Lib.hid hnl6.sl
            have hqi : (q : Int) < (ds.length : Int) := by omega
            have hqj : (q : Int) < (ds2.length : Int) := by omega
            obtain ⟨e0, e1, e2, e3, e4⟩ := dd2
            dsimp only at HD5 HD6 HS5 HS6 HM5 HM6
            have HSO : Hid (∀ V, Ext WC V → _) := Lib.hid fun V hV => refDkSame_any V e0 e1 e3 e0 e1 e3 _ _ _ _ e2 e2 e4 e4 (HS5.out.ext hV) (HS6.out.ext hV) (HM5.out.ext hV) (HM6.out.ext hV) true (by simp)
            clear hcell5 hcell6 hsl5 hsl6 hnl5 hnl6 hyk hyk2 hn5 hn6 hw
            go_upto_region 13 with (fail)
            go_wp2_with fail
            refine wp_region_M_lit (by kernel_rfl) ?_
            refine tv 0 (h := ?_)
            refine tv 1 (h := ?_)
            refine tv 2 (hv := by intro w' hw'; have hz := ht; go_simp; first | done | with_reducible rfl) (h := ?_)
            refine tv 3 (h := ?_)
            refine tv 4 (h := ?_)
            refine tv 5 (h := ?_)
            refine tv 6 (hv := by intro w' hw'; obtain ⟨d0, d1⟩ := HC5.out w' (HX5.out.trans hw'); go_simp; first | done | with_reducible rfl) (h := ?_)
            refine tv 7 (h := ?_)
            refine tv 8 (hv := by intro w' hw'; have hz : decide ((ds2.length : Int) ≤ (q : Int)) = false := decide_eq_false (by omega); have hz2 : decide (ds2.length ≤ q) = false := decide_eq_false (by omega); have hz3 : ¬ ds2.length ≤ q := (by omega); go_simp; first | done | with_reducible rfl) (h := ?_)
            refine tv 9 (h := ?_)
            refine tv 10 (h := ?_)
            refine tv 11 (hv := by intro w' hw'; obtain ⟨d0, d1⟩ := HC2.out w' (HX5.out.trans hw'); go_simp; first | done | with_reducible rfl) (h := ?_)
            refine tv 12 (h := ?_)
            refine tv 13 (hv := by intro w' hw'; have hz := hqi; go_simp; first | done | with_reducible rfl) (h := ?_)
            refine tv 14 (hv := by intro w' hw'; obtain ⟨⟨d0, d1, d2⟩, d3, d4⟩ := HD5.out w' (HX5.out.trans hw'); go_simp; first | done | with_reducible rfl) (h := ?_)
            refine tv 15 (h := ?_)
            refine tv 16 (hv := by intro w' hw'; obtain ⟨d0, d1⟩ := HC5.out w' (HX5.out.trans hw'); go_simp; first | done | with_reducible rfl) (h := ?_)
            refine tv 17 (h := ?_)
            refine tv 18 (hv := by intro w' hw'; have hz := hqj; go_simp; first | done | with_reducible rfl) (h := ?_)
            refine tv 19 (hv := by intro w' hw'; obtain ⟨⟨d0, d1, d2⟩, d3, d4⟩ := HD6.out w' (HX5.out.trans hw'); go_simp; first | done | with_reducible rfl) (h := ?_)
            (refine takeG 20 (v := ?_) (hv := fun w' hw' => ?_) (h := ?_); rotate_left; focus (go_simp; refine ⟨Ext.refl _, ?_⟩; (exact HSO.out w' (HX5.out.trans hw')))); (simp only [Act.put, List.setIfInBounds_toArray, List.set])
            refine tv 21 (h := ?_)
            refine tv 22 (h := ?_)
            refine tv 23 (h := ?_)
            (refine doneM (by kernel_rfl) ?_; intro w' hw'; show _)
            have HX6 := Lib.hid (HX5.out.trans hw')
            clear hw'
            go_wp2
            go_roundw
            case rel => exact ⟨q + 1, by omega, by go_num, HX6⟩
            case measure => simp [intOf]; omega
        · obtain ⟨d0, d1⟩ := HC5.out _ HX5.out
          have hln := HLN.out
          go_wp2
          go_ret
          exact ⟨rfl, XC.out.trans HX5.out⟩
  · have HZ : Hid (ds2 = [] ∧ ms2 = []) := Lib.hid (by
      rcases HRE.out with ⟨_, h⟩ | ⟨h, _⟩
      · exact h
      · exact absurd h he)
    obtain ⟨rfl, rfl⟩ := HZ.out
    have q0 : (er != 0) = true := by simp [he]
    clear he
    go_wp2_with (go_at_call 16; refine (refSameB_any WC _ _ _ _ [] [] [] [] HTV.out (BV.nil _) true (by simp)).mono ?_; rintro e w6 ⟨rfl, hx⟩; have X6 := Lib.hid (XC.out.trans hx); clear hx)
    go_ret
    exact ⟨rfl, X6.out⟩
end Go.Proofs.YtfbambemjokmgaaGreat
