/- Texts of this seat. -/
import Derived.Test.YtfbambemjokmgaaGreatNBN
import Derived.Test.YtfbambemjokmgaaGreatNBS
import Derived.Test.YtfbambemjokmgaaGreatNBY
import Derived.Test.YtfbambemjokmgaaGreatNCB
namespace Go.Proofs.YtfbambemjokmgaaGreat
open Go.RowKit
theorem isFreeB_any (W : World) (vd vm : Value) (ds : List Dk) (ms : List Ml) (h : BV W vd vm ds ms) :
    Calls Tryz.prog 40 #[.agg #[vd, vm]] W fun e W' => e = .returned (.bool true) ∧ Ext W W' := by
  obtain ⟨ao, n, c, bo, m, d, rfl, rfl⟩ := h.sh
  have X0 : Hid (Ext W (W.alloc (.cells #[.slice ao n c, .slice bo m d] 25))) := Lib.hid ((Ext.refl W).alloc _)
  clear h
  go_enter Tryz.func40, Tryz.ntmps40
  go_wp2
  go_ret
  exact ⟨rfl, X0.out⟩
set_option maxRecDepth 100000 in
set_option maxHeartbeats 64000000 in
theorem barFree_any (w : World) (N : Int) (o0 : Option Addr) (c0 : Nat) (E : List Edge) (o1 : Option Addr) (c1 : Nat) (l : List Akt) (a : Int) (o2 : Option Addr) (c2 : Nat) (Q : List Int) (h : Sl w (.slice o0 E.length c0) E) (hl : Ns AV Non w (.slice o1 l.length c1) l) (hQ : Sl w (.slice o2 Q.length c2) Q) :
    Calls Tryz.prog 8 #[.agg #[.int .i64 N, .slice o0 E.length c0], .slice o1 l.length c1, .int .i64 a, .slice o2 Q.length c2] w fun e w' => e = .returned (.bool true) ∧ Below w.heap.size w w' := by
  obtain ⟨W0, hW0⟩ : ∃ W0, W0 = w.alloc (.cells #[.int .i64 N, .slice o0 E.length c0] 53) := ⟨_, rfl⟩
  have X0 : Hid (Ext w W0) := Lib.hid (hW0 ▸ (Ext.refl w).alloc _)
  have B0 : Hid (W0.heap[w.heap.size]? = some (.cells #[.int .i64 N, .slice o0 E.length c0] 53 (0, 0))) := Lib.hid (hW0 ▸ at0 w _)
  have HW0 := Lib.hid hW0
  have HE := Lib.hid (h.ext X0.out)
  have HL := Lib.hid (hl.ext X0.out)
  have HQS := Lib.hid (hQ.ext X0.out)
  have HGC : Hid (∀ V, Ext W0 V → V.cell? ⟨w.heap.size, 0, none⟩ = some (.int .i64 N) ∧ V.cell? ⟨w.heap.size, 1, none⟩ = some (.slice o0 E.length c0)) := Lib.hid fun V hV => cells2S (keepU B0.out hV)
  have hll := hl.length_le
  obtain ⟨t, ht⟩ : ∃ t, fewR N E l = t := ⟨_, rfl⟩
  have HT := Lib.hid ht
  clear h hl hQ hW0 ht
  go_enter Tryz.func8, Tryz.ntmps8
  go_upto_region 1 with (fail)
  rw [← HW0.out]
  cases t
  · go_wp2_with (first
      | (have hgd := X2; go_at_call 11; refine (awakeB_any _).mono ?_; rintro e w3 ⟨rfl, hx⟩; have X3 := Lib.hid (X2.out.trans hx); clear hx)
      | (go_at_call 11; refine (awakeB_any _).mono ?_; rintro e w1 ⟨rfl, hx⟩; have X1 := Lib.hid hx; obtain ⟨k0, k1⟩ := HGC.out w1 hx; clear hx)
      | (go_at_call 28; refine (fewB_any w1 N _ _ E l (HE.out.ext X1.out) (HL.out.ext X1.out) false HT.out).mono ?_; rintro e w2 ⟨rfl, hx⟩; have X2 := Lib.hid (X1.out.trans hx); clear hx))
    go_ret
    exact ⟨rfl, X0.out.trans X3.out⟩
  by_cases h20 : (20 : Int) < (Q.length : Int)
  · go_wp2_with (first
      | (have hgd := X2; go_at_call 11; refine (awakeB_any _).mono ?_; rintro e w3 ⟨rfl, hx⟩; have X3 := Lib.hid (X2.out.trans hx); clear hx)
      | (go_at_call 11; refine (awakeB_any _).mono ?_; rintro e w1 ⟨rfl, hx⟩; have X1 := Lib.hid hx; obtain ⟨k0, k1⟩ := HGC.out w1 hx; clear hx)
      | (go_at_call 28; refine (fewB_any w1 N _ _ E l (HE.out.ext X1.out) (HL.out.ext X1.out) true HT.out).mono ?_; rintro e w2 ⟨rfl, hx⟩; have X2 := Lib.hid (X1.out.trans hx); clear hx))
    go_ret
    exact ⟨rfl, X0.out.trans X3.out⟩
  have hQ20 : Q.length ≤ 20 := by omega
  obtain ⟨ok, hN10, _, hf20⟩ := fewR_yes HT.out
  have HOK := Lib.hid ok
  have HN10 := Lib.hid hN10
  have HF20 := Lib.hid hf20
  have n0 := ok.n0
  have n64 := ok.n64
  have hfew := ok.few
  clear ok hN10 hf20
  go_upto_region 4 with (first
    | (go_at_call 11; refine (awakeB_any _).mono ?_; rintro e w1 ⟨rfl, hx⟩; have X1 := Lib.hid hx; obtain ⟨k0, k1⟩ := HGC.out w1 hx; clear hx)
    | (go_at_call 28; refine (fewB_any w1 N _ _ E l (HE.out.ext X1.out) (HL.out.ext X1.out) true HT.out).mono ?_; rintro e w2 ⟨rfl, hx⟩; have X2 := Lib.hid (X1.out.trans hx); obtain ⟨j0, j1⟩ := HGC.out w2 X2.out; clear hx)
    | (go_at_call 29; refine (runB_any w2 N _ _ E l (HE.out.ext X2.out) (HL.out.ext X2.out) HOK.out HN10.out HF20.out 40 #[] (enters_of Tryz.func40 (by kernel_rfl) rfl) (fun V vd vm ds ms hV hsv hgd => isFreeB_any V vd vm ds ms hsv)).mono ?_; rintro e w3 ⟨vd, vm, ds0, ms0, rfl, sv, hg0, hx⟩; obtain ⟨a1, n1, c1', a2, n2, c2', rfl, rfl⟩ := sv.sh; have X3 := Lib.hid (X2.out.trans hx); have V3 := Lib.hid sv; have G3 := Lib.hid hg0; clear hx sv hg0))
  obtain ⟨g9, hg9⟩ : ∃ g, g = w3.heap.size := ⟨_, rfl⟩
  obtain ⟨W4, hW4⟩ : ∃ q, q = w3.alloc (.cells #[.slice a1 n1 c1', .slice a2 n2 c2'] 25) := ⟨_, rfl⟩
  have X4 : Hid (Ext W0 W4) := Lib.hid (hW4 ▸ X3.out.alloc _)
  have B4 : Hid (W4.heap[g9]? = some (.cells #[.slice a1 n1 c1', .slice a2 n2 c2'] 25 (0, 0))) := Lib.hid (hW4 ▸ hg9 ▸ at0 w3 _)
  have V4 := Lib.hid (hW4 ▸ V3.out.ext ((Ext.refl _).alloc _) : BV W4 (.slice a1 n1 c1') (.slice a2 n2 c2') ds0 ms0)
  have HSM := Lib.hid (G3.out.sm HOK.out HN10.out)
  have hlen : ds0.length = N.toNat := G3.out.len
  (try rw [← hW4])
  (try rw [← hg9])
  replace hg9 := Lib.hid hg9
  clear hW4 k0 k1 j0 j1 V3
  obtain ⟨k0, k1⟩ := cells2S B4.out
  obtain ⟨j0, j1⟩ := HGC.out W4 X4.out
  by_cases ha0 : a < 0
  · clear hlen
    go_wp2
    go_ret
    exact ⟨rfl, X0.out.trans X4.out⟩
  by_cases haN : N ≤ a
  · clear hlen
    go_wp2
    go_ret
    exact ⟨rfl, X0.out.trans X4.out⟩
  obtain ⟨A, hA⟩ : ∃ A : Nat, a = A := ⟨a.toNat, by omega⟩
  subst hA
  have hAL : A < ds0.length := by omega
  obtain ⟨b3, o3, so, sc, no, nc, dd, hyk, hao, hn3, hnc3, hc633, hb3, hsl, hnl, hcell⟩ := V4.out.ds.drinkerAt hAL
  subst hao hn3
  have hdd : ds0.getD A noK = dd := by rw [List.getD_eq_getElem?_getD, hyk]; rfl
  have HDC := Lib.hid hcell
  have HDD : Hid ((ds0.getD A noK).thirst = dd.thirst) := Lib.hid (by rw [hdd])
  have hAi : (A : Int) < (ds0.length : Int) := by omega
  have HAN : Hid (0 ≤ (A : Int) ∧ (A : Int) < N) := Lib.hid (by omega)
  obtain ⟨e0, e1, e2, e3, e4⟩ := dd
  dsimp only at HDC HDD
  obtain ⟨⟨i0, i1, i2⟩, i3, i4⟩ := HDC.out W4 (Ext.refl _)
  have HLEN := Lib.hid hlen
  clear hcell hdd hyk hsl hnl hlen
  by_cases ht : e3 = 0
  · subst ht
    obtain ⟨⟨⟨L2, M2⟩, er⟩, hst⟩ : ∃ q, stepBB ds0 ms0 0 A 0 Q = q := ⟨_, rfl⟩
    have hop := G3.out.opens HOK.out (a := (A : Int)) HAN.out (by rw [Int.toNat_natCast]; exact HDD.out) 0 Q
    rw [← G3.out.stepBB HOK.out, hst] at hop
    dsimp only at hop
    have HST := Lib.hid hst
    have HOP := Lib.hid hop
    have HFR := Lib.hid (fun (f : Nat) (hf : 11 * E.length ≤ f) => G3.out.freely HOK.out (a := (A : Int)) HAN.out (by rw [Int.toNat_natCast]; exact HDD.out) 0 Q (f := f))
    rw [← G3.out.stepBB HOK.out, hst] at HFR
    dsimp only at HFR
    clear hst hop i0 i1 i2 i4
    go_wp2_with (first
      | (go_at_call 14; refine (ownB_any W4 _ _ ds0 ms0 V4.out HSM.out).mono ?_; rintro e u5 ⟨vd5, vm5, rfl, sv5, x5⟩; obtain ⟨a5, n5, c5, b5, m5, d5, rfl, rfl⟩ := sv5.sh; have S5 := Lib.hid sv5; have X5 : Hid (Ext W4 u5) := Lib.hid x5; clear sv5 x5)
      | (at_builtin; refine wpList_append_sl (α := Int) rfl (.tmp 63) (.tmp 64) rfl u5.heap.size (.slice (some ⟨_, 0, none⟩) 0 0) [] rfl ?_ _ Q rfl ?_ ?_ ?_ ?_; exact (Ow.litAt u5 _ _ rfl (Nat.le_refl _) [] (by simp)); exact ((HQS.out.ext (X4.out.trans X5.out)).alloc _); (first | omega | (simp; omega)); exact (by rw [size_alloc]; omega); intro v6 u6 ho6 ha6; obtain ⟨qa6, qn6, qc6, rfl⟩ := ho6.sh; have Q6 := Lib.hid ho6.sl; have X6 : Hid (Ext W4 u6) := Lib.hid (X5.out.trans (Below.trans (Ext.alloc (Ext.refl u5) _) ha6.below)); have X56 : Hid (Ext u5 u6) := Lib.hid (Below.trans (Ext.alloc (Ext.refl u5) _) ha6.below); clear ho6 ha6)
      | (go_at_call 41; refine (HST.out ▸ bOpen_any u6 _ _ ds0 ms0 (S5.out.ext X56.out) HSM.out (A : Int) 0 _ Q Q6.out (by omega)).mono ?_; rintro e u7 ⟨vd7, vm7, rfl, sv7, x7⟩; dsimp only at sv7 ⊢; obtain ⟨a7, n7, c7, b7, m7, d7, rfl, rfl⟩ := sv7.sh; have U7 := Lib.hid sv7; have Y7 : Hid (Ext W4 u7) := Lib.hid (X6.out.trans x7); clear sv7 x7)
      | refine haltst 25 ?_)
    refine .inl ?_
    obtain ⟨g7, hg7⟩ : ∃ g, g = u7.heap.size := ⟨_, rfl⟩
    have hgw7 : W4.heap.size ≤ g7 := hg7 ▸ Below.size Y7.out
    have G7 := Lib.hid (at0 u7 (.cells #[.slice none 0 0, .slice none 0 0] 25))
    rw [← hg7] at G7 ⊢
    replace hg7 := Lib.hid hg7
    refine st_l 25 (.tmp 11) (.tmp 67) g7 0 25 _ #[.slice a7 n7 c7, .slice b7 m7 d7] _ rfl rfl G7.out (by kernel_rfl) (by simp) rfl rfl ?_
    intro W7 hW7 o7
    simp only [Act.put]
    have Z7 : Hid (Ext W4 W7) := Lib.hid (ext_off (Y7.out.alloc _) o7 (fun b hb => by omega))
    have T7 := Lib.hid ((U7.out.ext ((Ext.refl _).alloc _)).off G7.out o7)
    have C7 := Lib.hid hW7
    clear hW7 o7 G7 U7
    have X7 : Hid (Ext W0 W7) := Lib.hid (X4.out.trans Z7.out)
    clear k0 k1 j0 j1 i3
    by_cases her : er = 0
    · subst her
      obtain ⟨hq1, hg2, hneed, hth, hth0, hoth⟩ : (∀ p ∈ Q, (0 ≤ p ∧ p < N) ∧ btw (A : Int) p ∈ E) ∧ GoodBE N E L2 M2 ∧ (L2.getD (A : Int).toNat noK).need = norm Q ∧ ((L2.getD (A : Int).toNat noK).thirst = 1 ∨ (L2.getD (A : Int).toNat noK).thirst = 2) ∧ (Q = [] → (L2.getD (A : Int).toNat noK).thirst = 2) ∧ ∀ p : Int, (0 ≤ p ∧ p < N) → p ≠ A → (L2.getD p.toNat noK).need = (ds0.getD p.toNat noK).need := by
        rcases HOP.out with ⟨q, _⟩ | ⟨_, q⟩
        · omega
        · exact q
      have HQ1 := Lib.hid hq1
      have HG2 := Lib.hid hg2
      have HSM2 := Lib.hid (hg2.sm HOK.out HN10.out)
      clear hneed hth hoth hq1
      by_cases hQe : Q.length = 0
      · have hQn : Q = [] := List.eq_nil_of_length_eq_zero hQe
        have HIN : Hid ((A : Int) ∈ whoK L2 2) := Lib.hid ((thirst_who hg2 HAN.out).2 (hth0 hQn))
        have HWH := Lib.hid (whoB_any W7 _ _ L2 M2 T7.out (by have := HSM2.out.n; omega) 2)
        have qz : ((Q.length : Int) == 0) = true := by rw [hQe]; rfl
        obtain ⟨k0, k1⟩ := cells2S C7.out
        clear hQe hQn hg2 hth0
        go_wp2_with (first
          | (go_at_call 22; refine HWH.out.mono ?_; rintro e w8 ⟨vp, rfl, op, hx⟩; obtain ⟨pa, pc, rfl⟩ := op.sl.len; have S8 := Lib.hid op.sl; have Y8 : Hid (Ext W7 w8) := Lib.hid hx; clear op hx)
          | (go_at_call 33; refine (refHasI_val w8 _ _ (A : Int) S8.out true (decide_eq_true HIN.out)).mono ?_; rintro e w9 ⟨rfl, rfl⟩))
        go_ret
        exact ⟨rfl, X0.out.trans (X7.out.trans Y8.out)⟩
      · have qz : ((Q.length : Int) == 0) = false := beq_eq_false_iff_ne.2 (by omega)
        have HQB : Hid (∀ p ∈ Q, ∃ B : Nat, p = B ∧ B < ds0.length ∧ btw (A : Int) (B : Int) ∈ E) := Lib.hid fun p hp => by
          obtain ⟨⟨q1, q2⟩, q3⟩ := HQ1.out p hp
          have := HLEN.out
          exact ⟨p.toNat, by omega, by omega, by rwa [show ((p.toNat : Nat) : Int) = p from by omega]⟩
        have HB7 : Hid (∀ V, Ext W7 V → V.cell? ⟨g9, 0, none⟩ = some (.slice (some ⟨b3, o3, none⟩) ds0.length c1') ∧ V.cell? ⟨g9, 1, none⟩ = some (.slice a2 n2 c2')) := Lib.hid fun V hV => cells2S (keepU B4.out (Z7.out.trans hV))
        have HC7 : Hid (∀ V, Ext W7 V → V.cell? ⟨g7, 0, none⟩ = some (.slice a7 n7 c7) ∧ V.cell? ⟨g7, 1, none⟩ = some (.slice b7 m7 d7)) := Lib.hid fun V hV => cells2S (keepU C7.out hV)
        have HQ7 := Lib.hid (HQS.out.ext X7.out)
        have HDS := Lib.hid (V4.out.ds.ext Z7.out)
        have HFRE : Hid ((∀ p ∈ Q, (A : Int) ∉ (ds0.getD p.toNat noK).need) → ∃ ds', quietB (60 * E.length + 60) L2 M2 = some (ds', []) ∧ GoodBE N E ds' [] ∧ (A : Int) ∈ whoK ds' 2) := Lib.hid fun hq => HFR.out (60 * E.length + 60) (by omega) rfl (by omega) hq
        clear hQe hg2 hth0 HFR HOP HQ1
        go_wp2
        go_loopw [13] (fun i wr => ∃ k : Nat, k ≤ Q.length ∧ i = .int .i64 k ∧ Hid (∀ (j : Nat) (p : Int), j < k → Q[j]? = some p → (A : Int) ∉ (ds0.getD p.toNat noK).need) ∧ Hid (Ext W7 wr)) (fun i _ => Q.length - (intOf i).toNat)
        case atStart => exact ⟨0, Nat.zero_le _, rfl, Lib.hid (fun j p hj => by omega), Lib.hid (Ext.refl _)⟩
        case round =>
          obtain ⟨k, hk, rfl, HN, HX⟩ := hrel
          by_cases hlt : k < Q.length
          · have hki : (k : Int) < (Q.length : Int) := by omega
            obtain ⟨nb, nf, hno, _, hnc5, hc635, hcellN⟩ := intAtJ HQ7.out hlt
            subst hno
            have hmem : Q.getD k 0 ∈ Q := by rw [List.getD_eq_getElem?_getD, List.getElem?_eq_getElem hlt]; exact List.getElem_mem hlt
            obtain ⟨B, hpB, hBL, hbt⟩ := HQB.out _ hmem
            have hqk : Q[k]? = some (B : Int) := by rw [← hpB]; simp [hlt]
            rw [hpB] at hcellN
            have HCN := Lib.hid hcellN
            have HQK := Lib.hid hqk
            obtain ⟨b4, o4, so2, sc2, no2, nc2, ff, hfk, hao2, hn4, hnc4, hc634, hb4, hsl2, hnl2, hcell2⟩ := HDS.out.drinkerAt hBL
            obtain ⟨rfl, rfl⟩ : b3 = b4 ∧ o3 = o4 := by simpa using hao2
            have HDF := Lib.hid hcell2
            have HNF := Lib.hid hnl2.sl
            have HND : Hid ((ds0.getD (B : Int).toNat noK).need = ff.need) := Lib.hid (by rw [Int.toNat_natCast, List.getD_eq_getElem?_getD, hfk]; rfl)
            have HG3 : Hid (∀ V, Ext W7 V → _) := Lib.hid fun V hV => refHas_val V N _ E (A : Int) (B : Int) (HE.out.ext (X7.out.trans hV)) true (decide_eq_true hbt)
            have HG7 : Hid (∀ V, Ext W7 V → V.cell? ⟨w.heap.size, 0, none⟩ = some (.int .i64 N) ∧ V.cell? ⟨w.heap.size, 1, none⟩ = some (.slice o0 E.length c0)) := Lib.hid fun V hV => HGC.out V (X7.out.trans hV)
            have hBi : (B : Int) < (ds0.length : Int) := by omega
            obtain ⟨f0, f1, f2, f3, f4⟩ := ff
            dsimp only at HDF HNF HND
            obtain ⟨W8, hW8⟩ : ∃ W8, W8 = wr := ⟨_, rfl⟩
            rw [← hW8] at HX ⊢
            clear hfk hao2 hn4 hsl2 hnl2 hcell2 hcellN hmem hpB hqk hbt hW8
            go_upto_region 14 with (fail)
            go_wp2_with fail
            refine wp_region_M_lit (by kernel_rfl) ?_
            refine tv 0 (h := ?_)
            refine tv 1 (hv := by intro w' hw'; obtain ⟨c0, c1⟩ := HB7.out w' (HX.out.trans hw'); go_simp; first | done | with_reducible rfl) (h := ?_)
            refine tv 2 (h := ?_)
            refine tv 3 (h := ?_)
            refine tv 4 (hv := by intro w' hw'; have hz := hki; go_simp; first | done | with_reducible rfl) (h := ?_)
            refine tv 5 (hv := by intro w' hw'; have hz := HCN.out w' (HX.out.trans hw'); go_simp; first | done | with_reducible rfl) (h := ?_)
            refine tv 6 (hv := by intro w' hw'; have hz := hBi; go_simp; first | done | with_reducible rfl) (h := ?_)
            refine tv 7 (hv := by intro w' hw'; obtain ⟨⟨c0, c1, c2⟩, c3, c4⟩ := HDF.out w' (HX.out.trans hw'); go_simp; first | done | with_reducible rfl) (h := ?_)
            (refine runOne 8 (h := ?_); intro w' hw'; go_simp; refine ⟨Ext.alloc (Ext.refl _) _, ?_⟩; try (simp only [Act.put, List.setIfInBounds_toArray, List.set]))
            obtain ⟨gy, hgy⟩ : ∃ g, g = w'.heap.size := ⟨_, rfl⟩
            have GY := Lib.hid (at0 w' (.cells #[.int .i64 0, .int .i64 0, .slice none 0 0, .int .i64 0, .slice none 0 0] 63))
            have HXW3 : Hid (Ext W8 (w'.alloc (.cells #[.int .i64 0, .int .i64 0, .slice none 0 0, .int .i64 0, .slice none 0 0] 63))) := Lib.hid (hw'.alloc _)
            have hgy9 : W8.heap.size ≤ gy := hgy ▸ Below.size hw'
            rw [← hgy] at GY ⊢
            replace hgy := Lib.hid hgy
            clear hw'
            refine runLate 9 (h := ?_)
            intro wq hq2
            refine wp_st 63 (.tmp 14) (.tmp 93) rfl gy 0 63 _ #[.int .i64 f0, .int .i64 f1, .slice so2 f2.length sc2, .int .i64 f3, .slice no2 f4.length nc2] _ rfl rfl (keepU GY.out hq2) (by kernel_rfl) (by simp) rfl rfl ?_
            intro W9 hW9 o9
            simp only [Act.put]
            (try (simp only [Act.put, List.setIfInBounds_toArray, List.set]))
            (refine lateDone (by kernel_rfl) ?_)
            have X9 : Hid (Ext W8 W9) := Lib.hid (ext_off (HXW3.out.trans hq2) o9 (fun b hb => by omega))
            have D9 := Lib.hid hW9
            have HX79 : Hid (Ext W7 W9) := Lib.hid (HX.out.trans X9.out)
            clear hW9 o9 hq2 hgy9
            obtain ⟨s1, hs1⟩ : ∃ s, decide ((A : Int) ∈ f4) = s := ⟨_, rfl⟩
            have HH : Hid (∀ V, Ext W7 V → _) := Lib.hid fun V hV => refHasI_val V _ f4 (A : Int) (HNF.out.ext hV) s1 hs1
            have HS1 := Lib.hid hs1
            clear hs1
            go_upto_region 15 with (fail)
            go_wp2_with fail
            cases s1
            · refine wp_region_M_lit (by kernel_rfl) ?_
              refine tv 0 (h := ?_)
              refine tv 1 (hv := by intro w' hw'; have hc := cells5 (keepU D9.out hw'); go_simp; first | done | with_reducible rfl) (h := ?_)
              refine tv 2 (h := ?_)
              (refine takeG 3 (v := ?_) (hv := fun w' hw' => ?_) (h := ?_); rotate_left; focus (go_simp; refine ⟨Ext.refl _, ?_⟩; (have hq := gives_same (HH.out w' (HX79.out.trans hw')); exact hq))); (simp only [Act.put, List.setIfInBounds_toArray, List.set])
              refine tv 4 (h := ?_)
              refine tv 5 (hv := by intro w' hw'; have hc := HG7.out w' (HX79.out.trans hw'); go_simp; first | done | with_reducible rfl) (h := ?_)
              refine tv 6 (h := ?_)
              refine tv 7 (h := ?_)
              refine tv 8 (h := ?_)
              refine tv 9 (hv := by intro w' hw'; have hz := hki; go_simp; first | done | with_reducible rfl) (h := ?_)
              refine tv 10 (hv := by intro w' hw'; have hz := HCN.out w' (HX79.out.trans hw'); go_simp; first | done | with_reducible rfl) (h := ?_)
              (refine takeG 11 (v := ?_) (hv := fun w' hw' => ?_) (h := ?_); rotate_left; focus (go_simp; refine ⟨Ext.refl _, ?_⟩; (exact HG3.out w' (HX79.out.trans hw')))); (simp only [Act.put, List.setIfInBounds_toArray, List.set])
              refine tv 12 (h := ?_)
              refine tv 13 (h := ?_)
              (refine doneM (by kernel_rfl) ?_; intro w' hw'; show _)
              have HXE : Hid (Ext W7 w') := Lib.hid (HX79.out.trans hw')
              clear hw'
              go_wp2
              go_roundw
              case rel => exact ⟨k + 1, by omega, by go_num, Lib.hid (fun j p hj hp => by
                rcases Nat.lt_or_ge j k with h1 | h1
                · exact HN.out j p h1 hp
                · obtain rfl : j = k := by omega
                  have := HQK.out.symm.trans hp
                  simp only [Option.some.injEq] at this
                  rw [← this, HND.out]
                  exact of_decide_eq_false HS1.out), HXE⟩
              case measure => simp [intOf]; omega
            · refine wp_region_M_lit (by kernel_rfl) ?_
              refine tv 0 (h := ?_)
              refine tv 1 (hv := by intro w' hw'; have hc := cells5 (keepU D9.out hw'); go_simp; first | done | with_reducible rfl) (h := ?_)
              refine tv 2 (h := ?_)
              (refine takeG 3 (v := ?_) (hv := fun w' hw' => ?_) (h := ?_); rotate_left; focus (go_simp; refine ⟨Ext.refl _, ?_⟩; (have hq := gives_same (HH.out w' (HX79.out.trans hw')); exact hq))); (simp only [Act.put, List.setIfInBounds_toArray, List.set])
              refine tv 4 (h := ?_)
              (refine takeU 5 (h := ?_); (simp only [Act.put, List.setIfInBounds_toArray, List.set]))
              (refine takeU 6 (h := ?_); (simp only [Act.put, List.setIfInBounds_toArray, List.set]))
              (refine takeU 7 (h := ?_); (simp only [Act.put, List.setIfInBounds_toArray, List.set]))
              (refine takeU 8 (h := ?_); (simp only [Act.put, List.setIfInBounds_toArray, List.set]))
              (refine takeU 9 (h := ?_); (simp only [Act.put, List.setIfInBounds_toArray, List.set]))
              (refine takeU 10 (h := ?_); (simp only [Act.put, List.setIfInBounds_toArray, List.set]))
              (refine takeU 11 (h := ?_); (simp only [Act.put, List.setIfInBounds_toArray, List.set]))
              (refine takeU 12 (h := ?_); (simp only [Act.put, List.setIfInBounds_toArray, List.set]))
              refine tv 13 (h := ?_)
              (refine doneM (by kernel_rfl) ?_; intro w' hw'; show _)
              have HXE : Hid (Ext W7 w') := Lib.hid (HX79.out.trans hw')
              obtain ⟨WE, hWE⟩ : ∃ q, q = w' := ⟨_, rfl⟩
              rw [← hWE] at HXE ⊢
              clear hw' hWE
              go_upto_region 16 with (fail)
              go_wp2_with fail
              refine wp_region_M_lit (by kernel_rfl) ?_
              refine tv 0 (hv := by intro w' hw'; have hc := HG7.out w' (HXE.out.trans hw'); go_simp; first | done | with_reducible rfl) (h := ?_)
              refine tv 1 (h := ?_)
              refine tv 2 (h := ?_)
              refine tv 3 (h := ?_)
              refine tv 4 (hv := by intro w' hw'; have hz := hki; go_simp; first | done | with_reducible rfl) (h := ?_)
              refine tv 5 (hv := by intro w' hw'; have hz := HCN.out w' (HXE.out.trans hw'); go_simp; first | done | with_reducible rfl) (h := ?_)
              (refine takeG 6 (v := ?_) (hv := fun w' hw' => ?_) (h := ?_); rotate_left; focus (go_simp; refine ⟨Ext.refl _, ?_⟩; (exact HG3.out w' (HXE.out.trans hw')))); (simp only [Act.put, List.setIfInBounds_toArray, List.set])
              refine tv 7 (h := ?_)
              (refine doneM (by kernel_rfl) ?_; intro w' hw'; show _)
              have HXF : Hid (Ext W7 w') := Lib.hid (HXE.out.trans hw')
              clear hw'
              go_wp2
              go_ret
              exact ⟨rfl, X0.out.trans (X7.out.trans HXF.out)⟩
          · have hkl : k = Q.length := by omega
            have hki : ¬ (k : Int) < (Q.length : Int) := by omega
            obtain ⟨dsF, hqF, hgF, haF⟩ := HFRE.out fun p hp => by
              obtain ⟨j, hj⟩ := List.getElem?_of_mem hp
              exact HN.out j p (by rw [hkl]; exact (List.getElem?_eq_some_iff.1 hj).1) hj
            have HHF : Hid ((A : Int) ∈ whoK dsF 2) := Lib.hid haF
            have HSF := Lib.hid (hgF.sm HOK.out HN10.out)
            obtain ⟨f, hf⟩ : ∃ f : Nat, f = 60 * E.length + 60 := ⟨_, rfl⟩
            have hfi : ((f : Nat) : Int) = 60 * (E.length : Int) + 60 := by omega
            have hw60 : IntKind.i64.wrap (60 * (E.length : Int)) = 60 * (E.length : Int) := wrapN _ (by omega) (by omega)
            have hw61 : IntKind.i64.wrap (60 * (E.length : Int) + 60) = (f : Int) := by rw [hfi]; exact wrapN _ (by omega) (by omega)
            rw [← hf] at hqF
            have HQF := Lib.hid hqF
            have hf1 : f ≤ 100000 := by omega
            replace hfi := Lib.hid hfi
            obtain ⟨WR, hWR⟩ : ∃ q, q = wr := ⟨_, rfl⟩
            rw [← hWR] at HX ⊢
            have XR : Hid (Ext W0 WR) := Lib.hid (X7.out.trans HX.out)
            have TR := Lib.hid (T7.out.ext HX.out)
            obtain ⟨k0, k1⟩ := HC7.out WR HX.out
            obtain ⟨j0, j1⟩ := HGC.out WR XR.out
            clear hkl hlt hqF hgF haF hf HN hWR HFRE
            go_wp2_with (first
              | (go_at_call 38; refine (quietB_any WR _ _ L2 M2 TR.out N E HOK.out HN10.out HG2.out f hf1 dsF HQF.out).mono ?_; rintro e u8 ⟨vd, vm, rfl, sv, hg, hx⟩; obtain ⟨a8, n8, c8, b8, m8, d8, rfl, rfl⟩ := sv.sh; have U8 := Lib.hid sv; have Y8 : Hid (Ext WR u8) := Lib.hid hx; clear sv hg hx)
              | refine haltst 25 ?_)
            refine .inl ?_
            obtain ⟨g8, hg8⟩ : ∃ g, g = u8.heap.size := ⟨_, rfl⟩
            have hgw8 : WR.heap.size ≤ g8 := hg8 ▸ Below.size Y8.out
            have G8 := Lib.hid (at0 u8 (.cells #[.slice none 0 0, .slice none 0 0] 25))
            rw [← hg8] at G8 ⊢
            replace hg8 := Lib.hid hg8
            refine st_l 25 (.tmp 15) (.tmp 123) g8 0 25 _ #[.slice a8 n8 c8, .slice b8 m8 d8] _ rfl rfl G8.out (by kernel_rfl) (by simp) rfl rfl ?_
            intro W8 hW8 o8
            simp only [Act.put]
            have Z8 : Hid (Ext WR W8) := Lib.hid (ext_off (Y8.out.alloc _) o8 (fun b hb => by omega))
            have T8 := Lib.hid ((U8.out.ext ((Ext.refl _).alloc _)).off G8.out o8)
            have C8 := Lib.hid hW8
            clear hW8 o8 G8 U8
            have HWH := Lib.hid (whoB_any W8 _ _ dsF [] T8.out (by have := HSF.out.n; omega) 2)
            clear k0 k1 j0 j1
            obtain ⟨k0, k1⟩ := cells2S C8.out
            go_wp2_with (first
              | (go_at_call 22; refine HWH.out.mono ?_; rintro e w8 ⟨vp, rfl, op, hx⟩; obtain ⟨pa, pc, rfl⟩ := op.sl.len; have S8 := Lib.hid op.sl; have Y9 : Hid (Ext W8 w8) := Lib.hid hx; clear op hx)
              | (go_at_call 33; refine (refHasI_val w8 _ _ (A : Int) S8.out true (decide_eq_true HHF.out)).mono ?_; rintro e w9 ⟨rfl, rfl⟩))
            go_ret
            exact ⟨rfl, X0.out.trans (XR.out.trans (Z8.out.trans Y9.out))⟩
    · have h151 : er = 151 := by
        rcases HOP.out with ⟨q, _⟩ | ⟨q, _⟩
        · exact q
        · exact absurd q her
      subst h151
      clear her HOP HFR
      go_wp2
      go_ret
      exact ⟨rfl, X0.out.trans X7.out⟩
  · have q3 : (e3 != 0) = true := by simp [ht]
    clear ht
    go_wp2
    go_ret
    exact ⟨rfl, X0.out.trans X4.out⟩
end Go.Proofs.YtfbambemjokmgaaGreat
