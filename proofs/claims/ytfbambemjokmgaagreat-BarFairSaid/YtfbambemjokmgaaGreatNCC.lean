/- Texts of this seat. -/
import Derived.Test.YtfbambemjokmgaaGreatNBS
import Derived.Test.YtfbambemjokmgaaGreatNCB
namespace Go.Proofs.YtfbambemjokmgaaGreat
open Go.RowKit
theorem isFairB_any (W : World) (vd vm : Value) (ds : List Dk) (ms : List Ml) (h : BV W vd vm ds ms) :
    Calls Tryz.prog 37 #[.agg #[vd, vm]] W fun e W' => e = .returned (.bool true) ∧ Ext W W' := by
  obtain ⟨ao, n, c, bo, m, d, rfl, rfl⟩ := h.sh
  have X0 : Hid (Ext W (W.alloc (.cells #[.slice ao n c, .slice bo m d] 25))) := Lib.hid ((Ext.refl W).alloc _)
  clear h
  go_enter Tryz.func37, Tryz.ntmps37
  go_wp2
  go_ret
  exact ⟨rfl, X0.out⟩
def FBt (W : World) (g : Nat) (N : Int) (E : List Edge) (f r : Nat) : Prop := ∃ ds ms dsF msF, GoodBE N E ds ms ∧ fairB f r ds ms = some (dsF, msF) ∧ (whoK dsF 0).length = N.toNat ∧ True ∧ GoodBE N E dsF msF ∧ BRt W g ds ms
def PBt (W : World) (g : Nat) (N : Int) (E : List Edge) (f r : Nat) (P : List Int) (k : Nat) : Prop := ∃ ds ms ds2 ms2 dsF msF, GoodBE N E ds ms ∧ closesB (P.drop k) ds ms = some (ds2, ms2) ∧ fairB f r ds2 ms2 = some (dsF, msF) ∧ (whoK dsF 0).length = N.toNat ∧ True ∧ GoodBE N E dsF msF ∧ BRt W g ds ms
theorem fairB_step {f r : Nat} {ds dsF : List Dk} {ms msF : List Ml} (h : fairB f (r + 1) ds ms = some (dsF, msF)) : ∃ ds1 ds2 ms2, quietB f ds ms = some (ds1, []) ∧ (whoK ds1 2 = [] → whoK ds1 1 = []) ∧ closesB (whoK ds1 2) ds1 [] = some (ds2, ms2) ∧ fairB f r ds2 ms2 = some (dsF, msF) := by
  unfold fairB at h
  cases hq : quietB f ds ms with
  | none => rw [hq] at h; cases h
  | some x =>
    obtain ⟨ds1, ms1⟩ := x
    rw [hq] at h
    dsimp only at h
    by_cases hc : ms1 ≠ [] ∨ whoK ds1 2 = [] ∧ whoK ds1 1 ≠ []
    · rw [if_pos hc] at h; cases h
    · rw [if_neg hc] at h
      have h1 : ms1 = [] := Classical.byContradiction fun q => hc (.inl q)
      subst h1
      cases hs : closesB (whoK ds1 2) ds1 [] with
      | none => rw [hs] at h; cases h
      | some y =>
        obtain ⟨ds2, ms2⟩ := y
        rw [hs] at h
        exact ⟨ds1, ds2, ms2, rfl, fun h2 => Classical.byContradiction fun q => hc (.inr ⟨h2, q⟩), hs, h⟩
theorem closesB_next {P : List Int} {k : Nat} {pv : Int} {ds ds2 : List Dk} {ms ms2 : List Ml} (hk : P[k]? = some pv) (h : closesB (P.drop k) ds ms = some (ds2, ms2)) : (stepB ds ms 1 pv 0 []).2 = 0 ∧ closesB (P.drop (k + 1)) (stepB ds ms 1 pv 0 []).1.1 (stepB ds ms 1 pv 0 []).1.2 = some (ds2, ms2) := by
  have hkl := (List.getElem?_eq_some_iff.1 hk).1
  have e : P.drop k = pv :: P.drop (k + 1) := by rw [← (List.getElem?_eq_some_iff.1 hk).2, List.getElem_cons_drop hkl]
  rw [e] at h
  unfold closesB at h
  by_cases he : (stepB ds ms 1 pv 0 []).2 = 0
  · rw [if_pos he] at h
    exact ⟨he, h⟩
  · rw [if_neg he] at h; cases h
set_option maxRecDepth 100000 in
set_option maxHeartbeats 64000000 in
theorem barFair_any (w : World) (N : Int) (o0 : Option Addr) (c0 : Nat) (E : List Edge) (o1 : Option Addr) (c1 : Nat) (l : List Akt) (h : Sl w (.slice o0 E.length c0) E) (hl : Ns AV Non w (.slice o1 l.length c1) l) :
    Calls Tryz.prog 7 #[.agg #[.int .i64 N, .slice o0 E.length c0], .slice o1 l.length c1] w fun e w' => e = .returned (.bool true) ∧ Below w.heap.size w w' := by
  obtain ⟨W0, hW0⟩ : ∃ W0, W0 = w.alloc (.cells #[.int .i64 N, .slice o0 E.length c0] 53) := ⟨_, rfl⟩
  have X0 : Hid (Ext w W0) := Lib.hid (hW0 ▸ (Ext.refl w).alloc _)
  have B0 : Hid (W0.heap[w.heap.size]? = some (.cells #[.int .i64 N, .slice o0 E.length c0] 53 (0, 0))) := Lib.hid (hW0 ▸ at0 w _)
  have HW0 := Lib.hid hW0
  have HE := Lib.hid (h.ext X0.out)
  have HL := Lib.hid (hl.ext X0.out)
  have HGC : Hid (∀ V, Ext W0 V → V.cell? ⟨w.heap.size, 0, none⟩ = some (.int .i64 N) ∧ V.cell? ⟨w.heap.size, 1, none⟩ = some (.slice o0 E.length c0)) := Lib.hid fun V hV => cells2S (keepU B0.out hV)
  have hll := hl.length_le
  obtain ⟨t, ht⟩ : ∃ t, fewR N E l = t := ⟨_, rfl⟩
  have HT := Lib.hid ht
  clear h hl hW0 ht
  go_enter Tryz.func7, Tryz.ntmps7
  go_upto_region 1 with (fail)
  rw [← HW0.out]
  cases t
  · go_wp2_with (first
      | (have hgd := X2; go_at_call 11; refine (awakeB_any _).mono ?_; rintro e w3 ⟨rfl, hx⟩; have X3 := Lib.hid (X2.out.trans hx); clear hx)
      | (go_at_call 11; refine (awakeB_any _).mono ?_; rintro e w1 ⟨rfl, hx⟩; have X1 := Lib.hid hx; obtain ⟨k0, k1⟩ := HGC.out w1 hx; clear hx)
      | (go_at_call 28; refine (fewB_any w1 N _ _ E l (HE.out.ext X1.out) (HL.out.ext X1.out) false HT.out).mono ?_; rintro e w2 ⟨rfl, hx⟩; have X2 := Lib.hid (X1.out.trans hx); clear hx))
    go_ret
    exact ⟨rfl, X0.out.trans X3.out⟩
  obtain ⟨ok, hN10, _, hf20⟩ := fewR_yes HT.out
  have HOK := Lib.hid ok
  have HN10 := Lib.hid hN10
  have HF20 := Lib.hid hf20
  have n0 := ok.n0
  have n64 := ok.n64
  have hfew := ok.few
  clear ok hN10 hf20
  go_upto_region 4 with (first
    | (go_at_call 11; refine (awakeB_any _).mono ?_; rintro e w1 ⟨rfl, hx⟩; have X1 := Lib.hid hx; obtain ⟨k0, k1⟩ := HGC.out w1 hx; clear hx)
    | (go_at_call 28; refine (fewB_any w1 N _ _ E l (HE.out.ext X1.out) (HL.out.ext X1.out) true HT.out).mono ?_; rintro e w2 ⟨rfl, hx⟩; have X2 := Lib.hid (X1.out.trans hx); obtain ⟨j0, j1⟩ := HGC.out w2 X2.out; clear hx)
    | (go_at_call 29; refine (runB_any w2 N _ _ E l (HE.out.ext X2.out) (HL.out.ext X2.out) HOK.out HN10.out HF20.out 37 #[] (enters_of Tryz.func37 (by kernel_rfl) rfl) (fun V vd vm ds ms hV hsv hgd => isFairB_any V vd vm ds ms hsv)).mono ?_; rintro e w3 ⟨vd, vm, ds0, ms0, rfl, sv, hg0, hx⟩; obtain ⟨a1, n1, c1', a2, n2, c2, rfl, rfl⟩ := sv.sh; have X3 := Lib.hid (X2.out.trans hx); have V3 := Lib.hid sv; have G3 := Lib.hid hg0; clear hx sv hg0))
  obtain ⟨g5, hg5⟩ : ∃ g, g = w3.heap.size := ⟨_, rfl⟩
  have hg5w : W0.heap.size ≤ g5 := hg5 ▸ Below.size X3.out
  obtain ⟨W4, hW4⟩ : ∃ q, q = w3.alloc (.cells #[.slice a1 n1 c1', .slice a2 n2 c2] 25) := ⟨_, rfl⟩
  have X4 : Hid (Ext W0 W4) := Lib.hid (hW4 ▸ X3.out.alloc _)
  have B4 : Hid (W4.heap[g5]? = some (.cells #[.slice a1 n1 c1', .slice a2 n2 c2] 25 (0, 0))) := Lib.hid (hW4 ▸ hg5 ▸ at0 w3 _)
  obtain ⟨f, hf⟩ : ∃ f : Nat, f = 60 * E.length + 60 := ⟨_, rfl⟩
  obtain ⟨R, hR⟩ : ∃ R : Nat, R = N.toNat + 1 := ⟨_, rfl⟩
  have HF0 : Hid (FBt W4 g5 N E f R) := Lib.hid (by
    obtain ⟨dsF, msF, h1, h2, h3⟩ := G3.out.fair HOK.out (f := f) (by omega)
    exact ⟨ds0, ms0, dsF, msF, G3.out, hR ▸ h1, by rw [h3, List.length_map, List.length_range], trivial, h2, _, _, _, _, _, _, B4.out, V3.out.ext (hW4 ▸ (Ext.refl _).alloc _)⟩)
  have hfi : ((f : Nat) : Int) = 60 * (E.length : Int) + 60 := by omega
  have hw20 : IntKind.i64.wrap (60 * (E.length : Int)) = 60 * (E.length : Int) := wrapN _ (by omega) (by omega)
  have hw21 : IntKind.i64.wrap (60 * (E.length : Int) + 60) = (f : Int) := by rw [hfi]; exact wrapN _ (by omega) (by omega)
  have HFF := Lib.hid hf
  have HRR := Lib.hid hR
  have hf1 : f ≤ 100000 := by omega
  (try rw [← hW4])
  (try rw [← hg5])
  replace hfi := Lib.hid hfi
  replace hg5 := Lib.hid hg5
  clear hW4 hf hR k0 k1 j0 j1 V3 G3 B4
  go_wp2
  go_loopw [7] (fun i wr => ∃ n : Nat, n ≤ R ∧ i = .int .i64 n ∧ Hid (FBt wr g5 N E f (R - n)) ∧ Hid (Ext W0 wr)) (fun i _ => R - (intOf i).toNat)
  case atStart => exact ⟨0, Nat.zero_le _, rfl, HF0, X4⟩
  case round =>
    obtain ⟨n, hn, rfl, HFA, HX⟩ := hrel
    obtain ⟨ds, ms, dsF, msF, hgd, hfs, hp1, hp2, hgF, sa, sn, sc, sb, sm, sd, hbx, hsv⟩ := HFA.out
    have HGD := Lib.hid hgd
    have HFS := Lib.hid hfs
    have HP1 := Lib.hid hp1
    have HP2 := Lib.hid hp2
    have HGF := Lib.hid hgF
    have HBX := Lib.hid hbx
    have HSV := Lib.hid hsv
    obtain ⟨k0, k1⟩ := cells2S hbx
    obtain ⟨j0, j1⟩ := HGC.out wr HX.out
    clear hgd hfs hp1 hp2 hgF hbx hsv HFA
    by_cases hlt : (n : Int) ≤ N
    · have hnR : n < R := by have := HRR.out; omega
      have hstep : ∃ r, R - n = r + 1 := ⟨R - n - 1, by omega⟩
      obtain ⟨r, hr⟩ := hstep
      have hr1 : R - (n + 1) = r := by omega
      have hfs := HFS.out
      rw [hr] at hfs
      obtain ⟨ds1, ds2, ms2, q1, q2, q3, q4⟩ := fairB_step hfs
      have HQ1 := Lib.hid q1
      have HQ2 := Lib.hid q2
      have HQ3 := Lib.hid q3
      have HQ4 : Hid (fairB f (R - (n + 1)) ds2 ms2 = some (dsF, msF)) := Lib.hid (by rw [hr1]; exact q4)
      clear hfs q1 q2 q3 q4 hr hr1 HFS
      go_wp2_with (first
        | (go_at_call 38; refine (quietB_any wr _ _ ds ms HSV.out N E HOK.out HN10.out HGD.out f hf1 ds1 HQ1.out).mono ?_; rintro e w5 ⟨vd, vm, rfl, sv, hg, hx⟩; obtain ⟨a6, n6, c6, b6, m6, d6, rfl, rfl⟩ := sv.sh; have V5 := Lib.hid sv; have G5 := Lib.hid hg; have Y5 : Hid (Ext wr w5) := Lib.hid hx; clear sv hg hx)
        | refine haltst 25 ?_)
      refine .inl ?_
      obtain ⟨g8, hg8⟩ : ∃ g, g = w5.heap.size := ⟨_, rfl⟩
      have hg8w : wr.heap.size ≤ g8 := hg8 ▸ Below.size Y5.out
      have G8 := Lib.hid (at0 w5 (.cells #[.slice none 0 0, .slice none 0 0] 25))
      have hg5r : g5 < wr.heap.size := blk_lt HBX.out
      rw [← hg8] at G8 ⊢
      replace hg8 := Lib.hid hg8
      refine st_l 25 (.tmp 8) (.tmp 45) g8 0 25 _ #[.slice a6 n6 c6, .slice b6 m6 d6] _ rfl rfl G8.out (by kernel_rfl) (by simp) rfl rfl ?_
      intro W6 hW6 o6
      simp only [Act.put]
      have X6 : Hid (Ext wr W6) := Lib.hid (ext_off (Y5.out.alloc _) o6 (fun b hb => by omega))
      have V6 := Lib.hid ((V5.out.ext ((Ext.refl _).alloc _)).off G8.out o6)
      have B6 := Lib.hid (keepU HBX.out X6.out)
      obtain ⟨i0, i1⟩ := cells2S hW6
      clear hW6 o6 k0 k1 j0 j1 G8 V5
      go_wp2_with (first | refine haltst 25 ?_)
      refine .inl ?_
      refine st_l 25 (.tmp 5) (.tmp 47) g5 0 25 _ #[.slice a6 n6 c6, .slice b6 m6 d6] _ rfl rfl B6.out (by kernel_rfl) (by simp) rfl rfl ?_
      intro W7 hW7 o7
      simp only [Act.put]
      have X7 : Hid (Ext W0 W7) := Lib.hid (ext_off (HX.out.trans X6.out) o7 (fun b hb => by omega))
      have V7 := Lib.hid (V6.out.off B6.out o7)
      have B7 := Lib.hid hW7
      have HPE := Lib.hid (whoB_any W7 _ _ ds1 [] V7.out (by have := (G5.out.sm HOK.out HN10.out).n; omega) 2)
      obtain ⟨k0, k1⟩ := cells2S hW7
      clear hW7 o7 i0 i1 X6 V6 B6
      obtain ⟨P, hP⟩ : ∃ P, P = whoK ds1 2 := ⟨_, rfl⟩
      have hpl : P.length ≤ 100 := by
        rw [hP]; unfold whoK
        rw [List.length_map]
        exact Nat.le_trans (List.length_filter_le _ _) (G5.out.sm HOK.out HN10.out).n
      have HP := Lib.hid hP
      rw [← hP] at HPE HQ2 HQ3
      clear hP
      go_upto_region 12 with (first
        | (go_at_call 22; refine HPE.out.mono ?_; rintro e w8 ⟨vp, rfl, op, hx⟩; obtain ⟨pa, pc, rfl⟩ := op.sl.len; have S8 := Lib.hid op.sl; have Y8 : Hid (Ext W7 w8) := Lib.hid hx; clear op hx))
      have X8 : Hid (Ext W0 w8) := Lib.hid (X7.out.trans Y8.out)
      have B8 := Lib.hid (keepU B7.out Y8.out)
      have V8 := Lib.hid (V7.out.ext Y8.out)
      clear k0 k1
      obtain ⟨k0, k1⟩ := cells2S B8.out
      have HPA : Hid (∀ V, Ext w8 V → PBt V g5 N E f (R - (n + 1)) P 0) := Lib.hid fun V hV => ⟨ds1, [], ds2, ms2, dsF, msF, G5.out, HQ3.out, HQ4.out, HP1.out, HP2.out, HGF.out, _, _, _, _, _, _, keepU B8.out hV, V8.out.ext hV⟩
      go_cut [62] (fun q wx => q = .bool false ∧ Hid (Ext w8 wx))
      case first =>
        by_cases hz : P.length = 0
        · have HP0 : Hid (whoK ds1 1 = []) := Lib.hid (HQ2.out (List.eq_nil_of_length_eq_zero hz))
          have HPH := Lib.hid (HP0.out ▸ whoB_any w8 _ _ ds1 [] V8.out (by have := (G5.out.sm HOK.out HN10.out).n; omega) 1)
          have q : ((P.length : Int) == 0) = true := by rw [hz]; rfl
          clear hz
          go_wp2_with (go_at_call 22; refine HPH.out.mono ?_; rintro e w9 ⟨vp, rfl, op, hx⟩; obtain ⟨pa2, pc2, e1⟩ := op.sl.len; rw [show ([] : List Int).length = 0 from rfl] at e1; subst e1; have Y9 : Hid (Ext w8 w9) := Lib.hid hx; clear op hx)
          go_meet
          exact ⟨rfl, Y9⟩
        · have q : ((P.length : Int) == 0) = false := beq_eq_false_iff_ne.2 (by omega)
          clear hz
          go_wp2_with fail
          go_meet
          exact ⟨rfl, Lib.hid (Ext.refl _)⟩
      case rest =>
      obtain ⟨rfl, hcut⟩ := hcut
      have HP0 : Hid (PBt wc g5 N E f (R - (n + 1)) P 0) := Lib.hid (HPA.out wc hcut.out)
      have HXC : Hid (Ext W0 wc) := Lib.hid (X8.out.trans hcut.out)
      have HPS : Hid (Sl wc (.slice pa P.length pc) P) := Lib.hid (S8.out.ext hcut.out)
      obtain ⟨WC, hWC⟩ : ∃ q, q = wc := ⟨_, rfl⟩
      rw [← hWC] at HP0 HXC HPS ⊢
      clear hWC hcut HPA HGD HP1 HP2 HGF HBX HSV HQ1 HQ2 HQ3 HQ4 B7 V7 HPE S8 Y8 X8 B8 V8 k0 k1 G5 HP
      go_wp2
      go_loopw [11] (fun i wr => ∃ k : Nat, k ≤ P.length ∧ i = .int .i64 k ∧ Hid (PBt wr g5 N E f (R - (n + 1)) P k) ∧ Hid (Sl wr (.slice pa P.length pc) P) ∧ Hid (Ext W0 wr)) (fun i _ => P.length - (intOf i).toNat)
      case atStart => exact ⟨0, Nat.zero_le _, rfl, HP0, HPS, HXC⟩
      case round =>
        obtain ⟨k, hk, rfl, HPA, HPS, HX⟩ := hrel
        obtain ⟨ds, ms, dsE, msE, dsG, msG, hgd, hst, hfs, hp1, hp2, hgF, sa, sn, sc, sb, sm, sd, hbx, hsv⟩ := HPA.out
        have HGD := Lib.hid hgd
        have HST := Lib.hid hst
        have HFS := Lib.hid hfs
        have HPP := Lib.hid (And.intro hp1 (And.intro hp2 hgF))
        have HBX := Lib.hid hbx
        have HSV := Lib.hid hsv
        have HSM := Lib.hid (hgd.sm HOK.out HN10.out)
        clear hgd hst hfs hp1 hp2 hgF hbx hsv HPA
        by_cases hlt2 : k < P.length
        · obtain ⟨b9, o9, hpa, hn9, hnc, hc63, hb9, hcell⟩ := HPS.out.intsAt hlt2
          have hpk : P[k]? = some (P.getD k 0) := by simp [hlt2]
          obtain ⟨pv, hpv⟩ : ∃ q, q = P.getD k 0 := ⟨_, rfl⟩
          rw [← hpv] at hcell hpk
          obtain ⟨e1, e2⟩ := closesB_next hpk HST.out
          have HQS : Hid (∃ ds2 ms2, stepBB ds ms 1 pv 0 [] = ((ds2, ms2), 0) ∧ GoodBE N E ds2 ms2 ∧ closesB (P.drop (k + 1)) ds2 ms2 = some (dsE, msE)) := Lib.hid (by
            have hs := HGD.out.stepBB HOK.out (k := 1) (a := pv) (b := 0) (Q := [])
            refine ⟨(stepB ds ms 1 pv 0 []).1.1, (stepB ds ms 1 pv 0 []).1.2, by rw [hs]; exact Prod.ext rfl e1, ?_, e2⟩
            rcases HGD.out.step HOK.out (k := 1) (a := pv) (b := 0) (Q := []) (by omega) with ⟨_, h⟩ | ⟨_, h⟩
            · exact h
            · rw [e1] at h; simp at h)
          obtain ⟨ds2, ms2, hq, hg2, hs2⟩ := HQS.out
          have HQ := Lib.hid hq
          have HG2 := Lib.hid hg2
          have HS2 := Lib.hid hs2
          have HPC : Hid (∀ V, Ext wr V → V.cell? ⟨b9, o9 + k, none⟩ = some (.int .i64 pv)) := Lib.hid fun V hV => (hV.cell (p := ⟨b9, o9 + k, none⟩) hb9).trans hcell
          have hki : (k : Int) < (P.length : Int) := by omega
          subst hpa
          clear hn9 hcell hpk hpv e1 e2 HQS hq hg2 hs2 HST
          go_upto_region 17 with (fail)
          go_cut [12, 13] (fun s12 s13 wx => ∃ g, s12 = .pointer (some ⟨g, 0, none⟩) ∧ s13 = .int .i64 0 ∧ Hid (BRt wx g ds2 ms2) ∧ Hid (Ext wr wx) ∧ wr.heap.size ≤ g)
          case first =>
            go_wp2_with fail
            (refine wp_region_X_lit (K := fun V => Ext wr V) (by kernel_rfl) (fun w1 hw1 => ?_))
            have Z1 : Hid (Ext wr w1) := Lib.hid hw1
            clear hw1
            refine xtv 0 (hv := by intro w' hw'; obtain ⟨c0, c1⟩ := cells2S (keepU HBX.out hw'); go_simp; first | done | with_reducible rfl) (h := ?_)
            refine xtv 2 (h := ?_)
            refine xtv 3 (h := ?_)
            refine xtv 4 (hv := by intro w' hw'; have hz := hki; go_simp; first | done | with_reducible rfl) (h := ?_)
            refine xtv 5 (hv := by intro w' hw'; have hz := HPC.out w' hw'; go_simp; first | done | with_reducible rfl) (h := ?_)
            refine xtwo 1 10 (hk := Z1.out) (h := RunX.of 1 (h := ?_)) (h' := RunX.of 10 (h := ?_))
            · go_simp
              refine (ownB_any w1 _ _ ds ms (HSV.out.ext Z1.out) HSM.out).mono ?_
              rintro e3 w3 ⟨vd3, vm3, rfl, sv3, x3⟩
              obtain ⟨a3, n3, c3, b3, m3, d3, rfl, rfl⟩ := sv3.sh
              have S3 := Lib.hid sv3
              have Y3 : Hid (Ext wr w3) := Lib.hid (Ext.trans Z1.out x3)
              clear sv3 x3
              dsimp only
              (try (simp only [Act.put, List.setIfInBounds_toArray, List.set]))
              refine xtwo 6 10 (hk := Y3.out) (h := RunX.of 6 (h := ?_)) (h' := RunX.of 10 (h := ?_))
              · go_simp
                refine (HQ.out ▸ bClose_any w3 _ _ ds ms (S3.out.ext (Ext.refl _)) HSM.out pv 0).mono ?_
                rintro e4 w4 ⟨vd4, vm4, rfl, sv4, x4⟩
                dsimp only at sv4 ⊢
                obtain ⟨a4, n4, c4, b4, m4, d4, rfl, rfl⟩ := sv4.sh
                have S4 := Lib.hid sv4
                have Y4 : Hid (Ext wr w4) := Lib.hid (Ext.trans Y3.out x4)
                have Z4 := Lib.hid x4
                clear sv4 x4
                (try (simp only [Act.put, List.setIfInBounds_toArray, List.set]))
                refine xtv 7 (h := ?_)
                refine xtv 8 (h := ?_)
                refine xtv 9 (h := ?_)
                refine xone 10 (hk := Y4.out) (h := RunX.of 10 (h := ?_))
                go_simp
                (try (simp only [Act.put, List.setIfInBounds_toArray, List.set]))
                obtain ⟨gx, hgx⟩ : ∃ g, g = w4.heap.size := ⟨_, rfl⟩
                obtain ⟨w5, hw5⟩ : ∃ q, q = w4.alloc (.cells #[.slice none 0 0, .slice none 0 0] 25) := ⟨_, rfl⟩
                have B5 : Hid (w5.heap[gx]? = some (.cells #[.slice none 0 0, .slice none 0 0] 25 (0, 0))) := Lib.hid (hw5 ▸ hgx ▸ at0 w4 _)
                have Y5 : Hid (Ext wr w5) := Lib.hid (hw5 ▸ Y4.out.alloc _)
                have Z5 : Hid (Ext w4 w5) := Lib.hid (hw5 ▸ (Ext.refl _).alloc _)
                have hgw : wr.heap.size ≤ gx := hgx ▸ Below.size Y4.out
                rw [← hw5, ← hgx]
                clear hw5 hgx
                refine xone 11 (hk := Y5.out) (h := RunX.of 11 (h := ?_))
                refine wp_st 25 (.tmp 12) (.tmp 77) rfl gx 0 25 #[.slice none 0 0, .slice none 0 0] #[.slice a4 n4 c4, .slice b4 m4 d4] _ rfl rfl B5.out (by kernel_rfl) (by simp) rfl rfl ?_
                intro WB hWB oB
                simp only [Act.put]
                have YB : Hid (Ext wr WB) := Lib.hid (ext_off Y5.out oB (fun b hb => by omega))
                have SB1 : Hid (BRt WB gx ds2 ms2) := Lib.hid ⟨_, _, _, _, _, _, hWB, BV.off (S4.out.ext Z5.out) B5.out oB⟩
                clear hWB oB
                refine xtv 12 (h := ?_)
                (refine xdone (by kernel_rfl) (YB.out) ?_)
                go_wp2_with fail
                go_meet
                exact ⟨gx, rfl, rfl, SB1, YB, hgw⟩
              · go_simp
                (try (simp only [Act.put, List.setIfInBounds_toArray, List.set]))
                obtain ⟨gx, hgx⟩ : ∃ g, g = w3.heap.size := ⟨_, rfl⟩
                obtain ⟨w5, hw5⟩ : ∃ q, q = w3.alloc (.cells #[.slice none 0 0, .slice none 0 0] 25) := ⟨_, rfl⟩
                have B5 : Hid (w5.heap[gx]? = some (.cells #[.slice none 0 0, .slice none 0 0] 25 (0, 0))) := Lib.hid (hw5 ▸ hgx ▸ at0 w3 _)
                have Y5 : Hid (Ext wr w5) := Lib.hid (hw5 ▸ Y3.out.alloc _)
                have Z5 : Hid (Ext w3 w5) := Lib.hid (hw5 ▸ (Ext.refl _).alloc _)
                have hgw : wr.heap.size ≤ gx := hgx ▸ Below.size Y3.out
                rw [← hw5, ← hgx]
                clear hw5 hgx
                refine xone 6 (hk := Y5.out) (h := RunX.of 6 (h := ?_))
                go_simp
                refine (HQ.out ▸ bClose_any w5 _ _ ds ms (S3.out.ext Z5.out) HSM.out pv 0).mono ?_
                rintro e4 w4 ⟨vd4, vm4, rfl, sv4, x4⟩
                dsimp only at sv4 ⊢
                obtain ⟨a4, n4, c4, b4, m4, d4, rfl, rfl⟩ := sv4.sh
                have S4 := Lib.hid sv4
                have Y4 : Hid (Ext wr w4) := Lib.hid (Ext.trans Y5.out x4)
                have Z4 := Lib.hid x4
                clear sv4 x4
                (try (simp only [Act.put, List.setIfInBounds_toArray, List.set]))
                refine xtv 7 (h := ?_)
                refine xtv 8 (h := ?_)
                refine xtv 9 (h := ?_)
                refine xone 11 (hk := Y4.out) (h := RunX.of 11 (h := ?_))
                refine wp_st 25 (.tmp 12) (.tmp 77) rfl gx 0 25 #[.slice none 0 0, .slice none 0 0] #[.slice a4 n4 c4, .slice b4 m4 d4] _ rfl rfl (keepU B5.out Z4.out) (by kernel_rfl) (by simp) rfl rfl ?_
                intro WB hWB oB
                simp only [Act.put]
                have YB : Hid (Ext wr WB) := Lib.hid (ext_off Y4.out oB (fun b hb => by omega))
                have SB1 : Hid (BRt WB gx ds2 ms2) := Lib.hid ⟨_, _, _, _, _, _, hWB, BV.off S4.out (keepU B5.out Z4.out) oB⟩
                clear hWB oB
                refine xtv 12 (h := ?_)
                (refine xdone (by kernel_rfl) (YB.out) ?_)
                go_wp2_with fail
                go_meet
                exact ⟨gx, rfl, rfl, SB1, YB, hgw⟩
            · go_simp
              (try (simp only [Act.put, List.setIfInBounds_toArray, List.set]))
              obtain ⟨gx, hgx⟩ : ∃ g, g = w1.heap.size := ⟨_, rfl⟩
              obtain ⟨w2, hw2⟩ : ∃ q, q = w1.alloc (.cells #[.slice none 0 0, .slice none 0 0] 25) := ⟨_, rfl⟩
              have B2 : Hid (w2.heap[gx]? = some (.cells #[.slice none 0 0, .slice none 0 0] 25 (0, 0))) := Lib.hid (hw2 ▸ hgx ▸ at0 w1 _)
              have Y2 : Hid (Ext wr w2) := Lib.hid (hw2 ▸ Z1.out.alloc _)
              have Z2 : Hid (Ext w1 w2) := Lib.hid (hw2 ▸ (Ext.refl _).alloc _)
              have hgw : wr.heap.size ≤ gx := hgx ▸ Below.size Z1.out
              rw [← hw2, ← hgx]
              clear hw2 hgx
              refine xone 1 (hk := Y2.out) (h := RunX.of 1 (h := ?_))
              go_simp
              refine (ownB_any w2 _ _ ds ms (HSV.out.ext Y2.out) HSM.out).mono ?_
              rintro e3 w3 ⟨vd3, vm3, rfl, sv3, x3⟩
              obtain ⟨a3, n3, c3, b3, m3, d3, rfl, rfl⟩ := sv3.sh
              have S3 := Lib.hid sv3
              have Y3 : Hid (Ext wr w3) := Lib.hid (Ext.trans Y2.out x3)
              have Z3 := Lib.hid x3
              clear sv3 x3
              dsimp only
              (try (simp only [Act.put, List.setIfInBounds_toArray, List.set]))
              refine xone 6 (hk := Y3.out) (h := RunX.of 6 (h := ?_))
              go_simp
              refine (HQ.out ▸ bClose_any w3 _ _ ds ms (S3.out.ext (Ext.refl _)) HSM.out pv 0).mono ?_
              rintro e4 w4 ⟨vd4, vm4, rfl, sv4, x4⟩
              dsimp only at sv4 ⊢
              obtain ⟨a4, n4, c4, b4, m4, d4, rfl, rfl⟩ := sv4.sh
              have S4 := Lib.hid sv4
              have Y4 : Hid (Ext wr w4) := Lib.hid (Ext.trans Y3.out x4)
              have Z4 := Lib.hid x4
              clear sv4 x4
              (try (simp only [Act.put, List.setIfInBounds_toArray, List.set]))
              refine xtv 7 (h := ?_)
              refine xtv 8 (h := ?_)
              refine xtv 9 (h := ?_)
              refine xone 11 (hk := Y4.out) (h := RunX.of 11 (h := ?_))
              refine wp_st 25 (.tmp 12) (.tmp 77) rfl gx 0 25 #[.slice none 0 0, .slice none 0 0] #[.slice a4 n4 c4, .slice b4 m4 d4] _ rfl rfl (keepU (keepU B2.out Z3.out) Z4.out) (by kernel_rfl) (by simp) rfl rfl ?_
              intro WB hWB oB
              simp only [Act.put]
              have YB : Hid (Ext wr WB) := Lib.hid (ext_off Y4.out oB (fun b hb => by omega))
              have SB1 : Hid (BRt WB gx ds2 ms2) := Lib.hid ⟨_, _, _, _, _, _, hWB, BV.off S4.out (keepU (keepU B2.out Z3.out) Z4.out) oB⟩
              clear hWB oB
              refine xtv 12 (h := ?_)
              (refine xdone (by kernel_rfl) (YB.out) ?_)
              go_wp2_with fail
              go_meet
              exact ⟨gx, rfl, rfl, SB1, YB, hgw⟩
          case rest =>
            obtain ⟨gt, rfl, rfl, HTB, HX2, hgt⟩ := hcut
            obtain ⟨WD, hWD⟩ : ∃ q, q = wc := ⟨_, rfl⟩
            rw [← hWD] at HTB HX2 ⊢
            clear hWD
            have BC := Lib.hid (keepU HBX.out HX2.out)
            obtain ⟨ta, tn, tc, tb, tm, td, htb, htv⟩ := HTB.out
            obtain ⟨j0, j1⟩ := cells2S htb
            have HTV := Lib.hid htv
            have PS2 := Lib.hid (HPS.out.ext HX2.out)
            clear htb htv
            go_wp2_with (first | refine haltst 25 ?_)
            refine .inl ?_
            refine st_l 25 (.tmp 5) (.tmp 81) g5 0 25 _ #[.slice ta tn tc, .slice tb tm td] _ rfl rfl BC.out (by kernel_rfl) (by simp) rfl rfl ?_
            intro W5 hW5 o5
            simp only [Act.put]
            have X5 : Hid (Ext W0 W5) := Lib.hid (ext_off (HX.out.trans HX2.out) o5 (fun b hb => by omega))
            have V5 := Lib.hid (HTV.out.off BC.out o5)
            have PS5 : Hid (Sl W5 (.slice (some ⟨b9, o9, none⟩) P.length pc) P) := Lib.hid ((apart_box PS2.out BC.out (two_slices _ _ _ _ _ _) fun x => ⟨x, rfl⟩).off o5 (G := Non) (fun k hk => hk.elim)).sl
            have B5 := Lib.hid hW5
            clear hW5 o5 j0 j1
            go_wp2
            go_roundw
            case rel => exact ⟨k + 1, by omega, by go_num, Lib.hid ⟨ds2, ms2, dsE, msE, dsG, msG, HG2.out, HS2.out, HFS.out, HPP.out.1, HPP.out.2.1, HPP.out.2.2, _, _, _, _, _, _, B5.out, V5.out⟩, PS5, X5⟩
            case measure => simp [intOf]; omega
        · have hke : P.drop k = [] := List.drop_of_length_le (by omega)
          have hE : ds = dsE ∧ ms = msE := by
            have h := HST.out
            rw [hke] at h
            unfold closesB at h
            simpa using h
          obtain ⟨rfl, rfl⟩ := hE
          clear hke HST
          go_wp2
          go_roundw
          case rel => exact ⟨n + 1, by omega, by go_num, Lib.hid ⟨ds, ms, dsG, msG, HGD.out, HFS.out, HPP.out.1, HPP.out.2.1, HPP.out.2.2, _, _, _, _, _, _, HBX.out, HSV.out⟩, HX⟩
          case measure => simp [intOf]; omega
    · have hR0 : R - n = 0 := by have := HRR.out; omega
      have hE : ds = dsF ∧ ms = msF := by
        have h := HFS.out
        rw [hR0] at h
        unfold fairB at h
        simpa using h
      obtain ⟨rfl, rfl⟩ := hE
      have HSM := Lib.hid (HGD.out.sm HOK.out HN10.out)
      have HPH : Hid (∀ V, Ext wr V → _) := Lib.hid fun V hV => whoB_any V _ _ ds ms (HSV.out.ext hV) (by have := HSM.out.n; omega) 0
      have hend : (((whoK ds 0).length : Int) == N) = true := by rw [HP1.out]; simp; omega
      have HGR : Hid (∀ V, Ext wr V → _) := Lib.hid fun V hV => HGC.out V (HX.out.trans hV)
      clear hR0 HFS HP1 HP2
      go_upto_region 21 with (fail)
      go_wp2_with fail
      refine wp_region_M_lit (by kernel_rfl) ?_
      refine tv 0 (hv := by intro w' hw'; obtain ⟨c0, c1⟩ := cells2S (keepU HBX.out hw'); go_simp; first | done | with_reducible rfl) (h := ?_)
      refine tv 3 (h := ?_)
      refine tv 4 (hv := by intro w' hw'; obtain ⟨c0, c1⟩ := HGR.out w' hw'; go_simp; first | done | with_reducible rfl) (h := ?_)
      refine runOne 1 (h := ?_)
      intro w5 hw5
      go_simp
      refine (HPH.out w5 hw5).mono ?_
      rintro e6 w6 ⟨v6, rfl, o6, x6⟩
      obtain ⟨pa2, pc2, rfl⟩ := o6.sl.len
      have X6 : Hid (Ext wr w6) := Lib.hid (hw5.trans x6)
      refine ⟨x6, ?_⟩
      clear o6 x6 hw5
      (try (simp only [Act.put, List.setIfInBounds_toArray, List.set]))
      refine tv 2 (h := ?_)
      refine tv 5 (h := ?_)
      refine tv 6 (h := ?_)
      (refine doneM (by kernel_rfl) ?_; intro w' hw'; show _)
      have XL : Hid (Ext wr w') := Lib.hid (X6.out.trans hw')
      clear hw'
      go_wp2
      go_ret
      exact ⟨rfl, X0.out.trans (HX.out.trans XL.out)⟩
end Go.Proofs.YtfbambemjokmgaaGreat
