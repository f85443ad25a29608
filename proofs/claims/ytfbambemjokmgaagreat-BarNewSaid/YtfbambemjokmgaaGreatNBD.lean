/- Texts of this seat. -/
import Derived.Test.YtfbambemjokmgaaGreatNAX
import Derived.Test.YtfbambemjokmgaaGreatNBB
namespace Go.Proofs.YtfbambemjokmgaaGreat
open Go.RowKit
set_option maxRecDepth 100000 in
set_option maxHeartbeats 1000000 in
theorem meantB_one (W : World) (g1 g2 : Nat) (a b : Int) (m : Ml) (h1 : W.heap[g1]? = some (.cells #[.int .i64 a] 3 (0, 0))) (h2 : W.heap[g2]? = some (.cells #[.int .i64 b] 3 (0, 0))) (t : Bool) (ht : (m.from_ == a && m.to_ == b) = t) :
    Calls Tryz.prog 88 #[m.val, .pointer (some ⟨g1, 0, none⟩), .pointer (some ⟨g2, 0, none⟩)] W fun e W' => e = .returned (.bool t) ∧ Ext W W' := by
  obtain ⟨m0, m1, m2, m3, m4⟩ := m
  unfold Ml.val
  dsimp only at ht ⊢
  have X0 : Hid (Ext W (W.alloc (.cells #[.int .i64 m0, .int .i64 m1, .int .i64 m2, .int .i64 m3, .int .i64 m4] 95))) := Lib.hid ((Ext.refl W).alloc _)
  have q := at0 W (.cells #[.int .i64 m0, .int .i64 m1, .int .i64 m2, .int .i64 m3, .int .i64 m4] 95)
  have k0 := blk_cell q 0 rfl
  have k1 := blk_cell q 1 rfl
  have k2 := blk_cell (keepU h1 X0.out) 0 rfl
  have k3 := blk_cell (keepU h2 X0.out) 0 rfl
  have HT := Lib.hid ht
  clear q h1 h2 ht
  go_enter Tryz.func88, Tryz.ntmps88
  by_cases e : m0 = a
  · have q : (m0 == a) = true := by simp [e]
    have HE := Lib.hid q
    clear e
    go_wp2
    go_ret
    exact ⟨ret_bool (by rw [← HT.out, HE.out]; simp), X0.out⟩
  · have q : (m0 == a) = false := by simp [e]
    have HE := Lib.hid q
    clear e
    go_wp2
    go_ret
    exact ⟨ret_bool (by rw [← HT.out, HE.out]; rfl), X0.out⟩
set_option maxRecDepth 100000 in
set_option maxHeartbeats 2000000 in
theorem getB_one (w : World) (g1 g2 : Nat) (p k me n : Int) (id ph th : Int) (v nv : Value) (L : List Sd) (N : List Int) (h : Sl w v L) (hN : Sl w nv N) (hl : L.length ≤ 1000) (hlN : N.length ≤ 1000) (h1 : w.heap[g1]? = some (.cells #[.int .i64 p] 3 (0, 0))) (h2 : w.heap[g2]? = some (.cells #[.int .i64 k, .int .i64 me, .int .i64 n] 93 (0, 0))) :
    Calls Tryz.prog 90 #[.agg #[.int .i64 id, .int .i64 ph, v, .int .i64 th, nv], .pointer (some ⟨g1, 0, none⟩), .pointer (some ⟨g2, 0, none⟩)] w (GivesD w (getK ⟨id, ph, L, th, N⟩ p k me n)) := by
  obtain ⟨ao, c, rfl⟩ := h.len
  obtain ⟨na, nc, rfl⟩ := hN.len
  obtain ⟨W0, hW0⟩ : ∃ W0, W0 = (w.alloc (.cells #[.int .i64 id, .int .i64 ph, .slice ao L.length c, .int .i64 th, .slice na N.length nc] 63)).alloc (.cells #[.int .i64 0, .int .i64 0, .slice none 0 0, .int .i64 0, .slice none 0 0] 63) := ⟨_, rfl⟩
  have X0 : Hid (Ext w W0) := Lib.hid (hW0 ▸ ((Ext.refl w).alloc _).alloc _)
  have hD : W0.heap[w.heap.size]? = some (.cells #[.int .i64 id, .int .i64 ph, .slice ao L.length c, .int .i64 th, .slice na N.length nc] 63 (0, 0)) := hW0 ▸ old1 (at0 w _) _
  have R0 : Hid (W0.heap[w.heap.size + 1]? = some (.cells #[.int .i64 0, .int .i64 0, .slice none 0 0, .int .i64 0, .slice none 0 0] 63 (0, 0))) := Lib.hid (hW0 ▸ at1 w _ _)
  have hs0 : W0.heap.size = w.heap.size + 2 := by rw [hW0, size_alloc, size_alloc]
  have HW0 := Lib.hid hW0
  have HC := Lib.hid (dkGet_any W0 id ph th p k me n _ _ L N (h.ext X0.out) (hN.ext X0.out) hl hlN)
  obtain ⟨⟨d0, d1, d2⟩, d3, d4⟩ := cells5 hD
  have q0 := blk_cell (keepU h1 X0.out) 0 rfl
  obtain ⟨r0, r1, r2⟩ := cells3U (keepU h2 X0.out)
  have HS0 := Lib.hid hs0
  clear h hN hW0 hD h1 h2 hs0
  obtain ⟨⟨⟨id', ph', L', th', N'⟩, er⟩, hr⟩ : ∃ r, getK ⟨id, ph, L, th, N⟩ p k me n = r := ⟨_, rfl⟩
  rw [hr] at HC ⊢
  clear hr
  go_enter Tryz.func90, Tryz.ntmps90
  go_upto_region 1 with (fail)
  rw [← HW0.out]
  go_wp2_with (first
    | (go_at_call 91; refine HC.out.mono ?_; rintro e w1 ⟨v1, nv1, rfl, s1, sn1, x1, n1⟩; dsimp only at s1 sn1 ⊢; obtain ⟨a1, c1, rfl⟩ := s1.len; obtain ⟨na1, nc1, rfl⟩ := sn1.len; have S1 := Lib.hid s1; have SN1 := Lib.hid sn1; have X1 := Lib.hid x1; have N1 := Lib.hid n1; clear s1 sn1 x1 n1)
    | refine haltst 63 ?_)
  refine .inl ?_
  refine st_l 63 (.tmp 4) (.tmp 10) (w.heap.size + 1) 0 63 #[.int .i64 0, .int .i64 0, .slice none 0 0, .int .i64 0, .slice none 0 0] _ _ rfl rfl (keepU R0.out X1.out) (by kernel_rfl) (by simp) rfl rfl ?_
  intro W9 hW9 o9
  simp only [Act.put]
  go_wp2
  exact bodyPost_ret (v := .tuple #[.agg _, .int .i64 er]) (res_ct 5 rfl rfl hW9 uDrinker (by kernel_rfl)) rfl ⟨_, _, rfl, S1.out.off (apartSd S1.out (keepU R0.out X1.out) (by simp)) o9, slOffU SN1.out N1.out o9 (by have := HS0.out; omega), ext_off (X0.out.trans X1.out) o9 (fun b hb => by omega)⟩
theorem SmB.cut {L : List Dk} {M : List Ml} (h : SmB L M) (k : Nat) : SmB L (M.take k ++ M.drop (k + 1)) := ⟨h.n, h.s, h.k, by have := h.m; rw [List.length_append, List.length_take, List.length_drop]; omega⟩
set_option maxRecDepth 100000 in
set_option maxHeartbeats 16000000 in
theorem bDeliver_any (w : World) (vd vm : Value) (L : List Dk) (M : List Ml) (h : BV w vd vm L M) (hl : SmB L M) (a b : Int) :
    Calls Tryz.prog 48 #[.agg #[vd, vm], .int .i64 a, .int .i64 b] w (GivesBar w (stepBB L M 2 a b [])) := by
  have hmf : ∀ (fn : Fn) (first cap : Array Value) (w : World), (Instr.makeFunc fn first cap).run Tryz.prog w = .ok (.func fn first cap) w := fun _ _ _ _ => rfl
  obtain ⟨ao, c, bo, d, rfl, rfl⟩ := h.len
  obtain ⟨W0, hW0⟩ : ∃ W0, W0 = (((w.alloc (.cells #[.slice ao L.length c, .slice bo M.length d] 25)).alloc (.cells #[.int .i64 a] 3)).alloc (.cells #[.int .i64 b] 3)).alloc (.cells #[.slice none 0 0, .slice none 0 0] 25) := ⟨_, rfl⟩
  have X0 : Hid (Ext w W0) := Lib.hid (hW0 ▸ ((((Ext.refl w).alloc _).alloc _).alloc _).alloc _)
  have B0 : Hid (W0.heap[w.heap.size]? = some (.cells #[.slice ao L.length c, .slice bo M.length d] 25 (0, 0))) := Lib.hid (hW0 ▸ old1 (old1 (old1 (at0 w _) _) _) _)
  have F0 : Hid (W0.heap[w.heap.size + 1]? = some (.cells #[.int .i64 a] 3 (0, 0))) := Lib.hid (hW0 ▸ old1 (old1 (at1 w _ _) _) _)
  have T0 : Hid (W0.heap[w.heap.size + 2]? = some (.cells #[.int .i64 b] 3 (0, 0))) := Lib.hid (hW0 ▸ old1 (at2 w _ _ _) _)
  have R0 : Hid (W0.heap[w.heap.size + 3]? = some (.cells #[.slice none 0 0, .slice none 0 0] 25 (0, 0))) := Lib.hid (hW0 ▸ at3 w _ _ _ _)
  have HS0 : Hid (W0.heap.size = w.heap.size + 4) := Lib.hid (by rw [hW0, size_alloc, size_alloc, size_alloc, size_alloc])
  have HW0 := Lib.hid hW0
  have HV := Lib.hid (h.ext X0.out)
  have HL := Lib.hid hl
  obtain ⟨r, hr⟩ : ∃ r, faultB L M [a, b] = r := ⟨_, rfl⟩
  have HRF := Lib.hid hr
  obtain ⟨k0, k1⟩ := cells2S B0.out
  have kf := blk_cell F0.out 0 rfl
  have kt := blk_cell T0.out 0 rfl
  have HFA : Hid (∀ W vn, Ext W0 W → Sl W vn [a, b] → _) := Lib.hid fun W vn hW hn => faultB_any W _ _ vn L M [a, b] (HV.out.ext hW) hl hn r hr
  clear h hl hW0 hr
  go_enter Tryz.func48, Tryz.ntmps48
  go_upto_region 1 with (fail)
  rw [← HW0.out]
  by_cases hr0 : r = 0
  · subst hr0
    have HCK : Hid (chkB L M = true ∧ hasK L a = true ∧ hasK L b = true) := Lib.hid (by
      have := HRF.out
      unfold faultB at this
      split at this
      · next q =>
        refine ⟨q, ?_⟩
        split at this
        · next q2 => simpa using q2
        · simp at this
      · simp at this)
    obtain ⟨B, hB⟩ : ∃ B : Nat, b = B := ⟨b.toNat, by have := hasK_iff.1 HCK.out.2.2; omega⟩
    subst hB
    have hBL : B < L.length := by have := hasK_iff.1 HCK.out.2.2; omega
    have HNA : Hid (0 ≤ a ∧ a < L.length) := Lib.hid (hasK_iff.1 HCK.out.2.1)
    obtain ⟨⟨i0, p0, S0, t0, N0⟩, hB⟩ : ∃ x, L[B]? = some x := ⟨_, List.getElem?_eq_getElem hBL⟩
    have hS0 : S0.length ≤ 100 := HL.out.s _ (List.mem_of_getElem? hB)
    have hN0 : N0.length ≤ 100 := HL.out.k _ (List.mem_of_getElem? hB)
    have HBB := Lib.hid hB
    clear hB
    go_upto_region 6 with (first
      | (go_at_call 79; refine (HFA.out (W0.alloc _) _ ((Ext.refl _).alloc _) (Sl.litAt W0 _ rfl [a, (B : Int)] (by simp))).mono ?_; rintro e w1 ⟨rfl, hx⟩; have X1 : Hid (Ext W0 w1) := Lib.hid (Ext.trans ((Ext.refl _).alloc _) hx); obtain ⟨j0, j1⟩ := cells2S (keepU B0.out X1.out); clear hx)
      | (go_at_call 89; refine (indexFunc_ml w1 _ M 88 #[.pointer (some ⟨w.heap.size + 1, 0, none⟩), .pointer (some ⟨w.heap.size + 2, 0, none⟩)] (fun m => m.from_ == a && m.to_ == (B : Int)) (enters_of Tryz.func88 (by kernel_rfl) rfl) (HV.out.ms.ext X1.out) (fun m W _ hW => meantB_one W _ _ a B m (keepU F0.out (X1.out.trans hW)) (keepU T0.out (X1.out.trans hW)) _ rfl)).mono ?_; rintro e w2 ⟨q, rfl, hq, hx⟩; have X2 := Lib.hid (X1.out.trans hx); have HQ := Lib.hid hq; obtain ⟨i0', i1'⟩ := cells2S (keepU B0.out X2.out); clear hx hq))
    by_cases hq0 : q < 0
    · have HR : Hid (stepBB L M 2 a B [] = (noB, 162)) := Lib.hid (by
        rcases HQ.out with ⟨rfl, hn⟩ | ⟨k, x, rfl, _⟩
        · have := HNA.out
          rw [stepBB_yes HCK.out.1]; exact stepB_mail (by omega) (pick_none hn)
        · omega)
      clear HCK HQ
      go_wp2_with (first | refine haltst 25 ?_)
      refine .inl ?_
      refine st_l 25 (.tmp 6) (.tmp 29) (w.heap.size + 3) 0 25 _ #[.slice none 0 0, .slice none 0 0] _ rfl rfl (keepU R0.out X2.out) (by kernel_rfl) (by simp) rfl rfl ?_
      intro W9 hW9 o9
      simp only [Act.put]
      go_wp2
      exact bodyPost_ret (v := .tuple #[.agg #[.slice none 0 0, .slice none 0 0], .int .i64 162]) (res_ct 7 rfl rfl hW9 uBar (by kernel_rfl)) rfl (givesBar_no HR.out (ext_off (X0.out.trans X2.out) o9 (fun b hb => by omega)))
    · obtain ⟨K, x, rfl, hK, hpx, hfx⟩ : ∃ (k : Nat) (x : Ml), q = (k : Int) ∧ M[k]? = some x ∧ (x.from_ == a && x.to_ == (B : Int)) = true ∧ ∀ (j : Nat) (u : Ml), j < k → M[j]? = some u → (u.from_ == a && u.to_ == (B : Int)) = false := by
        rcases HQ.out with ⟨rfl, hn⟩ | h
        · omega
        · exact h
      have hKM : K < M.length := (List.getElem?_eq_some_iff.1 hK).1
      obtain ⟨mb, mo, y, _, hyk, rfl, _, hmc, hmc63, hmb, hcell⟩ := HV.out.ms.mailAt hKM
      obtain rfl : y = x := by have := hyk.symm.trans hK; simpa using this
      obtain ⟨⟨y0, y1⟩, y2, y3, y4⟩ := hcell w2 X2.out
      have HBE : Hid (behB L (M.take K ++ M.drop (K + 1)) B (getK ⟨i0, p0, S0, t0, N0⟩ a y.kind y.epoch y.num) = stepBB L M 2 a B []) := Lib.hid (by rw [stepBB_yes HCK.out.1]; exact beh_getK HBB.out HNA.out (pick_at hK hpx hfx) [])
      have HMS := Lib.hid HV.out.ms
      obtain ⟨z0, z1, z2, z3, z4⟩ := y
      dsimp only at y0 y1 y2 y3 y4 HBE
      clear hyk hK hpx hfx hcell HCK HQ
      go_upto_region 10 with (fail)
      obtain ⟨W3, hW3⟩ : ∃ W3, W3 = w2.alloc (.cells #[.int .i64 z2, .int .i64 z3, .int .i64 z4] 93) := ⟨_, rfl⟩
      have X3 : Hid (Ext W0 W3) := Lib.hid (hW3 ▸ X2.out.alloc _)
      have G3 : Hid (W3.heap[w2.heap.size]? = some (.cells #[.int .i64 z2, .int .i64 z3, .int .i64 z4] 93 (0, 0))) := Lib.hid (hW3 ▸ at0 w2 _)
      have hg3 : W0.heap.size ≤ w2.heap.size := Below.size X2.out
      (try rw [← hW3])
      have HSC : Hid (∀ V, Ext W3 V → V.cell? ⟨w.heap.size, 1, none⟩ = some (.slice (some ⟨mb, mo, none⟩) M.length d)) := Lib.hid fun V hV => (cells2S (keepU B0.out (X3.out.trans hV))).2
      have hkw : IntKind.i64.wrap ((K : Int) + 1) = (K : Int) + 1 := wrapN _ (by omega) (by omega)
      clear hW3 y0 y1 y2 y3 y4 k0 k1 kf kt i0' i1' j0 j1
      go_wp2_with fail
      refine wp_region_M_lit (by kernel_rfl) ?_
      refine tv 0 (h := ?_)
      refine tv 1 (hv := by intro w' hw'; have hc := HSC.out w' hw'; go_simp; first | done | with_reducible rfl) (h := ?_)
      refine tv 2 (h := ?_)
      refine tv 3 (hv := by intro w' hw'; have hz : (K : Int) ≤ (d : Int) := (by omega); go_simp; first | done | with_reducible rfl) (h := ?_)
      refine tv 4 (h := ?_)
      refine tv 5 (hv := by intro w' hw'; have hc := HSC.out w' hw'; go_simp; first | done | with_reducible rfl) (h := ?_)
      refine tv 6 (h := ?_)
      refine tv 7 (hv := by intro w' hw'; have hz := hkw; go_simp; first | done | with_reducible rfl) (h := ?_)
      refine tv 8 (hv := by intro w' hw'; have hz0 : 0 ≤ (K : Int) + 1 := (by omega); have hz : (K : Int) + 1 ≤ (M.length : Int) := (by omega); have hz2 : (M.length : Int) ≤ (d : Int) := (by omega); go_simp; first | done | with_reducible rfl) (h := ?_)
      (refine runOne 9 (h := ?_); intro w' hw'; go_simp; refine ⟨Ext.alloc (Ext.refl _) _, ?_⟩; try (simp only [Act.put, List.setIfInBounds_toArray, List.set]))
      have HC0 : Hid (∀ V, Ext W3 V → Sl V (.slice (some ⟨mb, mo, none⟩) K d) (M.take K)) := Lib.hid fun V hV => by
        have := (HMS.out.ext (X3.out.trans hV)).cut 0 K (by omega) (by omega)
        simpa using this
      have HC1 : Hid (∀ V, Ext W3 V → Sl V (.slice (if d = K + 1 then some ⟨mb, mo, none⟩ else some ⟨mb, mo + (K + 1) * 5, none⟩) (M.length - (K + 1)) (d - (K + 1))) (M.drop (K + 1))) := Lib.hid fun V hV => (HMS.out.ext (X3.out.trans hV)).tail (K + 1) hKM
      have hml := HL.out.m
      refine runOne 10 (h := ?_)
      intro w5 hw5
      have X5 : Hid (Ext W3 w5) := Lib.hid (Ext.trans hw' (Ext.trans ((Ext.refl w').alloc _) hw5))
      go_simp
      refine (concat_m w5 w'.heap.size _ _ (M.take K) (M.drop (K + 1)) (blk_lt (keepU (at0 w' _) hw5)) (blk_cell (keepU (at0 w' _) hw5) 0 rfl) (blk_cell (keepU (at0 w' _) hw5) 1 rfl) (HC0.out w5 X5.out) (HC1.out w5 X5.out) (by rw [List.length_take]; omega) (by rw [List.length_drop]; omega)).mono ?_
      rintro e6 w6 ⟨v6, rfl, o6, x6⟩
      obtain ⟨ca, cn, cc, rfl⟩ := o6.sh
      have X6 : Hid (Ext W3 w6) := Lib.hid (X5.out.trans x6)
      have S6 := Lib.hid o6.sl
      refine ⟨x6, ?_⟩
      clear o6 x6 hw5 hw' X5
      (try (simp only [Act.put, List.setIfInBounds_toArray, List.set]))
      refine tv 11 (h := ?_)
      (refine runLate 12 (h := ?_); intro w' hw'; have c6 := HSC.out w' (X6.out.trans hw'); have f6 := blk_free (keepU B0.out (X3.out.trans (X6.out.trans hw'))) 1; go_simp; try (simp only [Act.put, List.setIfInBounds_toArray, List.set]))
      (refine lateDone (by kernel_rfl) ?_)
      have XL : Hid (Ext W0 w') := Lib.hid (X3.out.trans (X6.out.trans hw'))
      obtain ⟨W7, hW7⟩ : ∃ W7, W7 = w'.setCell ⟨w.heap.size, 1, none⟩ (.slice ca cn cc) := ⟨_, rfl⟩
      have o7 : Off (fun k => k = w.heap.size) w' W7 := hW7 ▸ off_set w' ⟨w.heap.size, 1, none⟩ _
      have B7 : Hid (W7.heap[w.heap.size]? = some (.cells #[.slice ao L.length c, .slice ca cn cc] 25 (0, 0))) := Lib.hid (by rw [hW7, blk_set (keepU B0.out XL.out)]; rfl)
      have X7 : Hid (Ext w W7) := Lib.hid (ext_off (X0.out.trans XL.out) o7 (fun b hb => by omega))
      have SV7 : Hid (BV W7 (.slice ao L.length c) (.slice ca cn cc) L (M.take K ++ M.drop (K + 1))) := Lib.hid ((BV.mk (HV.out.ds.ext XL.out) (S6.out.ext hw')).off (keepU B0.out XL.out) o7)
      have F7 : Hid (W7.heap[w.heap.size + 1]? = some (.cells #[.int .i64 a] 3 (0, 0))) := Lib.hid (o7.blk (keepU F0.out XL.out) (by omega))
      have T7 := o7.blk (keepU T0.out XL.out) (by omega)
      have G7 : Hid (W7.heap[w2.heap.size]? = some (.cells #[.int .i64 z2, .int .i64 z3, .int .i64 z4] 93 (0, 0))) := Lib.hid (o7.blk (keepU G3.out (X6.out.trans hw')) (by have := HS0.out; omega))
      have R7 : Hid (W7.heap[w.heap.size + 3]? = some (.cells #[.slice none 0 0, .slice none 0 0] 25 (0, 0))) := Lib.hid (o7.blk (keepU R0.out XL.out) (by omega))
      have HBH := Lib.hid (HBE.out ▸ behindB_any W7 _ _ L (M.take K ++ M.drop (K + 1)) SV7.out (HL.out.cut K) B i0 p0 t0 S0 N0 HBB.out 90 #[.pointer (some ⟨w.heap.size + 1, 0, none⟩), .pointer (some ⟨w2.heap.size, 0, none⟩)] (getK ⟨i0, p0, S0, t0, N0⟩ a z2 z3 z4) (enters_of Tryz.func90 (by kernel_rfl) rfl) (fun V u nu hV hu hnu => getB_one V _ _ a z2 z3 z4 i0 p0 t0 u nu S0 N0 hu hnu (by omega) (by omega) (keepU F7.out hV) (keepU G7.out hV)) (Nat.le_trans getK_few.1 hS0) (Nat.le_trans getK_few.2 hN0))
      obtain ⟨⟨⟨L2, M2⟩, er⟩, hq⟩ : ∃ q, stepBB L M 2 a B [] = q := ⟨_, rfl⟩
      rw [hq] at HBH
      have HQ := Lib.hid hq
      obtain ⟨k0, k1⟩ := cells2S B7.out
      have kt := blk_cell T7 0 rfl
      (try rw [← hW7])
      clear hW7 o7 T7 hq HBE HC0 HC1 S6 f6 c6 HSC
      go_wp2_with (first
        | (go_at_call 80; refine HBH.out.mono ?_; rintro e w8 ⟨vd2, vm2, rfl, sv2, hx⟩; dsimp only at sv2 ⊢; obtain ⟨a1, n1, c1, a2, n2, c2, rfl, rfl⟩ := sv2.sh; have SV2 := Lib.hid sv2; have X8 := Lib.hid hx; clear sv2 hx)
        | refine haltst 25 ?_)
      all_goals
        refine .inl ?_
        have RC := Lib.hid (keepU R7.out X8.out)
        refine st_l 25 (.tmp 6) (.tmp 53) (w.heap.size + 3) 0 25 _ #[.slice a1 n1 c1, .slice a2 n2 c2] _ rfl rfl RC.out (by kernel_rfl) (by simp) rfl rfl ?_
        intro W9 hW9 o9
        simp only [Act.put]
        go_wp2
        exact bodyPost_ret (v := .tuple #[.agg #[.slice a1 n1 c1, .slice a2 n2 c2], .int .i64 er]) (res_ct 7 rfl rfl hW9 uBar (by kernel_rfl)) rfl (by rw [HQ.out]; exact ⟨_, _, rfl, SV2.out.off RC.out o9, ext_off (X7.out.trans X8.out) o9 (fun b hb => by omega)⟩)
  · have HR : Hid (stepBB L M 2 a b [] = (noB, r)) := Lib.hid (by
      have := HRF.out
      unfold faultB at this
      split at this
      · next q =>
        split at this
        · omega
        · next q2 => rw [← this]; rw [stepBB_yes q]; exact stepB_node (by
            by_cases ha : hasK L a = true
            · refine .inr ⟨rfl, fun hn => q2 ?_⟩
              simp [ha, hasK_iff.2 hn]
            · exact .inl fun hn => ha (hasK_iff.2 hn))
      · next q => rw [← this]; exact stepBB_no (by simpa using q) _ _ _ _)
    have q0 : (r != 0) = true := by simp [hr0]
    clear hr0
    go_wp2_with (first
      | (go_at_call 79; refine (HFA.out (W0.alloc _) _ ((Ext.refl _).alloc _) (Sl.litAt W0 _ rfl [a, b] (by simp))).mono ?_; rintro e w1 ⟨rfl, hx⟩; have X1 : Hid (Ext W0 w1) := Lib.hid (Ext.trans ((Ext.refl _).alloc _) hx); clear hx)
      | refine haltst 25 ?_)
    refine .inl ?_
    refine st_l 25 (.tmp 6) (.tmp 20) (w.heap.size + 3) 0 25 _ #[.slice none 0 0, .slice none 0 0] _ rfl rfl (keepU R0.out X1.out) (by kernel_rfl) (by simp) rfl rfl ?_
    intro W9 hW9 o9
    simp only [Act.put]
    go_wp2
    exact bodyPost_ret (v := .tuple #[.agg #[.slice none 0 0, .slice none 0 0], .int .i64 r]) (res_ct 7 rfl rfl hW9 uBar (by kernel_rfl)) rfl (givesBar_no HR.out (ext_off (X0.out.trans X1.out) o9 (fun b hb => by omega)))
end Go.Proofs.YtfbambemjokmgaaGreat
namespace Go.Proofs.YtfbambemjokmgaaGreat
open Go.RowKit
theorem take_eqK {L M : List Dk} {k : Nat} {y z : Dk} (hy : L[k]? = some y) (hz : M[k]? = some z) : L.take (k + 1) = M.take (k + 1) ↔ L.take k = M.take k ∧ y = z := by
  obtain ⟨h1, e1⟩ := List.getElem?_eq_some_iff.1 hy
  obtain ⟨h2, e2⟩ := List.getElem?_eq_some_iff.1 hz
  rw [List.take_succ_eq_append_getElem h1, List.take_succ_eq_append_getElem h2, e1, e2]
  constructor
  · intro h
    obtain ⟨q1, q2⟩ := List.append_inj' h rfl
    exact ⟨q1, by simpa using q2⟩
  · rintro ⟨q1, q2⟩
    rw [q1, q2]
theorem filter_nextK {L : List Dk} {k : Nat} {y : Dk} (p : Int) (h : L[k]? = some y) : whoK (L.take (k + 1)) p = whoK (L.take k) p ++ (if (y.thirst == p) = true then [y.id] else []) := by
  obtain ⟨h1, e1⟩ := List.getElem?_eq_some_iff.1 h
  unfold whoK
  rw [List.take_succ_eq_append_getElem h1, List.filter_append, List.map_append, e1]
  congr 1
  rw [List.filter_cons]
  split <;> rfl
set_option maxRecDepth 100000 in
set_option maxHeartbeats 4000000 in
theorem whoB_any (w : World) (vd vm : Value) (L : List Dk) (M : List Ml) (h : BV w vd vm L M) (hl : L.length ≤ 1000) (p : Int) :
    Calls Tryz.prog 22 #[.agg #[vd, vm], .int .i64 p] w (GivesOw w (whoK L p)) := by
  obtain ⟨ao, c, bo, d, rfl, rfl⟩ := h.len
  obtain ⟨W0, hW0⟩ : ∃ W0, W0 = w.alloc (.cells #[.slice ao L.length c, .slice bo M.length d] 25) := ⟨_, rfl⟩
  have X0 : Hid (Ext w W0) := Lib.hid (hW0 ▸ (Ext.refl w).alloc _)
  have B0 : Hid (W0.heap[w.heap.size]? = some (.cells #[.slice ao L.length c, .slice bo M.length d] 25 (0, 0))) := Lib.hid (hW0 ▸ at0 w _)
  have HW0 := Lib.hid hW0
  have HS := Lib.hid (h.ds.ext X0.out)
  obtain ⟨k0, k1⟩ := cells2S B0.out
  clear h hW0
  go_enter Tryz.func22, Tryz.ntmps22
  go_upto_region 1 with (fail)
  rw [← HW0.out]
  go_wp2
  go_loopw [5, 11] (fun q i wr => ∃ k : Nat, k ≤ L.length ∧ i = .int .i64 k ∧ Hid (Ow wr W0.heap.size q (whoK (L.take k) p)) ∧ Hid (Ext W0 wr)) (fun _ i _ => L.length - (intOf i).toNat)
  case atStart => exact ⟨0, Nat.zero_le _, rfl, Lib.hid (Ow.nil _ _), Lib.hid (Ext.refl _)⟩
  case round =>
    obtain ⟨k, hk, rfl, HQ, HX⟩ := hrel
    have hwr : W0.heap.size ≤ wr.heap.size := Below.size HX.out
    by_cases hlt : k < L.length
    · obtain ⟨b1, o1, so, sc, no, nc, dd, hyk, rfl, hn, hnc, hc63, hb, hsl, hnl, hcell⟩ := HS.out.drinkerAt hlt
      obtain ⟨⟨a0, a1, a2⟩, a3, a4⟩ := hcell wr HX.out
      have HN := Lib.hid (filter_nextK p hyk)
      have hpl : (whoK (L.take k) p).length ≤ 1000 := by
        unfold whoK
        rw [List.length_map]
        exact Nat.le_trans (List.length_filter_le _ _) (by rw [List.length_take]; omega)
      obtain ⟨P, hP⟩ : ∃ P, P = whoK (L.take k) p := ⟨_, rfl⟩
      rw [← hP] at HQ HN hpl
      clear hcell hyk hn hsl hnl hP
      obtain ⟨d0, d1, d2, d3, d4⟩ := dd
      dsimp only at a0 a1 a2 a3 a4 HN
      by_cases e : d3 = p
      · have q : (d3 == p) = true := by simp [e]
        have HF : Hid (whoK (L.take (k + 1)) p = P ++ [d0]) := Lib.hid (by rw [HN.out, q]; rfl)
        clear e
        go_wp2_with ((at_builtin; refine wpList_append_sl (α := Int) rfl (.tmp 19) (.tmp 23) rfl W0.heap.size _ P rfl ?_ (.slice (some ⟨_, 0, none⟩) 1 1) [d0] rfl ?_ ?_ ?_ ?_; exact ((HQ.out.alloc _).alloc _); exact (Sl.litAt _ _ (by simp) [d0] (by simp)); (first | omega | (simp; omega)); exact (by first | omega | (simp; omega) | (rw [size_alloc, size_alloc]; omega)); intro v2 W2 ho2 ha2; have O2 := Lib.hid ho2; have Y2 : Hid (Ext W0 W2) := Lib.hid (Below.trans ((HX.out.alloc _).alloc _) ha2.below); clear ho2 ha2))
        go_roundw
        case rel => exact ⟨k + 1, by omega, by go_num, Lib.hid (by rw [HF.out]; exact O2.out), Y2⟩
        case measure => simp [intOf]; omega
      · have q : (d3 == p) = false := by simp [e]
        have HF : Hid (whoK (L.take (k + 1)) p = P) := Lib.hid (by rw [HN.out, q]; simp)
        clear e
        go_wp2
        go_roundw
        case rel => exact ⟨k + 1, by omega, by go_num, Lib.hid (by rw [HF.out]; exact HQ.out.alloc _), Lib.hid (HX.out.alloc _)⟩
        case measure => simp [intOf]; omega
    · have hkl : k = L.length := by omega
      have hq := HQ.out
      rw [hkl, List.take_length] at hq
      have HQ' := Lib.hid hq
      clear hq HQ hkl
      go_wp2
      go_ret
      exact ⟨_, rfl, HQ'.out.mono (Below.size X0.out), X0.out.trans HX.out⟩
set_option maxRecDepth 100000 in
set_option maxHeartbeats 2000000 in
theorem equalFunc_dk (F : Nat → Prop) (w : World) (v1 v2 fv : Value) (L M : List Dk) (h : Ns KV F w v1 L) (h' : Ns KV F w v2 M) (g : FuncId) (hfv : fv = .func (.func g) #[] #[]) (eg : ∀ args w, (callFunc g args).run Tryz.prog w = .ok (.enter g args) w)
    (hp : ∀ (W : World) (i1 p1 t1 i2 p2 t2 : Int) (u1 u2 m1 m2 : Value) (A B : List Sd) (C D : List Int) (t : Bool), Sl W u1 A → Sl W u2 B → Sl W m1 C → Sl W m2 D → decide ((⟨i1, p1, A, t1, C⟩ : Dk) = ⟨i2, p2, B, t2, D⟩) = t → Calls Tryz.prog g #[.agg #[.int .i64 i1, .int .i64 p1, u1, .int .i64 t1, m1], .agg #[.int .i64 i2, .int .i64 p2, u2, .int .i64 t2, m2]] W fun e w' => e = .returned (.bool t) ∧ Ext W w') (t : Bool) (ht : decide (L = M) = t) :
    Calls Tryz.prog 68 #[v1, v2, fv] w fun e w' => e = .returned (.bool t) ∧ Ext w w' := by
  subst hfv
  obtain ⟨ao1, c1, rfl⟩ := h.len
  obtain ⟨ao2, c2, rfl⟩ := h'.len
  have l1 := h.length_le
  have l2 := h'.length_le
  have HS := Lib.hid h
  have HM := Lib.hid h'
  have HP := Lib.hid hp
  have HE := Lib.hid ht
  clear h h' hp ht
  by_cases e3 : L.length = M.length
  · have q3 : ((L.length : Int) != (M.length : Int)) = false := by simp [e3]
    have HL3 := Lib.hid e3
    clear e3
    go_enter Tryz.func68, Tryz.ntmps68
    go_wp2
    go_loopw [17] (fun i wr => ∃ k : Nat, k ≤ L.length ∧ i = .int .i64 k ∧ Hid (L.take k = M.take k) ∧ Hid (Ext w wr)) (fun i _ => L.length - (intOf i).toNat)
    case atStart => exact ⟨0, Nat.zero_le _, rfl, Lib.hid rfl, Lib.hid (Ext.refl _)⟩
    case round =>
      obtain ⟨k, hk, rfl, HQ, HX⟩ := hrel
      by_cases hlt : k < L.length
      · have hltM : k < M.length := by have := HL3.out; omega
        obtain ⟨b1, o1, so1, sc1, no1, nc1, d, hyk, rfl, hn, hnc, hc63, hb, hsl, hnl, hcell⟩ := HS.out.drinkerAt hlt
        obtain ⟨b2, o2, so2, sc2, no2, nc2, f, hzk, rfl, hn', hnc', hc63', hb', hsl', hnl', hcell'⟩ := HM.out.drinkerAt hltM
        have HN := Lib.hid (take_eqK hyk hzk)
        obtain ⟨s, hs⟩ : ∃ s, decide (d = f) = s := ⟨_, rfl⟩
        have HYZ := Lib.hid hs
        obtain ⟨d0, d1, d2, d3, d4⟩ := d
        obtain ⟨f0, f1, f2, f3, f4⟩ := f
        dsimp only at hcell hcell' hsl hsl' hnl hnl'
        obtain ⟨W1, hW1⟩ : ∃ W1, W1 = wr.alloc (.cells #[.int .i64 d0, .int .i64 d1, .slice so1 d2.length sc1, .int .i64 d3, .slice no1 d4.length nc1] 63) := ⟨_, rfl⟩
        have x1 : Ext wr W1 := hW1 ▸ (Ext.refl _).alloc _
        have b1' : W1.heap[wr.heap.size]? = some (.cells #[.int .i64 d0, .int .i64 d1, .slice so1 d2.length sc1, .int .i64 d3, .slice no1 d4.length nc1] 63 (0, 0)) := hW1 ▸ at0 wr _
        obtain ⟨W2, hW2⟩ : ∃ W2, W2 = W1.alloc (.cells #[.int .i64 f0, .int .i64 f1, .slice so2 f2.length sc2, .int .i64 f3, .slice no2 f4.length nc2] 63) := ⟨_, rfl⟩
        have x2 : Ext W1 W2 := hW2 ▸ (Ext.refl _).alloc _
        have b2' : W2.heap[W1.heap.size]? = some (.cells #[.int .i64 f0, .int .i64 f1, .slice so2 f2.length sc2, .int .i64 f3, .slice no2 f4.length nc2] 63 (0, 0)) := hW2 ▸ at0 W1 _
        have b3' := keepM b1' x2
        have HX1 := Lib.hid (HX.out.trans x1)
        have HX2 := Lib.hid (HX1.out.trans x2)
        have HSL := Lib.hid (And.intro (hsl.sl.ext HX2.out) (hsl'.sl.ext HX2.out))
        have HNL := Lib.hid (And.intro (hnl.sl.ext HX2.out) (hnl'.sl.ext HX2.out))
        obtain ⟨⟨a0, a1, a2⟩, a3, a4⟩ := hcell wr HX.out
        obtain ⟨⟨z0, z1, z2⟩, z3, z4⟩ := hcell' W1 HX1.out
        have j0 := blk_cell b3' 0 rfl
        have j1 := blk_cell b3' 1 rfl
        have j2 := blk_cell b3' 2 rfl
        have j3 := blk_cell b3' 3 rfl
        have j4 := blk_cell b3' 4 rfl
        have i0 := blk_cell b2' 0 rfl
        have i1 := blk_cell b2' 1 rfl
        have i2 := blk_cell b2' 2 rfl
        have i3 := blk_cell b2' 3 rfl
        have i4 := blk_cell b2' 4 rfl
        have HW1 := Lib.hid hW1
        have HW2 := Lib.hid hW2
        clear hcell hcell' hyk hzk hn hn' hs hsl hsl' hnl hnl' x1 x2 b1' b2' b3' hW1 hW2
        go_upto_region 6 with (fail)
        rw [← HW1.out]
        go_upto_region 7 with (fail)
        rw [← HW2.out]
        cases s
        · go_wp2_with (go_at_fn g; refine (HP.out W2 d0 d1 d3 f0 f1 f3 _ _ _ _ d2 f2 d4 f4 _ HSL.out.1 HSL.out.2 HNL.out.1 HNL.out.2 HYZ.out).mono ?_; rintro e w1 ⟨rfl, hx⟩; have HX3 := Lib.hid (HX2.out.trans hx); clear hx)
          go_ret
          exact ⟨ret_bool (by
            rw [← HE.out]
            exact (decide_eq_false fun e => of_decide_eq_false HYZ.out ((HN.out.1 (by rw [e])).2)).symm), HX3.out⟩
        · go_wp2_with (go_at_fn g; refine (HP.out W2 d0 d1 d3 f0 f1 f3 _ _ _ _ d2 f2 d4 f4 _ HSL.out.1 HSL.out.2 HNL.out.1 HNL.out.2 HYZ.out).mono ?_; rintro e w1 ⟨rfl, hx⟩; have HX3 := Lib.hid (HX2.out.trans hx); clear hx)
          go_roundw
          case rel => exact ⟨k + 1, by omega, by go_num, Lib.hid (HN.out.2 ⟨HQ.out, of_decide_eq_true HYZ.out⟩), HX3⟩
          case measure => simp [intOf]; omega
      · have hkl : k = L.length := by omega
        have HF : Hid (true = t) := Lib.hid (by
          have hq := HQ.out
          rw [hkl, List.take_length, HL3.out, List.take_length] at hq
          rw [← HE.out, decide_eq_true hq])
        go_wp2
        go_ret
        exact ⟨ret_bool HF.out, HX.out⟩
  · have q3 : ((L.length : Int) != (M.length : Int)) = true := by simp; omega
    have HF : Hid (false = t) := Lib.hid (by rw [← HE.out, decide_eq_false fun e => e3 (by rw [e])])
    clear e3
    go_enter Tryz.func68, Tryz.ntmps68
    go_wp2
    go_ret
    exact ⟨ret_bool HF.out, Ext.refl _⟩
set_option maxRecDepth 100000 in
set_option maxHeartbeats 2000000 in
theorem bSame_any (w : World) (v1 m1 v2 m2 : Value) (L L2 : List Dk) (M M2 : List Ml) (h : BV w v1 m1 L M) (g : BV w v2 m2 L2 M2) (t : Bool) (ht : (decide (L = L2) && decide (M = M2)) = t) :
    Calls Tryz.prog 24 #[.agg #[v1, m1], .agg #[v2, m2]] w fun e w' => e = .returned (.bool t) ∧ Ext w w' := by
  obtain ⟨ao, c, bo, d, rfl, rfl⟩ := h.len
  obtain ⟨ao2, c2, bo2, d2, rfl, rfl⟩ := g.len
  obtain ⟨W0, hW0⟩ : ∃ W0, W0 = (w.alloc (.cells #[.slice ao L.length c, .slice bo M.length d] 25)).alloc (.cells #[.slice ao2 L2.length c2, .slice bo2 M2.length d2] 25) := ⟨_, rfl⟩
  have X0 : Hid (Ext w W0) := Lib.hid (hW0 ▸ ((Ext.refl w).alloc _).alloc _)
  have B0 : Hid (W0.heap[w.heap.size]? = some (.cells #[.slice ao L.length c, .slice bo M.length d] 25 (0, 0))) := Lib.hid (hW0 ▸ old1 (at0 w _) _)
  have C0 : Hid (W0.heap[w.heap.size + 1]? = some (.cells #[.slice ao2 L2.length c2, .slice bo2 M2.length d2] 25 (0, 0))) := Lib.hid (hW0 ▸ at1 w _ _)
  have HW0 := Lib.hid hW0
  have HV := Lib.hid (h.ext X0.out)
  have HG := Lib.hid (g.ext X0.out)
  obtain ⟨t1, ht1⟩ : ∃ t, decide (L = L2) = t := ⟨_, rfl⟩
  obtain ⟨t2, ht2⟩ : ∃ t, decide (M = M2) = t := ⟨_, rfl⟩
  have HT : Hid ((t1 && t2) = t) := Lib.hid (by rw [← ht1, ← ht2]; exact ht)
  have H1 := Lib.hid (equalFunc_dk Non W0 _ _ _ L L2 HV.out.ds HG.out.ds 69 rfl (by intro args w; rfl) (fun W i1 p1 t1 i2 p2 t2 u1 u2 m1 m2 A B C D t h1 h2 h3 h4 h5 => dkSame_any W i1 p1 t1 i2 p2 t2 u1 u2 m1 m2 A B C D h1 h2 h3 h4 t h5) t1 ht1)
  have H2 := Lib.hid ht2
  obtain ⟨k0, k1⟩ := cells2S B0.out
  obtain ⟨k2, k3⟩ := cells2S C0.out
  clear h g hW0 ht ht1 ht2
  go_enter Tryz.func24, Tryz.ntmps24
  go_upto_region 1 with (fail)
  rw [← HW0.out]
  cases t1
  · go_wp2_with (go_at_call 68; refine H1.out.mono ?_; rintro e w1 ⟨rfl, hx⟩; have X1 := Lib.hid (X0.out.trans hx); clear hx)
    go_ret
    exact ⟨ret_bool (by rw [← HT.out]; rfl), X1.out⟩
  · go_wp2_with (first
      | (go_at_call 68; refine H1.out.mono ?_; rintro e w1 ⟨rfl, hx⟩; have X1 := Lib.hid hx; obtain ⟨j0, j1⟩ := cells2S (keepU B0.out hx); obtain ⟨j2, j3⟩ := cells2S (keepU C0.out hx); clear hx)
      | (go_at_call 70; refine (equal_m w1 _ _ M M2 (HV.out.ms.ext X1.out) (HG.out.ms.ext X1.out) t2 H2.out).mono ?_; rintro e w2 ⟨rfl, hx⟩; have X2 := Lib.hid (X0.out.trans (X1.out.trans hx)); clear hx))
    go_ret
    exact ⟨ret_bool (by rw [← HT.out]; rfl), X2.out⟩
end Go.Proofs.YtfbambemjokmgaaGreat
