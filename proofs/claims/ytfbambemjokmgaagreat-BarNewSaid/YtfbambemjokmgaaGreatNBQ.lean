/- Texts of this seat. -/
import Derived.Test.YtfbambemjokmgaaGreatNBE
import Derived.Test.YtfbambemjokmgaaGreatNBO
import Derived.Test.YtfbambemjokmgaaGreatNBP
namespace Go.Proofs.YtfbambemjokmgaaGreat
open Go.RowKit
set_option maxRecDepth 100000 in
set_option maxHeartbeats 4000000 in
theorem bClose_any (w : World) (vd vm : Value) (L : List Dk) (M : List Ml) (h : BV w vd vm L M) (hl : SmB L M) (a b : Int) :
    Calls Tryz.prog 39 #[.agg #[vd, vm], .int .i64 a] w (GivesBar w (stepBB L M 1 a b [])) := by
  obtain ⟨ao, c, bo, d, rfl, rfl⟩ := h.len
  obtain ⟨W0, hW0⟩ : ∃ W0, W0 = (w.alloc (.cells #[.slice ao L.length c, .slice bo M.length d] 25)).alloc (.cells #[.slice none 0 0, .slice none 0 0] 25) := ⟨_, rfl⟩
  have X0 : Hid (Ext w W0) := Lib.hid (hW0 ▸ ((Ext.refl w).alloc _).alloc _)
  have B0 : Hid (W0.heap[w.heap.size]? = some (.cells #[.slice ao L.length c, .slice bo M.length d] 25 (0, 0))) := Lib.hid (hW0 ▸ old1 (at0 w _) _)
  have R0 : Hid (W0.heap[w.heap.size + 1]? = some (.cells #[.slice none 0 0, .slice none 0 0] 25 (0, 0))) := Lib.hid (hW0 ▸ at1 w _ _)
  have HW0 := Lib.hid hW0
  have HV := Lib.hid (h.ext X0.out)
  have HL := Lib.hid hl
  obtain ⟨r, hr⟩ : ∃ r, faultB L M [a] = r := ⟨_, rfl⟩
  have HRF := Lib.hid hr
  obtain ⟨k0, k1⟩ := cells2S B0.out
  have HFA : Hid (∀ W vn, Ext W0 W → Sl W vn [a] → _) := Lib.hid fun W vn hW hn => faultB_any W _ _ vn L M [a] (HV.out.ext hW) hl hn r hr
  clear h hl hW0 hr
  go_enter Tryz.func39, Tryz.ntmps39
  go_upto_region 1 with (fail)
  rw [← HW0.out]
  by_cases hr0 : r = 0
  · subst hr0
    have HCK : Hid (chkB L M = true ∧ hasK L a = true) := Lib.hid (by
      have := HRF.out
      unfold faultB at this
      split at this
      · next q =>
        refine ⟨q, ?_⟩
        split at this
        · next q2 => simpa using q2
        · simp at this
      · simp at this)
    obtain ⟨A, hA⟩ : ∃ A : Nat, a = A := ⟨a.toNat, by have := hasK_iff.1 HCK.out.2; omega⟩
    subst hA
    have hAL : A < L.length := by have := hasK_iff.1 HCK.out.2; omega
    obtain ⟨⟨i0, p0, S0, t0, N0⟩, hA⟩ : ∃ x, L[A]? = some x := ⟨_, List.getElem?_eq_getElem hAL⟩
    have HBE : Hid (behB L M A (closeR ⟨i0, p0, S0, t0, N0⟩) = stepBB L M 1 A b []) := Lib.hid (by rw [stepBB_yes HCK.out.1]; exact beh_close hA b [])
    have hS0 : S0.length ≤ 100 := HL.out.s _ (List.mem_of_getElem? hA)
    have HBH : Hid (∀ W, Ext W0 W → _) := Lib.hid fun W hW => HBE.out ▸ behindB_any W _ _ L M (HV.out.ext hW) HL.out A i0 p0 t0 S0 N0 hA 81 #[] (closeR ⟨i0, p0, S0, t0, N0⟩) (enters_of Tryz.func81 (by kernel_rfl) rfl) (fun V u nu _ hu hnu => (dkClose_any V i0 p0 t0 u nu S0 N0 hu hnu (by omega)).mono fun _ _ h => h.d) (Nat.le_trans closeR_few.1 hS0) (Nat.le_trans closeR_few.2 (by omega))
    obtain ⟨⟨⟨L2, M2⟩, er⟩, hq⟩ : ∃ q, stepBB L M 1 A b [] = q := ⟨_, rfl⟩
    rw [hq] at HBH
    have HQ := Lib.hid hq
    clear hq hA HBE
    go_wp2_with (first
      | (go_at_call 79; refine (HFA.out (W0.alloc _) _ ((Ext.refl _).alloc _) (Sl.litAt W0 _ rfl [(A : Int)] (by simp))).mono ?_; rintro e w1 ⟨rfl, hx⟩; have X1 : Hid (Ext W0 w1) := Lib.hid (Ext.trans ((Ext.refl _).alloc _) hx); obtain ⟨j0, j1⟩ := cells2S (keepU B0.out X1.out); clear hx)
      | (go_at_call 80; refine (HBH.out w1 X1.out).mono ?_; rintro e w2 ⟨vd2, vm2, rfl, sv2, hx⟩; dsimp only at sv2 ⊢; obtain ⟨a1, n1, c1, a2, n2, c2, rfl, rfl⟩ := sv2.sh; have SV2 := Lib.hid sv2; have X2 := Lib.hid (X1.out.trans hx); clear sv2 hx)
      | refine haltst 25 ?_)
    refine .inl ?_
    have RC := Lib.hid (keepU R0.out X2.out)
    refine st_l 25 (.tmp 4) (.tmp 18) (w.heap.size + 1) 0 25 _ #[.slice a1 n1 c1, .slice a2 n2 c2] _ rfl rfl RC.out (by kernel_rfl) (by simp) rfl rfl ?_
    intro W9 hW9 o9
    simp only [Act.put]
    go_wp2
    exact bodyPost_ret (v := .tuple #[.agg #[.slice a1 n1 c1, .slice a2 n2 c2], .int .i64 er]) (res_ct 5 rfl rfl hW9 uBar (by kernel_rfl)) rfl (by rw [HQ.out]; exact ⟨_, _, rfl, SV2.out.off RC.out o9, ext_off (X0.out.trans X2.out) o9 (fun b hb => by omega)⟩)
  · have HR : Hid (stepBB L M 1 a b [] = (noB, r)) := Lib.hid (by
      have := HRF.out
      unfold faultB at this
      split at this
      · next q =>
        split at this
        · omega
        · next q2 => rw [← this]; rw [stepBB_yes q]; exact stepB_node (.inl fun hn => q2 (by simpa using hasK_iff.2 hn))
      · next q => rw [← this]; exact stepBB_no (by simpa using q) _ _ _ _)
    have q0 : (r != 0) = true := by simp [hr0]
    clear hr0
    go_wp2_with (first
      | (go_at_call 79; refine (HFA.out (W0.alloc _) _ ((Ext.refl _).alloc _) (Sl.litAt W0 _ rfl [a] (by simp))).mono ?_; rintro e w1 ⟨rfl, hx⟩; have X1 : Hid (Ext W0 w1) := Lib.hid (Ext.trans ((Ext.refl _).alloc _) hx); clear hx)
      | refine haltst 25 ?_)
    refine .inl ?_
    refine st_l 25 (.tmp 4) (.tmp 13) (w.heap.size + 1) 0 25 _ #[.slice none 0 0, .slice none 0 0] _ rfl rfl (keepU R0.out X1.out) (by kernel_rfl) (by simp) rfl rfl ?_
    intro W9 hW9 o9
    simp only [Act.put]
    go_wp2
    exact bodyPost_ret (v := .tuple #[.agg #[.slice none 0 0, .slice none 0 0], .int .i64 r]) (res_ct 5 rfl rfl hW9 uBar (by kernel_rfl)) rfl (givesBar_no HR.out (ext_off (X0.out.trans X1.out) o9 (fun b hb => by omega)))
set_option maxRecDepth 100000 in
set_option maxHeartbeats 2000000 in
theorem open_one (w : World) (g1 : Nat) (id ph th : Int) (v nv qv : Value) (L : List Sd) (N Q : List Int) (h : Sl w v L) (hN : Sl w nv N) (hl : L.length ≤ 1000) (h1 : w.heap[g1]? = some (.cells #[qv] 26 (0, 0))) (hQ : Sl w qv Q) (hq : Q.length ≤ 1000) :
    Calls Tryz.prog 82 #[.agg #[.int .i64 id, .int .i64 ph, v, .int .i64 th, nv], .pointer (some ⟨g1, 0, none⟩)] w (GivesD w (openR ⟨id, ph, L, th, N⟩ Q)) := by
  obtain ⟨ao, c, rfl⟩ := h.len
  obtain ⟨na, nc, rfl⟩ := hN.len
  obtain ⟨qa, qc, rfl⟩ := hQ.len
  obtain ⟨W0, hW0⟩ : ∃ W0, W0 = (w.alloc (.cells #[.int .i64 id, .int .i64 ph, .slice ao L.length c, .int .i64 th, .slice na N.length nc] 63)).alloc (.cells #[.int .i64 0, .int .i64 0, .slice none 0 0, .int .i64 0, .slice none 0 0] 63) := ⟨_, rfl⟩
  have X0 : Hid (Ext w W0) := Lib.hid (hW0 ▸ ((Ext.refl w).alloc _).alloc _)
  have hD : W0.heap[w.heap.size]? = some (.cells #[.int .i64 id, .int .i64 ph, .slice ao L.length c, .int .i64 th, .slice na N.length nc] 63 (0, 0)) := hW0 ▸ old1 (at0 w _) _
  have R0 : Hid (W0.heap[w.heap.size + 1]? = some (.cells #[.int .i64 0, .int .i64 0, .slice none 0 0, .int .i64 0, .slice none 0 0] 63 (0, 0))) := Lib.hid (hW0 ▸ at1 w _ _)
  have hs0 : W0.heap.size = w.heap.size + 2 := by rw [hW0, size_alloc, size_alloc]
  have HW0 := Lib.hid hW0
  have HC := Lib.hid (dkOpen_any W0 id ph th _ _ _ L N Q (h.ext X0.out) (hN.ext X0.out) (hQ.ext X0.out) hl hq)
  obtain ⟨⟨d0, d1, d2⟩, d3, d4⟩ := cells5 hD
  have q0 := blk_cell (keepU h1 X0.out) 0 rfl
  have HS0 := Lib.hid hs0
  clear h hN hQ hW0 hD h1 hs0
  obtain ⟨⟨⟨id', ph', L', th', N'⟩, er⟩, hr⟩ : ∃ r, openR ⟨id, ph, L, th, N⟩ Q = r := ⟨_, rfl⟩
  rw [hr] at HC ⊢
  clear hr
  go_enter Tryz.func82, Tryz.ntmps82
  go_upto_region 1 with (fail)
  rw [← HW0.out]
  go_wp2_with (first
    | (go_at_call 83; refine HC.out.mono ?_; rintro e w1 ⟨v1, nv1, rfl, s1, sn1, x1, n1⟩; dsimp only at s1 sn1 ⊢; obtain ⟨a1, c1, rfl⟩ := s1.len; obtain ⟨na1, nc1, rfl⟩ := sn1.len; have S1 := Lib.hid s1; have SN1 := Lib.hid sn1; have X1 := Lib.hid x1; have N1 := Lib.hid n1; clear s1 sn1 x1 n1)
    | refine haltst 63 ?_)
  refine .inl ?_
  refine st_l 63 (.tmp 3) (.tmp 8) (w.heap.size + 1) 0 63 #[.int .i64 0, .int .i64 0, .slice none 0 0, .int .i64 0, .slice none 0 0] _ _ rfl rfl (keepU R0.out X1.out) (by kernel_rfl) (by simp) rfl rfl ?_
  intro W9 hW9 o9
  simp only [Act.put]
  go_wp2
  exact bodyPost_ret (v := .tuple #[.agg _, .int .i64 er]) (res_ct 4 rfl rfl hW9 uDrinker (by kernel_rfl)) rfl ⟨_, _, rfl, S1.out.off (apartSd S1.out (keepU R0.out X1.out) (by simp)) o9, slOffU SN1.out N1.out o9 (by have := HS0.out; omega), ext_off (X0.out.trans X1.out) o9 (fun b hb => by omega)⟩
set_option maxRecDepth 100000 in
set_option maxHeartbeats 4000000 in
theorem bOpen_any (w : World) (vd vm : Value) (L : List Dk) (M : List Ml) (h : BV w vd vm L M) (hl : SmB L M) (a b : Int) (qv : Value) (Q : List Int) (hQ : Sl w qv Q) (hq : Q.length ≤ 100) :
    Calls Tryz.prog 41 #[.agg #[vd, vm], .int .i64 a, qv] w (GivesBar w (stepBB L M 0 a b Q)) := by
  have hmf : ∀ (fn : Fn) (first cap : Array Value) (w : World), (Instr.makeFunc fn first cap).run Tryz.prog w = .ok (.func fn first cap) w := fun _ _ _ _ => rfl
  obtain ⟨ao, c, bo, d, rfl, rfl⟩ := h.len
  obtain ⟨qa, qc, rfl⟩ := hQ.len
  obtain ⟨W0, hW0⟩ : ∃ W0, W0 = ((w.alloc (.cells #[.slice ao L.length c, .slice bo M.length d] 25)).alloc (.cells #[.slice qa Q.length qc] 26)).alloc (.cells #[.slice none 0 0, .slice none 0 0] 25) := ⟨_, rfl⟩
  have X0 : Hid (Ext w W0) := Lib.hid (hW0 ▸ (((Ext.refl w).alloc _).alloc _).alloc _)
  have B0 : Hid (W0.heap[w.heap.size]? = some (.cells #[.slice ao L.length c, .slice bo M.length d] 25 (0, 0))) := Lib.hid (hW0 ▸ old1 (old1 (at0 w _) _) _)
  have N0' : Hid (W0.heap[w.heap.size + 1]? = some (.cells #[.slice qa Q.length qc] 26 (0, 0))) := Lib.hid (hW0 ▸ old1 (at1 w _ _) _)
  have R0 : Hid (W0.heap[w.heap.size + 2]? = some (.cells #[.slice none 0 0, .slice none 0 0] 25 (0, 0))) := Lib.hid (hW0 ▸ at2 w _ _ _)
  have HQS := Lib.hid (hQ.ext X0.out)
  have HW0 := Lib.hid hW0
  have HV := Lib.hid (h.ext X0.out)
  have HL := Lib.hid hl
  obtain ⟨r, hr⟩ : ∃ r, faultB L M [a] = r := ⟨_, rfl⟩
  have HRF := Lib.hid hr
  obtain ⟨k0, k1⟩ := cells2S B0.out
  have HFA : Hid (∀ W vn, Ext W0 W → Sl W vn [a] → _) := Lib.hid fun W vn hW hn => faultB_any W _ _ vn L M [a] (HV.out.ext hW) hl hn r hr
  clear h hl hW0 hr hQ
  go_enter Tryz.func41, Tryz.ntmps41
  go_upto_region 1 with (fail)
  rw [← HW0.out]
  by_cases hr0 : r = 0
  · subst hr0
    have HCK : Hid (chkB L M = true ∧ hasK L a = true) := Lib.hid (by
      have := HRF.out
      unfold faultB at this
      split at this
      · next q =>
        refine ⟨q, ?_⟩
        split at this
        · next q2 => simpa using q2
        · simp at this
      · simp at this)
    obtain ⟨A, hA⟩ : ∃ A : Nat, a = A := ⟨a.toNat, by have := hasK_iff.1 HCK.out.2; omega⟩
    subst hA
    have hAL : A < L.length := by have := hasK_iff.1 HCK.out.2; omega
    obtain ⟨⟨i0, p0, S0, t0, N0⟩, hA⟩ : ∃ x, L[A]? = some x := ⟨_, List.getElem?_eq_getElem hAL⟩
    have HBE : Hid (behB L M A (openR ⟨i0, p0, S0, t0, N0⟩ Q) = stepBB L M 0 A b Q) := Lib.hid (by rw [stepBB_yes HCK.out.1]; exact beh_open hA b Q)
    have hS0 : S0.length ≤ 100 := HL.out.s _ (List.mem_of_getElem? hA)
    have HBH : Hid (∀ W, Ext W0 W → _) := Lib.hid fun W hW => HBE.out ▸ behindB_any W _ _ L M (HV.out.ext hW) HL.out A i0 p0 t0 S0 N0 hA 82 #[.pointer (some ⟨w.heap.size + 1, 0, none⟩)] (openR ⟨i0, p0, S0, t0, N0⟩ Q) (enters_of Tryz.func82 (by kernel_rfl) rfl) (fun V u nu hV hu hnu => open_one V (w.heap.size + 1) i0 p0 t0 u nu _ S0 N0 Q hu hnu (by omega) (keepU N0'.out (hW.trans hV)) (HQS.out.ext (hW.trans hV)) (by omega)) (Nat.le_trans openR_few.1 hS0) (Nat.le_trans openR_few.2 hq)
    obtain ⟨⟨⟨L2, M2⟩, er⟩, hq⟩ : ∃ q, stepBB L M 0 A b Q = q := ⟨_, rfl⟩
    rw [hq] at HBH
    have HQ := Lib.hid hq
    clear hq hA HBE
    go_wp2_with (first
      | (go_at_call 79; refine (HFA.out (W0.alloc _) _ ((Ext.refl _).alloc _) (Sl.litAt W0 _ rfl [(A : Int)] (by simp))).mono ?_; rintro e w1 ⟨rfl, hx⟩; have X1 : Hid (Ext W0 w1) := Lib.hid (Ext.trans ((Ext.refl _).alloc _) hx); obtain ⟨j0, j1⟩ := cells2S (keepU B0.out X1.out); clear hx)
      | (go_at_call 80; refine (HBH.out w1 X1.out).mono ?_; rintro e w2 ⟨vd2, vm2, rfl, sv2, hx⟩; dsimp only at sv2 ⊢; obtain ⟨a1, n1, c1, a2, n2, c2, rfl, rfl⟩ := sv2.sh; have SV2 := Lib.hid sv2; have X2 := Lib.hid (X1.out.trans hx); clear sv2 hx)
      | refine haltst 25 ?_)
    refine .inl ?_
    have RC := Lib.hid (keepU R0.out X2.out)
    refine st_l 25 (.tmp 6) (.tmp 23) (w.heap.size + 2) 0 25 _ #[.slice a1 n1 c1, .slice a2 n2 c2] _ rfl rfl RC.out (by kernel_rfl) (by simp) rfl rfl ?_
    intro W9 hW9 o9
    simp only [Act.put]
    go_wp2
    exact bodyPost_ret (v := .tuple #[.agg #[.slice a1 n1 c1, .slice a2 n2 c2], .int .i64 er]) (res_ct 7 rfl rfl hW9 uBar (by kernel_rfl)) rfl (by rw [HQ.out]; exact ⟨_, _, rfl, SV2.out.off RC.out o9, ext_off (X0.out.trans X2.out) o9 (fun b hb => by omega)⟩)
  · have HR : Hid (stepBB L M 0 a b Q = (noB, r)) := Lib.hid (by
      have := HRF.out
      unfold faultB at this
      split at this
      · next q =>
        split at this
        · omega
        · next q2 => rw [← this]; rw [stepBB_yes q]; exact stepB_node (.inl fun hn => q2 (by simpa using hasK_iff.2 hn))
      · next q => rw [← this]; exact stepBB_no (by simpa using q) _ _ _ _)
    have q0 : (r != 0) = true := by simp [hr0]
    clear hr0
    go_wp2_with (first
      | (go_at_call 79; refine (HFA.out (W0.alloc _) _ ((Ext.refl _).alloc _) (Sl.litAt W0 _ rfl [a] (by simp))).mono ?_; rintro e w1 ⟨rfl, hx⟩; have X1 : Hid (Ext W0 w1) := Lib.hid (Ext.trans ((Ext.refl _).alloc _) hx); clear hx)
      | refine haltst 25 ?_)
    refine .inl ?_
    refine st_l 25 (.tmp 6) (.tmp 16) (w.heap.size + 2) 0 25 _ #[.slice none 0 0, .slice none 0 0] _ rfl rfl (keepU R0.out X1.out) (by kernel_rfl) (by simp) rfl rfl ?_
    intro W9 hW9 o9
    simp only [Act.put]
    go_wp2
    exact bodyPost_ret (v := .tuple #[.agg #[.slice none 0 0, .slice none 0 0], .int .i64 r]) (res_ct 7 rfl rfl hW9 uBar (by kernel_rfl)) rfl (givesBar_no HR.out (ext_off (X0.out.trans X1.out) o9 (fun b hb => by omega)))
end Go.Proofs.YtfbambemjokmgaaGreat
namespace Go.Proofs.YtfbambemjokmgaaGreat
open Go.RowKit
set_option maxRecDepth 100000 in
set_option maxHeartbeats 1000000 in
theorem meantB_one (W : World) (g1 g2 : Nat) (a b : Int) (m : Ml) (h1 : W.heap[g1]? = some (.cells #[.int .i64 a] 3 (0, 0))) (h2 : W.heap[g2]? = some (.cells #[.int .i64 b] 3 (0, 0))) (t : Bool) (ht : (m.from_ == a && m.to_ == b) = t) :
    Calls Tryz.prog 88 #[m.val, .pointer (some ⟨g1, 0, none⟩), .pointer (some ⟨g2, 0, none⟩)] W fun e W' => e = .returned (.bool t) ∧ Ext W W' := by
  obtain ⟨m0, m1, m2, m3, m4⟩ := m
  unfold Ml.val
  dsimp only at ht ⊢
  have X0 : Hid (Ext W (W.alloc (.cells #[.int .i64 m0, .int .i64 m1, .int .i64 m2, .int .i64 m3, .int .i64 m4] 95))) := Lib.hid ((Ext.refl W).alloc _)
  have q := at0 W (.cells #[.int .i64 m0, .int .i64 m1, .int .i64 m2, .int .i64 m3, .int .i64 m4] 95)
  have k0 := blk_cell q 0 rfl
  have k1 := blk_cell q 1 rfl
  have k2 := blk_cell (keepU h1 X0.out) 0 rfl
  have k3 := blk_cell (keepU h2 X0.out) 0 rfl
  have HT := Lib.hid ht
  clear q h1 h2 ht
  go_enter Tryz.func88, Tryz.ntmps88
  by_cases e : m0 = a
  · have q : (m0 == a) = true := by simp [e]
    have HE := Lib.hid q
    clear e
    go_wp2
    go_ret
    exact ⟨ret_bool (by rw [← HT.out, HE.out]; simp), X0.out⟩
  · have q : (m0 == a) = false := by simp [e]
    have HE := Lib.hid q
    clear e
    go_wp2
    go_ret
    exact ⟨ret_bool (by rw [← HT.out, HE.out]; rfl), X0.out⟩
set_option maxRecDepth 100000 in
set_option maxHeartbeats 2000000 in
theorem getB_one (w : World) (g1 g2 : Nat) (p k me n : Int) (id ph th : Int) (v nv : Value) (L : List Sd) (N : List Int) (h : Sl w v L) (hN : Sl w nv N) (hl : L.length ≤ 1000) (hlN : N.length ≤ 1000) (h1 : w.heap[g1]? = some (.cells #[.int .i64 p] 3 (0, 0))) (h2 : w.heap[g2]? = some (.cells #[.int .i64 k, .int .i64 me, .int .i64 n] 93 (0, 0))) :
    Calls Tryz.prog 90 #[.agg #[.int .i64 id, .int .i64 ph, v, .int .i64 th, nv], .pointer (some ⟨g1, 0, none⟩), .pointer (some ⟨g2, 0, none⟩)] w (GivesD w (getK ⟨id, ph, L, th, N⟩ p k me n)) := by
  obtain ⟨ao, c, rfl⟩ := h.len
  obtain ⟨na, nc, rfl⟩ := hN.len
  obtain ⟨W0, hW0⟩ : ∃ W0, W0 = (w.alloc (.cells #[.int .i64 id, .int .i64 ph, .slice ao L.length c, .int .i64 th, .slice na N.length nc] 63)).alloc (.cells #[.int .i64 0, .int .i64 0, .slice none 0 0, .int .i64 0, .slice none 0 0] 63) := ⟨_, rfl⟩
  have X0 : Hid (Ext w W0) := Lib.hid (hW0 ▸ ((Ext.refl w).alloc _).alloc _)
  have hD : W0.heap[w.heap.size]? = some (.cells #[.int .i64 id, .int .i64 ph, .slice ao L.length c, .int .i64 th, .slice na N.length nc] 63 (0, 0)) := hW0 ▸ old1 (at0 w _) _
  have R0 : Hid (W0.heap[w.heap.size + 1]? = some (.cells #[.int .i64 0, .int .i64 0, .slice none 0 0, .int .i64 0, .slice none 0 0] 63 (0, 0))) := Lib.hid (hW0 ▸ at1 w _ _)
  have hs0 : W0.heap.size = w.heap.size + 2 := by rw [hW0, size_alloc, size_alloc]
  have HW0 := Lib.hid hW0
  have HC := Lib.hid (dkGet_any W0 id ph th p k me n _ _ L N (h.ext X0.out) (hN.ext X0.out) hl hlN)
  obtain ⟨⟨d0, d1, d2⟩, d3, d4⟩ := cells5 hD
  have q0 := blk_cell (keepU h1 X0.out) 0 rfl
  obtain ⟨r0, r1, r2⟩ := cells3U (keepU h2 X0.out)
  have HS0 := Lib.hid hs0
  clear h hN hW0 hD h1 h2 hs0
  obtain ⟨⟨⟨id', ph', L', th', N'⟩, er⟩, hr⟩ : ∃ r, getK ⟨id, ph, L, th, N⟩ p k me n = r := ⟨_, rfl⟩
  rw [hr] at HC ⊢
  clear hr
  go_enter Tryz.func90, Tryz.ntmps90
  go_upto_region 1 with (fail)
  rw [← HW0.out]
  go_wp2_with (first
    | (go_at_call 91; refine HC.out.mono ?_; rintro e w1 ⟨v1, nv1, rfl, s1, sn1, x1, n1⟩; dsimp only at s1 sn1 ⊢; obtain ⟨a1, c1, rfl⟩ := s1.len; obtain ⟨na1, nc1, rfl⟩ := sn1.len; have S1 := Lib.hid s1; have SN1 := Lib.hid sn1; have X1 := Lib.hid x1; have N1 := Lib.hid n1; clear s1 sn1 x1 n1)
    | refine haltst 63 ?_)
  refine .inl ?_
  refine st_l 63 (.tmp 4) (.tmp 10) (w.heap.size + 1) 0 63 #[.int .i64 0, .int .i64 0, .slice none 0 0, .int .i64 0, .slice none 0 0] _ _ rfl rfl (keepU R0.out X1.out) (by kernel_rfl) (by simp) rfl rfl ?_
  intro W9 hW9 o9
  simp only [Act.put]
  go_wp2
  exact bodyPost_ret (v := .tuple #[.agg _, .int .i64 er]) (res_ct 5 rfl rfl hW9 uDrinker (by kernel_rfl)) rfl ⟨_, _, rfl, S1.out.off (apartSd S1.out (keepU R0.out X1.out) (by simp)) o9, slOffU SN1.out N1.out o9 (by have := HS0.out; omega), ext_off (X0.out.trans X1.out) o9 (fun b hb => by omega)⟩
theorem SmB.cut {L : List Dk} {M : List Ml} (h : SmB L M) (k : Nat) : SmB L (M.take k ++ M.drop (k + 1)) := ⟨h.n, h.s, h.k, by have := h.m; rw [List.length_append, List.length_take, List.length_drop]; omega⟩
set_option maxRecDepth 100000 in
set_option maxHeartbeats 16000000 in
theorem bDeliver_any (w : World) (vd vm : Value) (L : List Dk) (M : List Ml) (h : BV w vd vm L M) (hl : SmB L M) (a b : Int) :
    Calls Tryz.prog 48 #[.agg #[vd, vm], .int .i64 a, .int .i64 b] w (GivesBar w (stepBB L M 2 a b [])) := by
  have hmf : ∀ (fn : Fn) (first cap : Array Value) (w : World), (Instr.makeFunc fn first cap).run Tryz.prog w = .ok (.func fn first cap) w := fun _ _ _ _ => rfl
  obtain ⟨ao, c, bo, d, rfl, rfl⟩ := h.len
  obtain ⟨W0, hW0⟩ : ∃ W0, W0 = (((w.alloc (.cells #[.slice ao L.length c, .slice bo M.length d] 25)).alloc (.cells #[.int .i64 a] 3)).alloc (.cells #[.int .i64 b] 3)).alloc (.cells #[.slice none 0 0, .slice none 0 0] 25) := ⟨_, rfl⟩
  have X0 : Hid (Ext w W0) := Lib.hid (hW0 ▸ ((((Ext.refl w).alloc _).alloc _).alloc _).alloc _)
  have B0 : Hid (W0.heap[w.heap.size]? = some (.cells #[.slice ao L.length c, .slice bo M.length d] 25 (0, 0))) := Lib.hid (hW0 ▸ old1 (old1 (old1 (at0 w _) _) _) _)
  have F0 : Hid (W0.heap[w.heap.size + 1]? = some (.cells #[.int .i64 a] 3 (0, 0))) := Lib.hid (hW0 ▸ old1 (old1 (at1 w _ _) _) _)
  have T0 : Hid (W0.heap[w.heap.size + 2]? = some (.cells #[.int .i64 b] 3 (0, 0))) := Lib.hid (hW0 ▸ old1 (at2 w _ _ _) _)
  have R0 : Hid (W0.heap[w.heap.size + 3]? = some (.cells #[.slice none 0 0, .slice none 0 0] 25 (0, 0))) := Lib.hid (hW0 ▸ at3 w _ _ _ _)
  have HS0 : Hid (W0.heap.size = w.heap.size + 4) := Lib.hid (by rw [hW0, size_alloc, size_alloc, size_alloc, size_alloc])
  have HW0 := Lib.hid hW0
  have HV := Lib.hid (h.ext X0.out)
  have HL := Lib.hid hl
  obtain ⟨r, hr⟩ : ∃ r, faultB L M [a, b] = r := ⟨_, rfl⟩
  have HRF := Lib.hid hr
  obtain ⟨k0, k1⟩ := cells2S B0.out
  have kf := blk_cell F0.out 0 rfl
  have kt := blk_cell T0.out 0 rfl
  have HFA : Hid (∀ W vn, Ext W0 W → Sl W vn [a, b] → _) := Lib.hid fun W vn hW hn => faultB_any W _ _ vn L M [a, b] (HV.out.ext hW) hl hn r hr
  clear h hl hW0 hr
  go_enter Tryz.func48, Tryz.ntmps48
  go_upto_region 1 with (fail)
  rw [← HW0.out]
  by_cases hr0 : r = 0
  · subst hr0
    have HCK : Hid (chkB L M = true ∧ hasK L a = true ∧ hasK L b = true) := Lib.hid (by
      have := HRF.out
      unfold faultB at this
      split at this
      · next q =>
        refine ⟨q, ?_⟩
        split at this
        · next q2 => simpa using q2
        · simp at this
      · simp at this)
    obtain ⟨B, hB⟩ : ∃ B : Nat, b = B := ⟨b.toNat, by have := hasK_iff.1 HCK.out.2.2; omega⟩
    subst hB
    have hBL : B < L.length := by have := hasK_iff.1 HCK.out.2.2; omega
    have HNA : Hid (0 ≤ a ∧ a < L.length) := Lib.hid (hasK_iff.1 HCK.out.2.1)
    obtain ⟨⟨i0, p0, S0, t0, N0⟩, hB⟩ : ∃ x, L[B]? = some x := ⟨_, List.getElem?_eq_getElem hBL⟩
    have hS0 : S0.length ≤ 100 := HL.out.s _ (List.mem_of_getElem? hB)
    have hN0 : N0.length ≤ 100 := HL.out.k _ (List.mem_of_getElem? hB)
    have HBB := Lib.hid hB
    clear hB
    go_upto_region 6 with (first
      | (go_at_call 79; refine (HFA.out (W0.alloc _) _ ((Ext.refl _).alloc _) (Sl.litAt W0 _ rfl [a, (B : Int)] (by simp))).mono ?_; rintro e w1 ⟨rfl, hx⟩; have X1 : Hid (Ext W0 w1) := Lib.hid (Ext.trans ((Ext.refl _).alloc _) hx); obtain ⟨j0, j1⟩ := cells2S (keepU B0.out X1.out); clear hx)
      | (go_at_call 89; refine (indexFunc_ml w1 _ M 88 #[.pointer (some ⟨w.heap.size + 1, 0, none⟩), .pointer (some ⟨w.heap.size + 2, 0, none⟩)] (fun m => m.from_ == a && m.to_ == (B : Int)) (enters_of Tryz.func88 (by kernel_rfl) rfl) (HV.out.ms.ext X1.out) (fun m W _ hW => meantB_one W _ _ a B m (keepU F0.out (X1.out.trans hW)) (keepU T0.out (X1.out.trans hW)) _ rfl)).mono ?_; rintro e w2 ⟨q, rfl, hq, hx⟩; have X2 := Lib.hid (X1.out.trans hx); have HQ := Lib.hid hq; obtain ⟨i0', i1'⟩ := cells2S (keepU B0.out X2.out); clear hx hq))
    by_cases hq0 : q < 0
    · have HR : Hid (stepBB L M 2 a B [] = (noB, 162)) := Lib.hid (by
        rcases HQ.out with ⟨rfl, hn⟩ | ⟨k, x, rfl, _⟩
        · have := HNA.out
          rw [stepBB_yes HCK.out.1]; exact stepB_mail (by omega) (pick_none hn)
        · omega)
      clear HCK HQ
      go_wp2_with (first | refine haltst 25 ?_)
      refine .inl ?_
      refine st_l 25 (.tmp 6) (.tmp 29) (w.heap.size + 3) 0 25 _ #[.slice none 0 0, .slice none 0 0] _ rfl rfl (keepU R0.out X2.out) (by kernel_rfl) (by simp) rfl rfl ?_
      intro W9 hW9 o9
      simp only [Act.put]
      go_wp2
      exact bodyPost_ret (v := .tuple #[.agg #[.slice none 0 0, .slice none 0 0], .int .i64 162]) (res_ct 7 rfl rfl hW9 uBar (by kernel_rfl)) rfl (givesBar_no HR.out (ext_off (X0.out.trans X2.out) o9 (fun b hb => by omega)))
    · obtain ⟨K, x, rfl, hK, hpx, hfx⟩ : ∃ (k : Nat) (x : Ml), q = (k : Int) ∧ M[k]? = some x ∧ (x.from_ == a && x.to_ == (B : Int)) = true ∧ ∀ (j : Nat) (u : Ml), j < k → M[j]? = some u → (u.from_ == a && u.to_ == (B : Int)) = false := by
        rcases HQ.out with ⟨rfl, hn⟩ | h
        · omega
        · exact h
      have hKM : K < M.length := (List.getElem?_eq_some_iff.1 hK).1
      obtain ⟨mb, mo, y, _, hyk, rfl, _, hmc, hmc63, hmb, hcell⟩ := HV.out.ms.mailAt hKM
      obtain rfl : y = x := by have := hyk.symm.trans hK; simpa using this
      obtain ⟨⟨y0, y1⟩, y2, y3, y4⟩ := hcell w2 X2.out
      have HBE : Hid (behB L (M.take K ++ M.drop (K + 1)) B (getK ⟨i0, p0, S0, t0, N0⟩ a y.kind y.epoch y.num) = stepBB L M 2 a B []) := Lib.hid (by rw [stepBB_yes HCK.out.1]; exact beh_getK HBB.out HNA.out (pick_at hK hpx hfx) [])
      have HMS := Lib.hid HV.out.ms
      obtain ⟨z0, z1, z2, z3, z4⟩ := y
      dsimp only at y0 y1 y2 y3 y4 HBE
      clear hyk hK hpx hfx hcell HCK HQ
      go_upto_region 10 with (fail)
      obtain ⟨W3, hW3⟩ : ∃ W3, W3 = w2.alloc (.cells #[.int .i64 z2, .int .i64 z3, .int .i64 z4] 93) := ⟨_, rfl⟩
      have X3 : Hid (Ext W0 W3) := Lib.hid (hW3 ▸ X2.out.alloc _)
      have G3 : Hid (W3.heap[w2.heap.size]? = some (.cells #[.int .i64 z2, .int .i64 z3, .int .i64 z4] 93 (0, 0))) := Lib.hid (hW3 ▸ at0 w2 _)
      have hg3 : W0.heap.size ≤ w2.heap.size := Below.size X2.out
      (try rw [← hW3])
      have HSC : Hid (∀ V, Ext W3 V → V.cell? ⟨w.heap.size, 1, none⟩ = some (.slice (some ⟨mb, mo, none⟩) M.length d)) := Lib.hid fun V hV => (cells2S (keepU B0.out (X3.out.trans hV))).2
      have hkw : IntKind.i64.wrap ((K : Int) + 1) = (K : Int) + 1 := wrapN _ (by omega) (by omega)
      clear hW3 y0 y1 y2 y3 y4 k0 k1 kf kt i0' i1' j0 j1
      go_wp2_with fail
      refine wp_region_M_lit (by kernel_rfl) ?_
      refine tv 0 (h := ?_)
      refine tv 1 (hv := by intro w' hw'; have hc := HSC.out w' hw'; go_simp; first | done | with_reducible rfl) (h := ?_)
      refine tv 2 (h := ?_)
      refine tv 3 (hv := by intro w' hw'; have hz : (K : Int) ≤ (d : Int) := (by omega); go_simp; first | done | with_reducible rfl) (h := ?_)
      refine tv 4 (h := ?_)
      refine tv 5 (hv := by intro w' hw'; have hc := HSC.out w' hw'; go_simp; first | done | with_reducible rfl) (h := ?_)
      refine tv 6 (h := ?_)
      refine tv 7 (hv := by intro w' hw'; have hz := hkw; go_simp; first | done | with_reducible rfl) (h := ?_)
      refine tv 8 (hv := by intro w' hw'; have hz0 : 0 ≤ (K : Int) + 1 := (by omega); have hz : (K : Int) + 1 ≤ (M.length : Int) := (by omega); have hz2 : (M.length : Int) ≤ (d : Int) := (by omega); go_simp; first | done | with_reducible rfl) (h := ?_)
      (refine runOne 9 (h := ?_); intro w' hw'; go_simp; refine ⟨Ext.alloc (Ext.refl _) _, ?_⟩; try (simp only [Act.put, List.setIfInBounds_toArray, List.set]))
      have HC0 : Hid (∀ V, Ext W3 V → Sl V (.slice (some ⟨mb, mo, none⟩) K d) (M.take K)) := Lib.hid fun V hV => by
        have := (HMS.out.ext (X3.out.trans hV)).cut 0 K (by omega) (by omega)
        simpa using this
      have HC1 : Hid (∀ V, Ext W3 V → Sl V (.slice (if d = K + 1 then some ⟨mb, mo, none⟩ else some ⟨mb, mo + (K + 1) * 5, none⟩) (M.length - (K + 1)) (d - (K + 1))) (M.drop (K + 1))) := Lib.hid fun V hV => (HMS.out.ext (X3.out.trans hV)).tail (K + 1) hKM
      have hml := HL.out.m
      refine runOne 10 (h := ?_)
      intro w5 hw5
      have X5 : Hid (Ext W3 w5) := Lib.hid (Ext.trans hw' (Ext.trans ((Ext.refl w').alloc _) hw5))
      go_simp
      refine (concat_m w5 w'.heap.size _ _ (M.take K) (M.drop (K + 1)) (blk_lt (keepU (at0 w' _) hw5)) (blk_cell (keepU (at0 w' _) hw5) 0 rfl) (blk_cell (keepU (at0 w' _) hw5) 1 rfl) (HC0.out w5 X5.out) (HC1.out w5 X5.out) (by rw [List.length_take]; omega) (by rw [List.length_drop]; omega)).mono ?_
      rintro e6 w6 ⟨v6, rfl, o6, x6⟩
      obtain ⟨ca, cn, cc, rfl⟩ := o6.sh
      have X6 : Hid (Ext W3 w6) := Lib.hid (X5.out.trans x6)
      have S6 := Lib.hid o6.sl
      refine ⟨x6, ?_⟩
      clear o6 x6 hw5 hw' X5
      (try (simp only [Act.put, List.setIfInBounds_toArray, List.set]))
      refine tv 11 (h := ?_)
      (refine runLate 12 (h := ?_); intro w' hw'; have c6 := HSC.out w' (X6.out.trans hw'); have f6 := blk_free (keepU B0.out (X3.out.trans (X6.out.trans hw'))) 1; go_simp; try (simp only [Act.put, List.setIfInBounds_toArray, List.set]))
      (refine lateDone (by kernel_rfl) ?_)
      have XL : Hid (Ext W0 w') := Lib.hid (X3.out.trans (X6.out.trans hw'))
      obtain ⟨W7, hW7⟩ : ∃ W7, W7 = w'.setCell ⟨w.heap.size, 1, none⟩ (.slice ca cn cc) := ⟨_, rfl⟩
      have o7 : Off (fun k => k = w.heap.size) w' W7 := hW7 ▸ off_set w' ⟨w.heap.size, 1, none⟩ _
      have B7 : Hid (W7.heap[w.heap.size]? = some (.cells #[.slice ao L.length c, .slice ca cn cc] 25 (0, 0))) := Lib.hid (by rw [hW7, blk_set (keepU B0.out XL.out)]; rfl)
      have X7 : Hid (Ext w W7) := Lib.hid (ext_off (X0.out.trans XL.out) o7 (fun b hb => by omega))
      have SV7 : Hid (BV W7 (.slice ao L.length c) (.slice ca cn cc) L (M.take K ++ M.drop (K + 1))) := Lib.hid ((BV.mk (HV.out.ds.ext XL.out) (S6.out.ext hw')).off (keepU B0.out XL.out) o7)
      have F7 : Hid (W7.heap[w.heap.size + 1]? = some (.cells #[.int .i64 a] 3 (0, 0))) := Lib.hid (o7.blk (keepU F0.out XL.out) (by omega))
      have T7 := o7.blk (keepU T0.out XL.out) (by omega)
      have G7 : Hid (W7.heap[w2.heap.size]? = some (.cells #[.int .i64 z2, .int .i64 z3, .int .i64 z4] 93 (0, 0))) := Lib.hid (o7.blk (keepU G3.out (X6.out.trans hw')) (by have := HS0.out; omega))
      have R7 : Hid (W7.heap[w.heap.size + 3]? = some (.cells #[.slice none 0 0, .slice none 0 0] 25 (0, 0))) := Lib.hid (o7.blk (keepU R0.out XL.out) (by omega))
      have HBH := Lib.hid (HBE.out ▸ behindB_any W7 _ _ L (M.take K ++ M.drop (K + 1)) SV7.out (HL.out.cut K) B i0 p0 t0 S0 N0 HBB.out 90 #[.pointer (some ⟨w.heap.size + 1, 0, none⟩), .pointer (some ⟨w2.heap.size, 0, none⟩)] (getK ⟨i0, p0, S0, t0, N0⟩ a z2 z3 z4) (enters_of Tryz.func90 (by kernel_rfl) rfl) (fun V u nu hV hu hnu => getB_one V _ _ a z2 z3 z4 i0 p0 t0 u nu S0 N0 hu hnu (by omega) (by omega) (keepU F7.out hV) (keepU G7.out hV)) (Nat.le_trans getK_few.1 hS0) (Nat.le_trans getK_few.2 hN0))
      obtain ⟨⟨⟨L2, M2⟩, er⟩, hq⟩ : ∃ q, stepBB L M 2 a B [] = q := ⟨_, rfl⟩
      rw [hq] at HBH
      have HQ := Lib.hid hq
      obtain ⟨k0, k1⟩ := cells2S B7.out
      have kt := blk_cell T7 0 rfl
      (try rw [← hW7])
      clear hW7 o7 T7 hq HBE HC0 HC1 S6 f6 c6 HSC
      go_wp2_with (first
        | (go_at_call 80; refine HBH.out.mono ?_; rintro e w8 ⟨vd2, vm2, rfl, sv2, hx⟩; dsimp only at sv2 ⊢; obtain ⟨a1, n1, c1, a2, n2, c2, rfl, rfl⟩ := sv2.sh; have SV2 := Lib.hid sv2; have X8 := Lib.hid hx; clear sv2 hx)
        | refine haltst 25 ?_)
      all_goals
        refine .inl ?_
        have RC := Lib.hid (keepU R7.out X8.out)
        refine st_l 25 (.tmp 6) (.tmp 53) (w.heap.size + 3) 0 25 _ #[.slice a1 n1 c1, .slice a2 n2 c2] _ rfl rfl RC.out (by kernel_rfl) (by simp) rfl rfl ?_
        intro W9 hW9 o9
        simp only [Act.put]
        go_wp2
        exact bodyPost_ret (v := .tuple #[.agg #[.slice a1 n1 c1, .slice a2 n2 c2], .int .i64 er]) (res_ct 7 rfl rfl hW9 uBar (by kernel_rfl)) rfl (by rw [HQ.out]; exact ⟨_, _, rfl, SV2.out.off RC.out o9, ext_off (X7.out.trans X8.out) o9 (fun b hb => by omega)⟩)
  · have HR : Hid (stepBB L M 2 a b [] = (noB, r)) := Lib.hid (by
      have := HRF.out
      unfold faultB at this
      split at this
      · next q =>
        split at this
        · omega
        · next q2 => rw [← this]; rw [stepBB_yes q]; exact stepB_node (by
            by_cases ha : hasK L a = true
            · refine .inr ⟨rfl, fun hn => q2 ?_⟩
              simp [ha, hasK_iff.2 hn]
            · exact .inl fun hn => ha (hasK_iff.2 hn))
      · next q => rw [← this]; exact stepBB_no (by simpa using q) _ _ _ _)
    have q0 : (r != 0) = true := by simp [hr0]
    clear hr0
    go_wp2_with (first
      | (go_at_call 79; refine (HFA.out (W0.alloc _) _ ((Ext.refl _).alloc _) (Sl.litAt W0 _ rfl [a, b] (by simp))).mono ?_; rintro e w1 ⟨rfl, hx⟩; have X1 : Hid (Ext W0 w1) := Lib.hid (Ext.trans ((Ext.refl _).alloc _) hx); clear hx)
      | refine haltst 25 ?_)
    refine .inl ?_
    refine st_l 25 (.tmp 6) (.tmp 20) (w.heap.size + 3) 0 25 _ #[.slice none 0 0, .slice none 0 0] _ rfl rfl (keepU R0.out X1.out) (by kernel_rfl) (by simp) rfl rfl ?_
    intro W9 hW9 o9
    simp only [Act.put]
    go_wp2
    exact bodyPost_ret (v := .tuple #[.agg #[.slice none 0 0, .slice none 0 0], .int .i64 r]) (res_ct 7 rfl rfl hW9 uBar (by kernel_rfl)) rfl (givesBar_no HR.out (ext_off (X0.out.trans X1.out) o9 (fun b hb => by omega)))
end Go.Proofs.YtfbambemjokmgaaGreat
