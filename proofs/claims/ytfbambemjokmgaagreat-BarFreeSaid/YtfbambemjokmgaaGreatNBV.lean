/- Texts of this seat. -/
import Derived.Test.YtfbambemjokmgaaGreatNAR
import Derived.Test.YtfbambemjokmgaaGreatNAY
import Derived.Test.YtfbambemjokmgaaGreatNBQ
namespace Go.Proofs.YtfbambemjokmgaaGreat
open Go.RowKit
theorem cells4A {w : World} {g : Nat} {u0 u1 u2 u3 : Value} {t : TypeId} (h : w.heap[g]? = some (.cells #[u0, u1, u2, u3] t (0, 0))) : (w.cell? ⟨g, 0, none⟩ = some u0 ∧ w.cell? ⟨g, 1, none⟩ = some u1) ∧ w.cell? ⟨g, 2, none⟩ = some u2 ∧ w.cell? ⟨g, 3, none⟩ = some u3 := ⟨⟨blk_cell h 0 rfl, blk_cell h 1 rfl⟩, blk_cell h 2 rfl, blk_cell h 3 rfl⟩
theorem stepBB_q {L : List Dk} {M : List Ml} {k a b : Int} (hk : k ≠ 0) (Q Q' : List Int) : stepBB L M k a b Q = stepBB L M k a b Q' := by
  unfold stepBB stepB
  simp only [if_neg hk]
set_option maxRecDepth 100000 in
set_option maxHeartbeats 8000000 in
theorem actB_any (w : World) (vd vm nv : Value) (L : List Dk) (M : List Ml) (h : BV w vd vm L M) (hl : SmB L M) (k a b : Int) (Q : List Int) (hQ : Sl w nv Q) (hq : Q.length ≤ 100) :
    Calls Tryz.prog 13 #[.agg #[vd, vm], .agg #[.int .i64 k, .int .i64 a, .int .i64 b, nv]] w (GivesBar w (stepBB L M (actN k) a b Q)) := by
  obtain ⟨ao, c, bo, d, rfl, rfl⟩ := h.len
  obtain ⟨qa, qc, rfl⟩ := hQ.len
  obtain ⟨W0, hW0⟩ : ∃ W0, W0 = ((w.alloc (.cells #[.slice ao L.length c, .slice bo M.length d] 25)).alloc (.cells #[.int .i64 k, .int .i64 a, .int .i64 b, .slice qa Q.length qc] 28)).alloc (.cells #[.slice none 0 0, .slice none 0 0] 25) := ⟨_, rfl⟩
  have X0 : Hid (Ext w W0) := Lib.hid (hW0 ▸ (((Ext.refl w).alloc _).alloc _).alloc _)
  have B0 : Hid (W0.heap[w.heap.size]? = some (.cells #[.slice ao L.length c, .slice bo M.length d] 25 (0, 0))) := Lib.hid (hW0 ▸ old1 (old1 (at0 w _) _) _)
  have D0 : Hid (W0.heap[w.heap.size + 1]? = some (.cells #[.int .i64 k, .int .i64 a, .int .i64 b, .slice qa Q.length qc] 28 (0, 0))) := Lib.hid (hW0 ▸ old1 (at1 w _ _) _)
  have R0 : Hid (W0.heap[w.heap.size + 2]? = some (.cells #[.slice none 0 0, .slice none 0 0] 25 (0, 0))) := Lib.hid (hW0 ▸ at2 w _ _ _)
  have HW0 := Lib.hid hW0
  have HV := Lib.hid (h.ext X0.out)
  have HQS := Lib.hid (hQ.ext X0.out)
  have HL := Lib.hid hl
  obtain ⟨k0, k1⟩ := cells2S B0.out
  obtain ⟨⟨k2, k3⟩, k4, k5⟩ := cells4A D0.out
  clear h hl hW0 hQ
  go_enter Tryz.func13, Tryz.ntmps13
  go_upto_region 1 with (fail)
  rw [← HW0.out]
  by_cases e0 : k = 0
  · have HQ : Hid (stepBB L M (actN k) a b Q = stepBB L M 0 a b Q) := Lib.hid (by unfold actN; rw [if_pos e0])
    subst e0
    go_upto_region 3 with (fail)
    obtain ⟨⟨⟨L2, M2⟩, er⟩, hst⟩ : ∃ q, stepBB L M 0 a b Q = q := ⟨_, rfl⟩
    rw [hst] at HQ
    have HST := Lib.hid hst
    have KF : Hid (∀ V, Ext W0 V → Ext w V ∧ V.heap[w.heap.size]? = some (.cells #[.slice ao L.length c, .slice bo M.length d] 25 (0, 0)) ∧ V.heap[w.heap.size + 1]? = some (.cells #[.int .i64 0, .int .i64 a, .int .i64 b, .slice qa Q.length qc] 28 (0, 0))) := Lib.hid fun V hV => ⟨X0.out.trans hV, keepU B0.out hV, keepU D0.out hV⟩
    clear hst k0 k1 k2 k3 k4 k5
    (refine wp_region_X_lit (K := fun V => Ext w V ∧ V.heap[w.heap.size]? = some (.cells #[.slice ao L.length c, .slice bo M.length d] 25 (0, 0)) ∧ V.heap[w.heap.size + 1]? = some (.cells #[.int .i64 0, .int .i64 a, .int .i64 b, .slice qa Q.length qc] 28 (0, 0))) (by kernel_rfl) (fun w1 hw1 => ?_))
    have Z1 : Hid (Ext W0 w1) := Lib.hid hw1
    clear hw1
    refine xtv 0 (hv := by intro w' hw'; have hc := cells2S hw'.2.1; go_simp; first | done | with_reducible rfl) (h := ?_)
    refine xtv 1 (h := ?_)
    refine xtv 2 (hv := by intro w' hw'; have hc := cells4A hw'.2.2; go_simp; first | done | with_reducible rfl) (h := ?_)
    refine xtv 4 (h := ?_)
    refine xtv 5 (hv := by intro w' hw'; have hc := cells4A hw'.2.2; go_simp; first | done | with_reducible rfl) (h := ?_)
    refine xone 3 (hk := (KF.out _ Z1.out)) (h := RunX.of 3 (h := ?_))
    go_simp
    (try (simp only [Act.put, List.setIfInBounds_toArray, List.set]))
    have YB : Hid (Ext W0 (w1.alloc (.cells #[] 3))) := Lib.hid (Z1.out.alloc _)
    refine xone 6 (hk := (KF.out _ YB.out)) (h := RunX.of 6 (h := ?_))
    (refine wp_append_sl (α := Int) (.tmp 13) (.tmp 15) rfl w1.heap.size (.slice (some ⟨_, 0, none⟩) 0 0) [] rfl ?_ _ Q rfl ?_ ?_ ?_ ?_; exact (Ow.litAt w1 _ _ rfl (Nat.le_refl _) [] (by simp)); exact (HQS.out.ext YB.out); (first | omega | (simp; omega)); (first | (rw [size_alloc]; omega) | simp); intro v4 w4 ho4 ha4; obtain ⟨a4, n4, c4, rfl⟩ := ho4.sh; have S4 : Hid (Sl w4 (.slice a4 n4 c4) Q) := Lib.hid ho4.sl; have Y4 : Hid (Ext W0 w4) := Lib.hid (Z1.out.trans (Below.trans ((Ext.refl w1).alloc _) ha4.below)); clear ho4 ha4)
    (try (simp only [Act.put, List.setIfInBounds_toArray, List.set]))
    refine xone 7 (hk := (KF.out _ Y4.out)) (h := RunX.of 7 (h := ?_))
    go_simp
    refine (HST.out ▸ bOpen_any w4 _ _ L M (HV.out.ext Y4.out) HL.out a b _ Q S4.out hq).mono ?_
    rintro e5 w5 ⟨vd5, vm5, rfl, sv5, x5⟩
    dsimp only at sv5 ⊢
    obtain ⟨a5, n5, c5, b5, m5, d5, rfl, rfl⟩ := sv5.sh
    have S5 := Lib.hid sv5
    have Y5 : Hid (Ext W0 w5) := Lib.hid (Ext.trans Y4.out x5)
    clear sv5 x5
    (try (simp only [Act.put, List.setIfInBounds_toArray, List.set]))
    refine xtv 8 (h := ?_)
    refine xtv 9 (h := ?_)
    refine xone 10 (hk := (KF.out _ Y5.out)) (h := RunX.of 10 (h := ?_))
    refine wp_st 25 (.tmp 4) (.tmp 18) rfl (w.heap.size + 2) 0 25 #[.slice none 0 0, .slice none 0 0] #[.slice a5 n5 c5, .slice b5 m5 d5] #[.slice a5 n5 c5, .slice b5 m5 d5] rfl rfl (keepU R0.out Y5.out) (by kernel_rfl) (by simp) rfl rfl ?_
    intro W9 hW9 o9
    simp only [Act.put]
    have Y9 : Hid (Ext w W9) := Lib.hid (ext_off (X0.out.trans Y5.out) o9 (fun b hb => by omega))
    have V9 := Lib.hid (S5.out.off (keepU R0.out Y5.out) o9)
    have R9 := Lib.hid hW9
    have K9 := Lib.hid (o9.blk (keepU B0.out Y5.out) (by omega))
    have J9 := Lib.hid (o9.blk (keepU D0.out Y5.out) (by omega))
    clear hW9 o9
    refine xtv 11 (h := ?_)
    (refine xdone (by kernel_rfl) (⟨Y9.out, K9.out, J9.out⟩) ?_)
    go_wp2
    exact bodyPost_ret (v := .tuple #[.agg #[.slice a5 n5 c5, .slice b5 m5 d5], .int .i64 er]) (res_ct 5 rfl rfl R9.out uBar (by kernel_rfl)) rfl (by rw [HQ.out]; exact ⟨_, _, rfl, V9.out, Y9.out⟩)
  have q0 : (k == 0) = false := by simp [e0]
  by_cases e1 : k = 1
  · have HQ : Hid (stepBB L M (actN k) a b Q = stepBB L M 1 a b []) := Lib.hid (by unfold actN; rw [if_neg e0, if_pos e1]; exact stepBB_q (by omega) _ _)
    subst e1
    clear e0
    go_wp2_with (first
      | (go_at_call 39; refine (bClose_any W0 _ _ L M HV.out HL.out a b).mono ?_; rintro e w2 ⟨vd2, vm2, rfl, sv2, hx⟩; obtain ⟨a1, n1, c1, a2, n2, c2, rfl, rfl⟩ := sv2.sh; have SV2 := Lib.hid sv2; have X2 := Lib.hid hx; clear sv2 hx)
      | refine haltst 25 ?_)
    refine .inl ?_
    have RC := Lib.hid (keepU R0.out X2.out)
    refine st_l 25 (.tmp 4) (.tmp 26) (w.heap.size + 2) 0 25 _ #[.slice a1 n1 c1, .slice a2 n2 c2] _ rfl rfl RC.out (by kernel_rfl) (by simp) rfl rfl ?_
    intro W9 hW9 o9
    simp only [Act.put]
    go_wp2
    exact bodyPost_ret (v := .tuple #[.agg #[.slice a1 n1 c1, .slice a2 n2 c2], .int .i64 (stepBB L M 1 a b []).2]) (res_ct 5 rfl rfl hW9 uBar (by kernel_rfl)) rfl (by rw [HQ.out]; exact ⟨_, _, rfl, SV2.out.off RC.out o9, ext_off (X0.out.trans X2.out) o9 (fun b hb => by omega)⟩)
  · have HQ : Hid (stepBB L M (actN k) a b Q = stepBB L M 2 a b []) := Lib.hid (by unfold actN; rw [if_neg e0, if_neg e1]; exact stepBB_q (by omega) _ _)
    have q1 : (k == 1) = false := by simp [e1]
    clear e0 e1
    go_wp2_with (first
      | (go_at_call 48; refine (bDeliver_any W0 _ _ L M HV.out HL.out a b).mono ?_; rintro e w2 ⟨vd2, vm2, rfl, sv2, hx⟩; obtain ⟨a1, n1, c1, a2, n2, c2, rfl, rfl⟩ := sv2.sh; have SV2 := Lib.hid sv2; have X2 := Lib.hid hx; clear sv2 hx)
      | refine haltst 25 ?_)
    refine .inl ?_
    have RC := Lib.hid (keepU R0.out X2.out)
    refine st_l 25 (.tmp 4) (.tmp 34) (w.heap.size + 2) 0 25 _ #[.slice a1 n1 c1, .slice a2 n2 c2] _ rfl rfl RC.out (by kernel_rfl) (by simp) rfl rfl ?_
    intro W9 hW9 o9
    simp only [Act.put]
    go_wp2
    exact bodyPost_ret (v := .tuple #[.agg #[.slice a1 n1 c1, .slice a2 n2 c2], .int .i64 (stepBB L M 2 a b []).2]) (res_ct 5 rfl rfl hW9 uBar (by kernel_rfl)) rfl (by rw [HQ.out]; exact ⟨_, _, rfl, SV2.out.off RC.out o9, ext_off (X0.out.trans X2.out) o9 (fun b hb => by omega)⟩)
section
variable {N : Int} {E : List Edge} {ds : List Dk} {ms : List Ml}
end
end Go.Proofs.YtfbambemjokmgaaGreat
namespace Go.Proofs.YtfbambemjokmgaaGreat
open Go.RowKit Go.ChangeShapes Go.WideShapes Go.Deep
theorem dec_Int : Dec Int := fun _ _ _ _ _ _ _ _ _ h => by
  obtain ⟨n, rfl, _⟩ := DataW.trod_int (k := .i64) (by kernel_rfl) h
  exact ⟨n, rfl⟩
set_option maxRecDepth 50000 in
theorem dec_KV : DecW KV := fun H enc w base spare held n cs x h => by
  obtain ⟨xs, n', _, _, hlen, hxl, hf⟩ := DataW.trod_struct (P := Tryz.prog) (t := Elem.e KV) Tryz.underlying63 h
  have h0 := hf 0 _ rfl
  have h1 := hf 1 _ rfl
  have h2 := hf 2 _ rfl
  have hl : cs.length = 5 := hlen
  have hx2 : xs.length = 3 := hxl
  match cs, hl, xs, hx2 with
  | [a0, a1, a2, a3, a4], _, [y0, y1, y2], _ =>
    have h0' : DataW.trod enc Tryz.prog w base spare held _ 61 [a0, a1, a2] = some y0 := h0
    obtain ⟨zs, n2, _, _, hlen2, hzl, hg⟩ := DataW.trod_struct (P := Tryz.prog) (t := 61) Tryz.underlying61 h0'
    have g0 := hg 0 _ rfl
    have g1 := hg 1 _ rfl
    have g2 := hg 2 _ rfl
    have hz2 : zs.length = 3 := hzl
    obtain ⟨m3, e3, _⟩ := DataW.trod_int (k := .i64) (by kernel_rfl) h1
    have e3' : [a3] = [Value.int .i64 m3] := e3
    have h2' : DataW.trod enc Tryz.prog w base spare held _ (Elem.t Int) [a4] = some y2 := h2
    obtain ⟨no, nc, N, rfl, hN⟩ := field_slice dec_Int (by kernel_rfl) h2'
    match zs, hz2 with
    | [z0, z1, z2], _ =>
      obtain ⟨m0, e0, _⟩ := DataW.trod_int (k := .i64) (by kernel_rfl) g0
      obtain ⟨m1, e1, _⟩ := DataW.trod_int (k := .i64) (by kernel_rfl) g1
      have e0' : [a0] = [Value.int .i64 m0] := e0
      have e1' : [a1] = [Value.int .i64 m1] := e1
      have g2' : DataW.trod enc Tryz.prog w base spare held _ (Elem.t Sd) [a2] = some z2 := g2
      obtain ⟨so, sc, L, rfl, hs⟩ := field_slice dec_Sd (by kernel_rfl) g2'
      simp only [List.cons.injEq, and_true] at e0' e1' e3'
      subst e0' e1' e3'
      exact ⟨⟨m0, m1, so, L.length, sc, m3, no, N.length, nc⟩, ⟨m0, m1, L, m3, N⟩, rfl, (⟨rfl, rfl, sa_non hs, rfl, sa_non hN⟩ : RdK _ _ _ _)⟩
theorem some_KV : ∃ (a : KV) (d : Dk), ∀ w, Nest.rd Non w a d := ⟨⟨0, 0, none, 0, 0, 0, none, 0, 0⟩, ⟨0, 0, [], 0, []⟩, fun w => (⟨rfl, rfl, Sa.nil _ w, rfl, Sa.nil _ w⟩ : RdK _ _ _ _)⟩
set_option maxRecDepth 50000 in
theorem dec_AV : DecW AV := fun H enc w base spare held n cs x h => by
  obtain ⟨xs, n', _, _, hlen, hxl, hf⟩ := DataW.trod_struct (P := Tryz.prog) (t := Elem.e AV) Tryz.underlying28 h
  have h0 := hf 0 _ rfl
  have h1 := hf 1 _ rfl
  have h2 := hf 2 _ rfl
  have h3 := hf 3 _ rfl
  have hl : cs.length = 4 := hlen
  have hx2 : xs.length = 4 := hxl
  match cs, hl, xs, hx2 with
  | [a0, a1, a2, a3], _, [y0, y1, y2, y3], _ =>
    obtain ⟨m0, e0, _⟩ := DataW.trod_int (k := .i64) (by kernel_rfl) h0
    obtain ⟨m1, e1, _⟩ := DataW.trod_int (k := .i64) (by kernel_rfl) h1
    obtain ⟨m2, e2, _⟩ := DataW.trod_int (k := .i64) (by kernel_rfl) h2
    have e0' : [a0] = [Value.int .i64 m0] := e0
    have e1' : [a1] = [Value.int .i64 m1] := e1
    have e2' : [a2] = [Value.int .i64 m2] := e2
    have h3' : DataW.trod enc Tryz.prog w base spare held _ (Elem.t Int) [a3] = some y3 := h3
    obtain ⟨no, nc, N, rfl, hN⟩ := field_slice dec_Int (by kernel_rfl) h3'
    simp only [List.cons.injEq, and_true] at e0' e1' e2'
    subst e0' e1' e2'
    exact ⟨⟨m0, m1, m2, no, N.length, nc⟩, (m0, m1, m2, N), rfl, (⟨rfl, rfl, rfl, sa_non hN⟩ : RdA _ _ _ _)⟩
theorem some_AV : ∃ (a : AV) (d : Akt), ∀ w, Nest.rd Non w a d := ⟨⟨0, 0, 0, none, 0, 0⟩, (0, 0, 0, []), fun w => (⟨rfl, rfl, rfl, Sa.nil _ w⟩ : RdA _ _ _ _)⟩
set_option maxRecDepth 50000 in
theorem arg_acts {H : Type} {enc : TypeId × Value → H} {w : World} {r : Reach} {b0 base : Nat} {spare : Nat → Bool} {held : Bool} {v : Value} {d : DataW H} {p : List MemPlace}
    (hv : Value.okWide Tryz.prog w r b0 54 v) (h : DataW.Trod enc Tryz.prog w base spare held 54 v d p) : ∃ ao c, ∃ L : List Akt, v = .slice ao L.length c ∧ Ns AV Non w (.slice ao L.length c) L :=
  arg_sliceW (α := AV) some_AV dec_AV (by kernel_rfl) hv h
set_option maxRecDepth 50000 in
theorem arg_act4 {H : Type} {enc : TypeId × Value → H} {w : World} {r : Reach} {b0 base : Nat} {spare : Nat → Bool} {held : Bool} {v : Value} {d : DataW H} {p : List MemPlace}
    (hv : Value.okWide Tryz.prog w r b0 28 v) (h : DataW.Trod enc Tryz.prog w base spare held 28 v d p) : ∃ k e n ao c, ∃ L : List Int, v = .agg #[.int .i64 k, .int .i64 e, .int .i64 n, .slice ao L.length c] ∧ Sl w (.slice ao L.length c) L := by
  obtain ⟨cs, rfl, hsz⟩ := okWide_struct Tryz.underlying28 hv
  obtain ⟨fuel, hf⟩ := h
  have hcs : (Value.agg cs).cells.toList = cs.toList := by simp [Value.cells]
  rw [hcs] at hf
  obtain ⟨a, dd, hc, hr⟩ := dec_AV H enc w base spare held _ _ _ hf
  obtain ⟨a0, a1, a2, so, sn, sc⟩ := a
  obtain ⟨e1, e2, e3, e4⟩ : RdA Non w _ dd := hr
  obtain ⟨ao, c, hv2⟩ := e4.sl.len
  refine ⟨a0, a1, a2, ao, c, dd.2.2.2, ?_, hv2 ▸ e4.sl⟩
  have hc2 : cs.toList = [.int .i64 a0, .int .i64 a1, .int .i64 a2, .slice so sn sc] := hc
  have : cs = #[.int .i64 a0, .int .i64 a1, .int .i64 a2, .slice so sn sc] := by rw [← Array.toList_inj]; exact hc2
  rw [this, ← hv2]
set_option maxRecDepth 50000 in
theorem arg_bar {H : Type} {enc : TypeId × Value → H} {w : World} {r : Reach} {b0 base : Nat} {spare : Nat → Bool} {held : Bool} {v : Value} {d : DataW H} {p : List MemPlace}
    (hv : Value.okWide Tryz.prog w r b0 25 v) (h : DataW.Trod enc Tryz.prog w base spare held 25 v d p) : ∃ ao c, ∃ L : List Dk, ∃ mo mc, ∃ m : List Ml, v = .agg #[.slice ao L.length c, .slice mo m.length mc] ∧ Ns KV Non w (.slice ao L.length c) L ∧ Sl w (.slice mo m.length mc) m := by
  obtain ⟨cs, rfl, hsz⟩ := okWide_struct Tryz.underlying25 hv
  obtain ⟨fuel, hf⟩ := h
  have hcs : (Value.agg cs).cells.toList = cs.toList := by simp [Value.cells]
  rw [hcs] at hf
  obtain ⟨xs, n', _, _, hlen, hxl, hg⟩ := DataW.trod_struct (P := Tryz.prog) (t := 25) Tryz.underlying25 hf
  have h0 := hg 0 _ rfl
  have h1 := hg 1 _ rfl
  have hx2 : xs.length = 2 := hxl
  have hl : cs.toList.length = 2 := hlen
  obtain ⟨l, rfl⟩ : ∃ l, cs = l.toArray := ⟨cs.toList, by simp⟩
  match l, hl, xs, hx2 with
  | [a0, a1], _, [y0, y1], _ =>
    have h0' : DataW.trod enc Tryz.prog w base spare held _ (Elem.t KV) [a0] = some y0 := h0
    have h1' : DataW.trod enc Tryz.prog w base spare held _ (Elem.t Ml) [a1] = some y1 := h1
    obtain ⟨ao, c, L, rfl, hs⟩ := field_sliceW (α := KV) some_KV dec_KV (by kernel_rfl) h0'
    obtain ⟨mo, mc, m, rfl, ht⟩ := field_slice dec_Ml (by kernel_rfl) h1'
    exact ⟨ao, c, L, mo, mc, m, rfl, hs, ht⟩
end Go.Proofs.YtfbambemjokmgaaGreat
