/- Layer 17, the laws: an act. -/
import Derived.Test.YtgcnjkabpcbkgaaHS
namespace Go.Proofs.Ytgcnjkabpcbkgaa
open Go.RowKit

set_option maxRecDepth 100000 in
set_option maxHeartbeats 16000000 in
theorem act0_any (F : Nat → Prop) (w : World) (n k sid m : Int) (v nv : Value) (L : List Se) (N : List Int) (h : Ns HV F w v L) (hN : Sl w nv N) (hl : L.length ≤ 1000) (hlN : N.length ≤ 1000) (hF : ∀ b, F b → b < w.heap.size) (hk : k = 0) :
    Calls Try.prog 12 #[.agg #[.int .i64 n, v], .agg #[.int .i64 k, .int .i64 sid, .int .i64 m, nv]] w (GivesBkL F w (stepH (n, L) k sid m N)) := by
  subst hk
  obtain ⟨ao, c, rfl⟩ := h.len
  obtain ⟨no, nc, rfl⟩ := hN.len
  have hlenN := hN.length_le
  obtain ⟨W0, hW0⟩ : ∃ W0, W0 = ((w.alloc (.cells #[.int .i64 n, .slice ao L.length c] 24)).alloc (.cells #[.int .i64 0, .int .i64 sid, .int .i64 m, .slice no N.length nc] 27)).alloc (.cells #[.int .i64 0, .slice none 0 0] 24) := ⟨_, rfl⟩
  have X0 : Hid (Ext w W0) := Lib.hid (hW0 ▸ (((Ext.refl w).alloc _).alloc _).alloc _)
  have B0 : Hid (W0.heap[w.heap.size]? = some (.cells #[.int .i64 n, .slice ao L.length c] 24 (0, 0))) := Lib.hid (hW0 ▸ old1 (old1 (at0 w _) _) _)
  have A0 : Hid (W0.heap[w.heap.size + 1]? = some (.cells #[.int .i64 0, .int .i64 sid, .int .i64 m, .slice no N.length nc] 27 (0, 0))) := Lib.hid (hW0 ▸ old1 (at1 w _ _) _)
  have R0 : Hid (W0.heap[w.heap.size + 2]? = some (.cells #[.int .i64 0, .slice none 0 0] 24 (0, 0))) := Lib.hid (hW0 ▸ at2 w _ _ _)
  have HZ0 : Hid (W0.heap.size = w.heap.size + 3) := Lib.hid (by rw [hW0, size_alloc, size_alloc, size_alloc])
  have HW0 := Lib.hid hW0
  have HS := Lib.hid ((ns_orB h 3).ext X0.out)
  have HN := Lib.hid (hN.ext X0.out)
  have HFB : Hid (∀ V, Ext W0 V → ∀ b, OrB F w 3 b → b < V.heap.size) := Lib.hid fun V hV b hb => by
    have h1 := Below.size hV
    have h2 := HZ0.out
    rcases hb with hb | hb
    · have := hF b hb; omega
    · have := hb.2; omega
  have HK : Hid (∀ V, Ext W0 V → (V.cell? ⟨w.heap.size, 0, none⟩ = some (.int .i64 n) ∧ V.cell? ⟨w.heap.size, 1, none⟩ = some (.slice ao L.length c)) ∧ (V.cell? ⟨w.heap.size + 1, 0, none⟩ = some (.int .i64 0) ∧ V.cell? ⟨w.heap.size + 1, 1, none⟩ = some (.int .i64 sid)) ∧ V.cell? ⟨w.heap.size + 1, 2, none⟩ = some (.int .i64 m) ∧ V.cell? ⟨w.heap.size + 1, 3, none⟩ = some (.slice no N.length nc)) := Lib.hid fun V hV => ⟨⟨blk_cell (keepU B0.out hV) 0 rfl, blk_cell (keepU B0.out hV) 1 rfl⟩, ⟨blk_cell (keepU A0.out hV) 0 rfl, blk_cell (keepU A0.out hV) 1 rfl⟩, blk_cell (keepU A0.out hV) 2 rfl, blk_cell (keepU A0.out hV) 3 rfl⟩
  have RK : Hid (∀ V, Ext W0 V → V.heap[w.heap.size + 2]? = some (.cells #[.int .i64 0, .slice none 0 0] 24 (0, 0))) := Lib.hid fun V hV => keepU R0.out hV
  obtain ⟨⟨k0, k1⟩, ⟨k2, k3⟩, k4, k5⟩ := HK.out W0 (Ext.refl _)
  clear h hN hW0
  obtain ⟨⟨⟨q1, q2⟩, q3⟩, hq⟩ : ∃ r, openH (n, L) sid N = r := ⟨_, rfl⟩
  have HC : Hid (∀ V nv (P : Nat → Prop), Sl V nv N → Ns HV P V (.slice ao L.length c) L → (∀ b, P b → b < V.heap.size) → Calls Try.prog 26 #[.agg #[.int .i64 n, .slice ao L.length c], .int .i64 sid, nv] V (GivesBk P V ((q1, q2), q3))) := Lib.hid fun V nv P hn hs hp => hq ▸ sessOpen_any _ V n sid _ nv L N hs hn hl hlN hp
  have HR : Hid (stepH (n, L) 0 sid m N = ((q1, q2), [], q3)) := Lib.hid (by simp [stepH, hq])
  clear hq
  go_enter Try.func12, Try.ntmps12
  go_upto_region 1 with (fail)
  rw [← HW0.out]
  go_upto_region 3 with (fail)
  clear k0 k1 k2 k3 k4 k5
  go_cut [7, 8] (fun s7 s8 wx => ∃ gx, s7 = .pointer (some ⟨gx, 0, none⟩) ∧ s8 = .int .i64 q3 ∧ Hid (∃ a2 m2 c2, Ext W0 wx ∧ Ns HV (OrB F w 3) wx (.slice a2 m2 c2) q2 ∧ wx.heap[gx]? = some (.cells #[.int .i64 q1, .slice a2 m2 c2] 24 (0, 0))))
  case first =>
    (refine wp_region_X_lit (K := fun V => Ext W0 V) (by kernel_rfl) (fun w1 hw1 => ?_))
    have Y1 : Hid (Ext W0 w1) := Lib.hid hw1
    clear hw1
    refine xtv 0 (hv := by intro w' hw'; obtain ⟨⟨k0, k1⟩, _⟩ := HK.out w' hw'; go_simp; first | done | with_reducible rfl) (h := ?_)
    refine xtv 1 (h := ?_)
    refine xtv 2 (hv := by intro w' hw'; obtain ⟨_, ⟨k2, k3⟩, k4, k5⟩ := HK.out w' hw'; go_simp; first | done | with_reducible rfl) (h := ?_)
    refine xtv 4 (h := ?_)
    refine xtv 5 (hv := by intro w' hw'; obtain ⟨_, ⟨k2, k3⟩, k4, k5⟩ := HK.out w' hw'; go_simp; first | done | with_reducible rfl) (h := ?_)
    refine xtwo 3 11 (hk := Y1.out) (h := RunX.of 3 (h := ?_)) (h' := RunX.of 11 (h := ?_))
    · go_simp
      (try (simp only [Act.put, List.setIfInBounds_toArray, List.set]))
      obtain ⟨w2, hw2⟩ : ∃ q, q = w1.alloc (.cells #[] 3) := ⟨_, rfl⟩
      obtain ⟨gi, hgi⟩ : ∃ g, g = w1.heap.size := ⟨_, rfl⟩
      have I2 : Hid (Ow w2 (w.heap.size + 3) (.slice (some ⟨gi, 0, none⟩) 0 0) ([] : List Int)) := Lib.hid (hw2 ▸ hgi ▸ Ow.litAt w1 _ _ rfl (by have := Below.size Y1.out; have := HZ0.out; omega) [] (by simp))
      have Y2 : Hid (Ext W0 w2) := Lib.hid (hw2 ▸ Y1.out.alloc _)
      have Z2 : Hid (Ext w1 w2) := Lib.hid (hw2 ▸ (Ext.refl _).alloc _)
      skip
      rw [← hw2, ← hgi]
      clear hw2 hgi
      refine xtwo 6 11 (hk := Y2.out) (h := RunX.of 6 (h := ?_)) (h' := RunX.of 11 (h := ?_))
      · (refine wp_append_sl (α := Int) (.tmp 27) (.tmp 29) rfl (w.heap.size + 3) _ [] rfl ?_ _ N rfl ?_ ?_ ?_ ?_; exact I2.out; exact (HN.out.ext Y2.out); (first | omega | (simp; omega)); exact (by have := Below.size Y2.out; have := HZ0.out; omega); intro v3 w3 ho3 ha3; obtain ⟨ia, im, ic, rfl⟩ := ho3.sh; have I3 : Hid (Ow w3 (w.heap.size + 3) (.slice ia im ic) N) := Lib.hid ho3; have Y3 : Hid (Ext W0 w3) := Lib.hid (Below.trans Y2.out (ha3.below.mono (by have := HZ0.out; omega))); clear ho3 ha3)
        (try (simp only [Act.put, List.setIfInBounds_toArray, List.set]))
        refine xtwo 7 11 (hk := Y3.out) (h := RunX.of 7 (h := ?_)) (h' := RunX.of 11 (h := ?_))
        · go_simp
          refine (HC.out w3 _ _ I3.out.sl (HS.out.ext Y3.out) (HFB.out _ Y3.out)).mono ?_
          rintro e4 w4 ⟨a2, m2, c2, rfl, n4, x4⟩
          dsimp only at n4 ⊢
          have N4 := Lib.hid n4
          have Y4 : Hid (Ext W0 w4) := Lib.hid (Y3.out.trans x4)
          have Z4 : Hid (Ext w3 w4) := Lib.hid x4
          clear n4 x4
          (try (simp only [Act.put, List.setIfInBounds_toArray, List.set]))
          refine xtv 8 (h := ?_)
          refine xtv 9 (h := ?_)
          refine xtv 10 (h := ?_)
          refine xone 11 (hk := Y4.out) (h := RunX.of 11 (h := ?_))
          go_simp
          (try (simp only [Act.put, List.setIfInBounds_toArray, List.set]))
          obtain ⟨w5, hw5⟩ : ∃ q, q = w4.alloc (.cells #[.int .i64 0, .slice none 0 0] 24) := ⟨_, rfl⟩
          obtain ⟨gx, hgx⟩ : ∃ g, g = w4.heap.size := ⟨_, rfl⟩
          have D5 : Hid (w5.heap[gx]? = some (.cells #[.int .i64 0, .slice none 0 0] 24 (0, 0))) := Lib.hid (hw5 ▸ hgx ▸ at0 w4 _)
          have hgw : w.heap.size + 3 ≤ gx := by have := Below.size Y4.out; have := HZ0.out; omega
          have Y5 : Hid (Ext W0 w5) := Lib.hid (hw5 ▸ Y4.out.alloc _)
          have Z5 : Hid (Ext w4 w5) := Lib.hid (hw5 ▸ (Ext.refl _).alloc _)
          skip
          have NG5 : Hid (Ns HV (fun b => OrB F w 3 b ∨ b = gx) w5 (.slice a2 m2 c2) q2) := Lib.hid ((N4.out.grow (fun b hb => hb.imp (fun q => q) (fun e => by omega))).ext Z5.out)
          rw [← hw5, ← hgx]
          clear hw5 hgx
          refine xone 12 (hk := Y5.out) (h := RunX.of 12 (h := ?_))
          refine wp_st 24 (.tmp 7) (.tmp 32) rfl gx 0 24 #[.int .i64 0, .slice none 0 0] #[.int .i64 q1, .slice a2 m2 c2] _ rfl rfl D5.out (by kernel_rfl) (by simp) rfl rfl ?_
          intro WB hWB oB
          simp only [Act.put]
          have YB : Hid (Ext W0 WB) := Lib.hid (ext_off Y5.out oB (fun b hb => by have := HZ0.out; omega))
          have SB : Hid (∃ a2 m2 c2, Ext W0 WB ∧ Ns HV (OrB F w 3) WB (.slice a2 m2 c2) q2 ∧ WB.heap[gx]? = some (.cells #[.int .i64 q1, .slice a2 m2 c2] 24 (0, 0))) := Lib.hid ⟨a2, m2, c2, YB.out, ns_less (NG5.out.off (oB.mono (fun b hb => .inr hb)) (Grows.refl _ _)) (fun b hb => .inl hb), hWB⟩
          clear hWB oB
          refine xtv 13 (h := ?_)
          (refine xdone (by kernel_rfl) (YB.out) ?_)
          go_wp2_with fail
          go_meet
          exact ⟨gx, rfl, rfl, SB⟩
        · go_simp
          (try (simp only [Act.put, List.setIfInBounds_toArray, List.set]))
          obtain ⟨w6, hw6⟩ : ∃ q, q = w3.alloc (.cells #[.int .i64 0, .slice none 0 0] 24) := ⟨_, rfl⟩
          obtain ⟨gx, hgx⟩ : ∃ g, g = w3.heap.size := ⟨_, rfl⟩
          have D6 : Hid (w6.heap[gx]? = some (.cells #[.int .i64 0, .slice none 0 0] 24 (0, 0))) := Lib.hid (hw6 ▸ hgx ▸ at0 w3 _)
          have hgw : w.heap.size + 3 ≤ gx := by have := Below.size Y3.out; have := HZ0.out; omega
          have Y6 : Hid (Ext W0 w6) := Lib.hid (hw6 ▸ Y3.out.alloc _)
          have Z6 : Hid (Ext w3 w6) := Lib.hid (hw6 ▸ (Ext.refl _).alloc _)
          skip
          skip
          rw [← hw6, ← hgx]
          clear hw6 hgx
          refine xone 7 (hk := Y6.out) (h := RunX.of 7 (h := ?_))
          go_simp
          refine (HC.out w6 _ (fun b => OrB F w 3 b ∨ b = gx) (I3.out.ext Z6.out).sl ((HS.out.grow (G := (fun b => OrB F w 3 b ∨ b = gx)) (fun b hb => hb.imp (fun q => q) (fun e => by have := HZ0.out; omega))).ext Y6.out) (fun b hb => by rcases hb with hb | hb; (exact HFB.out _ Y6.out b hb); (have := blk_lt D6.out; omega))).mono ?_
          rintro e7 w7 ⟨a2, m2, c2, rfl, n7, x7⟩
          dsimp only at n7 ⊢
          have N7 := Lib.hid n7
          have Y7 : Hid (Ext W0 w7) := Lib.hid (Y6.out.trans x7)
          have Z7 : Hid (Ext w6 w7) := Lib.hid x7
          clear n7 x7
          (try (simp only [Act.put, List.setIfInBounds_toArray, List.set]))
          refine xtv 8 (h := ?_)
          refine xtv 9 (h := ?_)
          refine xtv 10 (h := ?_)
          refine xone 12 (hk := Y7.out) (h := RunX.of 12 (h := ?_))
          refine wp_st 24 (.tmp 7) (.tmp 32) rfl gx 0 24 #[.int .i64 0, .slice none 0 0] #[.int .i64 q1, .slice a2 m2 c2] _ rfl rfl (keepU D6.out Z7.out) (by kernel_rfl) (by simp) rfl rfl ?_
          intro WB hWB oB
          simp only [Act.put]
          have YB : Hid (Ext W0 WB) := Lib.hid (ext_off Y7.out oB (fun b hb => by have := HZ0.out; omega))
          have SB : Hid (∃ a2 m2 c2, Ext W0 WB ∧ Ns HV (OrB F w 3) WB (.slice a2 m2 c2) q2 ∧ WB.heap[gx]? = some (.cells #[.int .i64 q1, .slice a2 m2 c2] 24 (0, 0))) := Lib.hid ⟨a2, m2, c2, YB.out, ns_less (N7.out.off (oB.mono (fun b hb => .inr hb)) (Grows.refl _ _)) (fun b hb => .inl hb), hWB⟩
          clear hWB oB
          refine xtv 13 (h := ?_)
          (refine xdone (by kernel_rfl) (YB.out) ?_)
          go_wp2_with fail
          go_meet
          exact ⟨gx, rfl, rfl, SB⟩
      · go_simp
        (try (simp only [Act.put, List.setIfInBounds_toArray, List.set]))
        obtain ⟨w8, hw8⟩ : ∃ q, q = w2.alloc (.cells #[.int .i64 0, .slice none 0 0] 24) := ⟨_, rfl⟩
        obtain ⟨gx, hgx⟩ : ∃ g, g = w2.heap.size := ⟨_, rfl⟩
        have D8 : Hid (w8.heap[gx]? = some (.cells #[.int .i64 0, .slice none 0 0] 24 (0, 0))) := Lib.hid (hw8 ▸ hgx ▸ at0 w2 _)
        have hgw : w.heap.size + 3 ≤ gx := by have := Below.size Y2.out; have := HZ0.out; omega
        have Y8 : Hid (Ext W0 w8) := Lib.hid (hw8 ▸ Y2.out.alloc _)
        have Z8 : Hid (Ext w2 w8) := Lib.hid (hw8 ▸ (Ext.refl _).alloc _)
        have HNE : Hid (gi ≠ gx) := Lib.hid (by have := (I2.out.low gi rfl).2; omega)
        skip
        rw [← hw8, ← hgx]
        clear hw8 hgx
        refine xone 6 (hk := Y8.out) (h := RunX.of 6 (h := ?_))
        (refine wp_append_sl (α := Int) (.tmp 27) (.tmp 29) rfl (w.heap.size + 3) _ [] rfl ?_ _ N rfl ?_ ?_ ?_ ?_; exact (I2.out.ext Z8.out); exact (HN.out.ext Y8.out); (first | omega | (simp; omega)); exact (by have := Below.size Y8.out; have := HZ0.out; omega); intro v9 w9 ho9 ha9; obtain ⟨ia, im, ic, rfl⟩ := ho9.sh; have I9 : Hid (Ow w9 (w.heap.size + 3) (.slice ia im ic) N) := Lib.hid ho9; have Y9 : Hid (Ext W0 w9) := Lib.hid (Below.trans Y8.out (ha9.below.mono (by have := HZ0.out; omega))); have D9 : Hid (w9.heap[gx]? = some (.cells #[.int .i64 0, .slice none 0 0] 24 (0, 0))) := Lib.hid ((off_grown ha9.grown).blk D8.out (fun e => HNE.out (by have e' : (Value.slice (some ⟨gi, 0, none⟩) 0 0).ownBlock = some gx := e; simpa [Value.ownBlock] using e'))); clear ho9 ha9)
        (try (simp only [Act.put, List.setIfInBounds_toArray, List.set]))
        refine xone 7 (hk := Y9.out) (h := RunX.of 7 (h := ?_))
        go_simp
        refine (HC.out w9 _ (fun b => OrB F w 3 b ∨ b = gx) I9.out.sl ((HS.out.grow (G := (fun b => OrB F w 3 b ∨ b = gx)) (fun b hb => hb.imp (fun q => q) (fun e => by have := HZ0.out; omega))).ext Y9.out) (fun b hb => by rcases hb with hb | hb; (exact HFB.out _ Y9.out b hb); (have := blk_lt D9.out; omega))).mono ?_
        rintro e10 w10 ⟨a2, m2, c2, rfl, n10, x10⟩
        dsimp only at n10 ⊢
        have N10 := Lib.hid n10
        have Y10 : Hid (Ext W0 w10) := Lib.hid (Y9.out.trans x10)
        have Z10 : Hid (Ext w9 w10) := Lib.hid x10
        clear n10 x10
        (try (simp only [Act.put, List.setIfInBounds_toArray, List.set]))
        refine xtv 8 (h := ?_)
        refine xtv 9 (h := ?_)
        refine xtv 10 (h := ?_)
        refine xone 12 (hk := Y10.out) (h := RunX.of 12 (h := ?_))
        refine wp_st 24 (.tmp 7) (.tmp 32) rfl gx 0 24 #[.int .i64 0, .slice none 0 0] #[.int .i64 q1, .slice a2 m2 c2] _ rfl rfl (keepU D9.out Z10.out) (by kernel_rfl) (by simp) rfl rfl ?_
        intro WB hWB oB
        simp only [Act.put]
        have YB : Hid (Ext W0 WB) := Lib.hid (ext_off Y10.out oB (fun b hb => by have := HZ0.out; omega))
        have SB : Hid (∃ a2 m2 c2, Ext W0 WB ∧ Ns HV (OrB F w 3) WB (.slice a2 m2 c2) q2 ∧ WB.heap[gx]? = some (.cells #[.int .i64 q1, .slice a2 m2 c2] 24 (0, 0))) := Lib.hid ⟨a2, m2, c2, YB.out, ns_less (N10.out.off (oB.mono (fun b hb => .inr hb)) (Grows.refl _ _)) (fun b hb => .inl hb), hWB⟩
        clear hWB oB
        refine xtv 13 (h := ?_)
        (refine xdone (by kernel_rfl) (YB.out) ?_)
        go_wp2_with fail
        go_meet
        exact ⟨gx, rfl, rfl, SB⟩
    · go_simp
      (try (simp only [Act.put, List.setIfInBounds_toArray, List.set]))
      obtain ⟨w11, hw11⟩ : ∃ q, q = w1.alloc (.cells #[.int .i64 0, .slice none 0 0] 24) := ⟨_, rfl⟩
      obtain ⟨gx, hgx⟩ : ∃ g, g = w1.heap.size := ⟨_, rfl⟩
      have D11 : Hid (w11.heap[gx]? = some (.cells #[.int .i64 0, .slice none 0 0] 24 (0, 0))) := Lib.hid (hw11 ▸ hgx ▸ at0 w1 _)
      have hgw : w.heap.size + 3 ≤ gx := by have := Below.size Y1.out; have := HZ0.out; omega
      have Y11 : Hid (Ext W0 w11) := Lib.hid (hw11 ▸ Y1.out.alloc _)
      have Z11 : Hid (Ext w1 w11) := Lib.hid (hw11 ▸ (Ext.refl _).alloc _)
      skip
      skip
      rw [← hw11, ← hgx]
      clear hw11 hgx
      refine xone 3 (hk := Y11.out) (h := RunX.of 3 (h := ?_))
      go_simp
      (try (simp only [Act.put, List.setIfInBounds_toArray, List.set]))
      obtain ⟨w12, hw12⟩ : ∃ q, q = w11.alloc (.cells #[] 3) := ⟨_, rfl⟩
      obtain ⟨gi, hgi⟩ : ∃ g, g = w11.heap.size := ⟨_, rfl⟩
      have I12 : Hid (Ow w12 (w.heap.size + 3) (.slice (some ⟨gi, 0, none⟩) 0 0) ([] : List Int)) := Lib.hid (hw12 ▸ hgi ▸ Ow.litAt w11 _ _ rfl (by have := Below.size Y11.out; have := HZ0.out; omega) [] (by simp))
      have Y12 : Hid (Ext W0 w12) := Lib.hid (hw12 ▸ Y11.out.alloc _)
      have Z12 : Hid (Ext w11 w12) := Lib.hid (hw12 ▸ (Ext.refl _).alloc _)
      have HNE : Hid (gi ≠ gx) := Lib.hid (by have := blk_lt D11.out; omega)
      rw [← hw12, ← hgi]
      clear hw12 hgi
      refine xone 6 (hk := Y12.out) (h := RunX.of 6 (h := ?_))
      (refine wp_append_sl (α := Int) (.tmp 27) (.tmp 29) rfl (w.heap.size + 3) _ [] rfl ?_ _ N rfl ?_ ?_ ?_ ?_; exact I12.out; exact (HN.out.ext Y12.out); (first | omega | (simp; omega)); exact (by have := Below.size Y12.out; have := HZ0.out; omega); intro v13 w13 ho13 ha13; obtain ⟨ia, im, ic, rfl⟩ := ho13.sh; have I13 : Hid (Ow w13 (w.heap.size + 3) (.slice ia im ic) N) := Lib.hid ho13; have Y13 : Hid (Ext W0 w13) := Lib.hid (Below.trans Y12.out (ha13.below.mono (by have := HZ0.out; omega))); have D13 : Hid (w13.heap[gx]? = some (.cells #[.int .i64 0, .slice none 0 0] 24 (0, 0))) := Lib.hid ((off_grown ha13.grown).blk (keepU D11.out Z12.out) (fun e => HNE.out (by have e' : (Value.slice (some ⟨gi, 0, none⟩) 0 0).ownBlock = some gx := e; simpa [Value.ownBlock] using e'))); clear ho13 ha13)
      (try (simp only [Act.put, List.setIfInBounds_toArray, List.set]))
      refine xone 7 (hk := Y13.out) (h := RunX.of 7 (h := ?_))
      go_simp
      refine (HC.out w13 _ (fun b => OrB F w 3 b ∨ b = gx) I13.out.sl ((HS.out.grow (G := (fun b => OrB F w 3 b ∨ b = gx)) (fun b hb => hb.imp (fun q => q) (fun e => by have := HZ0.out; omega))).ext Y13.out) (fun b hb => by rcases hb with hb | hb; (exact HFB.out _ Y13.out b hb); (have := blk_lt D13.out; omega))).mono ?_
      rintro e14 w14 ⟨a2, m2, c2, rfl, n14, x14⟩
      dsimp only at n14 ⊢
      have N14 := Lib.hid n14
      have Y14 : Hid (Ext W0 w14) := Lib.hid (Y13.out.trans x14)
      have Z14 : Hid (Ext w13 w14) := Lib.hid x14
      clear n14 x14
      (try (simp only [Act.put, List.setIfInBounds_toArray, List.set]))
      refine xtv 8 (h := ?_)
      refine xtv 9 (h := ?_)
      refine xtv 10 (h := ?_)
      refine xone 12 (hk := Y14.out) (h := RunX.of 12 (h := ?_))
      refine wp_st 24 (.tmp 7) (.tmp 32) rfl gx 0 24 #[.int .i64 0, .slice none 0 0] #[.int .i64 q1, .slice a2 m2 c2] _ rfl rfl (keepU D13.out Z14.out) (by kernel_rfl) (by simp) rfl rfl ?_
      intro WB hWB oB
      simp only [Act.put]
      have YB : Hid (Ext W0 WB) := Lib.hid (ext_off Y14.out oB (fun b hb => by have := HZ0.out; omega))
      have SB : Hid (∃ a2 m2 c2, Ext W0 WB ∧ Ns HV (OrB F w 3) WB (.slice a2 m2 c2) q2 ∧ WB.heap[gx]? = some (.cells #[.int .i64 q1, .slice a2 m2 c2] 24 (0, 0))) := Lib.hid ⟨a2, m2, c2, YB.out, ns_less (N14.out.off (oB.mono (fun b hb => .inr hb)) (Grows.refl _ _)) (fun b hb => .inl hb), hWB⟩
      clear hWB oB
      refine xtv 13 (h := ?_)
      (refine xdone (by kernel_rfl) (YB.out) ?_)
      go_wp2_with fail
      go_meet
      exact ⟨gx, rfl, rfl, SB⟩
  case rest =>
    obtain ⟨gx, rfl, rfl, HCUT⟩ := hcut
    obtain ⟨a2, m2, c2, x2, n2, d2⟩ := HCUT.out
    have N2 := Lib.hid n2
    have X2 := Lib.hid x2
    have d0 := blk_cell d2 0 rfl
    have d1 := blk_cell d2 1 rfl
    clear n2 x2 d2 HCUT
    go_wp2_with (first | refine haltst 24 ?_)
    refine .inl ?_
    refine st_l 24 (.tmp 4) (.tmp 34) (w.heap.size + 2) 0 24 _ #[.int .i64 q1, .slice a2 m2 c2] _ rfl rfl (RK.out _ X2.out) (by kernel_rfl) (by simp) rfl rfl ?_
    intro W9 hW9 o9
    simp only [Act.put]
    go_wp2
    exact bodyPost_ret (v := .tuple #[.agg #[.int .i64 q1, .slice a2 m2 c2], .slice none 0 0, .int .i64 q3]) (res_ctt 5 6 rfl rfl hW9 uBook (by kernel_rfl)) rfl (by rw [HR.out]; exact ⟨_, _, _, _, _, _, rfl, ns_orB' ((N2.out.ext (Ext.refl _)).off (o9.mono fun b hb => .inr ⟨by omega, by omega⟩) (Grows.refl _ _)), sa_orB' ((Sa.nil (OrB F w 3) wc).off (o9.mono fun b hb => .inr ⟨by omega, by omega⟩) (Grows.refl _ _)), ext_off (X0.out.trans X2.out) o9 (fun b hb => by omega)⟩)

set_option maxRecDepth 100000 in
set_option maxHeartbeats 16000000 in
theorem act1_any (F : Nat → Prop) (w : World) (n k sid m : Int) (v nv : Value) (L : List Se) (N : List Int) (h : Ns HV F w v L) (hN : Sl w nv N) (hl : L.length ≤ 1000) (hF : ∀ b, F b → b < w.heap.size) (hk : k = 1) :
    Calls Try.prog 12 #[.agg #[.int .i64 n, v], .agg #[.int .i64 k, .int .i64 sid, .int .i64 m, nv]] w (GivesBkL F w (stepH (n, L) k sid m N)) := by
  subst hk
  obtain ⟨ao, c, rfl⟩ := h.len
  obtain ⟨no, nc, rfl⟩ := hN.len
  have hlenN := hN.length_le
  obtain ⟨W0, hW0⟩ : ∃ W0, W0 = ((w.alloc (.cells #[.int .i64 n, .slice ao L.length c] 24)).alloc (.cells #[.int .i64 1, .int .i64 sid, .int .i64 m, .slice no N.length nc] 27)).alloc (.cells #[.int .i64 0, .slice none 0 0] 24) := ⟨_, rfl⟩
  have X0 : Hid (Ext w W0) := Lib.hid (hW0 ▸ (((Ext.refl w).alloc _).alloc _).alloc _)
  have B0 : Hid (W0.heap[w.heap.size]? = some (.cells #[.int .i64 n, .slice ao L.length c] 24 (0, 0))) := Lib.hid (hW0 ▸ old1 (old1 (at0 w _) _) _)
  have A0 : Hid (W0.heap[w.heap.size + 1]? = some (.cells #[.int .i64 1, .int .i64 sid, .int .i64 m, .slice no N.length nc] 27 (0, 0))) := Lib.hid (hW0 ▸ old1 (at1 w _ _) _)
  have R0 : Hid (W0.heap[w.heap.size + 2]? = some (.cells #[.int .i64 0, .slice none 0 0] 24 (0, 0))) := Lib.hid (hW0 ▸ at2 w _ _ _)
  have HZ0 : Hid (W0.heap.size = w.heap.size + 3) := Lib.hid (by rw [hW0, size_alloc, size_alloc, size_alloc])
  have HW0 := Lib.hid hW0
  have HS := Lib.hid ((ns_orB h 3).ext X0.out)
  have HN := Lib.hid (hN.ext X0.out)
  have HFB : Hid (∀ V, Ext W0 V → ∀ b, OrB F w 3 b → b < V.heap.size) := Lib.hid fun V hV b hb => by
    have h1 := Below.size hV
    have h2 := HZ0.out
    rcases hb with hb | hb
    · have := hF b hb; omega
    · have := hb.2; omega
  have HK : Hid (∀ V, Ext W0 V → (V.cell? ⟨w.heap.size, 0, none⟩ = some (.int .i64 n) ∧ V.cell? ⟨w.heap.size, 1, none⟩ = some (.slice ao L.length c)) ∧ (V.cell? ⟨w.heap.size + 1, 0, none⟩ = some (.int .i64 1) ∧ V.cell? ⟨w.heap.size + 1, 1, none⟩ = some (.int .i64 sid)) ∧ V.cell? ⟨w.heap.size + 1, 2, none⟩ = some (.int .i64 m) ∧ V.cell? ⟨w.heap.size + 1, 3, none⟩ = some (.slice no N.length nc)) := Lib.hid fun V hV => ⟨⟨blk_cell (keepU B0.out hV) 0 rfl, blk_cell (keepU B0.out hV) 1 rfl⟩, ⟨blk_cell (keepU A0.out hV) 0 rfl, blk_cell (keepU A0.out hV) 1 rfl⟩, blk_cell (keepU A0.out hV) 2 rfl, blk_cell (keepU A0.out hV) 3 rfl⟩
  have RK : Hid (∀ V, Ext W0 V → V.heap[w.heap.size + 2]? = some (.cells #[.int .i64 0, .slice none 0 0] 24 (0, 0))) := Lib.hid fun V hV => keepU R0.out hV
  obtain ⟨⟨k0, k1⟩, ⟨k2, k3⟩, k4, k5⟩ := HK.out W0 (Ext.refl _)
  clear h hN hW0
  obtain ⟨⟨⟨q1, q2⟩, q4, q3⟩, hq⟩ : ∃ r, grantH (n, L) = r := ⟨_, rfl⟩
  have HC : Hid (Calls Try.prog 23 #[.agg #[.int .i64 n, .slice ao L.length c]] W0 (GivesBkN (OrB F w 3) W0 ((q1, q2), q4, q3))) := Lib.hid (hq ▸ sessGrant_any _ W0 n _ L HS.out hl (HFB.out _ (Ext.refl _)))
  have HR : Hid (stepH (n, L) 1 sid m N = ((q1, q2), [q4], q3)) := Lib.hid (by simp [stepH, hq])
  clear hq
  go_enter Try.func12, Try.ntmps12
  go_upto_region 1 with (fail)
  rw [← HW0.out]
  go_wp2_with (first
    | (go_at_call 23; refine (HC.out).mono ?_; rintro e w2 ⟨a2, m2, c2, rfl, n2, x2⟩; dsimp only at n2 ⊢; have N2 := Lib.hid n2; have X2 : Hid (Ext W0 w2) := Lib.hid x2; clear n2 x2)
    | refine haltst 24 ?_)
  refine .inl ?_
  have hg2 := at0 w2 (.cells #[.int .i64 0, .slice none 0 0] 24)
  refine st_l 24 (.tmp 9) (.tmp 41) w2.heap.size 0 24 _ #[.int .i64 q1, .slice a2 m2 c2] _ rfl rfl hg2 (by kernel_rfl) (by simp) rfl rfl ?_
  intro W3 hW3 o3
  simp only [Act.put]
  have D3 := Lib.hid hW3
  have Y3 : Hid (Ext w2 W3) := Lib.hid (ext_off ((Ext.refl w2).alloc _) o3 (fun b hb => by omega))
  have X3 : Hid (Ext W0 W3) := Lib.hid (X2.out.trans Y3.out)
  clear hW3 o3 hg2 k0 k1 k2 k3 k4 k5
  have d0 := blk_cell D3.out 0 rfl
  have d1 := blk_cell D3.out 1 rfl
  go_wp2_with (first | refine haltst 24 ?_)
  obtain ⟨W4, hW4⟩ : ∃ q, q = W3.alloc (.cells #[.int .i64 q4] 3) := ⟨_, rfl⟩
  have Y4 : Hid (Ext W3 W4) := Lib.hid (hW4 ▸ (Ext.refl W3).alloc _)
  have S4 : Hid (Sa (OrB F w 3) W4 (.slice (some ⟨W3.heap.size, 0, none⟩) 1 1) [q4]) := Lib.hid (hW4 ▸ Sa.new (Ow.litAt W3 W3.heap.size _ rfl (Nat.le_refl _) [q4] (by simp)) (HFB.out W3 X3.out))
  rw [← hW4]
  clear hW4
  refine .inl ?_
  refine st_l 24 (.tmp 4) (.tmp 44) (w.heap.size + 2) 0 24 _ #[.int .i64 q1, .slice a2 m2 c2] _ rfl rfl (RK.out _ (X3.out.trans Y4.out)) (by kernel_rfl) (by simp) rfl rfl ?_
  intro W9 hW9 o9
  simp only [Act.put]
  go_wp2
  exact bodyPost_ret (v := .tuple #[.agg #[.int .i64 q1, .slice a2 m2 c2], .slice (some ⟨W3.heap.size, 0, none⟩) 1 1, .int .i64 q3]) (res_ctt 5 6 rfl rfl hW9 uBook (by kernel_rfl)) rfl (by rw [HR.out]; exact ⟨_, _, _, _, _, _, rfl, ns_orB' ((N2.out.ext (Y3.out.trans Y4.out)).off (o9.mono fun b hb => .inr ⟨by omega, by omega⟩) (Grows.refl _ _)), sa_orB' (S4.out.off (o9.mono fun b hb => .inr ⟨by omega, by omega⟩) (Grows.refl _ _)), ext_off (X0.out.trans (X3.out.trans Y4.out)) o9 (fun b hb => by omega)⟩)

set_option maxRecDepth 100000 in
set_option maxHeartbeats 16000000 in
theorem act2_any (F : Nat → Prop) (w : World) (n k sid m : Int) (v nv : Value) (L : List Se) (N : List Int) (h : Ns HV F w v L) (hN : Sl w nv N) (hl : L.length ≤ 1000) (hF : ∀ b, F b → b < w.heap.size) (hk : k = 2) :
    Calls Try.prog 12 #[.agg #[.int .i64 n, v], .agg #[.int .i64 k, .int .i64 sid, .int .i64 m, nv]] w (GivesBkL F w (stepH (n, L) k sid m N)) := by
  subst hk
  obtain ⟨ao, c, rfl⟩ := h.len
  obtain ⟨no, nc, rfl⟩ := hN.len
  have hlenN := hN.length_le
  obtain ⟨W0, hW0⟩ : ∃ W0, W0 = ((w.alloc (.cells #[.int .i64 n, .slice ao L.length c] 24)).alloc (.cells #[.int .i64 2, .int .i64 sid, .int .i64 m, .slice no N.length nc] 27)).alloc (.cells #[.int .i64 0, .slice none 0 0] 24) := ⟨_, rfl⟩
  have X0 : Hid (Ext w W0) := Lib.hid (hW0 ▸ (((Ext.refl w).alloc _).alloc _).alloc _)
  have B0 : Hid (W0.heap[w.heap.size]? = some (.cells #[.int .i64 n, .slice ao L.length c] 24 (0, 0))) := Lib.hid (hW0 ▸ old1 (old1 (at0 w _) _) _)
  have A0 : Hid (W0.heap[w.heap.size + 1]? = some (.cells #[.int .i64 2, .int .i64 sid, .int .i64 m, .slice no N.length nc] 27 (0, 0))) := Lib.hid (hW0 ▸ old1 (at1 w _ _) _)
  have R0 : Hid (W0.heap[w.heap.size + 2]? = some (.cells #[.int .i64 0, .slice none 0 0] 24 (0, 0))) := Lib.hid (hW0 ▸ at2 w _ _ _)
  have HZ0 : Hid (W0.heap.size = w.heap.size + 3) := Lib.hid (by rw [hW0, size_alloc, size_alloc, size_alloc])
  have HW0 := Lib.hid hW0
  have HS := Lib.hid ((ns_orB h 3).ext X0.out)
  have HN := Lib.hid (hN.ext X0.out)
  have HFB : Hid (∀ V, Ext W0 V → ∀ b, OrB F w 3 b → b < V.heap.size) := Lib.hid fun V hV b hb => by
    have h1 := Below.size hV
    have h2 := HZ0.out
    rcases hb with hb | hb
    · have := hF b hb; omega
    · have := hb.2; omega
  have HK : Hid (∀ V, Ext W0 V → (V.cell? ⟨w.heap.size, 0, none⟩ = some (.int .i64 n) ∧ V.cell? ⟨w.heap.size, 1, none⟩ = some (.slice ao L.length c)) ∧ (V.cell? ⟨w.heap.size + 1, 0, none⟩ = some (.int .i64 2) ∧ V.cell? ⟨w.heap.size + 1, 1, none⟩ = some (.int .i64 sid)) ∧ V.cell? ⟨w.heap.size + 1, 2, none⟩ = some (.int .i64 m) ∧ V.cell? ⟨w.heap.size + 1, 3, none⟩ = some (.slice no N.length nc)) := Lib.hid fun V hV => ⟨⟨blk_cell (keepU B0.out hV) 0 rfl, blk_cell (keepU B0.out hV) 1 rfl⟩, ⟨blk_cell (keepU A0.out hV) 0 rfl, blk_cell (keepU A0.out hV) 1 rfl⟩, blk_cell (keepU A0.out hV) 2 rfl, blk_cell (keepU A0.out hV) 3 rfl⟩
  have RK : Hid (∀ V, Ext W0 V → V.heap[w.heap.size + 2]? = some (.cells #[.int .i64 0, .slice none 0 0] 24 (0, 0))) := Lib.hid fun V hV => keepU R0.out hV
  obtain ⟨⟨k0, k1⟩, ⟨k2, k3⟩, k4, k5⟩ := HK.out W0 (Ext.refl _)
  clear h hN hW0
  obtain ⟨⟨⟨q1, q2⟩, q3⟩, hq⟩ : ∃ r, endH (n, L) sid 1 = r := ⟨_, rfl⟩
  have HC : Hid (Calls Try.prog 27 #[.agg #[.int .i64 n, .slice ao L.length c], .int .i64 sid] W0 (GivesBk (OrB F w 3) W0 ((q1, q2), q3))) := Lib.hid (hq ▸ sessRelease_any _ W0 n sid _ L HS.out hl (HFB.out _ (Ext.refl _)))
  have HR : Hid (stepH (n, L) 2 sid m N = ((q1, q2), [], q3)) := Lib.hid (by simp [stepH, hq])
  clear hq
  go_enter Try.func12, Try.ntmps12
  go_upto_region 1 with (fail)
  rw [← HW0.out]
  go_wp2_with (first
    | (go_at_call 27; refine (HC.out).mono ?_; rintro e w2 ⟨a2, m2, c2, rfl, n2, x2⟩; dsimp only at n2 ⊢; have N2 := Lib.hid n2; have X2 : Hid (Ext W0 w2) := Lib.hid x2; clear n2 x2)
    | refine haltst 24 ?_)
  refine .inl ?_
  have hg2 := at0 w2 (.cells #[.int .i64 0, .slice none 0 0] 24)
  refine st_l 24 (.tmp 12) (.tmp 55) w2.heap.size 0 24 _ #[.int .i64 q1, .slice a2 m2 c2] _ rfl rfl hg2 (by kernel_rfl) (by simp) rfl rfl ?_
  intro W3 hW3 o3
  simp only [Act.put]
  have D3 := Lib.hid hW3
  have Y3 : Hid (Ext w2 W3) := Lib.hid (ext_off ((Ext.refl w2).alloc _) o3 (fun b hb => by omega))
  have X3 : Hid (Ext W0 W3) := Lib.hid (X2.out.trans Y3.out)
  clear hW3 o3 hg2 k0 k1 k2 k3 k4 k5
  have d0 := blk_cell D3.out 0 rfl
  have d1 := blk_cell D3.out 1 rfl
  go_wp2_with (first | refine haltst 24 ?_)
  refine .inl ?_
  refine st_l 24 (.tmp 4) (.tmp 57) (w.heap.size + 2) 0 24 _ #[.int .i64 q1, .slice a2 m2 c2] _ rfl rfl (RK.out _ X3.out) (by kernel_rfl) (by simp) rfl rfl ?_
  intro W9 hW9 o9
  simp only [Act.put]
  go_wp2
  exact bodyPost_ret (v := .tuple #[.agg #[.int .i64 q1, .slice a2 m2 c2], .slice none 0 0, .int .i64 q3]) (res_ctt 5 6 rfl rfl hW9 uBook (by kernel_rfl)) rfl (by rw [HR.out]; exact ⟨_, _, _, _, _, _, rfl, ns_orB' ((N2.out.ext Y3.out).off (o9.mono fun b hb => .inr ⟨by omega, by omega⟩) (Grows.refl _ _)), sa_orB' ((Sa.nil (OrB F w 3) W3).off (o9.mono fun b hb => .inr ⟨by omega, by omega⟩) (Grows.refl _ _)), ext_off (X0.out.trans X3.out) o9 (fun b hb => by omega)⟩)

set_option maxRecDepth 100000 in
set_option maxHeartbeats 16000000 in
theorem act3_any (F : Nat → Prop) (w : World) (n k sid m : Int) (v nv : Value) (L : List Se) (N : List Int) (h : Ns HV F w v L) (hN : Sl w nv N) (hl : L.length ≤ 1000) (hF : ∀ b, F b → b < w.heap.size) (hk : k = 3) :
    Calls Try.prog 12 #[.agg #[.int .i64 n, v], .agg #[.int .i64 k, .int .i64 sid, .int .i64 m, nv]] w (GivesBkL F w (stepH (n, L) k sid m N)) := by
  subst hk
  obtain ⟨ao, c, rfl⟩ := h.len
  obtain ⟨no, nc, rfl⟩ := hN.len
  have hlenN := hN.length_le
  obtain ⟨W0, hW0⟩ : ∃ W0, W0 = ((w.alloc (.cells #[.int .i64 n, .slice ao L.length c] 24)).alloc (.cells #[.int .i64 3, .int .i64 sid, .int .i64 m, .slice no N.length nc] 27)).alloc (.cells #[.int .i64 0, .slice none 0 0] 24) := ⟨_, rfl⟩
  have X0 : Hid (Ext w W0) := Lib.hid (hW0 ▸ (((Ext.refl w).alloc _).alloc _).alloc _)
  have B0 : Hid (W0.heap[w.heap.size]? = some (.cells #[.int .i64 n, .slice ao L.length c] 24 (0, 0))) := Lib.hid (hW0 ▸ old1 (old1 (at0 w _) _) _)
  have A0 : Hid (W0.heap[w.heap.size + 1]? = some (.cells #[.int .i64 3, .int .i64 sid, .int .i64 m, .slice no N.length nc] 27 (0, 0))) := Lib.hid (hW0 ▸ old1 (at1 w _ _) _)
  have R0 : Hid (W0.heap[w.heap.size + 2]? = some (.cells #[.int .i64 0, .slice none 0 0] 24 (0, 0))) := Lib.hid (hW0 ▸ at2 w _ _ _)
  have HZ0 : Hid (W0.heap.size = w.heap.size + 3) := Lib.hid (by rw [hW0, size_alloc, size_alloc, size_alloc])
  have HW0 := Lib.hid hW0
  have HS := Lib.hid ((ns_orB h 3).ext X0.out)
  have HN := Lib.hid (hN.ext X0.out)
  have HFB : Hid (∀ V, Ext W0 V → ∀ b, OrB F w 3 b → b < V.heap.size) := Lib.hid fun V hV b hb => by
    have h1 := Below.size hV
    have h2 := HZ0.out
    rcases hb with hb | hb
    · have := hF b hb; omega
    · have := hb.2; omega
  have HK : Hid (∀ V, Ext W0 V → (V.cell? ⟨w.heap.size, 0, none⟩ = some (.int .i64 n) ∧ V.cell? ⟨w.heap.size, 1, none⟩ = some (.slice ao L.length c)) ∧ (V.cell? ⟨w.heap.size + 1, 0, none⟩ = some (.int .i64 3) ∧ V.cell? ⟨w.heap.size + 1, 1, none⟩ = some (.int .i64 sid)) ∧ V.cell? ⟨w.heap.size + 1, 2, none⟩ = some (.int .i64 m) ∧ V.cell? ⟨w.heap.size + 1, 3, none⟩ = some (.slice no N.length nc)) := Lib.hid fun V hV => ⟨⟨blk_cell (keepU B0.out hV) 0 rfl, blk_cell (keepU B0.out hV) 1 rfl⟩, ⟨blk_cell (keepU A0.out hV) 0 rfl, blk_cell (keepU A0.out hV) 1 rfl⟩, blk_cell (keepU A0.out hV) 2 rfl, blk_cell (keepU A0.out hV) 3 rfl⟩
  have RK : Hid (∀ V, Ext W0 V → V.heap[w.heap.size + 2]? = some (.cells #[.int .i64 0, .slice none 0 0] 24 (0, 0))) := Lib.hid fun V hV => keepU R0.out hV
  obtain ⟨⟨k0, k1⟩, ⟨k2, k3⟩, k4, k5⟩ := HK.out W0 (Ext.refl _)
  clear h hN hW0
  obtain ⟨⟨⟨q1, q2⟩, q3⟩, hq⟩ : ∃ r, endH (n, L) sid 0 = r := ⟨_, rfl⟩
  have HC : Hid (Calls Try.prog 28 #[.agg #[.int .i64 n, .slice ao L.length c], .int .i64 sid] W0 (GivesBk (OrB F w 3) W0 ((q1, q2), q3))) := Lib.hid (hq ▸ sessCancel_any _ W0 n sid _ L HS.out hl (HFB.out _ (Ext.refl _)))
  have HR : Hid (stepH (n, L) 3 sid m N = ((q1, q2), [], q3)) := Lib.hid (by simp [stepH, hq])
  clear hq
  go_enter Try.func12, Try.ntmps12
  go_upto_region 1 with (fail)
  rw [← HW0.out]
  go_wp2_with (first
    | (go_at_call 28; refine (HC.out).mono ?_; rintro e w2 ⟨a2, m2, c2, rfl, n2, x2⟩; dsimp only at n2 ⊢; have N2 := Lib.hid n2; have X2 : Hid (Ext W0 w2) := Lib.hid x2; clear n2 x2)
    | refine haltst 24 ?_)
  refine .inl ?_
  have hg2 := at0 w2 (.cells #[.int .i64 0, .slice none 0 0] 24)
  refine st_l 24 (.tmp 14) (.tmp 66) w2.heap.size 0 24 _ #[.int .i64 q1, .slice a2 m2 c2] _ rfl rfl hg2 (by kernel_rfl) (by simp) rfl rfl ?_
  intro W3 hW3 o3
  simp only [Act.put]
  have D3 := Lib.hid hW3
  have Y3 : Hid (Ext w2 W3) := Lib.hid (ext_off ((Ext.refl w2).alloc _) o3 (fun b hb => by omega))
  have X3 : Hid (Ext W0 W3) := Lib.hid (X2.out.trans Y3.out)
  clear hW3 o3 hg2 k0 k1 k2 k3 k4 k5
  have d0 := blk_cell D3.out 0 rfl
  have d1 := blk_cell D3.out 1 rfl
  go_wp2_with (first | refine haltst 24 ?_)
  refine .inl ?_
  refine st_l 24 (.tmp 4) (.tmp 68) (w.heap.size + 2) 0 24 _ #[.int .i64 q1, .slice a2 m2 c2] _ rfl rfl (RK.out _ X3.out) (by kernel_rfl) (by simp) rfl rfl ?_
  intro W9 hW9 o9
  simp only [Act.put]
  go_wp2
  exact bodyPost_ret (v := .tuple #[.agg #[.int .i64 q1, .slice a2 m2 c2], .slice none 0 0, .int .i64 q3]) (res_ctt 5 6 rfl rfl hW9 uBook (by kernel_rfl)) rfl (by rw [HR.out]; exact ⟨_, _, _, _, _, _, rfl, ns_orB' ((N2.out.ext Y3.out).off (o9.mono fun b hb => .inr ⟨by omega, by omega⟩) (Grows.refl _ _)), sa_orB' ((Sa.nil (OrB F w 3) W3).off (o9.mono fun b hb => .inr ⟨by omega, by omega⟩) (Grows.refl _ _)), ext_off (X0.out.trans X3.out) o9 (fun b hb => by omega)⟩)

set_option maxRecDepth 100000 in
set_option maxHeartbeats 16000000 in
theorem act4_any (F : Nat → Prop) (w : World) (n k sid m : Int) (v nv : Value) (L : List Se) (N : List Int) (h : Ns HV F w v L) (hN : Sl w nv N) (hl : L.length ≤ 1000) (hF : ∀ b, F b → b < w.heap.size) (hk : k = 4) :
    Calls Try.prog 12 #[.agg #[.int .i64 n, v], .agg #[.int .i64 k, .int .i64 sid, .int .i64 m, nv]] w (GivesBkL F w (stepH (n, L) k sid m N)) := by
  subst hk
  obtain ⟨ao, c, rfl⟩ := h.len
  obtain ⟨no, nc, rfl⟩ := hN.len
  have hlenN := hN.length_le
  obtain ⟨W0, hW0⟩ : ∃ W0, W0 = ((w.alloc (.cells #[.int .i64 n, .slice ao L.length c] 24)).alloc (.cells #[.int .i64 4, .int .i64 sid, .int .i64 m, .slice no N.length nc] 27)).alloc (.cells #[.int .i64 0, .slice none 0 0] 24) := ⟨_, rfl⟩
  have X0 : Hid (Ext w W0) := Lib.hid (hW0 ▸ (((Ext.refl w).alloc _).alloc _).alloc _)
  have B0 : Hid (W0.heap[w.heap.size]? = some (.cells #[.int .i64 n, .slice ao L.length c] 24 (0, 0))) := Lib.hid (hW0 ▸ old1 (old1 (at0 w _) _) _)
  have A0 : Hid (W0.heap[w.heap.size + 1]? = some (.cells #[.int .i64 4, .int .i64 sid, .int .i64 m, .slice no N.length nc] 27 (0, 0))) := Lib.hid (hW0 ▸ old1 (at1 w _ _) _)
  have R0 : Hid (W0.heap[w.heap.size + 2]? = some (.cells #[.int .i64 0, .slice none 0 0] 24 (0, 0))) := Lib.hid (hW0 ▸ at2 w _ _ _)
  have HZ0 : Hid (W0.heap.size = w.heap.size + 3) := Lib.hid (by rw [hW0, size_alloc, size_alloc, size_alloc])
  have HW0 := Lib.hid hW0
  have HS := Lib.hid ((ns_orB h 3).ext X0.out)
  have HN := Lib.hid (hN.ext X0.out)
  have HFB : Hid (∀ V, Ext W0 V → ∀ b, OrB F w 3 b → b < V.heap.size) := Lib.hid fun V hV b hb => by
    have h1 := Below.size hV
    have h2 := HZ0.out
    rcases hb with hb | hb
    · have := hF b hb; omega
    · have := hb.2; omega
  have HK : Hid (∀ V, Ext W0 V → (V.cell? ⟨w.heap.size, 0, none⟩ = some (.int .i64 n) ∧ V.cell? ⟨w.heap.size, 1, none⟩ = some (.slice ao L.length c)) ∧ (V.cell? ⟨w.heap.size + 1, 0, none⟩ = some (.int .i64 4) ∧ V.cell? ⟨w.heap.size + 1, 1, none⟩ = some (.int .i64 sid)) ∧ V.cell? ⟨w.heap.size + 1, 2, none⟩ = some (.int .i64 m) ∧ V.cell? ⟨w.heap.size + 1, 3, none⟩ = some (.slice no N.length nc)) := Lib.hid fun V hV => ⟨⟨blk_cell (keepU B0.out hV) 0 rfl, blk_cell (keepU B0.out hV) 1 rfl⟩, ⟨blk_cell (keepU A0.out hV) 0 rfl, blk_cell (keepU A0.out hV) 1 rfl⟩, blk_cell (keepU A0.out hV) 2 rfl, blk_cell (keepU A0.out hV) 3 rfl⟩
  have RK : Hid (∀ V, Ext W0 V → V.heap[w.heap.size + 2]? = some (.cells #[.int .i64 0, .slice none 0 0] 24 (0, 0))) := Lib.hid fun V hV => keepU R0.out hV
  obtain ⟨⟨k0, k1⟩, ⟨k2, k3⟩, k4, k5⟩ := HK.out W0 (Ext.refl _)
  clear h hN hW0
  obtain ⟨⟨⟨q1, q2⟩, q4, q3⟩, hq⟩ : ∃ r, tickH (n, L) m = r := ⟨_, rfl⟩
  have HC : Hid (Calls Try.prog 24 #[.agg #[.int .i64 n, .slice ao L.length c], .int .i64 m] W0 (GivesBkN (OrB F w 3) W0 ((q1, q2), q4, q3))) := Lib.hid (hq ▸ sessTick_any _ W0 n m _ L HS.out hl (HFB.out _ (Ext.refl _)))
  have HR : Hid (stepH (n, L) 4 sid m N = ((q1, q2), [q4], q3)) := Lib.hid (by simp [stepH, hq])
  clear hq
  go_enter Try.func12, Try.ntmps12
  go_upto_region 1 with (fail)
  rw [← HW0.out]
  go_wp2_with (first
    | (go_at_call 24; refine (HC.out).mono ?_; rintro e w2 ⟨a2, m2, c2, rfl, n2, x2⟩; dsimp only at n2 ⊢; have N2 := Lib.hid n2; have X2 : Hid (Ext W0 w2) := Lib.hid x2; clear n2 x2)
    | refine haltst 24 ?_)
  refine .inl ?_
  have hg2 := at0 w2 (.cells #[.int .i64 0, .slice none 0 0] 24)
  refine st_l 24 (.tmp 16) (.tmp 77) w2.heap.size 0 24 _ #[.int .i64 q1, .slice a2 m2 c2] _ rfl rfl hg2 (by kernel_rfl) (by simp) rfl rfl ?_
  intro W3 hW3 o3
  simp only [Act.put]
  have D3 := Lib.hid hW3
  have Y3 : Hid (Ext w2 W3) := Lib.hid (ext_off ((Ext.refl w2).alloc _) o3 (fun b hb => by omega))
  have X3 : Hid (Ext W0 W3) := Lib.hid (X2.out.trans Y3.out)
  clear hW3 o3 hg2 k0 k1 k2 k3 k4 k5
  have d0 := blk_cell D3.out 0 rfl
  have d1 := blk_cell D3.out 1 rfl
  go_wp2_with (first | refine haltst 24 ?_)
  obtain ⟨W4, hW4⟩ : ∃ q, q = W3.alloc (.cells #[.int .i64 q4] 3) := ⟨_, rfl⟩
  have Y4 : Hid (Ext W3 W4) := Lib.hid (hW4 ▸ (Ext.refl W3).alloc _)
  have S4 : Hid (Sa (OrB F w 3) W4 (.slice (some ⟨W3.heap.size, 0, none⟩) 1 1) [q4]) := Lib.hid (hW4 ▸ Sa.new (Ow.litAt W3 W3.heap.size _ rfl (Nat.le_refl _) [q4] (by simp)) (HFB.out W3 X3.out))
  rw [← hW4]
  clear hW4
  refine .inl ?_
  refine st_l 24 (.tmp 4) (.tmp 80) (w.heap.size + 2) 0 24 _ #[.int .i64 q1, .slice a2 m2 c2] _ rfl rfl (RK.out _ (X3.out.trans Y4.out)) (by kernel_rfl) (by simp) rfl rfl ?_
  intro W9 hW9 o9
  simp only [Act.put]
  go_wp2
  exact bodyPost_ret (v := .tuple #[.agg #[.int .i64 q1, .slice a2 m2 c2], .slice (some ⟨W3.heap.size, 0, none⟩) 1 1, .int .i64 q3]) (res_ctt 5 6 rfl rfl hW9 uBook (by kernel_rfl)) rfl (by rw [HR.out]; exact ⟨_, _, _, _, _, _, rfl, ns_orB' ((N2.out.ext (Y3.out.trans Y4.out)).off (o9.mono fun b hb => .inr ⟨by omega, by omega⟩) (Grows.refl _ _)), sa_orB' (S4.out.off (o9.mono fun b hb => .inr ⟨by omega, by omega⟩) (Grows.refl _ _)), ext_off (X0.out.trans (X3.out.trans Y4.out)) o9 (fun b hb => by omega)⟩)

set_option maxRecDepth 100000 in
set_option maxHeartbeats 16000000 in
theorem act5_any (F : Nat → Prop) (w : World) (n k sid m : Int) (v nv : Value) (L : List Se) (N : List Int) (h : Ns HV F w v L) (hN : Sl w nv N) (hl : L.length ≤ 1000) (hF : ∀ b, F b → b < w.heap.size) (hk : k = 5) :
    Calls Try.prog 12 #[.agg #[.int .i64 n, v], .agg #[.int .i64 k, .int .i64 sid, .int .i64 m, nv]] w (GivesBkL F w (stepH (n, L) k sid m N)) := by
  subst hk
  obtain ⟨ao, c, rfl⟩ := h.len
  obtain ⟨no, nc, rfl⟩ := hN.len
  have hlenN := hN.length_le
  obtain ⟨W0, hW0⟩ : ∃ W0, W0 = ((w.alloc (.cells #[.int .i64 n, .slice ao L.length c] 24)).alloc (.cells #[.int .i64 5, .int .i64 sid, .int .i64 m, .slice no N.length nc] 27)).alloc (.cells #[.int .i64 0, .slice none 0 0] 24) := ⟨_, rfl⟩
  have X0 : Hid (Ext w W0) := Lib.hid (hW0 ▸ (((Ext.refl w).alloc _).alloc _).alloc _)
  have B0 : Hid (W0.heap[w.heap.size]? = some (.cells #[.int .i64 n, .slice ao L.length c] 24 (0, 0))) := Lib.hid (hW0 ▸ old1 (old1 (at0 w _) _) _)
  have A0 : Hid (W0.heap[w.heap.size + 1]? = some (.cells #[.int .i64 5, .int .i64 sid, .int .i64 m, .slice no N.length nc] 27 (0, 0))) := Lib.hid (hW0 ▸ old1 (at1 w _ _) _)
  have R0 : Hid (W0.heap[w.heap.size + 2]? = some (.cells #[.int .i64 0, .slice none 0 0] 24 (0, 0))) := Lib.hid (hW0 ▸ at2 w _ _ _)
  have HZ0 : Hid (W0.heap.size = w.heap.size + 3) := Lib.hid (by rw [hW0, size_alloc, size_alloc, size_alloc])
  have HW0 := Lib.hid hW0
  have HS := Lib.hid ((ns_orB h 3).ext X0.out)
  have HN := Lib.hid (hN.ext X0.out)
  have HFB : Hid (∀ V, Ext W0 V → ∀ b, OrB F w 3 b → b < V.heap.size) := Lib.hid fun V hV b hb => by
    have h1 := Below.size hV
    have h2 := HZ0.out
    rcases hb with hb | hb
    · have := hF b hb; omega
    · have := hb.2; omega
  have HK : Hid (∀ V, Ext W0 V → (V.cell? ⟨w.heap.size, 0, none⟩ = some (.int .i64 n) ∧ V.cell? ⟨w.heap.size, 1, none⟩ = some (.slice ao L.length c)) ∧ (V.cell? ⟨w.heap.size + 1, 0, none⟩ = some (.int .i64 5) ∧ V.cell? ⟨w.heap.size + 1, 1, none⟩ = some (.int .i64 sid)) ∧ V.cell? ⟨w.heap.size + 1, 2, none⟩ = some (.int .i64 m) ∧ V.cell? ⟨w.heap.size + 1, 3, none⟩ = some (.slice no N.length nc)) := Lib.hid fun V hV => ⟨⟨blk_cell (keepU B0.out hV) 0 rfl, blk_cell (keepU B0.out hV) 1 rfl⟩, ⟨blk_cell (keepU A0.out hV) 0 rfl, blk_cell (keepU A0.out hV) 1 rfl⟩, blk_cell (keepU A0.out hV) 2 rfl, blk_cell (keepU A0.out hV) 3 rfl⟩
  have RK : Hid (∀ V, Ext W0 V → V.heap[w.heap.size + 2]? = some (.cells #[.int .i64 0, .slice none 0 0] 24 (0, 0))) := Lib.hid fun V hV => keepU R0.out hV
  obtain ⟨⟨k0, k1⟩, ⟨k2, k3⟩, k4, k5⟩ := HK.out W0 (Ext.refl _)
  clear h hN hW0
  obtain ⟨⟨⟨q1, q2⟩, q4, q3⟩, hq⟩ : ∃ r, goneH (n, L) m = r := ⟨_, rfl⟩
  have HC : Hid (Calls Try.prog 25 #[.agg #[.int .i64 n, .slice ao L.length c], .int .i64 m] W0 (GivesBkL (OrB F w 3) W0 ((q1, q2), q4, q3))) := Lib.hid (hq ▸ sessGone_any _ W0 n m _ L HS.out hl (HFB.out _ (Ext.refl _)))
  have HR : Hid (stepH (n, L) 5 sid m N = ((q1, q2), q4, q3)) := Lib.hid (by simp [stepH, hq])
  clear hq
  go_enter Try.func12, Try.ntmps12
  go_upto_region 1 with (fail)
  rw [← HW0.out]
  go_wp2_with (first
    | (go_at_call 25; refine (HC.out).mono ?_; rintro e w2 ⟨a2, m2, c2, b2, i2, j2, rfl, n2, s2, x2⟩; dsimp only at n2 s2 ⊢; have N2 := Lib.hid n2; have S2 := Lib.hid s2; have X2 : Hid (Ext W0 w2) := Lib.hid x2; clear n2 s2 x2)
    | refine haltst 24 ?_)
  refine .inl ?_
  refine st_l 24 (.tmp 4) (.tmp 88) (w.heap.size + 2) 0 24 _ #[.int .i64 q1, .slice a2 m2 c2] _ rfl rfl (RK.out _ X2.out) (by kernel_rfl) (by simp) rfl rfl ?_
  intro W9 hW9 o9
  simp only [Act.put]
  go_wp2
  exact bodyPost_ret (v := .tuple #[.agg #[.int .i64 q1, .slice a2 m2 c2], .slice b2 i2 j2, .int .i64 q3]) (res_ctt 5 6 rfl rfl hW9 uBook (by kernel_rfl)) rfl (by rw [HR.out]; exact ⟨_, _, _, _, _, _, rfl, ns_orB' ((N2.out.ext (Ext.refl _)).off (o9.mono fun b hb => .inr ⟨by omega, by omega⟩) (Grows.refl _ _)), sa_orB' (S2.out.off (o9.mono fun b hb => .inr ⟨by omega, by omega⟩) (Grows.refl _ _)), ext_off (X0.out.trans X2.out) o9 (fun b hb => by omega)⟩)

theorem act_any (F : Nat → Prop) (w : World) (n k sid m : Int) (v nv : Value) (L : List Se) (N : List Int) (h : Ns HV F w v L) (hN : Sl w nv N) (hl : L.length ≤ 1000) (hlN : N.length ≤ 1000) (hF : ∀ b, F b → b < w.heap.size) (hk : 0 ≤ k ∧ k ≤ 5) :
    Calls Try.prog 12 #[.agg #[.int .i64 n, v], .agg #[.int .i64 k, .int .i64 sid, .int .i64 m, nv]] w (GivesBkL F w (stepH (n, L) k sid m N)) := by
  rcases (show k = 0 ∨ k = 1 ∨ k = 2 ∨ k = 3 ∨ k = 4 ∨ k = 5 by omega) with e | e | e | e | e | e
  · exact act0_any F w n k sid m v nv L N h hN hl hlN hF e
  · exact act1_any F w n k sid m v nv L N h hN hl hF e
  · exact act2_any F w n k sid m v nv L N h hN hl hF e
  · exact act3_any F w n k sid m v nv L N h hN hl hF e
  · exact act4_any F w n k sid m v nv L N h hN hl hF e
  · exact act5_any F w n k sid m v nv L N h hN hl hF e

end Go.Proofs.Ytgcnjkabpcbkgaa
