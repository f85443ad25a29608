/- Texts of this seat. -/
import Derived.Test.YtfbambemjokmgaaGreatNBD
namespace Go.Proofs.YtfbambemjokmgaaGreat
open Go.RowKit
theorem getK_with {id ph th p k me n : Int} {L : List Sd} {N : List Int} (h : chkK ⟨id, ph, L, th, N⟩ = true) (hk : n = 0 ∧ (k = 3 ∨ k = 4)) :
    getK ⟨id, ph, L, th, N⟩ p k me n = if (withK L p k me).2 = 0 then (⟨id, ph, (withK L p k me).1, th, N⟩, 0) else (noK, (withK L p k me).2) := by
  obtain ⟨rfl, hk⟩ := hk
  unfold getK withK
  rw [h, if_pos rfl]
  dsimp only
  cases hf : findS (fun s => s.peer == p && s.epoch == me) L with
  | none => rfl
  | some x =>
    obtain ⟨i, ⟨s0, s1, s2, s3, s4, s5, s6, s7⟩⟩ := x
    dsimp only
    rcases hk with rfl | rfl
    · cases s6 <;> simp
    · cases s7 <;> simp
theorem getK_dine {id ph th p k me n gi gp er : Int} {L S2 : List Sd} {N : List Int} (h : chkK ⟨id, ph, L, th, N⟩ = true) (hk : ¬ (n = 0 ∧ (k = 3 ∨ k = 4))) (hg : getR ⟨id, ph, L⟩ p k me n = (⟨gi, gp, S2⟩, er)) :
    (er = 0 → getK ⟨id, ph, L, th, N⟩ p k me n = (⟨id, ph, S2, th, N⟩, 0) ∧ id = gi ∧ ph = gp) ∧ (er ≠ 0 → getK ⟨id, ph, L, th, N⟩ p k me n = (noK, er)) := by
  have hd := chk_dn h
  unfold getK
  rw [h, if_pos rfl]
  unfold getR at hg
  rw [show dnOk ⟨id, ph, L⟩ = true from hd, if_pos rfl] at hg
  dsimp only at hg ⊢
  cases hf : findS (fun s => s.peer == p && s.epoch == me) L with
  | none =>
    rw [hf] at hg
    dsimp only at hg ⊢
    simp only [Prod.mk.injEq] at hg
    refine ⟨fun e => by omega, fun _ => by rw [hg.2]⟩
  | some x =>
    obtain ⟨i, s⟩ := x
    rw [hf] at hg
    dsimp only at hg ⊢
    rw [if_neg (fun q => hk ⟨q.1, .inl q.2⟩), if_neg (fun q => hk ⟨q.1, .inr q.2⟩)]
    by_cases e : (withR s k n).2 = 0
    · rw [if_pos e] at hg ⊢
      simp only [Prod.mk.injEq, Dn.mk.injEq] at hg
      obtain ⟨⟨rfl, rfl, rfl⟩, rfl⟩ := hg
      exact ⟨fun _ => ⟨rfl, rfl, rfl⟩, fun q => absurd rfl q⟩
    · rw [if_neg e] at hg ⊢
      simp only [Prod.mk.injEq] at hg
      rw [hg.2] at e ⊢
      exact ⟨fun q => absurd q e, fun _ => rfl⟩
set_option maxRecDepth 100000 in
set_option maxHeartbeats 16000000 in
theorem dkGet_any (w : World) (id ph th p kd me n : Int) (v nv : Value) (L : List Sd) (N : List Int) (h : Sl w v L) (hN : Sl w nv N) (hl : L.length ≤ 1000) (hlN : N.length ≤ 1000) :
    Calls Tryz.prog 91 #[.agg #[.int .i64 id, .int .i64 ph, v, .int .i64 th, nv], .int .i64 p, .agg #[.int .i64 kd, .int .i64 me, .int .i64 n]] w (GivesDN w (getK ⟨id, ph, L, th, N⟩ p kd me n)) := by
  obtain ⟨ao, c, rfl⟩ := h.len
  obtain ⟨na, nc, rfl⟩ := hN.len
  obtain ⟨W0, hW0⟩ : ∃ W0, W0 = ((w.alloc (.cells #[.int .i64 id, .int .i64 ph, .slice ao L.length c, .int .i64 th, .slice na N.length nc] 63)).alloc (.cells #[.int .i64 kd, .int .i64 me, .int .i64 n] 93)).alloc (.cells #[.int .i64 0, .int .i64 0, .slice none 0 0, .int .i64 0, .slice none 0 0] 63) := ⟨_, rfl⟩
  have X0 : Hid (Ext w W0) := Lib.hid (hW0 ▸ (((Ext.refl w).alloc _).alloc _).alloc _)
  have D0 : Hid (W0.heap[w.heap.size]? = some (.cells #[.int .i64 id, .int .i64 ph, .slice ao L.length c, .int .i64 th, .slice na N.length nc] 63 (0, 0))) := Lib.hid (hW0 ▸ old1 (old1 (at0 w _) _) _)
  have M0 : Hid (W0.heap[w.heap.size + 1]? = some (.cells #[.int .i64 kd, .int .i64 me, .int .i64 n] 93 (0, 0))) := Lib.hid (hW0 ▸ old1 (at1 w _ _) _)
  have R0 : Hid (W0.heap[w.heap.size + 2]? = some (.cells #[.int .i64 0, .int .i64 0, .slice none 0 0, .int .i64 0, .slice none 0 0] 63 (0, 0))) := Lib.hid (hW0 ▸ at2 w _ _ _)
  have HW0 := Lib.hid hW0
  have HS := Lib.hid (h.ext X0.out)
  have HN := Lib.hid (hN.ext X0.out)
  have HNw := Lib.hid hN
  obtain ⟨t, ht⟩ : ∃ t, chkK ⟨id, ph, L, th, N⟩ = t := ⟨_, rfl⟩
  have HT := Lib.hid ht
  clear h hN hW0 ht
  obtain ⟨⟨d0, d1, d2⟩, d3, d4⟩ := cells5 D0.out
  have HC := Lib.hid (dkCheck_any W0 id ph th _ _ L N HS.out HN.out hl t HT.out)
  go_enter Tryz.func91, Tryz.ntmps91
  go_upto_region 1 with (fail)
  rw [← HW0.out]
  cases t
  · have HR : Hid (getK ⟨id, ph, L, th, N⟩ p kd me n = (noK, 150)) := Lib.hid (by unfold getK; rw [HT.out]; rfl)
    go_upto_region 3 with (first
      | (go_at_call 58; refine HC.out.mono ?_; rintro e w1 ⟨rfl, hx⟩; dsimp only [cond]; have X1 : Hid (Ext W0 w1) := Lib.hid hx; clear hx))
    go_wp2_with (first | refine haltst 63 ?_)
    refine .inl ?_
    refine st_l 63 (.tmp 6) (.tmp 14) (w.heap.size + 2) 0 63 #[.int .i64 0, .int .i64 0, .slice none 0 0, .int .i64 0, .slice none 0 0] #[.int .i64 0, .int .i64 0, .slice none 0 0, .int .i64 0, .slice none 0 0] #[.int .i64 0, .int .i64 0, .slice none 0 0, .int .i64 0, .slice none 0 0] rfl rfl (keepU R0.out X1.out) (by kernel_rfl) (by simp) rfl rfl ?_
    intro W9 hW9 o9
    simp only [Act.put]
    go_wp2
    exact bodyPost_ret (v := .tuple #[.agg #[.int .i64 0, .int .i64 0, .slice none 0 0, .int .i64 0, .slice none 0 0], .int .i64 150]) (res_ct 7 rfl rfl hW9 uDrinker (by kernel_rfl)) rfl (givesDNNo HR.out (ext_off (X0.out.trans X1.out) o9 (fun b hb => by omega)))
  · go_upto_region 4 with (first
      | (go_at_call 58; refine HC.out.mono ?_; rintro e w1 ⟨rfl, hx⟩; dsimp only [cond]; have X1 : Hid (Ext W0 w1) := Lib.hid hx; clear hx))
    clear d0 d1 d2 d3 d4 HC
    obtain ⟨⟨d0, d1, d2⟩, d3, d4⟩ := cells5 (keepU D0.out X1.out)
    obtain ⟨m0, m1, m2⟩ := cells3U (keepU M0.out X1.out)
    by_cases en : n = 0
    · have t2 : (n == 0) = true := by simp [en]
      by_cases k3 : kd = 3
      · have t3 : (kd == 3) = true := by simp [k3]
        have HA : Hid (n = 0 ∧ (kd = 3 ∨ kd = 4)) := Lib.hid ⟨en, .inl k3⟩
        clear en k3
        have HRA : Hid (getK ⟨id, ph, L, th, N⟩ p kd me n = if (withK L p kd me).2 = 0 then (⟨id, ph, (withK L p kd me).1, th, N⟩, 0) else (noK, (withK L p kd me).2)) := Lib.hid (getK_with HT.out HA.out)
        obtain ⟨⟨S2, er⟩, hwr⟩ : ∃ q, withK L p kd me = q := ⟨_, rfl⟩
        rw [hwr] at HRA
        dsimp only at HRA
        have HWK := Lib.hid (hwr ▸ withK_any w1 _ L p kd me n (HS.out.ext X1.out) hl : Calls Tryz.prog 134 #[.slice ao L.length c, .int .i64 p, .agg #[.int .i64 kd, .int .i64 me, .int .i64 n]] w1 (GivesW w1 (S2, er)))
        clear hwr
        go_upto_region 8 with (first
          | (go_at_call 134; refine HWK.out.mono ?_; rintro e w3 ⟨v3, rfl, s3, x3, n3⟩; obtain ⟨fa, fn, fc, rfl⟩ : ∃ a n c, v3 = Value.slice a n c := (by obtain ⟨a, c, q⟩ := s3.len; exact ⟨a, _, c, q⟩); have S3 := Lib.hid s3; have X3 : Hid (Ext w1 w3) := Lib.hid x3; have N3 := Lib.hid n3; have c2 := blk_cell (keepU (keepU D0.out X1.out) x3) 2 rfl; have f2 := blk_free (keepU (keepU D0.out X1.out) x3) 2; clear s3 x3 n3))
        obtain ⟨W4, hW4⟩ : ∃ W4, W4 = w3.setCell ⟨w.heap.size, 2, none⟩ (.slice fa fn fc) := ⟨_, rfl⟩
        have hz1 : w.heap.size + 3 ≤ w1.heap.size := by have := blk_lt (keepU R0.out X1.out); omega
        have B4 : Hid (W4.heap[w.heap.size]? = some (.cells #[.int .i64 id, .int .i64 ph, .slice fa fn fc, .int .i64 th, .slice na N.length nc] 63 (0, 0))) := Lib.hid (by rw [hW4, blk_set (keepU (keepU D0.out X1.out) X3.out)]; rfl)
        have R4 : Hid (W4.heap[w.heap.size + 2]? = some (.cells #[.int .i64 0, .int .i64 0, .slice none 0 0, .int .i64 0, .slice none 0 0] 63 (0, 0))) := Lib.hid (by rw [hW4, set_other _ _ _ _ (by show w.heap.size + 2 ≠ w.heap.size; omega)]; exact keepU (keepU R0.out X1.out) X3.out)
        have X4 : Hid (Ext w W4) := Lib.hid (hW4 ▸ below_set (X0.out.trans (X1.out.trans X3.out)) (Nat.le_refl _) _)
        have N4 : Hid (∀ b, (Value.slice fa fn fc).ownBlock = some b → w.heap.size + 3 ≤ b) := Lib.hid (fun b hb => by have := N3.out b hb; omega)
        have S4 : Hid (Sl W4 (.slice fa fn fc) S2) := Lib.hid (hW4 ▸ slOffU S3.out N4.out (off_set w3 ⟨w.heap.size, 2, none⟩ _) (by show w.heap.size < _; omega))
        rw [← hW4]
        clear hW4 d0 d1 d2 d3 d4 m0 m1 m2 c2 f2 S3 N3 HWK
        by_cases her : er = 0
        · subst her
          have HR := Lib.hid (HRA.out.trans (if_pos rfl))
          clear HRA
          obtain ⟨⟨d0, d1, d2⟩, d3, d4⟩ := cells5 B4.out
          go_upto_region 10 with (fail)
          go_upto_region 11 with (first
            | (go_at_call 127; refine (clone_i W4 _ N (HNw.out.ext X4.out) hlN).mono ?_; rintro e w5 ⟨v5, rfl, o5, x5⟩; obtain ⟨ma, mn, mc, rfl⟩ := o5.sh; have X5 : Hid (Ext W4 w5) := Lib.hid x5; have O5 := Lib.hid o5; have c4 := blk_cell (keepU B4.out x5) 4 rfl; have f4 := blk_free (keepU B4.out x5) 4; clear o5 x5))
          obtain ⟨W6, hW6⟩ : ∃ W6, W6 = w5.setCell ⟨w.heap.size, 4, none⟩ (.slice ma mn mc) := ⟨_, rfl⟩
          have hz4 : w.heap.size + 3 ≤ W4.heap.size := by have := blk_lt R4.out; omega
          have B6 : Hid (W6.heap[w.heap.size]? = some (.cells #[.int .i64 id, .int .i64 ph, .slice fa fn fc, .int .i64 th, .slice ma mn mc] 63 (0, 0))) := Lib.hid (by rw [hW6, blk_set (keepU B4.out X5.out)]; rfl)
          have R6 : Hid (W6.heap[w.heap.size + 2]? = some (.cells #[.int .i64 0, .int .i64 0, .slice none 0 0, .int .i64 0, .slice none 0 0] 63 (0, 0))) := Lib.hid (by rw [hW6, set_other _ _ _ _ (by show w.heap.size + 2 ≠ w.heap.size; omega)]; exact keepU R4.out X5.out)
          have X6 : Hid (Ext w W6) := Lib.hid (hW6 ▸ below_set (X4.out.trans X5.out) (Nat.le_refl _) _)
          have S6 : Hid (Sl W6 (.slice fa fn fc) S2) := Lib.hid (hW6 ▸ slOffU (S4.out.ext X5.out) N4.out (off_set w5 ⟨w.heap.size, 4, none⟩ _) (by show w.heap.size < _; omega))
          have O6 : Hid (Ow W6 W4.heap.size (.slice ma mn mc) N) := Lib.hid (hW6 ▸ O5.out.set (d := ⟨w.heap.size, 4, none⟩) (by show w.heap.size < _; omega) _)
          rw [← hW6]
          clear hW6 d0 d1 d2 d3 d4 c4 f4 O5
          obtain ⟨⟨d0, d1, d2⟩, d3, d4⟩ := cells5 B6.out
          go_wp2_with (first | refine haltst 63 ?_)
          refine .inl ?_
          refine st_l 63 (.tmp 6) (.tmp 57) (w.heap.size + 2) 0 63 #[.int .i64 0, .int .i64 0, .slice none 0 0, .int .i64 0, .slice none 0 0] #[.int .i64 id, .int .i64 ph, .slice fa fn fc, .int .i64 th, .slice ma mn mc] #[.int .i64 id, .int .i64 ph, .slice fa fn fc, .int .i64 th, .slice ma mn mc] rfl rfl R6.out (by kernel_rfl) (by simp) rfl rfl ?_
          intro W9 hW9 o9
          simp only [Act.put]
          go_wp2
          exact bodyPost_ret (v := .tuple #[.agg #[.int .i64 id, .int .i64 ph, .slice fa fn fc, .int .i64 th, .slice ma mn mc], .int .i64 0]) (res_ct 7 rfl rfl hW9 uDrinker (by kernel_rfl)) rfl (by
            rw [HR.out]
            have x9 := ext_off X6.out o9 (fun b hb => by omega)
            exact ⟨_, _, rfl, slOffU S6.out N4.out o9 (by omega), (owU O6.out (fun b hb => o9.block b (O6.out.low b hb).2 (by have := (O6.out.low b hb).1; omega))).sl, x9, fun b hb => by have := (O6.out.low b hb).1; omega⟩)
        · have t9 : (er != 0) = true := by simp [her]
          have HR := Lib.hid (HRA.out.trans (if_neg her))
          clear HRA her
          go_upto_region 9 with (fail)
          go_wp2_with (first | refine haltst 63 ?_)
          refine .inl ?_
          refine st_l 63 (.tmp 6) (.tmp 51) (w.heap.size + 2) 0 63 #[.int .i64 0, .int .i64 0, .slice none 0 0, .int .i64 0, .slice none 0 0] #[.int .i64 0, .int .i64 0, .slice none 0 0, .int .i64 0, .slice none 0 0] #[.int .i64 0, .int .i64 0, .slice none 0 0, .int .i64 0, .slice none 0 0] rfl rfl R4.out (by kernel_rfl) (by simp) rfl rfl ?_
          intro W9 hW9 o9
          simp only [Act.put]
          go_wp2
          exact bodyPost_ret (v := .tuple #[.agg #[.int .i64 0, .int .i64 0, .slice none 0 0, .int .i64 0, .slice none 0 0], .int .i64 er]) (res_ct 7 rfl rfl hW9 uDrinker (by kernel_rfl)) rfl (givesDNNo HR.out (ext_off X4.out o9 (fun b hb => by omega)))
      · have t3 : (kd == 3) = false := by simp [k3]
        by_cases k4 : kd = 4
        · have t4 : (kd == 4) = true := by simp [k4]
          have HA : Hid (n = 0 ∧ (kd = 3 ∨ kd = 4)) := Lib.hid ⟨en, .inr k4⟩
          clear en k3 k4
          have HRA : Hid (getK ⟨id, ph, L, th, N⟩ p kd me n = if (withK L p kd me).2 = 0 then (⟨id, ph, (withK L p kd me).1, th, N⟩, 0) else (noK, (withK L p kd me).2)) := Lib.hid (getK_with HT.out HA.out)
          obtain ⟨⟨S2, er⟩, hwr⟩ : ∃ q, withK L p kd me = q := ⟨_, rfl⟩
          rw [hwr] at HRA
          dsimp only at HRA
          have HWK := Lib.hid (hwr ▸ withK_any w1 _ L p kd me n (HS.out.ext X1.out) hl : Calls Tryz.prog 134 #[.slice ao L.length c, .int .i64 p, .agg #[.int .i64 kd, .int .i64 me, .int .i64 n]] w1 (GivesW w1 (S2, er)))
          clear hwr
          go_upto_region 8 with (first
            | (go_at_call 134; refine HWK.out.mono ?_; rintro e w3 ⟨v3, rfl, s3, x3, n3⟩; obtain ⟨fa, fn, fc, rfl⟩ : ∃ a n c, v3 = Value.slice a n c := (by obtain ⟨a, c, q⟩ := s3.len; exact ⟨a, _, c, q⟩); have S3 := Lib.hid s3; have X3 : Hid (Ext w1 w3) := Lib.hid x3; have N3 := Lib.hid n3; have c2 := blk_cell (keepU (keepU D0.out X1.out) x3) 2 rfl; have f2 := blk_free (keepU (keepU D0.out X1.out) x3) 2; clear s3 x3 n3))
          obtain ⟨W4, hW4⟩ : ∃ W4, W4 = w3.setCell ⟨w.heap.size, 2, none⟩ (.slice fa fn fc) := ⟨_, rfl⟩
          have hz1 : w.heap.size + 3 ≤ w1.heap.size := by have := blk_lt (keepU R0.out X1.out); omega
          have B4 : Hid (W4.heap[w.heap.size]? = some (.cells #[.int .i64 id, .int .i64 ph, .slice fa fn fc, .int .i64 th, .slice na N.length nc] 63 (0, 0))) := Lib.hid (by rw [hW4, blk_set (keepU (keepU D0.out X1.out) X3.out)]; rfl)
          have R4 : Hid (W4.heap[w.heap.size + 2]? = some (.cells #[.int .i64 0, .int .i64 0, .slice none 0 0, .int .i64 0, .slice none 0 0] 63 (0, 0))) := Lib.hid (by rw [hW4, set_other _ _ _ _ (by show w.heap.size + 2 ≠ w.heap.size; omega)]; exact keepU (keepU R0.out X1.out) X3.out)
          have X4 : Hid (Ext w W4) := Lib.hid (hW4 ▸ below_set (X0.out.trans (X1.out.trans X3.out)) (Nat.le_refl _) _)
          have N4 : Hid (∀ b, (Value.slice fa fn fc).ownBlock = some b → w.heap.size + 3 ≤ b) := Lib.hid (fun b hb => by have := N3.out b hb; omega)
          have S4 : Hid (Sl W4 (.slice fa fn fc) S2) := Lib.hid (hW4 ▸ slOffU S3.out N4.out (off_set w3 ⟨w.heap.size, 2, none⟩ _) (by show w.heap.size < _; omega))
          rw [← hW4]
          clear hW4 d0 d1 d2 d3 d4 m0 m1 m2 c2 f2 S3 N3 HWK
          by_cases her : er = 0
          · subst her
            have HR := Lib.hid (HRA.out.trans (if_pos rfl))
            clear HRA
            obtain ⟨⟨d0, d1, d2⟩, d3, d4⟩ := cells5 B4.out
            go_upto_region 10 with (fail)
            go_upto_region 11 with (first
              | (go_at_call 127; refine (clone_i W4 _ N (HNw.out.ext X4.out) hlN).mono ?_; rintro e w5 ⟨v5, rfl, o5, x5⟩; obtain ⟨ma, mn, mc, rfl⟩ := o5.sh; have X5 : Hid (Ext W4 w5) := Lib.hid x5; have O5 := Lib.hid o5; have c4 := blk_cell (keepU B4.out x5) 4 rfl; have f4 := blk_free (keepU B4.out x5) 4; clear o5 x5))
            obtain ⟨W6, hW6⟩ : ∃ W6, W6 = w5.setCell ⟨w.heap.size, 4, none⟩ (.slice ma mn mc) := ⟨_, rfl⟩
            have hz4 : w.heap.size + 3 ≤ W4.heap.size := by have := blk_lt R4.out; omega
            have B6 : Hid (W6.heap[w.heap.size]? = some (.cells #[.int .i64 id, .int .i64 ph, .slice fa fn fc, .int .i64 th, .slice ma mn mc] 63 (0, 0))) := Lib.hid (by rw [hW6, blk_set (keepU B4.out X5.out)]; rfl)
            have R6 : Hid (W6.heap[w.heap.size + 2]? = some (.cells #[.int .i64 0, .int .i64 0, .slice none 0 0, .int .i64 0, .slice none 0 0] 63 (0, 0))) := Lib.hid (by rw [hW6, set_other _ _ _ _ (by show w.heap.size + 2 ≠ w.heap.size; omega)]; exact keepU R4.out X5.out)
            have X6 : Hid (Ext w W6) := Lib.hid (hW6 ▸ below_set (X4.out.trans X5.out) (Nat.le_refl _) _)
            have S6 : Hid (Sl W6 (.slice fa fn fc) S2) := Lib.hid (hW6 ▸ slOffU (S4.out.ext X5.out) N4.out (off_set w5 ⟨w.heap.size, 4, none⟩ _) (by show w.heap.size < _; omega))
            have O6 : Hid (Ow W6 W4.heap.size (.slice ma mn mc) N) := Lib.hid (hW6 ▸ O5.out.set (d := ⟨w.heap.size, 4, none⟩) (by show w.heap.size < _; omega) _)
            rw [← hW6]
            clear hW6 d0 d1 d2 d3 d4 c4 f4 O5
            obtain ⟨⟨d0, d1, d2⟩, d3, d4⟩ := cells5 B6.out
            go_wp2_with (first | refine haltst 63 ?_)
            refine .inl ?_
            refine st_l 63 (.tmp 6) (.tmp 57) (w.heap.size + 2) 0 63 #[.int .i64 0, .int .i64 0, .slice none 0 0, .int .i64 0, .slice none 0 0] #[.int .i64 id, .int .i64 ph, .slice fa fn fc, .int .i64 th, .slice ma mn mc] #[.int .i64 id, .int .i64 ph, .slice fa fn fc, .int .i64 th, .slice ma mn mc] rfl rfl R6.out (by kernel_rfl) (by simp) rfl rfl ?_
            intro W9 hW9 o9
            simp only [Act.put]
            go_wp2
            exact bodyPost_ret (v := .tuple #[.agg #[.int .i64 id, .int .i64 ph, .slice fa fn fc, .int .i64 th, .slice ma mn mc], .int .i64 0]) (res_ct 7 rfl rfl hW9 uDrinker (by kernel_rfl)) rfl (by
              rw [HR.out]
              have x9 := ext_off X6.out o9 (fun b hb => by omega)
              exact ⟨_, _, rfl, slOffU S6.out N4.out o9 (by omega), (owU O6.out (fun b hb => o9.block b (O6.out.low b hb).2 (by have := (O6.out.low b hb).1; omega))).sl, x9, fun b hb => by have := (O6.out.low b hb).1; omega⟩)
          · have t9 : (er != 0) = true := by simp [her]
            have HR := Lib.hid (HRA.out.trans (if_neg her))
            clear HRA her
            go_upto_region 9 with (fail)
            go_wp2_with (first | refine haltst 63 ?_)
            refine .inl ?_
            refine st_l 63 (.tmp 6) (.tmp 51) (w.heap.size + 2) 0 63 #[.int .i64 0, .int .i64 0, .slice none 0 0, .int .i64 0, .slice none 0 0] #[.int .i64 0, .int .i64 0, .slice none 0 0, .int .i64 0, .slice none 0 0] #[.int .i64 0, .int .i64 0, .slice none 0 0, .int .i64 0, .slice none 0 0] rfl rfl R4.out (by kernel_rfl) (by simp) rfl rfl ?_
            intro W9 hW9 o9
            simp only [Act.put]
            go_wp2
            exact bodyPost_ret (v := .tuple #[.agg #[.int .i64 0, .int .i64 0, .slice none 0 0, .int .i64 0, .slice none 0 0], .int .i64 er]) (res_ct 7 rfl rfl hW9 uDrinker (by kernel_rfl)) rfl (givesDNNo HR.out (ext_off X4.out o9 (fun b hb => by omega)))
        · have t4 : (kd == 4) = false := by simp [k4]
          have HA : Hid (¬ (n = 0 ∧ (kd = 3 ∨ kd = 4))) := Lib.hid (fun q => q.2.elim k3 k4)
          clear en k3 k4
          obtain ⟨⟨⟨gi, gp, S2⟩, er⟩, hgr⟩ : ∃ q, getR ⟨id, ph, L⟩ p kd me n = q := ⟨_, rfl⟩
          have HRA := Lib.hid (getK_dine HT.out HA.out hgr)
          have HGE := Lib.hid (hgr ▸ get_any w1 id ph p kd me n _ L (HS.out.ext X1.out) hl : Calls Tryz.prog 135 #[.agg #[.int .i64 id, .int .i64 ph, .slice ao L.length c], .int .i64 p, .agg #[.int .i64 kd, .int .i64 me, .int .i64 n]] w1 (GivesE w1 (⟨gi, gp, S2⟩, er)))
          clear hgr
          go_upto_region 8 with (first
            | (go_at_call 135; refine HGE.out.mono ?_; rintro e w3 ⟨v3, rfl, s3, x3, n3⟩; obtain ⟨fa, fn, fc, rfl⟩ : ∃ a n c, v3 = Value.slice a n c := (by obtain ⟨a, c, q⟩ := s3.len; exact ⟨a, _, c, q⟩); dsimp only at s3; have S3 := Lib.hid s3; have X3 : Hid (Ext w1 w3) := Lib.hid x3; have N3 := Lib.hid n3; clear s3 x3 n3)
            | refine haltst 61 ?_)
          refine .inl ?_
          refine st_l 61 (.tmp 48) (.tmp 46) w.heap.size 0 63 #[.int .i64 id, .int .i64 ph, .slice ao L.length c, .int .i64 th, .slice na N.length nc] #[.int .i64 gi, .int .i64 gp, .slice fa fn fc] #[.int .i64 gi, .int .i64 gp, .slice fa fn fc, .int .i64 th, .slice na N.length nc] rfl rfl (keepU (keepU D0.out X1.out) X3.out) (by kernel_rfl) (by simp) rfl rfl ?_
          intro W4 hW4 o4
          simp only [Act.put]
          have hz1 : w.heap.size + 3 ≤ w1.heap.size := by have := blk_lt (keepU R0.out X1.out); omega
          have B40 := Lib.hid hW4
          have R4 : Hid (W4.heap[w.heap.size + 2]? = some (.cells #[.int .i64 0, .int .i64 0, .slice none 0 0, .int .i64 0, .slice none 0 0] 63 (0, 0))) := Lib.hid ((o4.block _ (blk_lt (keepU (keepU R0.out X1.out) X3.out)) (by omega)).trans (keepU (keepU R0.out X1.out) X3.out))
          have X4 : Hid (Ext w W4) := Lib.hid (ext_off (X0.out.trans (X1.out.trans X3.out)) o4 (fun b hb => by omega))
          have N4 : Hid (∀ b, (Value.slice fa fn fc).ownBlock = some b → w.heap.size + 3 ≤ b) := Lib.hid (fun b hb => by have := N3.out b hb; omega)
          have S4 : Hid (Sl W4 (.slice fa fn fc) S2) := Lib.hid (slOffU S3.out N4.out o4 (by omega))
          clear hW4 o4 d0 d1 d2 d3 d4 m0 m1 m2 S3 N3 HGE
          by_cases her : er = 0
          · obtain ⟨hR, rfl, rfl⟩ := HRA.out.1 her
            subst her
            have HR := Lib.hid hR
            have B4 := B40
            clear HRA hR B40
            obtain ⟨⟨d0, d1, d2⟩, d3, d4⟩ := cells5 B4.out
            go_upto_region 10 with (fail)
            go_upto_region 11 with (first
              | (go_at_call 127; refine (clone_i W4 _ N (HNw.out.ext X4.out) hlN).mono ?_; rintro e w5 ⟨v5, rfl, o5, x5⟩; obtain ⟨ma, mn, mc, rfl⟩ := o5.sh; have X5 : Hid (Ext W4 w5) := Lib.hid x5; have O5 := Lib.hid o5; have c4 := blk_cell (keepU B4.out x5) 4 rfl; have f4 := blk_free (keepU B4.out x5) 4; clear o5 x5))
            obtain ⟨W6, hW6⟩ : ∃ W6, W6 = w5.setCell ⟨w.heap.size, 4, none⟩ (.slice ma mn mc) := ⟨_, rfl⟩
            have hz4 : w.heap.size + 3 ≤ W4.heap.size := by have := blk_lt R4.out; omega
            have B6 : Hid (W6.heap[w.heap.size]? = some (.cells #[.int .i64 id, .int .i64 ph, .slice fa fn fc, .int .i64 th, .slice ma mn mc] 63 (0, 0))) := Lib.hid (by rw [hW6, blk_set (keepU B4.out X5.out)]; rfl)
            have R6 : Hid (W6.heap[w.heap.size + 2]? = some (.cells #[.int .i64 0, .int .i64 0, .slice none 0 0, .int .i64 0, .slice none 0 0] 63 (0, 0))) := Lib.hid (by rw [hW6, set_other _ _ _ _ (by show w.heap.size + 2 ≠ w.heap.size; omega)]; exact keepU R4.out X5.out)
            have X6 : Hid (Ext w W6) := Lib.hid (hW6 ▸ below_set (X4.out.trans X5.out) (Nat.le_refl _) _)
            have S6 : Hid (Sl W6 (.slice fa fn fc) S2) := Lib.hid (hW6 ▸ slOffU (S4.out.ext X5.out) N4.out (off_set w5 ⟨w.heap.size, 4, none⟩ _) (by show w.heap.size < _; omega))
            have O6 : Hid (Ow W6 W4.heap.size (.slice ma mn mc) N) := Lib.hid (hW6 ▸ O5.out.set (d := ⟨w.heap.size, 4, none⟩) (by show w.heap.size < _; omega) _)
            rw [← hW6]
            clear hW6 d0 d1 d2 d3 d4 c4 f4 O5
            obtain ⟨⟨d0, d1, d2⟩, d3, d4⟩ := cells5 B6.out
            go_wp2_with (first | refine haltst 63 ?_)
            refine .inl ?_
            refine st_l 63 (.tmp 6) (.tmp 57) (w.heap.size + 2) 0 63 #[.int .i64 0, .int .i64 0, .slice none 0 0, .int .i64 0, .slice none 0 0] #[.int .i64 id, .int .i64 ph, .slice fa fn fc, .int .i64 th, .slice ma mn mc] #[.int .i64 id, .int .i64 ph, .slice fa fn fc, .int .i64 th, .slice ma mn mc] rfl rfl R6.out (by kernel_rfl) (by simp) rfl rfl ?_
            intro W9 hW9 o9
            simp only [Act.put]
            go_wp2
            exact bodyPost_ret (v := .tuple #[.agg #[.int .i64 id, .int .i64 ph, .slice fa fn fc, .int .i64 th, .slice ma mn mc], .int .i64 0]) (res_ct 7 rfl rfl hW9 uDrinker (by kernel_rfl)) rfl (by
              rw [HR.out]
              have x9 := ext_off X6.out o9 (fun b hb => by omega)
              exact ⟨_, _, rfl, slOffU S6.out N4.out o9 (by omega), (owU O6.out (fun b hb => o9.block b (O6.out.low b hb).2 (by have := (O6.out.low b hb).1; omega))).sl, x9, fun b hb => by have := (O6.out.low b hb).1; omega⟩)
          · have t9 : (er != 0) = true := by simp [her]
            have HR := Lib.hid (HRA.out.2 her)
            obtain ⟨⟨d0, d1, d2⟩, d3, d4⟩ := cells5 B40.out
            clear HRA her
            go_upto_region 9 with (fail)
            go_wp2_with (first | refine haltst 63 ?_)
            refine .inl ?_
            refine st_l 63 (.tmp 6) (.tmp 51) (w.heap.size + 2) 0 63 #[.int .i64 0, .int .i64 0, .slice none 0 0, .int .i64 0, .slice none 0 0] #[.int .i64 0, .int .i64 0, .slice none 0 0, .int .i64 0, .slice none 0 0] #[.int .i64 0, .int .i64 0, .slice none 0 0, .int .i64 0, .slice none 0 0] rfl rfl R4.out (by kernel_rfl) (by simp) rfl rfl ?_
            intro W9 hW9 o9
            simp only [Act.put]
            go_wp2
            exact bodyPost_ret (v := .tuple #[.agg #[.int .i64 0, .int .i64 0, .slice none 0 0, .int .i64 0, .slice none 0 0], .int .i64 er]) (res_ct 7 rfl rfl hW9 uDrinker (by kernel_rfl)) rfl (givesDNNo HR.out (ext_off X4.out o9 (fun b hb => by omega)))
    · have t2 : (n == 0) = false := by simp [en]
      have HA : Hid (¬ (n = 0 ∧ (kd = 3 ∨ kd = 4))) := Lib.hid (fun q => en q.1)
      clear en
      by_cases k3 : kd = 3
      · have t3 : (kd == 3) = true := by simp [k3]
        clear k3
        obtain ⟨⟨⟨gi, gp, S2⟩, er⟩, hgr⟩ : ∃ q, getR ⟨id, ph, L⟩ p kd me n = q := ⟨_, rfl⟩
        have HRA := Lib.hid (getK_dine HT.out HA.out hgr)
        have HGE := Lib.hid (hgr ▸ get_any w1 id ph p kd me n _ L (HS.out.ext X1.out) hl : Calls Tryz.prog 135 #[.agg #[.int .i64 id, .int .i64 ph, .slice ao L.length c], .int .i64 p, .agg #[.int .i64 kd, .int .i64 me, .int .i64 n]] w1 (GivesE w1 (⟨gi, gp, S2⟩, er)))
        clear hgr
        go_upto_region 8 with (first
          | (go_at_call 135; refine HGE.out.mono ?_; rintro e w3 ⟨v3, rfl, s3, x3, n3⟩; obtain ⟨fa, fn, fc, rfl⟩ : ∃ a n c, v3 = Value.slice a n c := (by obtain ⟨a, c, q⟩ := s3.len; exact ⟨a, _, c, q⟩); dsimp only at s3; have S3 := Lib.hid s3; have X3 : Hid (Ext w1 w3) := Lib.hid x3; have N3 := Lib.hid n3; clear s3 x3 n3)
          | refine haltst 61 ?_)
        refine .inl ?_
        refine st_l 61 (.tmp 48) (.tmp 46) w.heap.size 0 63 #[.int .i64 id, .int .i64 ph, .slice ao L.length c, .int .i64 th, .slice na N.length nc] #[.int .i64 gi, .int .i64 gp, .slice fa fn fc] #[.int .i64 gi, .int .i64 gp, .slice fa fn fc, .int .i64 th, .slice na N.length nc] rfl rfl (keepU (keepU D0.out X1.out) X3.out) (by kernel_rfl) (by simp) rfl rfl ?_
        intro W4 hW4 o4
        simp only [Act.put]
        have hz1 : w.heap.size + 3 ≤ w1.heap.size := by have := blk_lt (keepU R0.out X1.out); omega
        have B40 := Lib.hid hW4
        have R4 : Hid (W4.heap[w.heap.size + 2]? = some (.cells #[.int .i64 0, .int .i64 0, .slice none 0 0, .int .i64 0, .slice none 0 0] 63 (0, 0))) := Lib.hid ((o4.block _ (blk_lt (keepU (keepU R0.out X1.out) X3.out)) (by omega)).trans (keepU (keepU R0.out X1.out) X3.out))
        have X4 : Hid (Ext w W4) := Lib.hid (ext_off (X0.out.trans (X1.out.trans X3.out)) o4 (fun b hb => by omega))
        have N4 : Hid (∀ b, (Value.slice fa fn fc).ownBlock = some b → w.heap.size + 3 ≤ b) := Lib.hid (fun b hb => by have := N3.out b hb; omega)
        have S4 : Hid (Sl W4 (.slice fa fn fc) S2) := Lib.hid (slOffU S3.out N4.out o4 (by omega))
        clear hW4 o4 d0 d1 d2 d3 d4 m0 m1 m2 S3 N3 HGE
        by_cases her : er = 0
        · obtain ⟨hR, rfl, rfl⟩ := HRA.out.1 her
          subst her
          have HR := Lib.hid hR
          have B4 := B40
          clear HRA hR B40
          obtain ⟨⟨d0, d1, d2⟩, d3, d4⟩ := cells5 B4.out
          go_upto_region 10 with (fail)
          go_upto_region 11 with (first
            | (go_at_call 127; refine (clone_i W4 _ N (HNw.out.ext X4.out) hlN).mono ?_; rintro e w5 ⟨v5, rfl, o5, x5⟩; obtain ⟨ma, mn, mc, rfl⟩ := o5.sh; have X5 : Hid (Ext W4 w5) := Lib.hid x5; have O5 := Lib.hid o5; have c4 := blk_cell (keepU B4.out x5) 4 rfl; have f4 := blk_free (keepU B4.out x5) 4; clear o5 x5))
          obtain ⟨W6, hW6⟩ : ∃ W6, W6 = w5.setCell ⟨w.heap.size, 4, none⟩ (.slice ma mn mc) := ⟨_, rfl⟩
          have hz4 : w.heap.size + 3 ≤ W4.heap.size := by have := blk_lt R4.out; omega
          have B6 : Hid (W6.heap[w.heap.size]? = some (.cells #[.int .i64 id, .int .i64 ph, .slice fa fn fc, .int .i64 th, .slice ma mn mc] 63 (0, 0))) := Lib.hid (by rw [hW6, blk_set (keepU B4.out X5.out)]; rfl)
          have R6 : Hid (W6.heap[w.heap.size + 2]? = some (.cells #[.int .i64 0, .int .i64 0, .slice none 0 0, .int .i64 0, .slice none 0 0] 63 (0, 0))) := Lib.hid (by rw [hW6, set_other _ _ _ _ (by show w.heap.size + 2 ≠ w.heap.size; omega)]; exact keepU R4.out X5.out)
          have X6 : Hid (Ext w W6) := Lib.hid (hW6 ▸ below_set (X4.out.trans X5.out) (Nat.le_refl _) _)
          have S6 : Hid (Sl W6 (.slice fa fn fc) S2) := Lib.hid (hW6 ▸ slOffU (S4.out.ext X5.out) N4.out (off_set w5 ⟨w.heap.size, 4, none⟩ _) (by show w.heap.size < _; omega))
          have O6 : Hid (Ow W6 W4.heap.size (.slice ma mn mc) N) := Lib.hid (hW6 ▸ O5.out.set (d := ⟨w.heap.size, 4, none⟩) (by show w.heap.size < _; omega) _)
          rw [← hW6]
          clear hW6 d0 d1 d2 d3 d4 c4 f4 O5
          obtain ⟨⟨d0, d1, d2⟩, d3, d4⟩ := cells5 B6.out
          go_wp2_with (first | refine haltst 63 ?_)
          refine .inl ?_
          refine st_l 63 (.tmp 6) (.tmp 57) (w.heap.size + 2) 0 63 #[.int .i64 0, .int .i64 0, .slice none 0 0, .int .i64 0, .slice none 0 0] #[.int .i64 id, .int .i64 ph, .slice fa fn fc, .int .i64 th, .slice ma mn mc] #[.int .i64 id, .int .i64 ph, .slice fa fn fc, .int .i64 th, .slice ma mn mc] rfl rfl R6.out (by kernel_rfl) (by simp) rfl rfl ?_
          intro W9 hW9 o9
          simp only [Act.put]
          go_wp2
          exact bodyPost_ret (v := .tuple #[.agg #[.int .i64 id, .int .i64 ph, .slice fa fn fc, .int .i64 th, .slice ma mn mc], .int .i64 0]) (res_ct 7 rfl rfl hW9 uDrinker (by kernel_rfl)) rfl (by
            rw [HR.out]
            have x9 := ext_off X6.out o9 (fun b hb => by omega)
            exact ⟨_, _, rfl, slOffU S6.out N4.out o9 (by omega), (owU O6.out (fun b hb => o9.block b (O6.out.low b hb).2 (by have := (O6.out.low b hb).1; omega))).sl, x9, fun b hb => by have := (O6.out.low b hb).1; omega⟩)
        · have t9 : (er != 0) = true := by simp [her]
          have HR := Lib.hid (HRA.out.2 her)
          obtain ⟨⟨d0, d1, d2⟩, d3, d4⟩ := cells5 B40.out
          clear HRA her
          go_upto_region 9 with (fail)
          go_wp2_with (first | refine haltst 63 ?_)
          refine .inl ?_
          refine st_l 63 (.tmp 6) (.tmp 51) (w.heap.size + 2) 0 63 #[.int .i64 0, .int .i64 0, .slice none 0 0, .int .i64 0, .slice none 0 0] #[.int .i64 0, .int .i64 0, .slice none 0 0, .int .i64 0, .slice none 0 0] #[.int .i64 0, .int .i64 0, .slice none 0 0, .int .i64 0, .slice none 0 0] rfl rfl R4.out (by kernel_rfl) (by simp) rfl rfl ?_
          intro W9 hW9 o9
          simp only [Act.put]
          go_wp2
          exact bodyPost_ret (v := .tuple #[.agg #[.int .i64 0, .int .i64 0, .slice none 0 0, .int .i64 0, .slice none 0 0], .int .i64 er]) (res_ct 7 rfl rfl hW9 uDrinker (by kernel_rfl)) rfl (givesDNNo HR.out (ext_off X4.out o9 (fun b hb => by omega)))
      · have t3 : (kd == 3) = false := by simp [k3]
        by_cases k4 : kd = 4
        · have t4 : (kd == 4) = true := by simp [k4]
          clear k3 k4
          obtain ⟨⟨⟨gi, gp, S2⟩, er⟩, hgr⟩ : ∃ q, getR ⟨id, ph, L⟩ p kd me n = q := ⟨_, rfl⟩
          have HRA := Lib.hid (getK_dine HT.out HA.out hgr)
          have HGE := Lib.hid (hgr ▸ get_any w1 id ph p kd me n _ L (HS.out.ext X1.out) hl : Calls Tryz.prog 135 #[.agg #[.int .i64 id, .int .i64 ph, .slice ao L.length c], .int .i64 p, .agg #[.int .i64 kd, .int .i64 me, .int .i64 n]] w1 (GivesE w1 (⟨gi, gp, S2⟩, er)))
          clear hgr
          go_upto_region 8 with (first
            | (go_at_call 135; refine HGE.out.mono ?_; rintro e w3 ⟨v3, rfl, s3, x3, n3⟩; obtain ⟨fa, fn, fc, rfl⟩ : ∃ a n c, v3 = Value.slice a n c := (by obtain ⟨a, c, q⟩ := s3.len; exact ⟨a, _, c, q⟩); dsimp only at s3; have S3 := Lib.hid s3; have X3 : Hid (Ext w1 w3) := Lib.hid x3; have N3 := Lib.hid n3; clear s3 x3 n3)
            | refine haltst 61 ?_)
          refine .inl ?_
          refine st_l 61 (.tmp 48) (.tmp 46) w.heap.size 0 63 #[.int .i64 id, .int .i64 ph, .slice ao L.length c, .int .i64 th, .slice na N.length nc] #[.int .i64 gi, .int .i64 gp, .slice fa fn fc] #[.int .i64 gi, .int .i64 gp, .slice fa fn fc, .int .i64 th, .slice na N.length nc] rfl rfl (keepU (keepU D0.out X1.out) X3.out) (by kernel_rfl) (by simp) rfl rfl ?_
          intro W4 hW4 o4
          simp only [Act.put]
          have hz1 : w.heap.size + 3 ≤ w1.heap.size := by have := blk_lt (keepU R0.out X1.out); omega
          have B40 := Lib.hid hW4
          have R4 : Hid (W4.heap[w.heap.size + 2]? = some (.cells #[.int .i64 0, .int .i64 0, .slice none 0 0, .int .i64 0, .slice none 0 0] 63 (0, 0))) := Lib.hid ((o4.block _ (blk_lt (keepU (keepU R0.out X1.out) X3.out)) (by omega)).trans (keepU (keepU R0.out X1.out) X3.out))
          have X4 : Hid (Ext w W4) := Lib.hid (ext_off (X0.out.trans (X1.out.trans X3.out)) o4 (fun b hb => by omega))
          have N4 : Hid (∀ b, (Value.slice fa fn fc).ownBlock = some b → w.heap.size + 3 ≤ b) := Lib.hid (fun b hb => by have := N3.out b hb; omega)
          have S4 : Hid (Sl W4 (.slice fa fn fc) S2) := Lib.hid (slOffU S3.out N4.out o4 (by omega))
          clear hW4 o4 d0 d1 d2 d3 d4 m0 m1 m2 S3 N3 HGE
          by_cases her : er = 0
          · obtain ⟨hR, rfl, rfl⟩ := HRA.out.1 her
            subst her
            have HR := Lib.hid hR
            have B4 := B40
            clear HRA hR B40
            obtain ⟨⟨d0, d1, d2⟩, d3, d4⟩ := cells5 B4.out
            go_upto_region 10 with (fail)
            go_upto_region 11 with (first
              | (go_at_call 127; refine (clone_i W4 _ N (HNw.out.ext X4.out) hlN).mono ?_; rintro e w5 ⟨v5, rfl, o5, x5⟩; obtain ⟨ma, mn, mc, rfl⟩ := o5.sh; have X5 : Hid (Ext W4 w5) := Lib.hid x5; have O5 := Lib.hid o5; have c4 := blk_cell (keepU B4.out x5) 4 rfl; have f4 := blk_free (keepU B4.out x5) 4; clear o5 x5))
            obtain ⟨W6, hW6⟩ : ∃ W6, W6 = w5.setCell ⟨w.heap.size, 4, none⟩ (.slice ma mn mc) := ⟨_, rfl⟩
            have hz4 : w.heap.size + 3 ≤ W4.heap.size := by have := blk_lt R4.out; omega
            have B6 : Hid (W6.heap[w.heap.size]? = some (.cells #[.int .i64 id, .int .i64 ph, .slice fa fn fc, .int .i64 th, .slice ma mn mc] 63 (0, 0))) := Lib.hid (by rw [hW6, blk_set (keepU B4.out X5.out)]; rfl)
            have R6 : Hid (W6.heap[w.heap.size + 2]? = some (.cells #[.int .i64 0, .int .i64 0, .slice none 0 0, .int .i64 0, .slice none 0 0] 63 (0, 0))) := Lib.hid (by rw [hW6, set_other _ _ _ _ (by show w.heap.size + 2 ≠ w.heap.size; omega)]; exact keepU R4.out X5.out)
            have X6 : Hid (Ext w W6) := Lib.hid (hW6 ▸ below_set (X4.out.trans X5.out) (Nat.le_refl _) _)
            have S6 : Hid (Sl W6 (.slice fa fn fc) S2) := Lib.hid (hW6 ▸ slOffU (S4.out.ext X5.out) N4.out (off_set w5 ⟨w.heap.size, 4, none⟩ _) (by show w.heap.size < _; omega))
            have O6 : Hid (Ow W6 W4.heap.size (.slice ma mn mc) N) := Lib.hid (hW6 ▸ O5.out.set (d := ⟨w.heap.size, 4, none⟩) (by show w.heap.size < _; omega) _)
            rw [← hW6]
            clear hW6 d0 d1 d2 d3 d4 c4 f4 O5
            obtain ⟨⟨d0, d1, d2⟩, d3, d4⟩ := cells5 B6.out
            go_wp2_with (first | refine haltst 63 ?_)
            refine .inl ?_
            refine st_l 63 (.tmp 6) (.tmp 57) (w.heap.size + 2) 0 63 #[.int .i64 0, .int .i64 0, .slice none 0 0, .int .i64 0, .slice none 0 0] #[.int .i64 id, .int .i64 ph, .slice fa fn fc, .int .i64 th, .slice ma mn mc] #[.int .i64 id, .int .i64 ph, .slice fa fn fc, .int .i64 th, .slice ma mn mc] rfl rfl R6.out (by kernel_rfl) (by simp) rfl rfl ?_
            intro W9 hW9 o9
            simp only [Act.put]
            go_wp2
            exact bodyPost_ret (v := .tuple #[.agg #[.int .i64 id, .int .i64 ph, .slice fa fn fc, .int .i64 th, .slice ma mn mc], .int .i64 0]) (res_ct 7 rfl rfl hW9 uDrinker (by kernel_rfl)) rfl (by
              rw [HR.out]
              have x9 := ext_off X6.out o9 (fun b hb => by omega)
              exact ⟨_, _, rfl, slOffU S6.out N4.out o9 (by omega), (owU O6.out (fun b hb => o9.block b (O6.out.low b hb).2 (by have := (O6.out.low b hb).1; omega))).sl, x9, fun b hb => by have := (O6.out.low b hb).1; omega⟩)
          · have t9 : (er != 0) = true := by simp [her]
            have HR := Lib.hid (HRA.out.2 her)
            obtain ⟨⟨d0, d1, d2⟩, d3, d4⟩ := cells5 B40.out
            clear HRA her
            go_upto_region 9 with (fail)
            go_wp2_with (first | refine haltst 63 ?_)
            refine .inl ?_
            refine st_l 63 (.tmp 6) (.tmp 51) (w.heap.size + 2) 0 63 #[.int .i64 0, .int .i64 0, .slice none 0 0, .int .i64 0, .slice none 0 0] #[.int .i64 0, .int .i64 0, .slice none 0 0, .int .i64 0, .slice none 0 0] #[.int .i64 0, .int .i64 0, .slice none 0 0, .int .i64 0, .slice none 0 0] rfl rfl R4.out (by kernel_rfl) (by simp) rfl rfl ?_
            intro W9 hW9 o9
            simp only [Act.put]
            go_wp2
            exact bodyPost_ret (v := .tuple #[.agg #[.int .i64 0, .int .i64 0, .slice none 0 0, .int .i64 0, .slice none 0 0], .int .i64 er]) (res_ct 7 rfl rfl hW9 uDrinker (by kernel_rfl)) rfl (givesDNNo HR.out (ext_off X4.out o9 (fun b hb => by omega)))
        · have t4 : (kd == 4) = false := by simp [k4]
          clear k3 k4
          obtain ⟨⟨⟨gi, gp, S2⟩, er⟩, hgr⟩ : ∃ q, getR ⟨id, ph, L⟩ p kd me n = q := ⟨_, rfl⟩
          have HRA := Lib.hid (getK_dine HT.out HA.out hgr)
          have HGE := Lib.hid (hgr ▸ get_any w1 id ph p kd me n _ L (HS.out.ext X1.out) hl : Calls Tryz.prog 135 #[.agg #[.int .i64 id, .int .i64 ph, .slice ao L.length c], .int .i64 p, .agg #[.int .i64 kd, .int .i64 me, .int .i64 n]] w1 (GivesE w1 (⟨gi, gp, S2⟩, er)))
          clear hgr
          go_upto_region 8 with (first
            | (go_at_call 135; refine HGE.out.mono ?_; rintro e w3 ⟨v3, rfl, s3, x3, n3⟩; obtain ⟨fa, fn, fc, rfl⟩ : ∃ a n c, v3 = Value.slice a n c := (by obtain ⟨a, c, q⟩ := s3.len; exact ⟨a, _, c, q⟩); dsimp only at s3; have S3 := Lib.hid s3; have X3 : Hid (Ext w1 w3) := Lib.hid x3; have N3 := Lib.hid n3; clear s3 x3 n3)
            | refine haltst 61 ?_)
          refine .inl ?_
          refine st_l 61 (.tmp 48) (.tmp 46) w.heap.size 0 63 #[.int .i64 id, .int .i64 ph, .slice ao L.length c, .int .i64 th, .slice na N.length nc] #[.int .i64 gi, .int .i64 gp, .slice fa fn fc] #[.int .i64 gi, .int .i64 gp, .slice fa fn fc, .int .i64 th, .slice na N.length nc] rfl rfl (keepU (keepU D0.out X1.out) X3.out) (by kernel_rfl) (by simp) rfl rfl ?_
          intro W4 hW4 o4
          simp only [Act.put]
          have hz1 : w.heap.size + 3 ≤ w1.heap.size := by have := blk_lt (keepU R0.out X1.out); omega
          have B40 := Lib.hid hW4
          have R4 : Hid (W4.heap[w.heap.size + 2]? = some (.cells #[.int .i64 0, .int .i64 0, .slice none 0 0, .int .i64 0, .slice none 0 0] 63 (0, 0))) := Lib.hid ((o4.block _ (blk_lt (keepU (keepU R0.out X1.out) X3.out)) (by omega)).trans (keepU (keepU R0.out X1.out) X3.out))
          have X4 : Hid (Ext w W4) := Lib.hid (ext_off (X0.out.trans (X1.out.trans X3.out)) o4 (fun b hb => by omega))
          have N4 : Hid (∀ b, (Value.slice fa fn fc).ownBlock = some b → w.heap.size + 3 ≤ b) := Lib.hid (fun b hb => by have := N3.out b hb; omega)
          have S4 : Hid (Sl W4 (.slice fa fn fc) S2) := Lib.hid (slOffU S3.out N4.out o4 (by omega))
          clear hW4 o4 d0 d1 d2 d3 d4 m0 m1 m2 S3 N3 HGE
          by_cases her : er = 0
          · obtain ⟨hR, rfl, rfl⟩ := HRA.out.1 her
            subst her
            have HR := Lib.hid hR
            have B4 := B40
            clear HRA hR B40
            obtain ⟨⟨d0, d1, d2⟩, d3, d4⟩ := cells5 B4.out
            go_upto_region 10 with (fail)
            go_upto_region 11 with (first
              | (go_at_call 127; refine (clone_i W4 _ N (HNw.out.ext X4.out) hlN).mono ?_; rintro e w5 ⟨v5, rfl, o5, x5⟩; obtain ⟨ma, mn, mc, rfl⟩ := o5.sh; have X5 : Hid (Ext W4 w5) := Lib.hid x5; have O5 := Lib.hid o5; have c4 := blk_cell (keepU B4.out x5) 4 rfl; have f4 := blk_free (keepU B4.out x5) 4; clear o5 x5))
            obtain ⟨W6, hW6⟩ : ∃ W6, W6 = w5.setCell ⟨w.heap.size, 4, none⟩ (.slice ma mn mc) := ⟨_, rfl⟩
            have hz4 : w.heap.size + 3 ≤ W4.heap.size := by have := blk_lt R4.out; omega
            have B6 : Hid (W6.heap[w.heap.size]? = some (.cells #[.int .i64 id, .int .i64 ph, .slice fa fn fc, .int .i64 th, .slice ma mn mc] 63 (0, 0))) := Lib.hid (by rw [hW6, blk_set (keepU B4.out X5.out)]; rfl)
            have R6 : Hid (W6.heap[w.heap.size + 2]? = some (.cells #[.int .i64 0, .int .i64 0, .slice none 0 0, .int .i64 0, .slice none 0 0] 63 (0, 0))) := Lib.hid (by rw [hW6, set_other _ _ _ _ (by show w.heap.size + 2 ≠ w.heap.size; omega)]; exact keepU R4.out X5.out)
            have X6 : Hid (Ext w W6) := Lib.hid (hW6 ▸ below_set (X4.out.trans X5.out) (Nat.le_refl _) _)
            have S6 : Hid (Sl W6 (.slice fa fn fc) S2) := Lib.hid (hW6 ▸ slOffU (S4.out.ext X5.out) N4.out (off_set w5 ⟨w.heap.size, 4, none⟩ _) (by show w.heap.size < _; omega))
            have O6 : Hid (Ow W6 W4.heap.size (.slice ma mn mc) N) := Lib.hid (hW6 ▸ O5.out.set (d := ⟨w.heap.size, 4, none⟩) (by show w.heap.size < _; omega) _)
            rw [← hW6]
            clear hW6 d0 d1 d2 d3 d4 c4 f4 O5
            obtain ⟨⟨d0, d1, d2⟩, d3, d4⟩ := cells5 B6.out
            go_wp2_with (first | refine haltst 63 ?_)
            refine .inl ?_
            refine st_l 63 (.tmp 6) (.tmp 57) (w.heap.size + 2) 0 63 #[.int .i64 0, .int .i64 0, .slice none 0 0, .int .i64 0, .slice none 0 0] #[.int .i64 id, .int .i64 ph, .slice fa fn fc, .int .i64 th, .slice ma mn mc] #[.int .i64 id, .int .i64 ph, .slice fa fn fc, .int .i64 th, .slice ma mn mc] rfl rfl R6.out (by kernel_rfl) (by simp) rfl rfl ?_
            intro W9 hW9 o9
            simp only [Act.put]
            go_wp2
            exact bodyPost_ret (v := .tuple #[.agg #[.int .i64 id, .int .i64 ph, .slice fa fn fc, .int .i64 th, .slice ma mn mc], .int .i64 0]) (res_ct 7 rfl rfl hW9 uDrinker (by kernel_rfl)) rfl (by
              rw [HR.out]
              have x9 := ext_off X6.out o9 (fun b hb => by omega)
              exact ⟨_, _, rfl, slOffU S6.out N4.out o9 (by omega), (owU O6.out (fun b hb => o9.block b (O6.out.low b hb).2 (by have := (O6.out.low b hb).1; omega))).sl, x9, fun b hb => by have := (O6.out.low b hb).1; omega⟩)
          · have t9 : (er != 0) = true := by simp [her]
            have HR := Lib.hid (HRA.out.2 her)
            obtain ⟨⟨d0, d1, d2⟩, d3, d4⟩ := cells5 B40.out
            clear HRA her
            go_upto_region 9 with (fail)
            go_wp2_with (first | refine haltst 63 ?_)
            refine .inl ?_
            refine st_l 63 (.tmp 6) (.tmp 51) (w.heap.size + 2) 0 63 #[.int .i64 0, .int .i64 0, .slice none 0 0, .int .i64 0, .slice none 0 0] #[.int .i64 0, .int .i64 0, .slice none 0 0, .int .i64 0, .slice none 0 0] #[.int .i64 0, .int .i64 0, .slice none 0 0, .int .i64 0, .slice none 0 0] rfl rfl R4.out (by kernel_rfl) (by simp) rfl rfl ?_
            intro W9 hW9 o9
            simp only [Act.put]
            go_wp2
            exact bodyPost_ret (v := .tuple #[.agg #[.int .i64 0, .int .i64 0, .slice none 0 0, .int .i64 0, .slice none 0 0], .int .i64 er]) (res_ct 7 rfl rfl hW9 uDrinker (by kernel_rfl)) rfl (givesDNNo HR.out (ext_off X4.out o9 (fun b hb => by omega)))
end Go.Proofs.YtfbambemjokmgaaGreat
