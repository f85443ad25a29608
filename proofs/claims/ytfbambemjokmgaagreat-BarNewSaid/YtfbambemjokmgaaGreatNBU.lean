/- Texts of this seat. -/
import Derived.Test.YtfbambemjokmgaaGreatNBM
namespace Go.Proofs.YtfbambemjokmgaaGreat
open Go.RowKit
set_option maxRecDepth 100000 in
set_option maxHeartbeats 4000000 in
theorem ownDnO_any (w : World) (id ph : Int) (v : Value) (L : List Sd) (h : Sl w v L) (hl : L.length ≤ 1000) :
    Calls Tryz.prog 93 #[.agg #[.int .i64 id, .int .i64 ph, v]] w fun e w' => ∃ v', e = .returned (.agg #[.int .i64 id, .int .i64 ph, v']) ∧ Ow w' (w.heap.size + 2) v' L ∧ Ext w w' := by
  obtain ⟨ao, c, rfl⟩ := h.len
  obtain ⟨W0, hW0⟩ : ∃ W0, W0 = (w.alloc (.cells #[.int .i64 id, .int .i64 ph, .slice ao L.length c] 61)).alloc (.cells #[.int .i64 0, .int .i64 0, .slice none 0 0] 61) := ⟨_, rfl⟩
  have X0 : Hid (Ext w W0) := Lib.hid (hW0 ▸ ((Ext.refl w).alloc _).alloc _)
  have D0 : Hid (W0.heap[w.heap.size]? = some (.cells #[.int .i64 id, .int .i64 ph, .slice ao L.length c] 61 (0, 0))) := Lib.hid (hW0 ▸ old1 (at0 w _) _)
  have R0 : Hid (W0.heap[w.heap.size + 1]? = some (.cells #[.int .i64 0, .int .i64 0, .slice none 0 0] 61 (0, 0))) := Lib.hid (hW0 ▸ at1 w _ _)
  have hs0 : W0.heap.size = w.heap.size + 2 := by rw [hW0, size_alloc, size_alloc]
  have HW0 := Lib.hid hW0
  have HS := Lib.hid (h.ext X0.out)
  clear h hW0
  go_enter Tryz.func93, Tryz.ntmps93
  go_upto_region 1 with (fail)
  rw [← HW0.out]
  have q2 : (W0.alloc (.cells #[] 66)).cell? ⟨w.heap.size, 2, none⟩ = some (.slice ao L.length c) := blk_cell (old1 D0.out _) 2 rfl
  go_upto_region 2 with (first
    | (at_builtin; refine wpList_append_sl (α := Sd) rfl (.tmp 3) (.tmp 5) rfl (w.heap.size + 2) (.slice (some ⟨_, 0, none⟩) 0 0) [] rfl ?_ _ L rfl ?_ ?_ ?_ ?_; exact (Ow.litAt W0 _ _ hs0.symm (by omega) [] (by simp)); exact (HS.out.alloc _); (first | omega | (simp; omega)); exact (by rw [size_alloc]; omega); intro v6 W6 ho6 ha6; obtain ⟨a6, n6, c6, rfl⟩ := ho6.sh; have O6 : Hid (Ow W6 (w.heap.size + 2) (.slice a6 n6 c6) L) := Lib.hid ho6; have X6 : Hid (Below (w.heap.size + 2) W0 W6) := Lib.hid (Below.trans (hs0 ▸ Ext.alloc (Ext.refl W0) _) ha6.below); have b60 := blk_cell ((X6.out.block w.heap.size (by omega)).trans D0.out) 2 rfl; have f60 := blk_free ((X6.out.block w.heap.size (by omega)).trans D0.out) 2; clear ho6 ha6))
  obtain ⟨W7, hW7⟩ : ∃ W7, W7 = W6.setCell ⟨w.heap.size, 2, none⟩ (.slice a6 n6 c6) := ⟨_, rfl⟩
  have D7 : Hid (W7.heap[w.heap.size]? = some (.cells #[.int .i64 id, .int .i64 ph, .slice a6 n6 c6] 61 (0, 0))) := Lib.hid (by rw [hW7, blk_set ((X6.out.block w.heap.size (by omega)).trans D0.out)]; rfl)
  have R7 : Hid (W7.heap[w.heap.size + 1]? = some (.cells #[.int .i64 0, .int .i64 0, .slice none 0 0] 61 (0, 0))) := Lib.hid (by rw [hW7, set_other _ _ _ _ (by show w.heap.size + 1 ≠ w.heap.size; omega)]; exact (X6.out.block _ (by omega)).trans R0.out)
  have O7 : Hid (Ow W7 (w.heap.size + 2) (.slice a6 n6 c6) L) := Lib.hid (hW7 ▸ O6.out.set (d := ⟨w.heap.size, 2, none⟩) (by show w.heap.size < _; omega) _)
  have X7 : Hid (Ext w W7) := Lib.hid (hW7 ▸ below_set (Below.trans X0.out (Below.mono X6.out (by omega))) (Nat.le_refl _) _)
  rw [← hW7]
  clear hW7 O6 q2 b60 f60 X6
  obtain ⟨d0, d1, d2⟩ := cells3V D7.out
  go_wp2_with (first | refine haltst 61 ?_)
  refine .inl ?_
  refine st_l 61 (.tmp 2) (.tmp 8) (w.heap.size + 1) 0 61 #[.int .i64 0, .int .i64 0, .slice none 0 0] #[.int .i64 id, .int .i64 ph, .slice a6 n6 c6] #[.int .i64 id, .int .i64 ph, .slice a6 n6 c6] rfl rfl R7.out (by kernel_rfl) (by simp) rfl rfl ?_
  intro W9 hW9 o9
  simp only [Act.put]
  go_wp2
  exact bodyPost_ret (v := .agg #[.int .i64 id, .int .i64 ph, .slice a6 n6 c6]) (res_c rfl rfl hW9 uDiner (by kernel_rfl)) rfl ⟨_, rfl, owU O7.out (fun b hb => o9.block b (O7.out.low b hb).2 (by have := (O7.out.low b hb).1; omega)), ext_off X7.out o9 (fun b hb => by omega)⟩
set_option maxRecDepth 100000 in
set_option maxHeartbeats 4000000 in
theorem dkOwnO_any (w : World) (id ph th : Int) (v nv : Value) (L : List Sd) (N : List Int) (h : Sl w v L) (hN : Sl w nv N) (hl : L.length ≤ 1000) (hlN : N.length ≤ 1000) :
    Calls Tryz.prog 50 #[.agg #[.int .i64 id, .int .i64 ph, v, .int .i64 th, nv]] w fun e w' => ∃ v' nv', e = .returned (.agg #[.int .i64 id, .int .i64 ph, v', .int .i64 th, nv']) ∧ Ow w' (w.heap.size + 2) v' L ∧ Ow w' (w.heap.size + 2) nv' N ∧ Ext w w' := by
  obtain ⟨ao, c, rfl⟩ := h.len
  obtain ⟨na, nc, rfl⟩ := hN.len
  obtain ⟨W0, hW0⟩ : ∃ W0, W0 = (w.alloc (.cells #[.int .i64 id, .int .i64 ph, .slice ao L.length c, .int .i64 th, .slice na N.length nc] 63)).alloc (.cells #[.int .i64 0, .int .i64 0, .slice none 0 0, .int .i64 0, .slice none 0 0] 63) := ⟨_, rfl⟩
  have X0 : Hid (Ext w W0) := Lib.hid (hW0 ▸ ((Ext.refl w).alloc _).alloc _)
  have D0 : Hid (W0.heap[w.heap.size]? = some (.cells #[.int .i64 id, .int .i64 ph, .slice ao L.length c, .int .i64 th, .slice na N.length nc] 63 (0, 0))) := Lib.hid (hW0 ▸ old1 (at0 w _) _)
  have R0 : Hid (W0.heap[w.heap.size + 1]? = some (.cells #[.int .i64 0, .int .i64 0, .slice none 0 0, .int .i64 0, .slice none 0 0] 63 (0, 0))) := Lib.hid (hW0 ▸ at1 w _ _)
  have HW0 := Lib.hid hW0
  have HZ0 : Hid (W0.heap.size = w.heap.size + 2) := Lib.hid (by rw [hW0, size_alloc, size_alloc])
  have HOW := Lib.hid (ownDnO_any W0 id ph _ L (h.ext X0.out) hl)
  have HNw := Lib.hid hN
  clear h hN hW0
  obtain ⟨⟨d0, d1, d2⟩, d3, d4⟩ := cells5 D0.out
  go_enter Tryz.func50, Tryz.ntmps50
  go_upto_region 1 with (fail)
  rw [← HW0.out]
  go_wp2_with (first
    | (go_at_call 93; refine HOW.out.mono ?_; rintro e w2 ⟨v2, rfl, s2, x2⟩; obtain ⟨fa, fn, fc, rfl⟩ : ∃ a n c, v2 = Value.slice a n c := (by exact s2.sh); have S2 := Lib.hid s2; have X2 : Hid (Ext W0 w2) := Lib.hid x2; clear s2 x2)
    | refine haltst 61 ?_)
  refine .inl ?_
  refine st_l 61 (.tmp 6) (.tmp 5) w.heap.size 0 63 #[.int .i64 id, .int .i64 ph, .slice ao L.length c, .int .i64 th, .slice na N.length nc] #[.int .i64 id, .int .i64 ph, .slice fa fn fc] #[.int .i64 id, .int .i64 ph, .slice fa fn fc, .int .i64 th, .slice na N.length nc] rfl rfl (keepU D0.out X2.out) (by kernel_rfl) (by simp) rfl rfl ?_
  intro W4 hW4 o4
  simp only [Act.put]
  have D4 := Lib.hid hW4
  have R4 : Hid (W4.heap[w.heap.size + 1]? = some (.cells #[.int .i64 0, .int .i64 0, .slice none 0 0, .int .i64 0, .slice none 0 0] 63 (0, 0))) := Lib.hid (o4.blk (keepU R0.out X2.out) (by omega))
  have S4 := Lib.hid (owU (S2.out.mono (show w.heap.size + 2 ≤ _ by have := HZ0.out; omega)) (fun b hb => o4.block b (S2.out.low b hb).2 (by have := (S2.out.low b hb).1; have := HZ0.out; omega)))
  have X4 : Hid (Ext w W4) := Lib.hid (ext_off (X0.out.trans X2.out) o4 (fun b hb => by omega))
  have HN4 := Lib.hid (HNw.out.ext X4.out)
  clear hW4 o4 S2 d0 d1 d2 d3 d4
  have q4 : (W4.alloc (.cells #[] 3)).cell? ⟨w.heap.size, 4, none⟩ = some (.slice na N.length nc) := blk_cell (old1 D4.out _) 4 rfl
  go_upto_region 3 with (first
    | (at_builtin; refine wpList_append_sl (α := Int) rfl (.tmp 7) (.tmp 9) rfl W4.heap.size (.slice (some ⟨_, 0, none⟩) 0 0) [] rfl ?_ _ N rfl ?_ ?_ ?_ ?_; exact (Ow.litAt W4 _ _ rfl (Nat.le_refl _) [] (by simp)); exact (HN4.out.alloc _); (first | omega | (simp; omega)); exact (by rw [size_alloc]; omega); intro v6 W6 ho6 ha6; obtain ⟨a6, n6, c6, rfl⟩ := ho6.sh; have O6 : Hid (Ow W6 W4.heap.size (.slice a6 n6 c6) N) := Lib.hid ho6; have X6 : Hid (Ext W4 W6) := Lib.hid (Below.trans (Ext.alloc (Ext.refl W4) _) ha6.below); have c64 := blk_cell (keepU D4.out X6.out) 4 rfl; have f64 := blk_free (keepU D4.out X6.out) 4; clear ho6 ha6))
  obtain ⟨W7, hW7⟩ : ∃ W7, W7 = W6.setCell ⟨w.heap.size, 4, none⟩ (.slice a6 n6 c6) := ⟨_, rfl⟩
  have o7 : Off (fun k => k = w.heap.size) W6 W7 := hW7 ▸ off_set W6 ⟨w.heap.size, 4, none⟩ _
  have hz4 : w.heap.size + 2 ≤ W4.heap.size := by have := blk_lt R4.out; omega
  have D7 : Hid (W7.heap[w.heap.size]? = some (.cells #[.int .i64 id, .int .i64 ph, .slice fa fn fc, .int .i64 th, .slice a6 n6 c6] 63 (0, 0))) := Lib.hid (by rw [hW7, blk_set (keepU D4.out X6.out)]; rfl)
  have R7 := Lib.hid (o7.blk (keepU R4.out X6.out) (by omega))
  have S7 := Lib.hid (owU (S4.out.ext X6.out) (fun b hb => o7.block b ((S4.out.ext X6.out).low b hb).2 (by have := ((S4.out.ext X6.out).low b hb).1; omega)))
  have O7 : Hid (Ow W7 W4.heap.size (.slice a6 n6 c6) N) := Lib.hid (hW7 ▸ O6.out.set (d := ⟨w.heap.size, 4, none⟩) (by show w.heap.size < _; omega) _)
  have X7 : Hid (Ext w W7) := Lib.hid (ext_off (X4.out.trans X6.out) o7 (fun b hb => by omega))
  rw [← hW7]
  clear hW7 o7 q4 c64 f64
  obtain ⟨⟨d0, d1, d2⟩, d3, d4⟩ := cells5 D7.out
  go_wp2_with (first | refine haltst 63 ?_)
  refine .inl ?_
  refine st_l 63 (.tmp 2) (.tmp 12) (w.heap.size + 1) 0 63 #[.int .i64 0, .int .i64 0, .slice none 0 0, .int .i64 0, .slice none 0 0] #[.int .i64 id, .int .i64 ph, .slice fa fn fc, .int .i64 th, .slice a6 n6 c6] #[.int .i64 id, .int .i64 ph, .slice fa fn fc, .int .i64 th, .slice a6 n6 c6] rfl rfl R7.out (by kernel_rfl) (by simp) rfl rfl ?_
  intro W9 hW9 o9
  simp only [Act.put]
  go_wp2
  exact bodyPost_ret (v := .agg #[.int .i64 id, .int .i64 ph, .slice fa fn fc, .int .i64 th, .slice a6 n6 c6]) (res_c rfl rfl hW9 uDrinker (by kernel_rfl)) rfl ⟨_, _, rfl, owU S7.out (fun b hb => o9.block b (S7.out.low b hb).2 (by have := (S7.out.low b hb).1; omega)), (owU O7.out (fun b hb => o9.block b (O7.out.low b hb).2 (by have := (O7.out.low b hb).1; omega))).mono (by omega), ext_off X7.out o9 (fun b hb => by omega)⟩
set_option maxRecDepth 100000 in
set_option maxHeartbeats 16000000 in
theorem ownB_any (w : World) (vk vm : Value) (L : List Dk) (M : List Ml) (h : BV w vk vm L M) (hl : SmB L M) :
    Calls Tryz.prog 14 #[.agg #[vk, vm]] w fun e w' => ∃ vk' vm', e = .returned (.agg #[vk', vm']) ∧ BV w' vk' vm' L M ∧ Ext w w' := by
  obtain ⟨ao, c, bo, d, rfl, rfl⟩ := h.len
  obtain ⟨W0, hW0⟩ : ∃ W0, W0 = (w.alloc (.cells #[.slice ao L.length c, .slice bo M.length d] 25)).alloc (.cells #[.slice none 0 0, .slice none 0 0] 25) := ⟨_, rfl⟩
  have X0 : Hid (Ext w W0) := Lib.hid (hW0 ▸ ((Ext.refl w).alloc _).alloc _)
  have B0 : Hid (W0.heap[w.heap.size]? = some (.cells #[.slice ao L.length c, .slice bo M.length d] 25 (0, 0))) := Lib.hid (hW0 ▸ old1 (at0 w _) _)
  have R0 : Hid (W0.heap[w.heap.size + 1]? = some (.cells #[.slice none 0 0, .slice none 0 0] 25 (0, 0))) := Lib.hid (hW0 ▸ at1 w _ _)
  have HZ0 : Hid (W0.heap.size = w.heap.size + 2) := Lib.hid (by rw [hW0, size_alloc, size_alloc])
  have HW0 := Lib.hid hW0
  have HV := Lib.hid (h.ext X0.out)
  have HL := Lib.hid hl
  have hml := hl.m
  have hnl := hl.n
  clear h hl hW0
  go_enter Tryz.func14, Tryz.ntmps14
  go_upto_region 1 with (fail)
  rw [← HW0.out]
  have q1 : (W0.alloc (.cells #[] 95)).cell? ⟨w.heap.size, 1, none⟩ = some (.slice bo M.length d) := blk_cell (old1 B0.out _) 1 rfl
  go_wp2_with (first
    | (at_builtin; refine wpList_append_sl (α := Ml) rfl (.tmp 5) (.tmp 7) rfl W0.heap.size (.slice (some ⟨_, 0, none⟩) 0 0) [] rfl ?_ _ M rfl ?_ ?_ ?_ ?_; exact (Ow.litAt W0 _ _ rfl (Nat.le_refl _) [] (by simp)); exact (HV.out.ms.alloc _); (first | omega | (simp; omega)); exact (by rw [size_alloc]; omega); intro v6 W6 ho6 ha6; obtain ⟨ma, mn, mc, rfl⟩ := ho6.sh; have M6 := Lib.hid ho6.sl; have X6 : Hid (Ext W0 W6) := Lib.hid (Below.trans (Ext.alloc (Ext.refl W0) _) ha6.below); clear ho6 ha6)
    | refine haltst 25 ?_)
  refine .inl ?_
  obtain ⟨W1, hW1⟩ : ∃ q, q = W6 := ⟨_, rfl⟩
  rw [← hW1] at M6 X6 ⊢
  clear hW1
  obtain ⟨g3, hg3⟩ : ∃ g, g = W1.heap.size := ⟨_, rfl⟩
  have G3 := Lib.hid (at0 W1 (.cells #[.slice none 0 0, .slice none 0 0] 25))
  rw [← hg3] at G3 ⊢
  refine st_l 25 (.tmp 3) (.tmp 9) g3 0 25 _ #[.slice none 0 0, .slice ma mn mc] _ rfl rfl G3.out (by kernel_rfl) (by simp) rfl rfl ?_
  intro W3 hW3 o3
  simp only [Act.put]
  have B3i := Lib.hid hW3
  have X3 : Hid (Ext W1 W3) := Lib.hid (ext_off ((Ext.refl W1).alloc _) o3 (fun b hb => by omega))
  have HG : Hid (W1.heap.size ≤ g3 ∧ W0.heap.size ≤ g3) := Lib.hid ⟨by omega, by have := Below.size X6.out; omega⟩
  have HK : Hid (∀ V, Ext W1 V → V.cell? ⟨w.heap.size, 0, none⟩ = some (.slice ao L.length c) ∧ V.cell? ⟨w.heap.size, 1, none⟩ = some (.slice bo M.length d)) := Lib.hid fun V hV => cells2S (keepU B0.out (X6.out.trans hV))
  have HD := Lib.hid (HV.out.ds.ext X6.out)
  clear hW3 o3 q1 G3 hg3
  go_wp2
  go_loopw [4] (fun i wr => ∃ k : Nat, k ≤ L.length ∧ i = .int .i64 k ∧ ∃ qa qn qc, Hid (wr.heap[g3]? = some (.cells #[.slice qa qn qc, .slice ma mn mc] 25 (0, 0))) ∧ Hid (Nw KV (fun b => b = g3) wr (g3 + 1) (.slice qa qn qc) (L.take k)) ∧ Hid (Ext W1 wr)) (fun i _ => L.length - (intOf i).toNat)
  case atStart => exact ⟨0, Nat.zero_le _, rfl, _, _, _, B3i, Lib.hid (by rw [List.take_zero]; exact Nw.nil _ _ _), X3⟩
  case round =>
    obtain ⟨k, hk, rfl, qa, qn, qc, B3, HQ, XR⟩ := hrel
    obtain ⟨hg1, hg0⟩ := HG.out
    obtain ⟨k0, k1⟩ := HK.out wr XR.out
    by_cases hlt : k < L.length
    · obtain ⟨b2, off2, so2, sc2, no2, nc2, dd, hyk, hao2, hn2, hnc2, hc632, hb2, hsl2, hnl2, hcell2⟩ := HD.out.drinkerAt hlt
      subst hao2
      have HSL := Lib.hid hsl2.sl
      have HNL := Lib.hid hnl2.sl
      have hdl : dd.sides.length ≤ 100 := HL.out.s dd (List.mem_of_getElem? hyk)
      have hdn : dd.need.length ≤ 100 := HL.out.k dd (List.mem_of_getElem? hyk)
      have HTK : Hid (L.take (k + 1) = L.take k ++ [dd]) := Lib.hid (by rw [List.take_succ_eq_append_getElem hlt, (List.getElem?_eq_some_iff.1 hyk).2])
      obtain ⟨xs, hown, hxl, hel⟩ := HQ.out.any
      have HOW := Lib.hid hown
      have HXL := Lib.hid hxl
      have HEL := Lib.hid hel
      have hxs : xs.length ≤ 100 := by rw [hxl]; simp; omega
      have HC := Lib.hid hcell2
      have hki : (k : Int) < (L.length : Int) := by omega
      clear hcell2 hyk hn2 hsl2 hnl2 hown hxl hel
      obtain ⟨d0, d1, d2, d3, d4⟩ := dd
      dsimp only at HC HSL HNL hdl hdn HTK
      go_upto_region 5 with (fail)
      clear k0 k1
      (refine wp_region_X_lit (K := fun V => Ext W1 V) (by kernel_rfl) (fun w1 hw1 => ?_))
      have ZR : Hid (Ext wr w1) := Lib.hid hw1
      have Z1 : Hid (Ext W1 w1) := Lib.hid (XR.out.trans hw1)
      clear hw1
      refine xtv 0 (h := ?_)
      refine xtv 2 (h := ?_)
      refine xtv 3 (hv := by intro w' hw'; have hc := HK.out w' hw'; go_simp; first | done | with_reducible rfl) (h := ?_)
      refine xtv 4 (h := ?_)
      refine xtv 5 (hv := by intro w' hw'; have hz := hki; have hz2 := hnc2; go_simp; first | done | with_reducible rfl) (h := ?_)
      refine xtv 6 (hv := by intro w' hw'; obtain ⟨⟨c0, c1, c2⟩, c3, c4⟩ := HC.out w' hw'; go_simp; first | done | with_reducible rfl) (h := ?_)
      refine xtwo 1 7 (hk := Z1.out) (h := RunX.of 1 (h := ?_)) (h' := RunX.of 7 (h := ?_))
      · have c1 := blk_cell (keepU B3.out ZR.out) 0 rfl
        go_simp
        (try (simp only [Act.put, List.setIfInBounds_toArray, List.set]))
        clear c1
        refine xone 7 (hk := Z1.out) (h := RunX.of 7 (h := ?_))
        go_simp
        refine (dkOwnO_any w1 d0 d1 d3 _ _ d2 d4 (HSL.out.ext Z1.out) (HNL.out.ext Z1.out) (by omega) (by omega)).mono ?_
        rintro e7' w7 ⟨v7, nv7, rfl, o7, p7, x7⟩
        obtain ⟨a7, n7, c7, rfl⟩ := o7.sh
        obtain ⟨b7, m7, e7, rfl⟩ := p7.sh
        have X7 : Hid (Ext wr w7) := Lib.hid (ZR.out.trans x7)
        have hz1 : wr.heap.size ≤ w1.heap.size := Below.size ZR.out
        have O7 := Lib.hid (o7.mono (show wr.heap.size ≤ _ by omega))
        have P7 := Lib.hid (p7.mono (show wr.heap.size ≤ _ by omega))
        clear o7 p7 x7 hz1
        dsimp only
        (try (simp only [Act.put, List.setIfInBounds_toArray, List.set]))
        refine xone 8 (hk := (XR.out.trans X7.out)) (h := RunX.of 8 (h := ?_))
        go_simp
        (try (simp only [Act.put, List.setIfInBounds_toArray, List.set]))
        obtain ⟨w8, hw8⟩ : ∃ q, q = w7.alloc (.cells #[.int .i64 d0, .int .i64 d1, .slice a7 n7 c7, .int .i64 d3, .slice b7 m7 e7] 63) := ⟨_, rfl⟩
        have Y8 : Hid (Ext w7 w8) := Lib.hid (hw8 ▸ (Ext.refl w7).alloc _)
        have X8 : Hid (Ext wr w8) := Lib.hid (X7.out.trans Y8.out)
        have L8 : Hid (Sl w8 (.slice (some ⟨w7.heap.size, 0, none⟩) 1 1) [(⟨d0, d1, a7, n7, c7, d3, b7, m7, e7⟩ : KV)]) := Lib.hid (hw8 ▸ Sl.litAt w7 _ rfl [(⟨d0, d1, a7, n7, c7, d3, b7, m7, e7⟩ : KV)] (show (1 : Nat) ≤ 1000000 by decide))
        rw [← hw8]
        clear hw8

        have hz8 : g3 + 1 ≤ w8.heap.size := by have := Below.size X8.out; have := blk_lt B3.out; omega
        refine xone 9 (hk := (XR.out.trans X8.out)) (h := RunX.of 9 (h := ?_))
        (refine wp_append_sl (α := KV) (.tmp 18) (.tmp 25) rfl (g3 + 1) _ xs rfl ?_ (.slice (some ⟨_, 0, none⟩) 1 1) [(⟨d0, d1, a7, n7, c7, d3, b7, m7, e7⟩ : KV)] rfl ?_ ?_ ?_ ?_; exact (HOW.out.ext X8.out); exact L8.out; (first | omega | (simp; omega)); omega; intro v9 W9 ho9 ha9; obtain ⟨a9, n9, c9, rfl⟩ := ho9.sh; have hx : Nest.rd (Own1 (fun b => b = g3) (.slice qa qn qc)) w8 (⟨d0, d1, a7, n7, c7, d3, b7, m7, e7⟩ : KV) (⟨d0, d1, d2, d3, d4⟩ : Dk) := (⟨rfl, rfl, Sa.new (O7.out.ext Y8.out) (fun k hk => by rcases hk with hk | hk; (have hk : k = g3 := hk; have := blk_lt B3.out; omega); (exact (HOW.out.low k hk).2)), rfl, Sa.new (P7.out.ext Y8.out) (fun k hk => by rcases hk with hk | hk; (have hk : k = g3 := hk; have := blk_lt B3.out; omega); (exact (HOW.out.low k hk).2))⟩ : RdK _ _ _ _); have hst := Nw.step (α := KV) (δ := Dk) (F := fun b => b = g3) (L := L.take k) HXL.out (fun j x e hx he => Nest.ext (HEL.out j x e hx he) X8.out) hx ho9 ha9; have HST := Lib.hid hst; have B9 := Lib.hid ((off_grown ha9.grown).blk (keepU B3.out X8.out) (fun e => by have := (HOW.out.low g3 e).1; omega)); have X9 : Hid (Ext W1 W9) := Lib.hid (Below.trans (XR.out.trans X8.out) (ha9.below.mono (by omega))); clear ho9 ha9 hx hst)
        (try (simp only [Act.put, List.setIfInBounds_toArray, List.set]))
        refine xtv 10 (h := ?_)
        have c9' := blk_cell B9.out 0 rfl
        have f9 := blk_free B9.out 0
        refine xone 11 (hk := X9.out) (h := RunX.of 11 (h := ?_))
        go_simp
        (try (simp only [Act.put, List.setIfInBounds_toArray, List.set]))
        obtain ⟨WA, hWA⟩ : ∃ q, q = W9.setCell ⟨g3, 0, none⟩ (.slice a9 n9 c9) := ⟨_, rfl⟩
        have BA : Hid (WA.heap[g3]? = some (.cells #[.slice a9 n9 c9, .slice ma mn mc] 25 (0, 0))) := Lib.hid (by rw [hWA, blk_set B9.out]; rfl)
        have XA : Hid (Ext W1 WA) := Lib.hid (hWA ▸ below_set X9.out (by show W1.heap.size ≤ g3; omega) _)
        have NA : Hid (Nw KV (fun b => b = g3) WA (g3 + 1) (.slice a9 n9 c9) (L.take (k + 1))) := Lib.hid (by rw [HTK.out, hWA]; exact HST.out.set (d := ⟨g3, 0, none⟩) rfl (Nat.lt_succ_self _) _)
        rw [← hWA]
        clear hWA c9' f9
        (refine xdone (by kernel_rfl) (XA.out) ?_)
        go_wp2
        go_roundw
        case rel => exact ⟨k + 1, by omega, by go_num, _, _, _, BA, NA, XA⟩
        case measure => simp [intOf]; omega
      · go_simp
        refine (dkOwnO_any w1 d0 d1 d3 _ _ d2 d4 (HSL.out.ext Z1.out) (HNL.out.ext Z1.out) (by omega) (by omega)).mono ?_
        rintro e7' w7 ⟨v7, nv7, rfl, o7, p7, x7⟩
        obtain ⟨a7, n7, c7, rfl⟩ := o7.sh
        obtain ⟨b7, m7, e7, rfl⟩ := p7.sh
        have X7 : Hid (Ext wr w7) := Lib.hid (ZR.out.trans x7)
        have hz1 : wr.heap.size ≤ w1.heap.size := Below.size ZR.out
        have O7 := Lib.hid (o7.mono (show wr.heap.size ≤ _ by omega))
        have P7 := Lib.hid (p7.mono (show wr.heap.size ≤ _ by omega))
        clear o7 p7 x7 hz1
        dsimp only
        (try (simp only [Act.put, List.setIfInBounds_toArray, List.set]))
        refine xtwo 1 8 (hk := (XR.out.trans X7.out)) (h := RunX.of 1 (h := ?_)) (h' := RunX.of 8 (h := ?_))
        · have c1 := blk_cell (keepU B3.out X7.out) 0 rfl
          go_simp
          (try (simp only [Act.put, List.setIfInBounds_toArray, List.set]))
          clear c1
          refine xone 8 (hk := (XR.out.trans X7.out)) (h := RunX.of 8 (h := ?_))
          go_simp
          (try (simp only [Act.put, List.setIfInBounds_toArray, List.set]))
          obtain ⟨w8, hw8⟩ : ∃ q, q = w7.alloc (.cells #[.int .i64 d0, .int .i64 d1, .slice a7 n7 c7, .int .i64 d3, .slice b7 m7 e7] 63) := ⟨_, rfl⟩
          have Y8 : Hid (Ext w7 w8) := Lib.hid (hw8 ▸ (Ext.refl w7).alloc _)
          have X8 : Hid (Ext wr w8) := Lib.hid (X7.out.trans Y8.out)
          have L8 : Hid (Sl w8 (.slice (some ⟨w7.heap.size, 0, none⟩) 1 1) [(⟨d0, d1, a7, n7, c7, d3, b7, m7, e7⟩ : KV)]) := Lib.hid (hw8 ▸ Sl.litAt w7 _ rfl [(⟨d0, d1, a7, n7, c7, d3, b7, m7, e7⟩ : KV)] (show (1 : Nat) ≤ 1000000 by decide))
          rw [← hw8]
          clear hw8

          have hz8 : g3 + 1 ≤ w8.heap.size := by have := Below.size X8.out; have := blk_lt B3.out; omega
          refine xone 9 (hk := (XR.out.trans X8.out)) (h := RunX.of 9 (h := ?_))
          (refine wp_append_sl (α := KV) (.tmp 18) (.tmp 25) rfl (g3 + 1) _ xs rfl ?_ (.slice (some ⟨_, 0, none⟩) 1 1) [(⟨d0, d1, a7, n7, c7, d3, b7, m7, e7⟩ : KV)] rfl ?_ ?_ ?_ ?_; exact (HOW.out.ext X8.out); exact L8.out; (first | omega | (simp; omega)); omega; intro v9 W9 ho9 ha9; obtain ⟨a9, n9, c9, rfl⟩ := ho9.sh; have hx : Nest.rd (Own1 (fun b => b = g3) (.slice qa qn qc)) w8 (⟨d0, d1, a7, n7, c7, d3, b7, m7, e7⟩ : KV) (⟨d0, d1, d2, d3, d4⟩ : Dk) := (⟨rfl, rfl, Sa.new (O7.out.ext Y8.out) (fun k hk => by rcases hk with hk | hk; (have hk : k = g3 := hk; have := blk_lt B3.out; omega); (exact (HOW.out.low k hk).2)), rfl, Sa.new (P7.out.ext Y8.out) (fun k hk => by rcases hk with hk | hk; (have hk : k = g3 := hk; have := blk_lt B3.out; omega); (exact (HOW.out.low k hk).2))⟩ : RdK _ _ _ _); have hst := Nw.step (α := KV) (δ := Dk) (F := fun b => b = g3) (L := L.take k) HXL.out (fun j x e hx he => Nest.ext (HEL.out j x e hx he) X8.out) hx ho9 ha9; have HST := Lib.hid hst; have B9 := Lib.hid ((off_grown ha9.grown).blk (keepU B3.out X8.out) (fun e => by have := (HOW.out.low g3 e).1; omega)); have X9 : Hid (Ext W1 W9) := Lib.hid (Below.trans (XR.out.trans X8.out) (ha9.below.mono (by omega))); clear ho9 ha9 hx hst)
          (try (simp only [Act.put, List.setIfInBounds_toArray, List.set]))
          refine xtv 10 (h := ?_)
          have c9' := blk_cell B9.out 0 rfl
          have f9 := blk_free B9.out 0
          refine xone 11 (hk := X9.out) (h := RunX.of 11 (h := ?_))
          go_simp
          (try (simp only [Act.put, List.setIfInBounds_toArray, List.set]))
          obtain ⟨WA, hWA⟩ : ∃ q, q = W9.setCell ⟨g3, 0, none⟩ (.slice a9 n9 c9) := ⟨_, rfl⟩
          have BA : Hid (WA.heap[g3]? = some (.cells #[.slice a9 n9 c9, .slice ma mn mc] 25 (0, 0))) := Lib.hid (by rw [hWA, blk_set B9.out]; rfl)
          have XA : Hid (Ext W1 WA) := Lib.hid (hWA ▸ below_set X9.out (by show W1.heap.size ≤ g3; omega) _)
          have NA : Hid (Nw KV (fun b => b = g3) WA (g3 + 1) (.slice a9 n9 c9) (L.take (k + 1))) := Lib.hid (by rw [HTK.out, hWA]; exact HST.out.set (d := ⟨g3, 0, none⟩) rfl (Nat.lt_succ_self _) _)
          rw [← hWA]
          clear hWA c9' f9
          (refine xdone (by kernel_rfl) (XA.out) ?_)
          go_wp2
          go_roundw
          case rel => exact ⟨k + 1, by omega, by go_num, _, _, _, BA, NA, XA⟩
          case measure => simp [intOf]; omega
        · go_simp
          (try (simp only [Act.put, List.setIfInBounds_toArray, List.set]))
          obtain ⟨w8, hw8⟩ : ∃ q, q = w7.alloc (.cells #[.int .i64 d0, .int .i64 d1, .slice a7 n7 c7, .int .i64 d3, .slice b7 m7 e7] 63) := ⟨_, rfl⟩
          have Y8 : Hid (Ext w7 w8) := Lib.hid (hw8 ▸ (Ext.refl w7).alloc _)
          have X8 : Hid (Ext wr w8) := Lib.hid (X7.out.trans Y8.out)
          have L8 : Hid (Sl w8 (.slice (some ⟨w7.heap.size, 0, none⟩) 1 1) [(⟨d0, d1, a7, n7, c7, d3, b7, m7, e7⟩ : KV)]) := Lib.hid (hw8 ▸ Sl.litAt w7 _ rfl [(⟨d0, d1, a7, n7, c7, d3, b7, m7, e7⟩ : KV)] (show (1 : Nat) ≤ 1000000 by decide))
          rw [← hw8]
          clear hw8

          have c1 := blk_cell (keepU B3.out X8.out) 0 rfl
          refine xone 1 (hk := (XR.out.trans X8.out)) (h := RunX.of 1 (h := ?_))
          go_simp
          (try (simp only [Act.put, List.setIfInBounds_toArray, List.set]))
          clear c1

          have hz8 : g3 + 1 ≤ w8.heap.size := by have := Below.size X8.out; have := blk_lt B3.out; omega
          refine xone 9 (hk := (XR.out.trans X8.out)) (h := RunX.of 9 (h := ?_))
          (refine wp_append_sl (α := KV) (.tmp 18) (.tmp 25) rfl (g3 + 1) _ xs rfl ?_ (.slice (some ⟨_, 0, none⟩) 1 1) [(⟨d0, d1, a7, n7, c7, d3, b7, m7, e7⟩ : KV)] rfl ?_ ?_ ?_ ?_; exact (HOW.out.ext X8.out); exact L8.out; (first | omega | (simp; omega)); omega; intro v9 W9 ho9 ha9; obtain ⟨a9, n9, c9, rfl⟩ := ho9.sh; have hx : Nest.rd (Own1 (fun b => b = g3) (.slice qa qn qc)) w8 (⟨d0, d1, a7, n7, c7, d3, b7, m7, e7⟩ : KV) (⟨d0, d1, d2, d3, d4⟩ : Dk) := (⟨rfl, rfl, Sa.new (O7.out.ext Y8.out) (fun k hk => by rcases hk with hk | hk; (have hk : k = g3 := hk; have := blk_lt B3.out; omega); (exact (HOW.out.low k hk).2)), rfl, Sa.new (P7.out.ext Y8.out) (fun k hk => by rcases hk with hk | hk; (have hk : k = g3 := hk; have := blk_lt B3.out; omega); (exact (HOW.out.low k hk).2))⟩ : RdK _ _ _ _); have hst := Nw.step (α := KV) (δ := Dk) (F := fun b => b = g3) (L := L.take k) HXL.out (fun j x e hx he => Nest.ext (HEL.out j x e hx he) X8.out) hx ho9 ha9; have HST := Lib.hid hst; have B9 := Lib.hid ((off_grown ha9.grown).blk (keepU B3.out X8.out) (fun e => by have := (HOW.out.low g3 e).1; omega)); have X9 : Hid (Ext W1 W9) := Lib.hid (Below.trans (XR.out.trans X8.out) (ha9.below.mono (by omega))); clear ho9 ha9 hx hst)
          (try (simp only [Act.put, List.setIfInBounds_toArray, List.set]))
          refine xtv 10 (h := ?_)
          have c9' := blk_cell B9.out 0 rfl
          have f9 := blk_free B9.out 0
          refine xone 11 (hk := X9.out) (h := RunX.of 11 (h := ?_))
          go_simp
          (try (simp only [Act.put, List.setIfInBounds_toArray, List.set]))
          obtain ⟨WA, hWA⟩ : ∃ q, q = W9.setCell ⟨g3, 0, none⟩ (.slice a9 n9 c9) := ⟨_, rfl⟩
          have BA : Hid (WA.heap[g3]? = some (.cells #[.slice a9 n9 c9, .slice ma mn mc] 25 (0, 0))) := Lib.hid (by rw [hWA, blk_set B9.out]; rfl)
          have XA : Hid (Ext W1 WA) := Lib.hid (hWA ▸ below_set X9.out (by show W1.heap.size ≤ g3; omega) _)
          have NA : Hid (Nw KV (fun b => b = g3) WA (g3 + 1) (.slice a9 n9 c9) (L.take (k + 1))) := Lib.hid (by rw [HTK.out, hWA]; exact HST.out.set (d := ⟨g3, 0, none⟩) rfl (Nat.lt_succ_self _) _)
          rw [← hWA]
          clear hWA c9' f9
          (refine xdone (by kernel_rfl) (XA.out) ?_)
          go_wp2
          go_roundw
          case rel => exact ⟨k + 1, by omega, by go_num, _, _, _, BA, NA, XA⟩
          case measure => simp [intOf]; omega
    · have hkl : k = L.length := by omega
      have hq := HQ.out
      rw [hkl, List.take_length] at hq
      have HQ' := Lib.hid (hq.ns (G := Non) (fun k hk => hk.elim) (fun k hk => hk.elim))
      have HM := Lib.hid (M6.out.ext XR.out)
      have RC := Lib.hid (keepU R0.out (X6.out.trans XR.out))
      obtain ⟨j0, j1⟩ := cells2S B3.out
      clear hq HQ hkl
      go_wp2_with (first | refine haltst 25 ?_)
      refine .inl ?_
      refine st_l 25 (.tmp 2) (.tmp 28) (w.heap.size + 1) 0 25 _ #[.slice qa qn qc, .slice ma mn mc] _ rfl rfl RC.out (by kernel_rfl) (by simp) rfl rfl ?_
      intro W9 hW9 o9
      simp only [Act.put]
      go_wp2
      exact bodyPost_ret (v := .agg #[.slice qa qn qc, .slice ma mn mc]) (res_c rfl rfl hW9 uBar (by kernel_rfl)) rfl ⟨_, _, rfl, (BV.mk HQ'.out HM.out).off RC.out o9, ext_off (X0.out.trans (X6.out.trans XR.out)) o9 (fun b hb => by have := HZ0.out; omega)⟩
end Go.Proofs.YtfbambemjokmgaaGreat
