/- Texts of this seat. -/
import Derived.Test.YtfbambemjokmgaaGreatNBA
import Derived.Test.YtfbambemjokmgaaGreatNBR
namespace Go.Proofs.YtfbambemjokmgaaGreat
open Go.RowKit
set_option maxRecDepth 100000 in
set_option maxHeartbeats 4000000 in
theorem refSameB_any (w : World) (v1 m1 v2 m2 : Value) (L L2 : List Dk) (M M2 : List Ml) (h : BV w v1 m1 L M) (g : BV w v2 m2 L2 M2) (t : Bool) (ht : (decide (L = L2) && decide (M = M2)) = t) :
    Calls Tryz.prog 16 #[.agg #[v1, m1], .agg #[v2, m2]] w fun e w' => e = .returned (.bool t) ∧ Ext w w' := by
  obtain ⟨ao, c, bo, d, rfl, rfl⟩ := h.len
  obtain ⟨ao2, c2, bo2, d2, rfl, rfl⟩ := g.len
  have hl1 := h.ds.length_le
  have hl2 := g.ds.length_le
  obtain ⟨W0, hW0⟩ : ∃ W0, W0 = (w.alloc (.cells #[.slice ao L.length c, .slice bo M.length d] 25)).alloc (.cells #[.slice ao2 L2.length c2, .slice bo2 M2.length d2] 25) := ⟨_, rfl⟩
  have X0 : Hid (Ext w W0) := Lib.hid (hW0 ▸ ((Ext.refl w).alloc _).alloc _)
  have B0 : Hid (W0.heap[w.heap.size]? = some (.cells #[.slice ao L.length c, .slice bo M.length d] 25 (0, 0))) := Lib.hid (hW0 ▸ old1 (at0 w _) _)
  have C0 : Hid (W0.heap[w.heap.size + 1]? = some (.cells #[.slice ao2 L2.length c2, .slice bo2 M2.length d2] 25 (0, 0))) := Lib.hid (hW0 ▸ at1 w _ _)
  have HKA : Hid (∀ V, Ext W0 V → V.cell? ⟨w.heap.size, 0, none⟩ = some (.slice ao L.length c) ∧ V.cell? ⟨w.heap.size, 1, none⟩ = some (.slice bo M.length d)) := Lib.hid fun V hV => cells2S (keepU B0.out hV)
  have HKB : Hid (∀ V, Ext W0 V → V.cell? ⟨w.heap.size + 1, 0, none⟩ = some (.slice ao2 L2.length c2) ∧ V.cell? ⟨w.heap.size + 1, 1, none⟩ = some (.slice bo2 M2.length d2)) := Lib.hid fun V hV => cells2S (keepU C0.out hV)
  have HW0 := Lib.hid hW0
  have HV := Lib.hid (h.ext X0.out)
  have HG := Lib.hid (g.ext X0.out)
  have HT := Lib.hid ht
  obtain ⟨k0, k1⟩ := HKA.out W0 (Ext.refl _)
  obtain ⟨k2, k3⟩ := HKB.out W0 (Ext.refl _)
  clear h g hW0 ht
  go_enter Tryz.func16, Tryz.ntmps16
  go_upto_region 1 with (fail)
  rw [← HW0.out]
  by_cases e3 : L.length = L2.length
  · have q3 : ((L.length : Int) != (L2.length : Int)) = false := by simp [e3]
    have HL3 := Lib.hid e3
    clear e3
    go_wp2
    go_loopw [5] (fun i wr => ∃ k : Nat, k ≤ L.length ∧ i = .int .i64 k ∧ Hid (L.take k = L2.take k) ∧ Hid (Ext W0 wr)) (fun i _ => L.length - (intOf i).toNat)
    case atStart => exact ⟨0, Nat.zero_le _, rfl, Lib.hid rfl, Lib.hid (Ext.refl _)⟩
    case round =>
      obtain ⟨k, hk, rfl, HQ, HX⟩ := hrel
      obtain ⟨k0, k1⟩ := HKA.out wr HX.out
      by_cases hlt : k < L.length
      · have hlt2 : k < L2.length := by have := HL3.out; omega
        obtain ⟨b1, o1, so1, sc1, no1, nc1, y, hyk, hao1, hn, hnc, hc63, hb, hsl, hnl, hcell⟩ := HV.out.ds.drinkerAt hlt
        obtain ⟨b2, o2, so2, sc2, no2, nc2, z, hzk, hao2, hn', hnc', hc63', hb', hsl', hnl', hcell'⟩ := HG.out.ds.drinkerAt hlt2
        subst hao1 hao2
        have HN := Lib.hid (take_eqK hyk hzk)
        have HDC := Lib.hid hcell
        have HDC2 := Lib.hid hcell'
        have HSL := Lib.hid (And.intro hsl.sl hsl'.sl)
        have HNL := Lib.hid (And.intro hnl.sl hnl'.sl)
        obtain ⟨s, hs⟩ : ∃ s, decide (y = z) = s := ⟨_, rfl⟩
        have HYZ := Lib.hid hs
        obtain ⟨y0, y1, y2, y3, y4⟩ := y
        obtain ⟨z0, z1, z2, z3, z4⟩ := z
        dsimp only at HDC HDC2 HSL HNL
        have HSM : Hid (∀ V, Ext W0 V → _) := Lib.hid fun V hV => refDkSame_any V y0 y1 y3 z0 z1 z3 _ _ _ _ y2 z2 y4 z4 (HSL.out.1.ext hV) (HSL.out.2.ext hV) (HNL.out.1.ext hV) (HNL.out.2.ext hV) s HYZ.out
        have hki : (k : Int) < (L.length : Int) := by omega
        have hki2 : (k : Int) < (L2.length : Int) := by omega
        clear hcell hcell' hyk hzk hn hn' hs hsl hsl' hnl hnl'
        go_upto_region 6 with (fail)
        clear k0 k1
        go_wp2_with fail
        refine wp_region_M_lit (by kernel_rfl) ?_
        refine tv 0 (h := ?_)
        refine tv 1 (hv := by intro w' hw'; obtain ⟨c0, c1⟩ := HKA.out w' (HX.out.trans hw'); go_simp; first | done | with_reducible rfl) (h := ?_)
        refine tv 2 (h := ?_)
        refine tv 3 (hv := by intro w' hw'; have hz := hki; go_simp; first | done | with_reducible rfl) (h := ?_)
        refine tv 4 (hv := by intro w' hw'; obtain ⟨⟨c0, c1, c2⟩, c3, c4⟩ := HDC.out w' (HX.out.trans hw'); go_simp; first | done | with_reducible rfl) (h := ?_)
        refine tv 5 (h := ?_)
        refine tv 6 (hv := by intro w' hw'; obtain ⟨c0, c1⟩ := HKB.out w' (HX.out.trans hw'); go_simp; first | done | with_reducible rfl) (h := ?_)
        refine tv 7 (h := ?_)
        refine tv 8 (hv := by intro w' hw'; have hz := hki2; go_simp; first | done | with_reducible rfl) (h := ?_)
        refine tv 9 (hv := by intro w' hw'; obtain ⟨⟨c0, c1, c2⟩, c3, c4⟩ := HDC2.out w' (HX.out.trans hw'); go_simp; first | done | with_reducible rfl) (h := ?_)
        (refine takeG 10 (v := ?_) (hv := fun w' hw' => ?_) (h := ?_); rotate_left; focus (go_simp; refine ⟨Ext.refl _, ?_⟩; (exact HSM.out w' (HX.out.trans hw')))); (simp only [Act.put, List.setIfInBounds_toArray, List.set])
        refine tv 11 (h := ?_)
        (refine doneM (by kernel_rfl) ?_; intro w' hw'; show _)
        have HX2 := Lib.hid (HX.out.trans hw')
        clear hw'
        cases s
        · go_wp2
          go_ret
          exact ⟨ret_bool (by
            rw [← HT.out, decide_eq_false (show ¬ L = L2 from fun e => of_decide_eq_false HYZ.out ((HN.out.1 (by rw [e])).2))]
            rfl), X0.out.trans HX2.out⟩
        · go_wp2
          go_roundw
          case rel => exact ⟨k + 1, by omega, by go_num, Lib.hid (HN.out.2 ⟨HQ.out, of_decide_eq_true HYZ.out⟩), HX2⟩
          case measure => simp [intOf]; omega
      · have hkl : k = L.length := by omega
        have HEQ : Hid (L = L2) := Lib.hid (by have h := HQ.out; rwa [hkl, List.take_length, HL3.out, List.take_length] at h)
        obtain ⟨k2, k3⟩ := HKB.out wr HX.out
        have HMS := Lib.hid (refSameMail_any wr _ _ M M2 (HV.out.ms.ext HX.out) (HG.out.ms.ext HX.out) (decide (M = M2)) rfl)
        clear hkl HQ
        go_wp2_with (go_at_call 56; refine HMS.out.mono ?_; rintro e w2 ⟨rfl, hx⟩; have X2 := Lib.hid (HX.out.trans hx); clear hx)
        go_ret
        exact ⟨ret_bool (by rw [← HT.out, decide_eq_true HEQ.out]; rfl), X0.out.trans X2.out⟩
  · have q3 : ((L.length : Int) != (L2.length : Int)) = true := by simp; omega
    have HF : Hid (false = t) := Lib.hid (by rw [← HT.out, decide_eq_false (show ¬ L = L2 from fun e => e3 (by rw [e]))]; rfl)
    clear e3
    go_wp2
    go_ret
    exact ⟨ret_bool HF.out, X0.out⟩
end Go.Proofs.YtfbambemjokmgaaGreat
namespace Go.Proofs.YtfbambemjokmgaaGreat
open Go.RowKit
theorem Sa.old2 {α : Type} [Elem α] {w W : World} {v q : Value} {xs : List α} {g : Nat} (h : Sa Non w v xs) (e : Ext w W) (hg : w.heap.size ≤ g) (ho : ∀ b, q.ownBlock = some b → w.heap.size ≤ b) : Sa (Own1 (fun b => b = g) q) W v xs := by
  refine ⟨h.sl.ext e, ?_⟩
  by_cases hx : xs = []
  · exact .inl hx
  · refine .inr fun b hb hf => ?_
    have hb1 := h.sl.block_lt hx b hb
    rcases hf with hf | hf
    · have hf : b = g := hf
      omega
    · have := ho b hf
      omega
set_option maxRecDepth 100000 in
set_option maxHeartbeats 8000000 in
theorem refSceneB_any (w : World) (vk vm : Value) (L : List Dk) (M : List Ml) (h : BV w vk vm L M) (hl : L.length ≤ 1000) :
    Calls Tryz.prog 27 #[.agg #[vk, vm]] w fun e w' => ∃ vd mo mn mc, e = .returned (.agg #[vd, .slice mo mn mc]) ∧ mn = M.length ∧ SV w' vd (.slice mo mn mc) (L.map Dk.dn) M ∧ Ext w w' := by
  obtain ⟨ao, c, bo, d, rfl, rfl⟩ := h.len
  obtain ⟨W0, hW0⟩ : ∃ W0, W0 = (w.alloc (.cells #[.slice ao L.length c, .slice bo M.length d] 25)).alloc (.cells #[.slice none 0 0, .slice none 0 0] 48) := ⟨_, rfl⟩
  have X0 : Hid (Ext w W0) := Lib.hid (hW0 ▸ ((Ext.refl w).alloc _).alloc _)
  have B0 : Hid (W0.heap[w.heap.size]? = some (.cells #[.slice ao L.length c, .slice bo M.length d] 25 (0, 0))) := Lib.hid (hW0 ▸ old1 (at0 w _) _)
  have R0 : Hid (W0.heap[w.heap.size + 1]? = some (.cells #[.slice none 0 0, .slice none 0 0] 48 (0, 0))) := Lib.hid (hW0 ▸ at1 w _ _)
  have HZ0 : Hid (W0.heap.size = w.heap.size + 2) := Lib.hid (by rw [hW0, size_alloc, size_alloc])
  have HW0 := Lib.hid hW0
  have HV := Lib.hid (h.ext X0.out)
  obtain ⟨k0, k1⟩ := cells2S B0.out
  clear h hW0
  go_enter Tryz.func27, Tryz.ntmps27
  go_upto_region 1 with (fail)
  rw [← HW0.out]
  go_wp2_with (first | refine haltst 48 ?_)
  refine .inl ?_
  obtain ⟨W1, hW1⟩ : ∃ q, q = W0 := ⟨_, rfl⟩
  have X6 : Hid (Ext W0 W1) := Lib.hid (hW1 ▸ Ext.refl _)
  rw [← hW1]
  clear hW1
  obtain ⟨g3, hg3⟩ : ∃ g, g = W1.heap.size := ⟨_, rfl⟩
  have G3 := Lib.hid (at0 W1 (.cells #[.slice none 0 0, .slice none 0 0] 48))
  rw [← hg3] at G3 ⊢
  refine st_l 48 (.tmp 3) (.tmp 7) g3 0 48 _ #[.slice none 0 0, .slice bo M.length d] _ rfl rfl G3.out (by kernel_rfl) (by simp) rfl rfl ?_
  intro W3 hW3 o3
  simp only [Act.put]
  have B3i := Lib.hid hW3
  have X3 : Hid (Ext W1 W3) := Lib.hid (ext_off ((Ext.refl W1).alloc _) o3 (fun b hb => by omega))
  have HG : Hid (W1.heap.size ≤ g3 ∧ W0.heap.size ≤ g3) := Lib.hid ⟨by omega, by have := Below.size X6.out; omega⟩
  have HK : Hid (∀ V, Ext W1 V → V.cell? ⟨w.heap.size, 0, none⟩ = some (.slice ao L.length c) ∧ V.cell? ⟨w.heap.size, 1, none⟩ = some (.slice bo M.length d)) := Lib.hid fun V hV => cells2S (keepU B0.out (X6.out.trans hV))
  have HD := Lib.hid (HV.out.ds.ext X6.out)
  have HML : Hid (Sl W1 (.slice bo M.length d) M) := Lib.hid (HV.out.ms.ext X6.out)
  clear hW3 o3 G3 hg3 k0 k1
  go_wp2
  go_loopw [4] (fun i wr => ∃ k : Nat, k ≤ L.length ∧ i = .int .i64 k ∧ ∃ qa qn qc, Hid (wr.heap[g3]? = some (.cells #[.slice qa qn qc, .slice bo M.length d] 48 (0, 0))) ∧ Hid (Nw DV (fun b => b = g3) wr (g3 + 1) (.slice qa qn qc) ((L.map Dk.dn).take k)) ∧ Hid (Ext W1 wr)) (fun i _ => L.length - (intOf i).toNat)
  case atStart => exact ⟨0, Nat.zero_le _, rfl, _, _, _, B3i, Lib.hid (by rw [List.take_zero]; exact Nw.nil _ _ _), X3⟩
  case round =>
    obtain ⟨k, hk, rfl, qa, qn, qc, B3, HQ, XR⟩ := hrel
    obtain ⟨hg1, hg0⟩ := HG.out
    obtain ⟨k0, k1⟩ := HK.out wr XR.out
    by_cases hlt : k < L.length
    · obtain ⟨b2, off2, so2, sc2, no2, nc2, dd, hyk, hao2, hn2, hnc2, hc632, hb2, hsl2, hnl2, hcell2⟩ := HD.out.drinkerAt hlt
      subst hao2
      have HSL := Lib.hid hsl2
      have HC := Lib.hid hcell2
      have HTK : Hid ((L.map Dk.dn).take (k + 1) = (L.map Dk.dn).take k ++ [dd.dn]) := Lib.hid (take_next_map hyk)
      obtain ⟨xs, hown, hxl, hel⟩ := HQ.out.any
      have HOW := Lib.hid hown
      have HXL := Lib.hid hxl
      have HEL := Lib.hid hel
      have hxs : xs.length ≤ 1000 := by rw [hxl, List.length_take]; omega
      have hki : (k : Int) < (L.length : Int) := by omega
      clear hyk hown hxl hel
      obtain ⟨d0, d1, d2, d3, d4⟩ := dd
      dsimp only [Dk.dn] at HC HSL HTK
      clear hn2 hsl2 hnl2 hcell2
      go_upto_region 5 with (fail)
      clear k0 k1
      (refine wp_region_X_lit (K := fun V => Ext W1 V) (by kernel_rfl) (fun w1 hw1 => ?_))
      have ZR : Hid (Ext wr w1) := Lib.hid hw1
      have Z1 : Hid (Ext W1 w1) := Lib.hid (XR.out.trans hw1)
      clear hw1
      refine xtv 0 (h := ?_)
      refine xtv 2 (h := ?_)
      refine xtv 3 (hv := by intro w' hw'; have hc := HK.out w' hw'; go_simp; first | done | with_reducible rfl) (h := ?_)
      refine xtv 4 (h := ?_)
      refine xtv 5 (hv := by intro w' hw'; have hz := hki; have hz2 := hnc2; go_simp; first | done | with_reducible rfl) (h := ?_)
      refine xtv 6 (h := ?_)
      refine xtv 7 (hv := by intro w' hw'; obtain ⟨⟨c0, c1, c2⟩, c3, c4⟩ := HC.out w' hw'; go_simp; first | done | with_reducible rfl) (h := ?_)
      refine xtwo 1 8 (hk := Z1.out) (h := RunX.of 1 (h := ?_)) (h' := RunX.of 8 (h := ?_))
      · have c1 := blk_cell (keepU B3.out ZR.out) 0 rfl
        go_simp
        (try (simp only [Act.put, List.setIfInBounds_toArray, List.set]))
        clear c1

        refine xone 8 (hk := Z1.out) (h := RunX.of 8 (h := ?_))
        go_simp
        (try (simp only [Act.put, List.setIfInBounds_toArray, List.set]))
        obtain ⟨w8, hw8⟩ : ∃ q, q = w1.alloc (.cells #[.int .i64 d0, .int .i64 d1, .slice so2 d2.length sc2] 61) := ⟨_, rfl⟩
        have Y8 : Hid (Ext w1 w8) := Lib.hid (hw8 ▸ (Ext.refl w1).alloc _)
        have X8 : Hid (Ext wr w8) := Lib.hid (ZR.out.trans Y8.out)
        have L8 : Hid (Sl w8 (.slice (some ⟨w1.heap.size, 0, none⟩) 1 1) [(⟨d0, d1, so2, d2.length, sc2⟩ : DV)]) := Lib.hid (hw8 ▸ Sl.litAt w1 _ rfl [(⟨d0, d1, so2, d2.length, sc2⟩ : DV)] (show (1 : Nat) ≤ 1000000 by decide))
        rw [← hw8]
        clear hw8

        have hz8 : g3 + 1 ≤ w8.heap.size := by have := Below.size X8.out; have := blk_lt B3.out; omega
        refine xone 9 (hk := (XR.out.trans X8.out)) (h := RunX.of 9 (h := ?_))
        (refine wp_append_sl (α := DV) (.tmp 16) (.tmp 23) rfl (g3 + 1) _ xs rfl ?_ (.slice (some ⟨_, 0, none⟩) 1 1) [(⟨d0, d1, so2, d2.length, sc2⟩ : DV)] rfl ?_ ?_ ?_ ?_; exact (HOW.out.ext X8.out); exact L8.out; (first | omega | (simp; omega)); omega; intro v9 W9 ho9 ha9; obtain ⟨a9, n9, c9, rfl⟩ := ho9.sh; have hx : Nest.rd (Own1 (fun b => b = g3) (.slice qa qn qc)) w8 (⟨d0, d1, so2, d2.length, sc2⟩ : DV) (⟨d0, d1, d2⟩ : Dn) := (⟨rfl, rfl, Sa.old2 HSL.out (XR.out.trans X8.out) hg1 (fun b hb => by have := (HOW.out.low b hb).1; omega)⟩ : RdD _ _ _ _); have hst := Nw.step (α := DV) (δ := Dn) (F := fun b => b = g3) (L := (L.map Dk.dn).take k) HXL.out (fun j x e hx he => Nest.ext (HEL.out j x e hx he) X8.out) hx ho9 ha9; have HST := Lib.hid hst; have B9 := Lib.hid ((off_grown ha9.grown).blk (keepU B3.out X8.out) (fun e => by have := (HOW.out.low g3 e).1; omega)); have X9 : Hid (Ext W1 W9) := Lib.hid (Below.trans (XR.out.trans X8.out) (ha9.below.mono (by omega))); clear ho9 ha9 hx hst)
        (try (simp only [Act.put, List.setIfInBounds_toArray, List.set]))
        refine xtv 10 (h := ?_)
        have c9' := blk_cell B9.out 0 rfl
        have f9 := blk_free B9.out 0
        refine xone 11 (hk := X9.out) (h := RunX.of 11 (h := ?_))
        go_simp
        (try (simp only [Act.put, List.setIfInBounds_toArray, List.set]))
        obtain ⟨WA, hWA⟩ : ∃ q, q = W9.setCell ⟨g3, 0, none⟩ (.slice a9 n9 c9) := ⟨_, rfl⟩
        have BA : Hid (WA.heap[g3]? = some (.cells #[.slice a9 n9 c9, .slice bo M.length d] 48 (0, 0))) := Lib.hid (by rw [hWA, blk_set B9.out]; rfl)
        have XA : Hid (Ext W1 WA) := Lib.hid (hWA ▸ below_set X9.out (by show W1.heap.size ≤ g3; omega) _)
        have NA : Hid (Nw DV (fun b => b = g3) WA (g3 + 1) (.slice a9 n9 c9) ((L.map Dk.dn).take (k + 1))) := Lib.hid (by rw [HTK.out, hWA]; exact HST.out.set (d := ⟨g3, 0, none⟩) rfl (Nat.lt_succ_self _) _)
        rw [← hWA]
        clear hWA c9' f9
        (refine xdone (by kernel_rfl) (XA.out) ?_)
        go_wp2
        go_roundw
        case rel => exact ⟨k + 1, by omega, by go_num, _, _, _, BA, NA, XA⟩
        case measure => simp [intOf]; omega
      · go_simp
        (try (simp only [Act.put, List.setIfInBounds_toArray, List.set]))
        obtain ⟨w8, hw8⟩ : ∃ q, q = w1.alloc (.cells #[.int .i64 d0, .int .i64 d1, .slice so2 d2.length sc2] 61) := ⟨_, rfl⟩
        have Y8 : Hid (Ext w1 w8) := Lib.hid (hw8 ▸ (Ext.refl w1).alloc _)
        have X8 : Hid (Ext wr w8) := Lib.hid (ZR.out.trans Y8.out)
        have L8 : Hid (Sl w8 (.slice (some ⟨w1.heap.size, 0, none⟩) 1 1) [(⟨d0, d1, so2, d2.length, sc2⟩ : DV)]) := Lib.hid (hw8 ▸ Sl.litAt w1 _ rfl [(⟨d0, d1, so2, d2.length, sc2⟩ : DV)] (show (1 : Nat) ≤ 1000000 by decide))
        rw [← hw8]
        clear hw8

        have c1 := blk_cell (keepU B3.out X8.out) 0 rfl
        refine xone 1 (hk := (XR.out.trans X8.out)) (h := RunX.of 1 (h := ?_))
        go_simp
        (try (simp only [Act.put, List.setIfInBounds_toArray, List.set]))
        clear c1

        have hz8 : g3 + 1 ≤ w8.heap.size := by have := Below.size X8.out; have := blk_lt B3.out; omega
        refine xone 9 (hk := (XR.out.trans X8.out)) (h := RunX.of 9 (h := ?_))
        (refine wp_append_sl (α := DV) (.tmp 16) (.tmp 23) rfl (g3 + 1) _ xs rfl ?_ (.slice (some ⟨_, 0, none⟩) 1 1) [(⟨d0, d1, so2, d2.length, sc2⟩ : DV)] rfl ?_ ?_ ?_ ?_; exact (HOW.out.ext X8.out); exact L8.out; (first | omega | (simp; omega)); omega; intro v9 W9 ho9 ha9; obtain ⟨a9, n9, c9, rfl⟩ := ho9.sh; have hx : Nest.rd (Own1 (fun b => b = g3) (.slice qa qn qc)) w8 (⟨d0, d1, so2, d2.length, sc2⟩ : DV) (⟨d0, d1, d2⟩ : Dn) := (⟨rfl, rfl, Sa.old2 HSL.out (XR.out.trans X8.out) hg1 (fun b hb => by have := (HOW.out.low b hb).1; omega)⟩ : RdD _ _ _ _); have hst := Nw.step (α := DV) (δ := Dn) (F := fun b => b = g3) (L := (L.map Dk.dn).take k) HXL.out (fun j x e hx he => Nest.ext (HEL.out j x e hx he) X8.out) hx ho9 ha9; have HST := Lib.hid hst; have B9 := Lib.hid ((off_grown ha9.grown).blk (keepU B3.out X8.out) (fun e => by have := (HOW.out.low g3 e).1; omega)); have X9 : Hid (Ext W1 W9) := Lib.hid (Below.trans (XR.out.trans X8.out) (ha9.below.mono (by omega))); clear ho9 ha9 hx hst)
        (try (simp only [Act.put, List.setIfInBounds_toArray, List.set]))
        refine xtv 10 (h := ?_)
        have c9' := blk_cell B9.out 0 rfl
        have f9 := blk_free B9.out 0
        refine xone 11 (hk := X9.out) (h := RunX.of 11 (h := ?_))
        go_simp
        (try (simp only [Act.put, List.setIfInBounds_toArray, List.set]))
        obtain ⟨WA, hWA⟩ : ∃ q, q = W9.setCell ⟨g3, 0, none⟩ (.slice a9 n9 c9) := ⟨_, rfl⟩
        have BA : Hid (WA.heap[g3]? = some (.cells #[.slice a9 n9 c9, .slice bo M.length d] 48 (0, 0))) := Lib.hid (by rw [hWA, blk_set B9.out]; rfl)
        have XA : Hid (Ext W1 WA) := Lib.hid (hWA ▸ below_set X9.out (by show W1.heap.size ≤ g3; omega) _)
        have NA : Hid (Nw DV (fun b => b = g3) WA (g3 + 1) (.slice a9 n9 c9) ((L.map Dk.dn).take (k + 1))) := Lib.hid (by rw [HTK.out, hWA]; exact HST.out.set (d := ⟨g3, 0, none⟩) rfl (Nat.lt_succ_self _) _)
        rw [← hWA]
        clear hWA c9' f9
        (refine xdone (by kernel_rfl) (XA.out) ?_)
        go_wp2
        go_roundw
        case rel => exact ⟨k + 1, by omega, by go_num, _, _, _, BA, NA, XA⟩
        case measure => simp [intOf]; omega
    · have hkl : k = L.length := by omega
      have hq := HQ.out
      rw [hkl, show L.length = (L.map Dk.dn).length from (List.length_map ..).symm, List.take_length] at hq
      have HQ' := Lib.hid (hq.ns (G := Non) (fun k hk => hk.elim) (fun k hk => hk.elim))
      have RC := Lib.hid (keepU R0.out (X6.out.trans XR.out))
      obtain ⟨j0, j1⟩ := cells2S B3.out
      clear hq HQ hkl
      go_wp2_with (first | refine haltst 48 ?_)
      refine .inl ?_
      refine st_l 48 (.tmp 2) (.tmp 26) (w.heap.size + 1) 0 48 _ #[.slice qa qn qc, .slice bo M.length d] _ rfl rfl RC.out (by kernel_rfl) (by simp) rfl rfl ?_
      intro W9 hW9 o9
      simp only [Act.put]
      go_wp2
      exact bodyPost_ret (v := .agg #[.slice qa qn qc, .slice bo M.length d]) (res_c rfl rfl hW9 uScene (by kernel_rfl)) rfl ⟨_, _, _, _, rfl, rfl, (SV.mk HQ'.out (HML.out.ext XR.out)).off RC.out o9, ext_off (X0.out.trans (X6.out.trans XR.out)) o9 (fun b hb => by have := HZ0.out; omega)⟩
set_option maxRecDepth 100000 in
set_option maxHeartbeats 8000000 in
theorem refNewB_any (w : World) (N : Int) (v : Value) (E : List Edge) (h : Sl w v E) (ok : OkG N E) (K : Nat) (hK : Ends N E K) :
    Calls Tryz.prog 46 #[.agg #[.int .i64 N, v]] w fun e w' => ∃ vd vm, e = .returned (.agg #[vd, vm]) ∧ BV w' vd vm (firstB (tableL N E (itr N E K))) [] ∧ Ext w w' := by
  obtain ⟨vo, vn, vc, rfl⟩ := h.sh
  obtain ⟨W0, hW0⟩ : ∃ W0, W0 = (w.alloc (.cells #[.int .i64 N, .slice vo vn vc] 53)).alloc (.cells #[.slice none 0 0, .slice none 0 0] 25) := ⟨_, rfl⟩
  have X0 : Hid (Ext w W0) := Lib.hid (hW0 ▸ ((Ext.refl w).alloc _).alloc _)
  have B0 : Hid (W0.heap[w.heap.size]? = some (.cells #[.int .i64 N, .slice vo vn vc] 53 (0, 0))) := Lib.hid (hW0 ▸ old1 (at0 w _) _)
  have R0 : Hid (W0.heap[w.heap.size + 1]? = some (.cells #[.slice none 0 0, .slice none 0 0] 25 (0, 0))) := Lib.hid (hW0 ▸ at1 w _ _)
  have HZ0 : Hid (W0.heap.size = w.heap.size + 2) := Lib.hid (by rw [hW0, size_alloc, size_alloc])
  have HW0 := Lib.hid hW0
  have HC0 := Lib.hid (refNewS_any W0 N _ E (h.ext X0.out) ok K hK)
  obtain ⟨D, hD⟩ : ∃ D, tableL N E (itr N E K) = D := ⟨_, rfl⟩
  have HDL : Hid (D.length ≤ 1000) := Lib.hid (by
    have h1 := (GoodBE.new (hK.right ok)).len
    rw [firstB_len, hD] at h1
    have := ok.n64
    omega)
  rw [hD] at HC0 ⊢
  obtain ⟨k0, k1⟩ := cells2S B0.out
  clear h hW0 ok hK hD
  go_enter Tryz.func46, Tryz.ntmps46
  go_upto_region 1 with (fail)
  rw [← HW0.out]
  go_wp2_with (first
    | (go_at_call 86; refine HC0.out.mono ?_; rintro e w1 ⟨vd, vm, rfl, sv, hx⟩; obtain ⟨a1, c1, a2, c2, e1, e2⟩ := sv.len; rw [show ([] : List Ml).length = 0 from rfl] at e2; subst e1 e2; have Y1 := Lib.hid hx; have S1 := Lib.hid sv; clear hx sv)
    | refine haltst 48 ?_)
  refine .inl ?_
  obtain ⟨gs, hgs⟩ : ∃ g, g = w1.heap.size := ⟨_, rfl⟩
  have hgsw : W0.heap.size ≤ gs := hgs ▸ Below.size Y1.out
  have GS := Lib.hid (at0 w1 (.cells #[.slice none 0 0, .slice none 0 0] 48))
  rw [← hgs] at GS ⊢
  replace hgs := Lib.hid hgs
  refine st_l 48 (.tmp 3) (.tmp 7) gs 0 48 _ #[.slice a1 D.length c1, .slice a2 0 c2] _ rfl rfl GS.out (by kernel_rfl) (by simp) rfl rfl ?_
  intro W1 hW1 o1
  simp only [Act.put]
  have X6 : Hid (Ext W0 W1) := Lib.hid (ext_off (Y1.out.alloc _) o1 (fun b hb => by omega))
  have S2 := Lib.hid ((S1.out.ext ((Ext.refl _).alloc _)).off GS.out o1)
  have BS := Lib.hid hW1
  clear hW1 o1 k0 k1 S1 GS
  go_wp2_with (first | refine haltst 25 ?_)
  refine .inl ?_
  obtain ⟨g3, hg3⟩ : ∃ g, g = W1.heap.size := ⟨_, rfl⟩
  have G3 := Lib.hid (at0 W1 (.cells #[.slice none 0 0, .slice none 0 0] 25))
  rw [← hg3] at G3 ⊢
  refine st_l 25 (.tmp 4) (.tmp 8) g3 0 25 _ #[.slice none 0 0, .slice none 0 0] _ rfl rfl G3.out (by kernel_rfl) (by simp) rfl rfl ?_
  intro W3 hW3 o3
  simp only [Act.put]
  have B3i := Lib.hid hW3
  have X3 : Hid (Ext W1 W3) := Lib.hid (ext_off ((Ext.refl W1).alloc _) o3 (fun b hb => by omega))
  have HG : Hid (W1.heap.size ≤ g3 ∧ W0.heap.size ≤ g3) := Lib.hid ⟨by omega, by have := Below.size X6.out; omega⟩
  have HK : Hid (∀ V, Ext W1 V → V.cell? ⟨gs, 0, none⟩ = some (.slice a1 D.length c1) ∧ V.cell? ⟨gs, 1, none⟩ = some (.slice a2 0 c2)) := Lib.hid fun V hV => cells2S (keepU BS.out hV)
  have HD := Lib.hid S2.out.ds
  have hdl := HDL.out
  clear hW3 o3 G3 hg3
  go_wp2
  go_loopw [5] (fun i wr => ∃ k : Nat, k ≤ D.length ∧ i = .int .i64 k ∧ ∃ qa qn qc, Hid (wr.heap[g3]? = some (.cells #[.slice qa qn qc, .slice none 0 0] 25 (0, 0))) ∧ Hid (Nw KV (fun b => b = g3) wr (g3 + 1) (.slice qa qn qc) ((firstB D).take k)) ∧ Hid (Ext W1 wr)) (fun i _ => D.length - (intOf i).toNat)
  case atStart => exact ⟨0, Nat.zero_le _, rfl, _, _, _, B3i, Lib.hid (by rw [List.take_zero]; exact Nw.nil _ _ _), X3⟩
  case round =>
    obtain ⟨k, hk, rfl, qa, qn, qc, B3, HQ, XR⟩ := hrel
    obtain ⟨hg1, hg0⟩ := HG.out
    obtain ⟨k0, k1⟩ := HK.out wr XR.out
    by_cases hlt : k < D.length
    · obtain ⟨b2, off2, so2, sc2, dd, hyk, hao2, hn2, hnc2, hc632, hb2, hsl2, hcell2⟩ := HD.out.dinerAt hlt
      subst hao2
      have HSL := Lib.hid hsl2
      have HC := Lib.hid hcell2
      have HTK : Hid ((firstB D).take (k + 1) = (firstB D).take k ++ [⟨dd.id, dd.phase, dd.sides, 0, []⟩]) := Lib.hid (firstB_next hyk)
      obtain ⟨xs, hown, hxl, hel⟩ := HQ.out.any
      have HOW := Lib.hid hown
      have HXL := Lib.hid hxl
      have HEL := Lib.hid hel
      have hxs : xs.length ≤ 1000 := by rw [hxl, List.length_take]; omega
      have hki : (k : Int) < (D.length : Int) := by omega
      clear hyk hown hxl hel
      obtain ⟨d0, d1, d2⟩ := dd
      dsimp only at HC HSL HTK
      clear hn2 hsl2 hcell2
      go_upto_region 6 with (fail)
      clear k0 k1
      (refine wp_region_X_lit (K := fun V => Ext W1 V) (by kernel_rfl) (fun w1 hw1 => ?_))
      have ZR : Hid (Ext wr w1) := Lib.hid hw1
      have Z1 : Hid (Ext W1 w1) := Lib.hid (XR.out.trans hw1)
      clear hw1
      refine xtv 0 (h := ?_)
      refine xtv 2 (h := ?_)
      refine xtv 3 (hv := by intro w' hw'; have hc := HK.out w' hw'; go_simp; first | done | with_reducible rfl) (h := ?_)
      refine xtv 4 (h := ?_)
      refine xtv 5 (hv := by intro w' hw'; have hz := hki; have hz2 := hnc2; go_simp; first | done | with_reducible rfl) (h := ?_)
      refine xtv 6 (hv := by intro w' hw'; obtain ⟨c0, c1, c2⟩ := HC.out w' hw'; go_simp; first | done | with_reducible rfl) (h := ?_)
      refine xtv 7 (h := ?_)
      refine xtwo 1 8 (hk := Z1.out) (h := RunX.of 1 (h := ?_)) (h' := RunX.of 8 (h := ?_))
      · have c1 := blk_cell (keepU B3.out ZR.out) 0 rfl
        go_simp
        (try (simp only [Act.put, List.setIfInBounds_toArray, List.set]))
        clear c1

        refine xone 8 (hk := Z1.out) (h := RunX.of 8 (h := ?_))
        go_simp
        (try (simp only [Act.put, List.setIfInBounds_toArray, List.set]))
        obtain ⟨w8, hw8⟩ : ∃ q, q = w1.alloc (.cells #[.int .i64 d0, .int .i64 d1, .slice so2 d2.length sc2, .int .i64 0, .slice none 0 0] 63) := ⟨_, rfl⟩
        have Y8 : Hid (Ext w1 w8) := Lib.hid (hw8 ▸ (Ext.refl w1).alloc _)
        have X8 : Hid (Ext wr w8) := Lib.hid (ZR.out.trans Y8.out)
        have L8 : Hid (Sl w8 (.slice (some ⟨w1.heap.size, 0, none⟩) 1 1) [(⟨d0, d1, so2, d2.length, sc2, 0, none, 0, 0⟩ : KV)]) := Lib.hid (hw8 ▸ Sl.litAt w1 _ rfl [(⟨d0, d1, so2, d2.length, sc2, 0, none, 0, 0⟩ : KV)] (show (1 : Nat) ≤ 1000000 by decide))
        rw [← hw8]
        clear hw8

        have hz8 : g3 + 1 ≤ w8.heap.size := by have := Below.size X8.out; have := blk_lt B3.out; omega
        refine xone 9 (hk := (XR.out.trans X8.out)) (h := RunX.of 9 (h := ?_))
        (refine wp_append_sl (α := KV) (.tmp 17) (.tmp 24) rfl (g3 + 1) _ xs rfl ?_ (.slice (some ⟨_, 0, none⟩) 1 1) [(⟨d0, d1, so2, d2.length, sc2, 0, none, 0, 0⟩ : KV)] rfl ?_ ?_ ?_ ?_; exact (HOW.out.ext X8.out); exact L8.out; (first | omega | (simp; omega)); omega; intro v9 W9 ho9 ha9; obtain ⟨a9, n9, c9, rfl⟩ := ho9.sh; have hx : Nest.rd (Own1 (fun b => b = g3) (.slice qa qn qc)) w8 (⟨d0, d1, so2, d2.length, sc2, 0, none, 0, 0⟩ : KV) (⟨d0, d1, d2, 0, []⟩ : Dk) := (⟨rfl, rfl, Sa.old2 HSL.out (XR.out.trans X8.out) hg1 (fun b hb => by have := (HOW.out.low b hb).1; omega), rfl, Sa.nil _ _⟩ : RdK _ _ _ _); have hst := Nw.step (α := KV) (δ := Dk) (F := fun b => b = g3) (L := (firstB D).take k) HXL.out (fun j x e hx he => Nest.ext (HEL.out j x e hx he) X8.out) hx ho9 ha9; have HST := Lib.hid hst; have B9 := Lib.hid ((off_grown ha9.grown).blk (keepU B3.out X8.out) (fun e => by have := (HOW.out.low g3 e).1; omega)); have X9 : Hid (Ext W1 W9) := Lib.hid (Below.trans (XR.out.trans X8.out) (ha9.below.mono (by omega))); clear ho9 ha9 hx hst)
        (try (simp only [Act.put, List.setIfInBounds_toArray, List.set]))
        refine xtv 10 (h := ?_)
        have c9' := blk_cell B9.out 0 rfl
        have f9 := blk_free B9.out 0
        refine xone 11 (hk := X9.out) (h := RunX.of 11 (h := ?_))
        go_simp
        (try (simp only [Act.put, List.setIfInBounds_toArray, List.set]))
        obtain ⟨WA, hWA⟩ : ∃ q, q = W9.setCell ⟨g3, 0, none⟩ (.slice a9 n9 c9) := ⟨_, rfl⟩
        have BA : Hid (WA.heap[g3]? = some (.cells #[.slice a9 n9 c9, .slice none 0 0] 25 (0, 0))) := Lib.hid (by rw [hWA, blk_set B9.out]; rfl)
        have XA : Hid (Ext W1 WA) := Lib.hid (hWA ▸ below_set X9.out (by show W1.heap.size ≤ g3; omega) _)
        have NA : Hid (Nw KV (fun b => b = g3) WA (g3 + 1) (.slice a9 n9 c9) ((firstB D).take (k + 1))) := Lib.hid (by rw [HTK.out, hWA]; exact HST.out.set (d := ⟨g3, 0, none⟩) rfl (Nat.lt_succ_self _) _)
        rw [← hWA]
        clear hWA c9' f9
        (refine xdone (by kernel_rfl) (XA.out) ?_)
        go_wp2
        go_roundw
        case rel => exact ⟨k + 1, by omega, by go_num, _, _, _, BA, NA, XA⟩
        case measure => simp [intOf]; omega
      · go_simp
        (try (simp only [Act.put, List.setIfInBounds_toArray, List.set]))
        obtain ⟨w8, hw8⟩ : ∃ q, q = w1.alloc (.cells #[.int .i64 d0, .int .i64 d1, .slice so2 d2.length sc2, .int .i64 0, .slice none 0 0] 63) := ⟨_, rfl⟩
        have Y8 : Hid (Ext w1 w8) := Lib.hid (hw8 ▸ (Ext.refl w1).alloc _)
        have X8 : Hid (Ext wr w8) := Lib.hid (ZR.out.trans Y8.out)
        have L8 : Hid (Sl w8 (.slice (some ⟨w1.heap.size, 0, none⟩) 1 1) [(⟨d0, d1, so2, d2.length, sc2, 0, none, 0, 0⟩ : KV)]) := Lib.hid (hw8 ▸ Sl.litAt w1 _ rfl [(⟨d0, d1, so2, d2.length, sc2, 0, none, 0, 0⟩ : KV)] (show (1 : Nat) ≤ 1000000 by decide))
        rw [← hw8]
        clear hw8

        have c1 := blk_cell (keepU B3.out X8.out) 0 rfl
        refine xone 1 (hk := (XR.out.trans X8.out)) (h := RunX.of 1 (h := ?_))
        go_simp
        (try (simp only [Act.put, List.setIfInBounds_toArray, List.set]))
        clear c1

        have hz8 : g3 + 1 ≤ w8.heap.size := by have := Below.size X8.out; have := blk_lt B3.out; omega
        refine xone 9 (hk := (XR.out.trans X8.out)) (h := RunX.of 9 (h := ?_))
        (refine wp_append_sl (α := KV) (.tmp 17) (.tmp 24) rfl (g3 + 1) _ xs rfl ?_ (.slice (some ⟨_, 0, none⟩) 1 1) [(⟨d0, d1, so2, d2.length, sc2, 0, none, 0, 0⟩ : KV)] rfl ?_ ?_ ?_ ?_; exact (HOW.out.ext X8.out); exact L8.out; (first | omega | (simp; omega)); omega; intro v9 W9 ho9 ha9; obtain ⟨a9, n9, c9, rfl⟩ := ho9.sh; have hx : Nest.rd (Own1 (fun b => b = g3) (.slice qa qn qc)) w8 (⟨d0, d1, so2, d2.length, sc2, 0, none, 0, 0⟩ : KV) (⟨d0, d1, d2, 0, []⟩ : Dk) := (⟨rfl, rfl, Sa.old2 HSL.out (XR.out.trans X8.out) hg1 (fun b hb => by have := (HOW.out.low b hb).1; omega), rfl, Sa.nil _ _⟩ : RdK _ _ _ _); have hst := Nw.step (α := KV) (δ := Dk) (F := fun b => b = g3) (L := (firstB D).take k) HXL.out (fun j x e hx he => Nest.ext (HEL.out j x e hx he) X8.out) hx ho9 ha9; have HST := Lib.hid hst; have B9 := Lib.hid ((off_grown ha9.grown).blk (keepU B3.out X8.out) (fun e => by have := (HOW.out.low g3 e).1; omega)); have X9 : Hid (Ext W1 W9) := Lib.hid (Below.trans (XR.out.trans X8.out) (ha9.below.mono (by omega))); clear ho9 ha9 hx hst)
        (try (simp only [Act.put, List.setIfInBounds_toArray, List.set]))
        refine xtv 10 (h := ?_)
        have c9' := blk_cell B9.out 0 rfl
        have f9 := blk_free B9.out 0
        refine xone 11 (hk := X9.out) (h := RunX.of 11 (h := ?_))
        go_simp
        (try (simp only [Act.put, List.setIfInBounds_toArray, List.set]))
        obtain ⟨WA, hWA⟩ : ∃ q, q = W9.setCell ⟨g3, 0, none⟩ (.slice a9 n9 c9) := ⟨_, rfl⟩
        have BA : Hid (WA.heap[g3]? = some (.cells #[.slice a9 n9 c9, .slice none 0 0] 25 (0, 0))) := Lib.hid (by rw [hWA, blk_set B9.out]; rfl)
        have XA : Hid (Ext W1 WA) := Lib.hid (hWA ▸ below_set X9.out (by show W1.heap.size ≤ g3; omega) _)
        have NA : Hid (Nw KV (fun b => b = g3) WA (g3 + 1) (.slice a9 n9 c9) ((firstB D).take (k + 1))) := Lib.hid (by rw [HTK.out, hWA]; exact HST.out.set (d := ⟨g3, 0, none⟩) rfl (Nat.lt_succ_self _) _)
        rw [← hWA]
        clear hWA c9' f9
        (refine xdone (by kernel_rfl) (XA.out) ?_)
        go_wp2
        go_roundw
        case rel => exact ⟨k + 1, by omega, by go_num, _, _, _, BA, NA, XA⟩
        case measure => simp [intOf]; omega
    · have hkl : k = D.length := by omega
      have hq := HQ.out
      rw [hkl, ← firstB_len, List.take_length] at hq
      have HQ' := Lib.hid (hq.ns (G := Non) (fun k hk => hk.elim) (fun k hk => hk.elim))
      have RC := Lib.hid (keepU R0.out (X6.out.trans XR.out))
      obtain ⟨j0, j1⟩ := cells2S B3.out
      clear hq HQ hkl
      go_wp2_with (first | refine haltst 25 ?_)
      refine .inl ?_
      refine st_l 25 (.tmp 2) (.tmp 27) (w.heap.size + 1) 0 25 _ #[.slice qa qn qc, .slice none 0 0] _ rfl rfl RC.out (by kernel_rfl) (by simp) rfl rfl ?_
      intro W9 hW9 o9
      simp only [Act.put]
      go_wp2
      exact bodyPost_ret (v := .agg #[.slice qa qn qc, .slice none 0 0]) (res_c rfl rfl hW9 uBar (by kernel_rfl)) rfl ⟨_, _, rfl, (BV.mk HQ'.out (slNoneU _)).off RC.out o9, ext_off (X0.out.trans (X6.out.trans XR.out)) o9 (fun b hb => by have := HZ0.out; omega)⟩
end Go.Proofs.YtfbambemjokmgaaGreat
