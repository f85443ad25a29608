/- Layer 17, the laws: a book of its own memory; whether little is done. -/
import Derived.Test.YtgcnjkabpcbkgaaHG
import Derived.Test.YtgcnjkabpcbkgaaHF
namespace Go.Proofs.Ytgcnjkabpcbkgaa
open Go.RowKit

set_option maxRecDepth 100000 in
set_option maxHeartbeats 16000000 in
theorem ownBk_any (F : Nat → Prop) (w : World) (n : Int) (v : Value) (L : List Se) (h : Ns HV F w v L) (hl : L.length ≤ 1000) (hls : ∀ s ∈ L, s.need.length ≤ 1000) (hF : ∀ b, F b → b < w.heap.size) :
    Calls Try.prog 13 #[.agg #[.int .i64 n, v]] w fun e w' => ∃ ao m c, e = .returned (.agg #[.int .i64 n, .slice ao m c]) ∧ Ns HV F w' (.slice ao m c) L ∧ Ext w w' := by
  obtain ⟨ao, c, rfl⟩ := h.len
  obtain ⟨W0, hW0⟩ : ∃ W0, W0 = (w.alloc (.cells #[.int .i64 n, .slice ao L.length c] 24)).alloc (.cells #[.int .i64 0, .slice none 0 0] 24) := ⟨_, rfl⟩
  have X0 : Hid (Ext w W0) := Lib.hid (hW0 ▸ ((Ext.refl w).alloc _).alloc _)
  have B0 : Hid (W0.heap[w.heap.size]? = some (.cells #[.int .i64 n, .slice ao L.length c] 24 (0, 0))) := Lib.hid (hW0 ▸ old1 (at0 w _) _)
  have R0 : Hid (W0.heap[w.heap.size + 1]? = some (.cells #[.int .i64 0, .slice none 0 0] 24 (0, 0))) := Lib.hid (hW0 ▸ at1 w _ _)
  have HZ0 : Hid (W0.heap.size = w.heap.size + 2) := Lib.hid (by rw [hW0, size_alloc, size_alloc])
  have HW0 := Lib.hid hW0
  have hlen := h.length_le
  have HS := Lib.hid h
  have HLS := Lib.hid hls
  have k0 := blk_cell B0.out 0 rfl
  clear hW0 h hls
  go_enter Try.func13, Try.ntmps13
  go_upto_region 1 with (fail)
  rw [← HW0.out]
  go_wp2_with (first | refine haltst 24 ?_)
  refine .inl ?_
  obtain ⟨g3, hg3⟩ : ∃ g, g = W0.heap.size := ⟨_, rfl⟩
  have G3 := Lib.hid (at0 W0 (.cells #[.int .i64 0, .slice none 0 0] 24))
  rw [← hg3] at G3 ⊢
  refine st_l 24 (.tmp 3) (.tmp 8) g3 0 24 _ #[.int .i64 n, .slice none 0 0] _ rfl rfl G3.out (by kernel_rfl) (by simp) rfl rfl ?_
  intro W3 hW3 o3
  simp only [Act.put]
  have B3i := Lib.hid hW3
  have X3 : Hid (Ext W0 W3) := Lib.hid (ext_off ((Ext.refl W0).alloc _) o3 (fun b hb => by omega))
  have HG : Hid (g3 = w.heap.size + 2) := Lib.hid (by rw [hg3, HZ0.out])
  have HK : Hid (∀ V, Ext W0 V → V.cell? ⟨w.heap.size, 0, none⟩ = some (.int .i64 n) ∧ V.cell? ⟨w.heap.size, 1, none⟩ = some (.slice ao L.length c)) := Lib.hid fun V hV => ⟨blk_cell (keepU B0.out hV) 0 rfl, blk_cell (keepU B0.out hV) 1 rfl⟩
  clear hW3 o3 G3 hg3 k0
  go_wp2
  go_loopw [4] (fun i wr => ∃ k : Nat, k ≤ L.length ∧ i = .int .i64 k ∧ ∃ qa qn qc, Hid (wr.heap[g3]? = some (.cells #[.int .i64 n, .slice qa qn qc] 24 (0, 0))) ∧ Hid (Nw HV (OrB F w 3) wr (g3 + 1) (.slice qa qn qc) (L.take k)) ∧ Hid (Ext W0 wr)) (fun i _ => L.length - (intOf i).toNat)
  case atStart => exact ⟨0, Nat.zero_le _, rfl, _, _, _, B3i, Lib.hid (by rw [List.take_zero]; exact Nw.nil _ _ _), X3⟩
  case round =>
    obtain ⟨k, hk, rfl, qa, qn, qc, B3, HQ, XR⟩ := hrel
    have hg3a : w.heap.size + 2 ≤ g3 := by have := HG.out; omega
    obtain ⟨k0, k1⟩ := HK.out wr XR.out
    by_cases hlt : k < L.length
    · obtain ⟨b1, off, so, sc, s, hsj, rfl, hn, hnc, hc63, hb, hsn, hcs⟩ := HS.out.sessAt hlt
      have HXW : Hid (Ext w wr) := Lib.hid (X0.out.trans XR.out)
      obtain ⟨⟨x0, x1⟩, x2, x3⟩ := hcs wr HXW.out
      have HSN := Lib.hid (hsn.sl.ext HXW.out)
      have hdn : s.need.length ≤ 1000 := HLS.out s (List.mem_of_getElem? hsj)
      have HTK : Hid (L.take (k + 1) = L.take k ++ [s]) := Lib.hid (by rw [List.take_succ_eq_append_getElem hlt, (List.getElem?_eq_some_iff.1 hsj).2])
      obtain ⟨xs, hown, hxl, hel⟩ := HQ.out.any
      have HOW := Lib.hid hown
      have HXL := Lib.hid hxl
      have HEL := Lib.hid hel
      have hxs : xs.length ≤ 1000 := by rw [hxl]; simp; omega
      have hb3 := blk_lt B3.out
      clear hcs hsj hn hsn hown hxl hel
      obtain ⟨y0, y1, y2, y3⟩ := s
      dsimp only at x0 x1 x2 x3 HSN HTK hdn
      obtain ⟨W5, hW5⟩ : ∃ W5, W5 = wr.alloc (.cells #[.int .i64 y0, .slice so y1.length sc, .int .i64 y2, .int .i64 y3] 41) := ⟨_, rfl⟩
      have J5 : Hid (W5.heap[wr.heap.size]? = some (.cells #[.int .i64 y0, .slice so y1.length sc, .int .i64 y2, .int .i64 y3] 41 (0, 0))) := Lib.hid (hW5 ▸ at0 wr _)
      have X5 : Hid (Ext wr W5) := Lib.hid (hW5 ▸ (Ext.refl wr).alloc _)
      have HZ5 : Hid (W5.heap.size = wr.heap.size + 1) := Lib.hid (by rw [hW5, size_alloc])
      have HW5 := Lib.hid hW5
      clear hW5
      go_upto_region 6 with (fail)
      rw [← HW5.out]
      clear k0 k1 x0 x1 x2 x3
      have i1 : (W5.alloc (.cells #[] 3)).cell? ⟨wr.heap.size, 1, none⟩ = some (.slice so y1.length sc) := blk_cell (old1 J5.out _) 1 rfl
      go_upto_region 7 with (first
        | (at_builtin; refine wpList_append_sl (α := Int) rfl (.tmp 21) (.tmp 23) rfl (wr.heap.size + 1) (.slice (some ⟨_, 0, none⟩) 0 0) [] rfl ?_ _ y1 rfl ?_ ?_ ?_ ?_; exact (Ow.litAt W5 _ _ rfl (by have := HZ5.out; omega) [] (by simp)); exact ((HSN.out.ext X5.out).alloc _); (first | omega | (simp; omega)); exact (by rw [size_alloc]; have := HZ5.out; omega); intro v6 W6 ho6 ha6; obtain ⟨a6, n6, c6, rfl⟩ := ho6.sh; have O6 : Hid (Ow W6 (wr.heap.size + 1) (.slice a6 n6 c6) y1) := Lib.hid ho6; have X6 : Hid (Below (wr.heap.size + 1) W5 W6) := Lib.hid (Below.trans ((Ext.alloc (Ext.refl W5) _).mono (by have := HZ5.out; omega)) ha6.below); have c61 := blk_cell ((X6.out.block wr.heap.size (by omega)).trans J5.out) 1 rfl; have f61 := blk_free ((X6.out.block wr.heap.size (by omega)).trans J5.out) 1; clear ho6 ha6))
      obtain ⟨W7, hW7⟩ : ∃ W7, W7 = W6.setCell ⟨wr.heap.size, 1, none⟩ (.slice a6 n6 c6) := ⟨_, rfl⟩
      have J7 : Hid (W7.heap[wr.heap.size]? = some (.cells #[.int .i64 y0, .slice a6 n6 c6, .int .i64 y2, .int .i64 y3] 41 (0, 0))) := Lib.hid (by rw [hW7, blk_set ((X6.out.block wr.heap.size (by omega)).trans J5.out)]; rfl)
      have O7 : Hid (Ow W7 (wr.heap.size + 1) (.slice a6 n6 c6) y1) := Lib.hid (hW7 ▸ O6.out.set (d := ⟨wr.heap.size, 1, none⟩) (by show wr.heap.size < _; omega) _)
      have X7 : Hid (Ext wr W7) := Lib.hid (hW7 ▸ below_set (Below.trans X5.out (X6.out.mono (by omega))) (Nat.le_refl _) _)
      rw [← hW7]
      clear hW7 O6 X6 c61 f61 i1
      obtain ⟨i0, i1, i2, i3⟩ : W7.cell? ⟨wr.heap.size, 0, none⟩ = some (.int .i64 y0) ∧ W7.cell? ⟨wr.heap.size, 1, none⟩ = some (.slice a6 n6 c6) ∧ W7.cell? ⟨wr.heap.size, 2, none⟩ = some (.int .i64 y2) ∧ W7.cell? ⟨wr.heap.size, 3, none⟩ = some (.int .i64 y3) := ⟨blk_cell J7.out 0 rfl, blk_cell J7.out 1 rfl, blk_cell J7.out 2 rfl, blk_cell J7.out 3 rfl⟩
      have j1 := blk_cell (keepU B3.out X7.out) 1 rfl
      have L8 : Hid (Sl (W7.alloc (.cells #[.int .i64 y0, .slice a6 n6 c6, .int .i64 y2, .int .i64 y3] 41)) (.slice (some ⟨W7.heap.size, 0, none⟩) 1 1) [(⟨y0, a6, n6, c6, y2, y3⟩ : HV)]) := Lib.hid (Sl.litAt W7 _ rfl [(⟨y0, a6, n6, c6, y2, y3⟩ : HV)] (show (1 : Nat) ≤ 1000000 by decide))
      have HRX : Hid (∀ V, Ext W7 V → Nest.rd (Own1 (OrB F w 3) (.slice qa qn qc)) V (⟨y0, a6, n6, c6, y2, y3⟩ : HV) (⟨y0, y1, y2, y3⟩ : Se)) := Lib.hid fun V hV => (⟨rfl, Sa.new (O7.out.ext hV) (fun b hb => by
        rcases hb with (hb | hb) | hb
        · have := hF b hb; omega
        · have := hb.2; omega
        · have := (HOW.out.low b hb).2; omega), rfl, rfl⟩ : RdH _ _ _ _)
      go_upto_region 4 with (first
        | (at_builtin; refine wpList_append_sl (α := HV) rfl (.tmp 27) (.tmp 29) rfl (g3 + 1) _ xs rfl ?_ (.slice (some ⟨_, 0, none⟩) 1 1) [(⟨y0, a6, n6, c6, y2, y3⟩ : HV)] rfl ?_ ?_ ?_ ?_; exact (HOW.out.ext (X7.out.alloc _)); exact L8.out; (first | omega | (simp; omega)); exact (by rw [size_alloc]; have := Below.size X7.out; omega); intro v8 W8 ho8 ha8; obtain ⟨a8, n8, c8, rfl⟩ := ho8.sh; have hst := Nw.step (α := HV) (δ := Se) (F := OrB F w 3) (L := L.take k) HXL.out (fun j x e hx he => Nest.ext (HEL.out j x e hx he) (X7.out.alloc _)) (HRX.out _ ((Ext.refl W7).alloc _)) ho8 ha8; have HST := Lib.hid hst; have B8 : Hid (W8.heap[g3]? = some (.cells #[.int .i64 n, .slice qa qn qc] 24 (0, 0))) := Lib.hid ((off_grown ha8.grown).blk (keepU B3.out (X7.out.alloc _)) (fun e => by have := (HOW.out.low g3 e).1; omega)); have X8 : Hid (Ext W0 W8) := Lib.hid (Below.trans (XR.out.trans (X7.out.alloc _)) (ha8.below.mono (by have := HZ0.out; omega))); have j8 := blk_cell B8.out 1 rfl; have f8 := blk_free B8.out 1; clear ho8 ha8 hst))
      obtain ⟨WA, hWA⟩ : ∃ q, q = W8.setCell ⟨g3, 1, none⟩ (.slice a8 n8 c8) := ⟨_, rfl⟩
      have BA : Hid (WA.heap[g3]? = some (.cells #[.int .i64 n, .slice a8 n8 c8] 24 (0, 0))) := Lib.hid (by rw [hWA, blk_set B8.out]; rfl)
      have XA : Hid (Ext W0 WA) := Lib.hid (hWA ▸ below_set X8.out (by show W0.heap.size ≤ g3; have := HZ0.out; omega) _)
      have NA : Hid (Nw HV (OrB F w 3) WA (g3 + 1) (.slice a8 n8 c8) (L.take (k + 1))) := Lib.hid (by rw [HTK.out, hWA]; exact HST.out.set (d := ⟨g3, 1, none⟩) (.inr ⟨by show w.heap.size ≤ g3; omega, by show g3 < _; have := HG.out; omega⟩) (Nat.lt_succ_self _) _)
      rw [← hWA]
      clear hWA j8 f8
      go_wp2
      go_roundw
      case rel => exact ⟨k + 1, by omega, by go_num, _, _, _, BA, NA, XA⟩
      case measure => simp [intOf]; omega
    · have hkl : k = L.length := by omega
      have hq := HQ.out
      rw [hkl, List.take_length] at hq
      have HN := Lib.hid (hq.ns (G := OrB F w 2) (fun k hk => hk.imp_right fun q => ⟨q.1, by have := q.2; omega⟩) (fun k hk => by rcases hk with hk | hk; (have := hF k hk; omega); (have := hk.2; omega)))
      have RC := Lib.hid (keepU R0.out XR.out)
      obtain ⟨j0, j1⟩ : wr.cell? ⟨g3, 0, none⟩ = some (.int .i64 n) ∧ wr.cell? ⟨g3, 1, none⟩ = some (.slice qa qn qc) := ⟨blk_cell B3.out 0 rfl, blk_cell B3.out 1 rfl⟩
      clear hq HQ hkl
      go_wp2_with (first | refine haltst 24 ?_)
      refine .inl ?_
      refine st_l 24 (.tmp 2) (.tmp 32) (w.heap.size + 1) 0 24 _ #[.int .i64 n, .slice qa qn qc] _ rfl rfl RC.out (by kernel_rfl) (by simp) rfl rfl ?_
      intro W9 hW9 o9
      simp only [Act.put]
      go_wp2
      exact bodyPost_ret (v := .agg #[.int .i64 n, .slice qa qn qc]) (res_c rfl rfl hW9 uBook (by kernel_rfl)) rfl ⟨_, _, _, rfl, ns_orB' (HN.out.off (o9.mono fun b hb => .inr ⟨by omega, by omega⟩) (Grows.refl _ _)), ext_off (X0.out.trans XR.out) o9 (fun b hb => by omega)⟩

set_option maxRecDepth 100000 in
set_option maxHeartbeats 4000000 in
theorem fewA_any (F : Nat → Prop) (w : World) (v : Value) (L : List Akt) (h : Ns AV F w v L) (t : Bool) (ht : fewA L = t) :
    Calls Try.prog 11 #[v] w fun e w' => e = .returned (.bool t) ∧ Ext w w' := by
  obtain ⟨ao, c, rfl⟩ := h.len
  have hlen := h.length_le
  have HS := Lib.hid h
  have HT := Lib.hid ht
  clear h ht
  go_enter Try.func11, Try.ntmps11
  go_wp2
  go_loopw [3] (fun i wr => ∃ k : Nat, k ≤ L.length ∧ i = .int .i64 k ∧ Hid (∀ (j : Nat) (u : Akt), j < k → L[j]? = some u → u.2.2.2.length ≤ 70) ∧ Hid (Ext w wr)) (fun i _ => L.length - (intOf i).toNat)
  case atStart => exact ⟨0, Nat.zero_le _, rfl, Lib.hid (fun j u hj => absurd hj (Nat.not_lt_zero _)), Lib.hid (Ext.refl _)⟩
  case round =>
    obtain ⟨k, hk, rfl, HQ, HX⟩ := hrel
    by_cases hlt : k < L.length
    · by_cases h13 : (k : Int) < 61
      · obtain ⟨b1, off, so, sc, y, hsj, rfl, hn, hnc, hc63, hb, hsn, hcs⟩ := HS.out.actAt hlt
        obtain ⟨⟨x0, x1⟩, x2, x3⟩ := hcs wr HX.out
        have HJ := Lib.hid hsj
        have hsl := hsn.sl.length_le
        clear hcs hsj hn hsn
        obtain ⟨y0, y1, y2, y3⟩ := y
        dsimp only at x0 x1 x2 x3 hsl
        by_cases e : (70 : Int) < (y3.length : Int)
        · have HF : Hid (false = t) := Lib.hid (by rw [← HT.out]; exact (Bool.eq_false_iff.2 fun q => by have := (fewA_yes.1 q).2 _ (List.mem_of_getElem? HJ.out); dsimp only at this; omega).symm)
          go_wp2
          go_ret
          exact ⟨ret_bool HF.out, HX.out⟩
        · have HY : Hid (y3.length ≤ 70) := Lib.hid (by omega)
          go_wp2
          go_roundw
          case rel => exact ⟨k + 1, by omega, by go_num, Lib.hid (fun j u hj hu => by
            rcases Nat.lt_or_ge j k with q | q
            · exact HQ.out j u q hu
            · obtain rfl : j = k := by omega
              rw [HJ.out] at hu
              simp only [Option.some.injEq] at hu
              subst hu
              exact HY.out), HX⟩
          case measure => simp [intOf]; omega
      · have h12 : ¬ (L.length : Int) ≤ 60 := by omega
        have HF : Hid (false = t) := Lib.hid (by rw [← HT.out]; exact (Bool.eq_false_iff.2 fun q => by have := (fewA_yes.1 q).1; omega).symm)
        go_wp2
        go_ret
        exact ⟨ret_bool HF.out, HX.out⟩
    · by_cases h12 : (L.length : Int) ≤ 60
      · have HF : Hid (true = t) := Lib.hid (by rw [← HT.out]; exact (fewA_yes.2 ⟨by omega, fun s hs => by
          obtain ⟨j, hj, e⟩ := List.getElem_of_mem hs
          exact HQ.out j s (by omega) (by rw [List.getElem?_eq_getElem hj, e])⟩).symm)
        go_wp2
        go_ret
        exact ⟨ret_bool HF.out, HX.out⟩
      · have HF : Hid (false = t) := Lib.hid (by rw [← HT.out]; exact (Bool.eq_false_iff.2 fun q => by have := (fewA_yes.1 q).1; omega).symm)
        go_wp2
        go_ret
        exact ⟨ret_bool HF.out, HX.out⟩

end Go.Proofs.Ytgcnjkabpcbkgaa
