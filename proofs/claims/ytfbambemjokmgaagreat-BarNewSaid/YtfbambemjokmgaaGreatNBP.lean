/- Texts of this seat. -/
import Derived.Test.YtfbambemjokmgaaGreatNBH
import Derived.Test.YtfbambemjokmgaaGreatNBM
namespace Go.Proofs.YtfbambemjokmgaaGreat
open Go.RowKit
theorem GivesDN.d {w : World} {r : Dk × Int} {e : Ending} {w' : World} (h : GivesDN w r e w') : GivesD w r e w' := by
  obtain ⟨v, nv, h1, h2, h3, h4, _⟩ := h
  exact ⟨v, nv, h1, h2, h3, h4⟩
theorem fireKR_yes {d : Dk} (h : chkK d = true) : fireKR d = ((fireAll d).1, (fireAll d).2, 0) := by unfold fireKR; rw [if_pos h]
theorem fireKR_no {d : Dk} (h : chkK d = false) : fireKR d = (noK, [], 150) := by unfold fireKR; rw [h]; rfl
theorem fireAll_few (d : Dk) : (fireAll d).2.length ≤ 4 * d.sides.length := by
  have h1 := fireAll_things (d := d) (Nat.lt_succ_self _)
  have h2 := things_le d.sides
  omega
set_option maxRecDepth 100000 in
set_option maxHeartbeats 16000000 in
theorem behindB_any (w : World) (vk vm : Value) (L : List Dk) (M : List Ml) (h : BV w vk vm L M) (hl : SmB L M) (A : Nat) (i0 p0 t0 : Int) (S0 : List Sd) (N0 : List Int) (hA : L[A]? = some ⟨i0, p0, S0, t0, N0⟩) (g : FuncId) (lb : Array Value) (r : Dk × Int)
    (eg : ∀ args w, (callFunc g args).run Tryz.prog w = .ok (.enter g args) w) (hact : ∀ W u nu, Ext w W → Sl W u S0 → Sl W nu N0 → Calls Tryz.prog g (#[.agg #[.int .i64 i0, .int .i64 p0, u, .int .i64 t0, nu]] ++ lb) W (GivesD W r)) (hrl : r.1.sides.length ≤ 100) (hrn : r.1.need.length ≤ 100) :
    Calls Tryz.prog 80 #[.agg #[vk, vm], .int .i64 A, .func (.func g) #[] lb] w (GivesBar w (behB L M A r)) := by
  have hAL : A < L.length := (List.getElem?_eq_some_iff.1 hA).1
  obtain ⟨ao, c, bo, d, rfl, rfl⟩ := h.len
  obtain ⟨W0, hW0⟩ : ∃ W0, W0 = (w.alloc (.cells #[.slice ao L.length c, .slice bo M.length d] 25)).alloc (.cells #[.slice none 0 0, .slice none 0 0] 25) := ⟨_, rfl⟩
  have X0 : Hid (Ext w W0) := Lib.hid (hW0 ▸ ((Ext.refl w).alloc _).alloc _)
  have B0 : Hid (W0.heap[w.heap.size]? = some (.cells #[.slice ao L.length c, .slice bo M.length d] 25 (0, 0))) := Lib.hid (hW0 ▸ old1 (at0 w _) _)
  have R0 : Hid (W0.heap[w.heap.size + 1]? = some (.cells #[.slice none 0 0, .slice none 0 0] 25 (0, 0))) := Lib.hid (hW0 ▸ at1 w _ _)
  have hs0 : W0.heap.size = w.heap.size + 2 := by rw [hW0, size_alloc, size_alloc]
  have HW0 := Lib.hid hW0
  have HV := Lib.hid (h.ext X0.out)
  have HL := Lib.hid hl
  obtain ⟨⟨⟨i1, p1, S1, t1, N1⟩, er⟩, hr⟩ : ∃ q, r = q := ⟨_, rfl⟩
  subst hr
  dsimp only at hrl hrn
  obtain ⟨b1, off, so, sc, no, nc, d0, hyk, rfl, hn, hnc, hc63, hb, hsl, hnl, hcell⟩ := HV.out.ds.drinkerAt hAL
  obtain rfl : d0 = ⟨i0, p0, S0, t0, N0⟩ := by have := hyk.symm.trans hA; simpa using this
  dsimp only at hsl hnl hcell
  obtain ⟨⟨x0, x1, x2⟩, x3, x4⟩ := hcell W0 (Ext.refl _)
  have HACT := Lib.hid (hact W0 _ _ X0.out hsl.sl hnl.sl)
  have HA := Lib.hid hA
  obtain ⟨k0, k1⟩ := cells2S B0.out
  clear h hl hyk hn hsl hnl hcell hact hA hW0
  go_enter Tryz.func80, Tryz.ntmps80
  go_upto_region 1 with (fail)
  rw [← HW0.out]
  go_upto_region 2 with (first
    | (go_at_fn g; refine HACT.out.mono ?_; rintro e w1 ⟨v1, nv1, rfl, s1, s1n, y1⟩; dsimp only at s1 s1n ⊢; obtain ⟨a1, c1, rfl⟩ := s1.len; obtain ⟨na1, nc1, rfl⟩ := s1n.len; have S1' := Lib.hid s1; have SN1' := Lib.hid s1n; have X1 := Lib.hid y1; clear s1 s1n y1))
  obtain ⟨W2, hW2⟩ : ∃ W2, W2 = w1.alloc (.cells #[.int .i64 i1, .int .i64 p1, .slice a1 S1.length c1, .int .i64 t1, .slice na1 N1.length nc1] 63) := ⟨_, rfl⟩
  have X2 : Hid (Ext W0 W2) := Lib.hid (hW2 ▸ X1.out.alloc _)
  have D2 : Hid (W2.heap[w1.heap.size]? = some (.cells #[.int .i64 i1, .int .i64 p1, .slice a1 S1.length c1, .int .i64 t1, .slice na1 N1.length nc1] 63 (0, 0))) := Lib.hid (hW2 ▸ at0 w1 _)
  have HS1 : Hid (Sl W2 (.slice a1 S1.length c1) S1) := Lib.hid (hW2 ▸ S1'.out.alloc _)
  have HN1 : Hid (Sl W2 (.slice na1 N1.length nc1) N1) := Lib.hid (hW2 ▸ SN1'.out.alloc _)
  have hsz2 : W2.heap.size = w1.heap.size + 1 := by rw [hW2, size_alloc]
  have hsz1 : W0.heap.size ≤ w1.heap.size := Below.size X1.out
  (try rw [← hW2])
  clear hW2 k0 k1 x0 x1 x2 x3 x4
  by_cases he : er = 0
  · subst he
    have q0 : ((0 : Int) != 0) = false := rfl
    obtain ⟨⟨k0, k1, k2⟩, k3, k4⟩ := cells5 D2.out
    cases hd : chkK ⟨i1, p1, S1, t1, N1⟩
    · have HR : Hid (behB L M A (⟨i1, p1, S1, t1, N1⟩, 0) = (noB, 150)) := Lib.hid (by unfold behB; dsimp only; rw [if_pos rfl, hd]; rfl)
      have HF := Lib.hid (fireKR_no hd ▸ fireK_any W2 i1 p1 t1 _ _ S1 N1 HS1.out HN1.out (by omega) (by omega))
      go_wp2_with (first
        | (go_at_call 126; refine HF.out.mono ?_; rintro e w3 ⟨v3, nv3, vl3, rfl, s3, sn3, l3, y3, n3⟩; dsimp only [noK] at s3 sn3 l3 ⊢; obtain ⟨a3, c3, rfl⟩ := s3.len; obtain ⟨na3, nc3, rfl⟩ := sn3.len; obtain ⟨e3, f3, rfl⟩ := l3.len; have X3 := Lib.hid y3; clear s3 sn3 l3 y3 n3)
        | refine haltst 63 ?_)
      refine .inl ?_
      refine st_l 63 (.tmp 8) (.tmp 31) w1.heap.size 0 63 _ _ _ rfl rfl (keepU D2.out X3.out) (by kernel_rfl) (by simp) rfl rfl ?_
      intro W4 hW4 o4
      simp only [Act.put]
      have X4 : Hid (Ext w W4) := Lib.hid (ext_off (X0.out.trans (X2.out.trans X3.out)) o4 (fun b hb => by omega))
      have R4 : Hid (W4.heap[w.heap.size + 1]? = some (.cells #[.slice none 0 0, .slice none 0 0] 25 (0, 0))) := Lib.hid (o4.blk (keepU R0.out (X2.out.trans X3.out)) (by omega))
      clear hW4 o4
      go_wp2_with (first | refine haltst 25 ?_)
      refine .inl ?_
      refine st_l 25 (.tmp 6) (.tmp 36) (w.heap.size + 1) 0 25 _ #[.slice none 0 0, .slice none 0 0] _ rfl rfl R4.out (by kernel_rfl) (by simp) rfl rfl ?_
      intro W9 hW9 o9
      simp only [Act.put]
      go_wp2
      exact bodyPost_ret (v := .tuple #[.agg #[.slice none 0 0, .slice none 0 0], .int .i64 150]) (res_ct 7 rfl rfl hW9 uBar (by kernel_rfl)) rfl (givesBar_no HR.out (ext_off X4.out o9 (fun b hb => by omega)))
    · have HR : Hid (behB L M A (⟨i1, p1, S1, t1, N1⟩, 0) = ((L.set A (fireAll ⟨i1, p1, S1, t1, N1⟩).1, M ++ (fireAll ⟨i1, p1, S1, t1, N1⟩).2), 0)) := Lib.hid (by unfold behB; dsimp only; rw [if_pos rfl, hd]; rfl)
      have HF := Lib.hid (fireKR_yes hd ▸ fireK_any W2 i1 p1 t1 _ _ S1 N1 HS1.out HN1.out (by omega) (by omega))
      have hml := fireAll_few ⟨i1, p1, S1, t1, N1⟩
      dsimp only at hml
      obtain ⟨⟨i2, p2, S2, t2, N2⟩, hfd⟩ : ∃ x, (fireAll ⟨i1, p1, S1, t1, N1⟩).1 = x := ⟨_, rfl⟩
      obtain ⟨M2, hfm⟩ : ∃ x, (fireAll ⟨i1, p1, S1, t1, N1⟩).2 = x := ⟨_, rfl⟩
      rw [hfd, hfm] at HF HR
      rw [hfm] at hml
      clear hfd hfm hd
      go_upto_region 4 with (fail)
      go_wp2_with (first
        | (go_at_call 126; refine HF.out.mono ?_; rintro e w3 ⟨v3, nv3, vl3, rfl, s3, sn3, l3, y3, n3⟩; dsimp only at s3 sn3 l3 ⊢; obtain ⟨a3, c3, rfl⟩ := s3.len; obtain ⟨na3, nc3, rfl⟩ := sn3.len; obtain ⟨e3, f3, rfl⟩ := l3.len; have S3 := Lib.hid s3; have SN3 := Lib.hid sn3; have L3 := Lib.hid l3; have X3 := Lib.hid y3; have N3 := Lib.hid n3; clear s3 sn3 l3 y3 n3)
        | refine haltst 63 ?_)
      refine .inl ?_
      refine st_l 63 (.tmp 8) (.tmp 31) w1.heap.size 0 63 _ #[.int .i64 i2, .int .i64 p2, .slice a3 S2.length c3, .int .i64 t2, .slice na3 N2.length nc3] _ rfl rfl (keepU D2.out X3.out) (by kernel_rfl) (by simp) rfl rfl ?_
      intro W4 hW4 o4
      simp only [Act.put]
      have X4 : Hid (Ext W0 W4) := Lib.hid (ext_off (X2.out.trans X3.out) o4 (fun b hb => by omega))
      have D4 : Hid (W4.heap[w1.heap.size]? = some (.cells #[.int .i64 i2, .int .i64 p2, .slice a3 S2.length c3, .int .i64 t2, .slice na3 N2.length nc3] 63 (0, 0))) := Lib.hid hW4
      have S4 : Hid (Sl W4 (.slice a3 S2.length c3) S2) := Lib.hid (S3.out.off (apartSd S3.out (keepU D2.out X3.out) (by simp)) o4)
      have SN4 : Hid (Sl W4 (.slice na3 N2.length nc3) N2) := Lib.hid (slOffU SN3.out N3.out o4 (by omega))
      have L4 : Hid (Sl W4 (.slice e3 M2.length f3) M2) := Lib.hid (L3.out.off (apartMl L3.out (keepU D2.out X3.out) (by simp)) o4)
      obtain ⟨k0, k1⟩ := cells2S (keepU B0.out X4.out)
      clear hW4 o4 S3 L3 SN3
      have hsz4 : W0.heap.size ≤ W4.heap.size := Below.size X4.out
      have HDS : Hid (Ns KV Non W4 _ L) := Lib.hid (HV.out.ds.ext X4.out)
      have hN := HL.out.n
      have hw1 := blk_lt D4.out
      clear k2 k3 k4
      go_wp2
      go_loopw [11, 41] (fun q i wr => ∃ k : Nat, k ≤ L.length ∧ i = .int .i64 k ∧ Hid (Nw KV (fun b => b < W4.heap.size) wr W4.heap.size q (L.take k)) ∧ Hid (Ext W4 wr)) (fun _ i _ => L.length - (intOf i).toNat)
      case atStart => exact ⟨0, Nat.zero_le _, rfl, Lib.hid (by rw [List.take_zero]; exact Nw.nil _ _ _), Lib.hid (Ext.refl _)⟩
      case round =>
        obtain ⟨k, hk, rfl, HQ, HX⟩ := hrel
        have hwr : W4.heap.size ≤ wr.heap.size := Below.size HX.out
        by_cases hlt : k < L.length
        · obtain ⟨b2, off2, so2, sc2, no2, nc2, dd, hyk, hao2, hn2, hnc2, hc632, hb2, hsl2, hnl2, hcell2⟩ := HDS.out.drinkerAt hlt
          obtain ⟨rfl, rfl⟩ : b1 = b2 ∧ off = off2 := by simpa using hao2
          obtain ⟨⟨a0, a1', a2⟩, a3', a4⟩ := hcell2 wr HX.out
          have HSL := Lib.hid (hsl2.sl.ext HX.out)
          have HNL := Lib.hid (hnl2.sl.ext HX.out)
          have hdl : dd.sides.length ≤ 100 := HL.out.s dd (List.mem_of_getElem? hyk)
          have hdn : dd.need.length ≤ 100 := HL.out.k dd (List.mem_of_getElem? hyk)
          have HTK : Hid (L.take (k + 1) = L.take k ++ [dd]) := Lib.hid (by rw [List.take_succ_eq_append_getElem hlt, (List.getElem?_eq_some_iff.1 hyk).2])
          obtain ⟨xs, hown, hxl, hel⟩ := HQ.out.any
          have HOW := Lib.hid hown
          have HXL := Lib.hid hxl
          have HEL := Lib.hid hel
          have hxs : xs.length ≤ 100 := by rw [hxl]; simp; omega
          clear hcell2 hyk hao2 hn2 hsl2 hnl2 hown hxl hel
          obtain ⟨d0, d1, d2, d3, d4⟩ := dd
          dsimp only at a0 a1' a2 a3' a4 HSL HNL hdl hdn HTK
          go_upto_region 11 with (fail)
          obtain ⟨W5, hW5⟩ : ∃ W5, W5 = wr.alloc (.cells #[.int .i64 d0, .int .i64 d1, .slice so2 d2.length sc2, .int .i64 d3, .slice no2 d4.length nc2] 63) := ⟨_, rfl⟩
          have X5 : Hid (Ext wr W5) := Lib.hid (hW5 ▸ (Ext.refl wr).alloc _)
          have G5 : Hid (W5.heap[wr.heap.size]? = some (.cells #[.int .i64 d0, .int .i64 d1, .slice so2 d2.length sc2, .int .i64 d3, .slice no2 d4.length nc2] 63 (0, 0))) := Lib.hid (hW5 ▸ at0 wr _)
          have HG : Hid (∀ V, Ext W5 V → V.cell? ⟨wr.heap.size, 2, none⟩ = some (.slice so2 d2.length sc2) ∧ V.cell? ⟨wr.heap.size, 4, none⟩ = some (.slice no2 d4.length nc2)) := Lib.hid fun V hV => ⟨blk_cell (keepU G5.out hV) 2 rfl, blk_cell (keepU G5.out hV) 4 rfl⟩
          have hz5 : W5.heap.size = wr.heap.size + 1 := by rw [hW5, size_alloc]
          have HZ5 := Lib.hid hz5
          (try rw [← hW5])
          clear hW5 hz5 a0 a1' a2 a3' a4
          (refine wp_region_X_lit (K := fun V => Ext wr V) (by kernel_rfl) (fun w1 hw1 => ?_))
          have HX1 : Hid (Ext W5 w1) := Lib.hid hw1
          clear hw1
          have XA := Lib.hid (X5.out.trans HX1.out)
          obtain ⟨c2, c4⟩ := HG.out w1 HX1.out
          refine xtv 0 (h := ?_)
          refine xtv 1 (h := ?_)
          refine xtv 4 (h := ?_)
          refine xtwo 2 5 (hk := XA.out) (h := RunX.of 2 (h := ?_)) (h' := RunX.of 5 (h := ?_))
          · go_simp
            (try (simp only [Act.put, List.setIfInBounds_toArray, List.set]))
            refine xtwo 3 5 (hk := XA.out) (h := RunX.of 3 (h := ?_)) (h' := RunX.of 5 (h := ?_))
            · go_simp
              refine (clone_sd w1 _ d2 (HSL.out.ext XA.out) (by omega)).mono ?_
              rintro e6 w6 ⟨v6, rfl, o6, x6⟩
              obtain ⟨a6, n6, c6, rfl⟩ := o6.sh
              have X6 : Hid (Ext W5 w6) := Lib.hid (HX1.out.trans x6)
              have O6 := Lib.hid (o6.mono (Below.size HX1.out))
              clear o6 x6 c2 c4
              obtain ⟨c2, c4⟩ := HG.out w6 X6.out
              dsimp only
              (try (simp only [Act.put, List.setIfInBounds_toArray, List.set]))
              refine xone 5 (hk := (X5.out.trans X6.out)) (h := RunX.of 5 (h := ?_))
              go_simp
              (try (simp only [Act.put, List.setIfInBounds_toArray, List.set]))

              refine xtv 7 (h := ?_)
              refine xtv 8 (h := ?_)
              refine xone 6 (hk := (X5.out.trans X6.out)) (h := RunX.of 6 (h := ?_))
              go_simp
              refine (clone_i w6 _ d4 (HNL.out.ext (X5.out.trans X6.out)) (by omega)).mono ?_
              rintro e8 w8 ⟨v8, rfl, o8, x8⟩
              obtain ⟨a8, n8, c8, rfl⟩ := o8.sh
              have X8 : Hid (Ext W5 w8) := Lib.hid (X6.out.trans x8)
              have O8 := Lib.hid (o8.mono (Below.size X6.out))
              have O68 := Lib.hid (O6.out.ext x8)
              have B8 := Lib.hid (keepU G5.out X8.out)
              clear o8 x8 O6 c2 c4
              dsimp only
              (try (simp only [Act.put, List.setIfInBounds_toArray, List.set]))
              have c2 := blk_cell B8.out 2 rfl
              have f2 := blk_free B8.out 2
              refine xone 9 (hk := (X5.out.trans X8.out)) (h := RunX.of 9 (h := ?_))
              go_simp
              (try (simp only [Act.put, List.setIfInBounds_toArray, List.set]))
              obtain ⟨Wa, hWa⟩ : ∃ Wa, Wa = w8.setCell ⟨wr.heap.size, 2, none⟩ (.slice a6 n6 c6) := ⟨_, rfl⟩
              have Ba := Lib.hid (hWa ▸ blk_set B8.out 2 (.slice a6 n6 c6) : Wa.heap[wr.heap.size]? = some (.cells #[.int .i64 d0, .int .i64 d1, .slice a6 n6 c6, .int .i64 d3, .slice no2 d4.length nc2] 63 (0, 0)))
              have Oa : Hid (Off (fun b => b = wr.heap.size) w8 Wa) := Lib.hid (hWa ▸ off_set w8 ⟨wr.heap.size, 2, none⟩ _)
              have Xa : Hid (Ext wr Wa) := Lib.hid (ext_off (X5.out.trans X8.out) Oa.out (fun b hb => by omega))
              rw [← hWa]
              clear hWa c2 f2
              refine xtv 10 (h := ?_)
              have c4 := blk_cell Ba.out 4 rfl
              have f4 := blk_free Ba.out 4
              refine xone 11 (hk := Xa.out) (h := RunX.of 11 (h := ?_))
              go_simp
              (try (simp only [Act.put, List.setIfInBounds_toArray, List.set]))
              obtain ⟨W9, hW9⟩ : ∃ W9, W9 = Wa.setCell ⟨wr.heap.size, 4, none⟩ (.slice a8 n8 c8) := ⟨_, rfl⟩
              have G9 := Lib.hid (hW9 ▸ blk_set Ba.out 4 (.slice a8 n8 c8) : W9.heap[wr.heap.size]? = some (.cells #[.int .i64 d0, .int .i64 d1, .slice a6 n6 c6, .int .i64 d3, .slice a8 n8 c8] 63 (0, 0)))
              have o9 : Off (fun b => b = wr.heap.size) w8 W9 := Oa.out.trans (hW9 ▸ off_set Wa ⟨wr.heap.size, 4, none⟩ _) (Grows.refl _ _)
              have X9 : Hid (Ext wr W9) := Lib.hid (ext_off (X5.out.trans X8.out) o9 (fun b hb => by omega))
              have S9 := Lib.hid (owU O68.out (fun b hb => o9.block b (O68.out.low b hb).2 (by have := (O68.out.low b hb).1; have := HZ5.out; omega)))
              have T9 := Lib.hid (owU O8.out (fun b hb => o9.block b (O8.out.low b hb).2 (by have := (O8.out.low b hb).1; have := HZ5.out; omega)))
              rw [← hW9]
              clear hW9 o9 O68 O8 Oa Xa Ba c4 f4
              (refine xdone (by kernel_rfl) (X9.out) ?_)
              obtain ⟨⟨e0, e1, e2⟩, e3', e4⟩ := cells5 G9.out
              go_wp2_with (first
                | (at_builtin; refine wpList_append_sl (α := KV) rfl (.tmp 55) (.tmp 57) rfl W4.heap.size _ xs rfl ?_ (.slice (some ⟨_, 0, none⟩) 1 1) [(⟨d0, d1, a6, n6, c6, d3, a8, n8, c8⟩ : KV)] rfl ?_ ?_ ?_ ?_; exact ((HOW.out.ext X9.out).alloc _); exact (Sl.litAt _ _ (by simp) [(⟨d0, d1, a6, n6, c6, d3, a8, n8, c8⟩ : KV)] (show (1 : Nat) ≤ 1000000 by decide)); (first | omega | (simp; omega)); exact (by have := Below.size X9.out; first | omega | (rw [size_alloc]; omega)); intro v3 W3 ho3 ha3; have hx : Nest.rd (Own1 (fun b => b < W4.heap.size) _) _ (⟨d0, d1, a6, n6, c6, d3, a8, n8, c8⟩ : KV) (⟨d0, d1, d2, d3, d4⟩ : Dk) := (⟨rfl, rfl, Sa.new (S9.out.alloc (.cells #[.int .i64 d0, .int .i64 d1, .slice a6 n6 c6, .int .i64 d3, .slice a8 n8 c8] 63)) (fun k hk => by have := HZ5.out; rcases hk with hk | hk; (have : k < W4.heap.size := hk; omega); (have := (HOW.out.low k hk).2; omega)), rfl, Sa.new (T9.out.alloc (.cells #[.int .i64 d0, .int .i64 d1, .slice a6 n6 c6, .int .i64 d3, .slice a8 n8 c8] 63)) (fun k hk => by have := HZ5.out; rcases hk with hk | hk; (have : k < W4.heap.size := hk; omega); (have := (HOW.out.low k hk).2; omega))⟩ : RdK _ _ _ _); have hst := Nw.step (α := KV) (δ := Dk) (F := fun b => b < W4.heap.size) (L := L.take k) HXL.out (fun j x e hx he => Nest.ext (HEL.out j x e hx he) (Ext.alloc X9.out _)) hx ho3 ha3; have HST := Lib.hid hst; have HX3 : Hid (Ext W4 W3) := Lib.hid (Below.trans (HX.out.trans (Ext.alloc X9.out _)) (ha3.below.mono (Nat.le_refl _))); clear ho3 ha3 hx hst))
              go_roundw
              case rel => exact ⟨k + 1, by omega, by go_num, Lib.hid (by rw [HTK.out]; exact HST.out), HX3⟩
              case measure => simp [intOf]; omega
            · go_simp
              (try (simp only [Act.put, List.setIfInBounds_toArray, List.set]))
              refine xone 3 (hk := XA.out) (h := RunX.of 3 (h := ?_))

              go_simp
              refine (clone_sd w1 _ d2 (HSL.out.ext XA.out) (by omega)).mono ?_
              rintro e6 w6 ⟨v6, rfl, o6, x6⟩
              obtain ⟨a6, n6, c6, rfl⟩ := o6.sh
              have X6 : Hid (Ext W5 w6) := Lib.hid (HX1.out.trans x6)
              have O6 := Lib.hid (o6.mono (Below.size HX1.out))
              clear o6 x6 c2 c4
              obtain ⟨c2, c4⟩ := HG.out w6 X6.out
              dsimp only
              (try (simp only [Act.put, List.setIfInBounds_toArray, List.set]))

              refine xtv 7 (h := ?_)
              refine xtv 8 (h := ?_)
              refine xone 6 (hk := (X5.out.trans X6.out)) (h := RunX.of 6 (h := ?_))
              go_simp
              refine (clone_i w6 _ d4 (HNL.out.ext (X5.out.trans X6.out)) (by omega)).mono ?_
              rintro e8 w8 ⟨v8, rfl, o8, x8⟩
              obtain ⟨a8, n8, c8, rfl⟩ := o8.sh
              have X8 : Hid (Ext W5 w8) := Lib.hid (X6.out.trans x8)
              have O8 := Lib.hid (o8.mono (Below.size X6.out))
              have O68 := Lib.hid (O6.out.ext x8)
              have B8 := Lib.hid (keepU G5.out X8.out)
              clear o8 x8 O6 c2 c4
              dsimp only
              (try (simp only [Act.put, List.setIfInBounds_toArray, List.set]))
              have c2 := blk_cell B8.out 2 rfl
              have f2 := blk_free B8.out 2
              refine xone 9 (hk := (X5.out.trans X8.out)) (h := RunX.of 9 (h := ?_))
              go_simp
              (try (simp only [Act.put, List.setIfInBounds_toArray, List.set]))
              obtain ⟨Wa, hWa⟩ : ∃ Wa, Wa = w8.setCell ⟨wr.heap.size, 2, none⟩ (.slice a6 n6 c6) := ⟨_, rfl⟩
              have Ba := Lib.hid (hWa ▸ blk_set B8.out 2 (.slice a6 n6 c6) : Wa.heap[wr.heap.size]? = some (.cells #[.int .i64 d0, .int .i64 d1, .slice a6 n6 c6, .int .i64 d3, .slice no2 d4.length nc2] 63 (0, 0)))
              have Oa : Hid (Off (fun b => b = wr.heap.size) w8 Wa) := Lib.hid (hWa ▸ off_set w8 ⟨wr.heap.size, 2, none⟩ _)
              have Xa : Hid (Ext wr Wa) := Lib.hid (ext_off (X5.out.trans X8.out) Oa.out (fun b hb => by omega))
              rw [← hWa]
              clear hWa c2 f2
              refine xtv 10 (h := ?_)
              have c4 := blk_cell Ba.out 4 rfl
              have f4 := blk_free Ba.out 4
              refine xone 11 (hk := Xa.out) (h := RunX.of 11 (h := ?_))
              go_simp
              (try (simp only [Act.put, List.setIfInBounds_toArray, List.set]))
              obtain ⟨W9, hW9⟩ : ∃ W9, W9 = Wa.setCell ⟨wr.heap.size, 4, none⟩ (.slice a8 n8 c8) := ⟨_, rfl⟩
              have G9 := Lib.hid (hW9 ▸ blk_set Ba.out 4 (.slice a8 n8 c8) : W9.heap[wr.heap.size]? = some (.cells #[.int .i64 d0, .int .i64 d1, .slice a6 n6 c6, .int .i64 d3, .slice a8 n8 c8] 63 (0, 0)))
              have o9 : Off (fun b => b = wr.heap.size) w8 W9 := Oa.out.trans (hW9 ▸ off_set Wa ⟨wr.heap.size, 4, none⟩ _) (Grows.refl _ _)
              have X9 : Hid (Ext wr W9) := Lib.hid (ext_off (X5.out.trans X8.out) o9 (fun b hb => by omega))
              have S9 := Lib.hid (owU O68.out (fun b hb => o9.block b (O68.out.low b hb).2 (by have := (O68.out.low b hb).1; have := HZ5.out; omega)))
              have T9 := Lib.hid (owU O8.out (fun b hb => o9.block b (O8.out.low b hb).2 (by have := (O8.out.low b hb).1; have := HZ5.out; omega)))
              rw [← hW9]
              clear hW9 o9 O68 O8 Oa Xa Ba c4 f4
              (refine xdone (by kernel_rfl) (X9.out) ?_)
              obtain ⟨⟨e0, e1, e2⟩, e3', e4⟩ := cells5 G9.out
              go_wp2_with (first
                | (at_builtin; refine wpList_append_sl (α := KV) rfl (.tmp 55) (.tmp 57) rfl W4.heap.size _ xs rfl ?_ (.slice (some ⟨_, 0, none⟩) 1 1) [(⟨d0, d1, a6, n6, c6, d3, a8, n8, c8⟩ : KV)] rfl ?_ ?_ ?_ ?_; exact ((HOW.out.ext X9.out).alloc _); exact (Sl.litAt _ _ (by simp) [(⟨d0, d1, a6, n6, c6, d3, a8, n8, c8⟩ : KV)] (show (1 : Nat) ≤ 1000000 by decide)); (first | omega | (simp; omega)); exact (by have := Below.size X9.out; first | omega | (rw [size_alloc]; omega)); intro v3 W3 ho3 ha3; have hx : Nest.rd (Own1 (fun b => b < W4.heap.size) _) _ (⟨d0, d1, a6, n6, c6, d3, a8, n8, c8⟩ : KV) (⟨d0, d1, d2, d3, d4⟩ : Dk) := (⟨rfl, rfl, Sa.new (S9.out.alloc (.cells #[.int .i64 d0, .int .i64 d1, .slice a6 n6 c6, .int .i64 d3, .slice a8 n8 c8] 63)) (fun k hk => by have := HZ5.out; rcases hk with hk | hk; (have : k < W4.heap.size := hk; omega); (have := (HOW.out.low k hk).2; omega)), rfl, Sa.new (T9.out.alloc (.cells #[.int .i64 d0, .int .i64 d1, .slice a6 n6 c6, .int .i64 d3, .slice a8 n8 c8] 63)) (fun k hk => by have := HZ5.out; rcases hk with hk | hk; (have : k < W4.heap.size := hk; omega); (have := (HOW.out.low k hk).2; omega))⟩ : RdK _ _ _ _); have hst := Nw.step (α := KV) (δ := Dk) (F := fun b => b < W4.heap.size) (L := L.take k) HXL.out (fun j x e hx he => Nest.ext (HEL.out j x e hx he) (Ext.alloc X9.out _)) hx ho3 ha3; have HST := Lib.hid hst; have HX3 : Hid (Ext W4 W3) := Lib.hid (Below.trans (HX.out.trans (Ext.alloc X9.out _)) (ha3.below.mono (Nat.le_refl _))); clear ho3 ha3 hx hst))
              go_roundw
              case rel => exact ⟨k + 1, by omega, by go_num, Lib.hid (by rw [HTK.out]; exact HST.out), HX3⟩
              case measure => simp [intOf]; omega
          · go_simp
            (try (simp only [Act.put, List.setIfInBounds_toArray, List.set]))
            refine xone 2 (hk := XA.out) (h := RunX.of 2 (h := ?_))
            go_simp
            (try (simp only [Act.put, List.setIfInBounds_toArray, List.set]))
            refine xone 3 (hk := XA.out) (h := RunX.of 3 (h := ?_))

            go_simp
            refine (clone_sd w1 _ d2 (HSL.out.ext XA.out) (by omega)).mono ?_
            rintro e6 w6 ⟨v6, rfl, o6, x6⟩
            obtain ⟨a6, n6, c6, rfl⟩ := o6.sh
            have X6 : Hid (Ext W5 w6) := Lib.hid (HX1.out.trans x6)
            have O6 := Lib.hid (o6.mono (Below.size HX1.out))
            clear o6 x6 c2 c4
            obtain ⟨c2, c4⟩ := HG.out w6 X6.out
            dsimp only
            (try (simp only [Act.put, List.setIfInBounds_toArray, List.set]))

            refine xtv 7 (h := ?_)
            refine xtv 8 (h := ?_)
            refine xone 6 (hk := (X5.out.trans X6.out)) (h := RunX.of 6 (h := ?_))
            go_simp
            refine (clone_i w6 _ d4 (HNL.out.ext (X5.out.trans X6.out)) (by omega)).mono ?_
            rintro e8 w8 ⟨v8, rfl, o8, x8⟩
            obtain ⟨a8, n8, c8, rfl⟩ := o8.sh
            have X8 : Hid (Ext W5 w8) := Lib.hid (X6.out.trans x8)
            have O8 := Lib.hid (o8.mono (Below.size X6.out))
            have O68 := Lib.hid (O6.out.ext x8)
            have B8 := Lib.hid (keepU G5.out X8.out)
            clear o8 x8 O6 c2 c4
            dsimp only
            (try (simp only [Act.put, List.setIfInBounds_toArray, List.set]))
            have c2 := blk_cell B8.out 2 rfl
            have f2 := blk_free B8.out 2
            refine xone 9 (hk := (X5.out.trans X8.out)) (h := RunX.of 9 (h := ?_))
            go_simp
            (try (simp only [Act.put, List.setIfInBounds_toArray, List.set]))
            obtain ⟨Wa, hWa⟩ : ∃ Wa, Wa = w8.setCell ⟨wr.heap.size, 2, none⟩ (.slice a6 n6 c6) := ⟨_, rfl⟩
            have Ba := Lib.hid (hWa ▸ blk_set B8.out 2 (.slice a6 n6 c6) : Wa.heap[wr.heap.size]? = some (.cells #[.int .i64 d0, .int .i64 d1, .slice a6 n6 c6, .int .i64 d3, .slice no2 d4.length nc2] 63 (0, 0)))
            have Oa : Hid (Off (fun b => b = wr.heap.size) w8 Wa) := Lib.hid (hWa ▸ off_set w8 ⟨wr.heap.size, 2, none⟩ _)
            have Xa : Hid (Ext wr Wa) := Lib.hid (ext_off (X5.out.trans X8.out) Oa.out (fun b hb => by omega))
            rw [← hWa]
            clear hWa c2 f2
            refine xtv 10 (h := ?_)
            have c4 := blk_cell Ba.out 4 rfl
            have f4 := blk_free Ba.out 4
            refine xone 11 (hk := Xa.out) (h := RunX.of 11 (h := ?_))
            go_simp
            (try (simp only [Act.put, List.setIfInBounds_toArray, List.set]))
            obtain ⟨W9, hW9⟩ : ∃ W9, W9 = Wa.setCell ⟨wr.heap.size, 4, none⟩ (.slice a8 n8 c8) := ⟨_, rfl⟩
            have G9 := Lib.hid (hW9 ▸ blk_set Ba.out 4 (.slice a8 n8 c8) : W9.heap[wr.heap.size]? = some (.cells #[.int .i64 d0, .int .i64 d1, .slice a6 n6 c6, .int .i64 d3, .slice a8 n8 c8] 63 (0, 0)))
            have o9 : Off (fun b => b = wr.heap.size) w8 W9 := Oa.out.trans (hW9 ▸ off_set Wa ⟨wr.heap.size, 4, none⟩ _) (Grows.refl _ _)
            have X9 : Hid (Ext wr W9) := Lib.hid (ext_off (X5.out.trans X8.out) o9 (fun b hb => by omega))
            have S9 := Lib.hid (owU O68.out (fun b hb => o9.block b (O68.out.low b hb).2 (by have := (O68.out.low b hb).1; have := HZ5.out; omega)))
            have T9 := Lib.hid (owU O8.out (fun b hb => o9.block b (O8.out.low b hb).2 (by have := (O8.out.low b hb).1; have := HZ5.out; omega)))
            rw [← hW9]
            clear hW9 o9 O68 O8 Oa Xa Ba c4 f4
            (refine xdone (by kernel_rfl) (X9.out) ?_)
            obtain ⟨⟨e0, e1, e2⟩, e3', e4⟩ := cells5 G9.out
            go_wp2_with (first
              | (at_builtin; refine wpList_append_sl (α := KV) rfl (.tmp 55) (.tmp 57) rfl W4.heap.size _ xs rfl ?_ (.slice (some ⟨_, 0, none⟩) 1 1) [(⟨d0, d1, a6, n6, c6, d3, a8, n8, c8⟩ : KV)] rfl ?_ ?_ ?_ ?_; exact ((HOW.out.ext X9.out).alloc _); exact (Sl.litAt _ _ (by simp) [(⟨d0, d1, a6, n6, c6, d3, a8, n8, c8⟩ : KV)] (show (1 : Nat) ≤ 1000000 by decide)); (first | omega | (simp; omega)); exact (by have := Below.size X9.out; first | omega | (rw [size_alloc]; omega)); intro v3 W3 ho3 ha3; have hx : Nest.rd (Own1 (fun b => b < W4.heap.size) _) _ (⟨d0, d1, a6, n6, c6, d3, a8, n8, c8⟩ : KV) (⟨d0, d1, d2, d3, d4⟩ : Dk) := (⟨rfl, rfl, Sa.new (S9.out.alloc (.cells #[.int .i64 d0, .int .i64 d1, .slice a6 n6 c6, .int .i64 d3, .slice a8 n8 c8] 63)) (fun k hk => by have := HZ5.out; rcases hk with hk | hk; (have : k < W4.heap.size := hk; omega); (have := (HOW.out.low k hk).2; omega)), rfl, Sa.new (T9.out.alloc (.cells #[.int .i64 d0, .int .i64 d1, .slice a6 n6 c6, .int .i64 d3, .slice a8 n8 c8] 63)) (fun k hk => by have := HZ5.out; rcases hk with hk | hk; (have : k < W4.heap.size := hk; omega); (have := (HOW.out.low k hk).2; omega))⟩ : RdK _ _ _ _); have hst := Nw.step (α := KV) (δ := Dk) (F := fun b => b < W4.heap.size) (L := L.take k) HXL.out (fun j x e hx he => Nest.ext (HEL.out j x e hx he) (Ext.alloc X9.out _)) hx ho3 ha3; have HST := Lib.hid hst; have HX3 : Hid (Ext W4 W3) := Lib.hid (Below.trans (HX.out.trans (Ext.alloc X9.out _)) (ha3.below.mono (Nat.le_refl _))); clear ho3 ha3 hx hst))
            go_roundw
            case rel => exact ⟨k + 1, by omega, by go_num, Lib.hid (by rw [HTK.out]; exact HST.out), HX3⟩
            case measure => simp [intOf]; omega
        · have hkl : k = L.length := by omega
          have hq := HQ.out
          rw [hkl, List.take_length] at hq
          have HQ' := Lib.hid hq
          clear hq HQ hkl
          obtain ⟨la, lc, rfl⟩ := HQ'.out.len
          have hless := HQ'.out.lessN (G := Non) fun k hk => hk.elim
          obtain ⟨xs0, how0, q1z, q2z⟩ := hless.any
          obtain ⟨gl, cur, rfl, hgl, _, hlc, hlc63, hcur, hcsz, hput⟩ := hless.putK hAL ⟨i2, p2, a3, S2.length, c3, t2, na3, N2.length, nc3⟩ ⟨i2, p2, S2, t2, N2⟩ (⟨rfl, rfl, ⟨S4.out.ext HX.out, by
            by_cases hS2 : S2 = []
            · exact .inl hS2
            · refine .inr fun b hb hf => ?_
              have hb1 := S4.out.block_lt hS2 b hb
              rcases hf with hf | hf
              · exact hf.elim
              · have := (how0.low b hf).1
                omega⟩, rfl, ⟨SN4.out.ext HX.out, by
            by_cases hS2 : N2 = []
            · exact .inl hS2
            · refine .inr fun b hb hf => ?_
              have hb1 := SN4.out.block_lt hS2 b hb
              rcases hf with hf | hf
              · exact hf.elim
              · have := (how0.low b hf).1
                omega⟩⟩ : RdK _ _ _ _)
          have HCUR := Lib.hid hcur
          have HPUT := Lib.hid hput
          have HCZ : Hid (A * 5 + 5 ≤ cur.size) := Lib.hid hcsz
          have XW : Hid (Ext W0 wr) := Lib.hid (X4.out.trans HX.out)
          obtain ⟨⟨m0, m1, m2⟩, m3, m4⟩ := cells5 (keepU D4.out HX.out)
          clear hcur hput hcsz hless how0 q1z q2z xs0 HQ' k0 k1
          go_wp2_with (first | refine haltst 63 ?_)
          refine .inl ?_
          refine st_l 63 (.tmp 63) (.tmp 62) gl (A * 5) 63 cur #[.int .i64 i2, .int .i64 p2, .slice a3 S2.length c3, .int .i64 t2, .slice na3 N2.length nc3] _ rfl rfl HCUR.out (by kernel_rfl) HCZ.out rfl rfl ?_
          intro W8 hW8 o8
          simp only [Act.put]
          have O8 := Lib.hid (HPUT.out W8 hW8 o8)
          have X8 : Hid (Ext W4 W8) := Lib.hid (ext_off HX.out o8 (fun b hb => by omega))
          have X80 : Hid (Ext W0 W8) := Lib.hid (X4.out.trans X8.out)
          obtain ⟨k0, k1⟩ := cells2S (keepU B0.out X80.out)
          have hms := HL.out.m
          have hs1 := hrl
          clear hW8 o8 m0 m1 m2 m3 m4
          go_wp2_with (first
            | (go_at_call 92; refine (concat_m _ W8.heap.size _ _ M M2 (by rw [size_alloc]; omega) (blk_cell (at0 W8 _) 0 rfl) (blk_cell (at0 W8 _) 1 rfl) ((HV.out.ms.ext X80.out).alloc _) ((L4.out.ext X8.out).alloc _) hms (by omega)).mono ?_; rintro e wc ⟨vc, rfl, oc, xc⟩; obtain ⟨ca, cn, cc, rfl⟩ := oc.sh; have SC := Lib.hid oc.sl; have XC : Hid (Ext W8 wc) := Lib.hid (Ext.trans ((Ext.refl W8).alloc _) xc); clear oc xc)
            | refine haltst 25 ?_)
          refine .inl ?_
          have RC := Lib.hid (keepU R0.out (X80.out.trans XC.out))
          refine st_l 25 (.tmp 6) (.tmp 70) (w.heap.size + 1) 0 25 _ #[.slice (some ⟨gl, 0, none⟩) L.length lc, .slice ca cn cc] _ rfl rfl RC.out (by kernel_rfl) (by simp) rfl rfl ?_
          intro W9 hW9 o9
          simp only [Act.put]
          go_wp2
          exact bodyPost_ret (v := .tuple #[.agg #[.slice (some ⟨gl, 0, none⟩) L.length lc, .slice ca cn cc], .int .i64 0]) (res_ct 7 rfl rfl hW9 uBar (by kernel_rfl)) rfl (by
            rw [HR.out]
            exact ⟨_, _, rfl, (BV.mk ((O8.out.ns (fun k hk => hk.elim) (fun k hk => hk.elim)).ext XC.out) SC.out).off RC.out o9, ext_off (X0.out.trans (X80.out.trans XC.out)) o9 (fun b hb => by omega)⟩)
  · have HR : Hid (behB L M A (⟨i1, p1, S1, t1, N1⟩, er) = (noB, er)) := Lib.hid (by unfold behB; dsimp only; rw [if_neg he])
    have q0 : (er != 0) = true := by simp [he]
    clear he
    go_wp2_with (first | refine haltst 25 ?_)
    refine .inl ?_
    refine st_l 25 (.tmp 6) (.tmp 26) (w.heap.size + 1) 0 25 _ #[.slice none 0 0, .slice none 0 0] _ rfl rfl (keepU R0.out X2.out) (by kernel_rfl) (by simp) rfl rfl ?_
    intro W9 hW9 o9
    simp only [Act.put]
    go_wp2
    exact bodyPost_ret (v := .tuple #[.agg #[.slice none 0 0, .slice none 0 0], .int .i64 er]) (res_ct 7 rfl rfl hW9 uBar (by kernel_rfl)) rfl (givesBar_no HR.out (ext_off (X0.out.trans X2.out) o9 (fun b hb => by omega)))
end Go.Proofs.YtfbambemjokmgaaGreat
