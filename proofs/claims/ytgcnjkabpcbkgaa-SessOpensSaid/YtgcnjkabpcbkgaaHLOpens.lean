/- Layer 17: SessOpens. -/
import Derived.Test.YtgcnjkabpcbkgaaHW
import Derived.Test.YtgcnjkabpcbkgaaH4
namespace Go.Proofs.Ytgcnjkabpcbkgaa
open Go.RowKit

set_option maxRecDepth 100000 in
set_option maxHeartbeats 16000000 in
theorem sessOpens_any (w : World) (n sid : Int) (v nv : Value) (L : List Se) (N : List Int) (h : Ns HV Non w v L) (hN : Sl w nv N) :
    Calls Try.prog 8 #[.agg #[.int .i64 n, v], .int .i64 sid, nv] w fun e w' => e = .returned (.bool true) ∧ Ext w w' := by
  obtain ⟨ao, c, rfl⟩ := h.len
  obtain ⟨no, nc, rfl⟩ := hN.len
  have hlen := h.length_le
  have hlenN := hN.length_le
  obtain ⟨W0, hW0⟩ : ∃ W0, W0 = w.alloc (.cells #[.int .i64 n, .slice ao L.length c] 24) := ⟨_, rfl⟩
  have X0 : Hid (Ext w W0) := Lib.hid (by rw [hW0]; exact (Ext.refl w).alloc _)
  have B0 : Hid (W0.heap[w.heap.size]? = some (.cells #[.int .i64 n, .slice ao L.length c] 24 (0, 0))) := Lib.hid (by rw [hW0]; exact at0 w _)
  have HW0 := Lib.hid hW0
  have HS := Lib.hid (h.ext X0.out)
  have HN := Lib.hid (hN.ext X0.out)
  have HK : Hid (∀ V, Ext W0 V → V.cell? ⟨w.heap.size, 0, none⟩ = some (.int .i64 n) ∧ V.cell? ⟨w.heap.size, 1, none⟩ = some (.slice ao L.length c)) := Lib.hid fun V hV => ⟨blk_cell (keepU B0.out hV) 0 rfl, blk_cell (keepU B0.out hV) 1 rfl⟩
  obtain ⟨k0, k1⟩ := HK.out W0 (Ext.refl _)
  clear h hN hW0
  obtain ⟨f, hf⟩ : ∃ f, fewH L = f := ⟨_, rfl⟩
  have HF := Lib.hid hf
  cases f
  · clear hf
    go_enter Try.func8, Try.ntmps8
    go_upto_region 1 with (fail)
    rw [← HW0.out]
    go_wp2_with (first
      | (have hgd := X2; go_at_call 9; refine (awakeH_any _).mono ?_; rintro e w9 ⟨rfl, x9⟩; have X9 : Hid (Ext W0 w9) := Lib.hid (X2.out.trans x9); clear x9)
      | (go_at_call 9; refine (awakeH_any _).mono ?_; rintro e w1 ⟨rfl, x1⟩; have X1 : Hid (Ext W0 w1) := Lib.hid x1; clear x1 k0 k1; obtain ⟨k0, k1⟩ := HK.out w1 X1.out)
      | (go_at_call 10; refine (refBkFew_any _ w1 n _ L (HS.out.ext X1.out) _ HF.out).mono ?_; rintro e w2 ⟨rfl, x2⟩; have X2 : Hid (Ext W0 w2) := Lib.hid (X1.out.trans x2); clear x2 k0 k1; obtain ⟨k0, k1⟩ := HK.out w2 X2.out))
    go_ret
    exact ⟨rfl, X0.out.trans X9.out⟩
  have HFY := Lib.hid (fewH_iff.1 hf)
  clear hf
  by_cases h70 : (70 : Int) < (N.length : Int)
  · go_enter Try.func8, Try.ntmps8
    go_upto_region 1 with (fail)
    rw [← HW0.out]
    go_wp2_with (first
      | (have hgd := X2; go_at_call 9; refine (awakeH_any _).mono ?_; rintro e w9 ⟨rfl, x9⟩; have X9 : Hid (Ext W0 w9) := Lib.hid (X2.out.trans x9); clear x9)
      | (go_at_call 9; refine (awakeH_any _).mono ?_; rintro e w1 ⟨rfl, x1⟩; have X1 : Hid (Ext W0 w1) := Lib.hid x1; clear x1 k0 k1; obtain ⟨k0, k1⟩ := HK.out w1 X1.out)
      | (go_at_call 10; refine (refBkFew_any _ w1 n _ L (HS.out.ext X1.out) _ HF.out).mono ?_; rintro e w2 ⟨rfl, x2⟩; have X2 : Hid (Ext W0 w2) := Lib.hid (X1.out.trans x2); clear x2 k0 k1; obtain ⟨k0, k1⟩ := HK.out w2 X2.out))
    go_ret
    exact ⟨rfl, X0.out.trans X9.out⟩
  obtain ⟨⟨⟨q1, q2⟩, q3⟩, hq⟩ : ∃ r, openH (n, L) sid N = r := ⟨_, rfl⟩
  by_cases he : q3 = 0
  rotate_left
  · have hz : stepH (n, L) 0 sid 0 N = ((q1, q2), [], q3) := by simp [stepH, hq]
    have hno := stepH_no (b := (n, L)) (k := 0) (id := sid) (n := 0) (need := N) (by rw [hz]; exact he)
    rw [hz] at hno
    simp only [noH, Prod.mk.injEq] at hno
    obtain ⟨rfl, rfl⟩ := hno
    have HQ := Lib.hid hq
    have hd : (q3 != 0) = true := by simpa using he
    clear hq hz he
    go_enter Try.func8, Try.ntmps8
    go_upto_region 1 with (fail)
    rw [← HW0.out]
    go_wp2_with (first
      | (go_at_call 9; refine (awakeH_any _).mono ?_; rintro e w1 ⟨rfl, x1⟩; have X1 : Hid (Ext W0 w1) := Lib.hid x1; clear x1 k0 k1; obtain ⟨k0, k1⟩ := HK.out w1 X1.out)
      | (go_at_call 10; refine (refBkFew_any _ w1 n _ L (HS.out.ext X1.out) _ HF.out).mono ?_; rintro e w2 ⟨rfl, x2⟩; have X2 : Hid (Ext W0 w2) := Lib.hid (X1.out.trans x2); clear x2 k0 k1; obtain ⟨k0, k1⟩ := HK.out w2 X2.out)
      | (go_at_call 13; refine (ownBk_any Non w2 n _ L (HS.out.ext X2.out) (by have := HFY.out.1; omega) (fun s hs => Nat.le_trans (HFY.out.2 s hs) (by decide)) (fun b hb => hb.elim)).mono ?_; rintro e w3 ⟨a3, m3, c3, rfl, n3, x3⟩; have N3 := Lib.hid n3; have X3 : Hid (Ext W0 w3) := Lib.hid (X2.out.trans x3); clear n3 x3)
      | (at_builtin; refine wpList_append_sl (α := Int) rfl (.tmp 30) (.tmp 31) rfl w3.heap.size (.slice (some ⟨_, 0, none⟩) 0 0) [] rfl ?_ _ N rfl ?_ ?_ ?_ ?_; exact (Ow.litAt w3 _ _ rfl (Nat.le_refl _) [] (by simp)); exact ((HN.out.ext X3.out).alloc _); (first | omega | (simp; omega)); exact (by rw [size_alloc]; omega); intro v4 w4 ho4 ha4; obtain ⟨a4, m4, c4, rfl⟩ := ho4.sh; have S4 := Lib.hid ho4.sl; have Y4 : Hid (Ext w3 w4) := Lib.hid (Below.trans (Ext.alloc (Ext.refl w3) _) ha4.below); clear ho4 ha4)
      | (go_at_call 26; refine (HQ.out ▸ sessOpen_any Non w4 n _ _ _ L N (N3.out.ext Y4.out) S4.out (by have := HFY.out.1; omega) (by omega) (fun b hb => hb.elim)).mono ?_; rintro e w5 ⟨a5, m5, c5, rfl, n5, x5⟩; dsimp only at n5 ⊢; have N5 := Lib.hid n5; have X5 : Hid (Ext W0 w5) := Lib.hid (X3.out.trans (Y4.out.trans x5)); clear n5 x5)
      | refine haltst 24 ?_)
    refine .inl ?_
    obtain ⟨gx, hgx⟩ : ∃ g, g = w5.heap.size := ⟨_, rfl⟩
    have hb := at0 w5 (.cells #[.int .i64 0, .slice none 0 0] 24)
    rw [← hgx] at hb ⊢
    refine st_l 24 (.tmp 7) (.tmp 34) gx 0 24 _ #[.int .i64 0, .slice a5 m5 c5] _ rfl rfl hb (by kernel_rfl) (by simp) rfl rfl ?_
    intro W6 hW6 o6
    simp only [Act.put]
    have D6 := Lib.hid hW6
    have Y6 : Hid (Ext w5 W6) := Lib.hid (ext_off ((Ext.refl w5).alloc _) o6 (fun b hb => by omega))
    have X6 : Hid (Ext W0 W6) := Lib.hid (X5.out.trans Y6.out)
    clear hW6 o6 hb hgx k0 k1
    have d0 := blk_cell D6.out 0 rfl
    have d1 := blk_cell D6.out 1 rfl
    go_wp2_with (first
      | (go_at_call 18; refine (refBkSame_any Non Non W6 0 0 _ _ [] [] (N5.out.ext Y6.out) (Ns.nil _ _) true (decide_eq_true rfl)).mono ?_; rintro e w9 ⟨rfl, x9⟩; have X9 : Hid (Ext W0 w9) := Lib.hid (X6.out.trans x9); clear x9))
    go_ret
    exact ⟨rfl, X0.out.trans X9.out⟩
  subst he
  obtain ⟨ok, o1, o2, o3, o4⟩ := openH_ok (b := (n, L)) (id := sid) (l := N) (by rw [hq])
  rw [hq] at o4
  simp only [Prod.mk.injEq] at o4
  dsimp only at o1 o3
  obtain ⟨rfl, rfl⟩ := o4
  have HQ := Lib.hid hq
  have hnl : (norm N).length ≤ 70 := Nat.le_trans (norm_length N) (by omega)
  have HLS : Hid (∀ s ∈ L ++ [(⟨q1, norm N, 0, 0⟩ : Se)], s.need.length ≤ 1000) := Lib.hid fun s hs => by
    rcases List.mem_append.1 hs with e | e
    · exact Nat.le_trans (HFY.out.2 s e) (by decide)
    · simp at e; subst e; exact Nat.le_trans hnl (by decide)
  have HLL : Hid ((L ++ [(⟨q1, norm N, 0, 0⟩ : Se)]).length ≤ 1000) := Lib.hid (by simp only [List.length_append, List.length_cons, List.length_nil]; have := HFY.out.1; omega)
  have HP : Hid (pollH (q1, L ++ [(⟨q1, norm N, 0, 0⟩ : Se)]) q1 = (0, 0)) := Lib.hid (open_poll ok o1 o2 o3)
  have HA : Hid (openH (q1, L ++ [(⟨q1, norm N, 0, 0⟩ : Se)]) q1 [] = (noH, 171)) := Lib.hid (open_again ok o1 o2 o3)
  have HC : Hid (chkH (q1, L ++ [(⟨q1, norm N, 0, 0⟩ : Se)]) = true) := Lib.hid (okH_iff.2 (ok.opens o1 o2 o3))
  have hL8 : L.length < 8 := o3
  obtain ⟨M, hM⟩ : ∃ M, M = L ++ [(⟨q1, norm N, 0, 0⟩ : Se)] := ⟨_, rfl⟩
  have hML : M.length = L.length + 1 := by rw [hM]; simp
  have HLast : Hid (∃ s, M[L.length]? = some s ∧ s.id = q1) := Lib.hid ⟨⟨q1, norm N, 0, 0⟩, by rw [hM]; simp, rfl⟩
  rw [← hM] at HLS HLL HP HA HC HQ
  have HML := Lib.hid hML
  clear hq ok o1 o2 o3 hnl hM hML
  go_enter Try.func8, Try.ntmps8
  go_upto_region 1 with (fail)
  rw [← HW0.out]
  go_wp2_with (first
    | (go_at_call 9; refine (awakeH_any _).mono ?_; rintro e w1 ⟨rfl, x1⟩; have X1 : Hid (Ext W0 w1) := Lib.hid x1; clear x1 k0 k1; obtain ⟨k0, k1⟩ := HK.out w1 X1.out)
    | (go_at_call 10; refine (refBkFew_any _ w1 n _ L (HS.out.ext X1.out) _ HF.out).mono ?_; rintro e w2 ⟨rfl, x2⟩; have X2 : Hid (Ext W0 w2) := Lib.hid (X1.out.trans x2); clear x2 k0 k1; obtain ⟨k0, k1⟩ := HK.out w2 X2.out)
    | (go_at_call 13; refine (ownBk_any Non w2 n _ L (HS.out.ext X2.out) (by have := HFY.out.1; omega) (fun s hs => Nat.le_trans (HFY.out.2 s hs) (by decide)) (fun b hb => hb.elim)).mono ?_; rintro e w3 ⟨a3, m3, c3, rfl, n3, x3⟩; have N3 := Lib.hid n3; have X3 : Hid (Ext W0 w3) := Lib.hid (X2.out.trans x3); clear n3 x3)
    | (at_builtin; refine wpList_append_sl (α := Int) rfl (.tmp 30) (.tmp 31) rfl w3.heap.size (.slice (some ⟨_, 0, none⟩) 0 0) [] rfl ?_ _ N rfl ?_ ?_ ?_ ?_; exact (Ow.litAt w3 _ _ rfl (Nat.le_refl _) [] (by simp)); exact ((HN.out.ext X3.out).alloc _); (first | omega | (simp; omega)); exact (by rw [size_alloc]; omega); intro v4 w4 ho4 ha4; obtain ⟨a4, m4, c4, rfl⟩ := ho4.sh; have S4 := Lib.hid ho4.sl; have Y4 : Hid (Ext w3 w4) := Lib.hid (Below.trans (Ext.alloc (Ext.refl w3) _) ha4.below); clear ho4 ha4)
    | (go_at_call 26; refine (HQ.out ▸ sessOpen_any Non w4 n _ _ _ L N (N3.out.ext Y4.out) S4.out (by have := HFY.out.1; omega) (by omega) (fun b hb => hb.elim)).mono ?_; rintro e w5 ⟨a5, m5, c5, rfl, n5, x5⟩; dsimp only at n5 ⊢; have N5 := Lib.hid n5; have X5 : Hid (Ext W0 w5) := Lib.hid (X3.out.trans (Y4.out.trans x5)); clear n5 x5)
    | refine haltst 24 ?_)
  refine .inl ?_
  obtain ⟨gx, hgx⟩ : ∃ g, g = w5.heap.size := ⟨_, rfl⟩
  have hb := at0 w5 (.cells #[.int .i64 0, .slice none 0 0] 24)
  rw [← hgx] at hb ⊢
  refine st_l 24 (.tmp 7) (.tmp 34) gx 0 24 _ #[.int .i64 q1, .slice a5 m5 c5] _ rfl rfl hb (by kernel_rfl) (by simp) rfl rfl ?_
  intro W6 hW6 o6
  simp only [Act.put]
  have D6 := Lib.hid hW6
  have Y6 : Hid (Ext w5 W6) := Lib.hid (ext_off ((Ext.refl w5).alloc _) o6 (fun b hb => by omega))
  have X6 : Hid (Ext W0 W6) := Lib.hid (X5.out.trans Y6.out)
  clear hW6 o6 hb hgx k0 k1
  have d0 := blk_cell D6.out 0 rfl
  have d1 := blk_cell D6.out 1 rfl
  obtain ⟨k0, k1⟩ := HK.out W6 X6.out
  go_wp2_with (first
    | (have hgd := X9; go_at_call 26; refine (HA.out ▸ sessOpen_any Non w9 q1 q1 _ _ M [] N9.out (slNoneU _) HLL.out (by simp) (fun b hb => hb.elim)).mono ?_; rintro e wA ⟨aA, mA, cA, rfl, nA, xA⟩; dsimp only [noH] at nA ⊢; have NA := Lib.hid nA; have XA : Hid (Ext W6 wA) := Lib.hid (X9.out.trans xA); clear nA xA; clear d0 d1 k0 k1; obtain ⟨k0, k1⟩ := HK.out wA (X6.out.trans XA.out); have d0 := blk_cell (keepU D6.out XA.out) 0 rfl; have d1 := blk_cell (keepU D6.out XA.out) 1 rfl)
    | (have hgd := X8; go_at_call 13; refine (ownBk_any Non w8 q1 _ M (N5.out.ext (Y6.out.trans X8.out)) HLL.out HLS.out (fun b hb => hb.elim)).mono ?_; rintro e w9 ⟨a9, m9, c9, rfl, n9, x9⟩; have N9 := Lib.hid n9; have X9 : Hid (Ext W6 w9) := Lib.hid (X8.out.trans x9); clear n9 x9; clear d0 d1 k0 k1; obtain ⟨k0, k1⟩ := HK.out w9 (X6.out.trans X9.out); have d0 := blk_cell (keepU D6.out X9.out) 0 rfl; have d1 := blk_cell (keepU D6.out X9.out) 1 rfl)
    | (go_at_call 15; refine (sessPoll_any Non w7 q1 q1 _ M N7.out HLL.out).mono ?_; rintro e w8 ⟨rfl, x8⟩; rw [HP.out]; have X8 : Hid (Ext W6 w8) := Lib.hid (X7.out.trans x8); clear x8; clear d0 d1 k0 k1; obtain ⟨k0, k1⟩ := HK.out w8 (X6.out.trans X8.out); have d0 := blk_cell (keepU D6.out X8.out) 0 rfl; have d1 := blk_cell (keepU D6.out X8.out) 1 rfl)
    | (go_at_call 13; refine (ownBk_any Non W6 q1 _ M (N5.out.ext (Y6.out)) HLL.out HLS.out (fun b hb => hb.elim)).mono ?_; rintro e w7 ⟨a7, m7, c7, rfl, n7, x7⟩; have N7 := Lib.hid n7; have X7 : Hid (Ext W6 w7) := Lib.hid (x7); clear n7 x7; clear d0 d1 k0 k1; obtain ⟨k0, k1⟩ := HK.out w7 (X6.out.trans X7.out); have d0 := blk_cell (keepU D6.out X7.out) 0 rfl; have d1 := blk_cell (keepU D6.out X7.out) 1 rfl)
    | refine haltst 24 ?_)
  refine .inl ?_
  obtain ⟨gy, hgy⟩ : ∃ g, g = wA.heap.size := ⟨_, rfl⟩
  have hb := at0 wA (.cells #[.int .i64 0, .slice none 0 0] 24)
  rw [← hgy] at hb ⊢
  refine st_l 24 (.tmp 11) (.tmp 53) gy 0 24 _ #[.int .i64 0, .slice aA mA cA] _ rfl rfl hb (by kernel_rfl) (by simp) rfl rfl ?_
  intro WB hWB oB
  simp only [Act.put]
  have YB : Hid (Ext wA WB) := Lib.hid (ext_off ((Ext.refl wA).alloc _) oB (fun b hb => by omega))
  have XB : Hid (Ext W6 WB) := Lib.hid (XA.out.trans YB.out)
  clear hWB oB hb hgy k0 k1 d0 d1
  obtain ⟨k0, k1⟩ := HK.out WB (X6.out.trans XB.out)
  have d0 := blk_cell (keepU D6.out XB.out) 0 rfl
  have d1 := blk_cell (keepU D6.out XB.out) 1 rfl
  obtain ⟨b1, off, so, sc, s, hsj, hao, hn, hnc, hc63, hb, hsn, hcs⟩ := (N5.out.ext (Y6.out.trans XB.out)).sessAt (k := L.length) (by have := HML.out; omega)
  subst hao
  obtain rfl : m5 = L.length + 1 := by have := HML.out; omega
  have hsi : s.id = q1 := by
    obtain ⟨s', h1, h2⟩ := HLast.out
    rw [h1] at hsj
    simp only [Option.some.injEq] at hsj
    subst hsj
    exact h2
  have y0 := (hcs WB (Ext.refl _)).1.1
  rw [hsi] at y0
  clear hcs hsj hn hsn hsi
  have hw1 : IntKind.i64.wrap ((L.length : Int) + 1) = (L.length : Int) + 1 := wrapN _ (by omega) (by omega)
  have e1 : (((L.length + 1 : Nat) : Int) == (L.length : Int) + 1) = true := by simp
  go_wp2_with (first
    | (have hgd := XB; go_at_call 13; refine (ownBk_any Non WB q1 _ M (N5.out.ext (Y6.out.trans XB.out)) HLL.out HLS.out (fun b hb => hb.elim)).mono ?_; rintro e wC ⟨aC, mC, cC, rfl, nC, xC⟩; have NC := Lib.hid nC; have XC : Hid (Ext W6 wC) := Lib.hid (XB.out.trans xC); clear nC xC; clear d0 d1 k0 k1; obtain ⟨k0, k1⟩ := HK.out wC (X6.out.trans XC.out); have d0 := blk_cell (keepU D6.out XC.out) 0 rfl; have d1 := blk_cell (keepU D6.out XC.out) 1 rfl)
    | (go_at_call 20; refine (sessCheck_any Non wC q1 _ M NC.out HLL.out true HC.out).mono ?_; rintro e wD ⟨rfl, xD⟩; have XD : Hid (Ext W6 wD) := Lib.hid (XC.out.trans xD); clear xD))
  go_ret
  exact ⟨rfl, X0.out.trans (X6.out.trans XD.out)⟩

end Go.Proofs.Ytgcnjkabpcbkgaa
