/- Layer 17, the document's answers: Open. -/
import Derived.Test.YtgcnjkabpcbkgaaH6
import Derived.Test.YtgcnjkabpcbkgaaWR
namespace Go.Proofs.Ytgcnjkabpcbkgaa
open Go.RowKit

set_option maxRecDepth 100000 in
set_option maxHeartbeats 8000000 in
theorem refOpen_any (F : Nat → Prop) (w : World) (n id : Int) (v nv : Value) (L : List Se) (N : List Int) (h : Ns HV F w v L) (hN : Sl w nv N) (hl : L.length ≤ 1000) (hlN : N.length ≤ 1000) (hF : ∀ b, F b → b < w.heap.size) :
    Calls Try.prog 29 #[.agg #[.int .i64 n, v], .int .i64 id, nv] w (GivesBk F w (openH (n, L) id N)) := by
  obtain ⟨no, nc0, rfl⟩ := hN.len
  obtain ⟨ao, c, rfl⟩ := h.len
  obtain ⟨W0, hW0⟩ : ∃ W0, W0 = (w.alloc (.cells #[.int .i64 n, .slice ao L.length c] 24)).alloc (.cells #[.int .i64 0, .slice none 0 0] 24) := ⟨_, rfl⟩
  have X0 : Hid (Ext w W0) := Lib.hid (hW0 ▸ ((Ext.refl w).alloc _).alloc _)
  have B0 : Hid (W0.heap[w.heap.size]? = some (.cells #[.int .i64 n, .slice ao L.length c] 24 (0, 0))) := Lib.hid (hW0 ▸ old1 (at0 w _) _)
  have R0 : Hid (W0.heap[w.heap.size + 1]? = some (.cells #[.int .i64 0, .slice none 0 0] 24 (0, 0))) := Lib.hid (hW0 ▸ at1 w _ _)
  have HZ0 : Hid (W0.heap.size = w.heap.size + 2) := Lib.hid (by rw [hW0, size_alloc, size_alloc])
  have HW0 := Lib.hid hW0
  have HS := Lib.hid ((ns_orB h 2).ext X0.out)
  have HFB : Hid (∀ V, Ext W0 V → ∀ b, OrB F w 2 b → b < V.heap.size) := Lib.hid fun V hV b hb => by
    have h1 := Below.size hV
    have h2 := HZ0.out
    rcases hb with hb | hb
    · have := hF b hb; omega
    · have := hb.2; omega
  have HK : Hid (∀ V, Ext W0 V → V.cell? ⟨w.heap.size, 0, none⟩ = some (.int .i64 n) ∧ V.cell? ⟨w.heap.size, 1, none⟩ = some (.slice ao L.length c)) := Lib.hid fun V hV => ⟨blk_cell (keepU B0.out hV) 0 rfl, blk_cell (keepU B0.out hV) 1 rfl⟩
  have RK : Hid (∀ V, Ext W0 V → V.heap[w.heap.size + 1]? = some (.cells #[.int .i64 0, .slice none 0 0] 24 (0, 0))) := Lib.hid fun V hV => keepU R0.out hV
  clear hW0
  obtain ⟨t, ht⟩ : ∃ t, chkH (n, L) = t := ⟨_, rfl⟩
  have HCK : Hid (Calls Try.prog 17 #[.agg #[.int .i64 n, .slice ao L.length c]] W0 fun e w' => e = .returned (.bool t) ∧ Ext W0 w') := Lib.hid (refBkCheck_any _ W0 n _ L HS.out t ht)
  have hcell := HK.out W0 (Ext.refl _)
  obtain ⟨k0, k1⟩ := hcell
  have HN : Hid (∀ V, Ext W0 V → Sl V (.slice no N.length nc0) N) := Lib.hid fun V hV => hN.ext (X0.out.trans hV)
  clear h hN
  cases t
  · have HR : Hid (openH (n, L) id N = (noH, 170)) := Lib.hid (by unfold openH; rw [if_neg (by rw [ht]; exact Bool.false_ne_true)])
    clear ht
    go_enter Try.func29, Try.ntmps29
    go_upto_region 1 with (fail)
    rw [← HW0.out]
    go_wp2_with (first
      | (go_at_call 17; refine (HCK.out).mono ?_; rintro e w2 ⟨rfl, x2⟩; have X2 : Hid (Ext W0 w2) := Lib.hid x2; clear x2 k0 k1; obtain ⟨d0, d1⟩ := HK.out w2 X2.out)
      | refine haltst 24 ?_)
    refine .inl ?_
    refine st_l 24 (.tmp 6) (.tmp 11) (w.heap.size + 1) 0 24 _ #[.int .i64 0, .slice none 0 0] _ rfl rfl (RK.out _ X2.out) (by kernel_rfl) (by simp) rfl rfl ?_
    intro W9 hW9 o9
    simp only [Act.put]
    go_wp2
    exact bodyPost_ret (v := .tuple #[.agg #[.int .i64 0, .slice none 0 0], .int .i64 170]) (res_ct 7 rfl rfl hW9 uBook (by kernel_rfl)) rfl (givesBk_no HR.out (ext_off (X0.out.trans X2.out) o9 (fun b hb => by omega)))
  by_cases hid : id ≤ n
  · have HR : Hid (openH (n, L) id N = (noH, 171)) := Lib.hid (by unfold openH; rw [if_pos ht, if_pos hid])
    clear ht
    go_enter Try.func29, Try.ntmps29
    go_upto_region 1 with (fail)
    rw [← HW0.out]
    go_wp2_with (first
      | (go_at_call 17; refine (HCK.out).mono ?_; rintro e w2 ⟨rfl, x2⟩; have X2 : Hid (Ext W0 w2) := Lib.hid x2; clear x2 k0 k1; obtain ⟨d0, d1⟩ := HK.out w2 X2.out)
      | refine haltst 24 ?_)
    refine .inl ?_
    refine st_l 24 (.tmp 6) (.tmp 16) (w.heap.size + 1) 0 24 _ #[.int .i64 0, .slice none 0 0] _ rfl rfl (RK.out _ X2.out) (by kernel_rfl) (by simp) rfl rfl ?_
    intro W9 hW9 o9
    simp only [Act.put]
    go_wp2
    exact bodyPost_ret (v := .tuple #[.agg #[.int .i64 0, .slice none 0 0], .int .i64 171]) (res_ct 7 rfl rfl hW9 uBook (by kernel_rfl)) rfl (givesBk_no HR.out (ext_off (X0.out.trans X2.out) o9 (fun b hb => by omega)))
  obtain ⟨g, hg⟩ : ∃ g, needH (norm N) = g := ⟨_, rfl⟩
  have HG := Lib.hid hg
  cases g
  · have HR : Hid (openH (n, L) id N = (noH, 172)) := Lib.hid (by unfold openH; rw [if_pos ht, if_neg hid, if_neg (by rw [hg]; exact Bool.false_ne_true)])
    clear ht hg
    go_enter Try.func29, Try.ntmps29
    go_upto_region 1 with (fail)
    rw [← HW0.out]
    go_wp2_with (first
      | (go_at_call 17; refine (HCK.out).mono ?_; rintro e w2 ⟨rfl, x2⟩; have X2 : Hid (Ext W0 w2) := Lib.hid x2; clear x2 k0 k1; obtain ⟨d0, d1⟩ := HK.out w2 X2.out)
      | (go_at_call 50; refine (refOf_any w2 _ N (HN.out w2 X2.out) (by omega)).mono ?_; rintro e w3 ⟨v3, rfl, o3, x3⟩; obtain ⟨na, nn, nc, rfl⟩ := o3.sh; have X3 : Hid (Ext W0 w3) := Lib.hid (X2.out.trans x3); have N3 := Lib.hid (Sa.new o3 (HFB.out w2 X2.out)); clear o3 x3 d0 d1; obtain ⟨d0, d1⟩ := HK.out w3 X3.out)
      | (go_at_call 36; refine (refNeed_any w3 _ _ N3.out.sl _ HG.out).mono ?_; rintro e w4 ⟨rfl, x4⟩; have Y4 : Hid (Ext w3 w4) := Lib.hid (Ext.of_drew x4); have X4 : Hid (Ext W0 w4) := Lib.hid (X3.out.trans Y4.out); clear x4 d0 d1; obtain ⟨d0, d1⟩ := HK.out w4 X4.out)
      | refine haltst 24 ?_)
    refine .inl ?_
    refine st_l 24 (.tmp 6) (.tmp 22) (w.heap.size + 1) 0 24 _ #[.int .i64 0, .slice none 0 0] _ rfl rfl (RK.out _ X4.out) (by kernel_rfl) (by simp) rfl rfl ?_
    intro W9 hW9 o9
    simp only [Act.put]
    go_wp2
    exact bodyPost_ret (v := .tuple #[.agg #[.int .i64 0, .slice none 0 0], .int .i64 172]) (res_ct 7 rfl rfl hW9 uBook (by kernel_rfl)) rfl (givesBk_no HR.out (ext_off (X0.out.trans X4.out) o9 (fun b hb => by omega)))
  by_cases h8 : (8 : Int) ≤ (L.length : Int)
  · have HR : Hid (openH (n, L) id N = (noH, 173)) := Lib.hid (by unfold openH; rw [if_pos ht, if_neg hid, if_pos hg, if_pos (by show 8 ≤ L.length; omega)])
    clear ht hg
    go_enter Try.func29, Try.ntmps29
    go_upto_region 1 with (fail)
    rw [← HW0.out]
    go_wp2_with (first
      | (go_at_call 17; refine (HCK.out).mono ?_; rintro e w2 ⟨rfl, x2⟩; have X2 : Hid (Ext W0 w2) := Lib.hid x2; clear x2 k0 k1; obtain ⟨d0, d1⟩ := HK.out w2 X2.out)
      | (go_at_call 50; refine (refOf_any w2 _ N (HN.out w2 X2.out) (by omega)).mono ?_; rintro e w3 ⟨v3, rfl, o3, x3⟩; obtain ⟨na, nn, nc, rfl⟩ := o3.sh; have X3 : Hid (Ext W0 w3) := Lib.hid (X2.out.trans x3); have N3 := Lib.hid (Sa.new o3 (HFB.out w2 X2.out)); clear o3 x3 d0 d1; obtain ⟨d0, d1⟩ := HK.out w3 X3.out)
      | (go_at_call 36; refine (refNeed_any w3 _ _ N3.out.sl _ HG.out).mono ?_; rintro e w4 ⟨rfl, x4⟩; have Y4 : Hid (Ext w3 w4) := Lib.hid (Ext.of_drew x4); have X4 : Hid (Ext W0 w4) := Lib.hid (X3.out.trans Y4.out); clear x4 d0 d1; obtain ⟨d0, d1⟩ := HK.out w4 X4.out)
      | refine haltst 24 ?_)
    refine .inl ?_
    refine st_l 24 (.tmp 6) (.tmp 27) (w.heap.size + 1) 0 24 _ #[.int .i64 0, .slice none 0 0] _ rfl rfl (RK.out _ X4.out) (by kernel_rfl) (by simp) rfl rfl ?_
    intro W9 hW9 o9
    simp only [Act.put]
    go_wp2
    exact bodyPost_ret (v := .tuple #[.agg #[.int .i64 0, .slice none 0 0], .int .i64 173]) (res_ct 7 rfl rfl hW9 uBook (by kernel_rfl)) rfl (givesBk_no HR.out (ext_off (X0.out.trans X4.out) o9 (fun b hb => by omega)))
  have HR : Hid (openH (n, L) id N = ((id, L ++ [⟨id, norm N, 0, 0⟩]), 0)) := Lib.hid (by unfold openH; rw [if_pos ht, if_neg hid, if_pos hg, if_neg (by show ¬ 8 ≤ L.length; omega)])
  obtain ⟨xs, hs, he⟩ := HS.out.ea
  have hxl : xs.length ≤ 8 := by rw [he.len]; omega
  have HXS := Lib.hid hs.sl
  have HSA := Lib.hid hs.2
  have HE := Lib.hid he
  clear ht hg hs he
  go_enter Try.func29, Try.ntmps29
  go_upto_region 1 with (fail)
  rw [← HW0.out]
  go_upto_region 10 with (first
    | (go_at_call 17; refine (HCK.out).mono ?_; rintro e w2 ⟨rfl, x2⟩; have X2 : Hid (Ext W0 w2) := Lib.hid x2; clear x2 k0 k1; obtain ⟨d0, d1⟩ := HK.out w2 X2.out)
    | (go_at_call 50; refine (refOf_any w2 _ N (HN.out w2 X2.out) (by omega)).mono ?_; rintro e w3 ⟨v3, rfl, o3, x3⟩; obtain ⟨na, nn, nc, rfl⟩ := o3.sh; have X3 : Hid (Ext W0 w3) := Lib.hid (X2.out.trans x3); have N3 := Lib.hid (Sa.new o3 (HFB.out w2 X2.out)); clear o3 x3 d0 d1; obtain ⟨d0, d1⟩ := HK.out w3 X3.out)
    | (go_at_call 36; refine (refNeed_any w3 _ _ N3.out.sl _ HG.out).mono ?_; rintro e w4 ⟨rfl, x4⟩; have Y4 : Hid (Ext w3 w4) := Lib.hid (Ext.of_drew x4); have X4 : Hid (Ext W0 w4) := Lib.hid (X3.out.trans Y4.out); clear x4 d0 d1; obtain ⟨d0, d1⟩ := HK.out w4 X4.out))
  have f0 := blk_free (keepU B0.out X4.out) 0
  go_upto_region 11 with (fail)
  obtain ⟨W6, hW6⟩ : ∃ q, q = w4.setCell ⟨w.heap.size, 0, none⟩ (.int .i64 id) := ⟨_, rfl⟩
  have o6 : Off (fun k => k = w.heap.size) w4 W6 := hW6 ▸ off_set w4 ⟨w.heap.size, 0, none⟩ _
  have B6 : Hid (W6.heap[w.heap.size]? = some (.cells #[.int .i64 id, .slice ao L.length c] 24 (0, 0))) := Lib.hid (by rw [hW6, blk_set (keepU B0.out X4.out)]; rfl)
  have R6 : Hid (W6.heap[w.heap.size + 1]? = some (.cells #[.int .i64 0, .slice none 0 0] 24 (0, 0))) := Lib.hid (o6.blk (RK.out _ X4.out) (by omega))
  have E6 : Hid (Ea (OrB F w 2) W6 (xs ++ [(⟨id, na, nn, nc, 0, 0⟩ : HV)]) (L ++ [(⟨id, norm N, 0, 0⟩ : Se)])) := Lib.hid (((HE.out.ext X4.out).app (Ea.one (⟨rfl, N3.out.off (Off.of_ext Y4.out) (Grows.refl _ _), rfl, rfl⟩ : RdH _ _ _ _))).off (o6.mono (fun b hb => .inr ⟨by omega, by omega⟩)) (Grows.refl _ _))
  have S6 : Hid (Sl W6 (.slice ao L.length c) xs) := Lib.hid ((HXS.out.ext X4.out).off (HSA.out.imp (fun q => q) fun q b hb e => q b hb (.inr ⟨by omega, by omega⟩)) o6)
  have X6 : Hid (Ext w W6) := Lib.hid (ext_off (X0.out.trans X4.out) o6 (fun b hb => by omega))
  have hz6 : w.heap.size + 2 ≤ W6.heap.size := by have := blk_lt R6.out; omega
  rw [← hW6]
  clear hW6 o6 d0 d1 f0
  obtain ⟨d0, d1⟩ : W6.cell? ⟨w.heap.size, 0, none⟩ = some (.int .i64 id) ∧ W6.cell? ⟨w.heap.size, 1, none⟩ = some (.slice ao L.length c) := ⟨blk_cell B6.out 0 rfl, blk_cell B6.out 1 rfl⟩
  have e1 : (W6.alloc (.cells #[] 41)).cell? ⟨w.heap.size, 1, none⟩ = some (.slice ao L.length c) := blk_cell (old1 B6.out _) 1 rfl
  go_upto_region 12 with (first
    | (at_builtin; refine wpList_append_sl (α := HV) rfl (.tmp 30) (.tmp 32) rfl W6.heap.size (.slice (some ⟨_, 0, none⟩) 0 0) [] rfl ?_ _ xs rfl ?_ ?_ ?_ ?_; exact (Ow.litAt W6 _ _ rfl (Nat.le_refl _) [] (by simp)); exact (S6.out.alloc _); (first | omega | (simp; omega)); exact (by rw [size_alloc]; omega); intro v7 W7 ho7 ha7; obtain ⟨a7, n7, c7, rfl⟩ := ho7.sh; have O7 : Hid (Ow W7 W6.heap.size (.slice a7 n7 c7) xs) := Lib.hid ho7; have X7 : Hid (Ext W6 W7) := Lib.hid (Below.trans (Ext.alloc (Ext.refl W6) _) ha7.below); clear ho7 ha7)
    | (at_builtin; refine wpList_append_sl (α := HV) rfl (.tmp 33) (.tmp 37) rfl W6.heap.size _ xs rfl ?_ (.slice (some ⟨_, 0, none⟩) 1 1) [(⟨id, na, nn, nc, 0, 0⟩ : HV)] rfl ?_ ?_ ?_ ?_; exact (O7.out.alloc _); exact (Sl.litAt W7 _ rfl [(⟨id, na, nn, nc, 0, 0⟩ : HV)] (show (1 : Nat) ≤ 1000000 by decide)); (first | omega | (simp; omega)); exact (by rw [size_alloc]; have := Below.size X7.out; omega); intro v8 W8 ho8 ha8; obtain ⟨a8, n8, c8, rfl⟩ := ho8.sh; have O8 : Hid (Ow W8 W6.heap.size (.slice a8 n8 c8) (xs ++ [(⟨id, na, nn, nc, 0, 0⟩ : HV)])) := Lib.hid ho8; have X8 : Hid (Ext W6 W8) := Lib.hid (Below.trans (X7.out.alloc _) ha8.below); have c81 := blk_cell (keepU B6.out X8.out) 1 rfl; have f81 := blk_free (keepU B6.out X8.out) 1; clear ho8 ha8))
  obtain ⟨WA, hWA⟩ : ∃ q, q = W8.setCell ⟨w.heap.size, 1, none⟩ (.slice a8 n8 c8) := ⟨_, rfl⟩
  have oA : Off (fun k => k = w.heap.size) W8 WA := hWA ▸ off_set W8 ⟨w.heap.size, 1, none⟩ _
  have BA : Hid (WA.heap[w.heap.size]? = some (.cells #[.int .i64 id, .slice a8 n8 c8] 24 (0, 0))) := Lib.hid (by rw [hWA, blk_set (keepU B6.out X8.out)]; rfl)
  have RA : Hid (WA.heap[w.heap.size + 1]? = some (.cells #[.int .i64 0, .slice none 0 0] 24 (0, 0))) := Lib.hid (oA.blk (keepU R6.out X8.out) (by omega))
  have NA : Hid (Ns HV (OrB F w 2) WA (.slice a8 n8 c8) (L ++ [(⟨id, norm N, 0, 0⟩ : Se)])) := Lib.hid (((E6.out.ext X8.out).ns (Sa.new O8.out (fun b hb => hb.elim (fun q => by have := hF b q; omega) (fun q => by have := q.2; omega)))).off (oA.mono (fun b hb => .inr ⟨by omega, by omega⟩)) (Grows.refl _ _))
  have XA : Hid (Ext w WA) := Lib.hid (ext_off (X6.out.trans X8.out) oA (fun b hb => by omega))
  rw [← hWA]
  clear hWA oA c81 f81 d0 d1 e1
  obtain ⟨d0, d1⟩ : WA.cell? ⟨w.heap.size, 0, none⟩ = some (.int .i64 id) ∧ WA.cell? ⟨w.heap.size, 1, none⟩ = some (.slice a8 n8 c8) := ⟨blk_cell BA.out 0 rfl, blk_cell BA.out 1 rfl⟩
  go_wp2_with (first | refine haltst 24 ?_)
  refine .inl ?_
  refine st_l 24 (.tmp 6) (.tmp 40) (w.heap.size + 1) 0 24 _ #[.int .i64 id, .slice a8 n8 c8] _ rfl rfl RA.out (by kernel_rfl) (by simp) rfl rfl ?_
  intro W9 hW9 o9
  simp only [Act.put]
  go_wp2
  exact bodyPost_ret (v := .tuple #[.agg #[.int .i64 id, .slice a8 n8 c8], .int .i64 0]) (res_ct 7 rfl rfl hW9 uBook (by kernel_rfl)) rfl (by rw [HR.out]; exact ⟨_, _, _, rfl, ns_orB' (NA.out.off (o9.mono fun b hb => .inr ⟨by omega, by omega⟩) (Grows.refl _ _)), ext_off XA.out o9 (fun b hb => by omega)⟩)

end Go.Proofs.Ytgcnjkabpcbkgaa
