/- Layer 17, the program: a session is opened. -/
import Derived.Test.YtgcnjkabpcbkgaaHP7
namespace Go.Proofs.Ytgcnjkabpcbkgaa
open Go.RowKit

theorem fits_norm (N : List Int) : fitsH (norm N) = needH (norm N) := by rw [needH_fits, decide_eq_true (norm_SS N), Bool.true_and]

set_option maxRecDepth 100000 in
set_option maxHeartbeats 16000000 in
theorem sessOpen_any (F : Nat → Prop) (w : World) (n id : Int) (v nv : Value) (L : List Se) (N : List Int) (h : Ns HV F w v L) (hN : Sl w nv N) (hl : L.length ≤ 1000) (hlN : N.length ≤ 1000) (hF : ∀ b, F b → b < w.heap.size) :
    Calls Try.prog 26 #[.agg #[.int .i64 n, v], .int .i64 id, nv] w (GivesBk F w (openH (n, L) id N)) := by
  obtain ⟨no, nc, rfl⟩ := hN.len
  obtain ⟨ao, c, rfl⟩ := h.len
  obtain ⟨W0, hW0⟩ : ∃ W0, W0 = (w.alloc (.cells #[.int .i64 n, .slice ao L.length c] 24)).alloc (.cells #[.int .i64 0, .slice none 0 0] 24) := ⟨_, rfl⟩
  have X0 : Hid (Ext w W0) := Lib.hid (hW0 ▸ ((Ext.refl w).alloc _).alloc _)
  have B0 : Hid (W0.heap[w.heap.size]? = some (.cells #[.int .i64 n, .slice ao L.length c] 24 (0, 0))) := Lib.hid (hW0 ▸ old1 (at0 w _) _)
  have R0 : Hid (W0.heap[w.heap.size + 1]? = some (.cells #[.int .i64 0, .slice none 0 0] 24 (0, 0))) := Lib.hid (hW0 ▸ at1 w _ _)
  have HZ0 : Hid (W0.heap.size = w.heap.size + 2) := Lib.hid (by rw [hW0, size_alloc, size_alloc])
  have HW0 := Lib.hid hW0
  have HS := Lib.hid (h.ext X0.out)
  have HFB : Hid (∀ V, Ext W0 V → ∀ b, OrB F w 2 b → b < V.heap.size) := Lib.hid fun V hV b hb => by
    have h1 := Below.size hV
    have h2 := HZ0.out
    rcases hb with hb | hb
    · have := hF b hb; omega
    · have := hb.2; omega
  have HK : Hid (∀ V, Ext W0 V → V.cell? ⟨w.heap.size, 0, none⟩ = some (.int .i64 n) ∧ V.cell? ⟨w.heap.size, 1, none⟩ = some (.slice ao L.length c)) := Lib.hid fun V hV => ⟨blk_cell (keepU B0.out hV) 0 rfl, blk_cell (keepU B0.out hV) 1 rfl⟩
  have RK : Hid (∀ V, Ext W0 V → V.heap[w.heap.size + 1]? = some (.cells #[.int .i64 0, .slice none 0 0] 24 (0, 0))) := Lib.hid fun V hV => keepU R0.out hV
  clear hW0
  have HN := Lib.hid (hN.ext X0.out)
  obtain ⟨t, ht⟩ : ∃ t, chkH (n, L) = t := ⟨_, rfl⟩
  have HCK := Lib.hid (sessCheck_any _ W0 n _ L HS.out hl t ht)
  obtain ⟨k0, k1⟩ := HK.out W0 (Ext.refl _)
  clear h hN
  cases t
  · have HR : Hid (openH (n, L) id N = (noH, 170)) := Lib.hid (by unfold openH; rw [if_neg (by rw [ht]; exact Bool.false_ne_true)])
    have HCC : Hid (Calls Try.prog 20 #[.agg #[.int .i64 n, .slice ao L.length c]] W0 fun e w' => e = .returned (.int .i64 170) ∧ Ext W0 w') := HCK
    clear ht HCK
    go_enter Try.func26, Try.ntmps26
    go_upto_region 1 with (fail)
    rw [← HW0.out]
    go_wp2_with (first
      | (go_at_call 20; refine (HCC.out).mono ?_; rintro e w2 ⟨rfl, x2⟩; have X2 : Hid (Ext W0 w2) := Lib.hid x2; clear x2 k0 k1; obtain ⟨d0, d1⟩ := HK.out w2 X2.out)
      | refine haltst 24 ?_)
    refine .inl ?_
    refine st_l 24 (.tmp 6) (.tmp 14) (w.heap.size + 1) 0 24 _ #[.int .i64 0, .slice none 0 0] _ rfl rfl (RK.out _ X2.out) (by kernel_rfl) (by simp) rfl rfl ?_
    intro W9 hW9 o9
    simp only [Act.put]
    go_wp2
    exact bodyPost_ret (v := .tuple #[.agg #[.int .i64 0, .slice none 0 0], .int .i64 170]) (res_ct 7 rfl rfl hW9 uBook (by kernel_rfl)) rfl (givesBk_no HR.out (ext_off (X0.out.trans X2.out) o9 (fun b hb => by omega)))
  have HCC : Hid (Calls Try.prog 20 #[.agg #[.int .i64 n, .slice ao L.length c]] W0 fun e w' => e = .returned (.int .i64 0) ∧ Ext W0 w') := HCK
  have hn0 : 0 ≤ n := (chk_at.1 ht).1
  have hn8 : L.length ≤ 8 := (chk_at.1 ht).2.1
  have HLS := Lib.hid (chk_needs ht)
  clear HCK
  by_cases hid1 : id < 1
  · have HR : Hid (openH (n, L) id N = (noH, 171)) := Lib.hid (by unfold openH; rw [if_pos ht, if_pos (by show id ≤ n; omega)])
    clear ht
    go_enter Try.func26, Try.ntmps26
    go_upto_region 1 with (fail)
    rw [← HW0.out]
    go_wp2_with (first
      | (go_at_call 20; refine (HCC.out).mono ?_; rintro e w2 ⟨rfl, x2⟩; have X2 : Hid (Ext W0 w2) := Lib.hid x2; clear x2 k0 k1; obtain ⟨d0, d1⟩ := HK.out w2 X2.out)
      | refine haltst 24 ?_)
    refine .inl ?_
    refine st_l 24 (.tmp 6) (.tmp 24) (w.heap.size + 1) 0 24 _ #[.int .i64 0, .slice none 0 0] _ rfl rfl (RK.out _ X2.out) (by kernel_rfl) (by simp) rfl rfl ?_
    intro W9 hW9 o9
    simp only [Act.put]
    go_wp2
    exact bodyPost_ret (v := .tuple #[.agg #[.int .i64 0, .slice none 0 0], .int .i64 171]) (res_ct 7 rfl rfl hW9 uBook (by kernel_rfl)) rfl (givesBk_no HR.out (ext_off (X0.out.trans X2.out) o9 (fun b hb => by omega)))
  by_cases hid2 : id ≤ n
  · have HR : Hid (openH (n, L) id N = (noH, 171)) := Lib.hid (by unfold openH; rw [if_pos ht, if_pos hid2])
    clear ht
    go_enter Try.func26, Try.ntmps26
    go_upto_region 1 with (fail)
    rw [← HW0.out]
    go_wp2_with (first
      | (go_at_call 20; refine (HCC.out).mono ?_; rintro e w2 ⟨rfl, x2⟩; have X2 : Hid (Ext W0 w2) := Lib.hid x2; clear x2 k0 k1; obtain ⟨d0, d1⟩ := HK.out w2 X2.out)
      | refine haltst 24 ?_)
    refine .inl ?_
    refine st_l 24 (.tmp 6) (.tmp 24) (w.heap.size + 1) 0 24 _ #[.int .i64 0, .slice none 0 0] _ rfl rfl (RK.out _ X2.out) (by kernel_rfl) (by simp) rfl rfl ?_
    intro W9 hW9 o9
    simp only [Act.put]
    go_wp2
    exact bodyPost_ret (v := .tuple #[.agg #[.int .i64 0, .slice none 0 0], .int .i64 171]) (res_ct 7 rfl rfl hW9 uBook (by kernel_rfl)) rfl (givesBk_no HR.out (ext_off (X0.out.trans X2.out) o9 (fun b hb => by omega)))
  have HOF : Hid (∀ V, Ext W0 V → Calls Try.prog 47 #[.slice no N.length nc] V (GivesOw V (norm N))) := Lib.hid fun V hV => setOfE_any V _ N (HN.out.ext hV) (by omega)
  obtain ⟨g, hg⟩ : ∃ g, fitsH (norm N) = g := ⟨_, rfl⟩
  have HFI := Lib.hid hg
  rw [fits_norm] at hg
  cases g
  · have HR : Hid (openH (n, L) id N = (noH, 172)) := Lib.hid (by unfold openH; rw [if_pos ht, if_neg hid2, if_neg (by rw [hg]; exact Bool.false_ne_true)])
    clear ht hg
    go_enter Try.func26, Try.ntmps26
    go_upto_region 1 with (fail)
    rw [← HW0.out]
    go_wp2_with (first
      | (go_at_call 20; refine (HCC.out).mono ?_; rintro e w2 ⟨rfl, x2⟩; have X2 : Hid (Ext W0 w2) := Lib.hid x2; clear x2 k0 k1; obtain ⟨d0, d1⟩ := HK.out w2 X2.out)
      | (go_at_call 47; refine (HOF.out w2 X2.out).mono ?_; rintro e w3 ⟨v3, rfl, o3, x3⟩; obtain ⟨a3, n3, c3, rfl⟩ := o3.sh; have O3 := Lib.hid o3; have Z3 : Hid (Ext w2 w3) := Lib.hid x3; have X3 : Hid (Ext W0 w3) := Lib.hid (X2.out.trans x3); clear o3 x3 d0 d1)
      | (go_at_call 48; refine (fits_any w3 _ _ O3.out.sl _ HFI.out).mono ?_; rintro e w4 ⟨rfl, x4⟩; have X4 : Hid (Ext W0 w4) := Lib.hid (X3.out.trans x4); have Z4 : Hid (Ext w3 w4) := Lib.hid x4; clear x4; obtain ⟨d0, d1⟩ := HK.out w4 X4.out)
      | refine haltst 24 ?_)
    refine .inl ?_
    refine st_l 24 (.tmp 6) (.tmp 30) (w.heap.size + 1) 0 24 _ #[.int .i64 0, .slice none 0 0] _ rfl rfl (RK.out _ X4.out) (by kernel_rfl) (by simp) rfl rfl ?_
    intro W9 hW9 o9
    simp only [Act.put]
    go_wp2
    exact bodyPost_ret (v := .tuple #[.agg #[.int .i64 0, .slice none 0 0], .int .i64 172]) (res_ct 7 rfl rfl hW9 uBook (by kernel_rfl)) rfl (givesBk_no HR.out (ext_off (X0.out.trans X4.out) o9 (fun b hb => by omega)))
  by_cases h8 : L.length = 8
  · have HR : Hid (openH (n, L) id N = (noH, 173)) := Lib.hid (by unfold openH; rw [if_pos ht, if_neg hid2, if_pos hg, if_pos (by show 8 ≤ L.length; omega)])
    have d8 : ((L.length : Int) == 8) = true := by rw [h8]; rfl
    clear ht hg h8
    go_enter Try.func26, Try.ntmps26
    go_upto_region 1 with (fail)
    rw [← HW0.out]
    go_wp2_with (first
      | (go_at_call 20; refine (HCC.out).mono ?_; rintro e w2 ⟨rfl, x2⟩; have X2 : Hid (Ext W0 w2) := Lib.hid x2; clear x2 k0 k1; obtain ⟨d0, d1⟩ := HK.out w2 X2.out)
      | (go_at_call 47; refine (HOF.out w2 X2.out).mono ?_; rintro e w3 ⟨v3, rfl, o3, x3⟩; obtain ⟨a3, n3, c3, rfl⟩ := o3.sh; have O3 := Lib.hid o3; have Z3 : Hid (Ext w2 w3) := Lib.hid x3; have X3 : Hid (Ext W0 w3) := Lib.hid (X2.out.trans x3); clear o3 x3 d0 d1)
      | (go_at_call 48; refine (fits_any w3 _ _ O3.out.sl _ HFI.out).mono ?_; rintro e w4 ⟨rfl, x4⟩; have X4 : Hid (Ext W0 w4) := Lib.hid (X3.out.trans x4); have Z4 : Hid (Ext w3 w4) := Lib.hid x4; clear x4; obtain ⟨d0, d1⟩ := HK.out w4 X4.out)
      | refine haltst 24 ?_)
    refine .inl ?_
    refine st_l 24 (.tmp 6) (.tmp 35) (w.heap.size + 1) 0 24 _ #[.int .i64 0, .slice none 0 0] _ rfl rfl (RK.out _ X4.out) (by kernel_rfl) (by simp) rfl rfl ?_
    intro W9 hW9 o9
    simp only [Act.put]
    go_wp2
    exact bodyPost_ret (v := .tuple #[.agg #[.int .i64 0, .slice none 0 0], .int .i64 173]) (res_ct 7 rfl rfl hW9 uBook (by kernel_rfl)) rfl (givesBk_no HR.out (ext_off (X0.out.trans X4.out) o9 (fun b hb => by omega)))
  have HR : Hid (openH (n, L) id N = ((id, L ++ [⟨id, norm N, 0, 0⟩]), 0)) := Lib.hid (by unfold openH; rw [if_pos ht, if_neg hid2, if_pos hg, if_neg (by show ¬ 8 ≤ L.length; omega)])
  have d8 : ((L.length : Int) == 8) = false := by rw [beq_eq_false_iff_ne]; omega
  clear ht hg h8
  go_enter Try.func26, Try.ntmps26
  go_upto_region 1 with (fail)
  rw [← HW0.out]
  go_wp2_with (first
    | (go_at_call 20; refine (HCC.out).mono ?_; rintro e w2 ⟨rfl, x2⟩; have X2 : Hid (Ext W0 w2) := Lib.hid x2; clear x2 k0 k1; obtain ⟨d0, d1⟩ := HK.out w2 X2.out)
    | (go_at_call 47; refine (HOF.out w2 X2.out).mono ?_; rintro e w3 ⟨v3, rfl, o3, x3⟩; obtain ⟨a3, n3, c3, rfl⟩ := o3.sh; have O3 := Lib.hid o3; have Z3 : Hid (Ext w2 w3) := Lib.hid x3; have X3 : Hid (Ext W0 w3) := Lib.hid (X2.out.trans x3); clear o3 x3 d0 d1)
    | (go_at_call 48; refine (fits_any w3 _ _ O3.out.sl _ HFI.out).mono ?_; rintro e w4 ⟨rfl, x4⟩; have X4 : Hid (Ext W0 w4) := Lib.hid (X3.out.trans x4); have Z4 : Hid (Ext w3 w4) := Lib.hid x4; clear x4; obtain ⟨d0, d1⟩ := HK.out w4 X4.out)
    | (go_at_call 43; refine (copied_any (OrB F w 2) _ w4 n _ L (HS.out.ext X4.out) hl HLS.out (HFB.out _ X4.out)).mono ?_; rintro e w5 ⟨a5, m5, c5, rfl, n5, x5⟩; have N5 := Lib.hid n5; have X5 : Hid (Ext W0 w5) := Lib.hid (X4.out.trans x5); have Z5 : Hid (Ext w4 w5) := Lib.hid x5; clear n5 x5 d0 d1)
    | refine haltst 24 ?_)
  refine .inl ?_
  refine st_l 24 (.tmp 3) (.tmp 37) w.heap.size 0 24 _ #[.int .i64 n, .slice a5 m5 c5] _ rfl rfl (keepU B0.out X5.out) (by kernel_rfl) (by simp) rfl rfl ?_
  intro W6 hW6 o6
  simp only [Act.put]
  have HZ4 : Hid (w.heap.size + 2 ≤ w2.heap.size ∧ w2.heap.size ≤ w3.heap.size ∧ w3.heap.size ≤ w4.heap.size ∧ w4.heap.size ≤ w5.heap.size) := Lib.hid ⟨by have := Below.size X2.out; have := HZ0.out; omega, Below.size Z3.out, Below.size Z4.out, Below.size Z5.out⟩
  have hz4 := HZ4.out
  have B6 := Lib.hid hW6
  have R6 := Lib.hid (o6.blk (RK.out _ X5.out) (by omega))
  have N6 : Hid (Nw HV (OrB F w 2) W6 w4.heap.size (.slice a5 m5 c5) L) := Lib.hid (N5.out.off (o6.mono fun b hb => .inr ⟨by omega, by omega⟩) (fun b hb => o6.block b (N5.out.low b hb).2 (fun e => by have := (N5.out.low b hb).1; omega)) (Grows.refl _ _))
  have S6 : Hid (Ow W6 w2.heap.size (.slice a3 n3 c3) (norm N)) := Lib.hid (owU ((O3.out.ext Z4.out).ext Z5.out) (fun b hb => o6.block b (((O3.out.ext Z4.out).ext Z5.out).low b hb).2 (fun e => by have := (O3.out.low b hb).1; omega)))
  have S6L : Hid (∀ b, (Value.slice a3 n3 c3).ownBlock = some b → w2.heap.size ≤ b ∧ b < w3.heap.size) := Lib.hid O3.out.low
  have X6 : Hid (Ext w W6) := Lib.hid (ext_off (X0.out.trans X5.out) o6 (fun b hb => by omega))
  have HZ6 : Hid (w5.heap.size ≤ W6.heap.size) := Lib.hid o6.size
  obtain ⟨xs, hown, hxl, hel⟩ := N6.out.any
  have HOW := Lib.hid hown
  have HXL := Lib.hid hxl
  have HEL := Lib.hid hel
  have hxs : xs.length ≤ 1000 := by rw [hxl]; exact hl
  clear hW6 o6 hown hxl hel hz4
  obtain ⟨d0, d1⟩ : W6.cell? ⟨w.heap.size, 0, none⟩ = some (.int .i64 n) ∧ W6.cell? ⟨w.heap.size, 1, none⟩ = some (.slice a5 m5 c5) := ⟨blk_cell B6.out 0 rfl, blk_cell B6.out 1 rfl⟩
  have L8 : Hid (Sl (W6.alloc (.cells #[.int .i64 id, .slice a3 n3 c3, .int .i64 0, .int .i64 0] 41)) (.slice (some ⟨W6.heap.size, 0, none⟩) 1 1) [(⟨id, a3, n3, c3, 0, 0⟩ : HV)]) := Lib.hid (Sl.litAt W6 _ rfl [(⟨id, a3, n3, c3, 0, 0⟩ : HV)] (show (1 : Nat) ≤ 1000000 by decide))
  have HRX : Hid (∀ V, Ext W6 V → Nest.rd (Own1 (OrB F w 2) (.slice a5 m5 c5)) V (⟨id, a3, n3, c3, 0, 0⟩ : HV) (⟨id, norm N, 0, 0⟩ : Se)) := Lib.hid fun V hV => (⟨rfl, ⟨(S6.out.ext hV).sl, .inr fun b hb hf => by
    have h1 := S6L.out b hb
    have h4 := HZ4.out
    rcases hf with (hf | hf) | hf
    · have := hF b hf; omega
    · have := hf.2; omega
    · have := (HOW.out.low b hf).1; omega⟩, rfl, rfl⟩ : RdH _ _ _ _)
  go_upto_region 13 with (first
    | (at_builtin; refine wpList_append_sl (α := HV) rfl (.tmp 39) (.tmp 43) rfl w4.heap.size _ xs rfl ?_ (.slice (some ⟨_, 0, none⟩) 1 1) [(⟨id, a3, n3, c3, 0, 0⟩ : HV)] rfl ?_ ?_ ?_ ?_; exact (HOW.out.alloc _); exact L8.out; (first | omega | (simp; omega)); exact (by rw [size_alloc]; have := HZ4.out; have := HZ6.out; omega); intro v9 W9 ho9 ha9; obtain ⟨a9, m9, c9, rfl⟩ := ho9.sh; have og := off_grown ha9.grown; have hst := Nw.step (α := HV) (δ := Se) (F := OrB F w 2) (L := L) HXL.out (fun j x e hx he => Nest.ext (HEL.out j x e hx he) (Ext.alloc (Ext.refl W6) _)) (HRX.out _ (Ext.alloc (Ext.refl W6) _)) ho9 ha9; have HST := Lib.hid hst; have X9 : Hid (Ext w W9) := Lib.hid (Below.trans (X6.out.alloc _) (ha9.below.mono (by have := HZ4.out; omega))); have B9 : Hid (W9.heap[w.heap.size]? = some (.cells #[.int .i64 n, .slice a5 m5 c5] 24 (0, 0))) := Lib.hid (og.blk (old1 B6.out _) (fun e => by have := (HOW.out.low _ e).1; have := HZ4.out; omega)); have R9 : Hid (W9.heap[w.heap.size + 1]? = some (.cells #[.int .i64 0, .slice none 0 0] 24 (0, 0))) := Lib.hid (og.blk (old1 R6.out _) (fun e => by have := (HOW.out.low _ e).1; have := HZ4.out; omega)); have j9 := blk_cell B9.out 1 rfl; have f9 := blk_free B9.out 1; clear ho9 ha9 hst og))
  obtain ⟨WA, hWA⟩ : ∃ q, q = W9.setCell ⟨w.heap.size, 1, none⟩ (.slice a9 m9 c9) := ⟨_, rfl⟩
  have hz4 := HZ4.out
  have oA : Off (fun k => k = w.heap.size) W9 WA := hWA ▸ off_set W9 ⟨w.heap.size, 1, none⟩ _
  have BA : Hid (WA.heap[w.heap.size]? = some (.cells #[.int .i64 n, .slice a9 m9 c9] 24 (0, 0))) := Lib.hid (by rw [hWA, blk_set B9.out]; rfl)
  have RA : Hid (WA.heap[w.heap.size + 1]? = some (.cells #[.int .i64 0, .slice none 0 0] 24 (0, 0))) := Lib.hid (oA.blk R9.out (by omega))
  have NA : Hid (Nw HV (OrB F w 2) WA w4.heap.size (.slice a9 m9 c9) (L ++ [⟨id, norm N, 0, 0⟩])) := Lib.hid (hWA ▸ HST.out.set (d := ⟨w.heap.size, 1, none⟩) (.inr ⟨Nat.le_refl _, by show w.heap.size < _; omega⟩) (by show w.heap.size < _; omega) _)
  have XA : Hid (Ext w WA) := Lib.hid (ext_off X9.out oA (fun b hb => by omega))
  rw [← hWA]
  clear hWA oA j9 f9 d0 d1 hz4
  have j0 := blk_cell BA.out 0 rfl
  have f0 := blk_free BA.out 0
  go_upto_region 14 with (fail)
  obtain ⟨WB, hWB⟩ : ∃ q, q = WA.setCell ⟨w.heap.size, 0, none⟩ (.int .i64 id) := ⟨_, rfl⟩
  have hz4 := HZ4.out
  have oB : Off (fun k => k = w.heap.size) WA WB := hWB ▸ off_set WA ⟨w.heap.size, 0, none⟩ _
  have BB : Hid (WB.heap[w.heap.size]? = some (.cells #[.int .i64 id, .slice a9 m9 c9] 24 (0, 0))) := Lib.hid (by rw [hWB, blk_set BA.out]; rfl)
  have RB : Hid (WB.heap[w.heap.size + 1]? = some (.cells #[.int .i64 0, .slice none 0 0] 24 (0, 0))) := Lib.hid (oB.blk RA.out (by omega))
  have NB : Hid (Nw HV (OrB F w 2) WB w4.heap.size (.slice a9 m9 c9) (L ++ [⟨id, norm N, 0, 0⟩])) := Lib.hid (hWB ▸ NA.out.set (d := ⟨w.heap.size, 0, none⟩) (.inr ⟨Nat.le_refl _, by show w.heap.size < _; omega⟩) (by show w.heap.size < _; omega) _)
  have XB : Hid (Ext w WB) := Lib.hid (ext_off XA.out oB (fun b hb => by omega))
  rw [← hWB]
  clear hWB oB j0 f0 hz4
  obtain ⟨d0, d1⟩ : WB.cell? ⟨w.heap.size, 0, none⟩ = some (.int .i64 id) ∧ WB.cell? ⟨w.heap.size, 1, none⟩ = some (.slice a9 m9 c9) := ⟨blk_cell BB.out 0 rfl, blk_cell BB.out 1 rfl⟩
  go_wp2_with (first
    | refine haltst 24 ?_)
  refine .inl ?_
  refine st_l 24 (.tmp 6) (.tmp 48) (w.heap.size + 1) 0 24 _ #[.int .i64 id, .slice a9 m9 c9] _ rfl rfl RB.out (by kernel_rfl) (by simp) rfl rfl ?_
  intro W9 hW9 o9
  simp only [Act.put]
  go_wp2
  exact bodyPost_ret (v := .tuple #[.agg #[.int .i64 id, .slice a9 m9 c9], .int .i64 0]) (res_ct 7 rfl rfl hW9 uBook (by kernel_rfl)) rfl (by rw [HR.out]; exact ⟨_, _, _, rfl, ns_orB' ((NB.out.ns (G := OrB F w 2) (fun _ q => q) (fun b hb => by have h4 := HZ4.out; rcases hb with hb | hb; (have := hF b hb; omega); (have := hb.2; omega))).off (o9.mono fun b hb => .inr ⟨by omega, by omega⟩) (Grows.refl _ _)), ext_off XB.out o9 (fun b hb => by omega)⟩)
end Go.Proofs.Ytgcnjkabpcbkgaa
