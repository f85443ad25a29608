/- Layer 17, the laws: an act of the document's. -/
import Derived.Test.YtgcnjkabpcbkgaaHO
import Derived.Test.YtgcnjkabpcbkgaaH7
namespace Go.Proofs.Ytgcnjkabpcbkgaa
open Go.RowKit

set_option maxRecDepth 100000 in
set_option maxHeartbeats 16000000 in
theorem told0_any (F : Nat → Prop) (w : World) (n k sid m : Int) (v nv : Value) (L : List Se) (N : List Int) (h : Ns HV F w v L) (hN : Sl w nv N) (hl : L.length ≤ 1000) (hlN : N.length ≤ 1000) (hF : ∀ b, F b → b < w.heap.size) (hk : k = 0) :
    Calls Try.prog 14 #[.agg #[.int .i64 n, v], .agg #[.int .i64 k, .int .i64 sid, .int .i64 m, nv]] w (GivesBkL F w (stepH (n, L) k sid m N)) := by
  subst hk
  obtain ⟨ao, c, rfl⟩ := h.len
  obtain ⟨no, nc, rfl⟩ := hN.len
  have hlenN := hN.length_le
  obtain ⟨W0, hW0⟩ : ∃ W0, W0 = ((w.alloc (.cells #[.int .i64 n, .slice ao L.length c] 24)).alloc (.cells #[.int .i64 0, .int .i64 sid, .int .i64 m, .slice no N.length nc] 27)).alloc (.cells #[.int .i64 0, .slice none 0 0] 24) := ⟨_, rfl⟩
  have X0 : Hid (Ext w W0) := Lib.hid (hW0 ▸ (((Ext.refl w).alloc _).alloc _).alloc _)
  have B0 : Hid (W0.heap[w.heap.size]? = some (.cells #[.int .i64 n, .slice ao L.length c] 24 (0, 0))) := Lib.hid (hW0 ▸ old1 (old1 (at0 w _) _) _)
  have A0 : Hid (W0.heap[w.heap.size + 1]? = some (.cells #[.int .i64 0, .int .i64 sid, .int .i64 m, .slice no N.length nc] 27 (0, 0))) := Lib.hid (hW0 ▸ old1 (at1 w _ _) _)
  have R0 : Hid (W0.heap[w.heap.size + 2]? = some (.cells #[.int .i64 0, .slice none 0 0] 24 (0, 0))) := Lib.hid (hW0 ▸ at2 w _ _ _)
  have HZ0 : Hid (W0.heap.size = w.heap.size + 3) := Lib.hid (by rw [hW0, size_alloc, size_alloc, size_alloc])
  have HW0 := Lib.hid hW0
  have HS := Lib.hid ((ns_orB h 3).ext X0.out)
  have HN := Lib.hid (hN.ext X0.out)
  have HFB : Hid (∀ V, Ext W0 V → ∀ b, OrB F w 3 b → b < V.heap.size) := Lib.hid fun V hV b hb => by
    have h1 := Below.size hV
    have h2 := HZ0.out
    rcases hb with hb | hb
    · have := hF b hb; omega
    · have := hb.2; omega
  have HK : Hid (∀ V, Ext W0 V → (V.cell? ⟨w.heap.size, 0, none⟩ = some (.int .i64 n) ∧ V.cell? ⟨w.heap.size, 1, none⟩ = some (.slice ao L.length c)) ∧ (V.cell? ⟨w.heap.size + 1, 0, none⟩ = some (.int .i64 0) ∧ V.cell? ⟨w.heap.size + 1, 1, none⟩ = some (.int .i64 sid)) ∧ V.cell? ⟨w.heap.size + 1, 2, none⟩ = some (.int .i64 m) ∧ V.cell? ⟨w.heap.size + 1, 3, none⟩ = some (.slice no N.length nc)) := Lib.hid fun V hV => ⟨⟨blk_cell (keepU B0.out hV) 0 rfl, blk_cell (keepU B0.out hV) 1 rfl⟩, ⟨blk_cell (keepU A0.out hV) 0 rfl, blk_cell (keepU A0.out hV) 1 rfl⟩, blk_cell (keepU A0.out hV) 2 rfl, blk_cell (keepU A0.out hV) 3 rfl⟩
  have RK : Hid (∀ V, Ext W0 V → V.heap[w.heap.size + 2]? = some (.cells #[.int .i64 0, .slice none 0 0] 24 (0, 0))) := Lib.hid fun V hV => keepU R0.out hV
  obtain ⟨⟨k0, k1⟩, ⟨k2, k3⟩, k4, k5⟩ := HK.out W0 (Ext.refl _)
  clear h hN hW0
  obtain ⟨t, ht⟩ : ∃ t, chkH (n, L) = t := ⟨_, rfl⟩
  have HCK : Hid (Calls Try.prog 17 #[.agg #[.int .i64 n, .slice ao L.length c]] W0 fun e w' => e = .returned (.bool t) ∧ Ext W0 w') := Lib.hid (refBkCheck_any _ W0 n _ L HS.out t ht)
  cases t
  · skip
    have HR : Hid (stepH (n, L) 0 sid m N = (noH, [], 170)) := Lib.hid (by simp [stepH, openH, ht])
    clear ht
    go_enter Try.func14, Try.ntmps14
    go_upto_region 1 with (fail)
    rw [← HW0.out]
    go_wp2_with (first
      | (go_at_call 17; refine (HCK.out).mono ?_; rintro e wC ⟨rfl, xC⟩; have XC : Hid (Ext W0 wC) := Lib.hid xC; clear xC k0 k1 k2 k3 k4 k5; obtain ⟨⟨k0, k1⟩, ⟨k2, k3⟩, k4, k5⟩ := HK.out wC XC.out; have e0 := (HK.out (wC.alloc (.cells #[] 3)) (XC.out.alloc _)).2.1.1)
      | refine haltst 24 ?_)
    obtain ⟨W4, hW4⟩ : ∃ q, q = wC.alloc (.cells #[] 3) := ⟨_, rfl⟩
    have X4 : Hid (Ext W0 W4) := Lib.hid (hW4 ▸ XC.out.alloc _)
    have S4 : Hid (Sa (OrB F w 3) W4 (.slice (some ⟨wC.heap.size, 0, none⟩) 0 0) ([] : List Int)) := Lib.hid (hW4 ▸ Sa.new (Ow.litAt wC wC.heap.size _ rfl (Nat.le_refl _) [] (by simp)) (fun b hb => HFB.out wC XC.out b hb))
    rw [← hW4]
    clear hW4
    refine .inl ?_
    refine st_l 24 (.tmp 4) (.tmp 34) (w.heap.size + 2) 0 24 _ #[.int .i64 0, .slice none 0 0] _ rfl rfl (RK.out _ X4.out) (by kernel_rfl) (by simp) rfl rfl ?_
    intro W9 hW9 o9
    simp only [Act.put]
    go_wp2
    exact bodyPost_ret (v := .tuple #[.agg #[.int .i64 0, .slice none 0 0], .slice (some ⟨wC.heap.size, 0, none⟩) 0 0, .int .i64 170]) (res_ctt 5 6 rfl rfl hW9 uBook (by kernel_rfl)) rfl (by rw [HR.out]; exact ⟨_, _, _, _, _, _, rfl, Ns.nil _ _, sa_orB' (S4.out.off (o9.mono fun b hb => .inr ⟨by omega, by omega⟩) (Grows.refl _ _)), ext_off (X0.out.trans X4.out) o9 (fun b hb => by omega)⟩)
  obtain ⟨⟨⟨q1, q2⟩, q3⟩, hq⟩ : ∃ r, openH (n, L) sid N = r := ⟨_, rfl⟩
  have HC : Hid (∀ V, Ext W0 V → Calls Try.prog 29 #[.agg #[.int .i64 n, .slice ao L.length c], .int .i64 sid, .slice no N.length nc] V (GivesBk (OrB F w 3) V ((q1, q2), q3))) := Lib.hid fun V hV => hq ▸ refOpen_any _ V n sid _ _ L N (HS.out.ext hV) (HN.out.ext hV) hl hlN (HFB.out _ hV)
  have HR : Hid (stepH (n, L) 0 sid m N = ((q1, q2), [], q3)) := Lib.hid (by simp [stepH, hq])
  clear hq ht
  go_enter Try.func14, Try.ntmps14
  go_upto_region 1 with (fail)
  rw [← HW0.out]
  go_wp2_with (first
    | (go_at_call 17; refine (HCK.out).mono ?_; rintro e wC ⟨rfl, xC⟩; have XC : Hid (Ext W0 wC) := Lib.hid xC; clear xC k0 k1 k2 k3 k4 k5; obtain ⟨⟨k0, k1⟩, ⟨k2, k3⟩, k4, k5⟩ := HK.out wC XC.out)
    | (go_at_call 29; refine (HC.out wC XC.out).mono ?_; rintro e w2 ⟨a2, m2, c2, rfl, n2, x2⟩; dsimp only at n2 ⊢; have N2 := Lib.hid n2; have X2 : Hid (Ext W0 w2) := Lib.hid (XC.out.trans x2); clear n2 x2)
    | refine haltst 24 ?_)
  refine .inl ?_
  have hg2 := at0 w2 (.cells #[.int .i64 0, .slice none 0 0] 24)
  refine st_l 24 (.tmp 8) (.tmp 47) w2.heap.size 0 24 _ #[.int .i64 q1, .slice a2 m2 c2] _ rfl rfl hg2 (by kernel_rfl) (by simp) rfl rfl ?_
  intro W3 hW3 o3
  simp only [Act.put]
  have D3 := Lib.hid hW3
  have Y3 : Hid (Ext w2 W3) := Lib.hid (ext_off ((Ext.refl w2).alloc _) o3 (fun b hb => by omega))
  have X3 : Hid (Ext W0 W3) := Lib.hid (X2.out.trans Y3.out)
  clear hW3 o3 hg2 k0 k1 k2 k3 k4 k5
  have d0 := blk_cell D3.out 0 rfl
  have d1 := blk_cell D3.out 1 rfl
  go_wp2_with (first | refine haltst 24 ?_)
  refine .inl ?_
  refine st_l 24 (.tmp 4) (.tmp 49) (w.heap.size + 2) 0 24 _ #[.int .i64 q1, .slice a2 m2 c2] _ rfl rfl (RK.out _ X3.out) (by kernel_rfl) (by simp) rfl rfl ?_
  intro W9 hW9 o9
  simp only [Act.put]
  go_wp2
  exact bodyPost_ret (v := .tuple #[.agg #[.int .i64 q1, .slice a2 m2 c2], .slice none 0 0, .int .i64 q3]) (res_ctt 5 6 rfl rfl hW9 uBook (by kernel_rfl)) rfl (by rw [HR.out]; exact ⟨_, _, _, _, _, _, rfl, ns_orB' ((N2.out.ext Y3.out).off (o9.mono fun b hb => .inr ⟨by omega, by omega⟩) (Grows.refl _ _)), sa_orB' ((Sa.nil (OrB F w 3) W3).off (o9.mono fun b hb => .inr ⟨by omega, by omega⟩) (Grows.refl _ _)), ext_off (X0.out.trans X3.out) o9 (fun b hb => by omega)⟩)

set_option maxRecDepth 100000 in
set_option maxHeartbeats 16000000 in
theorem told1_any (F : Nat → Prop) (w : World) (n k sid m : Int) (v nv : Value) (L : List Se) (N : List Int) (h : Ns HV F w v L) (hN : Sl w nv N) (hl : L.length ≤ 1000) (hF : ∀ b, F b → b < w.heap.size) (hk : k = 1) :
    Calls Try.prog 14 #[.agg #[.int .i64 n, v], .agg #[.int .i64 k, .int .i64 sid, .int .i64 m, nv]] w (GivesBkL F w (stepH (n, L) k sid m N)) := by
  subst hk
  obtain ⟨ao, c, rfl⟩ := h.len
  obtain ⟨no, nc, rfl⟩ := hN.len
  have hlenN := hN.length_le
  obtain ⟨W0, hW0⟩ : ∃ W0, W0 = ((w.alloc (.cells #[.int .i64 n, .slice ao L.length c] 24)).alloc (.cells #[.int .i64 1, .int .i64 sid, .int .i64 m, .slice no N.length nc] 27)).alloc (.cells #[.int .i64 0, .slice none 0 0] 24) := ⟨_, rfl⟩
  have X0 : Hid (Ext w W0) := Lib.hid (hW0 ▸ (((Ext.refl w).alloc _).alloc _).alloc _)
  have B0 : Hid (W0.heap[w.heap.size]? = some (.cells #[.int .i64 n, .slice ao L.length c] 24 (0, 0))) := Lib.hid (hW0 ▸ old1 (old1 (at0 w _) _) _)
  have A0 : Hid (W0.heap[w.heap.size + 1]? = some (.cells #[.int .i64 1, .int .i64 sid, .int .i64 m, .slice no N.length nc] 27 (0, 0))) := Lib.hid (hW0 ▸ old1 (at1 w _ _) _)
  have R0 : Hid (W0.heap[w.heap.size + 2]? = some (.cells #[.int .i64 0, .slice none 0 0] 24 (0, 0))) := Lib.hid (hW0 ▸ at2 w _ _ _)
  have HZ0 : Hid (W0.heap.size = w.heap.size + 3) := Lib.hid (by rw [hW0, size_alloc, size_alloc, size_alloc])
  have HW0 := Lib.hid hW0
  have HS := Lib.hid ((ns_orB h 3).ext X0.out)
  have HN := Lib.hid (hN.ext X0.out)
  have HFB : Hid (∀ V, Ext W0 V → ∀ b, OrB F w 3 b → b < V.heap.size) := Lib.hid fun V hV b hb => by
    have h1 := Below.size hV
    have h2 := HZ0.out
    rcases hb with hb | hb
    · have := hF b hb; omega
    · have := hb.2; omega
  have HK : Hid (∀ V, Ext W0 V → (V.cell? ⟨w.heap.size, 0, none⟩ = some (.int .i64 n) ∧ V.cell? ⟨w.heap.size, 1, none⟩ = some (.slice ao L.length c)) ∧ (V.cell? ⟨w.heap.size + 1, 0, none⟩ = some (.int .i64 1) ∧ V.cell? ⟨w.heap.size + 1, 1, none⟩ = some (.int .i64 sid)) ∧ V.cell? ⟨w.heap.size + 1, 2, none⟩ = some (.int .i64 m) ∧ V.cell? ⟨w.heap.size + 1, 3, none⟩ = some (.slice no N.length nc)) := Lib.hid fun V hV => ⟨⟨blk_cell (keepU B0.out hV) 0 rfl, blk_cell (keepU B0.out hV) 1 rfl⟩, ⟨blk_cell (keepU A0.out hV) 0 rfl, blk_cell (keepU A0.out hV) 1 rfl⟩, blk_cell (keepU A0.out hV) 2 rfl, blk_cell (keepU A0.out hV) 3 rfl⟩
  have RK : Hid (∀ V, Ext W0 V → V.heap[w.heap.size + 2]? = some (.cells #[.int .i64 0, .slice none 0 0] 24 (0, 0))) := Lib.hid fun V hV => keepU R0.out hV
  obtain ⟨⟨k0, k1⟩, ⟨k2, k3⟩, k4, k5⟩ := HK.out W0 (Ext.refl _)
  clear h hN hW0
  obtain ⟨t, ht⟩ : ∃ t, chkH (n, L) = t := ⟨_, rfl⟩
  have HCK : Hid (Calls Try.prog 17 #[.agg #[.int .i64 n, .slice ao L.length c]] W0 fun e w' => e = .returned (.bool t) ∧ Ext W0 w') := Lib.hid (refBkCheck_any _ W0 n _ L HS.out t ht)
  cases t
  · skip
    have HR : Hid (stepH (n, L) 1 sid m N = (noH, [0], 170)) := Lib.hid (by simp [stepH, grantH, ht])
    clear ht
    go_enter Try.func14, Try.ntmps14
    go_upto_region 1 with (fail)
    rw [← HW0.out]
    go_wp2_with (first
      | (go_at_call 17; refine (HCK.out).mono ?_; rintro e wC ⟨rfl, xC⟩; have XC : Hid (Ext W0 wC) := Lib.hid xC; clear xC k0 k1 k2 k3 k4 k5; obtain ⟨⟨k0, k1⟩, ⟨k2, k3⟩, k4, k5⟩ := HK.out wC XC.out; have e0 := (HK.out (wC.alloc (.cells #[] 3)) (XC.out.alloc _)).2.1.1)
      | refine haltst 24 ?_)
    obtain ⟨W4, hW4⟩ : ∃ q, q = (wC.alloc (.cells #[] 3)).alloc (.cells #[.int .i64 0] 3) := ⟨_, rfl⟩
    have X4 : Hid (Ext W0 W4) := Lib.hid (hW4 ▸ (XC.out.alloc _).alloc _)
    have S4 : Hid (Sa (OrB F w 3) W4 (.slice (some ⟨wC.heap.size + 1, 0, none⟩) 1 1) ([0] : List Int)) := Lib.hid (hW4 ▸ Sa.new (Ow.litAt (wC.alloc (.cells #[] 3)) (wC.heap.size + 1) _ (by rw [size_alloc]) (by rw [size_alloc]; exact Nat.le_refl _) [0] (by simp)) (fun b hb => Nat.lt_succ_of_lt (HFB.out wC XC.out b hb)))
    rw [← hW4]
    clear hW4
    refine .inl ?_
    refine st_l 24 (.tmp 4) (.tmp 34) (w.heap.size + 2) 0 24 _ #[.int .i64 0, .slice none 0 0] _ rfl rfl (RK.out _ X4.out) (by kernel_rfl) (by simp) rfl rfl ?_
    intro W9 hW9 o9
    simp only [Act.put]
    go_wp2
    exact bodyPost_ret (v := .tuple #[.agg #[.int .i64 0, .slice none 0 0], .slice (some ⟨wC.heap.size + 1, 0, none⟩) 1 1, .int .i64 170]) (res_ctt 5 6 rfl rfl hW9 uBook (by kernel_rfl)) rfl (by rw [HR.out]; exact ⟨_, _, _, _, _, _, rfl, Ns.nil _ _, sa_orB' (S4.out.off (o9.mono fun b hb => .inr ⟨by omega, by omega⟩) (Grows.refl _ _)), ext_off (X0.out.trans X4.out) o9 (fun b hb => by omega)⟩)
  obtain ⟨⟨⟨q1, q2⟩, q4, q3⟩, hq⟩ : ∃ r, grantH (n, L) = r := ⟨_, rfl⟩
  have HC : Hid (∀ V, Ext W0 V → Calls Try.prog 30 #[.agg #[.int .i64 n, .slice ao L.length c]] V (GivesBkN (OrB F w 3) V ((q1, q2), q4, q3))) := Lib.hid fun V hV => hq ▸ refGrant_any _ V n _ L (HS.out.ext hV) hl (HFB.out _ hV)
  have HR : Hid (stepH (n, L) 1 sid m N = ((q1, q2), [q4], q3)) := Lib.hid (by simp [stepH, hq])
  clear hq ht
  go_enter Try.func14, Try.ntmps14
  go_upto_region 1 with (fail)
  rw [← HW0.out]
  go_wp2_with (first
    | (go_at_call 17; refine (HCK.out).mono ?_; rintro e wC ⟨rfl, xC⟩; have XC : Hid (Ext W0 wC) := Lib.hid xC; clear xC k0 k1 k2 k3 k4 k5; obtain ⟨⟨k0, k1⟩, ⟨k2, k3⟩, k4, k5⟩ := HK.out wC XC.out)
    | (go_at_call 30; refine (HC.out wC XC.out).mono ?_; rintro e w2 ⟨a2, m2, c2, rfl, n2, x2⟩; dsimp only at n2 ⊢; have N2 := Lib.hid n2; have X2 : Hid (Ext W0 w2) := Lib.hid (XC.out.trans x2); clear n2 x2)
    | refine haltst 24 ?_)
  refine .inl ?_
  have hg2 := at0 w2 (.cells #[.int .i64 0, .slice none 0 0] 24)
  refine st_l 24 (.tmp 10) (.tmp 56) w2.heap.size 0 24 _ #[.int .i64 q1, .slice a2 m2 c2] _ rfl rfl hg2 (by kernel_rfl) (by simp) rfl rfl ?_
  intro W3 hW3 o3
  simp only [Act.put]
  have D3 := Lib.hid hW3
  have Y3 : Hid (Ext w2 W3) := Lib.hid (ext_off ((Ext.refl w2).alloc _) o3 (fun b hb => by omega))
  have X3 : Hid (Ext W0 W3) := Lib.hid (X2.out.trans Y3.out)
  clear hW3 o3 hg2 k0 k1 k2 k3 k4 k5
  have d0 := blk_cell D3.out 0 rfl
  have d1 := blk_cell D3.out 1 rfl
  go_wp2_with (first | refine haltst 24 ?_)
  obtain ⟨W4, hW4⟩ : ∃ q, q = W3.alloc (.cells #[.int .i64 q4] 3) := ⟨_, rfl⟩
  have Y4 : Hid (Ext W3 W4) := Lib.hid (hW4 ▸ (Ext.refl W3).alloc _)
  have S4 : Hid (Sa (OrB F w 3) W4 (.slice (some ⟨W3.heap.size, 0, none⟩) 1 1) [q4]) := Lib.hid (hW4 ▸ Sa.new (Ow.litAt W3 W3.heap.size _ rfl (Nat.le_refl _) [q4] (by simp)) (HFB.out W3 X3.out))
  rw [← hW4]
  clear hW4
  refine .inl ?_
  refine st_l 24 (.tmp 4) (.tmp 59) (w.heap.size + 2) 0 24 _ #[.int .i64 q1, .slice a2 m2 c2] _ rfl rfl (RK.out _ (X3.out.trans Y4.out)) (by kernel_rfl) (by simp) rfl rfl ?_
  intro W9 hW9 o9
  simp only [Act.put]
  go_wp2
  exact bodyPost_ret (v := .tuple #[.agg #[.int .i64 q1, .slice a2 m2 c2], .slice (some ⟨W3.heap.size, 0, none⟩) 1 1, .int .i64 q3]) (res_ctt 5 6 rfl rfl hW9 uBook (by kernel_rfl)) rfl (by rw [HR.out]; exact ⟨_, _, _, _, _, _, rfl, ns_orB' ((N2.out.ext (Y3.out.trans Y4.out)).off (o9.mono fun b hb => .inr ⟨by omega, by omega⟩) (Grows.refl _ _)), sa_orB' (S4.out.off (o9.mono fun b hb => .inr ⟨by omega, by omega⟩) (Grows.refl _ _)), ext_off (X0.out.trans (X3.out.trans Y4.out)) o9 (fun b hb => by omega)⟩)

set_option maxRecDepth 100000 in
set_option maxHeartbeats 16000000 in
theorem told2_any (F : Nat → Prop) (w : World) (n k sid m : Int) (v nv : Value) (L : List Se) (N : List Int) (h : Ns HV F w v L) (hN : Sl w nv N) (hl : L.length ≤ 1000) (hF : ∀ b, F b → b < w.heap.size) (hk : k = 2) :
    Calls Try.prog 14 #[.agg #[.int .i64 n, v], .agg #[.int .i64 k, .int .i64 sid, .int .i64 m, nv]] w (GivesBkL F w (stepH (n, L) k sid m N)) := by
  subst hk
  obtain ⟨ao, c, rfl⟩ := h.len
  obtain ⟨no, nc, rfl⟩ := hN.len
  have hlenN := hN.length_le
  obtain ⟨W0, hW0⟩ : ∃ W0, W0 = ((w.alloc (.cells #[.int .i64 n, .slice ao L.length c] 24)).alloc (.cells #[.int .i64 2, .int .i64 sid, .int .i64 m, .slice no N.length nc] 27)).alloc (.cells #[.int .i64 0, .slice none 0 0] 24) := ⟨_, rfl⟩
  have X0 : Hid (Ext w W0) := Lib.hid (hW0 ▸ (((Ext.refl w).alloc _).alloc _).alloc _)
  have B0 : Hid (W0.heap[w.heap.size]? = some (.cells #[.int .i64 n, .slice ao L.length c] 24 (0, 0))) := Lib.hid (hW0 ▸ old1 (old1 (at0 w _) _) _)
  have A0 : Hid (W0.heap[w.heap.size + 1]? = some (.cells #[.int .i64 2, .int .i64 sid, .int .i64 m, .slice no N.length nc] 27 (0, 0))) := Lib.hid (hW0 ▸ old1 (at1 w _ _) _)
  have R0 : Hid (W0.heap[w.heap.size + 2]? = some (.cells #[.int .i64 0, .slice none 0 0] 24 (0, 0))) := Lib.hid (hW0 ▸ at2 w _ _ _)
  have HZ0 : Hid (W0.heap.size = w.heap.size + 3) := Lib.hid (by rw [hW0, size_alloc, size_alloc, size_alloc])
  have HW0 := Lib.hid hW0
  have HS := Lib.hid ((ns_orB h 3).ext X0.out)
  have HN := Lib.hid (hN.ext X0.out)
  have HFB : Hid (∀ V, Ext W0 V → ∀ b, OrB F w 3 b → b < V.heap.size) := Lib.hid fun V hV b hb => by
    have h1 := Below.size hV
    have h2 := HZ0.out
    rcases hb with hb | hb
    · have := hF b hb; omega
    · have := hb.2; omega
  have HK : Hid (∀ V, Ext W0 V → (V.cell? ⟨w.heap.size, 0, none⟩ = some (.int .i64 n) ∧ V.cell? ⟨w.heap.size, 1, none⟩ = some (.slice ao L.length c)) ∧ (V.cell? ⟨w.heap.size + 1, 0, none⟩ = some (.int .i64 2) ∧ V.cell? ⟨w.heap.size + 1, 1, none⟩ = some (.int .i64 sid)) ∧ V.cell? ⟨w.heap.size + 1, 2, none⟩ = some (.int .i64 m) ∧ V.cell? ⟨w.heap.size + 1, 3, none⟩ = some (.slice no N.length nc)) := Lib.hid fun V hV => ⟨⟨blk_cell (keepU B0.out hV) 0 rfl, blk_cell (keepU B0.out hV) 1 rfl⟩, ⟨blk_cell (keepU A0.out hV) 0 rfl, blk_cell (keepU A0.out hV) 1 rfl⟩, blk_cell (keepU A0.out hV) 2 rfl, blk_cell (keepU A0.out hV) 3 rfl⟩
  have RK : Hid (∀ V, Ext W0 V → V.heap[w.heap.size + 2]? = some (.cells #[.int .i64 0, .slice none 0 0] 24 (0, 0))) := Lib.hid fun V hV => keepU R0.out hV
  obtain ⟨⟨k0, k1⟩, ⟨k2, k3⟩, k4, k5⟩ := HK.out W0 (Ext.refl _)
  clear h hN hW0
  obtain ⟨t, ht⟩ : ∃ t, chkH (n, L) = t := ⟨_, rfl⟩
  have HCK : Hid (Calls Try.prog 17 #[.agg #[.int .i64 n, .slice ao L.length c]] W0 fun e w' => e = .returned (.bool t) ∧ Ext W0 w') := Lib.hid (refBkCheck_any _ W0 n _ L HS.out t ht)
  cases t
  · skip
    have HR : Hid (stepH (n, L) 2 sid m N = (noH, [], 170)) := Lib.hid (by simp [stepH, endH, ht])
    clear ht
    go_enter Try.func14, Try.ntmps14
    go_upto_region 1 with (fail)
    rw [← HW0.out]
    go_wp2_with (first
      | (go_at_call 17; refine (HCK.out).mono ?_; rintro e wC ⟨rfl, xC⟩; have XC : Hid (Ext W0 wC) := Lib.hid xC; clear xC k0 k1 k2 k3 k4 k5; obtain ⟨⟨k0, k1⟩, ⟨k2, k3⟩, k4, k5⟩ := HK.out wC XC.out; have e0 := (HK.out (wC.alloc (.cells #[] 3)) (XC.out.alloc _)).2.1.1)
      | refine haltst 24 ?_)
    obtain ⟨W4, hW4⟩ : ∃ q, q = wC.alloc (.cells #[] 3) := ⟨_, rfl⟩
    have X4 : Hid (Ext W0 W4) := Lib.hid (hW4 ▸ XC.out.alloc _)
    have S4 : Hid (Sa (OrB F w 3) W4 (.slice (some ⟨wC.heap.size, 0, none⟩) 0 0) ([] : List Int)) := Lib.hid (hW4 ▸ Sa.new (Ow.litAt wC wC.heap.size _ rfl (Nat.le_refl _) [] (by simp)) (fun b hb => HFB.out wC XC.out b hb))
    rw [← hW4]
    clear hW4
    refine .inl ?_
    refine st_l 24 (.tmp 4) (.tmp 34) (w.heap.size + 2) 0 24 _ #[.int .i64 0, .slice none 0 0] _ rfl rfl (RK.out _ X4.out) (by kernel_rfl) (by simp) rfl rfl ?_
    intro W9 hW9 o9
    simp only [Act.put]
    go_wp2
    exact bodyPost_ret (v := .tuple #[.agg #[.int .i64 0, .slice none 0 0], .slice (some ⟨wC.heap.size, 0, none⟩) 0 0, .int .i64 170]) (res_ctt 5 6 rfl rfl hW9 uBook (by kernel_rfl)) rfl (by rw [HR.out]; exact ⟨_, _, _, _, _, _, rfl, Ns.nil _ _, sa_orB' (S4.out.off (o9.mono fun b hb => .inr ⟨by omega, by omega⟩) (Grows.refl _ _)), ext_off (X0.out.trans X4.out) o9 (fun b hb => by omega)⟩)
  obtain ⟨⟨⟨q1, q2⟩, q3⟩, hq⟩ : ∃ r, endH (n, L) sid 1 = r := ⟨_, rfl⟩
  have HC : Hid (∀ V, Ext W0 V → Calls Try.prog 31 #[.agg #[.int .i64 n, .slice ao L.length c], .int .i64 sid, .int .i64 1] V (GivesBk (OrB F w 3) V ((q1, q2), q3))) := Lib.hid fun V hV => hq ▸ refEnd_any _ V n sid 1 _ L (HS.out.ext hV) hl (HFB.out _ hV)
  have HR : Hid (stepH (n, L) 2 sid m N = ((q1, q2), [], q3)) := Lib.hid (by simp [stepH, hq])
  clear hq ht
  go_enter Try.func14, Try.ntmps14
  go_upto_region 1 with (fail)
  rw [← HW0.out]
  go_wp2_with (first
    | (go_at_call 17; refine (HCK.out).mono ?_; rintro e wC ⟨rfl, xC⟩; have XC : Hid (Ext W0 wC) := Lib.hid xC; clear xC k0 k1 k2 k3 k4 k5; obtain ⟨⟨k0, k1⟩, ⟨k2, k3⟩, k4, k5⟩ := HK.out wC XC.out)
    | (go_at_call 31; refine (HC.out wC XC.out).mono ?_; rintro e w2 ⟨a2, m2, c2, rfl, n2, x2⟩; dsimp only at n2 ⊢; have N2 := Lib.hid n2; have X2 : Hid (Ext W0 w2) := Lib.hid (XC.out.trans x2); clear n2 x2)
    | refine haltst 24 ?_)
  refine .inl ?_
  have hg2 := at0 w2 (.cells #[.int .i64 0, .slice none 0 0] 24)
  refine st_l 24 (.tmp 13) (.tmp 70) w2.heap.size 0 24 _ #[.int .i64 q1, .slice a2 m2 c2] _ rfl rfl hg2 (by kernel_rfl) (by simp) rfl rfl ?_
  intro W3 hW3 o3
  simp only [Act.put]
  have D3 := Lib.hid hW3
  have Y3 : Hid (Ext w2 W3) := Lib.hid (ext_off ((Ext.refl w2).alloc _) o3 (fun b hb => by omega))
  have X3 : Hid (Ext W0 W3) := Lib.hid (X2.out.trans Y3.out)
  clear hW3 o3 hg2 k0 k1 k2 k3 k4 k5
  have d0 := blk_cell D3.out 0 rfl
  have d1 := blk_cell D3.out 1 rfl
  go_wp2_with (first | refine haltst 24 ?_)
  refine .inl ?_
  refine st_l 24 (.tmp 4) (.tmp 72) (w.heap.size + 2) 0 24 _ #[.int .i64 q1, .slice a2 m2 c2] _ rfl rfl (RK.out _ X3.out) (by kernel_rfl) (by simp) rfl rfl ?_
  intro W9 hW9 o9
  simp only [Act.put]
  go_wp2
  exact bodyPost_ret (v := .tuple #[.agg #[.int .i64 q1, .slice a2 m2 c2], .slice none 0 0, .int .i64 q3]) (res_ctt 5 6 rfl rfl hW9 uBook (by kernel_rfl)) rfl (by rw [HR.out]; exact ⟨_, _, _, _, _, _, rfl, ns_orB' ((N2.out.ext Y3.out).off (o9.mono fun b hb => .inr ⟨by omega, by omega⟩) (Grows.refl _ _)), sa_orB' ((Sa.nil (OrB F w 3) W3).off (o9.mono fun b hb => .inr ⟨by omega, by omega⟩) (Grows.refl _ _)), ext_off (X0.out.trans X3.out) o9 (fun b hb => by omega)⟩)

set_option maxRecDepth 100000 in
set_option maxHeartbeats 16000000 in
theorem told3_any (F : Nat → Prop) (w : World) (n k sid m : Int) (v nv : Value) (L : List Se) (N : List Int) (h : Ns HV F w v L) (hN : Sl w nv N) (hl : L.length ≤ 1000) (hF : ∀ b, F b → b < w.heap.size) (hk : k = 3) :
    Calls Try.prog 14 #[.agg #[.int .i64 n, v], .agg #[.int .i64 k, .int .i64 sid, .int .i64 m, nv]] w (GivesBkL F w (stepH (n, L) k sid m N)) := by
  subst hk
  obtain ⟨ao, c, rfl⟩ := h.len
  obtain ⟨no, nc, rfl⟩ := hN.len
  have hlenN := hN.length_le
  obtain ⟨W0, hW0⟩ : ∃ W0, W0 = ((w.alloc (.cells #[.int .i64 n, .slice ao L.length c] 24)).alloc (.cells #[.int .i64 3, .int .i64 sid, .int .i64 m, .slice no N.length nc] 27)).alloc (.cells #[.int .i64 0, .slice none 0 0] 24) := ⟨_, rfl⟩
  have X0 : Hid (Ext w W0) := Lib.hid (hW0 ▸ (((Ext.refl w).alloc _).alloc _).alloc _)
  have B0 : Hid (W0.heap[w.heap.size]? = some (.cells #[.int .i64 n, .slice ao L.length c] 24 (0, 0))) := Lib.hid (hW0 ▸ old1 (old1 (at0 w _) _) _)
  have A0 : Hid (W0.heap[w.heap.size + 1]? = some (.cells #[.int .i64 3, .int .i64 sid, .int .i64 m, .slice no N.length nc] 27 (0, 0))) := Lib.hid (hW0 ▸ old1 (at1 w _ _) _)
  have R0 : Hid (W0.heap[w.heap.size + 2]? = some (.cells #[.int .i64 0, .slice none 0 0] 24 (0, 0))) := Lib.hid (hW0 ▸ at2 w _ _ _)
  have HZ0 : Hid (W0.heap.size = w.heap.size + 3) := Lib.hid (by rw [hW0, size_alloc, size_alloc, size_alloc])
  have HW0 := Lib.hid hW0
  have HS := Lib.hid ((ns_orB h 3).ext X0.out)
  have HN := Lib.hid (hN.ext X0.out)
  have HFB : Hid (∀ V, Ext W0 V → ∀ b, OrB F w 3 b → b < V.heap.size) := Lib.hid fun V hV b hb => by
    have h1 := Below.size hV
    have h2 := HZ0.out
    rcases hb with hb | hb
    · have := hF b hb; omega
    · have := hb.2; omega
  have HK : Hid (∀ V, Ext W0 V → (V.cell? ⟨w.heap.size, 0, none⟩ = some (.int .i64 n) ∧ V.cell? ⟨w.heap.size, 1, none⟩ = some (.slice ao L.length c)) ∧ (V.cell? ⟨w.heap.size + 1, 0, none⟩ = some (.int .i64 3) ∧ V.cell? ⟨w.heap.size + 1, 1, none⟩ = some (.int .i64 sid)) ∧ V.cell? ⟨w.heap.size + 1, 2, none⟩ = some (.int .i64 m) ∧ V.cell? ⟨w.heap.size + 1, 3, none⟩ = some (.slice no N.length nc)) := Lib.hid fun V hV => ⟨⟨blk_cell (keepU B0.out hV) 0 rfl, blk_cell (keepU B0.out hV) 1 rfl⟩, ⟨blk_cell (keepU A0.out hV) 0 rfl, blk_cell (keepU A0.out hV) 1 rfl⟩, blk_cell (keepU A0.out hV) 2 rfl, blk_cell (keepU A0.out hV) 3 rfl⟩
  have RK : Hid (∀ V, Ext W0 V → V.heap[w.heap.size + 2]? = some (.cells #[.int .i64 0, .slice none 0 0] 24 (0, 0))) := Lib.hid fun V hV => keepU R0.out hV
  obtain ⟨⟨k0, k1⟩, ⟨k2, k3⟩, k4, k5⟩ := HK.out W0 (Ext.refl _)
  clear h hN hW0
  obtain ⟨t, ht⟩ : ∃ t, chkH (n, L) = t := ⟨_, rfl⟩
  have HCK : Hid (Calls Try.prog 17 #[.agg #[.int .i64 n, .slice ao L.length c]] W0 fun e w' => e = .returned (.bool t) ∧ Ext W0 w') := Lib.hid (refBkCheck_any _ W0 n _ L HS.out t ht)
  cases t
  · skip
    have HR : Hid (stepH (n, L) 3 sid m N = (noH, [], 170)) := Lib.hid (by simp [stepH, endH, ht])
    clear ht
    go_enter Try.func14, Try.ntmps14
    go_upto_region 1 with (fail)
    rw [← HW0.out]
    go_wp2_with (first
      | (go_at_call 17; refine (HCK.out).mono ?_; rintro e wC ⟨rfl, xC⟩; have XC : Hid (Ext W0 wC) := Lib.hid xC; clear xC k0 k1 k2 k3 k4 k5; obtain ⟨⟨k0, k1⟩, ⟨k2, k3⟩, k4, k5⟩ := HK.out wC XC.out; have e0 := (HK.out (wC.alloc (.cells #[] 3)) (XC.out.alloc _)).2.1.1)
      | refine haltst 24 ?_)
    obtain ⟨W4, hW4⟩ : ∃ q, q = wC.alloc (.cells #[] 3) := ⟨_, rfl⟩
    have X4 : Hid (Ext W0 W4) := Lib.hid (hW4 ▸ XC.out.alloc _)
    have S4 : Hid (Sa (OrB F w 3) W4 (.slice (some ⟨wC.heap.size, 0, none⟩) 0 0) ([] : List Int)) := Lib.hid (hW4 ▸ Sa.new (Ow.litAt wC wC.heap.size _ rfl (Nat.le_refl _) [] (by simp)) (fun b hb => HFB.out wC XC.out b hb))
    rw [← hW4]
    clear hW4
    refine .inl ?_
    refine st_l 24 (.tmp 4) (.tmp 34) (w.heap.size + 2) 0 24 _ #[.int .i64 0, .slice none 0 0] _ rfl rfl (RK.out _ X4.out) (by kernel_rfl) (by simp) rfl rfl ?_
    intro W9 hW9 o9
    simp only [Act.put]
    go_wp2
    exact bodyPost_ret (v := .tuple #[.agg #[.int .i64 0, .slice none 0 0], .slice (some ⟨wC.heap.size, 0, none⟩) 0 0, .int .i64 170]) (res_ctt 5 6 rfl rfl hW9 uBook (by kernel_rfl)) rfl (by rw [HR.out]; exact ⟨_, _, _, _, _, _, rfl, Ns.nil _ _, sa_orB' (S4.out.off (o9.mono fun b hb => .inr ⟨by omega, by omega⟩) (Grows.refl _ _)), ext_off (X0.out.trans X4.out) o9 (fun b hb => by omega)⟩)
  obtain ⟨⟨⟨q1, q2⟩, q3⟩, hq⟩ : ∃ r, endH (n, L) sid 0 = r := ⟨_, rfl⟩
  have HC : Hid (∀ V, Ext W0 V → Calls Try.prog 31 #[.agg #[.int .i64 n, .slice ao L.length c], .int .i64 sid, .int .i64 0] V (GivesBk (OrB F w 3) V ((q1, q2), q3))) := Lib.hid fun V hV => hq ▸ refEnd_any _ V n sid 0 _ L (HS.out.ext hV) hl (HFB.out _ hV)
  have HR : Hid (stepH (n, L) 3 sid m N = ((q1, q2), [], q3)) := Lib.hid (by simp [stepH, hq])
  clear hq ht
  go_enter Try.func14, Try.ntmps14
  go_upto_region 1 with (fail)
  rw [← HW0.out]
  go_wp2_with (first
    | (go_at_call 17; refine (HCK.out).mono ?_; rintro e wC ⟨rfl, xC⟩; have XC : Hid (Ext W0 wC) := Lib.hid xC; clear xC k0 k1 k2 k3 k4 k5; obtain ⟨⟨k0, k1⟩, ⟨k2, k3⟩, k4, k5⟩ := HK.out wC XC.out)
    | (go_at_call 31; refine (HC.out wC XC.out).mono ?_; rintro e w2 ⟨a2, m2, c2, rfl, n2, x2⟩; dsimp only at n2 ⊢; have N2 := Lib.hid n2; have X2 : Hid (Ext W0 w2) := Lib.hid (XC.out.trans x2); clear n2 x2)
    | refine haltst 24 ?_)
  refine .inl ?_
  have hg2 := at0 w2 (.cells #[.int .i64 0, .slice none 0 0] 24)
  refine st_l 24 (.tmp 15) (.tmp 81) w2.heap.size 0 24 _ #[.int .i64 q1, .slice a2 m2 c2] _ rfl rfl hg2 (by kernel_rfl) (by simp) rfl rfl ?_
  intro W3 hW3 o3
  simp only [Act.put]
  have D3 := Lib.hid hW3
  have Y3 : Hid (Ext w2 W3) := Lib.hid (ext_off ((Ext.refl w2).alloc _) o3 (fun b hb => by omega))
  have X3 : Hid (Ext W0 W3) := Lib.hid (X2.out.trans Y3.out)
  clear hW3 o3 hg2 k0 k1 k2 k3 k4 k5
  have d0 := blk_cell D3.out 0 rfl
  have d1 := blk_cell D3.out 1 rfl
  go_wp2_with (first | refine haltst 24 ?_)
  refine .inl ?_
  refine st_l 24 (.tmp 4) (.tmp 83) (w.heap.size + 2) 0 24 _ #[.int .i64 q1, .slice a2 m2 c2] _ rfl rfl (RK.out _ X3.out) (by kernel_rfl) (by simp) rfl rfl ?_
  intro W9 hW9 o9
  simp only [Act.put]
  go_wp2
  exact bodyPost_ret (v := .tuple #[.agg #[.int .i64 q1, .slice a2 m2 c2], .slice none 0 0, .int .i64 q3]) (res_ctt 5 6 rfl rfl hW9 uBook (by kernel_rfl)) rfl (by rw [HR.out]; exact ⟨_, _, _, _, _, _, rfl, ns_orB' ((N2.out.ext Y3.out).off (o9.mono fun b hb => .inr ⟨by omega, by omega⟩) (Grows.refl _ _)), sa_orB' ((Sa.nil (OrB F w 3) W3).off (o9.mono fun b hb => .inr ⟨by omega, by omega⟩) (Grows.refl _ _)), ext_off (X0.out.trans X3.out) o9 (fun b hb => by omega)⟩)

set_option maxRecDepth 100000 in
set_option maxHeartbeats 16000000 in
theorem told4_any (F : Nat → Prop) (w : World) (n k sid m : Int) (v nv : Value) (L : List Se) (N : List Int) (h : Ns HV F w v L) (hN : Sl w nv N) (hl : L.length ≤ 1000) (hF : ∀ b, F b → b < w.heap.size) (hk : k = 4) :
    Calls Try.prog 14 #[.agg #[.int .i64 n, v], .agg #[.int .i64 k, .int .i64 sid, .int .i64 m, nv]] w (GivesBkL F w (stepH (n, L) k sid m N)) := by
  subst hk
  obtain ⟨ao, c, rfl⟩ := h.len
  obtain ⟨no, nc, rfl⟩ := hN.len
  have hlenN := hN.length_le
  obtain ⟨W0, hW0⟩ : ∃ W0, W0 = ((w.alloc (.cells #[.int .i64 n, .slice ao L.length c] 24)).alloc (.cells #[.int .i64 4, .int .i64 sid, .int .i64 m, .slice no N.length nc] 27)).alloc (.cells #[.int .i64 0, .slice none 0 0] 24) := ⟨_, rfl⟩
  have X0 : Hid (Ext w W0) := Lib.hid (hW0 ▸ (((Ext.refl w).alloc _).alloc _).alloc _)
  have B0 : Hid (W0.heap[w.heap.size]? = some (.cells #[.int .i64 n, .slice ao L.length c] 24 (0, 0))) := Lib.hid (hW0 ▸ old1 (old1 (at0 w _) _) _)
  have A0 : Hid (W0.heap[w.heap.size + 1]? = some (.cells #[.int .i64 4, .int .i64 sid, .int .i64 m, .slice no N.length nc] 27 (0, 0))) := Lib.hid (hW0 ▸ old1 (at1 w _ _) _)
  have R0 : Hid (W0.heap[w.heap.size + 2]? = some (.cells #[.int .i64 0, .slice none 0 0] 24 (0, 0))) := Lib.hid (hW0 ▸ at2 w _ _ _)
  have HZ0 : Hid (W0.heap.size = w.heap.size + 3) := Lib.hid (by rw [hW0, size_alloc, size_alloc, size_alloc])
  have HW0 := Lib.hid hW0
  have HS := Lib.hid ((ns_orB h 3).ext X0.out)
  have HN := Lib.hid (hN.ext X0.out)
  have HFB : Hid (∀ V, Ext W0 V → ∀ b, OrB F w 3 b → b < V.heap.size) := Lib.hid fun V hV b hb => by
    have h1 := Below.size hV
    have h2 := HZ0.out
    rcases hb with hb | hb
    · have := hF b hb; omega
    · have := hb.2; omega
  have HK : Hid (∀ V, Ext W0 V → (V.cell? ⟨w.heap.size, 0, none⟩ = some (.int .i64 n) ∧ V.cell? ⟨w.heap.size, 1, none⟩ = some (.slice ao L.length c)) ∧ (V.cell? ⟨w.heap.size + 1, 0, none⟩ = some (.int .i64 4) ∧ V.cell? ⟨w.heap.size + 1, 1, none⟩ = some (.int .i64 sid)) ∧ V.cell? ⟨w.heap.size + 1, 2, none⟩ = some (.int .i64 m) ∧ V.cell? ⟨w.heap.size + 1, 3, none⟩ = some (.slice no N.length nc)) := Lib.hid fun V hV => ⟨⟨blk_cell (keepU B0.out hV) 0 rfl, blk_cell (keepU B0.out hV) 1 rfl⟩, ⟨blk_cell (keepU A0.out hV) 0 rfl, blk_cell (keepU A0.out hV) 1 rfl⟩, blk_cell (keepU A0.out hV) 2 rfl, blk_cell (keepU A0.out hV) 3 rfl⟩
  have RK : Hid (∀ V, Ext W0 V → V.heap[w.heap.size + 2]? = some (.cells #[.int .i64 0, .slice none 0 0] 24 (0, 0))) := Lib.hid fun V hV => keepU R0.out hV
  obtain ⟨⟨k0, k1⟩, ⟨k2, k3⟩, k4, k5⟩ := HK.out W0 (Ext.refl _)
  clear h hN hW0
  obtain ⟨t, ht⟩ : ∃ t, chkH (n, L) = t := ⟨_, rfl⟩
  have HCK : Hid (Calls Try.prog 17 #[.agg #[.int .i64 n, .slice ao L.length c]] W0 fun e w' => e = .returned (.bool t) ∧ Ext W0 w') := Lib.hid (refBkCheck_any _ W0 n _ L HS.out t ht)
  cases t
  · skip
    have HR : Hid (stepH (n, L) 4 sid m N = (noH, [0], 170)) := Lib.hid (by simp [stepH, tickH, ht])
    clear ht
    go_enter Try.func14, Try.ntmps14
    go_upto_region 1 with (fail)
    rw [← HW0.out]
    go_wp2_with (first
      | (go_at_call 17; refine (HCK.out).mono ?_; rintro e wC ⟨rfl, xC⟩; have XC : Hid (Ext W0 wC) := Lib.hid xC; clear xC k0 k1 k2 k3 k4 k5; obtain ⟨⟨k0, k1⟩, ⟨k2, k3⟩, k4, k5⟩ := HK.out wC XC.out; have e0 := (HK.out (wC.alloc (.cells #[] 3)) (XC.out.alloc _)).2.1.1)
      | refine haltst 24 ?_)
    obtain ⟨W4, hW4⟩ : ∃ q, q = (wC.alloc (.cells #[] 3)).alloc (.cells #[.int .i64 0] 3) := ⟨_, rfl⟩
    have X4 : Hid (Ext W0 W4) := Lib.hid (hW4 ▸ (XC.out.alloc _).alloc _)
    have S4 : Hid (Sa (OrB F w 3) W4 (.slice (some ⟨wC.heap.size + 1, 0, none⟩) 1 1) ([0] : List Int)) := Lib.hid (hW4 ▸ Sa.new (Ow.litAt (wC.alloc (.cells #[] 3)) (wC.heap.size + 1) _ (by rw [size_alloc]) (by rw [size_alloc]; exact Nat.le_refl _) [0] (by simp)) (fun b hb => Nat.lt_succ_of_lt (HFB.out wC XC.out b hb)))
    rw [← hW4]
    clear hW4
    refine .inl ?_
    refine st_l 24 (.tmp 4) (.tmp 34) (w.heap.size + 2) 0 24 _ #[.int .i64 0, .slice none 0 0] _ rfl rfl (RK.out _ X4.out) (by kernel_rfl) (by simp) rfl rfl ?_
    intro W9 hW9 o9
    simp only [Act.put]
    go_wp2
    exact bodyPost_ret (v := .tuple #[.agg #[.int .i64 0, .slice none 0 0], .slice (some ⟨wC.heap.size + 1, 0, none⟩) 1 1, .int .i64 170]) (res_ctt 5 6 rfl rfl hW9 uBook (by kernel_rfl)) rfl (by rw [HR.out]; exact ⟨_, _, _, _, _, _, rfl, Ns.nil _ _, sa_orB' (S4.out.off (o9.mono fun b hb => .inr ⟨by omega, by omega⟩) (Grows.refl _ _)), ext_off (X0.out.trans X4.out) o9 (fun b hb => by omega)⟩)
  obtain ⟨⟨⟨q1, q2⟩, q4, q3⟩, hq⟩ : ∃ r, tickH (n, L) m = r := ⟨_, rfl⟩
  obtain rfl : q3 = 0 := by
    have e3 : (tickH (n, L) m).2.2 = 0 := by
      unfold tickH
      rw [if_pos ht]
      dsimp only
      split
      · rfl
      · split
        · split <;> rfl
        · rfl
    rw [hq] at e3
    exact e3
  have HC : Hid (∀ V, Ext W0 V → Calls Try.prog 32 #[.agg #[.int .i64 n, .slice ao L.length c], .int .i64 m] V fun e w' => ∃ a m c, e = .returned (.tuple #[.agg #[.int .i64 q1, .slice a m c], .int .i64 q4]) ∧ Ns HV (OrB F w 3) w' (.slice a m c) q2 ∧ Ext V w') := Lib.hid fun V hV => by
    have := refTick_any _ V n m _ L (HS.out.ext hV) hl (HFB.out _ hV) ht
    rw [hq] at this
    exact this
  have HR : Hid (stepH (n, L) 4 sid m N = ((q1, q2), [q4], 0)) := Lib.hid (by simp [stepH, hq])
  clear hq ht
  go_enter Try.func14, Try.ntmps14
  go_upto_region 1 with (fail)
  rw [← HW0.out]
  go_wp2_with (first
    | (go_at_call 17; refine (HCK.out).mono ?_; rintro e wC ⟨rfl, xC⟩; have XC : Hid (Ext W0 wC) := Lib.hid xC; clear xC k0 k1 k2 k3 k4 k5; obtain ⟨⟨k0, k1⟩, ⟨k2, k3⟩, k4, k5⟩ := HK.out wC XC.out)
    | (go_at_call 32; refine (HC.out wC XC.out).mono ?_; rintro e w2 ⟨a2, m2, c2, rfl, n2, x2⟩; dsimp only at n2 ⊢; have N2 := Lib.hid n2; have X2 : Hid (Ext W0 w2) := Lib.hid (XC.out.trans x2); clear n2 x2)
    | refine haltst 24 ?_)
  refine .inl ?_
  have hg2 := at0 w2 (.cells #[.int .i64 0, .slice none 0 0] 24)
  refine st_l 24 (.tmp 17) (.tmp 92) w2.heap.size 0 24 _ #[.int .i64 q1, .slice a2 m2 c2] _ rfl rfl hg2 (by kernel_rfl) (by simp) rfl rfl ?_
  intro W3 hW3 o3
  simp only [Act.put]
  have D3 := Lib.hid hW3
  have Y3 : Hid (Ext w2 W3) := Lib.hid (ext_off ((Ext.refl w2).alloc _) o3 (fun b hb => by omega))
  have X3 : Hid (Ext W0 W3) := Lib.hid (X2.out.trans Y3.out)
  clear hW3 o3 hg2 k0 k1 k2 k3 k4 k5
  have d0 := blk_cell D3.out 0 rfl
  have d1 := blk_cell D3.out 1 rfl
  go_wp2_with (first | refine haltst 24 ?_)
  obtain ⟨W4, hW4⟩ : ∃ q, q = W3.alloc (.cells #[.int .i64 q4] 3) := ⟨_, rfl⟩
  have Y4 : Hid (Ext W3 W4) := Lib.hid (hW4 ▸ (Ext.refl W3).alloc _)
  have S4 : Hid (Sa (OrB F w 3) W4 (.slice (some ⟨W3.heap.size, 0, none⟩) 1 1) [q4]) := Lib.hid (hW4 ▸ Sa.new (Ow.litAt W3 W3.heap.size _ rfl (Nat.le_refl _) [q4] (by simp)) (HFB.out W3 X3.out))
  rw [← hW4]
  clear hW4
  refine .inl ?_
  refine st_l 24 (.tmp 4) (.tmp 94) (w.heap.size + 2) 0 24 _ #[.int .i64 q1, .slice a2 m2 c2] _ rfl rfl (RK.out _ (X3.out.trans Y4.out)) (by kernel_rfl) (by simp) rfl rfl ?_
  intro W9 hW9 o9
  simp only [Act.put]
  go_wp2
  exact bodyPost_ret (v := .tuple #[.agg #[.int .i64 q1, .slice a2 m2 c2], .slice (some ⟨W3.heap.size, 0, none⟩) 1 1, .int .i64 0]) (res_ctt 5 6 rfl rfl hW9 uBook (by kernel_rfl)) rfl (by rw [HR.out]; exact ⟨_, _, _, _, _, _, rfl, ns_orB' ((N2.out.ext (Y3.out.trans Y4.out)).off (o9.mono fun b hb => .inr ⟨by omega, by omega⟩) (Grows.refl _ _)), sa_orB' (S4.out.off (o9.mono fun b hb => .inr ⟨by omega, by omega⟩) (Grows.refl _ _)), ext_off (X0.out.trans (X3.out.trans Y4.out)) o9 (fun b hb => by omega)⟩)

set_option maxRecDepth 100000 in
set_option maxHeartbeats 16000000 in
theorem told5_any (F : Nat → Prop) (w : World) (n k sid m : Int) (v nv : Value) (L : List Se) (N : List Int) (h : Ns HV F w v L) (hN : Sl w nv N) (hl : L.length ≤ 1000) (hF : ∀ b, F b → b < w.heap.size) (hk : k = 5) :
    Calls Try.prog 14 #[.agg #[.int .i64 n, v], .agg #[.int .i64 k, .int .i64 sid, .int .i64 m, nv]] w (GivesBkL F w (stepH (n, L) k sid m N)) := by
  subst hk
  obtain ⟨ao, c, rfl⟩ := h.len
  obtain ⟨no, nc, rfl⟩ := hN.len
  have hlenN := hN.length_le
  obtain ⟨W0, hW0⟩ : ∃ W0, W0 = ((w.alloc (.cells #[.int .i64 n, .slice ao L.length c] 24)).alloc (.cells #[.int .i64 5, .int .i64 sid, .int .i64 m, .slice no N.length nc] 27)).alloc (.cells #[.int .i64 0, .slice none 0 0] 24) := ⟨_, rfl⟩
  have X0 : Hid (Ext w W0) := Lib.hid (hW0 ▸ (((Ext.refl w).alloc _).alloc _).alloc _)
  have B0 : Hid (W0.heap[w.heap.size]? = some (.cells #[.int .i64 n, .slice ao L.length c] 24 (0, 0))) := Lib.hid (hW0 ▸ old1 (old1 (at0 w _) _) _)
  have A0 : Hid (W0.heap[w.heap.size + 1]? = some (.cells #[.int .i64 5, .int .i64 sid, .int .i64 m, .slice no N.length nc] 27 (0, 0))) := Lib.hid (hW0 ▸ old1 (at1 w _ _) _)
  have R0 : Hid (W0.heap[w.heap.size + 2]? = some (.cells #[.int .i64 0, .slice none 0 0] 24 (0, 0))) := Lib.hid (hW0 ▸ at2 w _ _ _)
  have HZ0 : Hid (W0.heap.size = w.heap.size + 3) := Lib.hid (by rw [hW0, size_alloc, size_alloc, size_alloc])
  have HW0 := Lib.hid hW0
  have HS := Lib.hid ((ns_orB h 3).ext X0.out)
  have HN := Lib.hid (hN.ext X0.out)
  have HFB : Hid (∀ V, Ext W0 V → ∀ b, OrB F w 3 b → b < V.heap.size) := Lib.hid fun V hV b hb => by
    have h1 := Below.size hV
    have h2 := HZ0.out
    rcases hb with hb | hb
    · have := hF b hb; omega
    · have := hb.2; omega
  have HK : Hid (∀ V, Ext W0 V → (V.cell? ⟨w.heap.size, 0, none⟩ = some (.int .i64 n) ∧ V.cell? ⟨w.heap.size, 1, none⟩ = some (.slice ao L.length c)) ∧ (V.cell? ⟨w.heap.size + 1, 0, none⟩ = some (.int .i64 5) ∧ V.cell? ⟨w.heap.size + 1, 1, none⟩ = some (.int .i64 sid)) ∧ V.cell? ⟨w.heap.size + 1, 2, none⟩ = some (.int .i64 m) ∧ V.cell? ⟨w.heap.size + 1, 3, none⟩ = some (.slice no N.length nc)) := Lib.hid fun V hV => ⟨⟨blk_cell (keepU B0.out hV) 0 rfl, blk_cell (keepU B0.out hV) 1 rfl⟩, ⟨blk_cell (keepU A0.out hV) 0 rfl, blk_cell (keepU A0.out hV) 1 rfl⟩, blk_cell (keepU A0.out hV) 2 rfl, blk_cell (keepU A0.out hV) 3 rfl⟩
  have RK : Hid (∀ V, Ext W0 V → V.heap[w.heap.size + 2]? = some (.cells #[.int .i64 0, .slice none 0 0] 24 (0, 0))) := Lib.hid fun V hV => keepU R0.out hV
  obtain ⟨⟨k0, k1⟩, ⟨k2, k3⟩, k4, k5⟩ := HK.out W0 (Ext.refl _)
  clear h hN hW0
  obtain ⟨t, ht⟩ : ∃ t, chkH (n, L) = t := ⟨_, rfl⟩
  have HCK : Hid (Calls Try.prog 17 #[.agg #[.int .i64 n, .slice ao L.length c]] W0 fun e w' => e = .returned (.bool t) ∧ Ext W0 w') := Lib.hid (refBkCheck_any _ W0 n _ L HS.out t ht)
  cases t
  · skip
    have HR : Hid (stepH (n, L) 5 sid m N = (noH, [], 170)) := Lib.hid (by simp [stepH, goneH, ht])
    clear ht
    go_enter Try.func14, Try.ntmps14
    go_upto_region 1 with (fail)
    rw [← HW0.out]
    go_wp2_with (first
      | (go_at_call 17; refine (HCK.out).mono ?_; rintro e wC ⟨rfl, xC⟩; have XC : Hid (Ext W0 wC) := Lib.hid xC; clear xC k0 k1 k2 k3 k4 k5; obtain ⟨⟨k0, k1⟩, ⟨k2, k3⟩, k4, k5⟩ := HK.out wC XC.out; have e0 := (HK.out (wC.alloc (.cells #[] 3)) (XC.out.alloc _)).2.1.1)
      | refine haltst 24 ?_)
    obtain ⟨W4, hW4⟩ : ∃ q, q = wC.alloc (.cells #[] 3) := ⟨_, rfl⟩
    have X4 : Hid (Ext W0 W4) := Lib.hid (hW4 ▸ XC.out.alloc _)
    have S4 : Hid (Sa (OrB F w 3) W4 (.slice (some ⟨wC.heap.size, 0, none⟩) 0 0) ([] : List Int)) := Lib.hid (hW4 ▸ Sa.new (Ow.litAt wC wC.heap.size _ rfl (Nat.le_refl _) [] (by simp)) (fun b hb => HFB.out wC XC.out b hb))
    rw [← hW4]
    clear hW4
    refine .inl ?_
    refine st_l 24 (.tmp 4) (.tmp 34) (w.heap.size + 2) 0 24 _ #[.int .i64 0, .slice none 0 0] _ rfl rfl (RK.out _ X4.out) (by kernel_rfl) (by simp) rfl rfl ?_
    intro W9 hW9 o9
    simp only [Act.put]
    go_wp2
    exact bodyPost_ret (v := .tuple #[.agg #[.int .i64 0, .slice none 0 0], .slice (some ⟨wC.heap.size, 0, none⟩) 0 0, .int .i64 170]) (res_ctt 5 6 rfl rfl hW9 uBook (by kernel_rfl)) rfl (by rw [HR.out]; exact ⟨_, _, _, _, _, _, rfl, Ns.nil _ _, sa_orB' (S4.out.off (o9.mono fun b hb => .inr ⟨by omega, by omega⟩) (Grows.refl _ _)), ext_off (X0.out.trans X4.out) o9 (fun b hb => by omega)⟩)
  have HC : Hid (∀ V, Ext W0 V → Calls Try.prog 33 #[.agg #[.int .i64 n, .slice ao L.length c], .int .i64 m] V fun e w' => ∃ ao m2 c bo k d, e = .returned (.tuple #[.agg #[.int .i64 n, .slice ao m2 c], .slice bo k d]) ∧ Ns HV (OrB F w 3) w' (.slice ao m2 c) (L.filter fun s => !goesH m s) ∧ Sa (OrB F w 3) w' (.slice bo k d) ((L.filter (goesH m)).map Se.id) ∧ Ext V w') := Lib.hid fun V hV => refGone_any _ V n m _ L (HS.out.ext hV) hl (HFB.out _ hV)
  have HR : Hid (stepH (n, L) 5 sid m N = ((n, L.filter fun s => !goesH m s), (L.filter (goesH m)).map Se.id, 0)) := Lib.hid (by simp [stepH, goneH, ht])
  clear ht
  go_enter Try.func14, Try.ntmps14
  go_upto_region 1 with (fail)
  rw [← HW0.out]
  go_wp2_with (first
    | (go_at_call 17; refine (HCK.out).mono ?_; rintro e wC ⟨rfl, xC⟩; have XC : Hid (Ext W0 wC) := Lib.hid xC; clear xC k0 k1 k2 k3 k4 k5; obtain ⟨⟨k0, k1⟩, ⟨k2, k3⟩, k4, k5⟩ := HK.out wC XC.out)
    | (go_at_call 33; refine (HC.out wC XC.out).mono ?_; rintro e w2 ⟨a2, m2, c2, b2, i2, j2, rfl, n2, s2, x2⟩; have N2 := Lib.hid n2; have S2 := Lib.hid s2; have X2 : Hid (Ext W0 w2) := Lib.hid (XC.out.trans x2); clear n2 s2 x2)
    | refine haltst 24 ?_)
  refine .inl ?_
  have hg2 := at0 w2 (.cells #[.int .i64 0, .slice none 0 0] 24)
  refine st_l 24 (.tmp 19) (.tmp 102) w2.heap.size 0 24 _ #[.int .i64 n, .slice a2 m2 c2] _ rfl rfl hg2 (by kernel_rfl) (by simp) rfl rfl ?_
  intro W3 hW3 o3
  simp only [Act.put]
  have D3 := Lib.hid hW3
  have Y3 : Hid (Ext w2 W3) := Lib.hid (ext_off ((Ext.refl w2).alloc _) o3 (fun b hb => by omega))
  have X3 : Hid (Ext W0 W3) := Lib.hid (X2.out.trans Y3.out)
  clear hW3 o3 hg2 k0 k1 k2 k3 k4 k5
  have d0 := blk_cell D3.out 0 rfl
  have d1 := blk_cell D3.out 1 rfl
  go_wp2_with (first | refine haltst 24 ?_)
  refine .inl ?_
  refine st_l 24 (.tmp 4) (.tmp 104) (w.heap.size + 2) 0 24 _ #[.int .i64 n, .slice a2 m2 c2] _ rfl rfl (RK.out _ X3.out) (by kernel_rfl) (by simp) rfl rfl ?_
  intro W9 hW9 o9
  simp only [Act.put]
  go_wp2
  exact bodyPost_ret (v := .tuple #[.agg #[.int .i64 n, .slice a2 m2 c2], .slice b2 i2 j2, .int .i64 0]) (res_ctt 5 6 rfl rfl hW9 uBook (by kernel_rfl)) rfl (by rw [HR.out]; exact ⟨_, _, _, _, _, _, rfl, ns_orB' ((N2.out.ext Y3.out).off (o9.mono fun b hb => .inr ⟨by omega, by omega⟩) (Grows.refl _ _)), sa_orB' ((S2.out.off (Off.of_ext Y3.out) (Grows.refl _ _)).off (o9.mono fun b hb => .inr ⟨by omega, by omega⟩) (Grows.refl _ _)), ext_off (X0.out.trans X3.out) o9 (fun b hb => by omega)⟩)

theorem told_any (F : Nat → Prop) (w : World) (n k sid m : Int) (v nv : Value) (L : List Se) (N : List Int) (h : Ns HV F w v L) (hN : Sl w nv N) (hl : L.length ≤ 1000) (hlN : N.length ≤ 1000) (hF : ∀ b, F b → b < w.heap.size) (hk : 0 ≤ k ∧ k ≤ 5) :
    Calls Try.prog 14 #[.agg #[.int .i64 n, v], .agg #[.int .i64 k, .int .i64 sid, .int .i64 m, nv]] w (GivesBkL F w (stepH (n, L) k sid m N)) := by
  rcases (show k = 0 ∨ k = 1 ∨ k = 2 ∨ k = 3 ∨ k = 4 ∨ k = 5 by omega) with e | e | e | e | e | e
  · exact told0_any F w n k sid m v nv L N h hN hl hlN hF e
  · exact told1_any F w n k sid m v nv L N h hN hl hF e
  · exact told2_any F w n k sid m v nv L N h hN hl hF e
  · exact told3_any F w n k sid m v nv L N h hN hl hF e
  · exact told4_any F w n k sid m v nv L N h hN hl hF e
  · exact told5_any F w n k sid m v nv L N h hN hl hF e

end Go.Proofs.Ytgcnjkabpcbkgaa
