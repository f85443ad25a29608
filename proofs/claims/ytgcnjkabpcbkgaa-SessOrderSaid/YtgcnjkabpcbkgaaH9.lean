/- Layer 17, the document's answers: Tick. -/
import Derived.Test.YtgcnjkabpcbkgaaH8
import Derived.Test.YtgcnjkabpcbkgaaWR
namespace Go.Proofs.Ytgcnjkabpcbkgaa
open Go.RowKit

set_option maxRecDepth 100000 in
set_option maxHeartbeats 16000000 in
theorem refTick_any (F : Nat → Prop) (w : World) (n hold : Int) (v : Value) (L : List Se) (h : Ns HV F w v L) (hl : L.length ≤ 1000) (hF : ∀ b, F b → b < w.heap.size) (ht : chkH (n, L) = true) :
    Calls Try.prog 32 #[.agg #[.int .i64 n, v], .int .i64 hold] w fun e w' => ∃ ao m c, e = .returned (.tuple #[.agg #[.int .i64 (tickH (n, L) hold).1.1, .slice ao m c], .int .i64 (tickH (n, L) hold).2.1]) ∧ Ns HV F w' (.slice ao m c) (tickH (n, L) hold).1.2 ∧ Ext w w' := by
  obtain ⟨ao, c, rfl⟩ := h.len
  obtain ⟨W0, hW0⟩ : ∃ W0, W0 = (w.alloc (.cells #[.int .i64 n, .slice ao L.length c] 24)).alloc (.cells #[.int .i64 0, .slice none 0 0] 24) := ⟨_, rfl⟩
  have X0 : Hid (Ext w W0) := Lib.hid (hW0 ▸ ((Ext.refl w).alloc _).alloc _)
  have B0 : Hid (W0.heap[w.heap.size]? = some (.cells #[.int .i64 n, .slice ao L.length c] 24 (0, 0))) := Lib.hid (hW0 ▸ old1 (at0 w _) _)
  have R0 : Hid (W0.heap[w.heap.size + 1]? = some (.cells #[.int .i64 0, .slice none 0 0] 24 (0, 0))) := Lib.hid (hW0 ▸ at1 w _ _)
  have HZ0 : Hid (W0.heap.size = w.heap.size + 2) := Lib.hid (by rw [hW0, size_alloc, size_alloc])
  have HW0 := Lib.hid hW0
  have HS := Lib.hid ((ns_orB h 2).ext X0.out)
  have HFB : Hid (∀ V, Ext W0 V → ∀ b, OrB F w 2 b → b < V.heap.size) := Lib.hid fun V hV b hb => by
    have h1 := Below.size hV
    have h2 := HZ0.out
    rcases hb with hb | hb
    · have := hF b hb; omega
    · have := hb.2; omega
  have HK : Hid (∀ V, Ext W0 V → V.cell? ⟨w.heap.size, 0, none⟩ = some (.int .i64 n) ∧ V.cell? ⟨w.heap.size, 1, none⟩ = some (.slice ao L.length c)) := Lib.hid fun V hV => ⟨blk_cell (keepU B0.out hV) 0 rfl, blk_cell (keepU B0.out hV) 1 rfl⟩
  have RK : Hid (∀ V, Ext W0 V → V.heap[w.heap.size + 1]? = some (.cells #[.int .i64 0, .slice none 0 0] 24 (0, 0))) := Lib.hid fun V hV => keepU R0.out hV
  clear hW0
  obtain ⟨k0, k1⟩ := HK.out W0 (Ext.refl _)
  clear h
  obtain ⟨g, hg⟩ : ∃ g, grantedH L = g := ⟨_, rfl⟩
  have HGR := Lib.hid hg
  cases g
  · have HR : Hid (tickH (n, L) hold = ((n, L), 0, 0)) := Lib.hid (by
      unfold tickH
      rw [if_pos ht]
      dsimp only
      cases L with
      | nil => rfl
      | cons s l => dsimp only; rw [if_neg (of_decide_eq_false hg)])
    clear ht hg
    go_enter Try.func32, Try.ntmps32
    go_upto_region 1 with (fail)
    rw [← HW0.out]
    go_wp2_with (first
      | (go_at_call 51; refine (refGranted_any _ W0 n _ L HS.out _ HGR.out).mono ?_; rintro e w2 ⟨rfl, x2⟩; have X2 : Hid (Ext W0 w2) := Lib.hid x2; clear x2 k0 k1; obtain ⟨d0, d1⟩ := HK.out w2 X2.out; have e1 : (w2.alloc (.cells #[] 41)).cell? ⟨w.heap.size, 1, none⟩ = some (.slice ao L.length c) := blk_cell (old1 (keepU B0.out X2.out) _) 1 rfl)
      | refine haltst 24 ?_)
    refine .inl ?_
    refine st_l 24 (.tmp 4) (.tmp 10) (w.heap.size + 1) 0 24 _ #[.int .i64 n, .slice ao L.length c] _ rfl rfl (RK.out _ X2.out) (by kernel_rfl) (by simp) rfl rfl ?_
    intro W9 hW9 o9
    simp only [Act.put]
    go_wp2
    exact bodyPost_ret (v := .tuple #[.agg #[.int .i64 n, .slice ao L.length c], .int .i64 0]) (res_ct 5 rfl rfl hW9 uBook (by kernel_rfl)) rfl (by rw [HR.out]; exact ⟨_, _, _, rfl, ns_orB' ((HS.out.ext X2.out).off (o9.mono fun b hb => .inr ⟨by omega, by omega⟩) (Grows.refl _ _)), ext_off (X0.out.trans X2.out) o9 (fun b hb => by omega)⟩)
  obtain ⟨s, l, hsl⟩ : ∃ s l, L = s :: l := by
    cases L with
    | nil => cases hg
    | cons s l => exact ⟨s, l, rfl⟩
  have hs1 : s.state = 1 := by rw [hsl] at hg; exact of_decide_eq_true hg
  have hage : 0 ≤ s.age := ((chk_at.1 ht).2.2 0 s (by rw [hsl]; rfl)).age
  obtain ⟨xs, hs, he⟩ := HS.out.ea
  have hxl : xs.length ≤ 1000 := by rw [he.len]; omega
  have hL0 : 0 < L.length := by rw [hsl]; simp
  obtain ⟨x, hx⟩ : ∃ x, xs[0]? = some x := ⟨_, List.getElem?_eq_getElem (by rw [he.len]; exact hL0)⟩
  have hrd : RdH (OrB F w 2) W0 x s := he.at_ 0 x s hx (by rw [hsl]; rfl)
  have HTK : Hid (tickH (n, L) hold = if hold ≤ olderH s.age then ((n, (L.set 0 ⟨s.id, s.need, 1, olderH s.age⟩).eraseIdx 0), s.id, 0) else ((n, L.set 0 ⟨s.id, s.need, 1, olderH s.age⟩), 0, 0)) := Lib.hid (by
    unfold tickH
    rw [if_pos ht]
    dsimp only
    rw [hsl]
    dsimp only
    rw [if_pos hs1]
    rfl)
  obtain ⟨x0, xa, xn, xc, x2, x3⟩ := x
  obtain ⟨s0, s1, s2, s3⟩ := s
  obtain ⟨q0, q1, q2, q3⟩ := hrd
  dsimp only at q0 q1 q2 q3 hs1 hage HTK
  subst q0 q2 q3 hs1
  have HXS := Lib.hid hs.sl
  have HE : Hid (∀ a, Ea (OrB F w 2) W0 (xs.set 0 (⟨x0, xa, xn, xc, 1, a⟩ : HV)) (L.set 0 (⟨x0, s1, 1, a⟩ : Se))) := Lib.hid fun a => he.set 0 (⟨rfl, q1, rfl, rfl⟩ : RdH _ _ _ _)
  have HX := Lib.hid hx
  clear ht hg hs he hx hsl q1
  go_enter Try.func32, Try.ntmps32
  go_upto_region 1 with (fail)
  rw [← HW0.out]
  go_upto_region 4 with (first
    | (go_at_call 51; refine (refGranted_any _ W0 n _ L HS.out _ HGR.out).mono ?_; rintro e w2 ⟨rfl, x2⟩; have X2 : Hid (Ext W0 w2) := Lib.hid x2; clear x2 k0 k1; obtain ⟨d0, d1⟩ := HK.out w2 X2.out; have e1 : (w2.alloc (.cells #[] 41)).cell? ⟨w.heap.size, 1, none⟩ = some (.slice ao L.length c) := blk_cell (old1 (keepU B0.out X2.out) _) 1 rfl)
    | (at_builtin; refine wpList_append_sl (α := HV) rfl (.tmp 11) (.tmp 13) rfl w2.heap.size (.slice (some ⟨_, 0, none⟩) 0 0) [] rfl ?_ _ xs rfl ?_ ?_ ?_ ?_; exact (Ow.litAt w2 _ _ rfl (Nat.le_refl _) [] (by simp)); exact ((HXS.out.ext X2.out).alloc _); (first | omega | (simp; omega)); exact (by rw [size_alloc]; omega); intro v7 W7 ho7 ha7; obtain ⟨a7, n7, c7, rfl⟩ := ho7.sh; have O7 : Hid (Ow W7 w2.heap.size (.slice a7 n7 c7) xs) := Lib.hid ho7; have X7 : Hid (Ext W0 W7) := Lib.hid (X2.out.trans (Below.trans (Ext.alloc (Ext.refl w2) _) ha7.below)); clear ho7 ha7))
  have hz2 : w.heap.size + 2 ≤ w2.heap.size := by have := Below.size X2.out; have := HZ0.out; omega
  have O7' := Lib.hid (O7.out.mono hz2)
  clear O7
  obtain ⟨g7, rfl, hg7, hg8, hn7, hn0, hnc7, hc73, hcell7, hfr7, hset7⟩ := O7'.out.first HX.out
  have i3 : W7.cell? ⟨g7, 3, none⟩ = some (.int .i64 x3) := hcell7 3 _ rfl
  have f3 := hfr7 3 (by decide)
  have hn1 : (0 : Int) < (n7 : Int) := by omega
  have HG7 : Hid (w.heap.size + 2 ≤ g7 ∧ g7 < W7.heap.size) := Lib.hid ⟨by omega, hg8⟩
  by_cases hlt : x3 < 4611686018427387904
  · have HO := Lib.hid (hset7 3 (.int .i64 (x3 + 1)) ⟨x0, xa, xn, xc, 1, x3 + 1⟩ (by decide) rfl)
    have hold' : olderH x3 = x3 + 1 := by unfold olderH; rw [if_pos hlt]
    rw [hold'] at HTK
    have hwx : IntKind.i64.wrap (x3 + 1) = x3 + 1 := wrapN _ (by omega) (by omega)
    clear hcell7 hfr7 hset7 hn7 d0 d1 e1 hg7 hg8 hz2 hold'
    go_upto_region 6 with (fail)
    obtain ⟨WB, hWB⟩ : ∃ q, q = W7.setCell ⟨g7, 3, none⟩ (.int .i64 (x3 + 1)) := ⟨_, rfl⟩
    have oB : Off (fun k => k = g7) W7 WB := hWB ▸ off_set W7 ⟨g7, 3, none⟩ _
    have OB : Hid (Ow WB (w.heap.size + 2) (.slice (some ⟨g7, 0, none⟩) n7 c7) (xs.set 0 (⟨x0, xa, xn, xc, 1, x3 + 1⟩ : HV))) := Lib.hid (hWB ▸ HO.out)
    have BB : Hid (WB.heap[w.heap.size]? = some (.cells #[.int .i64 n, .slice ao L.length c] 24 (0, 0))) := Lib.hid (oB.blk (keepU B0.out X7.out) (by have := HG7.out; omega))
    have RB : Hid (WB.heap[w.heap.size + 1]? = some (.cells #[.int .i64 0, .slice none 0 0] 24 (0, 0))) := Lib.hid (oB.blk (RK.out _ X7.out) (by have := HG7.out; omega))
    have XB : Hid (Ext W0 WB) := Lib.hid (ext_off X7.out oB (fun b hb => by have := HG7.out; have := HZ0.out; omega))
    have EB := Lib.hid ((HE.out (x3 + 1)).ext XB.out)
    rw [← hWB]
    clear hWB oB i3 f3 HO hwx hlt
    have f1 := blk_free BB.out 1
    have c1 := blk_cell BB.out 1 rfl
    go_upto_region 7 with (fail)
    obtain ⟨WC, hWC⟩ : ∃ q, q = WB.setCell ⟨w.heap.size, 1, none⟩ (.slice (some ⟨g7, 0, none⟩) n7 c7) := ⟨_, rfl⟩
    have oC : Off (fun k => k = w.heap.size) WB WC := hWC ▸ off_set WB ⟨w.heap.size, 1, none⟩ _
    have BC : Hid (WC.heap[w.heap.size]? = some (.cells #[.int .i64 n, .slice (some ⟨g7, 0, none⟩) n7 c7] 24 (0, 0))) := Lib.hid (by rw [hWC, blk_set BB.out]; rfl)
    have RC : Hid (WC.heap[w.heap.size + 1]? = some (.cells #[.int .i64 0, .slice none 0 0] 24 (0, 0))) := Lib.hid (oC.blk RB.out (by omega))
    have OC : Hid (Ow WC (w.heap.size + 2) (.slice (some ⟨g7, 0, none⟩) n7 c7) (xs.set 0 (⟨x0, xa, xn, xc, 1, x3 + 1⟩ : HV))) := Lib.hid (hWC ▸ OB.out.set (d := ⟨w.heap.size, 1, none⟩) (by show w.heap.size < _; omega) _)
    have EC : Hid (Ea (OrB F w 2) WC (xs.set 0 (⟨x0, xa, xn, xc, 1, x3 + 1⟩ : HV)) (L.set 0 (⟨x0, s1, 1, x3 + 1⟩ : Se))) := Lib.hid (EB.out.off (oC.mono fun b hb => .inr ⟨by omega, by omega⟩) (Grows.refl _ _))
    have XC : Hid (Ext w WC) := Lib.hid (ext_off (X0.out.trans XB.out) oC (fun b hb => by omega))
    have IC : Hid (WC.cell? ⟨g7, 0, none⟩ = some (.int .i64 x0) ∧ WC.cell? ⟨g7, 3, none⟩ = some (.int .i64 (x3 + 1))) := Lib.hid (by
      obtain ⟨g', e', _, _, _, _, _, _, hc', _, _⟩ := OC.out.first (x := (⟨x0, xa, xn, xc, 1, x3 + 1⟩ : HV)) (by rw [List.getElem?_set]; rw [if_pos rfl, if_pos (List.getElem?_eq_some_iff.1 HX.out).1])
      simp only [Option.some.injEq, Addr.mk.injEq] at e'
      obtain ⟨rfl, _⟩ := e'
      exact ⟨hc' 0 _ rfl, hc' 3 _ rfl⟩)
    have NC : Hid (∀ V, Ext WC V → Ns HV (OrB F w 2) V (.slice (some ⟨g7, 0, none⟩) n7 c7) (L.set 0 (⟨x0, s1, 1, x3 + 1⟩ : Se))) := Lib.hid fun V hV => (EC.out.ext hV).ns (Sa.new (OC.out.ext hV) (fun b hb => hb.elim (fun q => by have := hF b q; omega) (fun q => q.2)))
    rw [← hWC]
    clear hWC oC f1 c1
    obtain ⟨i0, i3⟩ := IC.out
    obtain ⟨d0, d1⟩ : WC.cell? ⟨w.heap.size, 0, none⟩ = some (.int .i64 n) ∧ WC.cell? ⟨w.heap.size, 1, none⟩ = some (.slice (some ⟨g7, 0, none⟩) n7 c7) := ⟨blk_cell BC.out 0 rfl, blk_cell BC.out 1 rfl⟩
    by_cases hh : hold ≤ x3 + 1
    · have HR : Hid (tickH (n, L) hold = ((n, (L.set 0 (⟨x0, s1, 1, x3 + 1⟩ : Se)).eraseIdx 0), x0, 0)) := Lib.hid (by rw [HTK.out, if_pos hh])
      go_upto_region 8 with (fail)
      clear i0 i3 d0 d1
      (refine wp_region_X_lit (K := fun V => (V.cell? ⟨w.heap.size, 0, none⟩ = some (.int .i64 n) ∧ V.cell? ⟨w.heap.size, 1, none⟩ = some (.slice (some ⟨g7, 0, none⟩) n7 c7)) ∧ V.cell? ⟨g7, 0, none⟩ = some (.int .i64 x0)) (by kernel_rfl) (fun w1 hw1 => ?_))
      have Z1 : Hid (Ext WC w1) := Lib.hid hw1
      have HKK : Hid (∀ V, Ext WC V → (V.cell? ⟨w.heap.size, 0, none⟩ = some (.int .i64 n) ∧ V.cell? ⟨w.heap.size, 1, none⟩ = some (.slice (some ⟨g7, 0, none⟩) n7 c7)) ∧ V.cell? ⟨g7, 0, none⟩ = some (.int .i64 x0)) := Lib.hid fun V hV => ⟨⟨blk_cell (keepU BC.out hV) 0 rfl, blk_cell (keepU BC.out hV) 1 rfl⟩, (hV.cell (p := ⟨g7, 0, none⟩) (OC.out.low g7 rfl).2).trans IC.out.1⟩
      clear hw1
      refine xtv 0 (hv := by intro w' hw'; obtain ⟨⟨c0, c1⟩, c2⟩ := hw'; go_simp; first | done | with_reducible rfl) (h := ?_)
      refine xtv 2 (h := ?_)
      refine xtv 3 (h := ?_)
      refine xtv 4 (h := ?_)
      refine xtv 5 (hv := by intro w' hw'; obtain ⟨⟨c0, c1⟩, c2⟩ := hw'; go_simp; first | done | with_reducible rfl) (h := ?_)
      refine xone 1 (hk := (HKK.out _ Z1.out)) (h := RunX.of 1 (h := ?_))
      go_simp
      refine (refWithout_any _ w1 n _ _ 0 (NC.out w1 Z1.out) (by rw [List.length_set]; omega) (by rw [List.length_set]; exact hl) (fun b hb => by have h1 := Below.size Z1.out; have h2 := blk_lt RC.out; rcases hb with q | q; (have := hF b q; omega); (have := q.2; omega))).mono ?_
      rintro e w4 ⟨a4, m4, c4, rfl, n4, x4⟩
      have N4 := Lib.hid n4
      have X4 : Hid (Ext WC w4) := Lib.hid (Z1.out.trans x4)
      clear n4 x4
      dsimp only
      (try (simp only [Act.put, List.setIfInBounds_toArray, List.set]))
      refine xone 6 (hk := (HKK.out _ X4.out)) (h := RunX.of 6 (h := ?_))
      refine wp_st 24 (.tmp 4) (.tmp 36) rfl (w.heap.size + 1) 0 24 _ #[.int .i64 n, .slice a4 m4 c4] _ rfl rfl (keepU RC.out X4.out) (by kernel_rfl) (by simp) rfl rfl ?_
      intro W9 hW9 o9
      simp only [Act.put]
      have K9 : Hid ((W9.cell? ⟨w.heap.size, 0, none⟩ = some (.int .i64 n) ∧ W9.cell? ⟨w.heap.size, 1, none⟩ = some (.slice (some ⟨g7, 0, none⟩) n7 c7)) ∧ W9.cell? ⟨g7, 0, none⟩ = some (.int .i64 x0)) := Lib.hid ⟨⟨blk_cell (o9.blk (keepU BC.out X4.out) (by omega)) 0 rfl, blk_cell (o9.blk (keepU BC.out X4.out) (by omega)) 1 rfl⟩, by
        have q := (HKK.out _ X4.out).2
        unfold World.cell? at q ⊢
        have e9 : W9.heap[g7]? = w4.heap[g7]? := o9.block g7 (by have := (OC.out.low g7 rfl).2; have := Below.size X4.out; omega) (by have := (OC.out.low g7 rfl).1; omega)
        dsimp only at q ⊢
        rw [e9]; exact q⟩
      refine xtv 7 (h := ?_)
      (refine xdone (by kernel_rfl) (K9.out) ?_)
      go_wp2
      exact bodyPost_ret (v := .tuple #[.agg #[.int .i64 n, .slice a4 m4 c4], .int .i64 x0]) (res_ct 5 rfl rfl hW9 uBook (by kernel_rfl)) rfl (by rw [HR.out]; exact ⟨_, _, _, rfl, ns_orB' (N4.out.off (o9.mono fun b hb => .inr ⟨by omega, by omega⟩) (Grows.refl _ _)), ext_off (XC.out.trans X4.out) o9 (fun b hb => by omega)⟩)
    · have HR : Hid (tickH (n, L) hold = ((n, L.set 0 (⟨x0, s1, 1, x3 + 1⟩ : Se)), 0, 0)) := Lib.hid (by rw [HTK.out, if_neg hh])
      go_wp2_with (first | refine haltst 24 ?_)
      refine .inl ?_
      refine st_l 24 (.tmp 4) (.tmp 41) (w.heap.size + 1) 0 24 _ #[.int .i64 n, .slice (some ⟨g7, 0, none⟩) n7 c7] _ rfl rfl RC.out (by kernel_rfl) (by simp) rfl rfl ?_
      intro W9 hW9 o9
      simp only [Act.put]
      go_wp2
      exact bodyPost_ret (v := .tuple #[.agg #[.int .i64 n, .slice (some ⟨g7, 0, none⟩) n7 c7], .int .i64 0]) (res_ct 5 rfl rfl hW9 uBook (by kernel_rfl)) rfl (by rw [HR.out]; exact ⟨_, _, _, rfl, ns_orB' ((NC.out WC (Ext.refl _)).off (o9.mono fun b hb => .inr ⟨by omega, by omega⟩) (Grows.refl _ _)), ext_off XC.out o9 (fun b hb => by omega)⟩)
  · have hold' : olderH x3 = x3 := by unfold olderH; rw [if_neg hlt]
    rw [hold'] at HTK
    have hset : xs.set 0 (⟨x0, xa, xn, xc, 1, x3⟩ : HV) = xs := by
      have := HX.out
      obtain ⟨hk, e⟩ := List.getElem?_eq_some_iff.1 this
      rw [← e]; exact List.set_getElem_self hk
    have OB : Hid (Ow W7 (w.heap.size + 2) (.slice (some ⟨g7, 0, none⟩) n7 c7) (xs.set 0 (⟨x0, xa, xn, xc, 1, x3⟩ : HV))) := Lib.hid (by rw [hset]; exact O7'.out)
    clear hcell7 hfr7 hset7 hn7 d0 d1 e1 hg7 hg8 hz2 hold' hset
    go_upto_region 6 with (fail)
    obtain ⟨WB, hWB⟩ : ∃ q, q = W7 := ⟨_, rfl⟩
    rw [← hWB] at OB X7 ⊢
    have BB : Hid (WB.heap[w.heap.size]? = some (.cells #[.int .i64 n, .slice ao L.length c] 24 (0, 0))) := Lib.hid (keepU B0.out X7.out)
    have RB : Hid (WB.heap[w.heap.size + 1]? = some (.cells #[.int .i64 0, .slice none 0 0] 24 (0, 0))) := Lib.hid (RK.out _ X7.out)
    have XB := X7
    have EB := Lib.hid ((HE.out x3).ext XB.out)
    clear hWB i3 f3 hlt
    have f1 := blk_free BB.out 1
    have c1 := blk_cell BB.out 1 rfl
    go_upto_region 7 with (fail)
    obtain ⟨WC, hWC⟩ : ∃ q, q = WB.setCell ⟨w.heap.size, 1, none⟩ (.slice (some ⟨g7, 0, none⟩) n7 c7) := ⟨_, rfl⟩
    have oC : Off (fun k => k = w.heap.size) WB WC := hWC ▸ off_set WB ⟨w.heap.size, 1, none⟩ _
    have BC : Hid (WC.heap[w.heap.size]? = some (.cells #[.int .i64 n, .slice (some ⟨g7, 0, none⟩) n7 c7] 24 (0, 0))) := Lib.hid (by rw [hWC, blk_set BB.out]; rfl)
    have RC : Hid (WC.heap[w.heap.size + 1]? = some (.cells #[.int .i64 0, .slice none 0 0] 24 (0, 0))) := Lib.hid (oC.blk RB.out (by omega))
    have OC : Hid (Ow WC (w.heap.size + 2) (.slice (some ⟨g7, 0, none⟩) n7 c7) (xs.set 0 (⟨x0, xa, xn, xc, 1, x3⟩ : HV))) := Lib.hid (hWC ▸ OB.out.set (d := ⟨w.heap.size, 1, none⟩) (by show w.heap.size < _; omega) _)
    have EC : Hid (Ea (OrB F w 2) WC (xs.set 0 (⟨x0, xa, xn, xc, 1, x3⟩ : HV)) (L.set 0 (⟨x0, s1, 1, x3⟩ : Se))) := Lib.hid (EB.out.off (oC.mono fun b hb => .inr ⟨by omega, by omega⟩) (Grows.refl _ _))
    have XC : Hid (Ext w WC) := Lib.hid (ext_off (X0.out.trans XB.out) oC (fun b hb => by omega))
    have IC : Hid (WC.cell? ⟨g7, 0, none⟩ = some (.int .i64 x0) ∧ WC.cell? ⟨g7, 3, none⟩ = some (.int .i64 (x3))) := Lib.hid (by
      obtain ⟨g', e', _, _, _, _, _, _, hc', _, _⟩ := OC.out.first (x := (⟨x0, xa, xn, xc, 1, x3⟩ : HV)) (by rw [List.getElem?_set]; rw [if_pos rfl, if_pos (List.getElem?_eq_some_iff.1 HX.out).1])
      simp only [Option.some.injEq, Addr.mk.injEq] at e'
      obtain ⟨rfl, _⟩ := e'
      exact ⟨hc' 0 _ rfl, hc' 3 _ rfl⟩)
    have NC : Hid (∀ V, Ext WC V → Ns HV (OrB F w 2) V (.slice (some ⟨g7, 0, none⟩) n7 c7) (L.set 0 (⟨x0, s1, 1, x3⟩ : Se))) := Lib.hid fun V hV => (EC.out.ext hV).ns (Sa.new (OC.out.ext hV) (fun b hb => hb.elim (fun q => by have := hF b q; omega) (fun q => q.2)))
    rw [← hWC]
    clear hWC oC f1 c1
    obtain ⟨i0, i3⟩ := IC.out
    obtain ⟨d0, d1⟩ : WC.cell? ⟨w.heap.size, 0, none⟩ = some (.int .i64 n) ∧ WC.cell? ⟨w.heap.size, 1, none⟩ = some (.slice (some ⟨g7, 0, none⟩) n7 c7) := ⟨blk_cell BC.out 0 rfl, blk_cell BC.out 1 rfl⟩
    by_cases hh : hold ≤ x3
    · have HR : Hid (tickH (n, L) hold = ((n, (L.set 0 (⟨x0, s1, 1, x3⟩ : Se)).eraseIdx 0), x0, 0)) := Lib.hid (by rw [HTK.out, if_pos hh])
      go_upto_region 8 with (fail)
      clear i0 i3 d0 d1
      (refine wp_region_X_lit (K := fun V => (V.cell? ⟨w.heap.size, 0, none⟩ = some (.int .i64 n) ∧ V.cell? ⟨w.heap.size, 1, none⟩ = some (.slice (some ⟨g7, 0, none⟩) n7 c7)) ∧ V.cell? ⟨g7, 0, none⟩ = some (.int .i64 x0)) (by kernel_rfl) (fun w1 hw1 => ?_))
      have Z1 : Hid (Ext WC w1) := Lib.hid hw1
      have HKK : Hid (∀ V, Ext WC V → (V.cell? ⟨w.heap.size, 0, none⟩ = some (.int .i64 n) ∧ V.cell? ⟨w.heap.size, 1, none⟩ = some (.slice (some ⟨g7, 0, none⟩) n7 c7)) ∧ V.cell? ⟨g7, 0, none⟩ = some (.int .i64 x0)) := Lib.hid fun V hV => ⟨⟨blk_cell (keepU BC.out hV) 0 rfl, blk_cell (keepU BC.out hV) 1 rfl⟩, (hV.cell (p := ⟨g7, 0, none⟩) (OC.out.low g7 rfl).2).trans IC.out.1⟩
      clear hw1
      refine xtv 0 (hv := by intro w' hw'; obtain ⟨⟨c0, c1⟩, c2⟩ := hw'; go_simp; first | done | with_reducible rfl) (h := ?_)
      refine xtv 2 (h := ?_)
      refine xtv 3 (h := ?_)
      refine xtv 4 (h := ?_)
      refine xtv 5 (hv := by intro w' hw'; obtain ⟨⟨c0, c1⟩, c2⟩ := hw'; go_simp; first | done | with_reducible rfl) (h := ?_)
      refine xone 1 (hk := (HKK.out _ Z1.out)) (h := RunX.of 1 (h := ?_))
      go_simp
      refine (refWithout_any _ w1 n _ _ 0 (NC.out w1 Z1.out) (by rw [List.length_set]; omega) (by rw [List.length_set]; exact hl) (fun b hb => by have h1 := Below.size Z1.out; have h2 := blk_lt RC.out; rcases hb with q | q; (have := hF b q; omega); (have := q.2; omega))).mono ?_
      rintro e w4 ⟨a4, m4, c4, rfl, n4, x4⟩
      have N4 := Lib.hid n4
      have X4 : Hid (Ext WC w4) := Lib.hid (Z1.out.trans x4)
      clear n4 x4
      dsimp only
      (try (simp only [Act.put, List.setIfInBounds_toArray, List.set]))
      refine xone 6 (hk := (HKK.out _ X4.out)) (h := RunX.of 6 (h := ?_))
      refine wp_st 24 (.tmp 4) (.tmp 36) rfl (w.heap.size + 1) 0 24 _ #[.int .i64 n, .slice a4 m4 c4] _ rfl rfl (keepU RC.out X4.out) (by kernel_rfl) (by simp) rfl rfl ?_
      intro W9 hW9 o9
      simp only [Act.put]
      have K9 : Hid ((W9.cell? ⟨w.heap.size, 0, none⟩ = some (.int .i64 n) ∧ W9.cell? ⟨w.heap.size, 1, none⟩ = some (.slice (some ⟨g7, 0, none⟩) n7 c7)) ∧ W9.cell? ⟨g7, 0, none⟩ = some (.int .i64 x0)) := Lib.hid ⟨⟨blk_cell (o9.blk (keepU BC.out X4.out) (by omega)) 0 rfl, blk_cell (o9.blk (keepU BC.out X4.out) (by omega)) 1 rfl⟩, by
        have q := (HKK.out _ X4.out).2
        unfold World.cell? at q ⊢
        have e9 : W9.heap[g7]? = w4.heap[g7]? := o9.block g7 (by have := (OC.out.low g7 rfl).2; have := Below.size X4.out; omega) (by have := (OC.out.low g7 rfl).1; omega)
        dsimp only at q ⊢
        rw [e9]; exact q⟩
      refine xtv 7 (h := ?_)
      (refine xdone (by kernel_rfl) (K9.out) ?_)
      go_wp2
      exact bodyPost_ret (v := .tuple #[.agg #[.int .i64 n, .slice a4 m4 c4], .int .i64 x0]) (res_ct 5 rfl rfl hW9 uBook (by kernel_rfl)) rfl (by rw [HR.out]; exact ⟨_, _, _, rfl, ns_orB' (N4.out.off (o9.mono fun b hb => .inr ⟨by omega, by omega⟩) (Grows.refl _ _)), ext_off (XC.out.trans X4.out) o9 (fun b hb => by omega)⟩)
    · have HR : Hid (tickH (n, L) hold = ((n, L.set 0 (⟨x0, s1, 1, x3⟩ : Se)), 0, 0)) := Lib.hid (by rw [HTK.out, if_neg hh])
      go_wp2_with (first | refine haltst 24 ?_)
      refine .inl ?_
      refine st_l 24 (.tmp 4) (.tmp 41) (w.heap.size + 1) 0 24 _ #[.int .i64 n, .slice (some ⟨g7, 0, none⟩) n7 c7] _ rfl rfl RC.out (by kernel_rfl) (by simp) rfl rfl ?_
      intro W9 hW9 o9
      simp only [Act.put]
      go_wp2
      exact bodyPost_ret (v := .tuple #[.agg #[.int .i64 n, .slice (some ⟨g7, 0, none⟩) n7 c7], .int .i64 0]) (res_ct 5 rfl rfl hW9 uBook (by kernel_rfl)) rfl (by rw [HR.out]; exact ⟨_, _, _, rfl, ns_orB' ((NC.out WC (Ext.refl _)).off (o9.mono fun b hb => .inr ⟨by omega, by omega⟩) (Grows.refl _ _)), ext_off XC.out o9 (fun b hb => by omega)⟩)

end Go.Proofs.Ytgcnjkabpcbkgaa
