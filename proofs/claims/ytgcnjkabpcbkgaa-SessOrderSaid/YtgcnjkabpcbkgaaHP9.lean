/- Layer 17, the program: the first session is granted. -/
import Derived.Test.YtgcnjkabpcbkgaaHP8
namespace Go.Proofs.Ytgcnjkabpcbkgaa
open Go.RowKit

theorem Nw.first {F : Nat → Prop} {w : World} {B : Nat} {ao : Option Addr} {m c : Nat} {s : Se} {l : List Se} (h : Nw HV F w B (.slice ao m c) (s :: l)) :
    ∃ g so sn sc, ao = some ⟨g, 0, none⟩ ∧ B ≤ g ∧ g < w.heap.size ∧ m = l.length + 1 ∧ m ≤ c ∧ c ≤ 9223372036854775807 ∧
      ((w.cell? ⟨g, 0, none⟩ = some (.int .i64 s.id) ∧ w.cell? ⟨g, 1, none⟩ = some (.slice so sn sc)) ∧ w.cell? ⟨g, 2, none⟩ = some (.int .i64 s.state) ∧ w.cell? ⟨g, 3, none⟩ = some (.int .i64 s.age)) ∧
      (∀ i, i < 4 → w.frozen? ⟨g, i, none⟩ = false) ∧ Sl w (.slice so sn sc) s.need ∧
      (∀ st : Int, Nw HV F (w.setCell ⟨g, 2, none⟩ (.int .i64 st)) B (.slice ao m c) (⟨s.id, s.need, st, s.age⟩ :: l)) ∧
      (∀ ag : Int, Nw HV F (w.setCell ⟨g, 3, none⟩ (.int .i64 ag)) B (.slice ao m c) (⟨s.id, s.need, s.state, ag⟩ :: l)) := by
  obtain ⟨xs, h1, h2, h3⟩ := h.any
  obtain ⟨x, hx⟩ : ∃ x, xs[0]? = some x := ⟨_, List.getElem?_eq_getElem (by rw [h2]; simp)⟩
  obtain ⟨g, rfl, hB, hg, hm, hm0, hmc, hc, hcell, hfr, hset⟩ := h1.first hx
  obtain ⟨e1, e2, e3, e4⟩ : RdH _ w x s := h3 0 x s hx rfl
  have up : ∀ (i : Nat) (u : Value) (x' : HV) (s' : Se), i < 4 → Elem.enc x' = (Elem.enc x).set i u → x'.id = s'.id → x'.ao = x.ao → x'.n = x.n → x'.c = x.c → s'.need = s.need → x'.state = s'.state → x'.age = s'.age → Nw HV F (w.setCell ⟨g, i, none⟩ u) B (.slice (some ⟨g, 0, none⟩) m c) (s' :: l) := by
    intro i u x' s' hi he a1 a2 a3 a4 a5 a6 a7
    have o : Off (Own1 F (.slice (some ⟨g, 0, none⟩) m c)) w (w.setCell ⟨g, i, none⟩ u) := (off_set w ⟨g, i, none⟩ u).mono fun k hk => .inr (by rw [hk]; rfl)
    refine ⟨xs.set 0 x', hset i u x' hi he, by rw [List.length_set, h2]; rfl, fun j y d hy hd => ?_⟩
    rw [List.getElem?_set] at hy
    cases j with
    | zero =>
      rw [if_pos rfl, if_pos (List.getElem?_eq_some_iff.1 hx).1] at hy
      simp only [Option.some.injEq, List.getElem?_cons_zero] at hy hd
      subst hy hd
      exact (⟨a1, by rw [a2, a3, a4, a5]; exact e2.off o (Grows.refl _ _), a6, a7⟩ : RdH _ _ _ _)
    | succ j =>
      rw [if_neg (by omega)] at hy
      exact Nest.off (h3 (j + 1) y d hy (by rw [List.getElem?_cons_succ] at hd ⊢; exact hd)) o (Grows.refl _ _)
  refine ⟨g, x.ao, x.n, x.c, rfl, hB, hg, by rw [hm, h2]; rfl, hmc, hc, ⟨⟨by rw [← e1]; exact hcell 0 _ rfl, hcell 1 _ rfl⟩, by rw [← e3]; exact hcell 2 _ rfl, by rw [← e4]; exact hcell 3 _ rfl⟩, hfr, e2.sl, fun st => ?_, fun ag => ?_⟩
  · exact up 2 _ ⟨x.id, x.ao, x.n, x.c, st, x.age⟩ _ (by decide) rfl e1 rfl rfl rfl rfl rfl e4
  · exact up 3 _ ⟨x.id, x.ao, x.n, x.c, x.state, ag⟩ _ (by decide) rfl e1 rfl rfl rfl rfl e3 rfl

set_option maxRecDepth 100000 in
set_option maxHeartbeats 16000000 in
theorem sessGrant_any (F : Nat → Prop) (w : World) (n : Int) (v : Value) (L : List Se) (h : Ns HV F w v L) (hl : L.length ≤ 1000) (hF : ∀ b, F b → b < w.heap.size) :
    Calls Try.prog 23 #[.agg #[.int .i64 n, v]] w (GivesBkN F w (grantH (n, L))) := by
  obtain ⟨ao, c, rfl⟩ := h.len
  obtain ⟨W0, hW0⟩ : ∃ W0, W0 = (w.alloc (.cells #[.int .i64 n, .slice ao L.length c] 24)).alloc (.cells #[.int .i64 0, .slice none 0 0] 24) := ⟨_, rfl⟩
  have X0 : Hid (Ext w W0) := Lib.hid (hW0 ▸ ((Ext.refl w).alloc _).alloc _)
  have B0 : Hid (W0.heap[w.heap.size]? = some (.cells #[.int .i64 n, .slice ao L.length c] 24 (0, 0))) := Lib.hid (hW0 ▸ old1 (at0 w _) _)
  have R0 : Hid (W0.heap[w.heap.size + 1]? = some (.cells #[.int .i64 0, .slice none 0 0] 24 (0, 0))) := Lib.hid (hW0 ▸ at1 w _ _)
  have HZ0 : Hid (W0.heap.size = w.heap.size + 2) := Lib.hid (by rw [hW0, size_alloc, size_alloc])
  have HW0 := Lib.hid hW0
  have HS := Lib.hid (h.ext X0.out)
  have HFB : Hid (∀ V, Ext W0 V → ∀ b, OrB F w 2 b → b < V.heap.size) := Lib.hid fun V hV b hb => by
    have h1 := Below.size hV
    have h2 := HZ0.out
    rcases hb with hb | hb
    · have := hF b hb; omega
    · have := hb.2; omega
  have HK : Hid (∀ V, Ext W0 V → V.cell? ⟨w.heap.size, 0, none⟩ = some (.int .i64 n) ∧ V.cell? ⟨w.heap.size, 1, none⟩ = some (.slice ao L.length c)) := Lib.hid fun V hV => ⟨blk_cell (keepU B0.out hV) 0 rfl, blk_cell (keepU B0.out hV) 1 rfl⟩
  have RK : Hid (∀ V, Ext W0 V → V.heap[w.heap.size + 1]? = some (.cells #[.int .i64 0, .slice none 0 0] 24 (0, 0))) := Lib.hid fun V hV => keepU R0.out hV
  clear hW0
  obtain ⟨t, ht⟩ : ∃ t, chkH (n, L) = t := ⟨_, rfl⟩
  have HCK := Lib.hid (sessCheck_any _ W0 n _ L HS.out hl t ht)
  obtain ⟨k0, k1⟩ := HK.out W0 (Ext.refl _)
  clear h
  cases t
  · have HR : Hid (grantH (n, L) = (noH, 0, 170)) := Lib.hid (by unfold grantH; rw [if_neg (by rw [ht]; exact Bool.false_ne_true)])
    have HCC : Hid (Calls Try.prog 20 #[.agg #[.int .i64 n, .slice ao L.length c]] W0 fun e w' => e = .returned (.int .i64 170) ∧ Ext W0 w') := HCK
    clear ht HCK
    go_enter Try.func23, Try.ntmps23
    go_upto_region 1 with (fail)
    rw [← HW0.out]
    go_wp2_with (first
      | (go_at_call 20; refine (HCC.out).mono ?_; rintro e w2 ⟨rfl, x2⟩; have X2 : Hid (Ext W0 w2) := Lib.hid x2; clear x2 k0 k1; obtain ⟨d0, d1⟩ := HK.out w2 X2.out)
      | refine haltst 24 ?_)
    refine .inl ?_
    refine st_l 24 (.tmp 2) (.tmp 10) (w.heap.size + 1) 0 24 _ #[.int .i64 0, .slice none 0 0] _ rfl rfl (RK.out _ X2.out) (by kernel_rfl) (by simp) rfl rfl ?_
    intro W9 hW9 o9
    simp only [Act.put]
    go_wp2
    exact bodyPost_ret (v := .tuple #[.agg #[.int .i64 0, .slice none 0 0], .int .i64 0, .int .i64 170]) (res_ctt 3 4 rfl rfl hW9 uBook (by kernel_rfl)) rfl (givesBkN_no HR.out (ext_off (X0.out.trans X2.out) o9 (fun b hb => by omega)))
  have HCC : Hid (Calls Try.prog 20 #[.agg #[.int .i64 n, .slice ao L.length c]] W0 fun e w' => e = .returned (.int .i64 0) ∧ Ext W0 w') := HCK
  have HLS := Lib.hid (chk_needs ht)
  clear HCK
  cases L with
  | nil =>
    have HR : Hid (grantH (n, []) = (noH, 0, 175)) := Lib.hid (by unfold grantH; rw [if_pos ht])
    clear ht
    dsimp only [List.length_nil] at *
    go_enter Try.func23, Try.ntmps23
    go_upto_region 1 with (fail)
    rw [← HW0.out]
    go_wp2_with (first
      | (go_at_call 20; refine (HCC.out).mono ?_; rintro e w2 ⟨rfl, x2⟩; have X2 : Hid (Ext W0 w2) := Lib.hid x2; clear x2 k0 k1; obtain ⟨d0, d1⟩ := HK.out w2 X2.out)
      | refine haltst 24 ?_)
    refine .inl ?_
    refine st_l 24 (.tmp 2) (.tmp 23) (w.heap.size + 1) 0 24 _ #[.int .i64 0, .slice none 0 0] _ rfl rfl (RK.out _ X2.out) (by kernel_rfl) (by simp) rfl rfl ?_
    intro W9 hW9 o9
    simp only [Act.put]
    go_wp2
    exact bodyPost_ret (v := .tuple #[.agg #[.int .i64 0, .slice none 0 0], .int .i64 0, .int .i64 175]) (res_ctt 3 4 rfl rfl hW9 uBook (by kernel_rfl)) rfl (givesBkN_no HR.out (ext_off (X0.out.trans X2.out) o9 (fun b hb => by omega)))
  | cons s l =>
    obtain ⟨b1, off, so, sc, s', hsj, rfl, hn, hnc, hc63, hb, hsn, hcs⟩ := HS.out.sessAt (k := 0) (by simp)
    obtain rfl : s = s' := by simpa using hsj
    obtain ⟨y0, y1, y2, y3⟩ := s
    dsimp only at hsn hcs
    rw [Nat.zero_mul, Nat.add_zero] at hcs
    have HSN := Lib.hid hsn.sl
    have HCS := Lib.hid hcs
    clear hsj hn hsn hcs hb hnc hc63
    obtain ⟨q, hq⟩ : ∃ q, decide (y2 = 1) = q := ⟨_, rfl⟩
    have HGR := Lib.hid hq
    obtain ⟨m, hm⟩ : ∃ m, m = ((⟨y0, y1, y2, y3⟩ : Se) :: l).length := ⟨_, rfl⟩
    have hm0 : ((m : Int) == 0) = false := by rw [hm, beq_eq_false_iff_ne]; simp only [List.length_cons]; omega
    have hm1 : (0 : Int) < (m : Int) := by rw [hm]; simp only [List.length_cons]; omega
    have hlm : ((⟨y0, y1, y2, y3⟩ : Se) :: l).length ≤ 1000 := hl
    rw [← hm] at HW0 HK HCC B0 k1 ⊢
    have HM := Lib.hid hm
    clear hm
    cases q
    rotate_left
    · have HR : Hid (grantH (n, ⟨y0, y1, y2, y3⟩ :: l) = (noH, 0, 175)) := Lib.hid (by unfold grantH; rw [if_pos ht]; dsimp only; rw [if_pos (of_decide_eq_true hq)])
      clear ht hq
      go_enter Try.func23, Try.ntmps23
      go_upto_region 1 with (fail)
      rw [← HW0.out]
      go_wp2_with (first
        | (go_at_call 20; refine (HCC.out).mono ?_; rintro e w2 ⟨rfl, x2⟩; have X2 : Hid (Ext W0 w2) := Lib.hid x2; clear x2 k0 k1; obtain ⟨d0, d1⟩ := HK.out w2 X2.out; obtain ⟨⟨z0, z1⟩, z2, z3⟩ := HCS.out w2 X2.out)
        | (go_at_call 42; refine (granted_any w2 y0 y2 y3 _ y1 (HSN.out.ext X2.out) _ HGR.out).mono ?_; rintro e w3 ⟨rfl, x3⟩; have X3 : Hid (Ext W0 w3) := Lib.hid (X2.out.trans x3); clear x3 d0 d1 z0 z1 z2 z3; obtain ⟨d0, d1⟩ := HK.out w3 X3.out)
        | refine haltst 24 ?_)
      refine .inl ?_
      refine st_l 24 (.tmp 2) (.tmp 23) (w.heap.size + 1) 0 24 _ #[.int .i64 0, .slice none 0 0] _ rfl rfl (RK.out _ X3.out) (by kernel_rfl) (by simp) rfl rfl ?_
      intro W9 hW9 o9
      simp only [Act.put]
      go_wp2
      exact bodyPost_ret (v := .tuple #[.agg #[.int .i64 0, .slice none 0 0], .int .i64 0, .int .i64 175]) (res_ctt 3 4 rfl rfl hW9 uBook (by kernel_rfl)) rfl (givesBkN_no HR.out (ext_off (X0.out.trans X3.out) o9 (fun b hb => by omega)))
    have HR : Hid (grantH (n, ⟨y0, y1, y2, y3⟩ :: l) = ((n, ⟨y0, y1, 1, y3⟩ :: l), y0, 0)) := Lib.hid (by unfold grantH; rw [if_pos ht]; dsimp only; rw [if_neg (of_decide_eq_false hq)])
    have HCP : Hid (∀ V, Ext W0 V → Calls Try.prog 43 #[.agg #[.int .i64 n, .slice (some ⟨b1, off, none⟩) m c]] V (GivesNew (OrB F w 2) V n (⟨y0, y1, y2, y3⟩ :: l))) := Lib.hid fun V hV => by
      rw [HM.out]
      exact copied_any (OrB F w 2) _ V n _ _ (HS.out.ext hV) hlm HLS.out (HFB.out _ hV)
    clear ht hq
    go_enter Try.func23, Try.ntmps23
    go_upto_region 1 with (fail)
    rw [← HW0.out]
    go_wp2_with (first
      | (go_at_call 20; refine (HCC.out).mono ?_; rintro e w2 ⟨rfl, x2⟩; have X2 : Hid (Ext W0 w2) := Lib.hid x2; clear x2 k0 k1; obtain ⟨d0, d1⟩ := HK.out w2 X2.out; obtain ⟨⟨z0, z1⟩, z2, z3⟩ := HCS.out w2 X2.out)
      | (go_at_call 42; refine (granted_any w2 y0 y2 y3 _ y1 (HSN.out.ext X2.out) _ HGR.out).mono ?_; rintro e w3 ⟨rfl, x3⟩; have X3 : Hid (Ext W0 w3) := Lib.hid (X2.out.trans x3); clear x3 d0 d1 z0 z1 z2 z3; obtain ⟨d0, d1⟩ := HK.out w3 X3.out)
      | (go_at_call 43; refine (HCP.out w3 X3.out).mono ?_; rintro e w5 ⟨a5, m5, c5, rfl, n5, x5⟩; have N5 := Lib.hid n5; have X5 : Hid (Ext W0 w5) := Lib.hid (X3.out.trans x5); have Z5 : Hid (Ext w3 w5) := Lib.hid x5; clear n5 x5 d0 d1)
      | refine haltst 24 ?_)
    refine .inl ?_
    refine st_l 24 (.tmp 1) (.tmp 25) w.heap.size 0 24 _ #[.int .i64 n, .slice a5 m5 c5] _ rfl rfl (keepU B0.out X5.out) (by kernel_rfl) (by simp) rfl rfl ?_
    intro W6 hW6 o6
    simp only [Act.put]
    have HZ : Hid (w.heap.size + 2 ≤ w3.heap.size) := Lib.hid (by have := Below.size X3.out; have := HZ0.out; omega)
    have hz := HZ.out
    have B6 := Lib.hid hW6
    have R6 := Lib.hid (o6.blk (RK.out _ X5.out) (by omega))
    have N6 : Hid (Nw HV (OrB F w 2) W6 w3.heap.size (.slice a5 m5 c5) (⟨y0, y1, y2, y3⟩ :: l)) := Lib.hid (N5.out.off (o6.mono fun b hb => .inr ⟨by omega, by omega⟩) (fun b hb => o6.block b (N5.out.low b hb).2 (fun e => by have := (N5.out.low b hb).1; omega)) (Grows.refl _ _))
    have X6 : Hid (Ext w W6) := Lib.hid (ext_off (X0.out.trans X5.out) o6 (fun b hb => by omega))
    clear hW6 o6
    obtain ⟨g, so6, sn6, sc6, rfl, hg1, hg2, hm5, hm6, hm7, ⟨⟨i0, i1⟩, i2, i3⟩, hfr, hsl6, hst, _⟩ := N6.out.first
    dsimp only at i0 i1 i2 i3 hst
    have f2 := hfr 2 (by decide)
    have hn1 : (0 : Int) < (m5 : Int) := by omega
    have hn0 : 0 < m5 := by omega
    have HST := Lib.hid (hst 1)
    have HG : Hid (w.heap.size + 2 ≤ g ∧ g < W6.heap.size) := Lib.hid ⟨by omega, hg2⟩
    have H00 : Hid (W6.cell? ⟨g, 0, none⟩ = some (.int .i64 y0)) := Lib.hid i0
    clear hfr hsl6 hst hg1 hg2 hm5 i0 i1 i3 hz
    obtain ⟨d0, d1⟩ : W6.cell? ⟨w.heap.size, 0, none⟩ = some (.int .i64 n) ∧ W6.cell? ⟨w.heap.size, 1, none⟩ = some (.slice (some ⟨g, 0, none⟩) m5 c5) := ⟨blk_cell B6.out 0 rfl, blk_cell B6.out 1 rfl⟩
    go_upto_region 8 with (fail)
    obtain ⟨W7, hW7⟩ : ∃ q, q = W6.setCell ⟨g, 2, none⟩ (.int .i64 1) := ⟨_, rfl⟩
    have o7 : Off (fun k => k = g) W6 W7 := hW7 ▸ off_set W6 ⟨g, 2, none⟩ _
    have N7 : Hid (Nw HV (OrB F w 2) W7 w3.heap.size (.slice (some ⟨g, 0, none⟩) m5 c5) (⟨y0, y1, 1, y3⟩ :: l)) := Lib.hid (hW7 ▸ HST.out)
    have B7 := Lib.hid (o7.blk B6.out (by have := HG.out; omega))
    have R7 := Lib.hid (o7.blk R6.out (by have := HG.out; omega))
    have X7 : Hid (Ext w W7) := Lib.hid (ext_off X6.out o7 (fun b hb => by have := HG.out; omega))
    have G7 : Hid (g < W7.heap.size) := Lib.hid (by have := HG.out; have := o7.size; omega)
    have I7 : Hid (W7.cell? ⟨g, 0, none⟩ = some (.int .i64 y0)) := Lib.hid (by
      obtain ⟨g', _, _, _, e', _, _, _, _, _, ⟨⟨q0, _⟩, _, _⟩, _⟩ := N7.out.first
      simp only [Option.some.injEq, Addr.mk.injEq] at e'
      obtain ⟨rfl, _⟩ := e'
      exact q0)
    rw [← hW7]
    clear hW7 o7 d0 d1 i2 f2
    (refine wp_region_X_lit (K := fun V => (V.cell? ⟨w.heap.size, 0, none⟩ = some (.int .i64 n) ∧ V.cell? ⟨w.heap.size, 1, none⟩ = some (.slice (some ⟨g, 0, none⟩) m5 c5)) ∧ V.cell? ⟨g, 0, none⟩ = some (.int .i64 y0)) (by kernel_rfl) (fun w1 hw1 => ?_))
    have Z1 : Hid (Ext W7 w1) := Lib.hid hw1
    have K1 : Hid ((w1.cell? ⟨w.heap.size, 0, none⟩ = some (.int .i64 n) ∧ w1.cell? ⟨w.heap.size, 1, none⟩ = some (.slice (some ⟨g, 0, none⟩) m5 c5)) ∧ w1.cell? ⟨g, 0, none⟩ = some (.int .i64 y0)) := Lib.hid ⟨⟨blk_cell (keepU B7.out hw1) 0 rfl, blk_cell (keepU B7.out hw1) 1 rfl⟩, (hw1.cell (p := ⟨g, 0, none⟩) G7.out).trans I7.out⟩
    clear hw1
    refine xtv 0 (hv := by intro w' hw'; obtain ⟨⟨c0, c1⟩, c2⟩ := hw'; go_simp; first | done | with_reducible rfl) (h := ?_)
    refine xtv 1 (h := ?_)
    refine xtv 2 (hv := by intro w' hw'; obtain ⟨⟨c0, c1⟩, c2⟩ := hw'; go_simp; first | done | with_reducible rfl) (h := ?_)
    refine xtv 3 (h := ?_)
    refine xtv 4 (h := ?_)
    refine xtv 5 (hv := by intro w' hw'; obtain ⟨⟨c0, c1⟩, c2⟩ := hw'; go_simp; first | done | with_reducible rfl) (h := ?_)
    refine xone 6 (hk := K1.out) (h := RunX.of 6 (h := ?_))
    refine wp_st 24 (.tmp 2) (.tmp 30) rfl (w.heap.size + 1) 0 24 _ #[.int .i64 n, .slice (some ⟨g, 0, none⟩) m5 c5] _ rfl rfl (keepU R7.out Z1.out) (by kernel_rfl) (by simp) rfl rfl ?_
    intro W9 hW9 o9
    simp only [Act.put]
    have K9 : Hid ((W9.cell? ⟨w.heap.size, 0, none⟩ = some (.int .i64 n) ∧ W9.cell? ⟨w.heap.size, 1, none⟩ = some (.slice (some ⟨g, 0, none⟩) m5 c5)) ∧ W9.cell? ⟨g, 0, none⟩ = some (.int .i64 y0)) := Lib.hid ⟨⟨blk_cell (o9.blk (keepU B7.out Z1.out) (by omega)) 0 rfl, blk_cell (o9.blk (keepU B7.out Z1.out) (by omega)) 1 rfl⟩, by
      have q := K1.out.2
      unfold World.cell? at q ⊢
      have e9 : W9.heap[g]? = w1.heap[g]? := o9.block g (by have := G7.out; have := Below.size Z1.out; omega) (by have := HG.out; omega)
      dsimp only at q ⊢
      rw [e9]; exact q⟩
    refine xtv 7 (h := ?_)
    refine xtv 8 (h := ?_)
    (refine xdone (by kernel_rfl) (K9.out) ?_)
    go_wp2
    exact bodyPost_ret (v := .tuple #[.agg #[.int .i64 n, .slice (some ⟨g, 0, none⟩) m5 c5], .int .i64 y0, .int .i64 0]) (res_ctt 3 4 rfl rfl hW9 uBook (by kernel_rfl)) rfl (by rw [HR.out]; exact ⟨_, _, _, rfl, ns_orB' (((N7.out.ext Z1.out).ns (G := OrB F w 2) (fun _ q => q) (fun b hb => by have hz := HZ.out; rcases hb with hb | hb; (have := hF b hb; omega); (have := hb.2; omega))).off (o9.mono fun b hb => .inr ⟨by omega, by omega⟩) (Grows.refl _ _)), ext_off (X7.out.trans Z1.out) o9 (fun b hb => by omega)⟩)
end Go.Proofs.Ytgcnjkabpcbkgaa
