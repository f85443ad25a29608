/- Layer 17, the program: time passes. -/
import Derived.Test.YtgcnjkabpcbkgaaHP9
namespace Go.Proofs.Ytgcnjkabpcbkgaa
open Go.RowKit

set_option maxRecDepth 100000 in
set_option maxHeartbeats 32000000 in
theorem sessTick_any (F : Nat → Prop) (w : World) (n hold : Int) (v : Value) (L : List Se) (h : Ns HV F w v L) (hl : L.length ≤ 1000) (hF : ∀ b, F b → b < w.heap.size) :
    Calls Try.prog 24 #[.agg #[.int .i64 n, v], .int .i64 hold] w (GivesBkN F w (tickH (n, L) hold)) := by
  obtain ⟨ao, c, rfl⟩ := h.len
  obtain ⟨W0, hW0⟩ : ∃ W0, W0 = (w.alloc (.cells #[.int .i64 n, .slice ao L.length c] 24)).alloc (.cells #[.int .i64 0, .slice none 0 0] 24) := ⟨_, rfl⟩
  have X0 : Hid (Ext w W0) := Lib.hid (hW0 ▸ ((Ext.refl w).alloc _).alloc _)
  have B0 : Hid (W0.heap[w.heap.size]? = some (.cells #[.int .i64 n, .slice ao L.length c] 24 (0, 0))) := Lib.hid (hW0 ▸ old1 (at0 w _) _)
  have R0 : Hid (W0.heap[w.heap.size + 1]? = some (.cells #[.int .i64 0, .slice none 0 0] 24 (0, 0))) := Lib.hid (hW0 ▸ at1 w _ _)
  have HZ0 : Hid (W0.heap.size = w.heap.size + 2) := Lib.hid (by rw [hW0, size_alloc, size_alloc])
  have HW0 := Lib.hid hW0
  have HS := Lib.hid (h.ext X0.out)
  have HFB : Hid (∀ V, Ext W0 V → ∀ b, OrB F w 2 b → b < V.heap.size) := Lib.hid fun V hV b hb => by
    have h1 := Below.size hV
    have h2 := HZ0.out
    rcases hb with hb | hb
    · have := hF b hb; omega
    · have := hb.2; omega
  have HK : Hid (∀ V, Ext W0 V → V.cell? ⟨w.heap.size, 0, none⟩ = some (.int .i64 n) ∧ V.cell? ⟨w.heap.size, 1, none⟩ = some (.slice ao L.length c)) := Lib.hid fun V hV => ⟨blk_cell (keepU B0.out hV) 0 rfl, blk_cell (keepU B0.out hV) 1 rfl⟩
  have RK : Hid (∀ V, Ext W0 V → V.heap[w.heap.size + 1]? = some (.cells #[.int .i64 0, .slice none 0 0] 24 (0, 0))) := Lib.hid fun V hV => keepU R0.out hV
  clear hW0
  obtain ⟨t, ht⟩ : ∃ t, chkH (n, L) = t := ⟨_, rfl⟩
  have HCK := Lib.hid (sessCheck_any _ W0 n _ L HS.out hl t ht)
  obtain ⟨k0, k1⟩ := HK.out W0 (Ext.refl _)
  clear h
  cases t
  · have HR : Hid (tickH (n, L) hold = (noH, 0, 170)) := Lib.hid (by unfold tickH; rw [if_neg (by rw [ht]; exact Bool.false_ne_true)])
    have HCC : Hid (Calls Try.prog 20 #[.agg #[.int .i64 n, .slice ao L.length c]] W0 fun e w' => e = .returned (.int .i64 170) ∧ Ext W0 w') := HCK
    clear ht HCK
    go_enter Try.func24, Try.ntmps24
    go_upto_region 1 with (fail)
    rw [← HW0.out]
    go_wp2_with (first
      | (go_at_call 20; refine (HCC.out).mono ?_; rintro e w2 ⟨rfl, x2⟩; have X2 : Hid (Ext W0 w2) := Lib.hid x2; clear x2 k0 k1; obtain ⟨d0, d1⟩ := HK.out w2 X2.out)
      | refine haltst 24 ?_)
    refine .inl ?_
    refine st_l 24 (.tmp 4) (.tmp 14) (w.heap.size + 1) 0 24 _ #[.int .i64 0, .slice none 0 0] _ rfl rfl (RK.out _ X2.out) (by kernel_rfl) (by simp) rfl rfl ?_
    intro W9 hW9 o9
    simp only [Act.put]
    go_wp2
    exact bodyPost_ret (v := .tuple #[.agg #[.int .i64 0, .slice none 0 0], .int .i64 0, .int .i64 170]) (res_ctt 5 6 rfl rfl hW9 uBook (by kernel_rfl)) rfl (givesBkN_no HR.out (ext_off (X0.out.trans X2.out) o9 (fun b hb => by omega)))
  have HCC : Hid (Calls Try.prog 20 #[.agg #[.int .i64 n, .slice ao L.length c]] W0 fun e w' => e = .returned (.int .i64 0) ∧ Ext W0 w') := HCK
  have HLS := Lib.hid (chk_needs ht)
  have HCP : Hid (∀ V, Ext W0 V → Calls Try.prog 43 #[.agg #[.int .i64 n, .slice ao L.length c]] V (GivesNew (OrB F w 2) V n L)) := Lib.hid fun V hV => copied_any (OrB F w 2) _ V n _ _ (HS.out.ext hV) hl HLS.out (HFB.out _ hV)
  clear HCK
  cases L with
  | nil =>
    have HR : Hid (tickH (n, []) hold = ((n, []), 0, 0)) := Lib.hid (by unfold tickH; rw [if_pos ht])
    clear ht
    dsimp only [List.length_nil] at *
    go_enter Try.func24, Try.ntmps24
    go_upto_region 1 with (fail)
    rw [← HW0.out]
    go_wp2_with (first
      | (go_at_call 20; refine (HCC.out).mono ?_; rintro e w2 ⟨rfl, x2⟩; have X2 : Hid (Ext W0 w2) := Lib.hid x2; clear x2 k0 k1; obtain ⟨d0, d1⟩ := HK.out w2 X2.out)
      | (go_at_call 43; refine (HCP.out w2 X2.out).mono ?_; rintro e w5 ⟨a5, m5, c5, rfl, n5, x5⟩; have N5 := Lib.hid n5; have X5 : Hid (Ext W0 w5) := Lib.hid (X2.out.trans x5); have Z5 : Hid (Ext w2 w5) := Lib.hid x5; clear n5 x5 d0 d1)
      | refine haltst 24 ?_)
    refine .inl ?_
    refine st_l 24 (.tmp 2) (.tmp 17) w.heap.size 0 24 _ #[.int .i64 n, .slice a5 m5 c5] _ rfl rfl (keepU B0.out X5.out) (by kernel_rfl) (by simp) rfl rfl ?_
    intro W6 hW6 o6
    simp only [Act.put]
    have HZ : Hid (w.heap.size + 2 ≤ w2.heap.size) := Lib.hid (by have := Below.size X2.out; have := HZ0.out; omega)
    have hz := HZ.out
    have B6 := Lib.hid hW6
    have R6 := Lib.hid (o6.blk (RK.out _ X5.out) (by omega))
    have N6 : Hid (Nw HV (OrB F w 2) W6 w2.heap.size (.slice a5 m5 c5) ([] : List Se)) := Lib.hid (N5.out.off (o6.mono fun b hb => .inr ⟨by omega, by omega⟩) (fun b hb => o6.block b (N5.out.low b hb).2 (fun e => by have := (N5.out.low b hb).1; omega)) (Grows.refl _ _))
    have X6 : Hid (Ext w W6) := Lib.hid (ext_off (X0.out.trans X5.out) o6 (fun b hb => by omega))
    clear hW6 o6 hz
    obtain rfl : m5 = 0 := by
      obtain ⟨_, _, e⟩ := N6.out.len
      simp only [Value.slice.injEq, List.length_nil] at e
      exact e.2.1
    obtain ⟨d0, d1⟩ : W6.cell? ⟨w.heap.size, 0, none⟩ = some (.int .i64 n) ∧ W6.cell? ⟨w.heap.size, 1, none⟩ = some (.slice a5 0 c5) := ⟨blk_cell B6.out 0 rfl, blk_cell B6.out 1 rfl⟩
    go_wp2_with (first
      | refine haltst 24 ?_)
    refine .inl ?_
    refine st_l 24 (.tmp 4) (.tmp 30) (w.heap.size + 1) 0 24 _ #[.int .i64 n, .slice a5 0 c5] _ rfl rfl R6.out (by kernel_rfl) (by simp) rfl rfl ?_
    intro W9 hW9 o9
    simp only [Act.put]
    go_wp2
    exact bodyPost_ret (v := .tuple #[.agg #[.int .i64 n, .slice a5 0 c5], .int .i64 0, .int .i64 0]) (res_ctt 5 6 rfl rfl hW9 uBook (by kernel_rfl)) rfl (by rw [HR.out]; exact ⟨_, _, _, rfl, ns_orB' ((N6.out.ns (G := OrB F w 2) (fun _ q => q) (fun b hb => by have hz := HZ.out; rcases hb with hb | hb; (have := hF b hb; omega); (have := hb.2; omega))).off (o9.mono fun b hb => .inr ⟨by omega, by omega⟩) (Grows.refl _ _)), ext_off X6.out o9 (fun b hb => by omega)⟩)
  | cons s l =>
    obtain ⟨y0, y1, y2, y3⟩ := s
    obtain ⟨q, hq⟩ : ∃ q, decide (y2 = 1) = q := ⟨_, rfl⟩
    have HGR := Lib.hid hq
    have hlm : ((⟨y0, y1, 1, y3⟩ : Se) :: l).length ≤ 1000 := hl
    obtain ⟨m, hm⟩ : ∃ m, m = ((⟨y0, y1, y2, y3⟩ : Se) :: l).length := ⟨_, rfl⟩
    rw [← hm] at HW0 HK HCC HCP B0 k1 ⊢
    have HSS : Hid (SS ((⟨y0, y1, y2, y3⟩ : Se) :: l |>.map Se.id)) := Lib.hid (okH_iff.1 ht).rise
    have HAG : Hid (0 ≤ y3) := Lib.hid ((chk_at.1 ht).2.2 0 _ rfl).age
    clear hm
    cases q
    · have HR : Hid (tickH (n, ⟨y0, y1, y2, y3⟩ :: l) hold = ((n, ⟨y0, y1, y2, y3⟩ :: l), 0, 0)) := Lib.hid (by unfold tickH; rw [if_pos ht]; dsimp only; rw [if_neg (of_decide_eq_false hq)])
      clear ht hq
      go_enter Try.func24, Try.ntmps24
      go_upto_region 1 with (fail)
      rw [← HW0.out]
      go_wp2_with (first
        | (go_at_call 20; refine (HCC.out).mono ?_; rintro e w2 ⟨rfl, x2⟩; have X2 : Hid (Ext W0 w2) := Lib.hid x2; clear x2 k0 k1; obtain ⟨d0, d1⟩ := HK.out w2 X2.out)
        | (go_at_call 43; refine (HCP.out w2 X2.out).mono ?_; rintro e w5 ⟨a5, m5, c5, rfl, n5, x5⟩; have N5 := Lib.hid n5; have X5 : Hid (Ext W0 w5) := Lib.hid (X2.out.trans x5); have Z5 : Hid (Ext w2 w5) := Lib.hid x5; clear n5 x5 d0 d1)
        | refine haltst 24 ?_)
      refine .inl ?_
      refine st_l 24 (.tmp 2) (.tmp 17) w.heap.size 0 24 _ #[.int .i64 n, .slice a5 m5 c5] _ rfl rfl (keepU B0.out X5.out) (by kernel_rfl) (by simp) rfl rfl ?_
      intro W6 hW6 o6
      simp only [Act.put]
      have HZ : Hid (w.heap.size + 2 ≤ w2.heap.size) := Lib.hid (by have := Below.size X2.out; have := HZ0.out; omega)
      have hz := HZ.out
      have B6 := Lib.hid hW6
      have R6 := Lib.hid (o6.blk (RK.out _ X5.out) (by omega))
      have N6 : Hid (Nw HV (OrB F w 2) W6 w2.heap.size (.slice a5 m5 c5) (⟨y0, y1, y2, y3⟩ :: l)) := Lib.hid (N5.out.off (o6.mono fun b hb => .inr ⟨by omega, by omega⟩) (fun b hb => o6.block b (N5.out.low b hb).2 (fun e => by have := (N5.out.low b hb).1; omega)) (Grows.refl _ _))
      have X6 : Hid (Ext w W6) := Lib.hid (ext_off (X0.out.trans X5.out) o6 (fun b hb => by omega))
      clear hW6 o6 hz
      obtain ⟨g, so6, sn6, sc6, rfl, hg1, hg2, hm5, hm6, hm7, ⟨⟨i0, i1⟩, i2, i3⟩, hfr, hsl6, _, _⟩ := N6.out.first
      dsimp only at i0 i1 i2 i3 hsl6
      have HSL6 := Lib.hid hsl6
      have hn1 : (0 : Int) < (m5 : Int) := by omega
      have hn0 : ((m5 : Int) == 0) = false := by rw [beq_eq_false_iff_ne]; omega
      clear hfr hsl6 hg1 hg2 hm5
      obtain ⟨d0, d1⟩ : W6.cell? ⟨w.heap.size, 0, none⟩ = some (.int .i64 n) ∧ W6.cell? ⟨w.heap.size, 1, none⟩ = some (.slice (some ⟨g, 0, none⟩) m5 c5) := ⟨blk_cell B6.out 0 rfl, blk_cell B6.out 1 rfl⟩
      go_wp2_with (first
        | (go_at_call 42; refine (granted_any W6 y0 y2 y3 _ y1 HSL6.out _ HGR.out).mono ?_; rintro e w8 ⟨rfl, x8⟩; have X8 : Hid (Ext W6 w8) := Lib.hid x8; clear x8 d0 d1 i0 i1 i2 i3; obtain ⟨d0, d1⟩ : w8.cell? ⟨w.heap.size, 0, none⟩ = some (.int .i64 n) ∧ w8.cell? ⟨w.heap.size, 1, none⟩ = some (.slice (some ⟨g, 0, none⟩) m5 c5) := ⟨blk_cell (keepU B6.out X8.out) 0 rfl, blk_cell (keepU B6.out X8.out) 1 rfl⟩)
        | refine haltst 24 ?_)
      refine .inl ?_
      refine st_l 24 (.tmp 4) (.tmp 30) (w.heap.size + 1) 0 24 _ #[.int .i64 n, .slice (some ⟨g, 0, none⟩) m5 c5] _ rfl rfl (keepU R6.out X8.out) (by kernel_rfl) (by simp) rfl rfl ?_
      intro W9 hW9 o9
      simp only [Act.put]
      go_wp2
      exact bodyPost_ret (v := .tuple #[.agg #[.int .i64 n, .slice (some ⟨g, 0, none⟩) m5 c5], .int .i64 0, .int .i64 0]) (res_ctt 5 6 rfl rfl hW9 uBook (by kernel_rfl)) rfl (by rw [HR.out]; exact ⟨_, _, _, rfl, ns_orB' (((N6.out.ext X8.out).ns (G := OrB F w 2) (fun _ q => q) (fun b hb => by have hz := HZ.out; rcases hb with hb | hb; (have := hF b hb; omega); (have := hb.2; omega))).off (o9.mono fun b hb => .inr ⟨by omega, by omega⟩) (Grows.refl _ _)), ext_off (X6.out.trans X8.out) o9 (fun b hb => by omega)⟩)
    obtain rfl : y2 = 1 := of_decide_eq_true hq
    have HTK : Hid (tickH (n, ⟨y0, y1, 1, y3⟩ :: l) hold = if hold ≤ olderH y3 then ((n, l), y0, 0) else ((n, ⟨y0, y1, 1, olderH y3⟩ :: l), 0, 0)) := Lib.hid (by unfold tickH; rw [if_pos ht]; dsimp only; rw [if_pos rfl])
    have HFL : Hid (∀ a : Int, (((⟨y0, y1, 1, a⟩ : Se) :: l).filter fun s => !(s.id == y0)) = l) := Lib.hid fun a => filter_id (L := (⟨y0, y1, 1, a⟩ : Se) :: l) (k := 0) HSS.out (by unfold atH; rw [List.findIdx?_cons, if_pos (by simp)])
    have HLS7 : Hid (∀ a : Int, ∀ s ∈ (⟨y0, y1, 1, a⟩ : Se) :: l, s.need.length ≤ 1000) := Lib.hid fun a s hs => by
      rcases List.mem_cons.1 hs with rfl | q
      · exact HLS.out ⟨y0, y1, 1, y3⟩ (List.mem_cons_self ..)
      · exact HLS.out s (List.mem_cons_of_mem _ q)
    clear ht hq
    go_enter Try.func24, Try.ntmps24
    go_upto_region 1 with (fail)
    rw [← HW0.out]
    go_wp2_with (first
      | (go_at_call 20; refine (HCC.out).mono ?_; rintro e w2 ⟨rfl, x2⟩; have X2 : Hid (Ext W0 w2) := Lib.hid x2; clear x2 k0 k1; obtain ⟨d0, d1⟩ := HK.out w2 X2.out)
      | (go_at_call 43; refine (HCP.out w2 X2.out).mono ?_; rintro e w5 ⟨a5, m5, c5, rfl, n5, x5⟩; have N5 := Lib.hid n5; have X5 : Hid (Ext W0 w5) := Lib.hid (X2.out.trans x5); have Z5 : Hid (Ext w2 w5) := Lib.hid x5; clear n5 x5 d0 d1)
      | refine haltst 24 ?_)
    refine .inl ?_
    refine st_l 24 (.tmp 2) (.tmp 17) w.heap.size 0 24 _ #[.int .i64 n, .slice a5 m5 c5] _ rfl rfl (keepU B0.out X5.out) (by kernel_rfl) (by simp) rfl rfl ?_
    intro W6 hW6 o6
    simp only [Act.put]
    have HZ : Hid (w.heap.size + 2 ≤ w2.heap.size) := Lib.hid (by have := Below.size X2.out; have := HZ0.out; omega)
    have hz := HZ.out
    have B6 := Lib.hid hW6
    have R6 := Lib.hid (o6.blk (RK.out _ X5.out) (by omega))
    have N6 : Hid (Nw HV (OrB F w 2) W6 w2.heap.size (.slice a5 m5 c5) (⟨y0, y1, 1, y3⟩ :: l)) := Lib.hid (N5.out.off (o6.mono fun b hb => .inr ⟨by omega, by omega⟩) (fun b hb => o6.block b (N5.out.low b hb).2 (fun e => by have := (N5.out.low b hb).1; omega)) (Grows.refl _ _))
    have X6 : Hid (Ext w W6) := Lib.hid (ext_off (X0.out.trans X5.out) o6 (fun b hb => by omega))
    clear hW6 o6 hz
    obtain ⟨g, so6, sn6, sc6, rfl, hg1, hg2, hm5, hm6, hm7, ⟨⟨i0, i1⟩, i2, i3⟩, hfr, hsl6, _, _⟩ := N6.out.first
    dsimp only at i0 i1 i2 i3 hsl6
    have HSL6 := Lib.hid hsl6
    have HG : Hid (w.heap.size + 2 ≤ g ∧ g < W6.heap.size) := Lib.hid ⟨by have := HZ.out; omega, hg2⟩
    have hn1 : (0 : Int) < (m5 : Int) := by omega
    have hn0 : ((m5 : Int) == 0) = false := by rw [beq_eq_false_iff_ne]; omega
    clear hfr hsl6 hg1 hg2 hm5
    obtain ⟨d0, d1⟩ : W6.cell? ⟨w.heap.size, 0, none⟩ = some (.int .i64 n) ∧ W6.cell? ⟨w.heap.size, 1, none⟩ = some (.slice (some ⟨g, 0, none⟩) m5 c5) := ⟨blk_cell B6.out 0 rfl, blk_cell B6.out 1 rfl⟩
    go_upto_region 8 with (first
      | (go_at_call 42; refine (granted_any W6 y0 1 y3 _ y1 HSL6.out _ HGR.out).mono ?_; rintro e w8 ⟨rfl, x8⟩; have X8 : Hid (Ext W6 w8) := Lib.hid x8; clear x8 d0 d1 i0 i1 i2 i3; obtain ⟨d0, d1⟩ : w8.cell? ⟨w.heap.size, 0, none⟩ = some (.int .i64 n) ∧ w8.cell? ⟨w.heap.size, 1, none⟩ = some (.slice (some ⟨g, 0, none⟩) m5 c5) := ⟨blk_cell (keepU B6.out X8.out) 0 rfl, blk_cell (keepU B6.out X8.out) 1 rfl⟩))
    have N8 := Lib.hid (N6.out.ext X8.out)
    obtain ⟨g', so8, sn8, sc8, e', hg8, hh8, hm8, hm81, hm82, ⟨⟨q0, q1⟩, q2, q3⟩, hfr8, hs8, hst82, hst8⟩ := N8.out.first
    simp only [Option.some.injEq, Addr.mk.injEq] at e'
    obtain ⟨rfl, _⟩ := e'
    dsimp only at q3 hst8
    have fz := hfr8 3 (by decide)
    have B8 := Lib.hid (keepU B6.out X8.out)
    have R8 := Lib.hid (keepU R6.out X8.out)
    have XW8 : Hid (Ext w w8) := Lib.hid (X6.out.trans X8.out)
    have HST := Lib.hid (hst8 (y3 + 1))
    clear hfr8 hst8 q0 d0 d1 hg8 hh8 hm8 hm81 hm82 q1 q2 hs8 hst82
    by_cases hlt : y3 < 4611686018427387904
    · obtain ⟨a7, ha7⟩ : ∃ a, a = y3 + 1 := ⟨_, rfl⟩
      have hold' : olderH y3 = a7 := by unfold olderH; rw [if_pos hlt, ha7]
      rw [hold'] at HTK
      have hwx : IntKind.i64.wrap (y3 + 1) = a7 := by rw [ha7]; exact wrapN _ (by have := HAG.out; omega) (by omega)
      rw [← ha7] at HST
      have HFL := Lib.hid (HFL.out a7)
      have HLS7 := Lib.hid (HLS7.out a7)
      clear hold' ha7
      go_upto_region 10 with (fail)
      obtain ⟨W7, hW7⟩ : ∃ q, q = w8.setCell ⟨g, 3, none⟩ (.int .i64 a7) := ⟨_, rfl⟩
      have o7 : Off (fun k => k = g) w8 W7 := hW7 ▸ off_set w8 ⟨g, 3, none⟩ _
      have N7 : Hid (Nw HV (OrB F w 2) W7 w2.heap.size (.slice (some ⟨g, 0, none⟩) m5 c5) (⟨y0, y1, 1, a7⟩ :: l)) := Lib.hid (hW7 ▸ HST.out)
      have B7 := Lib.hid (o7.blk B8.out (by have := HG.out; omega))
      have R7 := Lib.hid (o7.blk R8.out (by have := HG.out; omega))
      have X7 : Hid (Ext w W7) := Lib.hid (ext_off XW8.out o7 (fun b hb => by have := HG.out; omega))
      rw [← hW7]
      clear hW7 o7 q3 fz hwx hlt
      have N7L := Lib.hid (N7.out.low g rfl)
      have I7 : Hid (W7.cell? ⟨g, 0, none⟩ = some (.int .i64 y0) ∧ W7.cell? ⟨g, 3, none⟩ = some (.int .i64 a7)) := Lib.hid (by
        obtain ⟨g', _, _, _, e', _, _, _, _, _, ⟨⟨q0, _⟩, _, q3⟩, _⟩ := N7.out.first
        simp only [Option.some.injEq, Addr.mk.injEq] at e'
        obtain ⟨rfl, _⟩ := e'
        exact ⟨q0, q3⟩)
      obtain ⟨i0, i3⟩ := I7.out
      obtain ⟨d0, d1⟩ : W7.cell? ⟨w.heap.size, 0, none⟩ = some (.int .i64 n) ∧ W7.cell? ⟨w.heap.size, 1, none⟩ = some (.slice (some ⟨g, 0, none⟩) m5 c5) := ⟨blk_cell B7.out 0 rfl, blk_cell B7.out 1 rfl⟩
      by_cases hh : a7 < hold
      · have HR : Hid (tickH (n, ⟨y0, y1, 1, y3⟩ :: l) hold = ((n, ⟨y0, y1, 1, a7⟩ :: l), 0, 0)) := Lib.hid (by rw [HTK.out, if_neg (by omega)])
        go_wp2_with (first
          | refine haltst 24 ?_)
        refine .inl ?_
        refine st_l 24 (.tmp 4) (.tmp 52) (w.heap.size + 1) 0 24 _ #[.int .i64 n, .slice (some ⟨g, 0, none⟩) m5 c5] _ rfl rfl R7.out (by kernel_rfl) (by simp) rfl rfl ?_
        intro W9 hW9 o9
        simp only [Act.put]
        go_wp2
        exact bodyPost_ret (v := .tuple #[.agg #[.int .i64 n, .slice (some ⟨g, 0, none⟩) m5 c5], .int .i64 0, .int .i64 0]) (res_ctt 5 6 rfl rfl hW9 uBook (by kernel_rfl)) rfl (by rw [HR.out]; exact ⟨_, _, _, rfl, ns_orB' ((N7.out.ns (G := OrB F w 2) (fun _ q => q) (fun b hb => by have hz := HZ.out; rcases hb with hb | hb; (have := hF b hb; omega); (have := hb.2; omega))).off (o9.mono fun b hb => .inr ⟨by omega, by omega⟩) (Grows.refl _ _)), ext_off X7.out o9 (fun b hb => by omega)⟩)
      have HR : Hid (tickH (n, ⟨y0, y1, 1, y3⟩ :: l) hold = ((n, l), y0, 0)) := Lib.hid (by rw [HTK.out, if_pos (by omega)])
      have hh2 : hold ≤ a7 := by omega
      clear hh
      go_upto_region 13 with (fail)
      clear i0 i3 d0 d1
      (refine wp_region_Y_lit (K := fun V => Ext W7 V) 7 (by kernel_rfl) (fun w1 hw1 => ?_))
      have Y1 : Hid (Ext W7 w1) := Lib.hid hw1
      clear hw1
      refine ytv 0 (hv := by intro w' hw'; obtain ⟨c0, c1⟩ : w'.cell? ⟨w.heap.size, 0, none⟩ = some (.int .i64 n) ∧ w'.cell? ⟨w.heap.size, 1, none⟩ = some (.slice (some ⟨g, 0, none⟩) m5 c5) := ⟨blk_cell (keepU B7.out hw') 0 rfl, blk_cell (keepU B7.out hw') 1 rfl⟩; go_simp; first | done | with_reducible rfl) (h := ?_)
      refine ytv 1 (h := ?_)
      refine yone 2 (hk := Y1.out) (h := RunY.of 2 (h := ?_))
      go_simp
      refine (of_any w1 y0).mono ?_
      rintro e3 wo ⟨gf, lb, rfl, ht, x3⟩
      have HTE := Lib.hid ht
      have Y3 : Hid (Ext W7 wo) := Lib.hid (Y1.out.trans x3)
      clear ht x3
      dsimp only
      (try (simp only [Act.put, List.setIfInBounds_toArray, List.set]))
      refine yone 3 (hk := Y3.out) (h := RunY.of 3 (h := ?_))
      go_simp
      refine (without_any (OrB F w 2) Non wo n _ _ (⟨y0, y1, 1, a7⟩ :: l) _ (((N7.out.ns (G := Non) (fun _ q => q.elim) (fun _ q => q.elim)).ext Y3.out)) HTE.out hlm HLS7.out (fun b hb => by have h1 := Below.size Y3.out; have h2 := N7L.out; have hz := HZ.out; rcases hb with hb | hb; (have := hF b hb; omega); (have := hb.2; omega))).mono ?_
      rintro e4 w4 ⟨a4, m4, c4, b4, i4, j4, rfl, n4, _, x4⟩
      rw [HFL.out] at n4
      have N4 : Hid (Nw HV (OrB F w 2) w4 (w.heap.size + 2) (.slice a4 m4 c4) l) := Lib.hid (n4.mono (by have h1 := Below.size Y3.out; have h2 := N7L.out; have hz := HZ.out; omega))
      have Y4 : Hid (Ext W7 w4) := Lib.hid (Y3.out.trans x4)
      clear n4 x4
      dsimp only
      (try (simp only [Act.put, List.setIfInBounds_toArray, List.set]))
      refine ytv 4 (h := ?_)
      refine ytv 5 (h := ?_)
      refine ytwo 6 7 (hk := Y4.out) (h := RunY.of 6 (h := ?_)) (h' := RunY.of 7 (h := ?_))
      · go_simp
        (try (simp only [Act.put, List.setIfInBounds_toArray, List.set]))
        refine yone 7 (hk := Y4.out) (h := RunY.of 7 (h := ?_))
        refine wp_st 24 (.tmp 2) (.tmp 62) rfl w.heap.size 0 24 #[.int .i64 n, .slice (some ⟨g, 0, none⟩) m5 c5] #[.int .i64 n, .slice a4 m4 c4] _ rfl rfl (keepU B7.out Y4.out) (by kernel_rfl) (by simp) rfl rfl ?_
        intro Wt hWt ot
        simp only [Act.put]
        have Bt := Lib.hid hWt
        have Rt := Lib.hid (ot.blk (keepU R7.out Y4.out) (by omega))
        have Nt : Hid (Nw HV (OrB F w 2) Wt (w.heap.size + 2) (.slice a4 m4 c4) l) := Lib.hid (N4.out.off (ot.mono fun b hb => .inr ⟨by omega, by omega⟩) (fun b hb => ot.block b (N4.out.low b hb).2 (fun e => by have := (N4.out.low b hb).1; omega)) (Grows.refl _ _))
        have Xt : Hid (Ext w Wt) := Lib.hid (ext_off (X7.out.trans Y4.out) ot (fun b hb => by omega))
        clear hWt ot
        skip
        (refine ydone (by kernel_rfl) (h := ?_))
        obtain ⟨d0, d3⟩ : Wt.cell? ⟨w.heap.size, 0, none⟩ = some (.int .i64 n) ∧ Wt.cell? ⟨w.heap.size, 1, none⟩ = some (.slice a4 m4 c4) := ⟨blk_cell Bt.out 0 rfl, blk_cell Bt.out 1 rfl⟩
        go_wp2_with (first
          | refine haltst 24 ?_)
        refine .inl ?_
        refine st_l 24 (.tmp 4) (.tmp 64) (w.heap.size + 1) 0 24 _ #[.int .i64 n, .slice a4 m4 c4] _ rfl rfl Rt.out (by kernel_rfl) (by simp) rfl rfl ?_
        intro W9 hW9 o9
        simp only [Act.put]
        go_wp2
        exact bodyPost_ret (v := .tuple #[.agg #[.int .i64 n, .slice a4 m4 c4], .int .i64 y0, .int .i64 0]) (res_ctt 5 6 rfl rfl hW9 uBook (by kernel_rfl)) rfl (by rw [HR.out]; exact ⟨_, _, _, rfl, ns_orB' ((Nt.out.ns (G := OrB F w 2) (fun _ q => q) (fun b hb => by have hz := HZ.out; rcases hb with hb | hb; (have := hF b hb; omega); (have := hb.2; omega))).off (o9.mono fun b hb => .inr ⟨by omega, by omega⟩) (Grows.refl _ _)), ext_off Xt.out o9 (fun b hb => by omega)⟩)
      · refine wp_st 24 (.tmp 2) (.tmp 62) rfl w.heap.size 0 24 #[.int .i64 n, .slice (some ⟨g, 0, none⟩) m5 c5] #[.int .i64 n, .slice a4 m4 c4] _ rfl rfl (keepU B7.out Y4.out) (by kernel_rfl) (by simp) rfl rfl ?_
        intro Wt hWt ot
        simp only [Act.put]
        have Bt := Lib.hid hWt
        have Rt := Lib.hid (ot.blk (keepU R7.out Y4.out) (by omega))
        have Nt : Hid (Nw HV (OrB F w 2) Wt (w.heap.size + 2) (.slice a4 m4 c4) l) := Lib.hid (N4.out.off (ot.mono fun b hb => .inr ⟨by omega, by omega⟩) (fun b hb => ot.block b (N4.out.low b hb).2 (fun e => by have := (N4.out.low b hb).1; omega)) (Grows.refl _ _))
        have Xt : Hid (Ext w Wt) := Lib.hid (ext_off (X7.out.trans Y4.out) ot (fun b hb => by omega))
        clear hWt ot
        refine ylate 6 (h := RunY.of 6 (h := ?_))
        go_simp
        (try (simp only [Act.put, List.setIfInBounds_toArray, List.set]))
        (refine ydone (by kernel_rfl) (h := ?_))
        obtain ⟨d0, d3⟩ : Wt.cell? ⟨w.heap.size, 0, none⟩ = some (.int .i64 n) ∧ Wt.cell? ⟨w.heap.size, 1, none⟩ = some (.slice a4 m4 c4) := ⟨blk_cell Bt.out 0 rfl, blk_cell Bt.out 1 rfl⟩
        go_wp2_with (first
          | refine haltst 24 ?_)
        refine .inl ?_
        refine st_l 24 (.tmp 4) (.tmp 64) (w.heap.size + 1) 0 24 _ #[.int .i64 n, .slice a4 m4 c4] _ rfl rfl Rt.out (by kernel_rfl) (by simp) rfl rfl ?_
        intro W9 hW9 o9
        simp only [Act.put]
        go_wp2
        exact bodyPost_ret (v := .tuple #[.agg #[.int .i64 n, .slice a4 m4 c4], .int .i64 y0, .int .i64 0]) (res_ctt 5 6 rfl rfl hW9 uBook (by kernel_rfl)) rfl (by rw [HR.out]; exact ⟨_, _, _, rfl, ns_orB' ((Nt.out.ns (G := OrB F w 2) (fun _ q => q) (fun b hb => by have hz := HZ.out; rcases hb with hb | hb; (have := hF b hb; omega); (have := hb.2; omega))).off (o9.mono fun b hb => .inr ⟨by omega, by omega⟩) (Grows.refl _ _)), ext_off Xt.out o9 (fun b hb => by omega)⟩)
    · obtain ⟨a7, ha7⟩ : ∃ a, a = y3 := ⟨_, rfl⟩
      have hold' : olderH y3 = a7 := by unfold olderH; rw [if_neg hlt, ha7]
      rw [hold'] at HTK
      have HFL := Lib.hid (HFL.out a7)
      have HLS7 := Lib.hid (HLS7.out a7)
      obtain ⟨W7, hW7⟩ : ∃ q, q = w8 := ⟨_, rfl⟩
      have N7 : Hid (Nw HV (OrB F w 2) W7 w2.heap.size (.slice (some ⟨g, 0, none⟩) m5 c5) (⟨y0, y1, 1, a7⟩ :: l)) := Lib.hid (by rw [hW7, ha7]; exact N8.out)
      have B7 : Hid (W7.heap[w.heap.size]? = some (.cells #[.int .i64 n, .slice (some ⟨g, 0, none⟩) m5 c5] 24 (0, 0))) := Lib.hid (by rw [hW7]; exact B8.out)
      have R7 : Hid (W7.heap[w.heap.size + 1]? = some (.cells #[.int .i64 0, .slice none 0 0] 24 (0, 0))) := Lib.hid (by rw [hW7]; exact R8.out)
      have X7 : Hid (Ext w W7) := Lib.hid (by rw [hW7]; exact XW8.out)
      clear hold' ha7
      go_upto_region 10 with (fail)
      rw [← hW7]
      clear hW7 q3 fz hlt
      have N7L := Lib.hid (N7.out.low g rfl)
      have I7 : Hid (W7.cell? ⟨g, 0, none⟩ = some (.int .i64 y0) ∧ W7.cell? ⟨g, 3, none⟩ = some (.int .i64 a7)) := Lib.hid (by
        obtain ⟨g', _, _, _, e', _, _, _, _, _, ⟨⟨q0, _⟩, _, q3⟩, _⟩ := N7.out.first
        simp only [Option.some.injEq, Addr.mk.injEq] at e'
        obtain ⟨rfl, _⟩ := e'
        exact ⟨q0, q3⟩)
      obtain ⟨i0, i3⟩ := I7.out
      obtain ⟨d0, d1⟩ : W7.cell? ⟨w.heap.size, 0, none⟩ = some (.int .i64 n) ∧ W7.cell? ⟨w.heap.size, 1, none⟩ = some (.slice (some ⟨g, 0, none⟩) m5 c5) := ⟨blk_cell B7.out 0 rfl, blk_cell B7.out 1 rfl⟩
      by_cases hh : a7 < hold
      · have HR : Hid (tickH (n, ⟨y0, y1, 1, y3⟩ :: l) hold = ((n, ⟨y0, y1, 1, a7⟩ :: l), 0, 0)) := Lib.hid (by rw [HTK.out, if_neg (by omega)])
        go_wp2_with (first
          | refine haltst 24 ?_)
        refine .inl ?_
        refine st_l 24 (.tmp 4) (.tmp 52) (w.heap.size + 1) 0 24 _ #[.int .i64 n, .slice (some ⟨g, 0, none⟩) m5 c5] _ rfl rfl R7.out (by kernel_rfl) (by simp) rfl rfl ?_
        intro W9 hW9 o9
        simp only [Act.put]
        go_wp2
        exact bodyPost_ret (v := .tuple #[.agg #[.int .i64 n, .slice (some ⟨g, 0, none⟩) m5 c5], .int .i64 0, .int .i64 0]) (res_ctt 5 6 rfl rfl hW9 uBook (by kernel_rfl)) rfl (by rw [HR.out]; exact ⟨_, _, _, rfl, ns_orB' ((N7.out.ns (G := OrB F w 2) (fun _ q => q) (fun b hb => by have hz := HZ.out; rcases hb with hb | hb; (have := hF b hb; omega); (have := hb.2; omega))).off (o9.mono fun b hb => .inr ⟨by omega, by omega⟩) (Grows.refl _ _)), ext_off X7.out o9 (fun b hb => by omega)⟩)
      have HR : Hid (tickH (n, ⟨y0, y1, 1, y3⟩ :: l) hold = ((n, l), y0, 0)) := Lib.hid (by rw [HTK.out, if_pos (by omega)])
      have hh2 : hold ≤ a7 := by omega
      clear hh
      go_upto_region 13 with (fail)
      clear i0 i3 d0 d1
      (refine wp_region_Y_lit (K := fun V => Ext W7 V) 7 (by kernel_rfl) (fun w1 hw1 => ?_))
      have Y1 : Hid (Ext W7 w1) := Lib.hid hw1
      clear hw1
      refine ytv 0 (hv := by intro w' hw'; obtain ⟨c0, c1⟩ : w'.cell? ⟨w.heap.size, 0, none⟩ = some (.int .i64 n) ∧ w'.cell? ⟨w.heap.size, 1, none⟩ = some (.slice (some ⟨g, 0, none⟩) m5 c5) := ⟨blk_cell (keepU B7.out hw') 0 rfl, blk_cell (keepU B7.out hw') 1 rfl⟩; go_simp; first | done | with_reducible rfl) (h := ?_)
      refine ytv 1 (h := ?_)
      refine yone 2 (hk := Y1.out) (h := RunY.of 2 (h := ?_))
      go_simp
      refine (of_any w1 y0).mono ?_
      rintro e3 wo ⟨gf, lb, rfl, ht, x3⟩
      have HTE := Lib.hid ht
      have Y3 : Hid (Ext W7 wo) := Lib.hid (Y1.out.trans x3)
      clear ht x3
      dsimp only
      (try (simp only [Act.put, List.setIfInBounds_toArray, List.set]))
      refine yone 3 (hk := Y3.out) (h := RunY.of 3 (h := ?_))
      go_simp
      refine (without_any (OrB F w 2) Non wo n _ _ (⟨y0, y1, 1, a7⟩ :: l) _ (((N7.out.ns (G := Non) (fun _ q => q.elim) (fun _ q => q.elim)).ext Y3.out)) HTE.out hlm HLS7.out (fun b hb => by have h1 := Below.size Y3.out; have h2 := N7L.out; have hz := HZ.out; rcases hb with hb | hb; (have := hF b hb; omega); (have := hb.2; omega))).mono ?_
      rintro e4 w4 ⟨a4, m4, c4, b4, i4, j4, rfl, n4, _, x4⟩
      rw [HFL.out] at n4
      have N4 : Hid (Nw HV (OrB F w 2) w4 (w.heap.size + 2) (.slice a4 m4 c4) l) := Lib.hid (n4.mono (by have h1 := Below.size Y3.out; have h2 := N7L.out; have hz := HZ.out; omega))
      have Y4 : Hid (Ext W7 w4) := Lib.hid (Y3.out.trans x4)
      clear n4 x4
      dsimp only
      (try (simp only [Act.put, List.setIfInBounds_toArray, List.set]))
      refine ytv 4 (h := ?_)
      refine ytv 5 (h := ?_)
      refine ytwo 6 7 (hk := Y4.out) (h := RunY.of 6 (h := ?_)) (h' := RunY.of 7 (h := ?_))
      · go_simp
        (try (simp only [Act.put, List.setIfInBounds_toArray, List.set]))
        refine yone 7 (hk := Y4.out) (h := RunY.of 7 (h := ?_))
        refine wp_st 24 (.tmp 2) (.tmp 62) rfl w.heap.size 0 24 #[.int .i64 n, .slice (some ⟨g, 0, none⟩) m5 c5] #[.int .i64 n, .slice a4 m4 c4] _ rfl rfl (keepU B7.out Y4.out) (by kernel_rfl) (by simp) rfl rfl ?_
        intro Wt hWt ot
        simp only [Act.put]
        have Bt := Lib.hid hWt
        have Rt := Lib.hid (ot.blk (keepU R7.out Y4.out) (by omega))
        have Nt : Hid (Nw HV (OrB F w 2) Wt (w.heap.size + 2) (.slice a4 m4 c4) l) := Lib.hid (N4.out.off (ot.mono fun b hb => .inr ⟨by omega, by omega⟩) (fun b hb => ot.block b (N4.out.low b hb).2 (fun e => by have := (N4.out.low b hb).1; omega)) (Grows.refl _ _))
        have Xt : Hid (Ext w Wt) := Lib.hid (ext_off (X7.out.trans Y4.out) ot (fun b hb => by omega))
        clear hWt ot
        skip
        (refine ydone (by kernel_rfl) (h := ?_))
        obtain ⟨d0, d3⟩ : Wt.cell? ⟨w.heap.size, 0, none⟩ = some (.int .i64 n) ∧ Wt.cell? ⟨w.heap.size, 1, none⟩ = some (.slice a4 m4 c4) := ⟨blk_cell Bt.out 0 rfl, blk_cell Bt.out 1 rfl⟩
        go_wp2_with (first
          | refine haltst 24 ?_)
        refine .inl ?_
        refine st_l 24 (.tmp 4) (.tmp 64) (w.heap.size + 1) 0 24 _ #[.int .i64 n, .slice a4 m4 c4] _ rfl rfl Rt.out (by kernel_rfl) (by simp) rfl rfl ?_
        intro W9 hW9 o9
        simp only [Act.put]
        go_wp2
        exact bodyPost_ret (v := .tuple #[.agg #[.int .i64 n, .slice a4 m4 c4], .int .i64 y0, .int .i64 0]) (res_ctt 5 6 rfl rfl hW9 uBook (by kernel_rfl)) rfl (by rw [HR.out]; exact ⟨_, _, _, rfl, ns_orB' ((Nt.out.ns (G := OrB F w 2) (fun _ q => q) (fun b hb => by have hz := HZ.out; rcases hb with hb | hb; (have := hF b hb; omega); (have := hb.2; omega))).off (o9.mono fun b hb => .inr ⟨by omega, by omega⟩) (Grows.refl _ _)), ext_off Xt.out o9 (fun b hb => by omega)⟩)
      · refine wp_st 24 (.tmp 2) (.tmp 62) rfl w.heap.size 0 24 #[.int .i64 n, .slice (some ⟨g, 0, none⟩) m5 c5] #[.int .i64 n, .slice a4 m4 c4] _ rfl rfl (keepU B7.out Y4.out) (by kernel_rfl) (by simp) rfl rfl ?_
        intro Wt hWt ot
        simp only [Act.put]
        have Bt := Lib.hid hWt
        have Rt := Lib.hid (ot.blk (keepU R7.out Y4.out) (by omega))
        have Nt : Hid (Nw HV (OrB F w 2) Wt (w.heap.size + 2) (.slice a4 m4 c4) l) := Lib.hid (N4.out.off (ot.mono fun b hb => .inr ⟨by omega, by omega⟩) (fun b hb => ot.block b (N4.out.low b hb).2 (fun e => by have := (N4.out.low b hb).1; omega)) (Grows.refl _ _))
        have Xt : Hid (Ext w Wt) := Lib.hid (ext_off (X7.out.trans Y4.out) ot (fun b hb => by omega))
        clear hWt ot
        refine ylate 6 (h := RunY.of 6 (h := ?_))
        go_simp
        (try (simp only [Act.put, List.setIfInBounds_toArray, List.set]))
        (refine ydone (by kernel_rfl) (h := ?_))
        obtain ⟨d0, d3⟩ : Wt.cell? ⟨w.heap.size, 0, none⟩ = some (.int .i64 n) ∧ Wt.cell? ⟨w.heap.size, 1, none⟩ = some (.slice a4 m4 c4) := ⟨blk_cell Bt.out 0 rfl, blk_cell Bt.out 1 rfl⟩
        go_wp2_with (first
          | refine haltst 24 ?_)
        refine .inl ?_
        refine st_l 24 (.tmp 4) (.tmp 64) (w.heap.size + 1) 0 24 _ #[.int .i64 n, .slice a4 m4 c4] _ rfl rfl Rt.out (by kernel_rfl) (by simp) rfl rfl ?_
        intro W9 hW9 o9
        simp only [Act.put]
        go_wp2
        exact bodyPost_ret (v := .tuple #[.agg #[.int .i64 n, .slice a4 m4 c4], .int .i64 y0, .int .i64 0]) (res_ctt 5 6 rfl rfl hW9 uBook (by kernel_rfl)) rfl (by rw [HR.out]; exact ⟨_, _, _, rfl, ns_orB' ((Nt.out.ns (G := OrB F w 2) (fun _ q => q) (fun b hb => by have hz := HZ.out; rcases hb with hb | hb; (have := hF b hb; omega); (have := hb.2; omega))).off (o9.mono fun b hb => .inr ⟨by omega, by omega⟩) (Grows.refl _ _)), ext_off Xt.out o9 (fun b hb => by omega)⟩)
end Go.Proofs.Ytgcnjkabpcbkgaa
