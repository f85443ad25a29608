/- Layer 17: SessHeld. -/
import Derived.Test.YtgcnjkabpcbkgaaHW
import Derived.Test.YtgcnjkabpcbkgaaH4
namespace Go.Proofs.Ytgcnjkabpcbkgaa
open Go.RowKit

theorem held_poll {l : Int} {s : Se} {t : List Se} (h : OkH (l, s :: t)) {i : Int} (hi : 0 ≤ i) : pollH (heldH l s t i) s.id = (1, 0) := by
  unfold pollH
  rw [if_pos (okH_iff.2 (heldH_ok h hi))]
  unfold heldH atH
  simp [List.findIdx?_cons]

set_option maxRecDepth 100000 in
set_option maxHeartbeats 16000000 in
theorem sessHeld_any (w : World) (n hold x : Int) (v : Value) (L : List Se) (h : Ns HV Non w v L) (hx0 : 0 ≤ x) (hx1 : x ≤ 255) :
    Calls Try.prog 6 #[.agg #[.int .i64 n, v], .int .i64 hold, .int .u8 x] w fun e w' => e = .returned (.bool true) ∧ Ext w w' := by
  obtain ⟨ao, c, rfl⟩ := h.len
  have hlen := h.length_le
  obtain ⟨W0, hW0⟩ : ∃ W0, W0 = w.alloc (.cells #[.int .i64 n, .slice ao L.length c] 24) := ⟨_, rfl⟩
  have X0 : Hid (Ext w W0) := Lib.hid (by rw [hW0]; exact (Ext.refl w).alloc _)
  have B0 : Hid (W0.heap[w.heap.size]? = some (.cells #[.int .i64 n, .slice ao L.length c] 24 (0, 0))) := Lib.hid (by rw [hW0]; exact at0 w _)
  have HW0 := Lib.hid hW0
  have HS := Lib.hid (h.ext X0.out)
  have HK : Hid (∀ V, Ext W0 V → V.cell? ⟨w.heap.size, 0, none⟩ = some (.int .i64 n) ∧ V.cell? ⟨w.heap.size, 1, none⟩ = some (.slice ao L.length c)) := Lib.hid fun V hV => ⟨blk_cell (keepU B0.out hV) 0 rfl, blk_cell (keepU B0.out hV) 1 rfl⟩
  obtain ⟨k0, k1⟩ := HK.out W0 (Ext.refl _)
  clear h hW0
  obtain ⟨f, hf⟩ : ∃ f, fewH L = f := ⟨_, rfl⟩
  have HF := Lib.hid hf
  cases f
  · clear hf
    go_enter Try.func6, Try.ntmps6
    go_upto_region 1 with (fail)
    rw [← HW0.out]
    go_wp2_with (first
      | (have hgd := X2; go_at_call 9; refine (awakeH_any _).mono ?_; rintro e w9 ⟨rfl, x9⟩; have X9 : Hid (Ext W0 w9) := Lib.hid (X2.out.trans x9); clear x9)
      | (go_at_call 9; refine (awakeH_any _).mono ?_; rintro e w1 ⟨rfl, x1⟩; have X1 : Hid (Ext W0 w1) := Lib.hid x1; clear x1; clear k0 k1; obtain ⟨k0, k1⟩ := HK.out w1 X1.out)
      | (go_at_call 10; refine (refBkFew_any _ w1 n _ L (HS.out.ext X1.out) _ HF.out).mono ?_; rintro e w2 ⟨rfl, x2⟩; have X2 : Hid (Ext W0 w2) := Lib.hid (X1.out.trans x2); clear x2; clear k0 k1; obtain ⟨k0, k1⟩ := HK.out w2 X2.out))
    go_ret
    exact ⟨rfl, X0.out.trans X9.out⟩
  have HFY := Lib.hid (fewH_iff.1 hf)
  clear hf
  obtain ⟨t, ht⟩ : ∃ t, chkH (n, L) = t := ⟨_, rfl⟩
  have HCK := Lib.hid ht
  cases t
  · clear ht
    go_enter Try.func6, Try.ntmps6
    go_upto_region 1 with (fail)
    rw [← HW0.out]
    go_wp2_with (first
      | (have hgd := X4; go_at_call 9; refine (awakeH_any _).mono ?_; rintro e w9 ⟨rfl, x9⟩; have X9 : Hid (Ext W0 w9) := Lib.hid (X4.out.trans x9); clear x9)
      | (go_at_call 9; refine (awakeH_any _).mono ?_; rintro e w1 ⟨rfl, x1⟩; have X1 : Hid (Ext W0 w1) := Lib.hid x1; clear x1; clear k0 k1; obtain ⟨k0, k1⟩ := HK.out w1 X1.out)
      | (go_at_call 10; refine (refBkFew_any _ w1 n _ L (HS.out.ext X1.out) _ HF.out).mono ?_; rintro e w2 ⟨rfl, x2⟩; have X2 : Hid (Ext W0 w2) := Lib.hid (X1.out.trans x2); clear x2; clear k0 k1; obtain ⟨k0, k1⟩ := HK.out w2 X2.out)
      | (go_at_call 13; refine (ownBk_any Non w2 n _ L (HS.out.ext X2.out) (by have := HFY.out.1; omega) (fun s hs => Nat.le_trans (HFY.out.2 s hs) (by decide)) (fun b hb => hb.elim)).mono ?_; rintro e w3 ⟨a3, m3, c3, rfl, n3, x3⟩; have N3 := Lib.hid n3; have X3 : Hid (Ext W0 w3) := Lib.hid (X2.out.trans x3); clear n3 x3; clear k0 k1; obtain ⟨k0, k1⟩ := HK.out w3 X3.out)
      | (go_at_call 20; refine (sessCheck_any Non w3 n _ L N3.out (by have := HFY.out.1; omega) _ HCK.out).mono ?_; rintro e w4 ⟨rfl, x4⟩; have X4 : Hid (Ext W0 w4) := Lib.hid (X3.out.trans x4); clear x4; clear k0 k1; obtain ⟨k0, k1⟩ := HK.out w4 X4.out))
    go_ret
    exact ⟨rfl, X0.out.trans X9.out⟩
  obtain ⟨⟨⟨q1, q2⟩, q4, q3⟩, hq⟩ : ∃ r, grantH (n, L) = r := ⟨_, rfl⟩
  have HQ := Lib.hid hq
  by_cases he : q3 = 0
  rotate_left
  · have hno : q3 = 175 ∧ q4 = 0 := by
      unfold grantH at hq
      rw [if_pos ht] at hq
      dsimp only at hq
      split at hq
      · cases hq; exact ⟨rfl, rfl⟩
      · split at hq
        · cases hq; exact ⟨rfl, rfl⟩
        · cases hq; exact absurd rfl he
    obtain ⟨rfl, rfl⟩ := hno
    clear hq ht he
    go_enter Try.func6, Try.ntmps6
    go_upto_region 1 with (fail)
    rw [← HW0.out]
    go_wp2_with (first
      | (have hgd := X4; go_at_call 13; refine (ownBk_any Non w4 n _ L (HS.out.ext X4.out) (by have := HFY.out.1; omega) (fun s hs => Nat.le_trans (HFY.out.2 s hs) (by decide)) (fun b hb => hb.elim)).mono ?_; rintro e w5 ⟨a5, m5, c5, rfl, n5, x5⟩; have N5 := Lib.hid n5; have X5 : Hid (Ext W0 w5) := Lib.hid (X4.out.trans x5); clear n5 x5; clear k0 k1; obtain ⟨k0, k1⟩ := HK.out w5 X5.out)
      | (go_at_call 9; refine (awakeH_any _).mono ?_; rintro e w1 ⟨rfl, x1⟩; have X1 : Hid (Ext W0 w1) := Lib.hid x1; clear x1; clear k0 k1; obtain ⟨k0, k1⟩ := HK.out w1 X1.out)
      | (go_at_call 10; refine (refBkFew_any _ w1 n _ L (HS.out.ext X1.out) _ HF.out).mono ?_; rintro e w2 ⟨rfl, x2⟩; have X2 : Hid (Ext W0 w2) := Lib.hid (X1.out.trans x2); clear x2; clear k0 k1; obtain ⟨k0, k1⟩ := HK.out w2 X2.out)
      | (go_at_call 13; refine (ownBk_any Non w2 n _ L (HS.out.ext X2.out) (by have := HFY.out.1; omega) (fun s hs => Nat.le_trans (HFY.out.2 s hs) (by decide)) (fun b hb => hb.elim)).mono ?_; rintro e w3 ⟨a3, m3, c3, rfl, n3, x3⟩; have N3 := Lib.hid n3; have X3 : Hid (Ext W0 w3) := Lib.hid (X2.out.trans x3); clear n3 x3; clear k0 k1; obtain ⟨k0, k1⟩ := HK.out w3 X3.out)
      | (go_at_call 20; refine (sessCheck_any Non w3 n _ L N3.out (by have := HFY.out.1; omega) _ HCK.out).mono ?_; rintro e w4 ⟨rfl, x4⟩; have X4 : Hid (Ext W0 w4) := Lib.hid (X3.out.trans x4); clear x4; clear k0 k1; obtain ⟨k0, k1⟩ := HK.out w4 X4.out)
      | (go_at_call 23; refine (HQ.out ▸ sessGrant_any Non w5 n _ L N5.out (by have := HFY.out.1; omega) (fun b hb => hb.elim)).mono ?_; rintro e w6 ⟨a6, m6, c6, rfl, n6, x6⟩; dsimp only at n6 ⊢; have N6 := Lib.hid n6; have X6 : Hid (Ext W0 w6) := Lib.hid (X5.out.trans x6); clear n6 x6; clear k0 k1; obtain ⟨k0, k1⟩ := HK.out w6 X6.out)
      | refine haltst 24 ?_)
    refine .inl ?_
    obtain ⟨gx, hgx⟩ : ∃ g, g = w6.heap.size := ⟨_, rfl⟩
    have hb := at0 w6 (.cells #[.int .i64 0, .slice none 0 0] 24)
    rw [← hgx] at hb ⊢
    refine st_l 24 (.tmp 7) (.tmp 35) gx 0 24 _ #[.int .i64 q1, .slice a6 m6 c6] _ rfl rfl hb (by kernel_rfl) (by simp) rfl rfl ?_
    intro W7 hW7 o7
    simp only [Act.put]
    have D7 := Lib.hid hW7
    have Y7 : Hid (Ext w6 W7) := Lib.hid (ext_off ((Ext.refl w6).alloc _) o7 (fun b hb => by omega))
    have X7 : Hid (Ext W0 W7) := Lib.hid (X6.out.trans Y7.out)
    have GX : Hid (w6.heap.size ≤ gx ∧ gx < W7.heap.size) := Lib.hid ⟨by omega, blk_lt hW7⟩
    clear hW7 o7 hb hgx k0 k1
    go_wp2
    go_ret
    exact ⟨rfl, X0.out.trans X7.out⟩
  subst he
  obtain ⟨ok, s, t, hb, hst, hag, hg⟩ := grantH_ok (b := (n, L)) (by rw [hq])
  dsimp only at hb hg ok
  clear HQ hq
  obtain ⟨s0, s1, s2, s3⟩ := s
  dsimp only at hst hag hg
  subst hst hag
  have HQ := Lib.hid hg
  clear hg
  have okt : OkH (n, (⟨s0, s1, 0, 0⟩ : Se) :: t) := by rw [← hb]; exact ok
  have HOK := Lib.hid okt
  have hid1 : 1 ≤ s0 := (okt.each _ (List.mem_cons_self ..)).1
  have hML : L.length = t.length + 1 := by rw [hb]; rfl
  have hs1l : s1.length ≤ 70 := HFY.out.2 (⟨s0, s1, 0, 0⟩ : Se) (by rw [hb]; exact List.mem_cons_self ..)
  have htl : t.length ≤ 11 := by have := HFY.out.1; omega
  have HLS : Hid (∀ i : Int, ∀ u ∈ (⟨s0, s1, 1, i⟩ : Se) :: t, u.need.length ≤ 1000) := Lib.hid fun i u hu => by
    rcases List.mem_cons.1 hu with e | e
    · subst e; exact Nat.le_trans hs1l (by decide)
    · exact Nat.le_trans (HFY.out.2 u (by rw [hb]; exact List.mem_cons_of_mem _ e)) (by decide)
  have HLL : Hid (∀ i : Int, ((⟨s0, s1, 1, i⟩ : Se) :: t).length ≤ 1000) := Lib.hid fun i => by simp only [List.length_cons]; omega
  have HTK : Hid (∀ i : Nat, i ≤ 100 → tickH (n, (⟨s0, s1, 1, (i : Int)⟩ : Se) :: t) hold = if hold ≤ (i : Int) + 1 then ((n, t), s0, 0) else ((n, (⟨s0, s1, 1, (i : Int) + 1⟩ : Se) :: t), 0, 0)) := Lib.hid fun i hi => heldH_tick okt (Int.natCast_nonneg i) (by omega)
  have HPO : Hid (∀ i : Nat, pollH (n, (⟨s0, s1, 1, (i : Int)⟩ : Se) :: t) s0 = (1, 0)) := Lib.hid fun i => held_poll okt (Int.natCast_nonneg i)
  have HFI : Hid (findH t s0 = -1) := Lib.hid (by have := heldH_gone okt; unfold findH; rw [this])
  have HML := Lib.hid hML
  have hwl : IntKind.i64.wrap ((L.length : Int) - 1) = (t.length : Int) := by rw [wrapN _ (by omega) (by omega)]; omega
  have hr0 : 0 ≤ Int.tmod x 60 := Int.tmod_nonneg _ hx0
  have hr1 : Int.tmod x 60 < 60 := Int.tmod_lt_of_pos _ (by decide)
  obtain ⟨r, hr⟩ : ∃ r, Int.tmod x 60 = r := ⟨_, rfl⟩
  rw [hr] at hr0 hr1
  have hwr1 : IntKind.i64.wrap (r + 1) = r + 1 := wrapN _ (by omega) (by omega)
  have hmin : min (r + 1) 60 = r + 1 := by omega
  have hd0 : ((0 : Int) == s0) = false := by simp; omega
  have hd1 : (s0 != 0) = true := by simp; omega
  clear hb ok okt ht hML hs1l
  go_enter Try.func6, Try.ntmps6
  go_upto_region 1 with (fail)
  rw [← HW0.out]
  go_wp2_with (first
    | (have hgd := X4; go_at_call 13; refine (ownBk_any Non w4 n _ L (HS.out.ext X4.out) (by have := HFY.out.1; omega) (fun s hs => Nat.le_trans (HFY.out.2 s hs) (by decide)) (fun b hb => hb.elim)).mono ?_; rintro e w5 ⟨a5, m5, c5, rfl, n5, x5⟩; have N5 := Lib.hid n5; have X5 : Hid (Ext W0 w5) := Lib.hid (X4.out.trans x5); clear n5 x5; clear k0 k1; obtain ⟨k0, k1⟩ := HK.out w5 X5.out)
    | (go_at_call 9; refine (awakeH_any _).mono ?_; rintro e w1 ⟨rfl, x1⟩; have X1 : Hid (Ext W0 w1) := Lib.hid x1; clear x1; clear k0 k1; obtain ⟨k0, k1⟩ := HK.out w1 X1.out)
    | (go_at_call 10; refine (refBkFew_any _ w1 n _ L (HS.out.ext X1.out) _ HF.out).mono ?_; rintro e w2 ⟨rfl, x2⟩; have X2 : Hid (Ext W0 w2) := Lib.hid (X1.out.trans x2); clear x2; clear k0 k1; obtain ⟨k0, k1⟩ := HK.out w2 X2.out)
    | (go_at_call 13; refine (ownBk_any Non w2 n _ L (HS.out.ext X2.out) (by have := HFY.out.1; omega) (fun s hs => Nat.le_trans (HFY.out.2 s hs) (by decide)) (fun b hb => hb.elim)).mono ?_; rintro e w3 ⟨a3, m3, c3, rfl, n3, x3⟩; have N3 := Lib.hid n3; have X3 : Hid (Ext W0 w3) := Lib.hid (X2.out.trans x3); clear n3 x3; clear k0 k1; obtain ⟨k0, k1⟩ := HK.out w3 X3.out)
    | (go_at_call 20; refine (sessCheck_any Non w3 n _ L N3.out (by have := HFY.out.1; omega) _ HCK.out).mono ?_; rintro e w4 ⟨rfl, x4⟩; have X4 : Hid (Ext W0 w4) := Lib.hid (X3.out.trans x4); clear x4; clear k0 k1; obtain ⟨k0, k1⟩ := HK.out w4 X4.out)
    | (go_at_call 23; refine (HQ.out ▸ sessGrant_any Non w5 n _ L N5.out (by have := HFY.out.1; omega) (fun b hb => hb.elim)).mono ?_; rintro e w6 ⟨a6, m6, c6, rfl, n6, x6⟩; dsimp only at n6 ⊢; have N6 := Lib.hid n6; have X6 : Hid (Ext W0 w6) := Lib.hid (X5.out.trans x6); clear n6 x6; clear k0 k1; obtain ⟨k0, k1⟩ := HK.out w6 X6.out)
    | refine haltst 24 ?_)
  refine .inl ?_
  obtain ⟨gx, hgx⟩ : ∃ g, g = w6.heap.size := ⟨_, rfl⟩
  have hb := at0 w6 (.cells #[.int .i64 0, .slice none 0 0] 24)
  rw [← hgx] at hb ⊢
  refine st_l 24 (.tmp 7) (.tmp 35) gx 0 24 _ #[.int .i64 n, .slice a6 m6 c6] _ rfl rfl hb (by kernel_rfl) (by simp) rfl rfl ?_
  intro W7 hW7 o7
  simp only [Act.put]
  have D7 := Lib.hid hW7
  have Y7 : Hid (Ext w6 W7) := Lib.hid (ext_off ((Ext.refl w6).alloc _) o7 (fun b hb => by omega))
  have X7 : Hid (Ext W0 W7) := Lib.hid (X6.out.trans Y7.out)
  have GX : Hid (w6.heap.size ≤ gx ∧ gx < W7.heap.size) := Lib.hid ⟨by omega, blk_lt hW7⟩
  clear hW7 o7 hb hgx k0 k1
  have N7 : Hid (Ns HV (fun b => b = gx) W7 (.slice a6 m6 c6) ((⟨s0, s1, 1, 0⟩ : Se) :: t)) := Lib.hid ((N6.out.grow (G := fun b => b = gx) (fun b hb => .inr (by have := GX.out.1; omega))).ext Y7.out)
  have GSZ : Hid (∀ V, Ext w6 V → W7.heap.size ≤ V.heap.size → ∀ b, b = gx → b < V.heap.size) := Lib.hid fun V _ hV b hb => by have := GX.out.2; omega
  go_wp2
  go_loopw [11] (fun i wr => ∃ j : Nat, 1 ≤ j ∧ (j : Int) ≤ r + 2 ∧ i = .int .i64 j ∧ ∃ qa qn qc, Hid (wr.heap[gx]? = some (.cells #[.int .i64 n, .slice qa qn qc] 24 (0, 0))) ∧ Hid (Ns HV (fun b => b = gx) wr (.slice qa qn qc) ((⟨s0, s1, 1, ((j - 1 : Nat) : Int)⟩ : Se) :: t)) ∧ Hid (Ext w6 wr)) (fun i _ => (r + 2 - intOf i).toNat)
  case atStart => exact ⟨1, Nat.le_refl _, by omega, rfl, _, _, _, D7, N7, Y7⟩
  case round =>
    obtain ⟨j, hj1, hj2, rfl, qa, qn, qc, DR, NR, XR⟩ := hrel
    obtain ⟨k0, k1⟩ := HK.out wr (X6.out.trans XR.out)
    have d0 := blk_cell DR.out 0 rfl
    have d1 := blk_cell DR.out 1 rfl
    by_cases hle : (j : Int) ≤ r + 1
    · have hj100 : j - 1 ≤ 100 := by omega
      have hj3 : ((j - 1 : Nat) : Int) + 1 = (j : Int) := by omega
      by_cases hh : hold ≤ (j : Int)
      · have HQ2 : Hid (tickH (n, (⟨s0, s1, 1, ((j - 1 : Nat) : Int)⟩ : Se) :: t) hold = ((n, t), s0, 0)) := Lib.hid (by rw [HTK.out _ hj100, hj3, if_pos hh])
        clear hj3
        go_wp2_with (first
          | (go_at_call 13; refine (ownBk_any (fun b => b = gx) wr n _ _ NR.out (HLL.out _) (HLS.out _) (fun b hb => by have := blk_lt DR.out; omega)).mono ?_; rintro e w8 ⟨a8, m8, c8, rfl, n8, x8⟩; have N8 := Lib.hid n8; have X8 : Hid (Ext wr w8) := Lib.hid x8; clear n8 x8)
          | (go_at_call 24; refine (HQ2.out ▸ sessTick_any (fun b => b = gx) w8 n hold _ _ N8.out (HLL.out _) (fun b hb => by have := blk_lt (keepU DR.out X8.out); omega)).mono ?_; rintro e w9 ⟨a9, m9, c9, rfl, n9, x9⟩; dsimp only at n9 ⊢; obtain rfl : m9 = t.length := (by obtain ⟨_, _, e⟩ := n9.len; simp only [Value.slice.injEq] at e; exact e.2.1); have N9 := Lib.hid n9; have X9 : Hid (Ext wr w9) := Lib.hid (X8.out.trans x9); clear n9 x9)
          | refine haltst 24 ?_)
        refine .inl ?_
        obtain ⟨gy, hgy⟩ : ∃ g, g = w9.heap.size := ⟨_, rfl⟩
        have hb := at0 w9 (.cells #[.int .i64 0, .slice none 0 0] 24)
        rw [← hgy] at hb ⊢
        refine st_l 24 (.tmp 12) (.tmp 61) gy 0 24 _ #[.int .i64 n, .slice a9 t.length c9] _ rfl rfl hb (by kernel_rfl) (by simp) rfl rfl ?_
        intro WB hWB oB
        simp only [Act.put]
        have DB := Lib.hid hWB
        have YB : Hid (Ext w9 WB) := Lib.hid (ext_off ((Ext.refl w9).alloc _) oB (fun b hb => by omega))
        have XB : Hid (Ext wr WB) := Lib.hid (X9.out.trans YB.out)
        clear hWB oB hb hgy k0 k1 d0 d1
        obtain ⟨k0, k1⟩ := HK.out WB (X6.out.trans (XR.out.trans XB.out))
        have e0 := blk_cell DB.out 0 rfl
        have e1 := blk_cell DB.out 1 rfl
        go_wp2_with (first
          | (go_at_call 16; refine (refFind_any _ WB n s0 _ t (N9.out.ext YB.out) _ HFI.out).mono ?_; rintro e wC ⟨rfl, xC⟩; have XC : Hid (Ext WB wC) := Lib.hid xC; clear xC k0 k1 e0 e1; obtain ⟨k0, k1⟩ := HK.out wC (X6.out.trans (XR.out.trans (XB.out.trans XC.out))); have e0 := blk_cell (keepU DB.out XC.out) 0 rfl; have e1 := blk_cell (keepU DB.out XC.out) 1 rfl))
        go_ret
        exact ⟨rfl, X0.out.trans (X6.out.trans (XR.out.trans (XB.out.trans XC.out)))⟩
      · have HQ2 : Hid (tickH (n, (⟨s0, s1, 1, ((j - 1 : Nat) : Int)⟩ : Se) :: t) hold = ((n, (⟨s0, s1, 1, ((j + 1 - 1 : Nat) : Int)⟩ : Se) :: t), 0, 0)) := Lib.hid (by rw [HTK.out _ hj100, hj3, if_neg hh]; rfl)
        clear hj3
        go_wp2_with (first
          | (go_at_call 13; refine (ownBk_any (fun b => b = gx) wr n _ _ NR.out (HLL.out _) (HLS.out _) (fun b hb => by have := blk_lt DR.out; omega)).mono ?_; rintro e w8 ⟨a8, m8, c8, rfl, n8, x8⟩; have N8 := Lib.hid n8; have X8 : Hid (Ext wr w8) := Lib.hid x8; clear n8 x8)
          | (go_at_call 24; refine (HQ2.out ▸ sessTick_any (fun b => b = gx) w8 n hold _ _ N8.out (HLL.out _) (fun b hb => by have := blk_lt (keepU DR.out X8.out); omega)).mono ?_; rintro e w9 ⟨a9, m9, c9, rfl, n9, x9⟩; dsimp only at n9 ⊢; have N9 := Lib.hid n9; have X9 : Hid (Ext wr w9) := Lib.hid (X8.out.trans x9); clear n9 x9)
          | refine haltst 24 ?_)
        refine .inl ?_
        obtain ⟨gy, hgy⟩ : ∃ g, g = w9.heap.size := ⟨_, rfl⟩
        have hb := at0 w9 (.cells #[.int .i64 0, .slice none 0 0] 24)
        rw [← hgy] at hb ⊢
        refine st_l 24 (.tmp 12) (.tmp 61) gy 0 24 _ #[.int .i64 n, .slice a9 m9 c9] _ rfl rfl hb (by kernel_rfl) (by simp) rfl rfl ?_
        intro WB hWB oB
        simp only [Act.put]
        have DB := Lib.hid hWB
        have YB : Hid (Ext w9 WB) := Lib.hid (ext_off ((Ext.refl w9).alloc _) oB (fun b hb => by omega))
        have XB : Hid (Ext wr WB) := Lib.hid (X9.out.trans YB.out)
        clear hWB oB hb hgy k0 k1 d0 d1
        obtain ⟨k0, k1⟩ := HK.out WB (X6.out.trans (XR.out.trans XB.out))
        have e0 := blk_cell DB.out 0 rfl
        have e1 := blk_cell DB.out 1 rfl
        have DW : Hid (WB.heap[gx]? = some (.cells #[.int .i64 n, .slice qa qn qc] 24 (0, 0))) := Lib.hid (keepU DR.out XB.out)
        go_wp2_with (first | refine haltst 24 ?_)
        refine .inl ?_
        refine st_l 24 (.tmp 7) (.tmp 101) gx 0 24 _ #[.int .i64 n, .slice a9 m9 c9] _ rfl rfl DW.out (by kernel_rfl) (by simp) rfl rfl ?_
        intro WD hWD oD
        simp only [Act.put]
        have DD := Lib.hid hWD
        have ND := Lib.hid ((N9.out.ext YB.out).off oD (Grows.refl _ _))
        have XD : Hid (Ext w6 WD) := Lib.hid (ext_off (XR.out.trans XB.out) oD (fun b hb => by have := GX.out.1; omega))
        clear hWD oD k0 k1 e0 e1
        go_wp2
        go_roundw
        case rel => exact ⟨j + 1, by omega, by omega, by go_num, _, _, _, DD, ND, XD⟩
        case measure => simp [intOf]; omega
    · go_wp2_with (first
        | (go_at_call 13; refine (ownBk_any (fun b => b = gx) wr n _ _ NR.out (HLL.out _) (HLS.out _) (fun b hb => by have := blk_lt DR.out; omega)).mono ?_; rintro e w8 ⟨a8, m8, c8, rfl, n8, x8⟩; have N8 := Lib.hid n8; have X8 : Hid (Ext wr w8) := Lib.hid x8; clear n8 x8)
        | (go_at_call 15; refine (sessPoll_any _ w8 n s0 _ _ N8.out (HLL.out _)).mono ?_; rintro e w9 ⟨rfl, x9⟩; rw [HPO.out]; have X9 : Hid (Ext wr w9) := Lib.hid (X8.out.trans x9); clear x9))
      go_ret
      exact ⟨rfl, X0.out.trans (X6.out.trans (XR.out.trans X9.out))⟩

end Go.Proofs.Ytgcnjkabpcbkgaa
