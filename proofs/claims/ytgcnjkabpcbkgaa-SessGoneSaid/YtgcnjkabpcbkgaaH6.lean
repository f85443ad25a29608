/- Layer 17, the document's answers: End, Open. -/
import Derived.Test.YtgcnjkabpcbkgaaH5
import Derived.Test.YtgcnjkabpcbkgaaWR
namespace Go.Proofs.Ytgcnjkabpcbkgaa
open Go.RowKit

set_option maxRecDepth 100000 in
set_option maxHeartbeats 8000000 in
theorem refEnd_any (F : Nat → Prop) (w : World) (n id want : Int) (v : Value) (L : List Se) (h : Ns HV F w v L) (hl : L.length ≤ 1000) (hF : ∀ b, F b → b < w.heap.size) :
    Calls Try.prog 31 #[.agg #[.int .i64 n, v], .int .i64 id, .int .i64 want] w (GivesBk F w (endH (n, L) id want)) := by
  obtain ⟨ao, c, rfl⟩ := h.len
  obtain ⟨W0, hW0⟩ : ∃ W0, W0 = (w.alloc (.cells #[.int .i64 n, .slice ao L.length c] 24)).alloc (.cells #[.int .i64 0, .slice none 0 0] 24) := ⟨_, rfl⟩
  have X0 : Hid (Ext w W0) := Lib.hid (hW0 ▸ ((Ext.refl w).alloc _).alloc _)
  have B0 : Hid (W0.heap[w.heap.size]? = some (.cells #[.int .i64 n, .slice ao L.length c] 24 (0, 0))) := Lib.hid (hW0 ▸ old1 (at0 w _) _)
  have R0 : Hid (W0.heap[w.heap.size + 1]? = some (.cells #[.int .i64 0, .slice none 0 0] 24 (0, 0))) := Lib.hid (hW0 ▸ at1 w _ _)
  have HZ0 : Hid (W0.heap.size = w.heap.size + 2) := Lib.hid (by rw [hW0, size_alloc, size_alloc])
  have HW0 := Lib.hid hW0
  have HS := Lib.hid ((ns_orB h 2).ext X0.out)
  have HFB : Hid (∀ V, Ext W0 V → ∀ b, OrB F w 2 b → b < V.heap.size) := Lib.hid fun V hV b hb => by
    have h1 := Below.size hV
    have h2 := HZ0.out
    rcases hb with hb | hb
    · have := hF b hb; omega
    · have := hb.2; omega
  have HK : Hid (∀ V, Ext W0 V → V.cell? ⟨w.heap.size, 0, none⟩ = some (.int .i64 n) ∧ V.cell? ⟨w.heap.size, 1, none⟩ = some (.slice ao L.length c)) := Lib.hid fun V hV => ⟨blk_cell (keepU B0.out hV) 0 rfl, blk_cell (keepU B0.out hV) 1 rfl⟩
  have RK : Hid (∀ V, Ext W0 V → V.heap[w.heap.size + 1]? = some (.cells #[.int .i64 0, .slice none 0 0] 24 (0, 0))) := Lib.hid fun V hV => keepU R0.out hV
  clear hW0
  obtain ⟨t, ht⟩ : ∃ t, chkH (n, L) = t := ⟨_, rfl⟩
  have HCK : Hid (Calls Try.prog 17 #[.agg #[.int .i64 n, .slice ao L.length c]] W0 fun e w' => e = .returned (.bool t) ∧ Ext W0 w') := Lib.hid (refBkCheck_any _ W0 n _ L HS.out t ht)
  have hcell := HK.out W0 (Ext.refl _)
  obtain ⟨k0, k1⟩ := hcell
  clear h
  cases t
  · have HR : Hid (endH (n, L) id want = (noH, 170)) := Lib.hid (by unfold endH; rw [if_neg (by rw [ht]; exact Bool.false_ne_true)])
    clear ht
    go_enter Try.func31, Try.ntmps31
    go_upto_region 1 with (fail)
    rw [← HW0.out]
    go_wp2_with (first
      | (go_at_call 17; refine (HCK.out).mono ?_; rintro e w2 ⟨rfl, x2⟩; have X2 : Hid (Ext W0 w2) := Lib.hid x2; clear x2 k0 k1; obtain ⟨d0, d1⟩ := HK.out w2 X2.out)
      | refine haltst 24 ?_)
    refine .inl ?_
    refine st_l 24 (.tmp 6) (.tmp 12) (w.heap.size + 1) 0 24 _ #[.int .i64 0, .slice none 0 0] _ rfl rfl (RK.out _ X2.out) (by kernel_rfl) (by simp) rfl rfl ?_
    intro W9 hW9 o9
    simp only [Act.put]
    go_wp2
    exact bodyPost_ret (v := .tuple #[.agg #[.int .i64 0, .slice none 0 0], .int .i64 170]) (res_ct 7 rfl rfl hW9 uBook (by kernel_rfl)) rfl (givesBk_no HR.out (ext_off (X0.out.trans X2.out) o9 (fun b hb => by omega)))
  obtain ⟨r, hr⟩ : ∃ r, findH L id = r := ⟨_, rfl⟩
  have HFI : Hid (∀ V, Ext W0 V → Calls Try.prog 16 #[.agg #[.int .i64 n, .slice ao L.length c], .int .i64 id] V fun e w' => e = .returned (.int .i64 r) ∧ Ext V w') := Lib.hid fun V hV => refFind_any _ V n id _ L (HS.out.ext hV) r hr
  cases ha : atH L id with
  | none =>
    have HR : Hid (endH (n, L) id want = (noH, 174)) := Lib.hid (by unfold endH; rw [if_pos ht]; dsimp only; rw [ha])
    have hr0 : r < 0 := by rw [← hr]; exact findH_neg.2 ha
    clear ht hr ha
    go_enter Try.func31, Try.ntmps31
    go_upto_region 1 with (fail)
    rw [← HW0.out]
    go_wp2_with (first
      | (go_at_call 17; refine (HCK.out).mono ?_; rintro e w2 ⟨rfl, x2⟩; have X2 : Hid (Ext W0 w2) := Lib.hid x2; clear x2 k0 k1; obtain ⟨d0, d1⟩ := HK.out w2 X2.out)
      | (go_at_call 16; refine (HFI.out w2 X2.out).mono ?_; rintro e w3 ⟨rfl, x3⟩; have X3 : Hid (Ext W0 w3) := Lib.hid (X2.out.trans x3); clear x3 d0 d1; obtain ⟨d0, d1⟩ := HK.out w3 X3.out; skip)
      | refine haltst 24 ?_)
    refine .inl ?_
    refine st_l 24 (.tmp 6) (.tmp 18) (w.heap.size + 1) 0 24 _ #[.int .i64 0, .slice none 0 0] _ rfl rfl (RK.out _ X3.out) (by kernel_rfl) (by simp) rfl rfl ?_
    intro W9 hW9 o9
    simp only [Act.put]
    go_wp2
    exact bodyPost_ret (v := .tuple #[.agg #[.int .i64 0, .slice none 0 0], .int .i64 174]) (res_ct 7 rfl rfl hW9 uBook (by kernel_rfl)) rfl (givesBk_no HR.out (ext_off (X0.out.trans X3.out) o9 (fun b hb => by omega)))
  | some k =>
    obtain ⟨s, hs, hsi⟩ := atH_some ha
    have hkl : k < L.length := (List.getElem?_eq_some_iff.1 hs).1
    obtain rfl : r = (k : Int) := by rw [← hr]; unfold findH; rw [ha]
    obtain ⟨b1, off, so, sc, d, hsj, rfl, hn, hnc, hc63, hb, hsn, hcs⟩ := HS.out.sessAt hkl
    rw [hs] at hsj
    simp only [Option.some.injEq] at hsj
    subst hsj
    have HCS := Lib.hid hcs
    clear hcs hsn hn hr
    by_cases hst : s.state = want
    · have HR : Hid (endH (n, L) id want = ((n, L.eraseIdx k), 0)) := Lib.hid (by unfold endH; rw [if_pos ht]; dsimp only; rw [ha]; dsimp only; rw [hs]; dsimp only; rw [if_pos hst])
      obtain ⟨y0, y1, y2, y3⟩ := s
      dsimp only at HCS hst
      have hd : (y2 != want) = false := by simp [hst]
      clear ht ha hs hst hsi
      go_enter Try.func31, Try.ntmps31
      go_upto_region 1 with (fail)
      rw [← HW0.out]
      go_wp2_with (first
        | (go_at_call 17; refine (HCK.out).mono ?_; rintro e w2 ⟨rfl, x2⟩; have X2 : Hid (Ext W0 w2) := Lib.hid x2; clear x2 k0 k1; obtain ⟨d0, d1⟩ := HK.out w2 X2.out)
        | (go_at_call 16; refine (HFI.out w2 X2.out).mono ?_; rintro e w3 ⟨rfl, x3⟩; have X3 : Hid (Ext W0 w3) := Lib.hid (X2.out.trans x3); clear x3 d0 d1; obtain ⟨d0, d1⟩ := HK.out w3 X3.out; obtain ⟨⟨x0, x1⟩, x2, x3⟩ := HCS.out w3 X3.out)
        | (go_at_call 52; refine (refWithout_any _ w3 n _ L k (HS.out.ext X3.out) hkl hl (HFB.out _ X3.out)).mono ?_; rintro e w4 ⟨a4, m4, c4, rfl, n4, x4⟩; have N4 := Lib.hid n4; have X4 : Hid (Ext W0 w4) := Lib.hid (X3.out.trans x4); clear n4 x4 d0 d1 x0 x1 x2 x3)
        | refine haltst 24 ?_)
      refine .inl ?_
      refine st_l 24 (.tmp 6) (.tmp 30) (w.heap.size + 1) 0 24 _ #[.int .i64 n, .slice a4 m4 c4] _ rfl rfl (RK.out _ X4.out) (by kernel_rfl) (by simp) rfl rfl ?_
      intro W9 hW9 o9
      simp only [Act.put]
      go_wp2
      exact bodyPost_ret (v := .tuple #[.agg #[.int .i64 n, .slice a4 m4 c4], .int .i64 0]) (res_ct 7 rfl rfl hW9 uBook (by kernel_rfl)) rfl (by rw [HR.out]; exact ⟨_, _, _, rfl, ns_orB' (N4.out.off (o9.mono fun b hb => .inr ⟨by omega, by omega⟩) (Grows.refl _ _)), ext_off (X0.out.trans X4.out) o9 (fun b hb => by omega)⟩)
    · have HR : Hid (endH (n, L) id want = (noH, 175)) := Lib.hid (by unfold endH; rw [if_pos ht]; dsimp only; rw [ha]; dsimp only; rw [hs]; dsimp only; rw [if_neg hst])
      obtain ⟨y0, y1, y2, y3⟩ := s
      dsimp only at HCS hst
      have hd : (y2 != want) = true := by simpa using hst
      clear ht ha hs hst hsi
      go_enter Try.func31, Try.ntmps31
      go_upto_region 1 with (fail)
      rw [← HW0.out]
      go_wp2_with (first
        | (go_at_call 17; refine (HCK.out).mono ?_; rintro e w2 ⟨rfl, x2⟩; have X2 : Hid (Ext W0 w2) := Lib.hid x2; clear x2 k0 k1; obtain ⟨d0, d1⟩ := HK.out w2 X2.out)
        | (go_at_call 16; refine (HFI.out w2 X2.out).mono ?_; rintro e w3 ⟨rfl, x3⟩; have X3 : Hid (Ext W0 w3) := Lib.hid (X2.out.trans x3); clear x3 d0 d1; obtain ⟨d0, d1⟩ := HK.out w3 X3.out; obtain ⟨⟨x0, x1⟩, x2, x3⟩ := HCS.out w3 X3.out)
        | refine haltst 24 ?_)
      refine .inl ?_
      refine st_l 24 (.tmp 6) (.tmp 27) (w.heap.size + 1) 0 24 _ #[.int .i64 0, .slice none 0 0] _ rfl rfl (RK.out _ X3.out) (by kernel_rfl) (by simp) rfl rfl ?_
      intro W9 hW9 o9
      simp only [Act.put]
      go_wp2
      exact bodyPost_ret (v := .tuple #[.agg #[.int .i64 0, .slice none 0 0], .int .i64 175]) (res_ct 7 rfl rfl hW9 uBook (by kernel_rfl)) rfl (givesBk_no HR.out (ext_off (X0.out.trans X3.out) o9 (fun b hb => by omega)))

end Go.Proofs.Ytgcnjkabpcbkgaa
