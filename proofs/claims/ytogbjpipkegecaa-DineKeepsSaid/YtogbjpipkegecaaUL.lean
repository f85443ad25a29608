/- Layer 13, the document's answers: Get. -/
import Derived.Test.YtogbjpipkegecaaUD
import Derived.Test.YtogbjpipkegecaaU3
namespace Go.Proofs.Ytogbjpipkegecaa
open Go.RowKit

set_option maxRecDepth 100000 in
set_option maxHeartbeats 8000000 in
theorem refGet_any (w : World) (id ph p kd me n : Int) (v : Value) (L : List Sd) (h : Sl w v L) (hl : L.length ≤ 1000) :
    Calls Try.prog 20 #[.agg #[.int .i64 id, .int .i64 ph, v], .int .i64 p, .agg #[.int .i64 kd, .int .i64 me, .int .i64 n]] w (GivesE w (getR ⟨id, ph, L⟩ p kd me n)) := by
  obtain ⟨ao, c, rfl⟩ := h.len
  have hlen := h.length_le
  obtain ⟨W0, hW0⟩ : ∃ W0, W0 = ((w.alloc (.cells #[.int .i64 id, .int .i64 ph, .slice ao L.length c] 25)).alloc (.cells #[.int .i64 kd, .int .i64 me, .int .i64 n] 40)).alloc (.cells #[.int .i64 0, .int .i64 0, .slice none 0 0] 25) := ⟨_, rfl⟩
  have X0 : Hid (Ext w W0) := Lib.hid (hW0 ▸ (((Ext.refl w).alloc _).alloc _).alloc _)
  have D0 : Hid (W0.heap[w.heap.size]? = some (.cells #[.int .i64 id, .int .i64 ph, .slice ao L.length c] 25 (0, 0))) := Lib.hid (hW0 ▸ old1 (old1 (at0 w _) _) _)
  have M0 : Hid (W0.heap[w.heap.size + 1]? = some (.cells #[.int .i64 kd, .int .i64 me, .int .i64 n] 40 (0, 0))) := Lib.hid (hW0 ▸ old1 (at1 w _ _) _)
  have R0 : Hid (W0.heap[w.heap.size + 2]? = some (.cells #[.int .i64 0, .int .i64 0, .slice none 0 0] 25 (0, 0))) := Lib.hid (hW0 ▸ at2 w _ _ _)
  have hs0 : W0.heap.size = w.heap.size + 3 := by rw [hW0, size_alloc, size_alloc, size_alloc]
  have HW0 := Lib.hid hW0
  have HS := Lib.hid (h.ext X0.out)
  clear h hW0
  obtain ⟨d0, d1, d2⟩ := cells3U D0.out
  obtain ⟨t, ht⟩ : ∃ t, dnOk ⟨id, ph, L⟩ = t := ⟨_, rfl⟩
  have HT := Lib.hid ht
  clear ht
  go_enter Try.func20, Try.ntmps20
  go_upto_region 1 with (fail)
  rw [← HW0.out]
  cases t
  · have HR : Hid (getR ⟨id, ph, L⟩ p kd me n = (noD, 130)) := Lib.hid (by unfold getR; rw [HT.out]; rfl)
    go_upto_region 2 with (first
      | (go_at_call 15; refine (refDCheck_any W0 id ph _ L HS.out false HT.out).mono ?_; rintro e w1 ⟨rfl, hx⟩; have X1 : Hid (Ext W0 w1) := Lib.hid hx; clear hx))
    go_wp2_with (first | refine haltst 25 ?_)
    refine .inl ?_
    refine st_l 25 (.tmp 6) (.tmp 13) (w.heap.size + 2) 0 25 #[.int .i64 0, .int .i64 0, .slice none 0 0] #[.int .i64 0, .int .i64 0, .slice none 0 0] #[.int .i64 0, .int .i64 0, .slice none 0 0] rfl rfl (keepU R0.out X1.out) (by kernel_rfl) (by simp) rfl rfl ?_
    intro W9 hW9 o9
    simp only [Act.put]
    go_wp2
    exact bodyPost_ret (v := .tuple #[.agg #[.int .i64 0, .int .i64 0, .slice none 0 0], .int .i64 130]) (res_ct 7 rfl rfl hW9 uDiner (by kernel_rfl)) rfl (givesNo HR.out (ext_off (X0.out.trans X1.out) o9 (fun b hb => by omega)))
  · go_upto_region 3 with (first
      | (go_at_call 15; refine (refDCheck_any W0 id ph _ L HS.out true HT.out).mono ?_; rintro e w1 ⟨rfl, hx⟩; have X1 : Hid (Ext W0 w1) := Lib.hid hx; clear hx))
    go_wp2
    go_loopw [8] (fun i wr => ∃ k : Nat, k ≤ L.length ∧ i = .int .i64 k ∧ Hid (∀ (j : Nat) (u : Sd), j < k → L[j]? = some u → (u.peer == p && u.epoch == me) = false) ∧ Hid (Ext W0 wr)) (fun i _ => L.length - (intOf i).toNat)
    case atStart => exact ⟨0, Nat.zero_le _, rfl, Lib.hid (fun j u hj => by omega), X1⟩
    case round =>
      obtain ⟨k, hk, rfl, HQ, HX⟩ := hrel
      clear d0 d1 d2
      obtain ⟨d0, d1, d2⟩ := cells3U (keepU D0.out HX.out)
      by_cases hlt : k < L.length
      · obtain ⟨b1, off, s, hsy, hsj, rfl, hn1, hnc, hc63, hb, hcs⟩ := HS.out.sidesAt hlt
        obtain ⟨⟨⟨x0, x1⟩, x2, x3⟩, ⟨x4, x5⟩, x6, x7⟩ := hcs wr HX.out
        have HSJ := Lib.hid hsj
        obtain ⟨W1, hW1⟩ : ∃ W1, W1 = wr.alloc (.cells s.cs 47) := ⟨_, rfl⟩
        obtain ⟨gx, hgx⟩ : ∃ gx, wr.heap.size = gx := ⟨_, rfl⟩
        have X1 : Hid (Ext W0 W1) := Lib.hid (hW1 ▸ HX.out.alloc _)
        have B1 : Hid (W1.heap[gx]? = some (.cells s.cs 47 (0, 0))) := Lib.hid (by rw [hW1, ← hgx]; exact at0 wr _)
        have hgw : W0.heap.size ≤ gx := by have := Below.size HX.out; omega
        have HW1 := Lib.hid hW1
        clear hsy hsj hcs hn1 hW1
        obtain ⟨y0, y1, y2, y3, y4, y5, y6, y7⟩ := s
        dsimp only at x0 x1 x2 x3 x4 x5 x6 x7
        dsimp only [Sd.cs] at HW1 B1
        go_upto_region 7 with (fail)
        rw [← HW1.out]
        try rw [hgx]
        clear x0 x1 x2 x3 x4 x5 x6 x7 d0 d1 d2 hgx
        obtain ⟨⟨⟨x0, x1⟩, x2, x3⟩, ⟨x4, x5⟩, x6, x7⟩ := cells8U B1.out
        obtain ⟨d0, d1, d2⟩ := cells3U (keepU D0.out X1.out)
        obtain ⟨m0, m1, m2⟩ := cells3U (keepU M0.out X1.out)
        by_cases hm : (y0 == p && y1 == me) = true
        · have HFS : Hid (findS (fun s => s.peer == p && s.epoch == me) L = some (k, ⟨y0, y1, y2, y3, y4, y5, y6, y7⟩)) := Lib.hid (findS_some HSJ.out hm HQ.out)
          have HRR : Hid (getR ⟨id, ph, L⟩ p kd me n = if (withR ⟨y0, y1, y2, y3, y4, y5, y6, y7⟩ kd n).2 = 0 then (⟨id, ph, L.set k (withR ⟨y0, y1, y2, y3, y4, y5, y6, y7⟩ kd n).1⟩, 0) else (noD, (withR ⟨y0, y1, y2, y3, y4, y5, y6, y7⟩ kd n).2)) := Lib.hid (by unfold getR; rw [HT.out, if_pos rfl]; dsimp only; rw [HFS.out])
          simp only [Bool.and_eq_true, beq_iff_eq] at hm
          obtain ⟨rfl, rfl⟩ := hm
          have t1 : (y0 != y0) = false := by simp
          have t2 : (y1 != y1) = false := by simp
          clear HFS HQ
          go_upto_region 8 with (fail)
          clear t1 t2
          by_cases hn : n = 0
          · by_cases h1 : kd = 1
            · subst hn h1
              cases y3
              · have HR : Hid (getR ⟨id, ph, L⟩ y0 1 y1 0 = (⟨id, ph, L.set k ⟨y0, y1, y2, true, y4, y5, y6, y7⟩⟩, 0)) := Lib.hid (by rw [HRR.out]; simp [withR])
                have ff := blk_free B1.out 3
                go_upto_region 15 with (fail)
                obtain ⟨W3, hW3⟩ : ∃ W3, W3 = W1.setCell ⟨gx, 3, none⟩ (.bool true) := ⟨_, rfl⟩
                have B3 : Hid (W3.heap[gx]? = some (.cells #[.int .i64 y0, .int .i64 y1, .int .i64 y2, .bool true, .bool y4, .bool y5, .bool y6, .bool y7] 47 (0, 0))) := Lib.hid (by rw [hW3, blk_set B1.out]; rfl)
                have X3 : Hid (Ext W0 W3) := Lib.hid (hW3 ▸ below_set X1.out hgw _)
                rw [← hW3]
                clear hW3 x0 x1 x2 x3 x4 x5 x6 x7 d0 d1 d2 m0 m1 m2 ff
                obtain ⟨⟨⟨x0, x1⟩, x2, x3⟩, ⟨x4, x5⟩, x6, x7⟩ := cells8U B3.out
                obtain ⟨d0, d1, d2⟩ := cells3U (keepU D0.out X3.out)
                go_wp2_with (first
                  | (go_at_call 34; refine (refSet_any W3 id ph _ L k ⟨y0, y1, y2, true, y4, y5, y6, y7⟩ (HS.out.ext X3.out) hlt hl).mono ?_; rintro e w5 ⟨v5, rfl, s5, x5'⟩; obtain ⟨a5, n5, c5, rfl⟩ := s5.sh; have S5 := Lib.hid s5; have X5 : Hid (Ext W3 w5) := Lib.hid x5'; clear s5 x5')
                  | refine haltst 25 ?_)
                refine .inl ?_
                refine st_l 25 (.tmp 6) (.tmp 76) (w.heap.size + 2) 0 25 #[.int .i64 0, .int .i64 0, .slice none 0 0] #[.int .i64 id, .int .i64 ph, .slice a5 n5 c5] #[.int .i64 id, .int .i64 ph, .slice a5 n5 c5] rfl rfl (keepU R0.out (X3.out.trans X5.out)) (by kernel_rfl) (by simp) rfl rfl ?_
                intro W9 hW9 o9
                simp only [Act.put]
                have hz3 := Below.size X3.out
                go_wp2
                exact bodyPost_ret (v := .tuple #[.agg #[.int .i64 id, .int .i64 ph, .slice a5 n5 c5], .int .i64 0]) (res_ct 7 rfl rfl hW9 uDiner (by kernel_rfl)) rfl (by
                  rw [HR.out]
                  exact ⟨_, rfl, slOffU S5.out.sl (fun b hb => (S5.out.low b hb).1) o9 (by omega), ext_off (X0.out.trans (X3.out.trans X5.out)) o9 (fun b hb => by omega), fun b hb => by have := (S5.out.low b hb).1; omega⟩)
              · have HR : Hid (getR ⟨id, ph, L⟩ y0 1 y1 0 = (noD, 132)) := Lib.hid (by rw [HRR.out]; simp [withR])
                go_upto_region 11 with (fail)
                go_wp2_with (first | refine haltst 25 ?_)
                refine .inl ?_
                refine st_l 25 (.tmp 6) (.tmp 67) (w.heap.size + 2) 0 25 #[.int .i64 0, .int .i64 0, .slice none 0 0] #[.int .i64 0, .int .i64 0, .slice none 0 0] #[.int .i64 0, .int .i64 0, .slice none 0 0] rfl rfl (keepU R0.out X1.out) (by kernel_rfl) (by simp) rfl rfl ?_
                intro W9 hW9 o9
                simp only [Act.put]
                go_wp2
                exact bodyPost_ret (v := .tuple #[.agg #[.int .i64 0, .int .i64 0, .slice none 0 0], .int .i64 132]) (res_ct 7 rfl rfl hW9 uDiner (by kernel_rfl)) rfl (givesNo HR.out (ext_off (X0.out.trans X1.out) o9 (fun b hb => by omega)))
            · by_cases h2 : kd = 2
              · subst hn h2
                cases y5
                · have HR : Hid (getR ⟨id, ph, L⟩ y0 2 y1 0 = (⟨id, ph, L.set k ⟨y0, y1, y2, y3, y4, true, y6, y7⟩⟩, 0)) := Lib.hid (by rw [HRR.out]; simp [withR])
                  have ff := blk_free B1.out 5
                  go_upto_region 15 with (fail)
                  obtain ⟨W3, hW3⟩ : ∃ W3, W3 = W1.setCell ⟨gx, 5, none⟩ (.bool true) := ⟨_, rfl⟩
                  have B3 : Hid (W3.heap[gx]? = some (.cells #[.int .i64 y0, .int .i64 y1, .int .i64 y2, .bool y3, .bool y4, .bool true, .bool y6, .bool y7] 47 (0, 0))) := Lib.hid (by rw [hW3, blk_set B1.out]; rfl)
                  have X3 : Hid (Ext W0 W3) := Lib.hid (hW3 ▸ below_set X1.out hgw _)
                  rw [← hW3]
                  clear hW3 x0 x1 x2 x3 x4 x5 x6 x7 d0 d1 d2 m0 m1 m2 ff
                  obtain ⟨⟨⟨x0, x1⟩, x2, x3⟩, ⟨x4, x5⟩, x6, x7⟩ := cells8U B3.out
                  obtain ⟨d0, d1, d2⟩ := cells3U (keepU D0.out X3.out)
                  go_wp2_with (first
                    | (go_at_call 34; refine (refSet_any W3 id ph _ L k ⟨y0, y1, y2, y3, y4, true, y6, y7⟩ (HS.out.ext X3.out) hlt hl).mono ?_; rintro e w5 ⟨v5, rfl, s5, x5'⟩; obtain ⟨a5, n5, c5, rfl⟩ := s5.sh; have S5 := Lib.hid s5; have X5 : Hid (Ext W3 w5) := Lib.hid x5'; clear s5 x5')
                    | refine haltst 25 ?_)
                  refine .inl ?_
                  refine st_l 25 (.tmp 6) (.tmp 76) (w.heap.size + 2) 0 25 #[.int .i64 0, .int .i64 0, .slice none 0 0] #[.int .i64 id, .int .i64 ph, .slice a5 n5 c5] #[.int .i64 id, .int .i64 ph, .slice a5 n5 c5] rfl rfl (keepU R0.out (X3.out.trans X5.out)) (by kernel_rfl) (by simp) rfl rfl ?_
                  intro W9 hW9 o9
                  simp only [Act.put]
                  have hz3 := Below.size X3.out
                  go_wp2
                  exact bodyPost_ret (v := .tuple #[.agg #[.int .i64 id, .int .i64 ph, .slice a5 n5 c5], .int .i64 0]) (res_ct 7 rfl rfl hW9 uDiner (by kernel_rfl)) rfl (by
                    rw [HR.out]
                    exact ⟨_, rfl, slOffU S5.out.sl (fun b hb => (S5.out.low b hb).1) o9 (by omega), ext_off (X0.out.trans (X3.out.trans X5.out)) o9 (fun b hb => by omega), fun b hb => by have := (S5.out.low b hb).1; omega⟩)
                · have HR : Hid (getR ⟨id, ph, L⟩ y0 2 y1 0 = (noD, 132)) := Lib.hid (by rw [HRR.out]; simp [withR])
                  go_upto_region 11 with (fail)
                  go_wp2_with (first | refine haltst 25 ?_)
                  refine .inl ?_
                  refine st_l 25 (.tmp 6) (.tmp 67) (w.heap.size + 2) 0 25 #[.int .i64 0, .int .i64 0, .slice none 0 0] #[.int .i64 0, .int .i64 0, .slice none 0 0] #[.int .i64 0, .int .i64 0, .slice none 0 0] rfl rfl (keepU R0.out X1.out) (by kernel_rfl) (by simp) rfl rfl ?_
                  intro W9 hW9 o9
                  simp only [Act.put]
                  go_wp2
                  exact bodyPost_ret (v := .tuple #[.agg #[.int .i64 0, .int .i64 0, .slice none 0 0], .int .i64 132]) (res_ct 7 rfl rfl hW9 uDiner (by kernel_rfl)) rfl (givesNo HR.out (ext_off (X0.out.trans X1.out) o9 (fun b hb => by omega)))
              · have HR : Hid (getR ⟨id, ph, L⟩ y0 kd y1 n = (noD, 133)) := Lib.hid (by rw [HRR.out]; simp [withR, h1, h2, hn])
                have t1 : (kd != 1) = true := by simp [h1]
                have t2 : (kd != 2) = true := by simp [h2]
                subst hn
                clear h1 h2
                go_upto_region 9 with (fail)
                go_wp2_with (first | refine haltst 25 ?_)
                refine .inl ?_
                refine st_l 25 (.tmp 6) (.tmp 50) (w.heap.size + 2) 0 25 #[.int .i64 0, .int .i64 0, .slice none 0 0] #[.int .i64 0, .int .i64 0, .slice none 0 0] #[.int .i64 0, .int .i64 0, .slice none 0 0] rfl rfl (keepU R0.out X1.out) (by kernel_rfl) (by simp) rfl rfl ?_
                intro W9 hW9 o9
                simp only [Act.put]
                go_wp2
                exact bodyPost_ret (v := .tuple #[.agg #[.int .i64 0, .int .i64 0, .slice none 0 0], .int .i64 133]) (res_ct 7 rfl rfl hW9 uDiner (by kernel_rfl)) rfl (givesNo HR.out (ext_off (X0.out.trans X1.out) o9 (fun b hb => by omega)))
          · have HR : Hid (getR ⟨id, ph, L⟩ y0 kd y1 n = (noD, 133)) := Lib.hid (by rw [HRR.out]; simp [withR, hn])
            have t0 : (n != 0) = true := by simp [hn]
            clear hn
            go_upto_region 9 with (fail)
            go_wp2_with (first | refine haltst 25 ?_)
            refine .inl ?_
            refine st_l 25 (.tmp 6) (.tmp 50) (w.heap.size + 2) 0 25 #[.int .i64 0, .int .i64 0, .slice none 0 0] #[.int .i64 0, .int .i64 0, .slice none 0 0] #[.int .i64 0, .int .i64 0, .slice none 0 0] rfl rfl (keepU R0.out X1.out) (by kernel_rfl) (by simp) rfl rfl ?_
            intro W9 hW9 o9
            simp only [Act.put]
            go_wp2
            exact bodyPost_ret (v := .tuple #[.agg #[.int .i64 0, .int .i64 0, .slice none 0 0], .int .i64 133]) (res_ct 7 rfl rfl hW9 uDiner (by kernel_rfl)) rfl (givesNo HR.out (ext_off (X0.out.trans X1.out) o9 (fun b hb => by omega)))
        · have HQ2 : Hid (∀ (j : Nat) (u : Sd), j < k + 1 → L[j]? = some u → (u.peer == p && u.epoch == me) = false) := Lib.hid (fun j u hj hu => by
            rcases Nat.lt_or_ge j k with h | h
            · exact HQ.out j u h hu
            · obtain rfl : j = k := by omega
              have := HSJ.out.symm.trans hu
              simp only [Option.some.injEq] at this
              rw [← this]; simpa using hm)
          by_cases h1 : y0 = p
          · have h2 : ¬ y1 = me := fun e => hm (by rw [h1, e]; simp)
            have t1 : (y0 != p) = false := by simp [h1]
            have t2 : (y1 != me) = true := by simp [h2]
            clear hm h1 h2
            go_wp2
            go_roundw
            case rel => exact ⟨k + 1, by omega, by go_num, HQ2, X1⟩
            case measure => simp [intOf]; omega
          · have t1 : (y0 != p) = true := by simp [h1]
            clear hm h1
            go_wp2
            go_roundw
            case rel => exact ⟨k + 1, by omega, by go_num, HQ2, X1⟩
            case measure => simp [intOf]; omega
      · have HR : Hid (getR ⟨id, ph, L⟩ p kd me n = (noD, 131)) := Lib.hid (by
          have : findS (fun s => s.peer == p && s.epoch == me) L = none := findS_none fun j u hu => HQ.out j u (by have := (List.getElem?_eq_some_iff.1 hu).1; omega) hu
          unfold getR; rw [HT.out, if_pos rfl]; dsimp only; rw [this])
        go_upto_region 16 with (fail)
        go_wp2_with (first | refine haltst 25 ?_)
        refine .inl ?_
        refine st_l 25 (.tmp 6) (.tmp 77) (w.heap.size + 2) 0 25 #[.int .i64 0, .int .i64 0, .slice none 0 0] #[.int .i64 0, .int .i64 0, .slice none 0 0] #[.int .i64 0, .int .i64 0, .slice none 0 0] rfl rfl (keepU R0.out HX.out) (by kernel_rfl) (by simp) rfl rfl ?_
        intro W9 hW9 o9
        simp only [Act.put]
        go_wp2
        exact bodyPost_ret (v := .tuple #[.agg #[.int .i64 0, .int .i64 0, .slice none 0 0], .int .i64 131]) (res_ct 7 rfl rfl hW9 uDiner (by kernel_rfl)) rfl (givesNo HR.out (ext_off (X0.out.trans HX.out) o9 (fun b hb => by omega)))


end Go.Proofs.Ytogbjpipkegecaa
