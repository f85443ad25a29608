/- Layer 13, the document's answers: Get. -/
import Derived.Test.YtpjpjchnfllcmaaMUA
import Derived.Test.YtpjpjchnfllcmaaMU3
import Derived.Test.YtpjpjchnfllcmaaUK
import Derived.Test.YtpjpjchnfllcmaaMUF
namespace Go.Proofs.Ytpjpjchnfllcmaa
open Go.RowKit

set_option maxRecDepth 100000 in
set_option maxHeartbeats 8000000 in
theorem refGet_any (w : World) (id ph p kd me n : Int) (v : Value) (L : List Sd) (h : Sl w v L) (hl : L.length ≤ 1000) :
    Calls Try.prog 46 #[.agg #[.int .i64 id, .int .i64 ph, v], .int .i64 p, .agg #[.int .i64 kd, .int .i64 me, .int .i64 n]] w (GivesE w (getR ⟨id, ph, L⟩ p kd me n)) := by
  obtain ⟨ao, c, rfl⟩ := h.len
  have hlen := h.length_le
  obtain ⟨W0, hW0⟩ : ∃ W0, W0 = ((w.alloc (.cells #[.int .i64 id, .int .i64 ph, .slice ao L.length c] 25)).alloc (.cells #[.int .i64 kd, .int .i64 me, .int .i64 n] 44)).alloc (.cells #[.int .i64 0, .int .i64 0, .slice none 0 0] 25) := ⟨_, rfl⟩
  have X0 : Hid (Ext w W0) := Lib.hid (hW0 ▸ (((Ext.refl w).alloc _).alloc _).alloc _)
  have D0 : Hid (W0.heap[w.heap.size]? = some (.cells #[.int .i64 id, .int .i64 ph, .slice ao L.length c] 25 (0, 0))) := Lib.hid (hW0 ▸ old1 (old1 (at0 w _) _) _)
  have M0 : Hid (W0.heap[w.heap.size + 1]? = some (.cells #[.int .i64 kd, .int .i64 me, .int .i64 n] 44 (0, 0))) := Lib.hid (hW0 ▸ old1 (at1 w _ _) _)
  have R0 : Hid (W0.heap[w.heap.size + 2]? = some (.cells #[.int .i64 0, .int .i64 0, .slice none 0 0] 25 (0, 0))) := Lib.hid (hW0 ▸ at2 w _ _ _)
  have hs0 : W0.heap.size = w.heap.size + 3 := by rw [hW0, size_alloc, size_alloc, size_alloc]
  have HW0 := Lib.hid hW0
  have HS := Lib.hid (h.ext X0.out)
  clear h hW0
  obtain ⟨d0, d1, d2⟩ := cells3U D0.out
  obtain ⟨t, ht⟩ : ∃ t, dnOk ⟨id, ph, L⟩ = t := ⟨_, rfl⟩
  have HT := Lib.hid ht
  clear ht
  go_enter Try.func46, Try.ntmps46
  go_upto_region 1 with (fail)
  rw [← HW0.out]
  cases t
  · have HR : Hid (getR ⟨id, ph, L⟩ p kd me n = (noD, 130)) := Lib.hid (by unfold getR; rw [HT.out]; rfl)
    go_upto_region 2 with (first
      | (go_at_call 35; refine (refDCheck_any W0 id ph _ L HS.out false HT.out).mono ?_; rintro e w1 ⟨rfl, hx⟩; have X1 : Hid (Ext W0 w1) := Lib.hid hx; clear hx))
    go_wp2_with (first | refine haltst 25 ?_)
    refine .inl ?_
    refine st_l 25 (.tmp 6) (.tmp 13) (w.heap.size + 2) 0 25 #[.int .i64 0, .int .i64 0, .slice none 0 0] #[.int .i64 0, .int .i64 0, .slice none 0 0] #[.int .i64 0, .int .i64 0, .slice none 0 0] rfl rfl (keepU R0.out X1.out) (by kernel_rfl) (by simp) rfl rfl ?_
    intro W9 hW9 o9
    simp only [Act.put]
    go_wp2
    exact bodyPost_ret (v := .tuple #[.agg #[.int .i64 0, .int .i64 0, .slice none 0 0], .int .i64 130]) (res_ct 7 rfl rfl hW9 uDiner (by kernel_rfl)) rfl (givesNo HR.out (ext_off (X0.out.trans X1.out) o9 (fun b hb => by omega)))
  · go_upto_region 3 with (first
      | (go_at_call 35; refine (refDCheck_any W0 id ph _ L HS.out true HT.out).mono ?_; rintro e w1 ⟨rfl, hx⟩; have X1 : Hid (Ext W0 w1) := Lib.hid hx; clear hx))
    go_wp2
    go_loopw [8] (fun i wr => ∃ k : Nat, k ≤ L.length ∧ i = .int .i64 k ∧ Hid (∀ (j : Nat) (u : Sd), j < k → L[j]? = some u → (u.peer == p && u.epoch == me) = false) ∧ Hid (Ext W0 wr)) (fun i _ => L.length - (intOf i).toNat)
    case atStart => exact ⟨0, Nat.zero_le _, rfl, Lib.hid (fun j u hj => by omega), X1⟩
    case round =>
      obtain ⟨k, hk, rfl, HQ, HX⟩ := hrel
      clear d0 d1 d2
      obtain ⟨d0, d1, d2⟩ := cells3U (keepU D0.out HX.out)
      by_cases hlt : k < L.length
      · obtain ⟨b1, off, s, hsy, hsj, rfl, hn1, hnc, hc63, hb, hcs⟩ := HS.out.sidesAt hlt
        obtain ⟨⟨⟨x0, x1⟩, x2, x3⟩, ⟨x4, x5⟩, x6, x7⟩ := hcs wr HX.out
        have HSJ := Lib.hid hsj
        obtain ⟨W1, hW1⟩ : ∃ W1, W1 = wr.alloc (.cells s.cs 53) := ⟨_, rfl⟩
        obtain ⟨gx, hgx⟩ : ∃ gx, wr.heap.size = gx := ⟨_, rfl⟩
        have X1 : Hid (Ext W0 W1) := Lib.hid (hW1 ▸ HX.out.alloc _)
        have B1 : Hid (W1.heap[gx]? = some (.cells s.cs 53 (0, 0))) := Lib.hid (by rw [hW1, ← hgx]; exact at0 wr _)
        have hgw : W0.heap.size ≤ gx := by have := Below.size HX.out; omega
        have HW1 := Lib.hid hW1
        clear hsy hsj hcs hn1 hW1
        obtain ⟨y0, y1, y2, y3, y4, y5, y6, y7⟩ := s
        dsimp only at x0 x1 x2 x3 x4 x5 x6 x7
        dsimp only [Sd.cs] at HW1 B1
        go_upto_region 7 with (fail)
        rw [← HW1.out]
        try rw [hgx]
        clear x0 x1 x2 x3 x4 x5 x6 x7 d0 d1 d2 hgx
        obtain ⟨⟨⟨x0, x1⟩, x2, x3⟩, ⟨x4, x5⟩, x6, x7⟩ := cells8U B1.out
        obtain ⟨d0, d1, d2⟩ := cells3U (keepU D0.out X1.out)
        obtain ⟨m0, m1, m2⟩ := cells3U (keepU M0.out X1.out)
        by_cases hm : (y0 == p && y1 == me) = true
        · have HFS : Hid (findS (fun s => s.peer == p && s.epoch == me) L = some (k, ⟨y0, y1, y2, y3, y4, y5, y6, y7⟩)) := Lib.hid (findS_some HSJ.out hm HQ.out)
          have HRR : Hid (getR ⟨id, ph, L⟩ p kd me n = if (withR ⟨y0, y1, y2, y3, y4, y5, y6, y7⟩ kd n).2 = 0 then (⟨id, ph, L.set k (withR ⟨y0, y1, y2, y3, y4, y5, y6, y7⟩ kd n).1⟩, 0) else (noD, (withR ⟨y0, y1, y2, y3, y4, y5, y6, y7⟩ kd n).2)) := Lib.hid (by unfold getR; rw [HT.out, if_pos rfl]; dsimp only; rw [HFS.out])
          simp only [Bool.and_eq_true, beq_iff_eq] at hm
          obtain ⟨rfl, rfl⟩ := hm
          have t1 : (y0 != y0) = false := by simp
          have t2 : (y1 != y1) = false := by simp
          clear HFS HQ
          go_upto_region 8 with (fail)
          clear t1 t2
          by_cases hn : n = 0
          · by_cases h1 : kd = 1
            · subst hn h1
              cases y3
              · have HR : Hid (getR ⟨id, ph, L⟩ y0 1 y1 0 = (⟨id, ph, L.set k ⟨y0, y1, y2, true, y4, y5, y6, y7⟩⟩, 0)) := Lib.hid (by rw [HRR.out]; simp [withR])
                have ff := blk_free B1.out 3
                go_upto_region 15 with (fail)
                obtain ⟨W3, hW3⟩ : ∃ W3, W3 = W1.setCell ⟨gx, 3, none⟩ (.bool true) := ⟨_, rfl⟩
                have B3 : Hid (W3.heap[gx]? = some (.cells #[.int .i64 y0, .int .i64 y1, .int .i64 y2, .bool true, .bool y4, .bool y5, .bool y6, .bool y7] 53 (0, 0))) := Lib.hid (by rw [hW3, blk_set B1.out]; rfl)
                have X3 : Hid (Ext W0 W3) := Lib.hid (hW3 ▸ below_set X1.out hgw _)
                rw [← hW3]
                clear hW3 x0 x1 x2 x3 x4 x5 x6 x7 d0 d1 d2 m0 m1 m2 ff
                obtain ⟨⟨⟨x0, x1⟩, x2, x3⟩, ⟨x4, x5⟩, x6, x7⟩ := cells8U B3.out
                obtain ⟨d0, d1, d2⟩ := cells3U (keepU D0.out X3.out)
                go_wp2_with (first
                  | (go_at_call 45; refine (refSet_any W3 id ph _ L k ⟨y0, y1, y2, true, y4, y5, y6, y7⟩ (HS.out.ext X3.out) hlt hl).mono ?_; rintro e w5 ⟨v5, rfl, s5, x5'⟩; obtain ⟨a5, n5, c5, rfl⟩ := s5.sh; have S5 := Lib.hid s5; have X5 : Hid (Ext W3 w5) := Lib.hid x5'; clear s5 x5')
                  | refine haltst 25 ?_)
                refine .inl ?_
                refine st_l 25 (.tmp 6) (.tmp 76) (w.heap.size + 2) 0 25 #[.int .i64 0, .int .i64 0, .slice none 0 0] #[.int .i64 id, .int .i64 ph, .slice a5 n5 c5] #[.int .i64 id, .int .i64 ph, .slice a5 n5 c5] rfl rfl (keepU R0.out (X3.out.trans X5.out)) (by kernel_rfl) (by simp) rfl rfl ?_
                intro W9 hW9 o9
                simp only [Act.put]
                have hz3 := Below.size X3.out
                go_wp2
                exact bodyPost_ret (v := .tuple #[.agg #[.int .i64 id, .int .i64 ph, .slice a5 n5 c5], .int .i64 0]) (res_ct 7 rfl rfl hW9 uDiner (by kernel_rfl)) rfl (by
                  rw [HR.out]
                  exact ⟨_, rfl, slOffU S5.out.sl (fun b hb => (S5.out.low b hb).1) o9 (by omega), ext_off (X0.out.trans (X3.out.trans X5.out)) o9 (fun b hb => by omega), fun b hb => by have := (S5.out.low b hb).1; omega⟩)
              · have HR : Hid (getR ⟨id, ph, L⟩ y0 1 y1 0 = (noD, 132)) := Lib.hid (by rw [HRR.out]; simp [withR])
                go_upto_region 11 with (fail)
                go_wp2_with (first | refine haltst 25 ?_)
                refine .inl ?_
                refine st_l 25 (.tmp 6) (.tmp 67) (w.heap.size + 2) 0 25 #[.int .i64 0, .int .i64 0, .slice none 0 0] #[.int .i64 0, .int .i64 0, .slice none 0 0] #[.int .i64 0, .int .i64 0, .slice none 0 0] rfl rfl (keepU R0.out X1.out) (by kernel_rfl) (by simp) rfl rfl ?_
                intro W9 hW9 o9
                simp only [Act.put]
                go_wp2
                exact bodyPost_ret (v := .tuple #[.agg #[.int .i64 0, .int .i64 0, .slice none 0 0], .int .i64 132]) (res_ct 7 rfl rfl hW9 uDiner (by kernel_rfl)) rfl (givesNo HR.out (ext_off (X0.out.trans X1.out) o9 (fun b hb => by omega)))
            · by_cases h2 : kd = 2
              · subst hn h2
                cases y5
                · have HR : Hid (getR ⟨id, ph, L⟩ y0 2 y1 0 = (⟨id, ph, L.set k ⟨y0, y1, y2, y3, y4, true, y6, y7⟩⟩, 0)) := Lib.hid (by rw [HRR.out]; simp [withR])
                  have ff := blk_free B1.out 5
                  go_upto_region 15 with (fail)
                  obtain ⟨W3, hW3⟩ : ∃ W3, W3 = W1.setCell ⟨gx, 5, none⟩ (.bool true) := ⟨_, rfl⟩
                  have B3 : Hid (W3.heap[gx]? = some (.cells #[.int .i64 y0, .int .i64 y1, .int .i64 y2, .bool y3, .bool y4, .bool true, .bool y6, .bool y7] 53 (0, 0))) := Lib.hid (by rw [hW3, blk_set B1.out]; rfl)
                  have X3 : Hid (Ext W0 W3) := Lib.hid (hW3 ▸ below_set X1.out hgw _)
                  rw [← hW3]
                  clear hW3 x0 x1 x2 x3 x4 x5 x6 x7 d0 d1 d2 m0 m1 m2 ff
                  obtain ⟨⟨⟨x0, x1⟩, x2, x3⟩, ⟨x4, x5⟩, x6, x7⟩ := cells8U B3.out
                  obtain ⟨d0, d1, d2⟩ := cells3U (keepU D0.out X3.out)
                  go_wp2_with (first
                    | (go_at_call 45; refine (refSet_any W3 id ph _ L k ⟨y0, y1, y2, y3, y4, true, y6, y7⟩ (HS.out.ext X3.out) hlt hl).mono ?_; rintro e w5 ⟨v5, rfl, s5, x5'⟩; obtain ⟨a5, n5, c5, rfl⟩ := s5.sh; have S5 := Lib.hid s5; have X5 : Hid (Ext W3 w5) := Lib.hid x5'; clear s5 x5')
                    | refine haltst 25 ?_)
                  refine .inl ?_
                  refine st_l 25 (.tmp 6) (.tmp 76) (w.heap.size + 2) 0 25 #[.int .i64 0, .int .i64 0, .slice none 0 0] #[.int .i64 id, .int .i64 ph, .slice a5 n5 c5] #[.int .i64 id, .int .i64 ph, .slice a5 n5 c5] rfl rfl (keepU R0.out (X3.out.trans X5.out)) (by kernel_rfl) (by simp) rfl rfl ?_
                  intro W9 hW9 o9
                  simp only [Act.put]
                  have hz3 := Below.size X3.out
                  go_wp2
                  exact bodyPost_ret (v := .tuple #[.agg #[.int .i64 id, .int .i64 ph, .slice a5 n5 c5], .int .i64 0]) (res_ct 7 rfl rfl hW9 uDiner (by kernel_rfl)) rfl (by
                    rw [HR.out]
                    exact ⟨_, rfl, slOffU S5.out.sl (fun b hb => (S5.out.low b hb).1) o9 (by omega), ext_off (X0.out.trans (X3.out.trans X5.out)) o9 (fun b hb => by omega), fun b hb => by have := (S5.out.low b hb).1; omega⟩)
                · have HR : Hid (getR ⟨id, ph, L⟩ y0 2 y1 0 = (noD, 132)) := Lib.hid (by rw [HRR.out]; simp [withR])
                  go_upto_region 11 with (fail)
                  go_wp2_with (first | refine haltst 25 ?_)
                  refine .inl ?_
                  refine st_l 25 (.tmp 6) (.tmp 67) (w.heap.size + 2) 0 25 #[.int .i64 0, .int .i64 0, .slice none 0 0] #[.int .i64 0, .int .i64 0, .slice none 0 0] #[.int .i64 0, .int .i64 0, .slice none 0 0] rfl rfl (keepU R0.out X1.out) (by kernel_rfl) (by simp) rfl rfl ?_
                  intro W9 hW9 o9
                  simp only [Act.put]
                  go_wp2
                  exact bodyPost_ret (v := .tuple #[.agg #[.int .i64 0, .int .i64 0, .slice none 0 0], .int .i64 132]) (res_ct 7 rfl rfl hW9 uDiner (by kernel_rfl)) rfl (givesNo HR.out (ext_off (X0.out.trans X1.out) o9 (fun b hb => by omega)))
              · have HR : Hid (getR ⟨id, ph, L⟩ y0 kd y1 n = (noD, 133)) := Lib.hid (by rw [HRR.out]; simp [withR, h1, h2, hn])
                have t1 : (kd != 1) = true := by simp [h1]
                have t2 : (kd != 2) = true := by simp [h2]
                subst hn
                clear h1 h2
                go_upto_region 9 with (fail)
                go_wp2_with (first | refine haltst 25 ?_)
                refine .inl ?_
                refine st_l 25 (.tmp 6) (.tmp 50) (w.heap.size + 2) 0 25 #[.int .i64 0, .int .i64 0, .slice none 0 0] #[.int .i64 0, .int .i64 0, .slice none 0 0] #[.int .i64 0, .int .i64 0, .slice none 0 0] rfl rfl (keepU R0.out X1.out) (by kernel_rfl) (by simp) rfl rfl ?_
                intro W9 hW9 o9
                simp only [Act.put]
                go_wp2
                exact bodyPost_ret (v := .tuple #[.agg #[.int .i64 0, .int .i64 0, .slice none 0 0], .int .i64 133]) (res_ct 7 rfl rfl hW9 uDiner (by kernel_rfl)) rfl (givesNo HR.out (ext_off (X0.out.trans X1.out) o9 (fun b hb => by omega)))
          · have HR : Hid (getR ⟨id, ph, L⟩ y0 kd y1 n = (noD, 133)) := Lib.hid (by rw [HRR.out]; simp [withR, hn])
            have t0 : (n != 0) = true := by simp [hn]
            clear hn
            go_upto_region 9 with (fail)
            go_wp2_with (first | refine haltst 25 ?_)
            refine .inl ?_
            refine st_l 25 (.tmp 6) (.tmp 50) (w.heap.size + 2) 0 25 #[.int .i64 0, .int .i64 0, .slice none 0 0] #[.int .i64 0, .int .i64 0, .slice none 0 0] #[.int .i64 0, .int .i64 0, .slice none 0 0] rfl rfl (keepU R0.out X1.out) (by kernel_rfl) (by simp) rfl rfl ?_
            intro W9 hW9 o9
            simp only [Act.put]
            go_wp2
            exact bodyPost_ret (v := .tuple #[.agg #[.int .i64 0, .int .i64 0, .slice none 0 0], .int .i64 133]) (res_ct 7 rfl rfl hW9 uDiner (by kernel_rfl)) rfl (givesNo HR.out (ext_off (X0.out.trans X1.out) o9 (fun b hb => by omega)))
        · have HQ2 : Hid (∀ (j : Nat) (u : Sd), j < k + 1 → L[j]? = some u → (u.peer == p && u.epoch == me) = false) := Lib.hid (fun j u hj hu => by
            rcases Nat.lt_or_ge j k with h | h
            · exact HQ.out j u h hu
            · obtain rfl : j = k := by omega
              have := HSJ.out.symm.trans hu
              simp only [Option.some.injEq] at this
              rw [← this]; simpa using hm)
          by_cases h1 : y0 = p
          · have h2 : ¬ y1 = me := fun e => hm (by rw [h1, e]; simp)
            have t1 : (y0 != p) = false := by simp [h1]
            have t2 : (y1 != me) = true := by simp [h2]
            clear hm h1 h2
            go_wp2
            go_roundw
            case rel => exact ⟨k + 1, by omega, by go_num, HQ2, X1⟩
            case measure => simp [intOf]; omega
          · have t1 : (y0 != p) = true := by simp [h1]
            clear hm h1
            go_wp2
            go_roundw
            case rel => exact ⟨k + 1, by omega, by go_num, HQ2, X1⟩
            case measure => simp [intOf]; omega
      · have HR : Hid (getR ⟨id, ph, L⟩ p kd me n = (noD, 131)) := Lib.hid (by
          have : findS (fun s => s.peer == p && s.epoch == me) L = none := findS_none fun j u hu => HQ.out j u (by have := (List.getElem?_eq_some_iff.1 hu).1; omega) hu
          unfold getR; rw [HT.out, if_pos rfl]; dsimp only; rw [this])
        go_upto_region 16 with (fail)
        go_wp2_with (first | refine haltst 25 ?_)
        refine .inl ?_
        refine st_l 25 (.tmp 6) (.tmp 77) (w.heap.size + 2) 0 25 #[.int .i64 0, .int .i64 0, .slice none 0 0] #[.int .i64 0, .int .i64 0, .slice none 0 0] #[.int .i64 0, .int .i64 0, .slice none 0 0] rfl rfl (keepU R0.out HX.out) (by kernel_rfl) (by simp) rfl rfl ?_
        intro W9 hW9 o9
        simp only [Act.put]
        go_wp2
        exact bodyPost_ret (v := .tuple #[.agg #[.int .i64 0, .int .i64 0, .slice none 0 0], .int .i64 131]) (res_ct 7 rfl rfl hW9 uDiner (by kernel_rfl)) rfl (givesNo HR.out (ext_off (X0.out.trans HX.out) o9 (fun b hb => by omega)))


end Go.Proofs.Ytpjpjchnfllcmaa

/- Layer 13 (mathematics): behind Fire nothing is to be done; what goes out goes by rising peers; what was there is there, or went out. -/
namespace Go.Proofs.Ytpjpjchnfllcmaa

theorem fireD_calm (d : Dn) : (fireD d).sides.all (calm (fireD d).phase) = true := by
  unfold fireD
  split
  · exact eating_calm _
  · exact fireSs_all _ _
theorem fireD_stays (d : Dn) : eats (fireD d).phase (fireD d).sides = false := by
  unfold fireD
  split
  · rfl
  · next h => simpa using h
theorem fireD_still (d : Dn) : fireD (fireD d) = fireD d ∧ fireMl (fireD d) = [] :=
  (One.none (fireD_calm d) (fireD_stays d)).fire.2.2 rfl
theorem fireS1_keeps (ph : Int) (s : Sd) : (fireS1 ph s).peer = s.peer ∧ (fireS1 ph s).epoch = s.epoch ∧ (fireS1 ph s).state = s.state ∧ (fireS1 ph s).bottle = s.bottle ∧ (fireS1 ph s).ask = s.ask := by
  unfold fireS1 asked gone
  split <;> split <;> exact ⟨rfl, rfl, rfl, rfl, rfl⟩
theorem fireS1_dirty {ph : Int} {s : Sd} (h : (s.dirty && !s.fork) = false) : ((fireS1 ph s).dirty && !(fireS1 ph s).fork) = false := by
  unfold fireS1 asked gone
  split <;> split <;> simp_all
theorem sideD_of {id last : Int} {s t : Sd} (h : sideD id last s = true) (e1 : t.peer = s.peer) (e2 : t.epoch = s.epoch) (e3 : t.state = s.state) (e4 : (t.dirty && !t.fork) = false) : sideD id last t = true := by
  unfold sideD at *
  rw [e1, e2, e3, e4]
  simp only [Bool.and_eq_true] at *
  exact ⟨h.1, h.2.1, h.2.2.1, h.2.2.2.1, h.2.2.2.2.1, h.2.2.2.2.2.1, rfl⟩
theorem sideD_dirty {id last : Int} {s : Sd} (h : sideD id last s = true) : (s.dirty && !s.fork) = false := by
  unfold sideD at h
  simp only [Bool.and_eq_true] at h
  have h2 := h.2.2.2.2.2.2
  cases hd : s.dirty <;> cases hf : s.fork <;> simp_all
theorem sideD_low {id last : Int} {s : Sd} (h : sideD id last s = true) : last < s.peer := by
  unfold sideD at h
  rw [Bool.and_eq_true, decide_eq_true_eq] at h
  exact h.1
theorem sidesD_cons {id last : Int} {s : Sd} {L : List Sd} : sidesD id last (s :: L) = true ↔ sideD id last s = true ∧ sidesD id s.peer L = true := by
  show (sideD id last s && sidesD id s.peer L) = true ↔ _
  rw [Bool.and_eq_true]
theorem sidesD_map {id : Int} (f : Sd → Sd) : ∀ {L : List Sd} {last : Int}, sidesD id last L = true → (∀ s ∈ L, (f s).peer = s.peer ∧ (f s).epoch = s.epoch ∧ (f s).state = s.state ∧ ((s.dirty && !s.fork) = false → ((f s).dirty && !(f s).fork) = false)) → sidesD id last (L.map f) = true
  | [], _, _, _ => rfl
  | s :: L, last, h, hf => by
    obtain ⟨h1, h2⟩ := sidesD_cons.1 h
    obtain ⟨e1, e2, e3, e4⟩ := hf s (List.mem_cons_self ..)
    rw [List.map_cons]
    refine sidesD_cons.2 ⟨sideD_of h1 e1 e2 e3 (e4 (sideD_dirty h1)), ?_⟩
    rw [e1]
    exact sidesD_map f h2 fun t ht => hf t (List.mem_cons_of_mem _ ht)
theorem head_of {d : Dn} (h : headD d = true) {e : Dn} (h1 : e.id = d.id) (h2 : e.phase = d.phase ∨ e.phase = 2) (h3 : e.sides.length = d.sides.length) : headD e = true := by
  unfold headD at *
  rw [h1, h3]
  simp only [Bool.and_eq_true, Bool.or_eq_true, decide_eq_true_eq] at *
  rcases h2 with e | e
  · rw [e]; exact h
  · rw [e]; exact ⟨h.1, .inr rfl, h.2.2⟩
theorem fireD_len (d : Dn) : (fireD d).sides.length = d.sides.length ∧ (fireD d).id = d.id := by
  unfold fireD
  split <;> simp [dirtyAll, fireSs]
theorem dnOk_fire {d : Dn} (h : dnOk d = true) : dnOk (fireD d) = true := by
  unfold dnOk at *
  rw [Bool.and_eq_true] at *
  refine ⟨head_of h.1 (fireD_len d).2 ?_ (fireD_len d).1, ?_⟩
  · unfold fireD; split
    · exact .inr rfl
    · exact .inl rfl
  · have h1 : sidesD d.id (-1) (fireSs d.phase d.sides) = true := sidesD_map (fireS1 d.phase) h.2 fun s _ => ⟨(fireS1_keeps _ s).1, (fireS1_keeps _ s).2.1, (fireS1_keeps _ s).2.2.1, fireS1_dirty⟩
    rw [(fireD_len d).2]
    unfold fireD
    split
    · next he =>
      unfold eats at he
      rw [Bool.and_eq_true, List.all_eq_true] at he
      exact sidesD_map _ h1 fun s hs => ⟨rfl, rfl, rfl, fun _ => by simp [he.2 s hs]⟩
    · exact h1

/-- one's mail ahead of another one -/
def mlB (a b : Ml) : Prop := a.to_ < b.to_ ∨ (a.to_ = b.to_ ∧ a.kind = 1 ∧ b.kind = 2)
theorem fireM1_to (id ph : Int) (s : Sd) : ∀ m ∈ fireM1 id ph s, m.to_ = s.peer := by
  intro m hm
  unfold fireM1 at hm
  rw [List.mem_append] at hm
  rcases hm with hm | hm
  · cases h : hot ph s
    · rw [h] at hm; cases hm
    · rw [h] at hm; simp only [if_true, List.mem_singleton] at hm; rw [hm]; rfl
  · cases h : wants ph (gone ph s)
    · rw [h] at hm; cases hm
    · rw [h] at hm; simp only [if_true, List.mem_singleton] at hm; rw [hm]; rfl
theorem fireM1_pair (id ph : Int) (s : Sd) : (fireM1 id ph s).Pairwise mlB := by
  unfold fireM1
  split <;> split
  · refine List.pairwise_cons.2 ⟨fun b hb => ?_, List.pairwise_singleton _ _⟩
    have hb : b ∈ [tokenM id s] := hb
    rw [List.mem_singleton] at hb
    rw [hb]; exact .inr ⟨rfl, rfl, rfl⟩
  · exact List.pairwise_singleton _ _
  · exact List.pairwise_singleton _ _
  · exact List.Pairwise.nil
theorem fireMs_to {id ph : Int} : ∀ {L : List Sd} {last : Int}, sidesD id last L = true → ∀ m ∈ fireMs id ph L, last < m.to_
  | [], _, _, m, hm => by simp [fireMs] at hm
  | s :: L, last, h, m, hm => by
    obtain ⟨h1, h2⟩ := sidesD_cons.1 h
    have hl := sideD_low h1
    unfold fireMs at hm
    rw [List.flatMap_cons, List.mem_append] at hm
    rcases hm with hm | hm
    · rw [fireM1_to id ph s m hm]; exact hl
    · have := fireMs_to h2 m hm
      omega
theorem fireMs_row {id ph : Int} : ∀ {L : List Sd} {last : Int}, sidesD id last L = true → (fireMs id ph L).Pairwise mlB
  | [], _, _ => List.Pairwise.nil
  | s :: L, last, h => by
    obtain ⟨h1, h2⟩ := sidesD_cons.1 h
    unfold fireMs
    rw [List.flatMap_cons]
    refine List.pairwise_append.2 ⟨fireM1_pair id ph s, fireMs_row h2, fun a ha b hb => .inl ?_⟩
    rw [fireM1_to id ph s a ha]
    exact fireMs_to h2 b hb
theorem row_at {l : List Ml} (h : l.Pairwise mlB) {k : Nat} {a b : Ml} (ha : l[k]? = some a) (hb : l[k + 1]? = some b) : mlB a b := by
  obtain ⟨h1, e1⟩ := List.getElem?_eq_some_iff.1 ha
  obtain ⟨h2, e2⟩ := List.getElem?_eq_some_iff.1 hb
  rw [← e1, ← e2]
  exact List.pairwise_iff_getElem.1 h k (k + 1) h1 h2 (by omega)

/-- a side behind Fire -/
theorem fireD_at {d : Dn} {k : Nat} {s : Sd} (h : d.sides[k]? = some s) : ∃ u, (fireD d).sides[k]? = some u ∧ u.peer = s.peer ∧ u.epoch = s.epoch ∧ u.state = s.state ∧ u.bottle = s.bottle ∧ u.ask = s.ask ∧ u.fork = (s.fork && !hot d.phase s) ∧ u.token = (s.token && !wants d.phase (gone d.phase s)) := by
  have e1 : (fireS1 d.phase s).fork = (s.fork && !hot d.phase s) := by
    unfold fireS1 asked
    have : (if wants d.phase (gone d.phase s) = true then { gone d.phase s with token := false } else gone d.phase s).fork = (gone d.phase s).fork := by split <;> rfl
    rw [this]; unfold gone
    cases h : hot d.phase s <;> simp
  have e2 : (fireS1 d.phase s).token = (s.token && !wants d.phase (gone d.phase s)) := by
    unfold fireS1 asked
    have : (gone d.phase s).token = s.token := by unfold gone; split <;> rfl
    split
    · next hw => rw [hw]; simp
    · next hw => rw [this]; simp at hw; rw [hw]; simp
  obtain ⟨k1, k2, k3, k4, k5⟩ := fireS1_keeps d.phase s
  unfold fireD
  split
  · refine ⟨{ fireS1 d.phase s with dirty := true }, ?_, k1, k2, k3, k4, k5, e1, e2⟩
    show (dirtyAll (fireSs d.phase d.sides))[k]? = _
    unfold dirtyAll fireSs
    rw [List.getElem?_map, List.getElem?_map, h]; rfl
  · refine ⟨fireS1 d.phase s, ?_, k1, k2, k3, k4, k5, e1, e2⟩
    show (fireSs d.phase d.sides)[k]? = _
    unfold fireSs
    rw [List.getElem?_map, h]; rfl
theorem fireMl_at {d : Dn} {k : Nat} {s : Sd} (h : d.sides[k]? = some s) : fireMl d = fireMs d.id d.phase (d.sides.take k) ++ (fireM1 d.id d.phase s ++ fireMs d.id d.phase (d.sides.drop (k + 1))) := by
  have hk := (List.getElem?_eq_some_iff.1 h).1
  have e : d.sides = d.sides.take k ++ s :: d.sides.drop (k + 1) := by
    rw [← (List.getElem?_eq_some_iff.1 h).2, List.getElem_cons_drop hk, List.take_append_drop]
  unfold fireMl
  conv => lhs; rw [e]
  unfold fireMs
  rw [List.flatMap_append, List.flatMap_cons]

end Go.Proofs.Ytpjpjchnfllcmaa

/- Layer 13 (mathematics): a fork that comes is kept till one has eaten. -/
namespace Go.Proofs.Ytpjpjchnfllcmaa

theorem sidesD_low {id : Int} : ∀ {L : List Sd} {last : Int}, sidesD id last L = true → ∀ (k : Nat) (b : Sd), L[k]? = some b → last < b.peer
  | [], _, _, _, _, hb => by simp at hb
  | s :: L, last, h, 0, b, hb => by
    obtain rfl : s = b := by simpa using hb
    exact sideD_low (sidesD_cons.1 h).1
  | s :: L, last, h, k + 1, b, hb => by
    have h1 := sideD_low (sidesD_cons.1 h).1
    have h2 := sidesD_low (sidesD_cons.1 h).2 k b (by simpa using hb)
    omega
theorem sidesD_lt {id : Int} : ∀ {L : List Sd} {last : Int}, sidesD id last L = true → ∀ (j k : Nat) (a b : Sd), j < k → L[j]? = some a → L[k]? = some b → a.peer < b.peer
  | [], _, _, _, _, _, _, _, ha, _ => by simp at ha
  | s :: L, last, h, 0, 0, a, b, hj, _, _ => by omega
  | s :: L, last, h, 0, k + 1, a, b, _, ha, hb => by
    obtain rfl : s = a := by simpa using ha
    exact sidesD_low (sidesD_cons.1 h).2 k b (by simpa using hb)
  | s :: L, last, h, j + 1, 0, a, b, hj, _, _ => by omega
  | s :: L, last, h, j + 1, k + 1, a, b, hj, ha, hb => sidesD_lt (sidesD_cons.1 h).2 j k a b (by omega) (by simpa using ha) (by simpa using hb)
theorem side_of {id last : Int} {L : List Sd} (h : sidesD id last L = true) {k : Nat} {u : Sd} (hu : L[k]? = some u) : sideR L u.peer = (u, true) := by
  refine sideR_at (k := k) ?_ hu (by simp)
  rw [List.any_eq_false]
  intro x hx
  obtain ⟨j, hj⟩ := List.getElem?_of_mem hx
  have hjk : j < k := by
    have := (List.getElem?_eq_some_iff.1 hj).1
    rw [List.length_take] at this; omega
  rw [List.getElem?_take_of_lt hjk] at hj
  have := sidesD_lt h j k x u hjk hj hu
  simp only [beq_iff_eq]
  omega
theorem sidesD_set {id : Int} : ∀ {L : List Sd} {last : Int} {k : Nat} {s t : Sd}, sidesD id last L = true → L[k]? = some s → t.peer = s.peer → t.epoch = s.epoch → t.state = s.state → (t.dirty && !t.fork) = false → sidesD id last (L.set k t) = true
  | [], _, _, _, _, _, hs, _, _, _, _ => by simp at hs
  | a :: L, last, 0, s, t, h, hs, e1, e2, e3, e4 => by
    obtain rfl : a = s := by simpa using hs
    rw [List.set_cons_zero]
    refine sidesD_cons.2 ⟨sideD_of (sidesD_cons.1 h).1 e1 e2 e3 e4, ?_⟩
    rw [e1]; exact (sidesD_cons.1 h).2
  | a :: L, last, k + 1, s, t, h, hs, e1, e2, e3, e4 => by
    rw [List.set_cons_succ]
    exact sidesD_cons.2 ⟨(sidesD_cons.1 h).1, sidesD_set (sidesD_cons.1 h).2 (by simpa using hs) e1 e2 e3 e4⟩
theorem dnOk_set {id ph : Int} {L : List Sd} {k : Nat} {s t : Sd} (h : dnOk ⟨id, ph, L⟩ = true) (hs : L[k]? = some s) (e1 : t.peer = s.peer) (e2 : t.epoch = s.epoch) (e3 : t.state = s.state) (e4 : (t.dirty && !t.fork) = false) : dnOk ⟨id, ph, L.set k t⟩ = true := by
  unfold dnOk at *
  rw [Bool.and_eq_true] at *
  exact ⟨head_of h.1 rfl (.inl rfl) (List.length_set ..), sidesD_set h.2 hs e1 e2 e3 e4⟩
theorem findS_spec {q : Sd → Bool} : ∀ {L : List Sd} {k : Nat} {s : Sd}, findS q L = some (k, s) → L[k]? = some s ∧ q s = true
  | [], _, _, h => by simp [findS] at h
  | t :: L, k, s, h => by
    unfold findS at h
    split at h
    · next hq =>
      simp only [Option.some.injEq, Prod.mk.injEq] at h
      obtain ⟨rfl, rfl⟩ := h
      exact ⟨rfl, hq⟩
    · rw [Option.map_eq_some_iff] at h
      obtain ⟨⟨k', s'⟩, h1, h2⟩ := h
      simp only [Prod.mk.injEq] at h2
      obtain ⟨rfl, rfl⟩ := h2
      have := findS_spec h1
      exact ⟨by simpa using this.1, this.2⟩
theorem noD_ok : dnOk noD = true := by decide
/-- what Get may answer -/
theorem getR_ways (d : Dn) (p k me : Int) (hk : k = 1 ∨ k = 2) : (∃ er, er ≠ 0 ∧ getR d p k me 0 = (noD, er)) ∨ (dnOk d = true ∧ ∃ (j : Nat) (s : Sd), d.sides[j]? = some s ∧ s.peer = p ∧ s.epoch = me ∧ (k = 1 → s.fork = false) ∧ getR d p k me 0 = (⟨d.id, d.phase, d.sides.set j (if k = 1 then { s with fork := true } else { s with token := true })⟩, 0)) := by
  unfold getR
  cases h : dnOk d
  · exact .inl ⟨130, by decide, by rw [if_neg (by simp)]⟩
  · rw [if_pos rfl]
    cases hf : findS (fun s => s.peer == p && s.epoch == me) d.sides with
    | none => exact .inl ⟨131, by decide, rfl⟩
    | some x =>
      obtain ⟨j, s⟩ := x
      obtain ⟨h1, h2⟩ := findS_spec hf
      simp only [Bool.and_eq_true, beq_iff_eq] at h2
      dsimp only
      by_cases hb : (k = 1 ∧ s.fork = true) ∨ (k = 2 ∧ s.token = true)
      · have hw : withR s k 0 = (Sd.zero, 132) := by
          unfold withR
          rw [if_neg (by omega), if_pos hb]
        rw [hw]
        exact .inl ⟨132, by decide, rfl⟩
      · have hw : withR s k 0 = ((if k = 1 then { s with fork := true } else { s with token := true }), 0) := by
          unfold withR
          rw [if_neg (by omega), if_neg hb]
          split <;> rfl
        rw [hw]
        refine .inr ⟨rfl, j, s, h1, h2.1, h2.2, fun e => ?_, rfl⟩
        cases hs : s.fork
        · rfl
        · exact absurd (.inl ⟨e, hs⟩) hb

theorem clean_vals {d x : Dn} {p me : Int} (h : getR d p 1 me 0 = (x, 0)) : ∃ (y z w : Dn) (ly lw : List Ml) (ez : Int) (u v : Sd) (bt : Bool), fireR x = (y, ly, 0) ∧ getR y p 2 me 0 = (z, ez) ∧ fireR z = (w, lw, 0) ∧ sideR y.sides p = (u, true) ∧ sideR w.sides p = (v, bt) ∧ u.fork = true ∧ (z.sides = [] ∨ v.fork = true) ∧ u.dirty = ((y.phase == 2) && (d.phase == 1)) ∧ x.sides.length = d.sides.length ∧ y.sides.length = d.sides.length ∧ z.sides.length ≤ d.sides.length := by
  rcases getR_ways d p 1 me (.inl rfl) with ⟨er, h1, h2⟩ | ⟨hd, k, s, hs, rfl, rfl, hf, h2⟩
  · rw [h2] at h
    simp only [Prod.mk.injEq] at h
    exact absurd h.2 h1
  rw [h2] at h
  simp only [if_true, Prod.mk.injEq, and_true] at h
  subst h
  obtain ⟨id, ph, L⟩ := d
  dsimp only at hs ⊢
  have hsf := hf rfl
  have hsd : s.dirty = false := by
    unfold dnOk at hd
    rw [Bool.and_eq_true] at hd
    have hk := (List.getElem?_eq_some_iff.1 hs).1
    have e : L = L.take k ++ s :: L.drop (k + 1) := by rw [← (List.getElem?_eq_some_iff.1 hs).2, List.getElem_cons_drop hk, List.take_append_drop]
    cases hc : s.dirty
    · rfl
    · have hd2 := hd.2
      dsimp only at hd2
      exfalso
      have hbad : sidesD id (-1) L = false := sides_bad id L (-1) k s hs (by
        unfold sideD; rw [hc, hsf]; simp)
      rw [hbad] at hd2; cases hd2
  have hx : dnOk ⟨id, ph, L.set k { s with fork := true }⟩ = true := dnOk_set hd hs rfl rfl rfl (by simp)
  have hsx : (L.set k { s with fork := true })[k]? = some { s with fork := true } := by
    rw [List.getElem?_set_self (List.getElem?_eq_some_iff.1 hs).1]
  have hlx : (L.set k { s with fork := true }).length = L.length := List.length_set ..
  obtain ⟨X, hX⟩ : ∃ X : Dn, X = ⟨id, ph, L.set k { s with fork := true }⟩ := ⟨_, rfl⟩
  rw [← hX] at hx ⊢
  have hXs : X.sides[k]? = some { s with fork := true } := by rw [hX]; exact hsx
  have hXp : X.phase = ph := by rw [hX]
  have hXl : X.sides.length = L.length := by rw [hX]; exact hlx
  have hnh : hot X.phase { s with fork := true } = false := by unfold hot; rw [hsd]; simp
  have hng : gone X.phase { s with fork := true } = { s with fork := true } := by unfold gone; rw [if_neg (by rw [hnh]; simp)]
  obtain ⟨u, hu, u1, u2, u3, u4, u5, u6, u7⟩ := fireD_at hXs
  have hyk := dnOk_fire hx
  have hyl := (fireD_len X).1
  have hud : u.dirty = (((fireD X).phase == 2) && (ph == 1)) := by
    have e0 : fireS1 X.phase { s with fork := true } = { s with fork := true } := by
      unfold fireS1 asked
      rw [hng, if_neg (by unfold wants; simp)]
    have hu2 := hu
    unfold fireD at hu2 ⊢
    split at hu2
    · next he =>
      rw [if_pos he]
      have hq : (dirtyAll (fireSs X.phase X.sides))[k]? = some { (fireS1 X.phase { s with fork := true }) with dirty := true } := by
        unfold dirtyAll fireSs
        rw [List.getElem?_map, List.getElem?_map, hXs]; rfl
      have hp1 : ph = 1 := by unfold eats at he; rw [Bool.and_eq_true, decide_eq_true_eq, hXp] at he; exact he.1
      have : u = { (fireS1 X.phase { s with fork := true }) with dirty := true } := by
        have := hu2.symm.trans hq; simpa using this
      rw [this, hp1]; rfl
    · next he =>
      rw [if_neg he]
      have hq : (fireSs X.phase X.sides)[k]? = some (fireS1 X.phase { s with fork := true }) := by
        unfold fireSs
        rw [List.getElem?_map, hXs]; rfl
      have : u = fireS1 X.phase { s with fork := true } := by
        have := hu2.symm.trans hq; simpa using this
      rw [this, e0]
      show s.dirty = _
      rw [hsd]
      show false = ((X.phase == 2) && (ph == 1))
      rw [hXp]
      by_cases e : ph = 1
      · rw [e]; rfl
      · simp [e]
  have huf : u.fork = true := by rw [u6, hnh]; rfl
  have hside : sideR (fireD X).sides s.peer = (u, true) := by
    have h1 : sidesD (fireD X).id (-1) (fireD X).sides = true := by unfold dnOk at hyk; rw [Bool.and_eq_true] at hyk; exact hyk.2
    have := side_of h1 hu
    rw [u1] at this
    exact this
  have hfx : fireR X = (fireD X, fireMl X, 0) := by unfold fireR; rw [if_pos hx]
  rcases getR_ways (fireD X) s.peer 2 s.epoch (.inr rfl) with ⟨er, h3, h4⟩ | ⟨_, k2, s2, hs2, hp2, he2, _, h4⟩
  · obtain ⟨⟨v, bt⟩, hv⟩ : ∃ r, sideR (fireD noD).sides s.peer = r := ⟨_, rfl⟩
    exact ⟨fireD X, noD, fireD noD, fireMl X, fireMl noD, er, u, v, bt, hfx, h4, by unfold fireR; rw [if_pos noD_ok], hside, hv, huf, .inl rfl, hud, hlx, hyl.trans hXl, Nat.zero_le _⟩
  · have h1 : sidesD (fireD X).id (-1) (fireD X).sides = true := by unfold dnOk at hyk; rw [Bool.and_eq_true] at hyk; exact hyk.2
    have hkk : k2 = k := by
      rcases Nat.lt_trichotomy k2 k with e | e | e
      · have := sidesD_lt h1 k2 k s2 u e hs2 hu; rw [u1] at this; change s2.peer < s.peer at this; omega
      · exact e
      · have := sidesD_lt h1 k k2 u s2 e hu hs2; rw [u1] at this; change s.peer < s2.peer at this; omega
    subst hkk
    obtain rfl : s2 = u := by have := hs2.symm.trans hu; simpa using this
    rw [if_neg (by decide)] at h4
    have hz : dnOk ⟨(fireD X).id, (fireD X).phase, (fireD X).sides.set k2 { s2 with token := true }⟩ = true := dnOk_set (by exact hyk) hu rfl rfl rfl (by rw [huf]; simp)
    obtain ⟨Z, hZ⟩ : ∃ Z : Dn, Z = ⟨(fireD X).id, (fireD X).phase, (fireD X).sides.set k2 { s2 with token := true }⟩ := ⟨_, rfl⟩
    rw [← hZ] at hz h4
    have hZs : Z.sides[k2]? = some { s2 with token := true } := by rw [hZ]; exact List.getElem?_set_self (List.getElem?_eq_some_iff.1 hu).1
    have hZp : Z.phase = (fireD X).phase := by rw [hZ]
    have hZl : Z.sides.length = (fireD X).sides.length := by rw [hZ]; exact List.length_set ..
    have hnz : hot Z.phase { s2 with token := true } = false := by
      rw [hot_bits, hZp]
      show ((s2.fork && s2.dirty && true) && ((fireD X).phase != 2)) = false
      rw [hud]
      cases hq : (fireD X).phase == 2
      · simp
      · have : ((fireD X).phase != 2) = false := by unfold bne; rw [hq]; rfl
        rw [this]; simp
    obtain ⟨v, hv, v1, v2, v3, v4, v5, v6, v7⟩ := fireD_at hZs
    have hwk := dnOk_fire hz
    have h5 : sidesD (fireD Z).id (-1) (fireD Z).sides = true := by unfold dnOk at hwk; rw [Bool.and_eq_true] at hwk; exact hwk.2
    have hvs := side_of h5 hv
    rw [v1] at hvs
    change sideR (fireD Z).sides s2.peer = (v, true) at hvs
    rw [hp2] at hvs
    refine ⟨fireD X, Z, fireD Z, fireMl X, fireMl Z, 0, s2, v, true, hfx, h4, by unfold fireR; rw [if_pos hz], hside, hvs, huf, .inr ?_, hud, hlx, hyl.trans hXl, ?_⟩
    · rw [v6, hnz]
      show (s2.fork && true) = true
      rw [huf]; rfl
    · rw [hZl, hyl, hXl]; exact Nat.le_refl _

end Go.Proofs.Ytpjpjchnfllcmaa
