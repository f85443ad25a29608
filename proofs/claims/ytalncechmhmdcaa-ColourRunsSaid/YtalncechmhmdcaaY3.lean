/- Colours: who is near is found once; who takes a colour takes the least free one; all at once. -/
import Derived.Test.YtalncechmhmdcaaY2
namespace Go.Proofs.Ytalncechmhmdcaa
open Go.RowKit

set_option maxHeartbeats 2000000 in
theorem asker_any (w : World) (N : Int) (v : Value) (E : List Edge) (h : Sl w v E) (ok : OkG N E) :
    Calls Try.prog 29 #[.agg #[.int .i64 N, v]] w fun e w' => ∃ fv, e = .returned fv ∧ Asks w' fv N E ∧ Ext w w' := by
  obtain ⟨vo, vn, vc, rfl⟩ := h.sh
  have HS := Lib.hid h
  have HOK := Lib.hid ok
  have n0 := ok.n0
  have n64 := ok.n64
  obtain ⟨m, hm⟩ : ∃ m, m = N.toNat := ⟨_, rfl⟩
  have hNm : N = (m : Int) := by omega
  have hmf : ∀ (fn : Fn) (first cap : Array Value) (w : World), (Instr.makeFunc fn first cap).run Try.prog w = .ok (.func fn first cap) w := fun _ _ _ _ => rfl
  have HM := Lib.hid hm
  clear h ok hm
  subst hNm
  go_enter Try.func29, Try.ntmps29
  go_wp2
  go_loopw [7] (fun i wr => ∃ k : Nat, k ≤ m ∧ i = .int .i64 k ∧ Hid (AskAt w (m : Int) (.slice vo vn vc) E k wr)) (fun i _ => m - (intOf i).toNat)
  case atStart => exact ⟨0, Nat.zero_le _, rfl, Lib.hid (AskAt.start w _ _ E)⟩
  case round =>
    obtain ⟨k, hk, rfl, HA⟩ := hrel
    by_cases hlt : k < m
    · obtain ⟨ao, n, c, xs, hrow, hown, hxl, hel⟩ := HA.out.row
      have HRW := Lib.hid hrow
      have HOW := Lib.hid hown
      have HEL := Lib.hid hel
      have HAG := Lib.hid HA.out.arg
      have hs2 : w.heap.size + 2 ≤ wr.heap.size := by have := blk_lt hrow; omega
      clear hrow hown hel
      go_wp2_with fail
      (refine wp_region_X_lit (K := fun W => W.heap[w.heap.size]? = some (.cells #[.int .i64 (m : Int), .slice vo vn vc] 24 (0, 0))) (by kernel_rfl) (fun w1 hw1 => ?_))
      have HX1 := Lib.hid hw1
      have HG1 := Lib.hid ((hw1.block _ (blk_lt HAG.out)).trans HAG.out)
      have d1 := blk_cell ((hw1.block _ (blk_lt HRW.out)).trans HRW.out) 0 rfl
      clear hw1
      refine xtv 1 (hv := by intro w' hw'; have hc0 := blk_cell hw' 0 rfl; have hc1 := blk_cell hw' 1 rfl; go_simp; first | done | with_reducible rfl) (h := ?_)
      refine xtv 2 (h := ?_)
      refine xtwo 0 3 (hk := HG1.out) (h := RunX.of 0 (h := ?_)) (h' := RunX.of 3 (h := ?_))
      · go_simp
        (try (simp only [Act.put, List.setIfInBounds_toArray, List.set]))
        refine xone 3 (hk := HG1.out) (h := RunX.of 3 (h := ?_))
        go_simp
        refine (near_any w1 (m : Int) _ E (k : Int) (HS.out.ext (Ext.trans HA.out.ext HX1.out)) HOK.out).mono ?_
        rintro e2 w2 ⟨v2, rfl, ho2, hx2⟩
        obtain ⟨a2, n2, c2, rfl⟩ := ho2.sh
        have HX2 := Lib.hid (Ext.trans HX1.out hx2)
        have HO2 := Lib.hid (ho2.mono (Below.size HX1.out))
        have HG2 := Lib.hid ((HX2.out.block _ (blk_lt HAG.out)).trans HAG.out)
        have d2 := blk_cell ((HX2.out.block _ (blk_lt HRW.out)).trans HRW.out) 0 rfl
        clear ho2 hx2
        dsimp only
        (try (simp only [Act.put, List.setIfInBounds_toArray, List.set]))
        refine xone 4 (hk := HG2.out) (h := RunX.of 4 (h := ?_))
        go_simp
        (try (simp only [Act.put, List.setIfInBounds_toArray, List.set]))
        refine xone 5 (hk := ((blk_alloc HG2.out (.cells #[.slice a2 n2 c2] 25)))) (h := RunX.of 5 (h := ?_))
        (refine wp_append_sl (α := IV) (.tmp 10) (.tmp 14) rfl (w.heap.size + 2) (.slice ao n c) xs rfl ?_ (.slice (some ⟨w2.heap.size, 0, none⟩) 1 1) [(⟨a2, n2, c2⟩ : IV)] rfl ?_ ?_ ?_ ?_; exact ((HOW.out.ext HX2.out).alloc _); exact (Sl.litAt w2 _ rfl [(⟨a2, n2, c2⟩ : IV)] (show (1 : Nat) ≤ 1000000 by decide)); (first | omega | (simp; omega)); (rw [size_alloc]; have hx := Below.size HX2.out; omega); intro v3 W3 ho3 ha3)
        obtain ⟨a3, n3, c3, rfl⟩ := ho3.sh
        obtain ⟨hb3, hst⟩ := HA.out.step HRW.out HOW.out hxl HEL.out HX2.out HO2.out ho3 ha3
        have k3 := blk_cell hb3 0 rfl
        have g3 := blk_free hb3 0
        have HG3 := Lib.hid ((ha3.below.block _ (by omega)).trans (blk_alloc HG2.out (.cells #[.slice a2 n2 c2] 25)))
        have HST := Lib.hid hst
        clear ho3 ha3 hst hb3
        dsimp only
        (try (simp only [Act.put, List.setIfInBounds_toArray, List.set]))
        refine xone 6 (hk := HG3.out) (h := RunX.of 6 (h := ?_))
        go_simp
        (try (simp only [Act.put, List.setIfInBounds_toArray, List.set]))
        (refine xdone (by kernel_rfl) ((set_other _ _ _ _ (by show w.heap.size ≠ w.heap.size + 1; omega)).trans HG3.out) ?_)
        go_wp2
        go_roundw
        case rel => exact ⟨k + 1, by omega, by go_num, HST⟩
        case measure => simp [intOf]; omega
      · go_simp
        refine (near_any w1 (m : Int) _ E (k : Int) (HS.out.ext (Ext.trans HA.out.ext HX1.out)) HOK.out).mono ?_
        rintro e2 w2 ⟨v2, rfl, ho2, hx2⟩
        obtain ⟨a2, n2, c2, rfl⟩ := ho2.sh
        have HX2 := Lib.hid (Ext.trans HX1.out hx2)
        have HO2 := Lib.hid (ho2.mono (Below.size HX1.out))
        have HG2 := Lib.hid ((HX2.out.block _ (blk_lt HAG.out)).trans HAG.out)
        have d2 := blk_cell ((HX2.out.block _ (blk_lt HRW.out)).trans HRW.out) 0 rfl
        clear ho2 hx2
        dsimp only
        (try (simp only [Act.put, List.setIfInBounds_toArray, List.set]))
        refine xtwo 0 4 (hk := HG2.out) (h := RunX.of 0 (h := ?_)) (h' := RunX.of 4 (h := ?_))
        · go_simp
          (try (simp only [Act.put, List.setIfInBounds_toArray, List.set]))
          refine xone 4 (hk := HG2.out) (h := RunX.of 4 (h := ?_))
          go_simp
          (try (simp only [Act.put, List.setIfInBounds_toArray, List.set]))
          refine xone 5 (hk := ((blk_alloc HG2.out (.cells #[.slice a2 n2 c2] 25)))) (h := RunX.of 5 (h := ?_))
          (refine wp_append_sl (α := IV) (.tmp 10) (.tmp 14) rfl (w.heap.size + 2) (.slice ao n c) xs rfl ?_ (.slice (some ⟨w2.heap.size, 0, none⟩) 1 1) [(⟨a2, n2, c2⟩ : IV)] rfl ?_ ?_ ?_ ?_; exact ((HOW.out.ext HX2.out).alloc _); exact (Sl.litAt w2 _ rfl [(⟨a2, n2, c2⟩ : IV)] (show (1 : Nat) ≤ 1000000 by decide)); (first | omega | (simp; omega)); (rw [size_alloc]; have hx := Below.size HX2.out; omega); intro v3 W3 ho3 ha3)
          obtain ⟨a3, n3, c3, rfl⟩ := ho3.sh
          obtain ⟨hb3, hst⟩ := HA.out.step HRW.out HOW.out hxl HEL.out HX2.out HO2.out ho3 ha3
          have k3 := blk_cell hb3 0 rfl
          have g3 := blk_free hb3 0
          have HG3 := Lib.hid ((ha3.below.block _ (by omega)).trans (blk_alloc HG2.out (.cells #[.slice a2 n2 c2] 25)))
          have HST := Lib.hid hst
          clear ho3 ha3 hst hb3
          dsimp only
          (try (simp only [Act.put, List.setIfInBounds_toArray, List.set]))
          refine xone 6 (hk := HG3.out) (h := RunX.of 6 (h := ?_))
          go_simp
          (try (simp only [Act.put, List.setIfInBounds_toArray, List.set]))
          (refine xdone (by kernel_rfl) ((set_other _ _ _ _ (by show w.heap.size ≠ w.heap.size + 1; omega)).trans HG3.out) ?_)
          go_wp2
          go_roundw
          case rel => exact ⟨k + 1, by omega, by go_num, HST⟩
          case measure => simp [intOf]; omega
        · go_simp
          (try (simp only [Act.put, List.setIfInBounds_toArray, List.set]))
          have d3 : (w2.alloc (.cells #[.slice a2 n2 c2] 25)).cell? ⟨w.heap.size + 1, 0, none⟩ = some (.slice ao n c) := (World.cell?_alloc_past _ _ _ (by have hx := Below.size HX2.out; show w.heap.size + 1 < w2.heap.size; omega)).trans d2
          refine xone 0 (hk := ((blk_alloc HG2.out (.cells #[.slice a2 n2 c2] 25)))) (h := RunX.of 0 (h := ?_))
          go_simp
          (try (simp only [Act.put, List.setIfInBounds_toArray, List.set]))
          refine xone 5 (hk := ((blk_alloc HG2.out (.cells #[.slice a2 n2 c2] 25)))) (h := RunX.of 5 (h := ?_))
          (refine wp_append_sl (α := IV) (.tmp 10) (.tmp 14) rfl (w.heap.size + 2) (.slice ao n c) xs rfl ?_ (.slice (some ⟨w2.heap.size, 0, none⟩) 1 1) [(⟨a2, n2, c2⟩ : IV)] rfl ?_ ?_ ?_ ?_; exact ((HOW.out.ext HX2.out).alloc _); exact (Sl.litAt w2 _ rfl [(⟨a2, n2, c2⟩ : IV)] (show (1 : Nat) ≤ 1000000 by decide)); (first | omega | (simp; omega)); (rw [size_alloc]; have hx := Below.size HX2.out; omega); intro v3 W3 ho3 ha3)
          obtain ⟨a3, n3, c3, rfl⟩ := ho3.sh
          obtain ⟨hb3, hst⟩ := HA.out.step HRW.out HOW.out hxl HEL.out HX2.out HO2.out ho3 ha3
          have k3 := blk_cell hb3 0 rfl
          have g3 := blk_free hb3 0
          have HG3 := Lib.hid ((ha3.below.block _ (by omega)).trans (blk_alloc HG2.out (.cells #[.slice a2 n2 c2] 25)))
          have HST := Lib.hid hst
          clear ho3 ha3 hst hb3
          dsimp only
          (try (simp only [Act.put, List.setIfInBounds_toArray, List.set]))
          refine xone 6 (hk := HG3.out) (h := RunX.of 6 (h := ?_))
          go_simp
          (try (simp only [Act.put, List.setIfInBounds_toArray, List.set]))
          (refine xdone (by kernel_rfl) ((set_other _ _ _ _ (by show w.heap.size ≠ w.heap.size + 1; omega)).trans HG3.out) ?_)
          go_wp2
          go_roundw
          case rel => exact ⟨k + 1, by omega, by go_num, HST⟩
          case measure => simp [intOf]; omega
    · have hkm : k = m := by omega
      subst hkm
      go_wp2
      go_ret
      have hq := HA.out
      refine ⟨_, rfl, AskAt.asks HOK.out (by rw [← HM.out]; exact hq), hq.ext⟩

end Go.Proofs.Ytalncechmhmdcaa
