/- Layer 15, the laws: a drinker of its own memory; who is small. -/
import Derived.Test.YtpjpjchnfllcmaaX1
import Derived.Test.YtpjpjchnfllcmaaX2
import Derived.Test.YtpjpjchnfllcmaaUI
namespace Go.Proofs.Ytpjpjchnfllcmaa
open Go.RowKit

set_option maxRecDepth 100000 in
set_option maxHeartbeats 4000000 in
theorem dkOwn_any (w : World) (id ph th : Int) (v nv : Value) (L : List Sd) (N : List Int) (h : Sl w v L) (hN : Sl w nv N) (hl : L.length ≤ 1000) (hlN : N.length ≤ 1000) :
    Calls Try.prog 13 #[.agg #[.int .i64 id, .int .i64 ph, v, .int .i64 th, nv]] w fun e w' => ∃ v' nv', e = .returned (.agg #[.int .i64 id, .int .i64 ph, v', .int .i64 th, nv']) ∧ Sl w' v' L ∧ Sl w' nv' N ∧ Ext w w' := by
  obtain ⟨ao, c, rfl⟩ := h.len
  obtain ⟨na, nc, rfl⟩ := hN.len
  obtain ⟨W0, hW0⟩ : ∃ W0, W0 = (w.alloc (.cells #[.int .i64 id, .int .i64 ph, .slice ao L.length c, .int .i64 th, .slice na N.length nc] 29)).alloc (.cells #[.int .i64 0, .int .i64 0, .slice none 0 0, .int .i64 0, .slice none 0 0] 29) := ⟨_, rfl⟩
  have X0 : Hid (Ext w W0) := Lib.hid (hW0 ▸ ((Ext.refl w).alloc _).alloc _)
  have D0 : Hid (W0.heap[w.heap.size]? = some (.cells #[.int .i64 id, .int .i64 ph, .slice ao L.length c, .int .i64 th, .slice na N.length nc] 29 (0, 0))) := Lib.hid (hW0 ▸ old1 (at0 w _) _)
  have R0 : Hid (W0.heap[w.heap.size + 1]? = some (.cells #[.int .i64 0, .int .i64 0, .slice none 0 0, .int .i64 0, .slice none 0 0] 29 (0, 0))) := Lib.hid (hW0 ▸ at1 w _ _)
  have HW0 := Lib.hid hW0
  have HOW := Lib.hid (own_any W0 id ph _ L (h.ext X0.out) hl)
  have HNw := Lib.hid hN
  clear h hN hW0
  obtain ⟨⟨d0, d1, d2⟩, d3, d4⟩ := cells5 D0.out
  go_enter Try.func13, Try.ntmps13
  go_upto_region 1 with (fail)
  rw [← HW0.out]
  go_wp2_with (first
    | (go_at_call 31; refine HOW.out.mono ?_; rintro e w2 ⟨v2, rfl, s2, x2⟩; obtain ⟨fa, fn, fc, rfl⟩ : ∃ a n c, v2 = Value.slice a n c := (by obtain ⟨a, c, q⟩ := s2.len; exact ⟨a, _, c, q⟩); have S2 := Lib.hid s2; have X2 : Hid (Ext W0 w2) := Lib.hid x2; clear s2 x2)
    | refine haltst 25 ?_)
  refine .inl ?_
  refine st_l 25 (.tmp 6) (.tmp 5) w.heap.size 0 29 #[.int .i64 id, .int .i64 ph, .slice ao L.length c, .int .i64 th, .slice na N.length nc] #[.int .i64 id, .int .i64 ph, .slice fa fn fc] #[.int .i64 id, .int .i64 ph, .slice fa fn fc, .int .i64 th, .slice na N.length nc] rfl rfl (keepU D0.out X2.out) (by kernel_rfl) (by simp) rfl rfl ?_
  intro W4 hW4 o4
  simp only [Act.put]
  have D4 := Lib.hid hW4
  have R4 : Hid (W4.heap[w.heap.size + 1]? = some (.cells #[.int .i64 0, .int .i64 0, .slice none 0 0, .int .i64 0, .slice none 0 0] 29 (0, 0))) := Lib.hid (o4.blk (keepU R0.out X2.out) (by omega))
  have S4 : Hid (Sl W4 (.slice fa fn fc) L) := Lib.hid (S2.out.off (apartSd S2.out (keepU D0.out X2.out) (by simp)) o4)
  have X4 : Hid (Ext w W4) := Lib.hid (ext_off (X0.out.trans X2.out) o4 (fun b hb => by omega))
  have HN4 := Lib.hid (HNw.out.ext X4.out)
  clear hW4 o4 S2 d0 d1 d2 d3 d4
  have q4 : (W4.alloc (.cells #[] 3)).cell? ⟨w.heap.size, 4, none⟩ = some (.slice na N.length nc) := blk_cell (old1 D4.out _) 4 rfl
  go_upto_region 3 with (first
    | (at_builtin; refine wpList_append_sl (α := Int) rfl (.tmp 7) (.tmp 9) rfl W4.heap.size (.slice (some ⟨_, 0, none⟩) 0 0) [] rfl ?_ _ N rfl ?_ ?_ ?_ ?_; exact (Ow.litAt W4 _ _ rfl (Nat.le_refl _) [] (by simp)); exact (HN4.out.alloc _); (first | omega | (simp; omega)); exact (by rw [size_alloc]; omega); intro v6 W6 ho6 ha6; obtain ⟨a6, n6, c6, rfl⟩ := ho6.sh; have O6 : Hid (Ow W6 W4.heap.size (.slice a6 n6 c6) N) := Lib.hid ho6; have X6 : Hid (Ext W4 W6) := Lib.hid (Below.trans (Ext.alloc (Ext.refl W4) _) ha6.below); have c64 := blk_cell (keepU D4.out X6.out) 4 rfl; have f64 := blk_free (keepU D4.out X6.out) 4; clear ho6 ha6))
  obtain ⟨W7, hW7⟩ : ∃ W7, W7 = W6.setCell ⟨w.heap.size, 4, none⟩ (.slice a6 n6 c6) := ⟨_, rfl⟩
  have o7 : Off (fun k => k = w.heap.size) W6 W7 := hW7 ▸ off_set W6 ⟨w.heap.size, 4, none⟩ _
  have hz4 : w.heap.size + 2 ≤ W4.heap.size := by have := blk_lt R4.out; omega
  have D7 : Hid (W7.heap[w.heap.size]? = some (.cells #[.int .i64 id, .int .i64 ph, .slice fa fn fc, .int .i64 th, .slice a6 n6 c6] 29 (0, 0))) := Lib.hid (by rw [hW7, blk_set (keepU D4.out X6.out)]; rfl)
  have R7 := Lib.hid (o7.blk (keepU R4.out X6.out) (by omega))
  have S7 : Hid (Sl W7 (.slice fa fn fc) L) := Lib.hid ((S4.out.ext X6.out).off (apartSd (S4.out.ext X6.out) (keepU D4.out X6.out) (by simp)) o7)
  have O7 : Hid (Ow W7 W4.heap.size (.slice a6 n6 c6) N) := Lib.hid (hW7 ▸ O6.out.set (d := ⟨w.heap.size, 4, none⟩) (by show w.heap.size < _; omega) _)
  have X7 : Hid (Ext w W7) := Lib.hid (ext_off (X4.out.trans X6.out) o7 (fun b hb => by omega))
  rw [← hW7]
  clear hW7 o7 q4 c64 f64
  obtain ⟨⟨d0, d1, d2⟩, d3, d4⟩ := cells5 D7.out
  go_wp2_with (first | refine haltst 29 ?_)
  refine .inl ?_
  refine st_l 29 (.tmp 2) (.tmp 12) (w.heap.size + 1) 0 29 #[.int .i64 0, .int .i64 0, .slice none 0 0, .int .i64 0, .slice none 0 0] #[.int .i64 id, .int .i64 ph, .slice fa fn fc, .int .i64 th, .slice a6 n6 c6] #[.int .i64 id, .int .i64 ph, .slice fa fn fc, .int .i64 th, .slice a6 n6 c6] rfl rfl R7.out (by kernel_rfl) (by simp) rfl rfl ?_
  intro W9 hW9 o9
  simp only [Act.put]
  go_wp2
  exact bodyPost_ret (v := .agg #[.int .i64 id, .int .i64 ph, .slice fa fn fc, .int .i64 th, .slice a6 n6 c6]) (res_c rfl rfl hW9 uDrinker (by kernel_rfl)) rfl ⟨_, _, rfl, S7.out.off (apartSd S7.out R7.out (by simp)) o9, (owU O7.out (fun b hb => o9.block b (O7.out.low b hb).2 (by have := (O7.out.low b hb).1; omega))).sl, ext_off X7.out o9 (fun b hb => by omega)⟩

set_option maxRecDepth 100000 in
set_option maxHeartbeats 2000000 in
theorem dkFew_any (w : World) (id ph th : Int) (v nv : Value) (L : List Sd) (N : List Int) (h : Sl w v L) (hN : Sl w nv N) (t : Bool) (ht : (decide (L.length ≤ 70) && decide (N.length ≤ 70)) = t) :
    Calls Try.prog 11 #[.agg #[.int .i64 id, .int .i64 ph, v, .int .i64 th, nv]] w fun e w' => e = .returned (.bool t) ∧ Ext w w' := by
  obtain ⟨ao, c, rfl⟩ := h.len
  obtain ⟨na, nc, rfl⟩ := hN.len
  obtain ⟨W0, hW0⟩ : ∃ W0, W0 = w.alloc (.cells #[.int .i64 id, .int .i64 ph, .slice ao L.length c, .int .i64 th, .slice na N.length nc] 29) := ⟨_, rfl⟩
  have X0 : Hid (Ext w W0) := Lib.hid (hW0 ▸ (Ext.refl w).alloc _)
  have b0 : W0.heap[w.heap.size]? = some (.cells #[.int .i64 id, .int .i64 ph, .slice ao L.length c, .int .i64 th, .slice na N.length nc] 29 (0, 0)) := hW0 ▸ at0 w _
  obtain ⟨⟨d0, d1, d2⟩, d3, d4⟩ := cells5 b0
  have HW0 := Lib.hid hW0
  have HT := Lib.hid ht
  clear h hN hW0 b0 ht
  by_cases e1 : L.length ≤ 70
  · by_cases e2 : N.length ≤ 70
    · have HF : Hid (true = t) := Lib.hid (by rw [← HT.out, decide_eq_true e1, decide_eq_true e2]; rfl)
      have g1 : (L.length : Int) ≤ 70 := by omega
      have g2 : (N.length : Int) ≤ 70 := by omega
      clear HT e1 e2
      go_enter Try.func11, Try.ntmps11
      go_upto_region 1 with (fail)
      rw [← HW0.out]
      go_wp2
      go_ret
      exact ⟨ret_bool HF.out, X0.out⟩
    · have HF : Hid (false = t) := Lib.hid (by rw [← HT.out, decide_eq_true e1, decide_eq_false e2]; rfl)
      have g1 : (L.length : Int) ≤ 70 := by omega
      have g2 : ¬ (N.length : Int) ≤ 70 := by omega
      clear HT e1 e2
      go_enter Try.func11, Try.ntmps11
      go_upto_region 1 with (fail)
      rw [← HW0.out]
      go_wp2
      go_ret
      exact ⟨ret_bool HF.out, X0.out⟩
  · have HF : Hid (false = t) := Lib.hid (by rw [← HT.out, decide_eq_false e1]; rfl)
    have g1 : ¬ (L.length : Int) ≤ 70 := by omega
    clear HT e1
    go_enter Try.func11, Try.ntmps11
    go_upto_region 1 with (fail)
    rw [← HW0.out]
    go_wp2
    go_ret
    exact ⟨ret_bool HF.out, X0.out⟩
end Go.Proofs.Ytpjpjchnfllcmaa
