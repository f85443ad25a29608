/- Layer 13, the program: whether two are the same; the law's diner of its own memory. -/
import Derived.Test.YtpjpjchnfllcmaaMUA
import Derived.Test.YtpjpjchnfllcmaaMDR
import Derived.Laws.StructEq
namespace Go.Proofs.Ytpjpjchnfllcmaa
open Go.RowKit

theorem cells3V {w : World} {g : Nat} {u0 u1 u2 : Value} {t : TypeId} (h : w.heap[g]? = some (.cells #[u0, u1, u2] t (0, 0))) :
    w.cell? ⟨g, 0, none⟩ = some u0 ∧ w.cell? ⟨g, 1, none⟩ = some u1 ∧ w.cell? ⟨g, 2, none⟩ = some u2 := ⟨blk_cell h 0 rfl, blk_cell h 1 rfl, blk_cell h 2 rfl⟩

set_option maxRecDepth 100000 in
set_option maxHeartbeats 2000000 in
theorem equal_sd (w : World) (v1 v2 : Value) (L M : List Sd) (h : Sl w v1 L) (g : Sl w v2 M) (t : Bool) (ht : decide (L = M) = t) :
    Calls Try.prog 59 #[v1, v2] w fun e w' => e = .returned (.bool t) ∧ Ext w w' := by
  obtain ⟨ao1, c1, rfl⟩ := h.len
  obtain ⟨ao2, c2, rfl⟩ := g.len
  have l1 := h.length_le
  have l2 := g.length_le
  have HS := Lib.hid h
  have HM := Lib.hid g
  have HE := Lib.hid ht
  clear h g ht
  by_cases e3 : L.length = M.length
  · have q3 : ((L.length : Int) != (M.length : Int)) = false := by simp [e3]
    have HL3 := Lib.hid e3
    clear e3
    go_enter Try.func59, Try.ntmps59
    go_wp2
    go_loopw [13] (fun i wr => ∃ k : Nat, k ≤ L.length ∧ i = .int .i64 k ∧ Hid (L.take k = M.take k) ∧ Hid (Ext w wr)) (fun i _ => L.length - (intOf i).toNat)
    case atStart => exact ⟨0, Nat.zero_le _, rfl, Lib.hid rfl, Lib.hid (Ext.refl _)⟩
    case round =>
      obtain ⟨k, hk, rfl, HQ, HX⟩ := hrel
      by_cases hlt : k < L.length
      · have hltM : k < M.length := by have := HL3.out; omega
        obtain ⟨b1, o1, y, _, hyk, rfl, hn, hnc, hc63, hb, hcell⟩ := HS.out.sidesAt hlt
        obtain ⟨b2, o2, z, _, hzk, rfl, hn', hnc', hc63', hb', hcell'⟩ := HM.out.sidesAt hltM
        have HCY : Hid (∀ V, Ext wr V → _) := Lib.hid fun V hV => hcell V (HX.out.trans hV)
        have HCZ : Hid (∀ V, Ext wr V → _) := Lib.hid fun V hV => hcell' V (HX.out.trans hV)
        have HN := Lib.hid (take_eqD hyk hzk)
        obtain ⟨s, hs⟩ : ∃ s, decide (y = z) = s := ⟨_, rfl⟩
        have HNQ := Lib.hid (neq_Sd y z s hs)
        have HYZ := Lib.hid hs
        clear hcell hcell' hyk hzk hn hn' hs
        obtain ⟨y0, y1, y2, y3, y4, y5, y6, y7⟩ := y
        obtain ⟨z0, z1, z2, z3, z4, z5, z6, z7⟩ := z
        dsimp only at HCY HCZ
        cases s
        all_goals
          go_wp2_with fail
          (refine wp_region_X_lit (K := fun W => Ext wr W) (by kernel_rfl) (fun w1 hw1 => ?_))
          have HX1 := Lib.hid (HX.out.trans hw1)
          have HW1 := Lib.hid hw1
          clear hw1
          refine xtv 0 (h := ?_)
          refine xtv 1 (h := ?_)
          refine xtv 2 (h := ?_)
          refine xtv 3 (hv := by intro w' hw'; obtain ⟨⟨⟨a0, a1⟩, a2, a3⟩, ⟨a4, a5⟩, a6, a7⟩ := HCY.out w' hw'; go_simp; first | done | with_reducible rfl) (h := ?_)
          refine xtv 4 (h := ?_)
          refine xtv 5 (h := ?_)
          refine xtv 6 (h := ?_)
          refine xtv 7 (hv := by intro w' hw'; obtain ⟨⟨⟨a0, a1⟩, a2, a3⟩, ⟨a4, a5⟩, a6, a7⟩ := HCZ.out w' hw'; go_simp; first | done | with_reducible rfl) (h := ?_)
          refine xtv 8 (hv := by intro w' hw'; obtain ⟨q1, q2⟩ := HNQ.out; go_simp; first | done | with_reducible rfl) (h := ?_)
          (refine xdone (by kernel_rfl) (HW1.out) ?_)
        · go_wp2
          go_ret
          exact ⟨ret_bool (by
            rw [← HE.out]
            exact (decide_eq_false fun e => of_decide_eq_false HYZ.out ((HN.out.1 (by rw [e])).2)).symm), HX1.out⟩
        · go_wp2
          go_roundw
          case rel => exact ⟨k + 1, by omega, by go_num, Lib.hid (HN.out.2 ⟨HQ.out, of_decide_eq_true HYZ.out⟩), HX1⟩
          case measure => simp [intOf]; omega
      · have hkl : k = L.length := by omega
        have HF : Hid (true = t) := Lib.hid (by
          have hq := HQ.out
          rw [hkl, List.take_length, HL3.out, List.take_length] at hq
          rw [← HE.out, decide_eq_true hq])
        go_wp2
        go_ret
        exact ⟨ret_bool HF.out, HX.out⟩
  · have q3 : ((L.length : Int) != (M.length : Int)) = true := by simp; omega
    have HF : Hid (false = t) := Lib.hid (by rw [← HE.out, decide_eq_false fun e => e3 (by rw [e])])
    clear e3
    go_enter Try.func59, Try.ntmps59
    go_wp2
    go_ret
    exact ⟨ret_bool HF.out, Ext.refl _⟩


set_option maxRecDepth 100000 in
set_option maxHeartbeats 4000000 in
theorem same_any (w : World) (id1 ph1 id2 ph2 : Int) (v1 v2 : Value) (L M : List Sd) (h : Sl w v1 L) (g : Sl w v2 M) (t : Bool) (ht : decide ((⟨id1, ph1, L⟩ : Dn) = ⟨id2, ph2, M⟩) = t) :
    Calls Try.prog 32 #[.agg #[.int .i64 id1, .int .i64 ph1, v1], .agg #[.int .i64 id2, .int .i64 ph2, v2]] w fun e w' => e = .returned (.bool t) ∧ Ext w w' := by
  obtain ⟨ao1, c1, rfl⟩ := h.len
  obtain ⟨ao2, c2, rfl⟩ := g.len
  obtain ⟨W0, hW0⟩ : ∃ W0, W0 = (w.alloc (.cells #[.int .i64 id1, .int .i64 ph1, .slice ao1 L.length c1] 25)).alloc (.cells #[.int .i64 id2, .int .i64 ph2, .slice ao2 M.length c2] 25) := ⟨_, rfl⟩
  have X0 : Hid (Ext w W0) := Lib.hid (hW0 ▸ ((Ext.refl w).alloc _).alloc _)
  have hD : W0.heap[w.heap.size]? = some (.cells #[.int .i64 id1, .int .i64 ph1, .slice ao1 L.length c1] 25 (0, 0)) := hW0 ▸ old1 (at0 w _) _
  have hE : W0.heap[w.heap.size + 1]? = some (.cells #[.int .i64 id2, .int .i64 ph2, .slice ao2 M.length c2] 25 (0, 0)) := hW0 ▸ at1 w _ _
  obtain ⟨s, hs⟩ : ∃ s, decide (L = M) = s := ⟨_, rfl⟩
  have HC := Lib.hid (equal_sd W0 _ _ L M (h.ext X0.out) (g.ext X0.out) s hs)
  have HW0 := Lib.hid hW0
  have HT : Hid ((decide (id1 = id2) && (decide (ph1 = ph2) && s)) = t) := Lib.hid (by
    rw [← ht, ← hs]
    by_cases h1 : id1 = id2 <;> by_cases h2 : ph1 = ph2 <;> by_cases h3 : L = M <;> simp [h1, h2, h3])
  have d0 := blk_cell hD 0 rfl
  have d1 := blk_cell hD 1 rfl
  have d2 := blk_cell hD 2 rfl
  have e0 := blk_cell hE 0 rfl
  have e1 := blk_cell hE 1 rfl
  have e2 := blk_cell hE 2 rfl
  clear h g hW0 hD hE hs ht
  by_cases q1 : id1 = id2
  · have t1 : (id1 == id2) = true := by simp [q1]
    by_cases q2 : ph1 = ph2
    · have t2 : (ph1 == ph2) = true := by simp [q2]
      have HF : Hid (s = t) := Lib.hid (by rw [← HT.out, decide_eq_true q1, decide_eq_true q2]; rfl)
      clear q1 q2 HT
      go_enter Try.func32, Try.ntmps32
      go_upto_region 1 with (fail)
      rw [← HW0.out]
      go_wp2_with (first
        | (go_at_call 59; refine HC.out.mono ?_; rintro e w1 ⟨rfl, hx⟩; have X1 : Hid (Ext W0 w1) := Lib.hid hx; clear hx))
      go_ret
      exact ⟨ret_bool HF.out, X0.out.trans X1.out⟩
    · have t2 : (ph1 == ph2) = false := by simp [q2]
      have HF : Hid (false = t) := Lib.hid (by rw [← HT.out, decide_eq_false q2, Bool.false_and, Bool.and_false])
      clear q1 q2 HT
      go_enter Try.func32, Try.ntmps32
      go_upto_region 1 with (fail)
      rw [← HW0.out]
      go_wp2
      go_ret
      exact ⟨ret_bool HF.out, X0.out⟩
  · have t1 : (id1 == id2) = false := by simp [q1]
    have HF : Hid (false = t) := Lib.hid (by rw [← HT.out, decide_eq_false q1]; rfl)
    clear q1 HT
    go_enter Try.func32, Try.ntmps32
    go_upto_region 1 with (fail)
    rw [← HW0.out]
    go_wp2
    go_ret
    exact ⟨ret_bool HF.out, X0.out⟩

set_option maxRecDepth 100000 in
set_option maxHeartbeats 4000000 in
theorem own_any (w : World) (id ph : Int) (v : Value) (L : List Sd) (h : Sl w v L) (hl : L.length ≤ 1000) :
    Calls Try.prog 31 #[.agg #[.int .i64 id, .int .i64 ph, v]] w fun e w' => ∃ v', e = .returned (.agg #[.int .i64 id, .int .i64 ph, v']) ∧ Sl w' v' L ∧ Ext w w' := by
  obtain ⟨ao, c, rfl⟩ := h.len
  obtain ⟨W0, hW0⟩ : ∃ W0, W0 = (w.alloc (.cells #[.int .i64 id, .int .i64 ph, .slice ao L.length c] 25)).alloc (.cells #[.int .i64 0, .int .i64 0, .slice none 0 0] 25) := ⟨_, rfl⟩
  have X0 : Hid (Ext w W0) := Lib.hid (hW0 ▸ ((Ext.refl w).alloc _).alloc _)
  have D0 : Hid (W0.heap[w.heap.size]? = some (.cells #[.int .i64 id, .int .i64 ph, .slice ao L.length c] 25 (0, 0))) := Lib.hid (hW0 ▸ old1 (at0 w _) _)
  have R0 : Hid (W0.heap[w.heap.size + 1]? = some (.cells #[.int .i64 0, .int .i64 0, .slice none 0 0] 25 (0, 0))) := Lib.hid (hW0 ▸ at1 w _ _)
  have hs0 : W0.heap.size = w.heap.size + 2 := by rw [hW0, size_alloc, size_alloc]
  have HW0 := Lib.hid hW0
  have HS := Lib.hid (h.ext X0.out)
  clear h hW0
  go_enter Try.func31, Try.ntmps31
  go_upto_region 1 with (fail)
  rw [← HW0.out]
  have q2 : (W0.alloc (.cells #[] 53)).cell? ⟨w.heap.size, 2, none⟩ = some (.slice ao L.length c) := blk_cell (old1 D0.out _) 2 rfl
  go_upto_region 2 with (first
    | (at_builtin; refine wpList_append_sl (α := Sd) rfl (.tmp 3) (.tmp 5) rfl (w.heap.size + 2) (.slice (some ⟨_, 0, none⟩) 0 0) [] rfl ?_ _ L rfl ?_ ?_ ?_ ?_; exact (Ow.litAt W0 _ _ hs0.symm (by omega) [] (by simp)); exact (HS.out.alloc _); (first | omega | (simp; omega)); exact (by rw [size_alloc]; omega); intro v6 W6 ho6 ha6; obtain ⟨a6, n6, c6, rfl⟩ := ho6.sh; have O6 : Hid (Ow W6 (w.heap.size + 2) (.slice a6 n6 c6) L) := Lib.hid ho6; have X6 : Hid (Below (w.heap.size + 2) W0 W6) := Lib.hid (Below.trans (hs0 ▸ Ext.alloc (Ext.refl W0) _) ha6.below); have b60 := blk_cell ((X6.out.block w.heap.size (by omega)).trans D0.out) 2 rfl; have f60 := blk_free ((X6.out.block w.heap.size (by omega)).trans D0.out) 2; clear ho6 ha6))
  obtain ⟨W7, hW7⟩ : ∃ W7, W7 = W6.setCell ⟨w.heap.size, 2, none⟩ (.slice a6 n6 c6) := ⟨_, rfl⟩
  have D7 : Hid (W7.heap[w.heap.size]? = some (.cells #[.int .i64 id, .int .i64 ph, .slice a6 n6 c6] 25 (0, 0))) := Lib.hid (by rw [hW7, blk_set ((X6.out.block w.heap.size (by omega)).trans D0.out)]; rfl)
  have R7 : Hid (W7.heap[w.heap.size + 1]? = some (.cells #[.int .i64 0, .int .i64 0, .slice none 0 0] 25 (0, 0))) := Lib.hid (by rw [hW7, set_other _ _ _ _ (by show w.heap.size + 1 ≠ w.heap.size; omega)]; exact (X6.out.block _ (by omega)).trans R0.out)
  have O7 : Hid (Ow W7 (w.heap.size + 2) (.slice a6 n6 c6) L) := Lib.hid (hW7 ▸ O6.out.set (d := ⟨w.heap.size, 2, none⟩) (by show w.heap.size < _; omega) _)
  have X7 : Hid (Ext w W7) := Lib.hid (hW7 ▸ below_set (Below.trans X0.out (Below.mono X6.out (by omega))) (Nat.le_refl _) _)
  rw [← hW7]
  clear hW7 O6 q2 b60 f60 X6
  obtain ⟨d0, d1, d2⟩ := cells3V D7.out
  go_wp2_with (first | refine haltst 25 ?_)
  refine .inl ?_
  refine st_l 25 (.tmp 2) (.tmp 8) (w.heap.size + 1) 0 25 #[.int .i64 0, .int .i64 0, .slice none 0 0] #[.int .i64 id, .int .i64 ph, .slice a6 n6 c6] #[.int .i64 id, .int .i64 ph, .slice a6 n6 c6] rfl rfl R7.out (by kernel_rfl) (by simp) rfl rfl ?_
  intro W9 hW9 o9
  simp only [Act.put]
  go_wp2
  exact bodyPost_ret (v := .agg #[.int .i64 id, .int .i64 ph, .slice a6 n6 c6]) (res_c rfl rfl hW9 uDiner (by kernel_rfl)) rfl ⟨_, rfl, slOffU O7.out.sl (fun b hb => (O7.out.low b hb).1) o9 (by omega), ext_off X7.out o9 (fun b hb => by omega)⟩

end Go.Proofs.Ytpjpjchnfllcmaa
