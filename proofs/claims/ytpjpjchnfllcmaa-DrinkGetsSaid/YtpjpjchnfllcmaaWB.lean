/- Layer 15, the document's answers: whether two drinkers are the same. -/
import Derived.Test.YtpjpjchnfllcmaaWA
import Derived.Test.YtpjpjchnfllcmaaWR
namespace Go.Proofs.Ytpjpjchnfllcmaa
open Go.RowKit

theorem dk_eq (id1 ph1 th1 id2 ph2 th2 : Int) (L M : List Sd) (N K : List Int) : decide ((⟨id1, ph1, L, th1, N⟩ : Dk) = ⟨id2, ph2, M, th2, K⟩) = (decide ((⟨id1, ph1, L⟩ : Dn) = ⟨id2, ph2, M⟩) && decide (th1 = th2) && decide (N = K)) := by
  simp only [Dk.mk.injEq, Dn.mk.injEq, Bool.decide_and, Bool.and_assoc]

set_option maxRecDepth 100000 in
set_option maxHeartbeats 4000000 in
theorem refDkSame_any (w : World) (id1 ph1 th1 id2 ph2 th2 : Int) (v1 v2 n1 n2 : Value) (L M : List Sd) (N K : List Int) (h : Sl w v1 L) (g : Sl w v2 M) (hn : Sl w n1 N) (gn : Sl w n2 K) (t : Bool) (ht : decide ((⟨id1, ph1, L, th1, N⟩ : Dk) = ⟨id2, ph2, M, th2, K⟩) = t) :
    Calls Try.prog 15 #[.agg #[.int .i64 id1, .int .i64 ph1, v1, .int .i64 th1, n1], .agg #[.int .i64 id2, .int .i64 ph2, v2, .int .i64 th2, n2]] w fun e w' => e = .returned (.bool t) ∧ Ext w w' := by
  rw [dk_eq] at ht
  obtain ⟨ao, c, rfl⟩ := h.len
  obtain ⟨bo, c2, rfl⟩ := g.len
  obtain ⟨na, nc, rfl⟩ := hn.len
  obtain ⟨nb, nc2, rfl⟩ := gn.len
  obtain ⟨W0, hW0⟩ : ∃ W0, W0 = (w.alloc (.cells #[.int .i64 id1, .int .i64 ph1, .slice ao L.length c, .int .i64 th1, .slice na N.length nc] 29)).alloc (.cells #[.int .i64 id2, .int .i64 ph2, .slice bo M.length c2, .int .i64 th2, .slice nb K.length nc2] 29) := ⟨_, rfl⟩
  have X0 : Hid (Ext w W0) := Lib.hid (hW0 ▸ ((Ext.refl w).alloc _).alloc _)
  have b1 : W0.heap[w.heap.size]? = _ := hW0 ▸ old1 (at0 w _) _
  have b2 : W0.heap[w.heap.size + 1]? = _ := hW0 ▸ at1 w _ _
  have HK : Hid (∀ V, Ext W0 V → ((V.cell? ⟨w.heap.size, 0, none⟩ = some (.int .i64 id1) ∧ V.cell? ⟨w.heap.size, 1, none⟩ = some (.int .i64 ph1) ∧ V.cell? ⟨w.heap.size, 2, none⟩ = some (.slice ao L.length c)) ∧ V.cell? ⟨w.heap.size, 3, none⟩ = some (.int .i64 th1) ∧ V.cell? ⟨w.heap.size, 4, none⟩ = some (.slice na N.length nc)) ∧
      (V.cell? ⟨w.heap.size + 1, 0, none⟩ = some (.int .i64 id2) ∧ V.cell? ⟨w.heap.size + 1, 1, none⟩ = some (.int .i64 ph2) ∧ V.cell? ⟨w.heap.size + 1, 2, none⟩ = some (.slice bo M.length c2)) ∧ V.cell? ⟨w.heap.size + 1, 3, none⟩ = some (.int .i64 th2) ∧ V.cell? ⟨w.heap.size + 1, 4, none⟩ = some (.slice nb K.length nc2)) := Lib.hid fun V hV => by
    have q1 := keepU b1 hV
    have q2 := keepU b2 hV
    exact ⟨⟨⟨blk_cell q1 0 rfl, blk_cell q1 1 rfl, blk_cell q1 2 rfl⟩, blk_cell q1 3 rfl, blk_cell q1 4 rfl⟩, ⟨blk_cell q2 0 rfl, blk_cell q2 1 rfl, blk_cell q2 2 rfl⟩, blk_cell q2 3 rfl, blk_cell q2 4 rfl⟩
  have HS := Lib.hid (h.ext X0.out)
  have HG := Lib.hid (g.ext X0.out)
  have HN := Lib.hid (hn.ext X0.out)
  have HM := Lib.hid (gn.ext X0.out)
  have HW0 := Lib.hid hW0
  obtain ⟨s, hs⟩ : ∃ s, decide ((⟨id1, ph1, L⟩ : Dn) = ⟨id2, ph2, M⟩) = s := ⟨_, rfl⟩
  obtain ⟨r, hr⟩ : ∃ r, decide (N = K) = r := ⟨_, rfl⟩
  rw [hs, hr] at ht
  have HD := Lib.hid hs
  have HR := Lib.hid hr
  have HT := Lib.hid ht
  clear h g hn gn hW0 b1 b2 hs hr ht
  cases s
  · go_enter Try.func15, Try.ntmps15
    go_upto_region 1 with (fail)
    rw [← HW0.out]
    obtain ⟨⟨⟨a0, a1, a2⟩, a3, a4⟩, ⟨c0, c1, c2⟩, c3, c4⟩ := HK.out W0 (Ext.refl _)
    go_wp2_with (go_at_call 34; refine (refSameOne_any W0 id1 ph1 id2 ph2 _ _ L M HS.out HG.out false HD.out).mono ?_; rintro e w1 ⟨rfl, x1⟩; have X1 := Lib.hid x1; clear x1)
    go_ret
    exact ⟨ret_bool (by rw [← HT.out]; rfl), X0.out.trans X1.out⟩
  by_cases e : th1 = th2
  · have hd : (th1 == th2) = true := by simpa using e
    have HE : Hid (decide (th1 = th2) = true) := Lib.hid (decide_eq_true e)
    clear e
    go_enter Try.func15, Try.ntmps15
    go_upto_region 1 with (fail)
    rw [← HW0.out]
    obtain ⟨⟨⟨a0, a1, a2⟩, a3, a4⟩, ⟨c0, c1, c2⟩, c3, c4⟩ := HK.out W0 (Ext.refl _)
    go_wp2_with (first
      | (go_at_call 34; refine (refSameOne_any W0 id1 ph1 id2 ph2 _ _ L M HS.out HG.out true HD.out).mono ?_; rintro e w1 ⟨rfl, x1⟩; have X1 := Lib.hid x1; clear a0 a1 a2 a3 a4 c0 c1 c2 c3 c4; obtain ⟨⟨⟨a0, a1, a2⟩, a3, a4⟩, ⟨c0, c1, c2⟩, c3, c4⟩ := HK.out w1 x1; clear x1)
      | (go_at_call 28; refine (refSame_val r _ _ _ N K (HN.out.ext X1.out) (HM.out.ext X1.out) HR.out).mono ?_; rintro e w2 ⟨rfl, x2⟩; have X2 := Lib.hid x2; clear x2))
    go_ret
    exact ⟨ret_bool (by rw [← HT.out, HE.out]; rfl), (X0.out.trans X1.out).trans (Drew.below X2.out _)⟩
  · have hd : (th1 == th2) = false := by simpa using e
    have HE : Hid (decide (th1 = th2) = false) := Lib.hid (decide_eq_false e)
    clear e
    go_enter Try.func15, Try.ntmps15
    go_upto_region 1 with (fail)
    rw [← HW0.out]
    obtain ⟨⟨⟨a0, a1, a2⟩, a3, a4⟩, ⟨c0, c1, c2⟩, c3, c4⟩ := HK.out W0 (Ext.refl _)
    go_wp2_with (go_at_call 34; refine (refSameOne_any W0 id1 ph1 id2 ph2 _ _ L M HS.out HG.out true HD.out).mono ?_; rintro e w1 ⟨rfl, x1⟩; have X1 := Lib.hid x1; clear a0 a1 a2 a3 a4 c0 c1 c2 c3 c4; obtain ⟨⟨⟨a0, a1, a2⟩, a3, a4⟩, ⟨c0, c1, c2⟩, c3, c4⟩ := HK.out w1 x1; clear x1)
    go_ret
    exact ⟨ret_bool (by rw [← HT.out, HE.out]; rfl), X0.out.trans X1.out⟩
end Go.Proofs.Ytpjpjchnfllcmaa
