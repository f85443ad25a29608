/- Layer 17, the program: a book is looked at session by session; whether it may be. -/
import Derived.Test.YtgcnjkabpcbkgaaHP2
import Derived.Deep.DeepCutAuto
import Derived.Deep.CutBlock
namespace Go.Proofs.Ytgcnjkabpcbkgaa
open Go.RowKit

set_option maxRecDepth 100000 in
set_option maxHeartbeats 4000000 in
theorem faults1H_any (W : World) (g1 g2 : Nat) (a n id st ag : Int) (u : Value) (N : List Int) (hu : Sa (fun k => k = g1) W u N) (h1 : W.heap[g1]? = some (.cells #[.int .i64 a] 3 (0, 0))) (h2 : W.heap[g2]? = some (.cells #[.int .i64 n] 3 (0, 0))) (t : Bool) (ht : faultH n a ⟨id, N, st, ag⟩ = t) :
    Calls Try.prog 54 #[.agg #[.int .i64 id, u, .int .i64 st, .int .i64 ag], .pointer (some ⟨g1, 0, none⟩), .pointer (some ⟨g2, 0, none⟩)] W fun e W' => e = .returned (.bool t) ∧ Off (fun k => k = g1) W W' ∧ W'.heap[g1]? = some (.cells #[.int .i64 id] 3 (0, 0)) := by
  unfold faultH waitH at ht
  dsimp only at ht
  obtain ⟨ao, c, rfl⟩ := hu.sl.len
  obtain ⟨b5, hb5⟩ : ∃ b, (a == 0) = b := ⟨_, rfl⟩
  obtain ⟨bV, hbV⟩ : ∃ b, decide (SS N) = b := ⟨_, rfl⟩
  obtain ⟨bF, hbF⟩ : ∃ b, fitsH N = b := ⟨_, rfl⟩
  obtain ⟨gr, hgr⟩ : ∃ b, decide (st = 1) = b := ⟨_, rfl⟩
  rw [hb5, hbV, hbF, hgr] at ht
  have HT := Lib.hid ht
  have HV := Lib.hid hbV
  have HFI := Lib.hid hbF
  have HGR := Lib.hid hgr
  have HG1 := Lib.hid h1
  have HG2 := Lib.hid h2
  have hl1 := blk_lt h1
  have hl2 := blk_lt h2
  obtain ⟨W1, hW1⟩ : ∃ W1, W1 = W.alloc (.cells #[.int .i64 id, .slice ao N.length c, .int .i64 st, .int .i64 ag] 41) := ⟨_, rfl⟩
  have X1 : Hid (Ext W W1) := Lib.hid (hW1 ▸ (Ext.refl W).alloc _)
  have D1 : Hid (W1.heap[W.heap.size]? = some (.cells #[.int .i64 id, .slice ao N.length c, .int .i64 st, .int .i64 ag] 41 (0, 0))) := Lib.hid (hW1 ▸ at0 W _)
  have HU : Hid (Sa (fun k => k = g1) W1 (.slice ao N.length c) N) := Lib.hid (hu.ext X1.out)
  have HW1 := Lib.hid hW1
  clear ht hbV hbF hgr h1 h2 hu hW1
  go_enter Try.func54, Try.ntmps54
  go_upto_region 1 with (fail)
  rw [← HW1.out]
  have x0 := blk_cell D1.out 0 rfl
  have k1 := blk_cell (keepU HG1.out X1.out) 0 rfl
  have k2 := blk_cell (keepU HG2.out X1.out) 0 rfl
  go_cut [5, 6] (fun s5 s6 wx => ∃ b, s5 = .bool b5 ∧ s6 = .bool b ∧ Hid (Ext W1 wx) ∧ Hid (b = (decide (a < id) && decide (id ≤ n))))
  case first =>
    by_cases e1 : a < id
    · by_cases e2 : id ≤ n
      · have HB : Hid (true = (decide (a < id) && decide (id ≤ n))) := Lib.hid (by rw [decide_eq_true e1, decide_eq_true e2]; rfl)
        have q1 := decide_eq_true e1
        have q2 := decide_eq_true e2
        clear e1 e2
        go_quiet (fail)
        go_wp2_with fail
        go_meet
        exact ⟨_, rfl, rfl, Lib.hid (by repeat (first | exact Ext.refl _ | assumption | refine Ext.alloc ?_ _ | refine Ext.drew ?_ | refine Ext.drewN ?_ _)), HB⟩
      · have HB : Hid (false = (decide (a < id) && decide (id ≤ n))) := Lib.hid (by rw [decide_eq_false e2, Bool.and_false])
        have q1 := decide_eq_true e1
        have q2 := decide_eq_false e2
        clear e1 e2
        go_quiet (fail)
        go_wp2_with fail
        go_meet
        exact ⟨_, rfl, rfl, Lib.hid (by repeat (first | exact Ext.refl _ | assumption | refine Ext.alloc ?_ _ | refine Ext.drew ?_ | refine Ext.drewN ?_ _)), HB⟩
    · have HB : Hid (false = (decide (a < id) && decide (id ≤ n))) := Lib.hid (by rw [decide_eq_false e1]; rfl)
      have q1 := decide_eq_false e1
      clear e1
      go_quiet (fail)
      go_wp2_with fail
      go_meet
      exact ⟨_, rfl, rfl, Lib.hid (by repeat (first | exact Ext.refl _ | assumption | refine Ext.alloc ?_ _ | refine Ext.drew ?_ | refine Ext.drewN ?_ _)), HB⟩
  case rest =>
    obtain ⟨b6, rfl, rfl, XX, HB6⟩ := hcut
    clear x0 k1 k2
    have x0 := blk_cell (keepU D1.out XX.out) 0 rfl
    have fr := blk_free (keepU HG1.out (X1.out.trans XX.out)) 0
    have k1 := blk_cell (keepU HG1.out (X1.out.trans XX.out)) 0 rfl
    go_upto_region 3 with (fail)
    obtain ⟨W2, hW2⟩ : ∃ W2, W2 = wc.setCell ⟨g1, 0, none⟩ (.int .i64 id) := ⟨_, rfl⟩
    rw [← hW2]
    have oS : Off (fun k => k = g1) wc W2 := hW2 ▸ off_set wc ⟨g1, 0, none⟩ _
    have D2 : Hid (W2.heap[W.heap.size]? = some (.cells #[.int .i64 id, .slice ao N.length c, .int .i64 st, .int .i64 ag] 41 (0, 0))) := Lib.hid (oS.blk (keepU D1.out XX.out) (by omega))
    have G2 : Hid (W2.heap[g1]? = some (.cells #[.int .i64 id] 3 (0, 0))) := Lib.hid (by rw [hW2, blk_set (keepU HG1.out (X1.out.trans XX.out))]; rfl)
    have O2 : Hid (Off (fun k => k = g1) W W2) := Lib.hid ((Off.of_ext (X1.out.trans XX.out)).trans oS (Grows.refl _ _))
    have U2 : Hid (Sl W2 (.slice ao N.length c) N) := Lib.hid ((HU.out.ext XX.out).sl.off (HU.out.ext XX.out).2 oS)
    clear hW2 oS x0 fr k1
    obtain ⟨⟨x0, x1⟩, x2, x3⟩ : (W2.cell? ⟨W.heap.size, 0, none⟩ = some (.int .i64 id) ∧ W2.cell? ⟨W.heap.size, 1, none⟩ = some (.slice ao N.length c)) ∧ W2.cell? ⟨W.heap.size, 2, none⟩ = some (.int .i64 st) ∧ W2.cell? ⟨W.heap.size, 3, none⟩ = some (.int .i64 ag) := ⟨⟨blk_cell D2.out 0 rfl, blk_cell D2.out 1 rfl⟩, blk_cell D2.out 2 rfl, blk_cell D2.out 3 rfl⟩
    go_cut [7] (fun s7 wx => ∃ b, s7 = .bool b ∧ W2 = wx ∧ Hid (b = (decide (st = 0) && decide (ag = 0))))
    case first =>
      by_cases e1 : st = 0
      · obtain ⟨d, hd⟩ : ∃ d, (ag == 0) = d := ⟨_, rfl⟩
        have q1 : (st == 0) = true := by simpa using e1
        have HB : Hid (d = (decide (st = 0) && decide (ag = 0))) := Lib.hid (by rw [decide_eq_true e1, Bool.true_and, ← hd]; rfl)
        clear e1
        go_wp2_with fail
        go_meet
        exact ⟨_, rfl, rfl, HB⟩
      · have q1 : (st == 0) = false := by simpa using e1
        have HB : Hid (false = (decide (st = 0) && decide (ag = 0))) := Lib.hid (by rw [decide_eq_false e1]; rfl)
        clear e1
        go_wp2_with fail
        go_meet
        exact ⟨_, rfl, rfl, HB⟩
    case rest =>
      obtain ⟨b7, rfl, rfl, HB7⟩ := hcut
      go_upto_region 4 with (fail)
      go_cut [8] (fun s8 wx => ∃ b, s8 = .bool b ∧ Hid (Ext W2 wx) ∧ Hid (b = ((gr && decide (0 ≤ ag)) && b5)))
      case first =>
        cases gr
        · go_wp2_with (first
            | (go_at_call 42; refine (granted_any W2 id st ag _ N U2.out _ HGR.out).mono ?_; rintro e w3 ⟨rfl, hx⟩; have X3 : Hid (Ext W2 w3) := Lib.hid hx; clear hx))
          go_meet
          exact ⟨_, rfl, X3, Lib.hid rfl⟩
        · by_cases e3 : 0 ≤ ag
          · have HB : Hid (b5 = ((true && decide (0 ≤ ag)) && b5)) := Lib.hid (by rw [decide_eq_true e3]; rfl)
            go_wp2_with (first
              | (go_at_call 42; refine (granted_any W2 id st ag _ N U2.out _ HGR.out).mono ?_; rintro e w3 ⟨rfl, hx⟩; have X3 : Hid (Ext W2 w3) := Lib.hid hx; clear hx x0 x1 x2 x3; have x3 := blk_cell (keepU D2.out X3.out) 3 rfl))
            go_meet
            exact ⟨_, rfl, X3, HB⟩
          · have HB : Hid (false = ((true && decide (0 ≤ ag)) && b5)) := Lib.hid (by rw [decide_eq_false e3]; rfl)
            go_wp2_with (first
              | (go_at_call 42; refine (granted_any W2 id st ag _ N U2.out _ HGR.out).mono ?_; rintro e w3 ⟨rfl, hx⟩; have X3 : Hid (Ext W2 w3) := Lib.hid hx; clear hx x0 x1 x2 x3; have x3 := blk_cell (keepU D2.out X3.out) 3 rfl))
            go_meet
            exact ⟨_, rfl, X3, HB⟩
      case rest =>
        obtain ⟨b8, rfl, X3, HB8⟩ := hcut
        have HF : Hid (t = (!b6 || (!bV || (!bF || (!b7 && !b8))))) := Lib.hid (by rw [← HT.out, HB6.out, HB7.out, HB8.out])
        have U3 := Lib.hid (U2.out.ext X3.out)
        have D3 := Lib.hid (keepU D2.out X3.out)
        clear HT HB6 HB7 HB8 x0 x1 x2 x3 XX
        have x1 := blk_cell D3.out 1 rfl
        cases b6
        · go_wp2
          go_ret
          exact ⟨ret_bool (by rw [HF.out]; rfl), O2.out.ext X3.out, keepU G2.out X3.out⟩
        cases bV
        · go_wp2_with (first
            | (go_at_call 55; refine (setValid_val wc _ N U3.out _ HV.out).mono ?_; rintro e w4 ⟨rfl, hx⟩; have X4 : Hid (Ext W2 w4) := Lib.hid (X3.out.trans hx); clear hx))
          go_ret
          exact ⟨ret_bool (by rw [HF.out]; rfl), O2.out.ext X4.out, keepU G2.out X4.out⟩
        cases bF
        · go_wp2_with (first
            | (go_at_call 55; refine (setValid_val wc _ N U3.out _ HV.out).mono ?_; rintro e w4 ⟨rfl, hx⟩; have X4 : Hid (Ext W2 w4) := Lib.hid (X3.out.trans hx); have x41 := blk_cell (keepU D3.out hx) 1 rfl; clear hx)
            | (go_at_call 48; refine (fits_any w4 _ N (U2.out.ext X4.out) _ HFI.out).mono ?_; rintro e w5 ⟨rfl, hx⟩; have X5 : Hid (Ext W2 w5) := Lib.hid (X4.out.trans hx); clear hx))
          go_ret
          exact ⟨ret_bool (by rw [HF.out]; rfl), O2.out.ext X5.out, keepU G2.out X5.out⟩
        cases b7
        · go_wp2_with (first
            | (go_at_call 55; refine (setValid_val wc _ N U3.out _ HV.out).mono ?_; rintro e w4 ⟨rfl, hx⟩; have X4 : Hid (Ext W2 w4) := Lib.hid (X3.out.trans hx); have x41 := blk_cell (keepU D3.out hx) 1 rfl; clear hx)
            | (go_at_call 48; refine (fits_any w4 _ N (U2.out.ext X4.out) _ HFI.out).mono ?_; rintro e w5 ⟨rfl, hx⟩; have X5 : Hid (Ext W2 w5) := Lib.hid (X4.out.trans hx); clear hx))
          go_ret
          exact ⟨ret_bool (by rw [HF.out]; rfl), O2.out.ext X5.out, keepU G2.out X5.out⟩
        · go_wp2_with (first
            | (go_at_call 55; refine (setValid_val wc _ N U3.out _ HV.out).mono ?_; rintro e w4 ⟨rfl, hx⟩; have X4 : Hid (Ext W2 w4) := Lib.hid (X3.out.trans hx); have x41 := blk_cell (keepU D3.out hx) 1 rfl; clear hx)
            | (go_at_call 48; refine (fits_any w4 _ N (U2.out.ext X4.out) _ HFI.out).mono ?_; rintro e w5 ⟨rfl, hx⟩; have X5 : Hid (Ext W2 w5) := Lib.hid (X4.out.trans hx); clear hx))
          go_ret
          exact ⟨ret_bool (by rw [HF.out]; rfl), O2.out.ext X5.out, keepU G2.out X5.out⟩
end Go.Proofs.Ytgcnjkabpcbkgaa
