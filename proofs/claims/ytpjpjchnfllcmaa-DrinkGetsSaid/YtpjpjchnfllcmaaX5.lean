/- Layer 15, the program: whether a drinker may be. -/
import Derived.Test.YtpjpjchnfllcmaaX4
namespace Go.Proofs.Ytpjpjchnfllcmaa
open Go.RowKit

theorem riseB_iff : ∀ N : List Int, riseB N = true ↔ SS N
  | [] => by simp [riseB, SS]
  | [a] => by simp [riseB, SS]
  | a :: b :: l => by
    have ih := riseB_iff (b :: l)
    show (decide (a < b) && riseB (b :: l)) = true ↔ SS (a :: b :: l)
    rw [Bool.and_eq_true, ih, decide_eq_true_eq]
    unfold SS
    constructor
    · rintro ⟨h2, h⟩
      refine List.pairwise_cons.2 ⟨fun x hx => ?_, h⟩
      rcases List.mem_cons.1 hx with rfl | hx
      · exact h2
      · have := (List.pairwise_cons.1 h).1 x hx; omega
    · intro h3
      exact ⟨(List.pairwise_cons.1 h3).1 b (by simp), (List.pairwise_cons.1 h3).2⟩
theorem riseB_SS (N : List Int) : riseB N = decide (SS N) := by
  rw [Bool.eq_iff_iff, riseB_iff, decide_eq_true_iff]
def fitsB (th : Int) (N : List Int) : Bool := (decide (0 ≤ th) && decide (th ≤ 2)) && ((th != 0) || ((N.length : Int) == 0))
def theirsB (L : List Sd) (N : List Int) : Bool := decide (SS N) && N.all fun p => decide (p ∈ peersL (fun _ => true) L)
theorem mem_peers {L : List Sd} {p : Int} : (L.any fun s => s.peer == p) = decide (p ∈ peersL (fun _ => true) L) := by
  unfold peersL
  rw [List.filter_eq_self.2 (fun _ _ => rfl)]
  by_cases h : p ∈ L.map (·.peer)
  · rw [decide_eq_true h, List.any_eq_true]
    obtain ⟨s, hs, e⟩ := List.mem_map.1 h
    exact ⟨s, hs, by simpa using e⟩
  · rw [decide_eq_false h, List.any_eq_false]
    intro s hs e
    exact h (List.mem_map.2 ⟨s, hs, by simpa using e⟩)
theorem chk_bits (id ph th : Int) (L : List Sd) (N : List Int) : chkK ⟨id, ph, L, th, N⟩ = (dnOk ⟨id, ph, L⟩ && fitsB th N && theirsB L N) := by
  unfold chkK fitsB theirsB Dk.dn
  dsimp only
  rw [riseB_SS]
  simp only [mem_peers]
  have e : (!(decide (th = 0) && !N.isEmpty)) = ((th != 0) || ((N.length : Int) == 0)) := by
    cases N with
    | nil => simp
    | cons a l =>
      have : ((((a :: l).length : Nat) : Int) == 0) = false := by simp only [List.length_cons, beq_eq_false_iff_ne, ne_eq]; omega
      rw [this]
      by_cases h : th = 0 <;> simp [h]
  rw [e]
  cases dnOk ⟨id, ph, L⟩ <;> cases decide (0 ≤ th) <;> cases decide (th ≤ 2) <;> cases ((th != 0) || ((N.length : Int) == 0)) <;> cases decide (SS N) <;> simp

set_option maxRecDepth 100000 in
set_option maxHeartbeats 4000000 in
theorem dkCheck_any (w : World) (id ph th : Int) (v nv : Value) (L : List Sd) (N : List Int) (h : Sl w v L) (hN : Sl w nv N) (hl : L.length ≤ 1000) (t : Bool) (ht : chkK ⟨id, ph, L, th, N⟩ = t) :
    Calls Try.prog 17 #[.agg #[.int .i64 id, .int .i64 ph, v, .int .i64 th, nv]] w fun e w' => e = .returned (.int .i64 (cond t 0 150)) ∧ Ext w w' := by
  obtain ⟨ao, c, rfl⟩ := h.len
  obtain ⟨na, nc, rfl⟩ := hN.len
  have hlenN := hN.length_le
  obtain ⟨W0, hW0⟩ : ∃ W0, W0 = w.alloc (.cells #[.int .i64 id, .int .i64 ph, .slice ao L.length c, .int .i64 th, .slice na N.length nc] 29) := ⟨_, rfl⟩
  have X0 : Hid (Ext w W0) := Lib.hid (hW0 ▸ (Ext.refl w).alloc _)
  have b0 : W0.heap[w.heap.size]? = some (.cells #[.int .i64 id, .int .i64 ph, .slice ao L.length c, .int .i64 th, .slice na N.length nc] 29 (0, 0)) := hW0 ▸ at0 w _
  have HK : Hid (∀ V, Ext W0 V → _) := Lib.hid fun V hV => cells5 (keepU b0 hV)
  have HW0 := Lib.hid hW0
  have HS := Lib.hid (h.ext X0.out)
  have HN := Lib.hid (hN.ext X0.out)
  rw [chk_bits] at ht
  obtain ⟨d, hd⟩ : ∃ d, dnOk ⟨id, ph, L⟩ = d := ⟨_, rfl⟩
  rw [hd] at ht
  have HD := Lib.hid hd
  have HT := Lib.hid ht
  clear h hN hW0 b0 hd ht
  go_enter Try.func17, Try.ntmps17
  go_upto_region 2 with (fail)
  rw [← HW0.out]
  go_cut [4] (fun s4 wx => ∃ b, s4 = .bool b ∧ W0 = wx ∧ Hid (fitsB th N = b))
  case first =>
    obtain ⟨⟨d0, d1, d2⟩, d3, d4⟩ := HK.out W0 (Ext.refl _)
    by_cases e1 : 0 ≤ th
    · by_cases e2 : th ≤ 2
      · by_cases e3 : th = 0
        · have t3 : (th != 0) = false := by simp [e3]
          have HF : Hid (fitsB th N = ((N.length : Int) == 0)) := Lib.hid (by unfold fitsB; rw [t3, decide_eq_true e1, decide_eq_true e2]; rfl)
          obtain ⟨q, hq⟩ : ∃ q, ((N.length : Int) == 0) = q := ⟨_, rfl⟩
          have HF2 : Hid (fitsB th N = q) := Lib.hid (by rw [HF.out, hq])
          clear HF
          have HTH := Lib.hid e3
          clear e3
          go_wp2_with fail
          go_meet
          exact ⟨_, rfl, rfl, HF2⟩
        · have t3 : (th != 0) = true := by simp [e3]
          have HF : Hid (fitsB th N = true) := Lib.hid (by unfold fitsB; rw [t3, decide_eq_true e1, decide_eq_true e2]; rfl)
          clear e3
          go_wp2_with fail
          go_meet
          exact ⟨_, rfl, rfl, HF⟩
      · have HF : Hid (fitsB th N = false) := Lib.hid (by unfold fitsB; rw [decide_eq_false e2]; simp)
        go_wp2_with fail
        go_meet
        exact ⟨_, rfl, rfl, HF⟩
    · have HF : Hid (fitsB th N = false) := Lib.hid (by unfold fitsB; rw [decide_eq_false e1]; simp)
      go_wp2_with fail
      go_meet
      exact ⟨_, rfl, rfl, HF⟩
  case rest =>
    obtain ⟨fb, rfl, rfl, HF⟩ := hcut
    go_upto_region 3 with (fail)
    go_cut [5] (fun s5 wx => ∃ b, s5 = .bool b ∧ Hid (Ext W0 wx) ∧ Hid (theirsB L N = b))
    case first =>
      obtain ⟨q, hq⟩ : ∃ q, decide (SS N) = q := ⟨_, rfl⟩
      have HV : Hid (∀ W, Ext W0 W → Calls Try.prog 38 #[.slice na N.length nc] W fun e w' => e = .returned (.bool q) ∧ Ext W w') := Lib.hid fun W hW => by
        rw [← hq]
        exact (setValid_any W _ N (HN.out.ext hW)).mono fun e w' hh => ⟨hh.1, Ext.of_drew hh.2⟩
      have HQ := Lib.hid hq
      clear hq
      cases q
      · have HB : Hid (theirsB L N = false) := Lib.hid (by unfold theirsB; rw [HQ.out]; rfl)
        (refine wp_region_X_lit (K := fun V => Ext W0 V) (by kernel_rfl) (fun w1 hw1 => ?_))
        have HX1 : Hid (Ext W0 w1) := Lib.hid hw1
        clear hw1
        refine xtv 0 (h := ?_)
        refine xtv 1 (hv := by intro w' hw'; obtain ⟨⟨d0, d1, d2⟩, d3, d4⟩ := HK.out w' hw'; go_simp; first | done | with_reducible rfl) (h := ?_)
        refine xone 2 (hk := HX1.out) (h := RunX.of 2 (h := ?_))
        go_simp
        refine (HV.out w1 HX1.out).mono ?_
        rintro e2 w2 ⟨rfl, x2⟩
        have X2 := Lib.hid (Ext.trans HX1.out x2)
        clear x2
        dsimp only
        (try (simp only [Act.put, List.setIfInBounds_toArray, List.set]))
        refine xtv 3 (h := ?_)
        (refine xtakeU 4 (h := ?_); (simp only [Act.put, List.setIfInBounds_toArray, List.set]))
        (refine xtakeU 5 (h := ?_); (simp only [Act.put, List.setIfInBounds_toArray, List.set]))
        (refine xtakeU 6 (h := ?_); (simp only [Act.put, List.setIfInBounds_toArray, List.set]))
        (refine xtakeU 7 (h := ?_); (simp only [Act.put, List.setIfInBounds_toArray, List.set]))
        (refine xtakeU 8 (h := ?_); (simp only [Act.put, List.setIfInBounds_toArray, List.set]))
        (refine xtakeU 9 (h := ?_); (simp only [Act.put, List.setIfInBounds_toArray, List.set]))
        refine xtv 10 (h := ?_)
        refine xtv 11 (h := ?_)
        (refine xdone (by kernel_rfl) (X2.out) ?_)
        go_wp2_with fail
        go_meet
        exact ⟨_, rfl, X2, HB⟩
      · obtain ⟨q, hq⟩ : ∃ q, (N.all fun p => decide (p ∈ peersL (fun _ => true) L)) = q := ⟨_, rfl⟩
        have HB : Hid (theirsB L N = q) := Lib.hid (by unfold theirsB; rw [HQ.out, hq]; rfl)
        have HQ2 := Lib.hid hq
        clear hq
        (refine wp_region_X_lit (K := fun V => Ext W0 V) (by kernel_rfl) (fun w1 hw1 => ?_))
        have HX1 : Hid (Ext W0 w1) := Lib.hid hw1
        clear hw1
        refine xtv 0 (h := ?_)
        refine xtv 1 (hv := by intro w' hw'; obtain ⟨⟨d0, d1, d2⟩, d3, d4⟩ := HK.out w' hw'; go_simp; first | done | with_reducible rfl) (h := ?_)
        refine xone 2 (hk := HX1.out) (h := RunX.of 2 (h := ?_))
        go_simp
        refine (HV.out w1 HX1.out).mono ?_
        rintro e2 w2 ⟨rfl, x2⟩
        have X2 := Lib.hid (Ext.trans HX1.out x2)
        clear x2
        dsimp only
        (try (simp only [Act.put, List.setIfInBounds_toArray, List.set]))
        refine xtv 3 (h := ?_)
        refine xtv 4 (h := ?_)
        refine xtv 5 (hv := by intro w' hw'; obtain ⟨⟨d0, d1, d2⟩, d3, d4⟩ := HK.out w' hw'; go_simp; first | done | with_reducible rfl) (h := ?_)
        refine xtv 6 (hv := by intro w' hw'; obtain ⟨⟨d0, d1, d2⟩, d3, d4⟩ := HK.out w' hw'; go_simp; first | done | with_reducible rfl) (h := ?_)
        refine xtv 7 (h := ?_)
        refine xone 8 (hk := X2.out) (h := RunX.of 8 (h := ?_))
        go_simp
        refine (peers_any w2 id ph th _ _ _ L N (fun _ => true) (HS.out.ext X2.out) (HN.out.ext X2.out) (tellsAny _) hl).mono ?_
        rintro e3 w3 ⟨v3, rfl, o3, x3⟩
        obtain ⟨a3, n3, c3, rfl⟩ := o3.sh
        have X3 := Lib.hid (Ext.trans X2.out x3)
        have O3 := Lib.hid o3
        clear x3 o3
        dsimp only
        (try (simp only [Act.put, List.setIfInBounds_toArray, List.set]))
        refine xone 9 (hk := X3.out) (h := RunX.of 9 (h := ?_))
        go_simp
        refine (setWithin_val w3 _ _ N (peersL (fun _ => true) L) (HN.out.ext X3.out) O3.out.sl (Nat.le_trans (peersL_len _ _) (by omega)) q HQ2.out).mono ?_
        rintro e4 w4 ⟨rfl, x4⟩
        have X4 := Lib.hid (Ext.trans X3.out x4)
        clear x4
        dsimp only
        (try (simp only [Act.put, List.setIfInBounds_toArray, List.set]))
        refine xtv 10 (h := ?_)
        refine xtv 11 (h := ?_)
        (refine xdone (by kernel_rfl) (X4.out) ?_)
        go_wp2_with fail
        go_meet
        exact ⟨_, rfl, X4, HB⟩
    case rest =>
      obtain ⟨tb, rfl, X5, HTB⟩ := hcut
      obtain ⟨⟨d0, d1, d2⟩, d3, d4⟩ := HK.out wc X5.out
      have HC := Lib.hid (dCheck_any wc id ph _ L (HS.out.ext X5.out) d HD.out)
      have HT2 : Hid ((d && fb && tb) = t) := Lib.hid (by rw [← HT.out, HF.out, HTB.out])
      clear HT HF HTB
      cases d
      · go_wp2_with (go_at_call 41; refine HC.out.mono ?_; rintro e w6 ⟨rfl, x6⟩; dsimp only [cond]; have X6 := Lib.hid x6; clear x6)
        go_ret
        exact ⟨ret_int (by rw [← HT2.out]; rfl), X0.out.trans (X5.out.trans X6.out)⟩
      · cases fb
        · go_wp2_with (go_at_call 41; refine HC.out.mono ?_; rintro e w6 ⟨rfl, x6⟩; dsimp only [cond]; have X6 := Lib.hid x6; clear x6)
          go_ret
          exact ⟨ret_int (by rw [← HT2.out]; rfl), X0.out.trans (X5.out.trans X6.out)⟩
        · cases tb
          · go_wp2_with (go_at_call 41; refine HC.out.mono ?_; rintro e w6 ⟨rfl, x6⟩; dsimp only [cond]; have X6 := Lib.hid x6; clear x6)
            go_ret
            exact ⟨ret_int (by rw [← HT2.out]; rfl), X0.out.trans (X5.out.trans X6.out)⟩
          · go_wp2_with (go_at_call 41; refine HC.out.mono ?_; rintro e w6 ⟨rfl, x6⟩; dsimp only [cond]; have X6 := Lib.hid x6; clear x6)
            go_ret
            exact ⟨ret_int (by rw [← HT2.out]; rfl), X0.out.trans (X5.out.trans X6.out)⟩
end Go.Proofs.Ytpjpjchnfllcmaa
