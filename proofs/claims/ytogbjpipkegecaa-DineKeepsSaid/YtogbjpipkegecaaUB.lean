/- Layer 13, the program: whether a diner may be; a row of sides of one's own; who is hungry, who stops. -/
import Derived.Test.YtogbjpipkegecaaUA
import Derived.Test.YtogbjpipkegecaaU4
namespace Go.Proofs.Ytogbjpipkegecaa
open Go.RowKit

theorem sides_good (id : Int) : ∀ (L : List Sd) (last : Int), (∀ k s, L[k]? = some s → sideD id (lastD last (L.take k)) s = true) → sidesD id last L = true
  | [], _, _ => rfl
  | t :: L, last, h => by
    show (sideD id last t && sidesD id t.peer L) = true
    have h0 : sideD id last t = true := h 0 t rfl
    rw [h0, Bool.true_and]
    exact sides_good id L t.peer fun k s hk => h (k + 1) s hk
theorem sides_bad (id : Int) : ∀ (L : List Sd) (last : Int) (k : Nat) (s : Sd), L[k]? = some s → sideD id (lastD last (L.take k)) s = false → sidesD id last L = false
  | [], _, _, _, h, _ => by simp at h
  | t :: L, last, 0, s, h, hb => by
    obtain rfl : t = s := by simpa using h
    show (sideD id last t && sidesD id t.peer L) = false
    have hb : sideD id last t = false := hb
    rw [hb]; rfl
  | t :: L, last, k + 1, s, h, hb => by
    show (sideD id last t && sidesD id t.peer L) = false
    rw [sides_bad id L t.peer k s h hb, Bool.and_false]
theorem lastD_next {L : List Sd} {k : Nat} {s : Sd} (last : Int) (h : L[k]? = some s) : lastD last (L.take (k + 1)) = s.peer := by
  have hk := (List.getElem?_eq_some_iff.1 h).1
  rw [List.take_succ_eq_append_getElem hk, (List.getElem?_eq_some_iff.1 h).2, lastD_app]
theorem head_bits (id ph : Int) (L : List Sd) : headD ⟨id, ph, L⟩ = (decide (0 ≤ id) && decide (0 ≤ ph) && decide (ph ≤ 2) && decide ((L.length : Int) < 64)) := by
  unfold headD
  by_cases h1 : 0 ≤ id
  · rw [decide_eq_true h1, Bool.true_and, Bool.true_and]
    by_cases h2 : 0 ≤ ph
    · by_cases h3 : ph ≤ 2
      · have h4 : (decide (ph = 0) || decide (ph = 1) || decide (ph = 2)) = true := by
          simp only [Bool.or_eq_true, decide_eq_true_eq]; omega
        rw [h4, decide_eq_true h2, decide_eq_true h3]
        by_cases h5 : L.length ≤ 63
        · rw [decide_eq_true h5, decide_eq_true (show (L.length : Int) < 64 by omega)]; rfl
        · rw [decide_eq_false h5, decide_eq_false (show ¬ (L.length : Int) < 64 by omega)]; rfl
      · have h4 : (decide (ph = 0) || decide (ph = 1) || decide (ph = 2)) = false := by
          simp only [Bool.or_eq_false_iff, decide_eq_false_iff_not]; omega
        rw [h4, decide_eq_false h3]; simp
    · have h4 : (decide (ph = 0) || decide (ph = 1) || decide (ph = 2)) = false := by
        simp only [Bool.or_eq_false_iff, decide_eq_false_iff_not]; omega
      rw [h4, decide_eq_false h2]; simp
  · rw [decide_eq_false h1]; simp

/-- while a row's sides are asked -/
structure AskS (w : World) (g1 g2 : Nat) (id : Int) (L : List Sd) (k : Nat) (V : World) : Prop where
  off : Off (fun b => b = g1) w V
  last : V.heap[g1]? = some (.cells #[.int .i64 (lastD (-1) (L.take k))] 3 (0, 0))
theorem contains_faults (w : World) (v : Value) (L : List Sd) (g1 g2 : Nat) (id : Int) (h : Sl w v L) (hv : L = [] ∨ ∀ b, v.ownBlock = some b → b ≠ g1) (h1 : w.heap[g1]? = some (.cells #[.int .i64 (-1)] 3 (0, 0))) (h2 : w.heap[g2]? = some (.cells #[.int .i64 id] 3 (0, 0))) (hne : g1 ≠ g2) (t : Bool) (ht : sidesD id (-1) L = t) :
    Calls Try.prog 27 #[v, .func (.func 37) #[] #[.pointer (some ⟨g1, 0, none⟩), .pointer (some ⟨g2, 0, none⟩)]] w fun e w' => e = .returned (.bool (!t)) ∧ Off (fun b => b = g1) w w' := by
  refine (containsFunc_sd w v L 37 #[.pointer (some ⟨g1, 0, none⟩), .pointer (some ⟨g2, 0, none⟩)] (AskS w g1 g2 id L) (fun k s => !(sideD id (lastD (-1) (L.take k)) s)) (enters_of Try.func37 (by kernel_rfl) rfl) ?_ ?_ ⟨Off.refl _ _, h1⟩ (!t) ?_ ?_).mono ?_
  · exact fun k W hW => h.off (hv.imp (fun h => h) fun h b hb => h b hb) hW.off
  · intro k s W hk hW
    refine (faults_one W g1 g2 _ id s hW.last (hW.off.blk h2 (fun e => hne e.symm)) _ rfl).mono ?_
    rintro e W' ⟨rfl, ho, hl⟩
    exact ⟨rfl, hW.off.trans ho (Grows.refl _ _), by rw [lastD_next (-1) hk]; exact hl⟩
  · intro hall
    have : sidesD id (-1) L = true := sides_good id L (-1) fun k s hk => by have := hall k s hk; simpa using this
    rw [← ht, this]; rfl
  · intro k s hk hp _
    have : sidesD id (-1) L = false := sides_bad id L (-1) k s hk (by simpa using hp)
    rw [← ht, this]; rfl
  · rintro e w' ⟨rfl, k, hk⟩
    exact ⟨rfl, hk.off⟩

set_option maxRecDepth 100000 in
set_option maxHeartbeats 4000000 in
theorem dCheck_any (w : World) (id ph : Int) (v : Value) (L : List Sd) (h : Sl w v L) (t : Bool) (ht : dnOk ⟨id, ph, L⟩ = t) :
    Calls Try.prog 16 #[.agg #[.int .i64 id, .int .i64 ph, v]] w fun e w' => e = .returned (.int .i64 (cond t 0 130)) ∧ Ext w w' := by
  obtain ⟨ao, c, rfl⟩ := h.len
  have hlen := h.length_le
  obtain ⟨W1, hW1⟩ : ∃ W1, W1 = w.alloc (.cells #[.int .i64 id, .int .i64 ph, .slice ao L.length c] 25) := ⟨_, rfl⟩
  have X1 : Hid (Ext w W1) := Lib.hid (hW1 ▸ (Ext.refl w).alloc _)
  have D1 : Hid (W1.heap[w.heap.size]? = some (.cells #[.int .i64 id, .int .i64 ph, .slice ao L.length c] 25 (0, 0))) := Lib.hid (hW1 ▸ at0 w _)
  have HS : Hid (Sl W1 (.slice ao L.length c) L) := Lib.hid (h.ext X1.out)
  have HLW : Hid (L = [] ∨ ∀ b, (Value.slice ao L.length c).ownBlock = some b → b < w.heap.size) := Lib.hid h.low
  have hs1 : W1.heap.size = w.heap.size + 1 := by rw [hW1, size_alloc]
  have HW1 := Lib.hid hW1
  have HT := Lib.hid ht
  clear h ht hW1
  go_enter Try.func16, Try.ntmps16
  go_upto_region 1 with (fail)
  rw [← HW1.out]
  have d0 := blk_cell D1.out 0 rfl
  have d1 := blk_cell D1.out 1 rfl
  have d2 := blk_cell D1.out 2 rfl
  go_cut [3] (fun s3 wx => ∃ b, s3 = .bool b ∧ W1 = wx ∧ Hid (b = headD ⟨id, ph, L⟩))
  case first =>
    by_cases e1 : 0 ≤ id
    · by_cases e2 : 0 ≤ ph
      · by_cases e3 : ph ≤ 2
        · by_cases e4 : (L.length : Int) < 64
          · have HB : Hid (true = headD ⟨id, ph, L⟩) := Lib.hid (by rw [head_bits, decide_eq_true e1, decide_eq_true e2, decide_eq_true e3, decide_eq_true e4]; rfl)
            go_wp2_with fail
            go_meet
            exact ⟨_, rfl, rfl, HB⟩
          · have HB : Hid (false = headD ⟨id, ph, L⟩) := Lib.hid (by rw [head_bits, decide_eq_false e4]; simp)
            go_wp2_with fail
            go_meet
            exact ⟨_, rfl, rfl, HB⟩
        · have HB : Hid (false = headD ⟨id, ph, L⟩) := Lib.hid (by rw [head_bits, decide_eq_false e3]; simp)
          go_wp2_with fail
          go_meet
          exact ⟨_, rfl, rfl, HB⟩
      · have HB : Hid (false = headD ⟨id, ph, L⟩) := Lib.hid (by rw [head_bits, decide_eq_false e2]; simp)
        go_wp2_with fail
        go_meet
        exact ⟨_, rfl, rfl, HB⟩
    · have HB : Hid (false = headD ⟨id, ph, L⟩) := Lib.hid (by rw [head_bits, decide_eq_false e1]; simp)
      go_wp2_with fail
      go_meet
      exact ⟨_, rfl, rfl, HB⟩
  case rest =>
    obtain ⟨b, rfl, rfl, HB⟩ := hcut
    clear d0 d1 d2
    cases b
    · have HF : Hid (130 = cond t 0 (130 : Int)) := Lib.hid (by
        have : dnOk ⟨id, ph, L⟩ = false := by unfold dnOk; rw [← HB.out]; rfl
        rw [← HT.out, this]; rfl)
      go_wp2_with fail
      (refine wp_region_X_lit (K := fun V => Ext W1 V) (by kernel_rfl) (fun w1 hw1 => ?_))
      have HX := Lib.hid hw1
      clear hw1
      refine xtv 0 (h := ?_)
      refine xtv 1 (h := ?_)
      refine xtv 2 (h := ?_)
      (refine xtakeU 3 (h := ?_); (simp only [Act.put, List.setIfInBounds_toArray, List.set]))
      (refine xtakeU 4 (h := ?_); (simp only [Act.put, List.setIfInBounds_toArray, List.set]))
      (refine xtakeU 5 (h := ?_); (simp only [Act.put, List.setIfInBounds_toArray, List.set]))
      (refine xtakeU 6 (h := ?_); (simp only [Act.put, List.setIfInBounds_toArray, List.set]))
      (refine xtakeU 7 (h := ?_); (simp only [Act.put, List.setIfInBounds_toArray, List.set]))
      (refine xtakeU 8 (h := ?_); (simp only [Act.put, List.setIfInBounds_toArray, List.set]))
      refine xtv 9 (h := ?_)
      (refine xdone (by kernel_rfl) (HX.out) ?_)
      go_wp2
      go_ret
      exact ⟨ret_int HF.out, X1.out.trans HX.out⟩
    · have HF : Hid (∀ s, sidesD id (-1) L = s → s = t) := Lib.hid (fun s hs => by
        rw [← HT.out, ← hs]
        show _ = (headD ⟨id, ph, L⟩ && sidesD id (-1) L)
        rw [← HB.out, Bool.true_and])
      obtain ⟨s, hs⟩ : ∃ s, sidesD id (-1) L = s := ⟨_, rfl⟩
      have HSD := Lib.hid hs
      have HST := Lib.hid (HF.out s hs)
      clear hs HF HT HB
      go_wp2_with fail
      (refine wp_region_X_lit (K := fun V => Ext W1 V) (by kernel_rfl) (fun w1 hw1 => ?_))
      have HX := Lib.hid hw1
      clear hw1
      refine xtv 0 (h := ?_)
      refine xtv 1 (h := ?_)
      refine xtv 2 (h := ?_)
      refine xtv 3 (h := ?_)
      refine xtv 4 (hv := by intro w' hw'; have q2 := blk_cell (keepU D1.out hw') 2 rfl; go_simp; first | done | with_reducible rfl) (h := ?_)
      refine xtv 5 (h := ?_)
      refine xtv 6 (hv := by intro w' hw'; have q0 := blk_cell (keepU D1.out hw') 0 rfl; go_simp; first | done | with_reducible rfl) (h := ?_)
      refine xone 7 (hk := HX.out) (h := RunX.of 7 (h := ?_))
      go_simp
      refine (faults_any w1 id).mono ?_
      rintro e5 w5 ⟨g1, g2, rfl, m1, m2, hne, hg1, hx5⟩
      have X5 := Lib.hid (Ext.trans HX.out hx5)
      have M1 := Lib.hid m1
      have M2 := Lib.hid m2
      have HG1 : Hid (W1.heap.size ≤ g1) := Lib.hid (Nat.le_trans (Below.size HX.out) hg1)
      clear m1 m2 hx5 hg1
      dsimp only
      (try (simp only [Act.put, List.setIfInBounds_toArray, List.set]))
      refine xone 8 (hk := X5.out) (h := RunX.of 8 (h := ?_))
      go_simp
      have HCF : Hid (L = [] ∨ ∀ b, (Value.slice ao L.length c).ownBlock = some b → b ≠ g1) := Lib.hid (HLW.out.imp (fun h => h) fun h b hb e => by have := h b hb; have := HG1.out; omega)
      refine (contains_faults w5 _ L g1 g2 id (HS.out.ext X5.out) HCF.out M1.out M2.out hne s HSD.out).mono ?_
      rintro e6 w6 ⟨rfl, o6⟩
      have X6 := Lib.hid (ext_off X5.out o6 (fun k hk => by rw [hk]; exact HG1.out))
      clear o6 hne
      dsimp only
      (try (simp only [Act.put, List.setIfInBounds_toArray, List.set]))
      refine xtv 9 (h := ?_)
      (refine xdone (by kernel_rfl) (X6.out) ?_)
      have XF := Lib.hid (X1.out.trans X6.out)
      cases s
      · have HF : Hid (130 = cond t 0 (130 : Int)) := Lib.hid (by rw [← HST.out]; rfl)
        go_wp2
        go_ret
        exact ⟨ret_int HF.out, XF.out⟩
      · have HF : Hid (0 = cond t 0 (130 : Int)) := Lib.hid (by rw [← HST.out]; rfl)
        go_wp2
        go_ret
        exact ⟨ret_int HF.out, XF.out⟩

end Go.Proofs.Ytogbjpipkegecaa
