/- Layer 15, the document's answers: whether a drinker may be. -/
import Derived.Test.YtpjpjchnfllcmaaWB
import Derived.Test.YtpjpjchnfllcmaaME
import Derived.BigGuard
namespace Go.Proofs.Ytpjpjchnfllcmaa
open Go.RowKit

theorem rise_iff : ∀ N : List Int, riseB N = true ↔ ∀ k, k + 1 < N.length → N.getD k 0 < N.getD (k + 1) 0
  | [] => by simp [riseB]
  | [a] => by simp [riseB]
  | a :: b :: l => by
    have ih := rise_iff (b :: l)
    unfold riseB
    rw [Bool.and_eq_true, decide_eq_true_eq, ih]
    constructor
    · rintro ⟨h1, h2⟩ k hk
      cases k with
      | zero => simpa using h1
      | succ k => have := h2 k (by simp at hk ⊢; omega); simpa using this
    · intro h
      refine ⟨by simpa using h 0 (by simp), fun k hk => ?_⟩
      have := h (k + 1) (by simp at hk ⊢; omega)
      simpa using this
/-- a need at its place -/
def GoodAt (L : List Sd) (N : List Int) (k : Nat) : Prop := ¬ sideAt (N.getD k 0) L < 0 ∧ (0 < k → N.getD (k - 1) 0 < N.getD k 0)
theorem any_side {L : List Sd} {p : Int} : (L.any fun s => s.peer == p) = true ↔ ¬ sideAt p L < 0 := by
  rw [sideAt_mem, List.any_eq_true]
  constructor
  · rintro ⟨s, hs, e⟩ h
    exact h s hs (by simpa using e)
  · intro h
    apply Classical.byContradiction
    intro h2
    exact h fun s hs e => h2 ⟨s, hs, by simpa using e⟩
theorem good_all {L : List Sd} {N : List Int} : ((N.all fun p => L.any fun s => s.peer == p) && riseB N) = true ↔ ∀ k, k < N.length → GoodAt L N k := by
  rw [Bool.and_eq_true, rise_iff, List.all_eq_true]
  constructor
  · rintro ⟨h1, h2⟩ k hk
    refine ⟨any_side.1 (h1 _ (getD_mem hk)), fun h0 => ?_⟩
    have := h2 (k - 1) (by omega)
    rwa [show k - 1 + 1 = k from by omega] at this
  · intro h
    refine ⟨fun p hp => ?_, fun k hk => by have := (h (k + 1) hk).2 (by omega); simpa using this⟩
    obtain ⟨k, hk, e⟩ := List.getElem_of_mem hp
    have := (h k hk).1
    rw [show N.getD k 0 = p from by simp [hk, e]] at this
    exact any_side.2 this
def headK (d : Dk) : Bool := dnOk d.dn && (decide (0 ≤ d.thirst) && decide (d.thirst ≤ 2)) && !(decide (d.thirst = 0) && !d.need.isEmpty)
theorem chk_head (d : Dk) : chkK d = (headK d && ((d.need.all fun p => d.sides.any fun s => s.peer == p) && riseB d.need)) := by
  unfold chkK headK; rw [Bool.and_assoc]

set_option maxRecDepth 100000 in
set_option maxHeartbeats 8000000 in
theorem refDkCheck_any (w : World) (id ph th : Int) (v nv : Value) (L : List Sd) (N : List Int) (h : Sl w v L) (hN : Sl w nv N) (t : Bool) (ht : chkK ⟨id, ph, L, th, N⟩ = t) :
    Calls Try.prog 16 #[.agg #[.int .i64 id, .int .i64 ph, v, .int .i64 th, nv]] w fun e w' => e = .returned (.bool t) ∧ Ext w w' := by
  obtain ⟨ao, c, rfl⟩ := h.len
  obtain ⟨na, nc, rfl⟩ := hN.len
  have hlen := h.length_le
  have hlenN := hN.length_le
  obtain ⟨W1, hW1⟩ : ∃ W1, W1 = w.alloc (.cells #[.int .i64 id, .int .i64 ph, .slice ao L.length c, .int .i64 th, .slice na N.length nc] 29) := ⟨_, rfl⟩
  have X1 : Hid (Ext w W1) := Lib.hid (hW1 ▸ (Ext.refl w).alloc _)
  have b1 : W1.heap[w.heap.size]? = some (.cells #[.int .i64 id, .int .i64 ph, .slice ao L.length c, .int .i64 th, .slice na N.length nc] 29 (0, 0)) := hW1 ▸ at0 w _
  have HK : Hid (∀ V, Ext W1 V → (V.cell? ⟨w.heap.size, 0, none⟩ = some (.int .i64 id) ∧ V.cell? ⟨w.heap.size, 1, none⟩ = some (.int .i64 ph) ∧ V.cell? ⟨w.heap.size, 2, none⟩ = some (.slice ao L.length c)) ∧ V.cell? ⟨w.heap.size, 3, none⟩ = some (.int .i64 th) ∧ V.cell? ⟨w.heap.size, 4, none⟩ = some (.slice na N.length nc)) := Lib.hid fun V hV => by
    have q1 := keepU b1 hV
    exact ⟨⟨blk_cell q1 0 rfl, blk_cell q1 1 rfl, blk_cell q1 2 rfl⟩, blk_cell q1 3 rfl, blk_cell q1 4 rfl⟩
  have HS := Lib.hid (h.ext X1.out)
  have HN := Lib.hid (hN.ext X1.out)
  have HW1 := Lib.hid hW1
  obtain ⟨d, hd⟩ : ∃ d, dnOk ⟨id, ph, L⟩ = d := ⟨_, rfl⟩
  have hhead : headK ⟨id, ph, L, th, N⟩ = (d && (decide (0 ≤ th) && decide (th ≤ 2)) && !(decide (th = 0) && !N.isEmpty)) := by unfold headK; rw [show Dk.dn ⟨id, ph, L, th, N⟩ = ⟨id, ph, L⟩ from rfl, hd]
  rw [chk_head] at ht
  have HD := Lib.hid hd
  have HH := Lib.hid hhead
  have HT := Lib.hid ht
  clear h hN hW1 b1 hd hhead ht
  go_enter Try.func16, Try.ntmps16
  go_upto_region 1 with (fail)
  rw [← HW1.out]
  go_cut [28] (fun s28 wx => ∃ b, s28 = .bool b ∧ Hid (Ext W1 wx) ∧ Hid (headK ⟨id, ph, L, th, N⟩ = !b))
  case first =>
    obtain ⟨⟨k0, k1, k2⟩, k3, k4⟩ := HK.out W1 (Ext.refl _)
    have HCK : Hid (Calls Try.prog 35 #[.agg #[.int .i64 id, .int .i64 ph, .slice ao L.length c]] W1 fun e w' => e = .returned (.bool d) ∧ Ext W1 w') := Lib.hid (refDCheck_any W1 id ph _ L HS.out d HD.out)
    cases d
    · have HB : Hid (headK ⟨id, ph, L, th, N⟩ = !true) := Lib.hid (by rw [HH.out]; rfl)
      go_wp2_with (go_at_call 35; refine HCK.out.mono ?_; rintro e w2 ⟨rfl, x2⟩; have X2 := Lib.hid x2; clear x2)
      go_meet
      exact ⟨true, by first | rfl | (simp; omega) | (simp; done) | (simp [h1, h2]; done) | (simp; refine ⟨by omega, by omega, List.eq_nil_of_length_eq_zero (by omega)⟩) | (simp [h1, h2]; exact List.eq_nil_of_length_eq_zero (by omega)) | (simp; trace_state; fail), X2, HB⟩
    by_cases h1 : th < 0
    · have HB : Hid (headK ⟨id, ph, L, th, N⟩ = !true) := Lib.hid (by rw [HH.out, decide_eq_false (show ¬ 0 ≤ th by omega)]; rfl)
      go_wp2_with (go_at_call 35; refine HCK.out.mono ?_; rintro e w2 ⟨rfl, x2⟩; have X2 := Lib.hid x2; clear k0 k1 k2 k3 k4; obtain ⟨⟨k0, k1, k2⟩, k3, k4⟩ := HK.out w2 x2; clear x2)
      go_meet
      exact ⟨true, by first | rfl | (simp; omega) | (simp; done) | (simp [h1, h2]; done) | (simp; refine ⟨by omega, by omega, List.eq_nil_of_length_eq_zero (by omega)⟩) | (simp [h1, h2]; exact List.eq_nil_of_length_eq_zero (by omega)) | (simp; trace_state; fail), X2, HB⟩
    by_cases h2 : 2 < th
    · have HB : Hid (headK ⟨id, ph, L, th, N⟩ = !true) := Lib.hid (by rw [HH.out, decide_eq_false (show ¬ th ≤ 2 by omega)]; simp)
      go_wp2_with (go_at_call 35; refine HCK.out.mono ?_; rintro e w2 ⟨rfl, x2⟩; have X2 := Lib.hid x2; clear k0 k1 k2 k3 k4; obtain ⟨⟨k0, k1, k2⟩, k3, k4⟩ := HK.out w2 x2; clear x2)
      go_meet
      exact ⟨true, by first | rfl | (simp; omega) | (simp; done) | (simp [h1, h2]; done) | (simp; refine ⟨by omega, by omega, List.eq_nil_of_length_eq_zero (by omega)⟩) | (simp [h1, h2]; exact List.eq_nil_of_length_eq_zero (by omega)) | (simp; trace_state; fail), X2, HB⟩
    have hth : (decide (0 ≤ th) && decide (th ≤ 2)) = true := by rw [decide_eq_true (show 0 ≤ th by omega), decide_eq_true (show th ≤ 2 by omega)]; rfl
    have HTH := Lib.hid hth
    clear hth
    by_cases h3 : th = 0
    · have t3 : (th == 0) = true := by simpa using h3
      have H3 := Lib.hid (decide_eq_true h3)
      clear h3
      by_cases h4 : (0 : Int) < (N.length : Int)
      · have HB : Hid (headK ⟨id, ph, L, th, N⟩ = !true) := Lib.hid (by rw [HH.out, HTH.out, H3.out]; cases N with | nil => simp at h4 | cons a l => rfl)
        go_wp2_with (go_at_call 35; refine HCK.out.mono ?_; rintro e w2 ⟨rfl, x2⟩; have X2 := Lib.hid x2; clear k0 k1 k2 k3 k4; obtain ⟨⟨k0, k1, k2⟩, k3, k4⟩ := HK.out w2 x2; clear x2)
        go_meet
        exact ⟨true, by first | rfl | (simp; omega) | (simp; done) | (simp [h1, h2]; done) | (simp; refine ⟨by omega, by omega, List.eq_nil_of_length_eq_zero (by omega)⟩) | (simp [h1, h2]; exact List.eq_nil_of_length_eq_zero (by omega)) | (simp; trace_state; fail), X2, HB⟩
      · have HB : Hid (headK ⟨id, ph, L, th, N⟩ = !false) := Lib.hid (by rw [HH.out, HTH.out, H3.out]; cases N with | nil => rfl | cons a l => (exfalso; apply h4; simp only [List.length_cons]; omega))
        go_wp2_with (go_at_call 35; refine HCK.out.mono ?_; rintro e w2 ⟨rfl, x2⟩; have X2 := Lib.hid x2; clear k0 k1 k2 k3 k4; obtain ⟨⟨k0, k1, k2⟩, k3, k4⟩ := HK.out w2 x2; clear x2)
        go_meet
        exact ⟨false, by first | rfl | (simp; omega) | (simp; done) | (simp [h1, h2]; done) | (simp; refine ⟨by omega, by omega, List.eq_nil_of_length_eq_zero (by omega)⟩) | (simp [h1, h2]; exact List.eq_nil_of_length_eq_zero (by omega)) | (simp; trace_state; fail), X2, HB⟩
    · have t3 : (th == 0) = false := by simpa using h3
      have HB : Hid (headK ⟨id, ph, L, th, N⟩ = !false) := Lib.hid (by rw [HH.out, HTH.out, decide_eq_false h3]; rfl)
      clear h3
      go_wp2_with (go_at_call 35; refine HCK.out.mono ?_; rintro e w2 ⟨rfl, x2⟩; have X2 := Lib.hid x2; clear k0 k1 k2 k3 k4; obtain ⟨⟨k0, k1, k2⟩, k3, k4⟩ := HK.out w2 x2; clear x2)
      go_meet
      exact ⟨false, by first | rfl | (simp; omega) | (simp; done) | (simp [h1, h2]; done) | (simp; refine ⟨by omega, by omega, List.eq_nil_of_length_eq_zero (by omega)⟩) | (simp [h1, h2]; exact List.eq_nil_of_length_eq_zero (by omega)) | (simp; trace_state; fail), X2, HB⟩
  case rest =>
    obtain ⟨b, rfl, X2, HB⟩ := hcut
    clear HD HH
    cases b
    · have HA : Hid (((N.all fun p => L.any fun s => s.peer == p) && riseB N) = t) := Lib.hid (by rw [← HT.out, HB.out]; rfl)
      clear HT HB
      go_wp2
      go_loopw [3] (fun i wr => ∃ k : Nat, k ≤ N.length ∧ i = .int .i64 k ∧ Hid (∀ j, j < k → GoodAt L N j) ∧ Hid (Ext W1 wr)) (fun i _ => N.length - (intOf i).toNat)
      case atStart => exact ⟨0, Nat.zero_le _, rfl, Lib.hid (fun j hj => by omega), X2⟩
      case round =>
        obtain ⟨k, hk, rfl, HQ, HX⟩ := hrel
        obtain ⟨⟨k0, k1, k2⟩, k3, k4⟩ := HK.out wr HX.out
        by_cases hlt : k < N.length
        · rcases HN.out.ints with ⟨e, _⟩ | ⟨b1, off, c', e, hnc, hc63, hb, hpos, hcell⟩
          · rw [e] at hlt; exact absurd hlt (Nat.not_lt_zero _)
          simp only [Value.slice.injEq] at e
          obtain ⟨rfl, _, rfl⟩ := e
          obtain ⟨y, hy⟩ : ∃ y, y = N.getD k 0 := ⟨_, rfl⟩
          have HC : Hid (∀ V, Ext W1 V → V.cell? ⟨b1, off + k, none⟩ = some (.int .i64 y)) := Lib.hid fun V hV => by rw [hy]; exact (Below.cell hV (p := ⟨b1, off + k, none⟩) hb).trans (hcell k hlt)
          obtain ⟨r, hr⟩ : ∃ r, sideAt y L = r := ⟨_, rfl⟩
          have cS : Hid (∀ V, Ext W1 V → Calls Try.prog 36 #[.agg #[.int .i64 id, .int .i64 ph, .slice ao L.length c, .int .i64 th, .slice (some ⟨b1, off, none⟩) N.length nc], .int .i64 y] V fun e w' => e = .returned (.int .i64 r) ∧ Ext V w') := Lib.hid fun V hV => by rw [← hr]; exact refDSide_any V id ph th y _ _ L N (HS.out.ext hV) (HN.out.ext hV)
          have HY := Lib.hid hy
          have HCL := Lib.hid hcell
          have HR := Lib.hid hr
          clear hy hr hcell hpos
          go_upto_region 6 with (fail)
          clear k0 k1 k2 k3 k4
          by_cases hneg : r < 0
          · have HB2 : Hid (¬ GoodAt L N k) := Lib.hid fun hh => hh.1 (by rw [← HY.out, HR.out]; exact hneg)
            refine wp_region_M_lit (by kernel_rfl) ?_
            refine tv 0 (hv := by intro w' hw'; obtain ⟨⟨k0, k1, k2⟩, k3, k4⟩ := HK.out w' (HX.out.trans hw'); go_simp; first | done | with_reducible rfl) (h := ?_)
            refine tv 1 (h := ?_)
            refine tv 2 (hv := by intro w' hw'; obtain ⟨⟨k0, k1, k2⟩, k3, k4⟩ := HK.out w' (HX.out.trans hw'); go_simp; first | done | with_reducible rfl) (h := ?_)
            refine tv 3 (h := ?_)
            refine tv 4 (h := ?_)
            refine tv 5 (hv := by intro w' hw'; have hc := HC.out w' (HX.out.trans hw'); go_simp; first | done | with_reducible rfl) (h := ?_)
            (refine takeG 6 (v := ?_) (hv := fun w' hw' => ?_) (h := ?_); rotate_left; focus (go_simp; refine ⟨Ext.refl _, ?_⟩; (exact cS.out w' (HX.out.trans hw')))); (simp only [Act.put, List.setIfInBounds_toArray, List.set])
            refine tv 7 (h := ?_)
            refine tv 8 (h := ?_)
            (refine takeU 9 (h := ?_); (simp only [Act.put, List.setIfInBounds_toArray, List.set]))
            (refine takeU 10 (h := ?_); (simp only [Act.put, List.setIfInBounds_toArray, List.set]))
            (refine takeU 11 (h := ?_); (simp only [Act.put, List.setIfInBounds_toArray, List.set]))
            (refine takeU 12 (h := ?_); (simp only [Act.put, List.setIfInBounds_toArray, List.set]))
            (refine takeU 13 (h := ?_); (simp only [Act.put, List.setIfInBounds_toArray, List.set]))
            (refine takeU 14 (h := ?_); (simp only [Act.put, List.setIfInBounds_toArray, List.set]))
            (refine takeU 15 (h := ?_); (simp only [Act.put, List.setIfInBounds_toArray, List.set]))
            (refine takeU 16 (h := ?_); (simp only [Act.put, List.setIfInBounds_toArray, List.set]))
            (refine takeU 17 (h := ?_); (simp only [Act.put, List.setIfInBounds_toArray, List.set]))
            (refine takeU 18 (h := ?_); (simp only [Act.put, List.setIfInBounds_toArray, List.set]))
            (refine takeU 19 (h := ?_); (simp only [Act.put, List.setIfInBounds_toArray, List.set]))
            (refine takeU 20 (h := ?_); (simp only [Act.put, List.setIfInBounds_toArray, List.set]))
            (refine takeU 21 (h := ?_); (simp only [Act.put, List.setIfInBounds_toArray, List.set]))
            (refine takeU 22 (h := ?_); (simp only [Act.put, List.setIfInBounds_toArray, List.set]))
            (refine takeU 23 (h := ?_); (simp only [Act.put, List.setIfInBounds_toArray, List.set]))
            (refine takeU 24 (h := ?_); (simp only [Act.put, List.setIfInBounds_toArray, List.set]))
            refine tv 25 (h := ?_)
            (refine doneM (by kernel_rfl) ?_; intro w' hw'; show _)
            have HW := Lib.hid hw'
            clear hw'
            go_wp2
            go_ret
            exact ⟨ret_bool (by rw [← HA.out]; exact (Bool.eq_false_iff.2 fun hh => HB2.out (good_all.1 hh k hlt)).symm), X1.out.trans (HX.out.trans HW.out)⟩
          by_cases hk0 : 0 < (k : Int)
          · obtain ⟨m, hm⟩ : ∃ m : Int, m = (k : Int) - 1 := ⟨_, rfl⟩
            have hwj : IntKind.i64.wrap ((k : Int) - 1) = m := by rw [wrapN _ (by omega) (by omega), hm]
            have hm0 : 0 ≤ m := by omega
            have hm1 : m < (N.length : Int) := by omega
            have hmn : m.toNat = k - 1 := by omega
            have hkn : 0 < k := by omega
            obtain ⟨z, hz⟩ : ∃ z, z = N.getD (k - 1) 0 := ⟨_, rfl⟩
            have HP : Hid (∀ V, Ext W1 V → V.cell? ⟨b1, off + m.toNat, none⟩ = some (.int .i64 z)) := Lib.hid fun V hV => by rw [hz, hmn]; exact (Below.cell hV (p := ⟨b1, off + (k - 1), none⟩) hb).trans (HCL.out (k - 1) (by omega))
            have HZ := Lib.hid hz
            have HKP : Hid (0 < k) := Lib.hid (by omega)
            clear hz hm hmn
            by_cases hge : y ≤ z
            · have HB2 : Hid (¬ GoodAt L N k) := Lib.hid fun hh => by have := hh.2 HKP.out; rw [← HY.out, ← HZ.out] at this; omega
              refine wp_region_M_lit (by kernel_rfl) ?_
              refine tv 0 (hv := by intro w' hw'; obtain ⟨⟨k0, k1, k2⟩, k3, k4⟩ := HK.out w' (HX.out.trans hw'); go_simp; first | done | with_reducible rfl) (h := ?_)
              refine tv 1 (h := ?_)
              refine tv 2 (hv := by intro w' hw'; obtain ⟨⟨k0, k1, k2⟩, k3, k4⟩ := HK.out w' (HX.out.trans hw'); go_simp; first | done | with_reducible rfl) (h := ?_)
              refine tv 3 (h := ?_)
              refine tv 4 (h := ?_)
              refine tv 5 (hv := by intro w' hw'; have hc := HC.out w' (HX.out.trans hw'); go_simp; first | done | with_reducible rfl) (h := ?_)
              (refine takeG 6 (v := ?_) (hv := fun w' hw' => ?_) (h := ?_); rotate_left; focus (go_simp; refine ⟨Ext.refl _, ?_⟩; (exact cS.out w' (HX.out.trans hw')))); (simp only [Act.put, List.setIfInBounds_toArray, List.set])
              refine tv 7 (h := ?_)
              refine tv 8 (h := ?_)
              refine tv 9 (h := ?_)
              refine tv 10 (h := ?_)
              refine tv 11 (h := ?_)
              refine tv 12 (h := ?_)
              refine tv 13 (hv := by intro w' hw'; obtain ⟨⟨k0, k1, k2⟩, k3, k4⟩ := HK.out w' (HX.out.trans hw'); go_simp; first | done | with_reducible rfl) (h := ?_)
              refine tv 14 (h := ?_)
              refine tv 15 (h := ?_)
              refine tv 16 (h := ?_)
              refine tv 17 (hv := by intro w' hw'; have hc := HP.out w' (HX.out.trans hw'); go_simp; first | done | with_reducible rfl) (h := ?_)
              refine tv 18 (h := ?_)
              refine tv 19 (hv := by intro w' hw'; obtain ⟨⟨k0, k1, k2⟩, k3, k4⟩ := HK.out w' (HX.out.trans hw'); go_simp; first | done | with_reducible rfl) (h := ?_)
              refine tv 20 (h := ?_)
              refine tv 21 (h := ?_)
              refine tv 22 (hv := by intro w' hw'; have hc := HC.out w' (HX.out.trans hw'); go_simp; first | done | with_reducible rfl) (h := ?_)
              refine tv 23 (h := ?_)
              refine tv 24 (h := ?_)
              refine tv 25 (h := ?_)
              (refine doneM (by kernel_rfl) ?_; intro w' hw'; show _)
              have HW := Lib.hid hw'
              clear hw'
              go_wp2
              go_ret
              exact ⟨ret_bool (by rw [← HA.out]; exact (Bool.eq_false_iff.2 fun hh => HB2.out (good_all.1 hh k hlt)).symm), X1.out.trans (HX.out.trans HW.out)⟩
            · have HG : Hid (GoodAt L N k) := Lib.hid ⟨by rw [← HY.out, HR.out]; exact hneg, fun _ => by rw [← HY.out, ← HZ.out]; omega⟩
              refine wp_region_M_lit (by kernel_rfl) ?_
              refine tv 0 (hv := by intro w' hw'; obtain ⟨⟨k0, k1, k2⟩, k3, k4⟩ := HK.out w' (HX.out.trans hw'); go_simp; first | done | with_reducible rfl) (h := ?_)
              refine tv 1 (h := ?_)
              refine tv 2 (hv := by intro w' hw'; obtain ⟨⟨k0, k1, k2⟩, k3, k4⟩ := HK.out w' (HX.out.trans hw'); go_simp; first | done | with_reducible rfl) (h := ?_)
              refine tv 3 (h := ?_)
              refine tv 4 (h := ?_)
              refine tv 5 (hv := by intro w' hw'; have hc := HC.out w' (HX.out.trans hw'); go_simp; first | done | with_reducible rfl) (h := ?_)
              (refine takeG 6 (v := ?_) (hv := fun w' hw' => ?_) (h := ?_); rotate_left; focus (go_simp; refine ⟨Ext.refl _, ?_⟩; (exact cS.out w' (HX.out.trans hw')))); (simp only [Act.put, List.setIfInBounds_toArray, List.set])
              refine tv 7 (h := ?_)
              refine tv 8 (h := ?_)
              refine tv 9 (h := ?_)
              refine tv 10 (h := ?_)
              refine tv 11 (h := ?_)
              refine tv 12 (h := ?_)
              refine tv 13 (hv := by intro w' hw'; obtain ⟨⟨k0, k1, k2⟩, k3, k4⟩ := HK.out w' (HX.out.trans hw'); go_simp; first | done | with_reducible rfl) (h := ?_)
              refine tv 14 (h := ?_)
              refine tv 15 (h := ?_)
              refine tv 16 (h := ?_)
              refine tv 17 (hv := by intro w' hw'; have hc := HP.out w' (HX.out.trans hw'); go_simp; first | done | with_reducible rfl) (h := ?_)
              refine tv 18 (h := ?_)
              refine tv 19 (hv := by intro w' hw'; obtain ⟨⟨k0, k1, k2⟩, k3, k4⟩ := HK.out w' (HX.out.trans hw'); go_simp; first | done | with_reducible rfl) (h := ?_)
              refine tv 20 (h := ?_)
              refine tv 21 (h := ?_)
              refine tv 22 (hv := by intro w' hw'; have hc := HC.out w' (HX.out.trans hw'); go_simp; first | done | with_reducible rfl) (h := ?_)
              refine tv 23 (h := ?_)
              refine tv 24 (h := ?_)
              refine tv 25 (h := ?_)
              (refine doneM (by kernel_rfl) ?_; intro w' hw'; show _)
              have HW := Lib.hid hw'
              clear hw'
              go_wp2
              go_roundw
              case rel => exact ⟨k + 1, by omega, by go_num, Lib.hid (fun i hj => by
                rcases Nat.lt_or_ge i k with h | h
                · exact HQ.out i h
                · obtain rfl : i = k := by omega
                  exact HG.out), Lib.hid (HX.out.trans HW.out)⟩
              case measure => simp [intOf]; omega
          · have hkn : ¬ 0 < k := by omega
            have HG : Hid (GoodAt L N k) := Lib.hid ⟨by rw [← HY.out, HR.out]; exact hneg, fun h => by omega⟩
            refine wp_region_M_lit (by kernel_rfl) ?_
            refine tv 0 (hv := by intro w' hw'; obtain ⟨⟨k0, k1, k2⟩, k3, k4⟩ := HK.out w' (HX.out.trans hw'); go_simp; first | done | with_reducible rfl) (h := ?_)
            refine tv 1 (h := ?_)
            refine tv 2 (hv := by intro w' hw'; obtain ⟨⟨k0, k1, k2⟩, k3, k4⟩ := HK.out w' (HX.out.trans hw'); go_simp; first | done | with_reducible rfl) (h := ?_)
            refine tv 3 (h := ?_)
            refine tv 4 (h := ?_)
            refine tv 5 (hv := by intro w' hw'; have hc := HC.out w' (HX.out.trans hw'); go_simp; first | done | with_reducible rfl) (h := ?_)
            (refine takeG 6 (v := ?_) (hv := fun w' hw' => ?_) (h := ?_); rotate_left; focus (go_simp; refine ⟨Ext.refl _, ?_⟩; (exact cS.out w' (HX.out.trans hw')))); (simp only [Act.put, List.setIfInBounds_toArray, List.set])
            refine tv 7 (h := ?_)
            refine tv 8 (h := ?_)
            refine tv 9 (h := ?_)
            refine tv 10 (h := ?_)
            refine tv 11 (h := ?_)
            (refine takeU 12 (h := ?_); (simp only [Act.put, List.setIfInBounds_toArray, List.set]))
            (refine takeU 13 (h := ?_); (simp only [Act.put, List.setIfInBounds_toArray, List.set]))
            (refine takeU 14 (h := ?_); (simp only [Act.put, List.setIfInBounds_toArray, List.set]))
            (refine takeU 15 (h := ?_); (simp only [Act.put, List.setIfInBounds_toArray, List.set]))
            (refine takeU 16 (h := ?_); (simp only [Act.put, List.setIfInBounds_toArray, List.set]))
            (refine takeU 17 (h := ?_); (simp only [Act.put, List.setIfInBounds_toArray, List.set]))
            (refine takeU 18 (h := ?_); (simp only [Act.put, List.setIfInBounds_toArray, List.set]))
            (refine takeU 19 (h := ?_); (simp only [Act.put, List.setIfInBounds_toArray, List.set]))
            (refine takeU 20 (h := ?_); (simp only [Act.put, List.setIfInBounds_toArray, List.set]))
            (refine takeU 21 (h := ?_); (simp only [Act.put, List.setIfInBounds_toArray, List.set]))
            (refine takeU 22 (h := ?_); (simp only [Act.put, List.setIfInBounds_toArray, List.set]))
            (refine takeU 23 (h := ?_); (simp only [Act.put, List.setIfInBounds_toArray, List.set]))
            refine tv 24 (h := ?_)
            refine tv 25 (h := ?_)
            (refine doneM (by kernel_rfl) ?_; intro w' hw'; show _)
            have HW := Lib.hid hw'
            clear hw'
            go_wp2
            go_roundw
            case rel => exact ⟨k + 1, by omega, by go_num, Lib.hid (fun j hj => by
              rcases Nat.lt_or_ge j k with h | h
              · exact HQ.out j h
              · obtain rfl : j = k := by omega
                exact HG.out), Lib.hid (HX.out.trans HW.out)⟩
            case measure => simp [intOf]; omega
        · have hkl : k = N.length := by omega
          go_wp2
          go_ret
          exact ⟨ret_bool (by rw [← HA.out]; exact (good_all.2 fun j hj => HQ.out j (by omega)).symm), X1.out.trans HX.out⟩
    · have HF : Hid (false = t) := Lib.hid (by rw [← HT.out, HB.out]; rfl)
      clear HT HB
      go_wp2
      go_ret
      exact ⟨ret_bool HF.out, X1.out.trans X2.out⟩
end Go.Proofs.Ytpjpjchnfllcmaa
