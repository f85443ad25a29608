/- RingTexts. -/
import Derived.Test.YtppikneehgochaaLaw2
import Derived.OpenShut
namespace Go.Proofs.Ytppikneehgochaa
open Go.RowKit

theorem low_atS {l : List ByteArray} {w : World} {b off n c : Nat} (h : Sl w (.slice (some ⟨b, off, none⟩) n c) l) {k : Nat} (hk : k < l.length) : b < w.heap.size := by
  rcases h.low with rfl | h
  · simp at hk
  · exact h b rfl
theorem Sl.strs {w : World} {v : Value} {xs : List ByteArray} (h : Sl w v xs) :
    (xs = [] ∧ ∃ ao c, v = .slice ao 0 c) ∨
    (∃ b off c, v = .slice (some ⟨b, off, none⟩) xs.length c ∧ xs.length ≤ c ∧ c ≤ 9223372036854775807 ∧ b < w.heap.size ∧ 0 < xs.length ∧ ∀ j, j < xs.length → w.cell? ⟨b, off + j, none⟩ = some (.string (xs.getD j ⟨#[]⟩))) := by
  rcases h.parts with h | ⟨b, off, c, h1, h2, h3, h4, h5, h6⟩
  · exact .inl h
  · refine .inr ⟨b, off, c, h1, h2, h3, h4, h5, fun j hj => ?_⟩
    have := h6 j (xs.getD j ⟨#[]⟩) (by simp [hj]) 0 _ rfl
    rwa [show off + (j * Elem.k ByteArray + 0) = off + j from by show off + (j * 1 + 0) = _; omega] at this
set_option maxHeartbeats 1000000 in
theorem ringTexts_long (w : World) (room : Int) (ao : Option Addr) (c : Nat) (l : List ByteArray) (h : Sl w (.slice ao l.length c) l) (hl : 60 < l.length) :
    Calls Try.prog 7 #[.int .i64 room, .slice ao l.length c] w (GivesB w (.bool true)) := by
  have n1 := h.length_le
  clear h
  go_enter Try.func7, Try.ntmps7
  go_wp2_with fail
  refine (new_s room w.heap.size w (Nat.le_refl _)).mono ?_
  rintro e W1 ⟨rfl, _, x1⟩
  go_wp2_with fail
  refine (awake_any W1).mono ?_
  rintro e W2 ⟨rfl, x2⟩
  go_wp2_with fail
  refine (awake_any W2).mono ?_
  rintro e W3 ⟨rfl, x3⟩
  go_wp2_with fail
  go_ret
  exact ⟨rfl, (x1.trans x2).trans x3⟩

set_option maxRecDepth 100000 in
set_option maxHeartbeats 8000000 in
theorem ringTexts_short (w : World) (room : Int) (ao : Option Addr) (c : Nat) (l : List ByteArray) (h : Sl w (.slice ao l.length c) l) (hl : l.length ≤ 60) :
    Calls Try.prog 7 #[.int .i64 room, .slice ao l.length c] w (GivesB w (.bool true)) := by
  obtain ⟨m, hm⟩ : ∃ m : Nat, m = (min (max room 0) 1000).toNat := ⟨_, rfl⟩
  have hm1 : (m : Int) = min (max room 0) 1000 := by omega
  have hm2 : m ≤ 1000 := by omega
  have HM := Lib.hid hm
  have HM1 := Lib.hid hm1
  clear hm hm1
  have HS := Lib.hid h
  clear h
  go_enter Try.func7, Try.ntmps7
  go_wp2_with fail
  refine (new_s room w.heap.size w (Nat.le_refl _)).mono ?_
  rintro e W1 ⟨rfl, r1, x1⟩
  rw [← HM.out] at r1
  go_wp2_with fail
  refine (awake_any W1).mono ?_
  rintro e W2 ⟨rfl, x2⟩
  have r2 : RI 60 w W2 w.heap.size none m ([] : List ByteArray) := ⟨r1.ext x2, x1.trans x2⟩
  clear r1 x1 x2
  obtain ⟨p, hp⟩ : ∃ p, p = w.heap.size := ⟨_, rfl⟩
  have hi0 : RI 60 w W2 p none m ([] : List ByteArray) := by rw [hp]; exact r2
  rw [← hp]
  have hpw : p < W2.heap.size := hi0.1.lt
  clear r2 hp
  have HI := Lib.hid (show ∃ q, RI 60 w W2 p q m (l.take (min 0 m)) from ⟨_, by simpa using hi0⟩)
  clear hi0 hpw
  go_wp2
  go_loopw [6, 7] (fun a i wr => ∃ j : Nat, j ≤ l.length ∧ i = .int .i64 j ∧ a = .int .i64 (min j m : Nat) ∧ Hid (∃ q, RI 60 w wr p q m (l.take (min j m)))) (fun _ i _ => l.length - (intOf i).toNat)
  case atStart => exact ⟨0, Nat.zero_le _, rfl, by simp, HI⟩
  case round =>
    obtain ⟨j, hj, rfl, rfl, HR⟩ := hrel
    clear HI
    clear W2
    by_cases hjl : j < l.length
    · obtain ⟨q, hi⟩ := HR.out
      clear HR
      rcases (HS.out.ext hi.2).strs with ⟨rfl, _⟩ | ⟨b, offb, cb', hv, hlcb, hlmb, hbb, _, hcell⟩
      · simp at hjl
      simp only [Value.slice.injEq, true_and] at hv
      obtain ⟨rfl, rfl⟩ := hv
      have c0 := hcell j hjl
      obtain ⟨y, hy⟩ : ∃ y, y = l.getD j ⟨#[]⟩ := ⟨_, rfl⟩
      rw [← hy] at c0
      have HY := Lib.hid hy
      clear hcell hy
      by_cases hbig : 100 < y.size
      · go_wp2
        go_ret
        exact ⟨rfl, hi.2⟩
      have htl : (l.take (min j m)).length = min j m := by simp; omega
      by_cases hfull : m ≤ j
      · go_wp2_with fail
        refine (push_no_s hi.1 y (by omega)).mono ?_
        rintro e W4 ⟨rfl, d⟩
        have hi4 := hi.more (Ext.of_drew d)
        have HI4 := Lib.hid hi4
        clear d hi hi4 c0
        go_wp2
        go_roundw
        case rel => exact ⟨j + 1, by omega, by go_num, by rw [show min (j + 1) m = m by omega], Lib.hid ⟨_, by rw [show min (j + 1) m = min j m by omega]; exact HI4.out⟩⟩
        case measure => simp [intOf]; omega
      · go_wp2_with fail
        refine (push_yes_s hi.1 hi.2.size y (by omega)).mono ?_
        rintro e W4 ⟨rfl, q4, r4, s4⟩
        have hi4 := hi.step r4 s4
        rw [show min j m = j by omega, HY.out, ← take_push hjl] at hi4
        have HI4 := Lib.hid hi4
        clear r4 s4 hi4 hi c0
        have hjm : (min j m : Nat) = j := by omega
        have HJ := Lib.hid hjm
        clear hjm htl
        go_wp2
        go_roundw
        case rel => exact ⟨j + 1, by omega, by go_num, by rw [HJ.out, show min (j + 1) m = j + 1 by omega]; go_num, Lib.hid ⟨_, by rw [show min (j + 1) m = j + 1 by omega]; exact HI4.out⟩⟩
        case measure => simp [intOf]; omega
    · obtain ⟨M, hM⟩ : ∃ M : Nat, M = min l.length m := ⟨_, rfl⟩
      have hjl2 : min j m = M := by omega
      rw [hjl2] at HR ⊢
      have hMl : M ≤ l.length := by omega
      clear hM hjl2
      obtain ⟨q, hi⟩ := HR.out
      clear HR
      go_wp2_with fail
      refine (all_s hi.1).mono ?_
      rintro e W3 ⟨v3, rfl, ho3, x3⟩
      have hi3 := hi.more x3
      have hk3 : Kp p q W3 v3 (l.take M) := hi.new ho3
      have htM : (l.take M).length = M := by simp; omega
      obtain ⟨a3, c3, rfl⟩ := hk3.1.len
      rw [htM] at hk3 ⊢
      have HI2 := Lib.hid (show ∃ q, RI 60 w W3 p q m ((l.take M).drop 0) ∧ Kp p q W3 (.slice a3 M c3) (l.take M) from ⟨q, by simpa using hi3, hk3⟩)
      clear hi hi3 hk3 ho3 x3
      obtain ⟨w2, rfl⟩ : ∃ w2 : World, w2 = W3 := ⟨_, rfl⟩
      go_wp2
      go_loopw [9] (fun i wr => ∃ t : Nat, t ≤ M ∧ i = .int .i64 t ∧ Hid (∃ q, RI 60 w wr p q m ((l.take M).drop t) ∧ Kp p q wr (.slice a3 M c3) (l.take M))) (fun i _ => M - (intOf i).toNat)
      case atStart => exact ⟨0, Nat.zero_le _, rfl, HI2⟩
      case round =>
        obtain ⟨t, ht, rfl, HR⟩ := hrel
        clear HI2
        by_cases htl2 : t < M
        · have htl : t < l.length := by omega
          obtain ⟨q, hi, hk⟩ := HR.out
          clear HR
          rcases (HS.out.ext hi.2).strs with ⟨rfl, _⟩ | ⟨b, offb, cb', hv, hlcb, hlmb, hbb, _, hcell⟩
          · simp at htl
          simp only [Value.slice.injEq, true_and] at hv
          obtain ⟨rfl, rfl⟩ := hv
          have c0 := hcell t htl
          obtain ⟨y, hy⟩ : ∃ y, y = l.getD t ⟨#[]⟩ := ⟨_, rfl⟩
          rw [← hy] at c0
          have HY := Lib.hid hy
          clear hcell hy
          have hd : (l.take M).drop t = y :: (l.take M).drop (t + 1) := by
            rw [HY.out, List.drop_eq_getElem_cons (by simp; omega)]; simp [htl]
          rw [hd] at hi
          clear hd
          go_wp2_with fail
          refine (pop_yes_s hi.1).mono ?_
          rintro e W4 ⟨rfl, q4, r4, s4⟩
          have hi4 := hi.step r4 s4
          have hk4 := hk.step s4
          have d0 : W4.cell? ⟨b, offb + t, none⟩ = some (.string y) := by
            have e := hi.2.cell (p := ⟨b, offb + t, none⟩) (low_atS HS.out htl)
            rw [hi4.2.cell (p := ⟨b, offb + t, none⟩) (low_atS HS.out htl), ← e]; exact c0
          rcases hk4.1.strs with ⟨h0, _⟩ | ⟨b3, off3, c3', hv, hlc3, hlm3, hb3, _, hcell⟩
          · rw [h0] at htM; simp at htM; omega
          simp only [Value.slice.injEq] at hv
          obtain ⟨rfl, hv2, rfl⟩ := hv
          have d3 := hcell t (by omega)
          rw [show (l.take M).getD t ⟨#[]⟩ = y by rw [HY.out]; simp [List.getD_eq_getElem?_getD, htl2]] at d3
          have HI4 := Lib.hid (And.intro hi4 hk4)
          clear r4 s4 hi4 hi hk hk4 c0 hcell hv2
          go_wp2
          go_roundw
          case rel => exact ⟨t + 1, by omega, by go_num, Lib.hid ⟨_, HI4.out.1, HI4.out.2⟩⟩
          case measure => simp [intOf]; omega
        · obtain ⟨q, hi, hk⟩ := HR.out
          clear HR
          rw [List.drop_of_length_le (by omega)] at hi
          go_wp2_with fail
          refine (pop_no_s hi.1).mono ?_
          rintro e w' ⟨rfl, rfl⟩
          go_wp2
          go_ret
          exact ⟨rfl, hi.2⟩

end Go.Proofs.Ytppikneehgochaa
