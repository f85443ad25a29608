/- RingAgain. -/
import Derived.Test.YtppikneehgochaaLaw2
import Derived.OpenShut
namespace Go.Proofs.Ytppikneehgochaa
open Go.RowKit

theorem low_atI {l : List Int} {w : World} {b off n c : Nat} (h : Sl w (.slice (some ⟨b, off, none⟩) n c) l) {k : Nat} (hk : k < l.length) : b < w.heap.size := by
  rcases h.low with rfl | h
  · simp at hk
  · exact h b rfl
set_option maxHeartbeats 1000000 in
theorem ringAgain_long (w : World) (room : Int) (ao : Option Addr) (c : Nat) (l : List Int) (n : Int) (h : Sl w (.slice ao l.length c) l) (hl : 60 < l.length) :
    Calls Try.prog 8 #[.int .i64 room, .slice ao l.length c, .int .u8 n] w (GivesB w (.bool true)) := by
  have n1 := h.length_le
  clear h
  go_enter Try.func8, Try.ntmps8
  go_wp2_with fail
  refine (new_i room w.heap.size w (Nat.le_refl _)).mono ?_
  rintro e W1 ⟨rfl, _, x1⟩
  go_wp2_with fail
  refine (awake_any W1).mono ?_
  rintro e W2 ⟨rfl, x2⟩
  go_wp2_with fail
  refine (awake_any W2).mono ?_
  rintro e W3 ⟨rfl, x3⟩
  go_wp2_with fail
  go_ret
  exact ⟨rfl, (x1.trans x2).trans x3⟩

set_option maxRecDepth 100000 in
set_option maxHeartbeats 8000000 in
theorem ringAgain_short (w : World) (room : Int) (ao : Option Addr) (c : Nat) (l : List Int) (n : Int) (h : Sl w (.slice ao l.length c) l) (hn : (Lit.int .u8 n).wf = true) (hl : l.length ≤ 60) :
    Calls Try.prog 8 #[.int .i64 room, .slice ao l.length c, .int .u8 n] w (GivesB w (.bool true)) := by
  obtain ⟨hn0, hn1⟩ := bounds_u8 hn
  clear hn
  obtain ⟨m, hm⟩ : ∃ m : Nat, m = (min (max room 0) 1000).toNat := ⟨_, rfl⟩
  have hm1 : (m : Int) = min (max room 0) 1000 := by omega
  have hm2 : m ≤ 1000 := by omega
  have HM := Lib.hid hm
  have HM1 := Lib.hid hm1
  clear hm hm1
  have HS := Lib.hid h
  clear h
  go_enter Try.func8, Try.ntmps8
  go_wp2_with fail
  refine (new_i room w.heap.size w (Nat.le_refl _)).mono ?_
  rintro e W1 ⟨rfl, r1, x1⟩
  rw [← HM.out] at r1
  go_wp2_with fail
  refine (awake_any W1).mono ?_
  rintro e W2 ⟨rfl, x2⟩
  have r2 : RI 57 w W2 w.heap.size none m ([] : List Int) := ⟨r1.ext x2, x1.trans x2⟩
  clear r1 x1 x2
  obtain ⟨p, hp⟩ : ∃ p, p = w.heap.size := ⟨_, rfl⟩
  have hi0 : RI 57 w W2 p none m ([] : List Int) := by rw [hp]; exact r2
  rw [← hp]
  have hpw : p < W2.heap.size := hi0.1.lt
  clear r2 hp
  have HI := Lib.hid (show ∃ q, RI 57 w W2 p q m ([] : List Int) from ⟨_, hi0⟩)
  clear hi0 hpw
  go_wp2
  go_loopw [8] (fun i wr => ∃ k : Nat, k ≤ 40 ∧ i = .int .i64 k ∧ Hid (∃ q, RI 57 w wr p q m ([] : List Int))) (fun i _ => 40 - (intOf i).toNat)
  case atStart => exact ⟨0, Nat.zero_le _, rfl, HI⟩
  case round =>
    obtain ⟨k, hk, rfl, HR⟩ := hrel
    clear HI
    clear W2
    obtain ⟨wo, rfl⟩ : ∃ wo : World, wo = wr := ⟨_, rfl⟩
    by_cases hlt : (k : Int) < n % 40
    · obtain ⟨q, hi⟩ := HR.out
      clear HR
      have HI := Lib.hid (show ∃ q, RI 57 w wo p q m (l.take (min 0 m)) from ⟨_, by simpa using hi⟩)
      clear hi
      go_wp2
      go_loopw [9, 10] (fun a i wr => ∃ j : Nat, j ≤ l.length ∧ i = .int .i64 j ∧ a = .int .i64 (min j m : Nat) ∧ Hid (∃ q, RI 57 w wr p q m (l.take (min j m)))) (fun _ i _ => l.length - (intOf i).toNat)
      case atStart => exact ⟨0, Nat.zero_le _, rfl, by simp, HI⟩
      case round =>
        obtain ⟨j, hj, rfl, rfl, HR⟩ := hrel
        clear HI
        by_cases hjl : j < l.length
        · obtain ⟨q, hi⟩ := HR.out
          clear HR
          rcases (HS.out.ext hi.2).ints with ⟨rfl, _⟩ | ⟨b, offb, cb', hv, hlcb, hlmb, hbb, _, hcell⟩
          · simp at hjl
          simp only [Value.slice.injEq, true_and] at hv
          obtain ⟨rfl, rfl⟩ := hv
          have c0 := hcell j hjl
          obtain ⟨y, hy⟩ : ∃ y, y = l.getD j 0 := ⟨_, rfl⟩
          rw [← hy] at c0
          have HY := Lib.hid hy
          clear hcell hy
          have htl : (l.take (min j m)).length = min j m := by simp; omega
          by_cases hfull : m ≤ j
          · go_wp2_with fail
            refine (push_no_i hi.1 y (by omega)).mono ?_
            rintro e W4 ⟨rfl, d⟩
            have hi4 := hi.more (Ext.of_drew d)
            have HI4 := Lib.hid hi4
            clear d hi hi4 c0
            go_wp2
            go_roundw
            case rel => exact ⟨j + 1, by omega, by go_num, by rw [show min (j + 1) m = m by omega], Lib.hid ⟨_, by rw [show min (j + 1) m = min j m by omega]; exact HI4.out⟩⟩
            case measure => simp [intOf]; omega
          · go_wp2_with fail
            refine (push_yes_i hi.1 hi.2.size y (by omega)).mono ?_
            rintro e W4 ⟨rfl, q4, r4, s4⟩
            have hi4 := hi.step r4 s4
            rw [show min j m = j by omega, HY.out, ← take_push hjl] at hi4
            have HI4 := Lib.hid hi4
            clear r4 s4 hi4 hi c0
            have hjm : (min j m : Nat) = j := by omega
            have HJ := Lib.hid hjm
            clear hjm htl
            go_wp2
            go_roundw
            case rel => exact ⟨j + 1, by omega, by go_num, by rw [HJ.out, show min (j + 1) m = j + 1 by omega]; go_num, Lib.hid ⟨_, by rw [show min (j + 1) m = j + 1 by omega]; exact HI4.out⟩⟩
            case measure => simp [intOf]; omega
        · obtain ⟨M, hM⟩ : ∃ M : Nat, M = min l.length m := ⟨_, rfl⟩
          have hjl2 : min j m = M := by omega
          rw [hjl2] at HR ⊢
          have hMl : M ≤ l.length := by omega
          have HMM := Lib.hid hM
          clear hM hjl2
          have HI2 := Lib.hid (show ∃ q, RI 57 w wr p q m ((l.take M).drop 0) from by obtain ⟨q, h⟩ := HR.out; exact ⟨q, by simpa using h⟩)
          clear HR
          obtain ⟨w2, rfl⟩ : ∃ w2 : World, w2 = wr := ⟨_, rfl⟩
          go_wp2
          go_loopw [11] (fun i wr => ∃ t : Nat, t ≤ M ∧ i = .int .i64 t ∧ Hid (∃ q, RI 57 w wr p q m ((l.take M).drop t))) (fun i _ => M - (intOf i).toNat)
          case atStart => exact ⟨0, Nat.zero_le _, rfl, HI2⟩
          case round =>
            obtain ⟨t, ht, rfl, HR⟩ := hrel
            clear HI2
            by_cases htM : t < M
            · have htl : t < l.length := by omega
              obtain ⟨q, hi⟩ := HR.out
              clear HR
              rcases (HS.out.ext hi.2).ints with ⟨rfl, _⟩ | ⟨b, offb, cb', hv, hlcb, hlmb, hbb, _, hcell⟩
              · simp at htl
              simp only [Value.slice.injEq, true_and] at hv
              obtain ⟨rfl, rfl⟩ := hv
              have c0 := hcell t htl
              obtain ⟨y, hy⟩ : ∃ y, y = l.getD t 0 := ⟨_, rfl⟩
              rw [← hy] at c0
              have HY := Lib.hid hy
              clear hcell hy
              have hd : (l.take M).drop t = y :: (l.take M).drop (t + 1) := by
                rw [HY.out, List.drop_eq_getElem_cons (by simp; omega)]; simp [htl]
              rw [hd] at hi
              clear hd
              go_wp2_with fail
              refine (pop_yes_i hi.1).mono ?_
              rintro e W4 ⟨rfl, q4, r4, s4⟩
              have hi4 := hi.step r4 s4
              have d0 : W4.cell? ⟨b, offb + t, none⟩ = some (.int .i64 y) := by
                have e := hi.2.cell (p := ⟨b, offb + t, none⟩) (low_atI HS.out htl)
                rw [hi4.2.cell (p := ⟨b, offb + t, none⟩) (low_atI HS.out htl), ← e]; exact c0
              have HI4 := Lib.hid hi4
              have hyy : (y != y) = false := by simp
              clear r4 s4 hi4 hi c0
              go_wp2
              go_roundw
              case rel => exact ⟨t + 1, by omega, by go_num, Lib.hid ⟨_, HI4.out⟩⟩
              case measure => simp [intOf]; omega
            · obtain ⟨q, hi⟩ := HR.out
              clear HR
              rw [List.drop_of_length_le (by simp; omega)] at hi
              have e1 : (((M : Nat) : Int) != min (l.length : Int) (max room 0)) = false := by have := HM1.out; have := HMM.out; simp; omega
              have e2 : (((m : Nat) : Int) != min (max room 0) 1000) = false := by have := HM1.out; simp; omega
              go_wp2_with fail
              refine (len_i hi.1).mono ?_
              rintro e w' ⟨rfl, rfl⟩
              go_wp2_with fail
              refine (room_i hi.1).mono ?_
              rintro e W7 ⟨rfl, d⟩
              have hi7 := hi.more (Ext.of_drew d)
              have HI7 := Lib.hid hi7
              clear d hi hi7
              go_wp2
              go_roundw
              case rel => exact ⟨k + 1, by omega, by go_num, Lib.hid ⟨_, HI7.out⟩⟩
              case measure => simp [intOf]; omega
    · go_wp2
      go_ret
      obtain ⟨q, hi⟩ := HR.out
      exact ⟨rfl, hi.2⟩

end Go.Proofs.Ytppikneehgochaa
