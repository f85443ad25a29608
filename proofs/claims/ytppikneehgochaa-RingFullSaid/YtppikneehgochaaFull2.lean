/- RingFull. -/
import Derived.Test.YtppikneehgochaaLaw2
namespace Go.Proofs.Ytppikneehgochaa
open Go.RowKit

set_option maxHeartbeats 1000000 in
theorem ringFull_long (w : World) (room : Int) (ao : Option Addr) (c : Nat) (l : List Int) (h : Sl w (.slice ao l.length c) l) (hl : 60 < l.length) :
    Calls Try.prog 5 #[.int .i64 room, .slice ao l.length c] w (GivesB w (.bool true)) := by
  have n1 := h.length_le
  clear h
  go_enter Try.func5, Try.ntmps5
  go_wp2_with fail
  refine (new_i room w.heap.size w (Nat.le_refl _)).mono ?_
  rintro e W1 ⟨rfl, _, x1⟩
  go_wp2_with fail
  refine (awake_any W1).mono ?_
  rintro e W2 ⟨rfl, x2⟩
  go_wp2_with fail
  refine (awake_any W2).mono ?_
  rintro e W3 ⟨rfl, x3⟩
  go_wp2_with fail
  go_ret
  exact ⟨rfl, (x1.trans x2).trans x3⟩

set_option maxRecDepth 100000 in
set_option maxHeartbeats 8000000 in
theorem ringFull_short (w : World) (room : Int) (ao : Option Addr) (c : Nat) (l : List Int) (h : Sl w (.slice ao l.length c) l) (hl : l.length ≤ 60) :
    Calls Try.prog 5 #[.int .i64 room, .slice ao l.length c] w (GivesB w (.bool true)) := by
  obtain ⟨m, hm⟩ : ∃ m : Nat, m = (min (max room 0) 1000).toNat := ⟨_, rfl⟩
  have hm1 : (m : Int) = min (max room 0) 1000 := by omega
  have hm2 : m ≤ 1000 := by omega
  have HM := Lib.hid hm
  have HM1 := Lib.hid hm1
  clear hm hm1
  have HS := Lib.hid h
  clear h
  go_enter Try.func5, Try.ntmps5
  go_wp2_with fail
  refine (new_i room w.heap.size w (Nat.le_refl _)).mono ?_
  rintro e W1 ⟨rfl, r1, x1⟩
  rw [← HM.out] at r1
  go_wp2_with fail
  refine (awake_any W1).mono ?_
  rintro e W2 ⟨rfl, x2⟩
  have r2 : RI 57 w W2 w.heap.size none m ([] : List Int) := ⟨r1.ext x2, x1.trans x2⟩
  clear r1 x1 x2
  obtain ⟨p, hp⟩ : ∃ p, p = w.heap.size := ⟨_, rfl⟩
  have hi0 : RI 57 w W2 p none m ([] : List Int) := by rw [hp]; exact r2
  rw [← hp]
  have hpw : p < W2.heap.size := hi0.1.lt
  clear r2 hp
  have HI := Lib.hid (show ∃ q xs, RI 57 w W2 p q m (xs : List Int) from ⟨_, _, hi0⟩)
  clear hi0 hpw
  go_wp2
  rw [← HM1.out]
  go_loopw [7] (fun i wr => ∃ k : Nat, k ≤ l.length ∧ i = .int .i64 k ∧ Hid (∃ q xs, RI 57 w wr p q m (xs : List Int))) (fun i _ => l.length - (intOf i).toNat)
  case atStart => exact ⟨0, Nat.zero_le _, rfl, HI⟩
  case round =>
    obtain ⟨k, hk, rfl, HR⟩ := hrel
    clear HI
    clear W2
    by_cases hlt : k < l.length
    · obtain ⟨q, xs, hi⟩ := HR.out
      clear HR
      rcases (HS.out.ext hi.2).ints with ⟨rfl, _⟩ | ⟨b, offb, cb', hv, hlcb, hlmb, hbb, _, hcell⟩
      · simp at hlt
      simp only [Value.slice.injEq, true_and] at hv
      obtain ⟨rfl, rfl⟩ := hv
      have c0 := hcell k hlt
      obtain ⟨y, hy⟩ : ∃ y, y = l.getD k 0 := ⟨_, rfl⟩
      rw [← hy] at c0
      have HY := Lib.hid hy
      clear hcell hy
      have hbw : b < wr.heap.size := hbb
      go_wp2_with fail
      refine (all_i hi.1).mono ?_
      rintro e W3 ⟨v3, rfl, ho3, x3⟩
      have hi3 := hi.more x3
      have hk3 : Kp p q W3 v3 xs := hi.new ho3
      have d0 := (x3.cell (p := ⟨b, offb + k, none⟩) hbw).trans c0
      obtain ⟨a3, c3, rfl⟩ := hk3.1.len
      have hmost := hi.1.most
      clear ho3 x3 hi c0
      by_cases hfull : m ≤ xs.length
      · have t1 : decide ((xs.length : Int) < (m : Int)) = false := by simp; omega
        go_wp2_with fail
        refine (push_no_i hi3.1 y hfull).mono ?_
        rintro e W4 ⟨rfl, d⟩
        have hi4 := hi3.more (Ext.of_drew d)
        have hk4 := hk3.ext (Ext.of_drew d)
        clear d hi3 hk3 d0
        have hle := hi4.1.le
        have t2 : decide ((m : Int) < (xs.length : Int)) = false := by simp; omega
        have t3 : ((xs.length : Int) + ((m : Int) - (xs.length : Int)) != (m : Int)) = false := by simp; omega
        go_wp2_with fail
        refine (all_i hi4.1).mono ?_
        rintro e W5 ⟨v5, rfl, ho5, x5⟩
        have hi5 := hi4.more x5
        have hk5 := hk4.ext x5
        have hs5 := ho5.sl
        obtain ⟨a5, c5, rfl⟩ := hs5.len
        clear ho5 x5 hi4 hk4
        go_wp2_with fail
        refine (refSame_val true _ _ _ xs xs hk5.1 hs5 (by simp)).mono ?_
        rintro e W6 ⟨rfl, d⟩
        have hi4 := hi5.more (Ext.of_drew d)
        clear d hi5
        go_wp2_with fail
        refine (len_i hi4.1).mono ?_
        rintro e w' ⟨rfl, rfl⟩
        go_wp2_with fail
        refine (len_i hi4.1).mono ?_
        rintro e w' ⟨rfl, rfl⟩
        go_wp2_with fail
        refine (room_i hi4.1).mono ?_
        rintro e W7 ⟨rfl, d⟩
        have hi7 := hi4.more (Ext.of_drew d)
        clear d
        go_wp2
        exact ⟨⟨k + 1, by omega, by go_num, Lib.hid ⟨_, _, hi7⟩⟩, by simp [intOf]; omega⟩
      · have t1 : decide ((xs.length : Int) < (m : Int)) = true := by simp; omega
        go_wp2_with fail
        refine (push_yes_i hi3.1 hi3.2.size y (by omega)).mono ?_
        rintro e W4 ⟨rfl, q4, r4, s4⟩
        have hi4 := hi3.step r4 s4
        clear r4 s4 hi3 hk3 d0
        obtain ⟨zs, hz⟩ : ∃ zs, zs = xs ++ [y] := ⟨_, rfl⟩
        rw [← hz] at hi4
        clear hz
        have hle := hi4.1.le
        have t2 : decide ((m : Int) < (zs.length : Int)) = false := by simp; omega
        have t3 : ((zs.length : Int) + ((m : Int) - (zs.length : Int)) != (m : Int)) = false := by simp; omega
        go_wp2_with fail
        refine (len_i hi4.1).mono ?_
        rintro e w' ⟨rfl, rfl⟩
        go_wp2_with fail
        refine (len_i hi4.1).mono ?_
        rintro e w' ⟨rfl, rfl⟩
        go_wp2_with fail
        refine (room_i hi4.1).mono ?_
        rintro e W7 ⟨rfl, d⟩
        have hi7 := hi4.more (Ext.of_drew d)
        clear d
        go_wp2
        exact ⟨⟨k + 1, by omega, by go_num, Lib.hid ⟨_, _, hi7⟩⟩, by simp [intOf]; omega⟩
    · go_wp2
      go_ret
      obtain ⟨q, xs, hi⟩ := HR.out
      exact ⟨rfl, hi.2⟩

end Go.Proofs.Ytppikneehgochaa
