/- RingCuts. -/
import Derived.Test.YtppikneehgochaaLaw2
namespace Go.Proofs.Ytppikneehgochaa
open Go.RowKit

theorem low_atI {l : List Int} {w : World} {b off n c : Nat} (h : Sl w (.slice (some ⟨b, off, none⟩) n c) l) {k : Nat} (hk : k < l.length) : b < w.heap.size := by
  rcases h.low with rfl | h
  · simp at hk
  · exact h b rfl
set_option maxHeartbeats 1000000 in
theorem ringCuts_long (w : World) (ao : Option Addr) (c : Nat) (l : List Int) (at' : Int) (h : Sl w (.slice ao l.length c) l) (hl : 60 < l.length) :
    Calls Try.prog 6 #[.slice ao l.length c, .int .i64 at'] w (GivesB w (.bool true)) := by
  have n1 := h.length_le
  clear h
  go_enter Try.func6, Try.ntmps6
  go_wp2_with fail
  refine (new_i 100 w.heap.size w (Nat.le_refl _)).mono ?_
  rintro e W1 ⟨rfl, _, x1⟩
  go_wp2_with fail
  refine (awake_any W1).mono ?_
  rintro e W2 ⟨rfl, x2⟩
  go_wp2_with fail
  refine (awake_any W2).mono ?_
  rintro e W3 ⟨rfl, x3⟩
  go_wp2_with fail
  go_ret
  exact ⟨rfl, (x1.trans x2).trans x3⟩

set_option maxRecDepth 100000 in
set_option maxHeartbeats 8000000 in
theorem ringCuts_short (w : World) (ao : Option Addr) (c : Nat) (l : List Int) (at' : Int) (h : Sl w (.slice ao l.length c) l) (hl : l.length ≤ 60) :
    Calls Try.prog 6 #[.slice ao l.length c, .int .i64 at'] w (GivesB w (.bool true)) := by
  have HS := Lib.hid h
  clear h
  go_enter Try.func6, Try.ntmps6
  go_wp2_with fail
  refine (new_i 100 w.heap.size w (Nat.le_refl _)).mono ?_
  rintro e W1 ⟨rfl, r1, x1⟩
  have r1 : RAt 57 W1 w.heap.size w.heap.size none 100 ([] : List Int) := r1
  go_wp2_with fail
  refine (awake_any W1).mono ?_
  rintro e W2 ⟨rfl, x2⟩
  have r2 : RI 57 w W2 w.heap.size none 100 ([] : List Int) := ⟨r1.ext x2, x1.trans x2⟩
  clear r1 x1 x2
  obtain ⟨p, hp⟩ : ∃ p, p = w.heap.size := ⟨_, rfl⟩
  have hi0 : RI 57 w W2 p none 100 ([] : List Int) := by rw [hp]; exact r2
  rw [← hp]
  have hpw : p < W2.heap.size := hi0.1.lt
  clear r2 hp
  have HI := Lib.hid (show ∃ q, RI 57 w W2 p q 100 (l.take 0) from ⟨_, by simpa using hi0⟩)
  clear hi0 hpw
  go_wp2
  go_loopw [6] (fun i wr => ∃ k : Nat, k ≤ l.length ∧ i = .int .i64 k ∧ Hid (∃ q, RI 57 w wr p q 100 (l.take k))) (fun i _ => l.length - (intOf i).toNat)
  case atStart => exact ⟨0, Nat.zero_le _, rfl, HI⟩
  case round =>
    obtain ⟨k, hk, rfl, HR⟩ := hrel
    clear HI
    clear W2
    by_cases hlt : k < l.length
    · obtain ⟨q, hi⟩ := HR.out
      clear HR
      rcases (HS.out.ext hi.2).ints with ⟨rfl, _⟩ | ⟨b, offb, cb', hv, hlcb, hlmb, hbb, _, hcell⟩
      · simp at hlt
      simp only [Value.slice.injEq, true_and] at hv
      obtain ⟨rfl, rfl⟩ := hv
      have c0 := hcell k hlt
      obtain ⟨y, hy⟩ : ∃ y, y = l.getD k 0 := ⟨_, rfl⟩
      rw [← hy] at c0
      have HY := Lib.hid hy
      clear hcell hy
      have htl : (l.take k).length ≤ 60 := by simp; omega
      go_wp2_with fail
      refine (push_yes_i hi.1 hi.2.size y (by omega)).mono ?_
      rintro e W4 ⟨rfl, q4, r4, s4⟩
      have hi4 := hi.step r4 s4
      rw [HY.out, ← take_push hlt] at hi4
      have HI4 := Lib.hid hi4
      clear r4 s4 hi4 hi c0
      go_wp2
      go_roundw
      case rel => exact ⟨k + 1, by omega, by go_num, Lib.hid ⟨_, HI4.out⟩⟩
      case measure => simp [intOf]; omega
    · obtain ⟨q, hi⟩ := HR.out
      clear HR
      have hkl : k = l.length := by omega
      rw [hkl, List.take_length] at hi
      clear hkl
      by_cases hin : at' < 0 ∨ (l.length : Int) ≤ at'
      · go_wp2_with fail
        refine (cut_no_i hi.1 at' hin).mono ?_
        rintro e w' ⟨rfl, rfl⟩
        rcases hin with h0 | h0
        all_goals
          try have h1 : ¬ at' < 0 := by omega
          go_wp2_with fail
          refine (all_i hi.1).mono ?_
          rintro e W5 ⟨v5, rfl, ho5, x5⟩
          have hs5 := ho5.sl
          obtain ⟨a5, c5, rfl⟩ := hs5.len
          go_wp2_with fail
          refine (refSame_val true _ _ _ l l hs5 ((HS.out.ext hi.2).ext x5) (by simp)).mono ?_
          rintro e W6 ⟨rfl, d⟩
          go_wp2_with fail
          go_ret
          exact ⟨rfl, (hi.2.trans x5).trans (Ext.of_drew d)⟩
      · obtain ⟨n, rfl⟩ := Int.eq_ofNat_of_zero_le (a := at') (by omega)
        have hn : n < l.length := by omega
        clear hin
        rcases (HS.out.ext hi.2).ints with ⟨rfl, _⟩ | ⟨b, offb, cb', hv, hlcb, hlmb, hbb, _, hcell⟩
        · simp at hn
        simp only [Value.slice.injEq, true_and] at hv
        obtain ⟨rfl, rfl⟩ := hv
        have c0 := hcell n hn
        obtain ⟨y, hy⟩ : ∃ y, y = l.getD n 0 := ⟨_, rfl⟩
        rw [← hy] at c0
        have HY := Lib.hid hy
        clear hcell hy
        have hbl := low_atI HS.out hn
        go_wp2_with fail
        refine (cut_yes_i hi.1 n y (by rw [HY.out]; simp [hn])).mono ?_
        rintro e W3 ⟨rfl, q3, r3, s3⟩
        have hi3 := hi.step r3 s3
        have hk3 := (hi.old HS.out).step s3
        have hc3 : W3.cell? ⟨b, offb + n, none⟩ = some (.int .i64 y) := by
          have := (hi3.2.cell (p := ⟨b, offb + n, none⟩) hbl)
          rw [this, ← hi.2.cell (p := ⟨b, offb + n, none⟩) hbl]; exact c0
        clear r3 s3 c0
        have H1 : Hid (∀ W, Ext w W → Sl W (.slice (some ⟨b, offb, none⟩) n c) (l.take n)) := Lib.hid fun W e => by
          have := (HS.out.ext e).cut 0 n (by omega) (by omega)
          simpa using this
        have H2 : Hid (∀ W, Ext w W → Sl W (.slice (if c = n + 1 then some ⟨b, offb, none⟩ else some ⟨b, offb + (n + 1), none⟩) (l.length - (n + 1)) (c - (n + 1))) (l.drop (n + 1))) := Lib.hid fun W e => by
          have := (HS.out.ext e).tail (n + 1) (by omega)
          rwa [show offb + (n + 1) * Elem.k Int = offb + (n + 1) from by show offb + (n + 1) * 1 = _; omega] at this
        have hw : IntKind.i64.wrap ((n : Int) + 1) = (n : Int) + 1 := IntWalk.i64_in _ (by omega)
        have hz : (0 : Int) ≤ (n : Int) + 1 := by omega
        have hnn : ((n : Int) + 1).toNat = n + 1 := by omega
        have hkc : n ≤ c := by omega
        have hkc1 : n + 1 ≤ c := by omega
        have hkl1 : n + 1 ≤ l.length := by omega
        have hkl2 : (n : Int) + 1 ≤ (l.length : Int) := by omega
        have hyy : (y == y) = true := by simp
        have HC : Hid (∀ W, Ext W3 W → W.cell? ⟨b, offb + n, none⟩ = some (.int .i64 y)) := Lib.hid fun W e => by
          rw [← hc3]; exact e.cell (p := ⟨b, offb + n, none⟩) (by show b < _; have := hi3.2.size; omega)
        have hll := List.length_eraseIdx (l := l) (i := n)
        rw [if_pos hn] at hll
        have hle2 : (l.eraseIdx n).length ≤ 60 := by omega
        clear hll
        have HE : Hid (l.take n ++ l.drop (n + 1) = l.eraseIdx n) := Lib.hid (take_eraseIdx l n)
        by_cases hcc : c = n + 1
        · have hct : (c = n + 1) = True := by simp [hcc]
          have H3 : Hid (∀ W, Ext w W → Sl W (.slice (some ⟨b, offb, none⟩) (l.length - (n + 1)) (c - (n + 1))) (l.drop (n + 1))) := Lib.hid fun W e => by
            have := H2.out W e
            rwa [if_pos hcc] at this
          clear H2 hcc
          go_wp2_with fail
          go_region_held3 (fun W => W.cell? ⟨b, offb + n, none⟩ = some (.int .i64 y)) (exact HC.out _ ((by repeat (first | exact Ext.refl _ | assumption | refine Ext.alloc ?_ _ | refine Ext.drew ?_ | refine Ext.drewN ?_ _))))
            (first
            | (go_at_call 19; refine (all_i ((hi3.more ((by repeat (first | exact Ext.refl _ | assumption | refine Ext.alloc ?_ _ | refine Ext.drew ?_ | refine Ext.drewN ?_ _)))).1)).mono ?_; rintro e W5 ⟨v5, rfl, ho5, x5⟩; have y5 : Ext W3 W5 := Ext.trans (by exact (by repeat (first | exact Ext.refl _ | assumption | refine Ext.alloc ?_ _ | refine Ext.drew ?_ | refine Ext.drewN ?_ _))) x5; obtain ⟨a5, n5, c5, rfl⟩ := ho5.sh; have o5 := Lib.hid ho5; clear ho5; (try (have u6 := Lib.hid (o6.out.ext x5); have ap6 : Ap (Value.slice a5 n5 c5).ownBlock (Value.slice a6 n6 c6).ownBlock := (fun k e e' => by have h5 := (o5.out.low k e).1; have h6 := (o6.out.low k e').2; (try simp at h5); omega); clear o6; have o6 := u6)); (try (have u7 := Lib.hid (o7.out.ext x5); clear o7; have o7 := u7)))
            | (refine step_append_slg (α := Int) rfl (.tmp 76) (.tmp 79) rfl W3.heap.size (.slice (some ⟨_, 0, none⟩) 0 0) [] rfl ?_ (.slice (some ⟨b, offb, none⟩) n c) (l.take n) rfl ?_ ?_ ?_ ?_; (first | exact Ow.litAt _ _ _ rfl (by first | exact Nat.le_refl _ | exact y5.size) [] (by simp) | exact (Ow.litAt _ _ _ rfl (by first | exact Nat.le_refl _ | exact y5.size) [] (by simp)).ext x5 | exact (Ow.drew (Ow.litAt _ _ _ rfl (by first | exact Nat.le_refl _ | exact y5.size) [] (by simp))).ext x5 | exact Ow.drew (Ow.litAt _ _ _ rfl (by first | exact Nat.le_refl _ | exact y5.size) [] (by simp))); exact H1.out _ (hi3.2.trans ((by repeat (first | exact Ext.refl _ | assumption | refine Ext.alloc ?_ _ | refine Ext.drew ?_ | refine Ext.drewN ?_ _)))); (simp; omega); (first | exact Nat.le_refl _ | exact y5.size | (simp; done) | (have := y5.size; simp; omega)); intro v6 W6 ho6 ha6; obtain ⟨a6, n6, c6, rfl⟩ := ho6.sh; have y6 : Ext W3 W6 := Below.trans (by exact (by repeat (first | exact Ext.refl _ | assumption | refine Ext.alloc ?_ _ | refine Ext.drew ?_ | refine Ext.drewN ?_ _))) ha6.below; have o6 := Lib.hid ho6; (try (have ap6 := ha6.apart (o5.out.ext ((by repeat (first | exact Ext.refl _ | assumption | refine Ext.alloc ?_ _ | refine Ext.drew ?_ | refine Ext.drewN ?_ _)))) (fun k e e' => by have h5 := o5.out.low k e; simp [Value.ownBlock] at e'; (try simp at h5); omega); have u5 := Lib.hid (ha6.other (o5.out.ext ((by repeat (first | exact Ext.refl _ | assumption | refine Ext.alloc ?_ _ | refine Ext.drew ?_ | refine Ext.drewN ?_ _)))) (fun k e e' => by have h5 := o5.out.low k e; simp [Value.ownBlock] at e'; (try simp at h5); omega)); clear o5; have o5 := u5)); clear ho6 ha6)
            | (refine step_append_slg (α := Int) rfl (.tmp 80) (.tmp 84) rfl W3.heap.size (.slice a6 n6 c6) (l.take n) rfl ?_ (.slice (some ⟨b, offb, none⟩) (l.length - (n + 1)) (c - (n + 1))) (l.drop (n + 1)) rfl ?_ ?_ ?_ ?_; exact o6.out; exact H3.out _ (hi3.2.trans ((by repeat (first | exact Ext.refl _ | assumption | refine Ext.alloc ?_ _ | refine Ext.drew ?_ | refine Ext.drewN ?_ _)))); (simp; omega); (first | exact y6.size | exact y5.size); intro v7 W7 ho7 ha7; obtain ⟨a7, n7, c7, rfl⟩ := ho7.sh; have y7 : Ext W3 W7 := Below.trans (by exact (by repeat (first | exact Ext.refl _ | assumption | refine Ext.alloc ?_ _ | refine Ext.drew ?_ | refine Ext.drewN ?_ _))) ha7.below; have o7 := Lib.hid ho7; (try (have u5 := Lib.hid (ha7.other (o5.out.ext ((by repeat (first | exact Ext.refl _ | assumption | refine Ext.alloc ?_ _ | refine Ext.drew ?_ | refine Ext.drewN ?_ _)))) ap6); clear o5; have o5 := u5)); clear ho7 ha7 o6)
            | (go_at_call 18; refine (refSame_val true _ _ _ (l.eraseIdx n) (l.take n ++ l.drop (n + 1)) (o5.out.sl.ext ((by repeat (first | exact Ext.refl _ | assumption | refine Ext.alloc ?_ _ | refine Ext.drew ?_ | refine Ext.drewN ?_ _)))) (o7.out.sl.ext ((by repeat (first | exact Ext.refl _ | assumption | refine Ext.alloc ?_ _ | refine Ext.drew ?_ | refine Ext.drewN ?_ _)))) (by rw [HE.out]; simp)).mono ?_; rintro e W8 ⟨rfl, d⟩; have y8 : Ext W3 W8 := Ext.trans (by exact (by repeat (first | exact Ext.refl _ | assumption | refine Ext.alloc ?_ _ | refine Ext.drew ?_ | refine Ext.drewN ?_ _))) (Ext.of_drew d); clear d))
          all_goals
            go_wp2
            go_ret
            exact ⟨rfl, hi3.2.trans y8⟩
        · have H3 : Hid (∀ W, Ext w W → Sl W (.slice (some ⟨b, offb + (n + 1), none⟩) (l.length - (n + 1)) (c - (n + 1))) (l.drop (n + 1))) := Lib.hid fun W e => by
            have := H2.out W e
            rwa [if_neg hcc] at this
          clear H2
          go_wp2_with fail
          go_region_held3 (fun W => W.cell? ⟨b, offb + n, none⟩ = some (.int .i64 y)) (exact HC.out _ ((by repeat (first | exact Ext.refl _ | assumption | refine Ext.alloc ?_ _ | refine Ext.drew ?_ | refine Ext.drewN ?_ _))))
            (first
            | (go_at_call 19; refine (all_i ((hi3.more ((by repeat (first | exact Ext.refl _ | assumption | refine Ext.alloc ?_ _ | refine Ext.drew ?_ | refine Ext.drewN ?_ _)))).1)).mono ?_; rintro e W5 ⟨v5, rfl, ho5, x5⟩; have y5 : Ext W3 W5 := Ext.trans (by exact (by repeat (first | exact Ext.refl _ | assumption | refine Ext.alloc ?_ _ | refine Ext.drew ?_ | refine Ext.drewN ?_ _))) x5; obtain ⟨a5, n5, c5, rfl⟩ := ho5.sh; have o5 := Lib.hid ho5; clear ho5; (try (have u6 := Lib.hid (o6.out.ext x5); have ap6 : Ap (Value.slice a5 n5 c5).ownBlock (Value.slice a6 n6 c6).ownBlock := (fun k e e' => by have h5 := (o5.out.low k e).1; have h6 := (o6.out.low k e').2; (try simp at h5); omega); clear o6; have o6 := u6)); (try (have u7 := Lib.hid (o7.out.ext x5); clear o7; have o7 := u7)))
            | (refine step_append_slg (α := Int) rfl (.tmp 76) (.tmp 79) rfl W3.heap.size (.slice (some ⟨_, 0, none⟩) 0 0) [] rfl ?_ (.slice (some ⟨b, offb, none⟩) n c) (l.take n) rfl ?_ ?_ ?_ ?_; (first | exact Ow.litAt _ _ _ rfl (by first | exact Nat.le_refl _ | exact y5.size) [] (by simp) | exact (Ow.litAt _ _ _ rfl (by first | exact Nat.le_refl _ | exact y5.size) [] (by simp)).ext x5 | exact (Ow.drew (Ow.litAt _ _ _ rfl (by first | exact Nat.le_refl _ | exact y5.size) [] (by simp))).ext x5 | exact Ow.drew (Ow.litAt _ _ _ rfl (by first | exact Nat.le_refl _ | exact y5.size) [] (by simp))); exact H1.out _ (hi3.2.trans ((by repeat (first | exact Ext.refl _ | assumption | refine Ext.alloc ?_ _ | refine Ext.drew ?_ | refine Ext.drewN ?_ _)))); (simp; omega); (first | exact Nat.le_refl _ | exact y5.size | (simp; done) | (have := y5.size; simp; omega)); intro v6 W6 ho6 ha6; obtain ⟨a6, n6, c6, rfl⟩ := ho6.sh; have y6 : Ext W3 W6 := Below.trans (by exact (by repeat (first | exact Ext.refl _ | assumption | refine Ext.alloc ?_ _ | refine Ext.drew ?_ | refine Ext.drewN ?_ _))) ha6.below; have o6 := Lib.hid ho6; (try (have ap6 := ha6.apart (o5.out.ext ((by repeat (first | exact Ext.refl _ | assumption | refine Ext.alloc ?_ _ | refine Ext.drew ?_ | refine Ext.drewN ?_ _)))) (fun k e e' => by have h5 := o5.out.low k e; simp [Value.ownBlock] at e'; (try simp at h5); omega); have u5 := Lib.hid (ha6.other (o5.out.ext ((by repeat (first | exact Ext.refl _ | assumption | refine Ext.alloc ?_ _ | refine Ext.drew ?_ | refine Ext.drewN ?_ _)))) (fun k e e' => by have h5 := o5.out.low k e; simp [Value.ownBlock] at e'; (try simp at h5); omega)); clear o5; have o5 := u5)); clear ho6 ha6)
            | (refine step_append_slg (α := Int) rfl (.tmp 80) (.tmp 84) rfl W3.heap.size (.slice a6 n6 c6) (l.take n) rfl ?_ (.slice (some ⟨b, offb + (n + 1), none⟩) (l.length - (n + 1)) (c - (n + 1))) (l.drop (n + 1)) rfl ?_ ?_ ?_ ?_; exact o6.out; exact H3.out _ (hi3.2.trans ((by repeat (first | exact Ext.refl _ | assumption | refine Ext.alloc ?_ _ | refine Ext.drew ?_ | refine Ext.drewN ?_ _)))); (simp; omega); (first | exact y6.size | exact y5.size); intro v7 W7 ho7 ha7; obtain ⟨a7, n7, c7, rfl⟩ := ho7.sh; have y7 : Ext W3 W7 := Below.trans (by exact (by repeat (first | exact Ext.refl _ | assumption | refine Ext.alloc ?_ _ | refine Ext.drew ?_ | refine Ext.drewN ?_ _))) ha7.below; have o7 := Lib.hid ho7; (try (have u5 := Lib.hid (ha7.other (o5.out.ext ((by repeat (first | exact Ext.refl _ | assumption | refine Ext.alloc ?_ _ | refine Ext.drew ?_ | refine Ext.drewN ?_ _)))) ap6); clear o5; have o5 := u5)); clear ho7 ha7 o6)
            | (go_at_call 18; refine (refSame_val true _ _ _ (l.eraseIdx n) (l.take n ++ l.drop (n + 1)) (o5.out.sl.ext ((by repeat (first | exact Ext.refl _ | assumption | refine Ext.alloc ?_ _ | refine Ext.drew ?_ | refine Ext.drewN ?_ _)))) (o7.out.sl.ext ((by repeat (first | exact Ext.refl _ | assumption | refine Ext.alloc ?_ _ | refine Ext.drew ?_ | refine Ext.drewN ?_ _)))) (by rw [HE.out]; simp)).mono ?_; rintro e W8 ⟨rfl, d⟩; have y8 : Ext W3 W8 := Ext.trans (by exact (by repeat (first | exact Ext.refl _ | assumption | refine Ext.alloc ?_ _ | refine Ext.drew ?_ | refine Ext.drewN ?_ _))) (Ext.of_drew d); clear d))
          all_goals
            go_wp2
            go_ret
            exact ⟨rfl, hi3.2.trans y8⟩

end Go.Proofs.Ytppikneehgochaa
