/- Where each number of a set stands. -/
import Derived.Test.YtfhddgejedhfpaaLawB
import Derived.Deep.RegionWith
namespace Go.Proofs.Ytfhddgejedhfpaa
open Go.RowKit

theorem placeOf_norm (l : List Int) (x : Int) : placeOf l x = ((norm l).filter fun y => decide (y < x)).length := by
  unfold placeOf
  rw [norm_filter]

theorem SS.filter_at {s : List Int} (hs : SS s) {k : Nat} (hk : k < s.length) : (s.filter fun y => decide (y < s.getD k 0)).length = k := by
  have e : s.getD k 0 = s[k] := by simp [hk]
  rw [e]
  have h1 : (s.take k).filter (fun y => decide (y < s[k])) = s.take k := by
    apply List.filter_eq_self.2
    intro y hy
    obtain ⟨j, hj, rfl⟩ := List.mem_take_iff_getElem.1 hy
    have hjk : j < k := by omega
    simpa using (List.pairwise_iff_getElem.1 hs) j k (by omega) hk hjk
  have h2 : (s.drop k).filter (fun y => decide (y < s[k])) = [] := by
    apply List.filter_eq_nil_iff.2
    intro y hy
    obtain ⟨j, hj, rfl⟩ := List.mem_drop_iff_getElem.1 hy
    by_cases h0 : j = 0
    · subst h0; simp
    · have := (List.pairwise_iff_getElem.1 hs) k (k + j) hk (by omega) (by omega)
      simp; omega
  have h3 : s.filter (fun y => decide (y < s[k])) = s.take k := by
    generalize s[k] = z at h1 h2 ⊢
    conv => lhs; rw [← List.take_append_drop k s]
    rw [List.filter_append, h1, h2, List.append_nil]
  rw [h3]
  simp; omega

theorem place_at {l : List Int} {k : Nat} (hk : k < (norm l).length) : placeOf l ((norm l).getD k 0) = k := by
  rw [placeOf_norm]
  exact (norm_SS l).filter_at hk

theorem place_up {l : List Int} {x : Int} (h : placeOf l x < (norm l).length) : x ≤ (norm l).getD (placeOf l x) 0 := by
  have hd := (norm_SS l).drop_place x
  rw [placeOf_norm] at h ⊢
  have hm : (norm l).getD ((norm l).filter fun y => decide (y < x)).length 0 ∈ (norm l).drop ((norm l).filter fun y => decide (y < x)).length := by
    rw [List.getD_eq_getElem?_getD, List.getElem?_eq_getElem h]
    exact List.mem_drop_iff_getElem.2 ⟨0, by omega, by simp⟩
  rw [hd, List.mem_filter] at hm
  simpa using hm.2

theorem place_down {l : List Int} {x : Int} (h : 0 < placeOf l x) : (norm l).getD (placeOf l x - 1) 0 < x := by
  have ht := (norm_SS l).take_place x
  rw [placeOf_norm] at h ⊢
  have hle := List.length_filter_le (fun y => decide (y < x)) (norm l)
  have hm : (norm l).getD (((norm l).filter fun y => decide (y < x)).length - 1) 0 ∈ (norm l).take ((norm l).filter fun y => decide (y < x)).length := by
    rw [List.getD_eq_getElem?_getD, List.getElem?_eq_getElem (by omega)]
    exact List.mem_take_iff_getElem.2 ⟨_, by omega, rfl⟩
  rw [ht, List.mem_filter] at hm
  simpa using hm.2

theorem place_le (l : List Int) (x : Int) : placeOf l x ≤ (norm l).length := by
  rw [placeOf_norm]
  exact List.length_filter_le _ _

set_option maxHeartbeats 1000000 in
theorem setPlaces_long (w : World) (ao : Option Addr) (c : Nat) (xs : List Int) (x : Int) (h : Sl w (.slice ao xs.length c) xs) (hl : 60 < xs.length) : Calls Try.prog 9 #[.slice ao xs.length c, .int .i64 x] w (GivesB w (.bool true)) := by
  have n1 := h.length_le
  clear h
  go_enter Try.func9, Try.ntmps9
  go_wp2_with fail
  refine (awake_any _).mono ?_
  rintro e W1 ⟨rfl, b1⟩
  have x1 : Ext _ W1 := b1
  clear b1
  go_wp2_with fail
  refine (awake_any _).mono ?_
  rintro e W2 ⟨rfl, b2⟩
  have x2 : Ext _ W2 := b2
  clear b2
  go_wp2_with fail
  go_ret
  exact ⟨rfl, x1.trans x2⟩

set_option maxHeartbeats 2000000 in
theorem setPlaces_short (w : World) (ao : Option Addr) (c : Nat) (xs : List Int) (x : Int) (h : Sl w (.slice ao xs.length c) xs) (hl : xs.length ≤ 60) : Calls Try.prog 9 #[.slice ao xs.length c, .int .i64 x] w (GivesB w (.bool true)) := by
  obtain ⟨S, hS⟩ : ∃ S, norm xs = S := ⟨_, rfl⟩
  have HS := Lib.hid hS
  have hSl : S.length ≤ 60 := by rw [← hS]; exact Nat.le_trans (norm_length _) hl
  obtain ⟨n, hn⟩ : ∃ n, placeOf xs x = n := ⟨_, rfl⟩
  have hnS : n ≤ S.length := by rw [← hn, ← hS]; exact place_le _ _
  have HN := Lib.hid hn
  clear hS hn
  go_enter Try.func9, Try.ntmps9
  go_wp2_with fail
  refine (awake_any _).mono ?_
  rintro e W1 ⟨rfl, b1⟩
  have x1 : Ext _ W1 := b1
  clear b1
  go_wp2_with fail
  refine (own_any _ _ xs (h.ext x1) (by omega)).mono ?_
  rintro e W2 ⟨v2, rfl, o2, b2⟩
  have s2 := o2.sl
  have x2 : Ext _ W2 := b2
  clear o2 b2
  go_wp2_with fail
  refine (setOf_any _ _ xs s2 (by omega)).mono ?_
  rintro e W3 ⟨va, rfl, o3, b3⟩
  rw [HS.out] at o3
  have sa := o3.sl
  have x3 : Ext w W3 := (x1.trans x2).trans b3
  clear o3 b3 x1 x2 s2
  obtain ⟨aa, ca, rfl⟩ := sa.len
  go_wp2
  go_loopw [6] (fun i wr => ∃ k : Nat, k ≤ S.length ∧ i = .int .i64 k ∧ Hid (Ext W3 wr)) (fun i _ => S.length - (intOf i).toNat)
  case atStart => exact ⟨0, Nat.zero_le _, rfl, Lib.hid (Ext.refl _)⟩
  case round =>
    obtain ⟨k, hk, rfl, HX⟩ := hrel
    have sar := sa.ext HX.out
    have hr := h.ext (x3.trans HX.out)
    by_cases hlt : k < S.length
    · rcases sar.parts with ⟨h0, _⟩ | ⟨b, off, c', hv, _, _, hb, _, hcell⟩
      · exact absurd hlt (by rw [h0]; simp)
      · simp only [Value.slice.injEq, true_and] at hv
        obtain ⟨rfl, rfl⟩ := hv
        have hck := hcell k hlt
        obtain ⟨y, hy⟩ : ∃ y, y = S.getD k 0 := ⟨_, rfl⟩
        rw [← hy] at hck
        have HY : Hid (placeOf xs y = k) := Lib.hid (by rw [hy, ← HS.out]; exact place_at (by rw [HS.out]; exact hlt))
        clear hy hcell
        have hne : ((k : Int) != (k : Int)) = false := by simp
        go_wp2
        go_region_with (first
          | (go_at_call 13; refine (own_any _ _ xs hr.drew (by omega)).mono ?_; rintro e W5 ⟨v5, rfl, o5, b5⟩; have s5 := o5.sl; have x5 : Hid (Ext wr W5) := Lib.hid ((Ext.refl wr).drew.trans b5); have hck5 : W5.cell? ⟨b, off + k, none⟩ = some (.int .i64 y) := (x5.out.cell (p := ⟨b, off + k, none⟩) hb).trans hck; clear o5 b5)
          | (go_at_call 17; refine (setPlace_val k _ _ xs y s5 (by omega) HY.out).mono ?_; rintro e W6 ⟨rfl, b6⟩; have x6 : Hid (Ext wr W6) := Lib.hid (x5.out.trans b6); clear b6))
        all_goals
          go_wp2
          go_roundw
          case rel => exact ⟨k + 1, by omega, by go_num, Lib.hid (HX.out.trans x6.out)⟩
          case measure => simp [intOf]; omega
    · have hkS : k = S.length := by omega
      have HK := Lib.hid hkS
      clear hkS
      go_wp2_with fail
      refine (own_any _ _ xs hr (by omega)).mono ?_
      rintro e W5 ⟨v5, rfl, o5, b5⟩
      have s5 := o5.sl
      have x5 : Ext wr W5 := b5
      clear o5 b5
      go_wp2_with fail
      refine (setPlace_val n _ _ xs x s5 (by omega) HN.out).mono ?_
      rintro e W6 ⟨rfl, b6⟩
      have x6 : Ext wr W6 := x5.trans b6
      clear b6 x5 s5
      have sa6 := sar.ext x6
      have xe : Hid (Below w.heap.size w W6) := Lib.hid ((x3.trans HX.out).trans x6)
      have hup : n < S.length → x ≤ S.getD n 0 := fun hlt => by have := place_up (l := xs) (x := x) (by rw [HN.out, HS.out]; exact hlt); rwa [HN.out, HS.out] at this
      have hdn : 0 < n → S.getD (n - 1) 0 < x := fun hpos => by have := place_down (l := xs) (x := x) (by rw [HN.out]; exact hpos); rwa [HN.out, HS.out] at this
      rcases sa6.parts with ⟨h0, _⟩ | ⟨b, off, c', hv, _, _, hb, hpos, hcell⟩
      · have hn0 : n = 0 := by rw [h0] at hnS; simpa using hnS
        subst h0 hn0
        clear hup hdn
        go_wp2
        go_ret
        exact ⟨rfl, xe.out⟩
      · simp only [Value.slice.injEq, true_and] at hv
        obtain ⟨rfl, rfl⟩ := hv
        have HC := Lib.hid hcell
        have HU := Lib.hid hup
        have HD := Lib.hid hdn
        clear hcell hup hdn
        by_cases e1 : n = S.length
        · have hpos' : 0 < n := by omega
          have hc1 := HC.out (n - 1) (by omega)
          have hd1 := HD.out hpos'
          obtain ⟨z, hz⟩ : ∃ z, z = S.getD (n - 1) 0 := ⟨_, rfl⟩
          rw [← hz] at hc1 hd1
          have t1 : ((n : Int) == (S.length : Int)) = true := by simp [e1]
          have t2 : ((n : Int) == 0) = false := by simp; omega
          have E1 := Lib.hid e1
          clear e1 hz
          go_wp2
          go_ret
          exact ⟨rfl, xe.out⟩
        · have hlt2 : n < S.length := by omega
          have hc0 := HC.out n hlt2
          have hu0 := HU.out hlt2
          obtain ⟨y, hy⟩ : ∃ y, y = S.getD n 0 := ⟨_, rfl⟩
          rw [← hy] at hc0 hu0
          have t1 : ((n : Int) == (S.length : Int)) = false := by simp; omega
          clear hy
          by_cases e0 : n = 0
          · subst e0
            have hc00 : W6.cell? ⟨b, off, none⟩ = some (.int .i64 y) := by simpa using hc0
            clear hc0
            go_wp2
            go_ret
            exact ⟨rfl, xe.out⟩
          · have hc1 := HC.out (n - 1) (by omega)
            have hd1 := HD.out (by omega)
            obtain ⟨z, hz⟩ : ∃ z, z = S.getD (n - 1) 0 := ⟨_, rfl⟩
            rw [← hz] at hc1 hd1
            have t2 : ((n : Int) == 0) = false := by simp; omega
            clear hz
            go_wp2
            go_ret
            exact ⟨rfl, xe.out⟩

end Go.Proofs.Ytfhddgejedhfpaa
