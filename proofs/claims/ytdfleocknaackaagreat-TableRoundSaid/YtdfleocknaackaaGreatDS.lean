/- Rows of numbers of the call's own: sorted, compacted, cut, turned round, joined; sets. -/
import Derived.Test.YtdfleocknaackaaGreatMDA
import Derived.Test.YtdfleocknaackaaGreatMath3
import Derived.Test.YtdfleocknaackaaGreatShelf
import Derived.Sort.OwnSortedInts
import Derived.Lib.RowBridge
namespace Go.Proofs.YtdfleocknaackaaGreat
open Go.RowKit

theorem take_eraseIdx {α : Type} (xs : List α) (k : Nat) : xs.take k ++ xs.drop (k + 1) = xs.eraseIdx k := (List.eraseIdx_eq_take_drop_succ xs k).symm

theorem delete_ow_i (w : World) (B : Nat) (v : Value) (xs : List Int) (k : Nat) (h : Ow w B v xs) (hk : k < xs.length) (hl : xs.length ≤ 100000) :
    Calls Tryz.prog 81 #[v, .int .i64 k, .int .i64 (k + 1)] w fun e w' => ∃ v', e = .returned v' ∧ Ow w' B v' (xs.eraseIdx k) ∧ w.grownBy w' v.ownBlock ∧ v'.ownBlock = v.ownBlock := by
  rcases h.2 with ⟨_, hz⟩ | ⟨g, cap, cur, rfl, hg, hh, hc1, hc2, hc3, hc4⟩
  · omega
  · have hc2' : cap ≤ 9223372036854775807 := by simpa only [maxLen] using hc2
    have hH := holds_of_blockI (ss := xs) hh (by have h4 := hc4; rw [show xs.length * Elem.k Int = xs.length from Nat.mul_one _, cells_i] at h4; simpa using h4)
    have := Tryz.slices_Delete_int g 0 cap k (k + 1) xs w hH (by simpa using hc1) hc2' (by omega) (by first | omega | (simp; omega))
    try simp only [List.length_map] at this
    refine this.mono ?_
    rintro e w1 ⟨rfl, dn, rfl⟩
    have hle : (xs.eraseIdx k).length = xs.length - 1 := by rw [List.length_eraseIdx, if_pos hk]
    refine ⟨_, rfl, ?_, ?_, rfl⟩
    · have e0 : ∀ d, Sort.putRow (Value.int .i64) (Sort.ahead w dn) g 0 d = Sort.grow (Sort.putRow (Value.int .i64) (Sort.ahead w dn) g 0 d) #[] := fun d => by simp
      rw [e0]
      refine ⟨cellsOf_length _, .inr ⟨g, cap, _, ?_, hg, heap_sortedI _ hh, by rw [hle]; omega, hc2, by simp [Sort.putCells, hc3], ?_⟩⟩
      · rw [hle]; simp
      · have ht := take_putCellsI cur ((xs).take k ++ (xs).drop (k + 1) ++ List.replicate (k + 1 - k) 0) (by simp; rw [hc3]; show _ ≤ cap * 1; omega)
        have ht2 := congrArg (List.take (xs.eraseIdx k).length) ht
        have hll : ((xs).take k ++ (xs).drop (k + 1) ++ List.replicate (k + 1 - k) 0).length = xs.length := by simp; omega
        rw [List.take_take, hll, Nat.min_eq_left (by rw [hle]; omega)] at ht2
        have hk1 : (xs.eraseIdx k).length * Elem.k Int = (xs.eraseIdx k).length := Nat.mul_one _
        rw [hk1, ht2, ← List.map_take, cells_i, List.take_left' (by rw [hle]; simp; omega)]
        rw [← take_eraseIdx]
        try simp
    · have e0 : ∀ d, Sort.putRow (Value.int .i64) (Sort.ahead w dn) g 0 d = Sort.grow (Sort.putRow (Value.int .i64) (Sort.ahead w dn) g 0 d) #[] := fun d => by simp
      rw [e0]
      exact grownBy_sortedI _

/-- Where a number stands: its first place, or -1. -/
def placeIn (xs : List Int) (x : Int) : Int := if x ∈ xs then (xs.idxOf x : Int) else -1
theorem place_here {xs : List Int} {x : Int} {k : Nat} (hk : k < xs.length) (hx : x = xs.getD k 0) (hn : x ∉ xs.take k) : placeIn xs x = k := by
  have hm : x ∈ xs := by rw [hx, getD_at hk]; exact List.getElem_mem hk
  unfold placeIn
  rw [if_pos hm]
  have h1 := List.idxOf_lt_length_of_mem hm
  have h2 : xs[xs.idxOf x] = x := List.getElem_idxOf h1
  rcases Nat.lt_trichotomy (xs.idxOf x) k with h | h | h
  · exact absurd (List.mem_take_iff_getElem.2 ⟨xs.idxOf x, by omega, h2⟩) hn
  · omega
  · have := List.not_of_lt_findIdx (p := (· == x)) h
    rw [getD_at hk] at hx
    simp [hx] at this
theorem place_none {xs : List Int} {x : Int} (h : x ∉ xs) : placeIn xs x = -1 := by unfold placeIn; rw [if_neg h]
theorem place_some {xs : List Int} {x : Int} (h : x ∈ xs) : placeIn xs x = (xs.idxOf x : Int) ∧ xs.idxOf x < xs.length := by unfold placeIn; rw [if_pos h]; exact ⟨rfl, List.idxOf_lt_length_of_mem h⟩

set_option maxHeartbeats 1000000 in
theorem indexA_i (w : World) (v : Value) (xs : List Int) (x : Int) (h : Sl w v xs) : Calls Tryz.prog 114 #[v, .int .i64 x] w fun e w' => e = .returned (.int .i64 (placeIn xs x)) ∧ w' = w := by
  rcases h.ints with ⟨rfl, ao, c, rfl⟩ | ⟨b, off, c, rfl, hc, hc63, hb, hpos, hcell⟩
  · go_enter Tryz.func114, Tryz.ntmps114
    go_wp2
    refine wp_loop_rounds 1 ?_
    rw [rounds_succ]
    go_wp2
    go_ret
    exact ⟨ret_int (place_none (by simp)).symm, rfl⟩
  · have HC := Lib.hid hcell
    clear hcell h
    go_enter Tryz.func114, Tryz.ntmps114
    go_wp2
    go_loop [8] (fun i => ∃ k : Nat, k ≤ xs.length ∧ i = .int .i64 k ∧ Hid (x ∉ xs.take k)) (fun i => xs.length - (intOf i).toNat)
    case atStart => exact ⟨0, Nat.zero_le _, rfl, Lib.hid (by simp)⟩
    case round =>
      obtain ⟨k, hk, rfl, HT⟩ := hrel
      by_cases hlt : k < xs.length
      · have hy := HC.out k hlt
        obtain ⟨y, hyy⟩ : ∃ y, y = xs.getD k 0 := ⟨_, rfl⟩
        rw [← hyy] at hy
        have HN : Hid (xs.take (k + 1) = xs.take k ++ [y]) := Lib.hid (by rw [take_next hlt 0, ← hyy])
        have HY := Lib.hid hyy
        clear hyy
        by_cases hq : x = y
        · have e1 : (x == y) = true := by simp [hq]
          have HQ := Lib.hid hq
          clear hq
          go_wp2
          go_ret
          exact ⟨ret_int (place_here hlt (HQ.out.trans HY.out) HT.out).symm, rfl⟩
        · have e1 : (x == y) = false := by simp [hq]
          have HQ := Lib.hid hq
          clear hq
          go_wp2
          go_round
          case rel => exact ⟨k + 1, by omega, by go_num, Lib.hid (by rw [HN.out]; simp only [List.mem_append, List.mem_singleton]; exact fun e => e.elim HT.out HQ.out)⟩
          case measure => simp [intOf]; omega
      · have hkl : k = xs.length := by omega
        go_wp2
        go_ret
        exact ⟨ret_int (place_none (by have := HT.out; rwa [hkl, List.take_length] at this)).symm, rfl⟩

theorem containsA_i (w : World) (v : Value) (xs : List Int) (x : Int) (h : Sl w v xs) (r : Bool) (hr : decide (x ∈ xs) = r) : Calls Tryz.prog 90 #[v, .int .i64 x] w fun e w' => e = .returned (.bool r) ∧ w' = w := by
  have HS := Lib.hid h
  have hp : decide (0 ≤ placeIn xs x) = r := by
    rw [← hr]
    by_cases hm : x ∈ xs
    · rw [(place_some hm).1]; simp [hm]
    · rw [place_none hm]; simp [hm]
  have HP := Lib.hid hp
  clear h hr hp
  go_enter Tryz.func90, Tryz.ntmps90
  go_wp2_with (go_at_call 114; refine (indexA_i _ _ xs x HS.out).mono ?_; rintro e w1 ⟨rfl, rfl⟩; generalize placeIn xs x = q at *)
  go_ret
  exact ⟨ret_bool HP.out, rfl⟩

end Go.Proofs.YtdfleocknaackaaGreat
