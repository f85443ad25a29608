/- Rows of numbers of the call's own: sorted, compacted, cut, turned round, joined; sets. -/
import Derived.Test.YthofgfdhcndpbaaD3
import Derived.Test.YthofgfdhcndpbaaMath3
import Derived.Test.YthofgfdhcndpbaaShelf
import Derived.Sort.OwnSortedInts
import Derived.Lib.RowBridge
namespace Go.Proofs.Ythofgfdhcndpbaa
open Go.RowKit

theorem take_eraseIdx {α : Type} (xs : List α) (k : Nat) : xs.take k ++ xs.drop (k + 1) = xs.eraseIdx k := (List.eraseIdx_eq_take_drop_succ xs k).symm

theorem grownBy_same (w : World) (row : Option Nat) : w.grownBy w row := ⟨rfl, rfl, rfl, Nat.le_refl _, fun _ _ _ => rfl⟩

theorem ow_i {w : World} {B : Nat} {v : Value} {xs : List Int} : Ow w B v xs ↔ w.ownsRow B 3 1 v xs.length (xs.map (Value.int .i64)) := by
  unfold Ow
  rw [cells_i]
  rfl

theorem sort_ow (w : World) (B : Nat) (v : Value) (xs : List Int) (h : Ow w B v xs) (hl : xs.length ≤ 1000000) :
    Calls Try.prog 58 #[v] w fun e w' => e = .returned (.tuple #[]) ∧ Hid (Ow w' B v (xs.mergeSort fun x y => decide (x ≤ y))) ∧ Hid (w.grownBy w' v.ownBlock) := by
  by_cases hx : xs = []
  · subst hx
    obtain ⟨ao, c, rfl⟩ := h.sl.len
    refine (Try.slices_Sort_int_none ao c w).mono ?_
    rintro e w' ⟨rfl, rfl⟩
    exact ⟨rfl, Lib.hid (by simpa using h), Lib.hid (grownBy_same _ _)⟩
  · rcases (ow_i.1 h).2 with ⟨_, h0⟩ | ⟨g, cap, cur, rfl, hg, hh, h1, h2, h3, h4⟩
    · exact absurd (List.eq_nil_of_length_eq_zero h0) hx
    · have hlm : (xs.mergeSort fun x y => decide (x ≤ y)).length = xs.length := by simp
      refine (Try.slices_Sort_int g 0 cap xs w (holds_of_blockI hh (by simpa using h4)) (Array.getElem?_eq_some_iff.1 hh).1 (by omega)).mono ?_
      rintro e w' ⟨rfl, n, os, rfl⟩
      refine ⟨rfl, ?_, grownBy_sortedI _⟩
      have := ownsRow_sortedI (w := w) (n := n) (os := os) hlm hg hh h1 h2 h3
      refine ow_i.2 ?_
      rw [hlm]
      exact this

theorem compact_ow (w : World) (B : Nat) (v : Value) (xs : List Int) (h : Ow w B v xs) (hl : xs.length ≤ 1000000) :
    Calls Try.prog 59 #[v] w fun e w' => ∃ v', e = .returned v' ∧ Hid (Ow w' B v' (Lib.compact xs)) ∧ Hid (w.grownBy w' v.ownBlock) := by
  by_cases hx : xs = []
  · subst hx
    obtain ⟨ao, c, rfl⟩ := h.sl.len
    refine (Try.slices_Compact_int_empty ao c w).mono ?_
    rintro e w' ⟨rfl, rfl⟩
    exact ⟨_, rfl, h, grownBy_same _ _⟩
  · rcases (ow_i.1 h).2 with ⟨_, h0⟩ | ⟨g, cap, cur, rfl, hg, hh, h1, h2, h3, h4⟩
    · exact absurd (List.eq_nil_of_length_eq_zero h0) hx
    · have hcl := compact_length xs
      refine (Try.slices_Compact_int g 0 cap xs w (holds_of_blockI hh (by simpa using h4)) (by omega) h1).mono ?_
      rintro e w' ⟨rfl, q, rfl⟩
      have hsz : (Lib.compact xs ++ List.replicate (xs.length - (Lib.compact xs).length) 0).length = xs.length := by simp; omega
      have e0 : ∀ d : Array Int, Sort.putRow (Value.int .i64) (Sort.ahead w q) g 0 d = Sort.grow (Sort.putRow (Value.int .i64) (Sort.ahead w q) g 0 d) #[] := fun d => by simp
      refine ⟨_, rfl, ?_, by rw [e0]; exact grownBy_sortedI _⟩
      rw [e0]
      refine ow_i.2 ⟨by simp, .inr ⟨g, cap, _, rfl, hg, heap_sortedI _ hh, by omega, h2, by simp [Sort.putCells, h3], ?_⟩⟩
      have ht := take_putCellsI cur (Lib.compact xs ++ List.replicate (xs.length - (Lib.compact xs).length) 0) (by rw [hsz]; omega)
      rw [Nat.mul_one]
      have := congrArg (List.take (Lib.compact xs).length) ht
      rw [List.take_take, Nat.min_eq_left (by rw [hsz]; omega)] at this
      rw [this, ← List.map_take, List.take_left]

theorem delete_ow_i (w : World) (B : Nat) (v : Value) (xs : List Int) (k : Nat) (h : Ow w B v xs) (hk : k < xs.length) (hl : xs.length ≤ 100000) :
    Calls Try.prog 50 #[v, .int .i64 k, .int .i64 (k + 1)] w fun e w' => ∃ v', e = .returned v' ∧ Ow w' B v' (xs.eraseIdx k) ∧ w.grownBy w' v.ownBlock ∧ v'.ownBlock = v.ownBlock := by
  rcases h.2 with ⟨_, hz⟩ | ⟨g, cap, cur, rfl, hg, hh, hc1, hc2, hc3, hc4⟩
  · omega
  · have hc2' : cap ≤ 9223372036854775807 := by simpa only [maxLen] using hc2
    have hH := holds_of_blockI (ss := xs) hh (by have h4 := hc4; rw [show xs.length * Elem.k Int = xs.length from Nat.mul_one _, cells_i] at h4; simpa using h4)
    have := Try.slices_Delete_int g 0 cap k (k + 1) xs w hH (by simpa using hc1) hc2' (by omega) (by first | omega | (simp; omega))
    try simp only [List.length_map] at this
    refine this.mono ?_
    rintro e w1 ⟨rfl, dn, rfl⟩
    have hle : (xs.eraseIdx k).length = xs.length - 1 := by rw [List.length_eraseIdx, if_pos hk]
    refine ⟨_, rfl, ?_, ?_, rfl⟩
    · have e0 : ∀ d, Sort.putRow (Value.int .i64) (Sort.ahead w dn) g 0 d = Sort.grow (Sort.putRow (Value.int .i64) (Sort.ahead w dn) g 0 d) #[] := fun d => by simp
      rw [e0]
      refine ⟨cellsOf_length _, .inr ⟨g, cap, _, ?_, hg, heap_sortedI _ hh, by rw [hle]; omega, hc2, by simp [Sort.putCells, hc3], ?_⟩⟩
      · rw [hle]; simp
      · have ht := take_putCellsI cur ((xs).take k ++ (xs).drop (k + 1) ++ List.replicate (k + 1 - k) 0) (by simp; rw [hc3]; show _ ≤ cap * 1; omega)
        have ht2 := congrArg (List.take (xs.eraseIdx k).length) ht
        have hll : ((xs).take k ++ (xs).drop (k + 1) ++ List.replicate (k + 1 - k) 0).length = xs.length := by simp; omega
        rw [List.take_take, hll, Nat.min_eq_left (by rw [hle]; omega)] at ht2
        have hk1 : (xs.eraseIdx k).length * Elem.k Int = (xs.eraseIdx k).length := Nat.mul_one _
        rw [hk1, ht2, ← List.map_take, cells_i, List.take_left' (by rw [hle]; simp; omega)]
        rw [← take_eraseIdx]
        try simp
    · have e0 : ∀ d, Sort.putRow (Value.int .i64) (Sort.ahead w dn) g 0 d = Sort.grow (Sort.putRow (Value.int .i64) (Sort.ahead w dn) g 0 d) #[] := fun d => by simp
      rw [e0]
      exact grownBy_sortedI _

set_option maxHeartbeats 1000000 in
theorem those_i (w : World) (v fv : Value) (xs : List Int) (p : Int → Bool) (h : Sl w v xs) (ht : Tells ival w fv p) (hlen : xs.length ≤ 1000000) :
    Calls Try.prog 46 #[v, fv] w (GivesOw w (norm (xs.filter p))) := by
  obtain ⟨g, lb, rfl, eg, hp⟩ := ht.any
  have HP := Lib.hid hp
  clear ht hp
  rcases h.ints with ⟨rfl, ao, c, rfl⟩ | ⟨b, off, c, rfl, hc, hc63, hb, hpos, hcell⟩
  · go_enter Try.func46, Try.ntmps46
    go_wp2
    refine wp_loop_rounds 1 ?_
    rw [rounds_succ]
    go_wp2_with (first
      | (go_at_call 58; refine (sort_ow _ w.heap.size _ [] (Ow.nil _ _) (by simp)).mono ?_; rintro e w1 ⟨rfl, HO1, HG1⟩)
      | (go_at_call 59; refine (compact_ow _ w.heap.size _ _ HO1.out (by simp)).mono ?_; rintro e w2 ⟨v2, rfl, HO2, HG2⟩))
    go_ret
    exact ⟨_, rfl, HO2.out, ((Below.refl _ w).grown HG1.out (Nat.le_refl _) (by simp [Value.ownBlock])).trans ((Below.refl _ w1).grown HG2.out HG1.out.size (by simp [Value.ownBlock]))⟩
  · have HC := Lib.hid hcell
    clear hcell h
    go_enter Try.func46, Try.ntmps46
    go_wp2
    go_loopw [5, 10] (fun q i wr => ∃ k : Nat, k ≤ xs.length ∧ i = .int .i64 k ∧ Hid (Ow wr w.heap.size q ((xs.take k).filter p)) ∧ Hid (Ext w wr)) (fun _ i _ => xs.length - (intOf i).toNat)
    case atStart => exact ⟨0, Nat.zero_le _, rfl, Lib.hid (by simpa using Ow.nil _ _), Lib.hid (Ext.refl _)⟩
    case round =>
      obtain ⟨k, hk, rfl, HO, HX⟩ := hrel
      by_cases hlt : k < xs.length
      · have hy := (HX.out.cell (p := ⟨b, off + k, none⟩) hb).trans (HC.out k hlt)
        obtain ⟨y, hyy⟩ : ∃ y, y = xs.getD k 0 := ⟨_, rfl⟩
        rw [← hyy] at hy
        have HN : Hid ((xs.take (k + 1)).filter p = (xs.take k).filter p ++ (if p y = true then [y] else [])) := Lib.hid (by rw [filter_next p hlt 0, ← hyy])
        clear hyy
        obtain ⟨L, hL⟩ : ∃ L, L = (xs.take k).filter p := ⟨_, rfl⟩
        have hLl : L.length ≤ 1000000 := by
          have := List.length_filter_le p (xs.take k)
          rw [← hL] at this
          simp at this
          omega
        rw [← hL] at HO HN
        clear hL
        have hwr : w.heap.size ≤ wr.heap.size := HX.out.size
        obtain ⟨s, hs⟩ : ∃ s, p y = s := ⟨_, rfl⟩
        rw [hs] at HN
        have HH : Hid (∀ W, Ext w W → Calls Try.prog g (#[.int .i64 y] ++ lb) W fun e w' => e = .returned (.bool s) ∧ Ext W w') := Lib.hid fun W hW => hs ▸ HP.out W y hW
        clear hs
        cases s
        all_goals
          go_wp2_with (first
            | (go_at_fn g; refine (HH.out _ (HX.out.trans (by repeat (first | exact Ext.refl _ | assumption | refine Ext.alloc ?_ _ | refine Ext.drew ?_ | refine Ext.drewN ?_ _)))).mono ?_; rintro e w1 ⟨rfl, hx⟩; have y1 := Lib.hid (HX.out.trans hx); have O1 := Lib.hid (HO.out.ext hx); have hs1 : w.heap.size ≤ w1.heap.size := y1.out.size; clear hx)
            | (at_builtin; refine wpList_append_sl (α := Int) rfl (.tmp 17) (.tmp 19) rfl w.heap.size _ L rfl ?_ (.slice (some ⟨_, 0, none⟩) 1 1) [y] rfl ?_ ?_ ?_ ?_; exact (O1.out.alloc _); exact (Sl.litAt w1 _ rfl [y] (by simp)); (first | omega | (simp; omega)); exact (by first | (simp; done) | (simp; omega)); intro v2 W2 ho2 ha2; have O2 := Lib.hid ho2; have y2 : Hid (Ext w W2) := Lib.hid (Below.trans (y1.out.alloc _) ha2.below); clear ho2 ha2))
          go_roundw
          case rel => exact ⟨k + 1, by omega, by go_num, Lib.hid (by rw [HN.out]; first | exact O2.out | simpa using O1.out), by first | exact y2 | exact y1⟩
          case measure => simp [intOf]; omega
      · have hkl : k = xs.length := by omega
        have ho := HO.out
        rw [hkl, List.take_length] at ho
        have HO' := Lib.hid ho
        clear ho HO
        have HLn := Lib.hid hkl
        clear hkl
        have hfl : (xs.filter p).length ≤ 1000000 := Nat.le_trans (List.length_filter_le _ _) hlen
        obtain ⟨L, hL⟩ : ∃ L, L = xs.filter p := ⟨_, rfl⟩
        rw [← hL] at HO' hfl
        have HL2 := Lib.hid hL
        clear hL
        go_wp2_with (first
          | (go_at_call 58; refine (sort_ow _ w.heap.size _ L HO'.out hfl).mono ?_; rintro e w1 ⟨rfl, HO1, HG1⟩)
          | (go_at_call 59; refine (compact_ow _ w.heap.size _ _ HO1.out (by simpa using hfl)).mono ?_; rintro e w2 ⟨v2, rfl, HO2, HG2⟩))
        go_ret
        exact ⟨_, rfl, by rw [← HL2.out]; exact HO2.out, (HX.out.grown HG1.out HX.out.size fun k hk => (HO'.out.low k hk).1).grown HG2.out (Nat.le_trans HX.out.size HG1.out.size) fun k hk => (HO'.out.low k hk).1⟩


theorem tells_all (w : World) : Tells ival w (.func (.func 47) #[] #[]) (fun _ => true) :=
  ⟨47, _, rfl, enters_of Try.func47 (by kernel_rfl) rfl, fun W y hb => by
    change Calls Try.prog _ #[.int .i64 y] W _
    go_enter Try.func47, Try.ntmps47
    go_wp2
    go_ret
    exact ⟨rfl, Ext.refl _⟩⟩

theorem setOf_any (w : World) (v : Value) (xs : List Int) (h : Sl w v xs) (hlen : xs.length ≤ 1000000) : Calls Try.prog 29 #[v] w (GivesOw w (norm xs)) := by
  have HS := Lib.hid h
  have hn : norm (xs.filter fun _ => true) = norm xs := by rw [List.filter_eq_self.2 (fun _ _ => rfl)]
  have HN := Lib.hid hn
  clear h hn
  have hmf : ∀ (fn : Fn) (first cap : Array Value) (w : World), (Instr.makeFunc fn first cap).run Try.prog w = .ok (.func fn first cap) w := fun _ _ _ _ => rfl
  go_enter Try.func29, Try.ntmps29
  go_wp2_with (go_at_call 46; refine (those_i _ _ _ xs _ HS.out (tells_all _) hlen).mono ?_; rintro e w' ⟨v', rfl, ho, hb⟩; have HO := Lib.hid ho; have HB := Lib.hid hb; clear ho hb)
  go_ret
  exact ⟨_, rfl, by rw [← HN.out]; exact HO.out, HB.out⟩

/-- Where a number stands: its first place, or -1. -/
def placeIn (xs : List Int) (x : Int) : Int := if x ∈ xs then (xs.idxOf x : Int) else -1
theorem place_here {xs : List Int} {x : Int} {k : Nat} (hk : k < xs.length) (hx : x = xs.getD k 0) (hn : x ∉ xs.take k) : placeIn xs x = k := by
  have hm : x ∈ xs := by rw [hx, getD_at hk]; exact List.getElem_mem hk
  unfold placeIn
  rw [if_pos hm]
  have h1 := List.idxOf_lt_length_of_mem hm
  have h2 : xs[xs.idxOf x] = x := List.getElem_idxOf h1
  rcases Nat.lt_trichotomy (xs.idxOf x) k with h | h | h
  · exact absurd (List.mem_take_iff_getElem.2 ⟨xs.idxOf x, by omega, h2⟩) hn
  · omega
  · have := List.not_of_lt_findIdx (p := (· == x)) h
    rw [getD_at hk] at hx
    simp [hx] at this
theorem place_none {xs : List Int} {x : Int} (h : x ∉ xs) : placeIn xs x = -1 := by unfold placeIn; rw [if_neg h]
theorem place_some {xs : List Int} {x : Int} (h : x ∈ xs) : placeIn xs x = (xs.idxOf x : Int) ∧ xs.idxOf x < xs.length := by unfold placeIn; rw [if_pos h]; exact ⟨rfl, List.idxOf_lt_length_of_mem h⟩

set_option maxHeartbeats 1000000 in
theorem index_i (w : World) (v : Value) (xs : List Int) (x : Int) (h : Sl w v xs) : Calls Try.prog 40 #[v, .int .i64 x] w fun e w' => e = .returned (.int .i64 (placeIn xs x)) ∧ w' = w := by
  rcases h.ints with ⟨rfl, ao, c, rfl⟩ | ⟨b, off, c, rfl, hc, hc63, hb, hpos, hcell⟩
  · go_enter Try.func40, Try.ntmps40
    go_wp2
    refine wp_loop_rounds 1 ?_
    rw [rounds_succ]
    go_wp2
    go_ret
    exact ⟨ret_int (place_none (by simp)).symm, rfl⟩
  · have HC := Lib.hid hcell
    clear hcell h
    go_enter Try.func40, Try.ntmps40
    go_wp2
    go_loop [8] (fun i => ∃ k : Nat, k ≤ xs.length ∧ i = .int .i64 k ∧ Hid (x ∉ xs.take k)) (fun i => xs.length - (intOf i).toNat)
    case atStart => exact ⟨0, Nat.zero_le _, rfl, Lib.hid (by simp)⟩
    case round =>
      obtain ⟨k, hk, rfl, HT⟩ := hrel
      by_cases hlt : k < xs.length
      · have hy := HC.out k hlt
        obtain ⟨y, hyy⟩ : ∃ y, y = xs.getD k 0 := ⟨_, rfl⟩
        rw [← hyy] at hy
        have HN : Hid (xs.take (k + 1) = xs.take k ++ [y]) := Lib.hid (by rw [take_next hlt 0, ← hyy])
        have HY := Lib.hid hyy
        clear hyy
        by_cases hq : x = y
        · have e1 : (x == y) = true := by simp [hq]
          have HQ := Lib.hid hq
          clear hq
          go_wp2
          go_ret
          exact ⟨ret_int (place_here hlt (HQ.out.trans HY.out) HT.out).symm, rfl⟩
        · have e1 : (x == y) = false := by simp [hq]
          have HQ := Lib.hid hq
          clear hq
          go_wp2
          go_round
          case rel => exact ⟨k + 1, by omega, by go_num, Lib.hid (by rw [HN.out]; simp only [List.mem_append, List.mem_singleton]; exact fun e => e.elim HT.out HQ.out)⟩
          case measure => simp [intOf]; omega
      · have hkl : k = xs.length := by omega
        go_wp2
        go_ret
        exact ⟨ret_int (place_none (by have := HT.out; rwa [hkl, List.take_length] at this)).symm, rfl⟩

theorem contains_i (w : World) (v : Value) (xs : List Int) (x : Int) (h : Sl w v xs) (r : Bool) (hr : decide (x ∈ xs) = r) : Calls Try.prog 49 #[v, .int .i64 x] w fun e w' => e = .returned (.bool r) ∧ w' = w := by
  have HS := Lib.hid h
  have hp : decide (0 ≤ placeIn xs x) = r := by
    rw [← hr]
    by_cases hm : x ∈ xs
    · rw [(place_some hm).1]; simp [hm]
    · rw [place_none hm]; simp [hm]
  have HP := Lib.hid hp
  clear h hr hp
  go_enter Try.func49, Try.ntmps49
  go_wp2_with (go_at_call 40; refine (index_i _ _ xs x HS.out).mono ?_; rintro e w1 ⟨rfl, rfl⟩; generalize placeIn xs x = q at *)
  go_ret
  exact ⟨ret_bool HP.out, rfl⟩

theorem setHas_val (w : World) (v : Value) (xs : List Int) (x : Int) (h : Sl w v xs) (r : Bool) (hr : decide (x ∈ xs) = r) : Calls Try.prog 32 #[v, .int .i64 x] w fun e w' => e = .returned (.bool r) ∧ w' = w := by
  have HS := Lib.hid h
  have HR := Lib.hid hr
  clear h hr
  go_enter Try.func32, Try.ntmps32
  go_wp2_with (go_at_call 49; refine (contains_i _ _ xs x HS.out _ HR.out).mono ?_; rintro e w1 ⟨rfl, rfl⟩)
  go_ret
  exact ⟨rfl, rfl⟩

set_option maxHeartbeats 1000000 in
theorem min_any (w : World) (v : Value) (xs : List Int) (h : Sl w v xs) (hne : xs ≠ []) : Calls Try.prog 55 #[v] w fun e w' => e = .returned (.int .i64 (minI xs)) ∧ w' = w := by
  rcases h.ints with ⟨rfl, ao, c, rfl⟩ | ⟨b, off, c, rfl, hc, hc63, hb, hpos, hcell⟩
  · exact absurd rfl hne
  · have c0 : w.cell? ⟨b, off, none⟩ = some (.int .i64 (xs.getD 0 0)) := hcell 0 hpos
    have h0 : minI (xs.take 1) = xs.getD 0 0 := by
      match xs, hpos with
      | x :: l, _ => simp [minI]
    have H0 := Lib.hid h0
    have HC := Lib.hid hcell
    have hpi : ¬ ((xs.length : Int) < 1) := by omega
    clear hcell h hne h0
    generalize xs.getD 0 0 = x0 at *
    go_enter Try.func55, Try.ntmps55
    go_wp2
    go_loop [3, 4] (fun m i => ∃ k : Nat, 1 ≤ k ∧ k ≤ xs.length ∧ i = .int .i64 k ∧ ∃ z : Int, m = .int .i64 z ∧ Hid (z = minI (xs.take k))) (fun _ i => xs.length - (intOf i).toNat)
    case atStart => exact ⟨1, Nat.le_refl _, hpos, rfl, _, rfl, Lib.hid H0.out.symm⟩
    case round =>
      obtain ⟨k, hk1, hk, rfl, z, rfl, HZ⟩ := hrel
      by_cases hlt : k < xs.length
      · have hy := HC.out k hlt
        obtain ⟨y, hyy⟩ : ∃ y, y = xs.getD k 0 := ⟨_, rfl⟩
        rw [← hyy] at hy
        have HN : Hid (minI (xs.take (k + 1)) = min z y) := Lib.hid (by rw [take_next hlt 0, ← hyy, min_snoc _ _ (by rw [ne_eq, ← List.length_eq_zero_iff, List.length_take]; omega), HZ.out])
        clear hyy
        go_wp2
        go_round
        case rel => exact ⟨k + 1, by omega, by omega, by go_num, _, rfl, Lib.hid (by rw [HN.out])⟩
        case measure => simp [intOf]; omega
      · have hkl : k = xs.length := by omega
        go_wp2
        go_ret
        exact ⟨ret_int (by have := HZ.out; rwa [hkl, List.take_length] at this), rfl⟩

theorem grow_i (w : World) (n : Nat) (hn : n ≤ 2000000) : Calls Try.prog 60 #[.slice none 0 0, .int .i64 n] w (GivesOw w ([] : List Int)) := by
  by_cases h0 : n = 0
  · subst h0
    refine (Any8.slices_Grow_room Try.grow60 none 0 0 0 w (by omega) (by omega) (by omega) (by omega)).mono ?_
    rintro e w' ⟨rfl, rfl⟩
    exact ⟨_, rfl, Ow.nil _ _, Below.refl _ _⟩
  · obtain ⟨i0, hi, hz0, hz1, hz2⟩ := info_parts (Elem.info (α := Int))
    have hz1 : i0.size = 1 := hz1
    have hz2 : i0.bytes = 8 := hz2
    have hz0 : i0.zero = some (.int .i64 0) := hz0
    refine (Any8.slices_Grow_grow Try.grow60 i0 (.int .i64 0) hi hz0 (by omega) none 0 0 n [] w (by omega) (by omega) (by rw [hz2]; omega) (by omega) (by simp) (by simp) (by simp)).mono ?_
    rintro e w' ⟨rfl, rfl⟩
    have hm := grownCap_le_maxLen w (0 + n) 0 3 (by unfold maxLen; omega)
    have hge := grownCap_ge w (0 + n) 0 3
    refine ⟨_, rfl, ?_, ((Below.refl _ w).drew).alloc (Nat.le_refl _) _⟩
    refine World.ownsRow_made w.drew _ _ (Nat.le_refl _) hm ?_
    simp [size_zeroCells]
    have : (Value.int .i64 0).cells.size = 1 := rfl
    rw [this]
    have e1 : Try.grow60_ren.t 25 = 3 := rfl
    rw [e1]
    rw [Nat.zero_add] at hge
    show _ = _ * 1
    omega

theorem growI_i (w : World) (m : Int) (h0 : 0 ≤ m) (h1 : m ≤ 2000000) : Calls Try.prog 60 #[.slice none 0 0, .int .i64 m] w (GivesOw w ([] : List Int)) := by
  have := grow_i w m.toNat (by omega)
  rwa [show ((m.toNat : Nat) : Int) = m from by omega] at this

set_option maxHeartbeats 1000000 in
theorem concat_i (w : World) (B : Nat) (v0 v1 : Value) (xs ys : List Int) (hB : B < w.heap.size) (c0 : w.cell? ⟨B, 0, none⟩ = some v0) (c1 : w.cell? ⟨B, 1, none⟩ = some v1)
    (h0 : Sl w v0 xs) (h1 : Sl w v1 ys) (l0 : xs.length ≤ 1000) (l1 : ys.length ≤ 1000) :
    Calls Try.prog 56 #[.slice (some ⟨B, 0, none⟩) 2 2] w (GivesOw w (xs ++ ys)) := by
  obtain ⟨a0, k0, rfl⟩ := h0.len
  obtain ⟨a1, k1, rfl⟩ := h1.len
  have H0 := Lib.hid h0
  have H1 := Lib.hid h1
  clear h0 h1
  have HK : Hid (∀ V, Ext w V → V.cell? ⟨B, 0, none⟩ = some (.slice a0 xs.length k0) ∧ V.cell? ⟨B, 1, none⟩ = some (.slice a1 ys.length k1)) := Lib.hid fun V x =>
    ⟨(x.cell (p := ⟨B, 0, none⟩) hB).trans c0, (x.cell (p := ⟨B, 1, none⟩) hB).trans c1⟩
  go_enter Try.func56, Try.ntmps56
  go_wp2
  refine wp_loop_rounds 3 ?_
  rw [rounds_succ]; go_wp2
  rw [rounds_succ]; go_wp2
  rw [rounds_succ]
  clear c0 c1
  go_wp2_with (go_at_call 60; refine (growI_i _ _ (by omega) (by omega)).mono ?_; rintro e w1 ⟨v1, rfl, ho, x1⟩; obtain ⟨ao1, n1, q1, rfl⟩ := ho.sh; have O1 := Lib.hid ho; obtain ⟨c0, c1⟩ := HK.out w1 x1; have hs1 : w.heap.size ≤ w1.heap.size := x1.size; clear ho)
  refine wp_loop_rounds 3 ?_
  rw [rounds_succ]
  go_wp2_with ((at_builtin; refine wpList_append_sl (α := Int) rfl (.tmp 31) (.tmp 32) rfl w.heap.size _ [] rfl ?_ _ xs rfl ?_ ?_ ?_ ?_; exact O1.out; exact (H0.out.ext x1); (first | omega | (simp; omega)); omega; intro v2 W2 ho2 ha2; obtain ⟨ao2, n2, q2, rfl⟩ := ho2.sh; have O2 := Lib.hid ho2; have x2 : Ext w W2 := Below.trans x1 ha2.below; obtain ⟨d0, d1⟩ := HK.out W2 x2; have hs2 : w.heap.size ≤ W2.heap.size := x2.size; clear ho2 ha2))
  rw [rounds_succ]
  go_wp2_with ((at_builtin; refine wpList_append_sl (α := Int) rfl (.tmp 31) (.tmp 32) rfl w.heap.size _ ([] ++ xs) rfl ?_ _ ys rfl ?_ ?_ ?_ ?_; exact O2.out; exact (H1.out.ext x2); (first | omega | (simp; omega)); omega; intro v3 W3 ho3 ha3; obtain ⟨ao3, n3, q3, rfl⟩ := ho3.sh; have O3 := Lib.hid ho3; have x3 : Ext w W3 := Below.trans x2 ha3.below; have hs3 : w.heap.size ≤ W3.heap.size := x3.size; clear ho3 ha3))
  rw [rounds_succ]
  go_wp2
  go_ret
  exact ⟨_, rfl, by have := O3.out; simpa using this, x3⟩


end Go.Proofs.Ythofgfdhcndpbaa
