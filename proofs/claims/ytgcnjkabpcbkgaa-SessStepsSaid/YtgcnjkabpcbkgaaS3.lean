/- Sets of numbers: the functions of layer 1 that are asked here, over XBase. -/
import Derived.Test.YtgcnjkabpcbkgaaG2
import Derived.Test.YtgcnjkabpcbkgaaMath3
import Derived.Test.YtgcnjkabpcbkgaaShelf
import Derived.Sort.OwnSortedInts
namespace Go.Proofs.Ytgcnjkabpcbkgaa
open Go.RowKit

theorem grownBy_same (w : World) (row : Option Nat) : w.grownBy w row := ⟨rfl, rfl, rfl, Nat.le_refl _, fun _ _ _ => rfl⟩

theorem ow_i {w : World} {B : Nat} {v : Value} {xs : List Int} : Ow w B v xs ↔ w.ownsRow B 3 1 v xs.length (xs.map (Value.int .i64)) := by
  unfold Ow
  rw [cells_i]
  rfl

theorem sort_ow (w : World) (B : Nat) (v : Value) (xs : List Int) (h : Ow w B v xs) (hl : xs.length ≤ 1000000) :
    Calls Try.prog 63 #[v] w fun e w' => e = .returned (.tuple #[]) ∧ Hid (Ow w' B v (xs.mergeSort fun x y => decide (x ≤ y))) ∧ Hid (w.grownBy w' v.ownBlock) := by
  by_cases hx : xs = []
  · subst hx
    obtain ⟨ao, c, rfl⟩ := h.sl.len
    refine (Try.slices_Sort_int_none ao c w).mono ?_
    rintro e w' ⟨rfl, rfl⟩
    exact ⟨rfl, Lib.hid (by simpa using h), Lib.hid (grownBy_same _ _)⟩
  · rcases (ow_i.1 h).2 with ⟨_, h0⟩ | ⟨g, cap, cur, rfl, hg, hh, h1, h2, h3, h4⟩
    · exact absurd (List.eq_nil_of_length_eq_zero h0) hx
    · have hlm : (xs.mergeSort fun x y => decide (x ≤ y)).length = xs.length := by simp
      refine (Try.slices_Sort_int g 0 cap xs w (holds_of_blockI hh (by simpa using h4)) (Array.getElem?_eq_some_iff.1 hh).1 (by omega)).mono ?_
      rintro e w' ⟨rfl, n, os, rfl⟩
      refine ⟨rfl, ?_, grownBy_sortedI _⟩
      have := ownsRow_sortedI (w := w) (n := n) (os := os) hlm hg hh h1 h2 h3
      refine ow_i.2 ?_
      rw [hlm]
      exact this

theorem compact_ow (w : World) (B : Nat) (v : Value) (xs : List Int) (h : Ow w B v xs) (hl : xs.length ≤ 1000000) :
    Calls Try.prog 64 #[v] w fun e w' => ∃ v', e = .returned v' ∧ Hid (Ow w' B v' (Lib.compact xs)) ∧ Hid (w.grownBy w' v.ownBlock) := by
  by_cases hx : xs = []
  · subst hx
    obtain ⟨ao, c, rfl⟩ := h.sl.len
    refine (Try.slices_Compact_int_empty ao c w).mono ?_
    rintro e w' ⟨rfl, rfl⟩
    exact ⟨_, rfl, h, grownBy_same _ _⟩
  · rcases (ow_i.1 h).2 with ⟨_, h0⟩ | ⟨g, cap, cur, rfl, hg, hh, h1, h2, h3, h4⟩
    · exact absurd (List.eq_nil_of_length_eq_zero h0) hx
    · have hcl := compact_length xs
      refine (Try.slices_Compact_int g 0 cap xs w (holds_of_blockI hh (by simpa using h4)) (by omega) h1).mono ?_
      rintro e w' ⟨rfl, q, rfl⟩
      have hsz : (Lib.compact xs ++ List.replicate (xs.length - (Lib.compact xs).length) 0).length = xs.length := by simp; omega
      have e0 : ∀ d : Array Int, Sort.putRow (Value.int .i64) (Sort.ahead w q) g 0 d = Sort.grow (Sort.putRow (Value.int .i64) (Sort.ahead w q) g 0 d) #[] := fun d => by simp
      refine ⟨_, rfl, ?_, by rw [e0]; exact grownBy_sortedI _⟩
      rw [e0]
      refine ow_i.2 ⟨by simp, .inr ⟨g, cap, _, rfl, hg, heap_sortedI _ hh, by omega, h2, by simp [Sort.putCells, h3], ?_⟩⟩
      have ht := take_putCellsI cur (Lib.compact xs ++ List.replicate (xs.length - (Lib.compact xs).length) 0) (by rw [hsz]; omega)
      rw [Nat.mul_one]
      have := congrArg (List.take (Lib.compact xs).length) ht
      rw [List.take_take, Nat.min_eq_left (by rw [hsz]; omega)] at this
      rw [this, ← List.map_take, List.take_left]

def ival (x : Int) : Value := .int .i64 x

set_option maxHeartbeats 1000000 in
theorem those_i (w : World) (v fv : Value) (xs : List Int) (p : Int → Bool) (h : Sl w v xs) (ht : Tells ival w fv p) (hlen : xs.length ≤ 1000000) :
    Calls Try.prog 59 #[v, fv] w (GivesOw w (norm (xs.filter p))) := by
  obtain ⟨g, lb, rfl, eg, hp⟩ := ht.any
  have HP := Lib.hid hp
  clear ht hp
  rcases h.ints with ⟨rfl, ao, c, rfl⟩ | ⟨b, off, c, rfl, hc, hc63, hb, hpos, hcell⟩
  · go_enter Try.func59, Try.ntmps59
    go_wp2
    refine wp_loop_rounds 1 ?_
    rw [rounds_succ]
    go_wp2_with (first
      | (go_at_call 63; refine (sort_ow _ w.heap.size _ [] (Ow.nil _ _) (by simp)).mono ?_; rintro e w1 ⟨rfl, HO1, HG1⟩)
      | (go_at_call 64; refine (compact_ow _ w.heap.size _ _ HO1.out (by simp)).mono ?_; rintro e w2 ⟨v2, rfl, HO2, HG2⟩))
    go_ret
    exact ⟨_, rfl, HO2.out, ((Below.refl _ w).grown HG1.out (Nat.le_refl _) (by simp [Value.ownBlock])).trans ((Below.refl _ w1).grown HG2.out HG1.out.size (by simp [Value.ownBlock]))⟩
  · have HC := Lib.hid hcell
    clear hcell h
    go_enter Try.func59, Try.ntmps59
    go_wp2
    go_loopw [5, 10] (fun q i wr => ∃ k : Nat, k ≤ xs.length ∧ i = .int .i64 k ∧ Hid (Ow wr w.heap.size q ((xs.take k).filter p)) ∧ Hid (Ext w wr)) (fun _ i _ => xs.length - (intOf i).toNat)
    case atStart => exact ⟨0, Nat.zero_le _, rfl, Lib.hid (by simpa using Ow.nil _ _), Lib.hid (Ext.refl _)⟩
    case round =>
      obtain ⟨k, hk, rfl, HO, HX⟩ := hrel
      by_cases hlt : k < xs.length
      · have hy := (HX.out.cell (p := ⟨b, off + k, none⟩) hb).trans (HC.out k hlt)
        obtain ⟨y, hyy⟩ : ∃ y, y = xs.getD k 0 := ⟨_, rfl⟩
        rw [← hyy] at hy
        have HN : Hid ((xs.take (k + 1)).filter p = (xs.take k).filter p ++ (if p y = true then [y] else [])) := Lib.hid (by rw [filter_next p hlt 0, ← hyy])
        clear hyy
        obtain ⟨L, hL⟩ : ∃ L, L = (xs.take k).filter p := ⟨_, rfl⟩
        have hLl : L.length ≤ 1000000 := by
          have := List.length_filter_le p (xs.take k)
          rw [← hL] at this
          simp at this
          omega
        rw [← hL] at HO HN
        clear hL
        have hwr : w.heap.size ≤ wr.heap.size := HX.out.size
        obtain ⟨s, hs⟩ : ∃ s, p y = s := ⟨_, rfl⟩
        rw [hs] at HN
        have HH : Hid (∀ W, Ext w W → Calls Try.prog g (#[.int .i64 y] ++ lb) W fun e w' => e = .returned (.bool s) ∧ Ext W w') := Lib.hid fun W hW => hs ▸ HP.out W y hW
        clear hs
        cases s
        all_goals
          go_wp2_with (first
            | (go_at_fn g; refine (HH.out _ (HX.out.trans (by repeat (first | exact Ext.refl _ | assumption | refine Ext.alloc ?_ _ | refine Ext.drew ?_ | refine Ext.drewN ?_ _)))).mono ?_; rintro e w1 ⟨rfl, hx⟩; have y1 := Lib.hid (HX.out.trans hx); have O1 := Lib.hid (HO.out.ext hx); have hs1 : w.heap.size ≤ w1.heap.size := y1.out.size; clear hx)
            | (at_builtin; refine wpList_append_sl (α := Int) rfl (.tmp 17) (.tmp 19) rfl w.heap.size _ L rfl ?_ (.slice (some ⟨_, 0, none⟩) 1 1) [y] rfl ?_ ?_ ?_ ?_; exact (O1.out.alloc _); exact (Sl.litAt w1 _ rfl [y] (by simp)); (first | omega | (simp; omega)); exact (by first | (simp; done) | (simp; omega)); intro v2 W2 ho2 ha2; have O2 := Lib.hid ho2; have y2 : Hid (Ext w W2) := Lib.hid (Below.trans (y1.out.alloc _) ha2.below); clear ho2 ha2))
          go_roundw
          case rel => exact ⟨k + 1, by omega, by go_num, Lib.hid (by rw [HN.out]; first | exact O2.out | simpa using O1.out), by first | exact y2 | exact y1⟩
          case measure => simp [intOf]; omega
      · have hkl : k = xs.length := by omega
        have ho := HO.out
        rw [hkl, List.take_length] at ho
        have HO' := Lib.hid ho
        clear ho HO
        have HLn := Lib.hid hkl
        clear hkl
        have hfl : (xs.filter p).length ≤ 1000000 := Nat.le_trans (List.length_filter_le _ _) hlen
        obtain ⟨L, hL⟩ : ∃ L, L = xs.filter p := ⟨_, rfl⟩
        rw [← hL] at HO' hfl
        have HL2 := Lib.hid hL
        clear hL
        go_wp2_with (first
          | (go_at_call 63; refine (sort_ow _ w.heap.size _ L HO'.out hfl).mono ?_; rintro e w1 ⟨rfl, HO1, HG1⟩)
          | (go_at_call 64; refine (compact_ow _ w.heap.size _ _ HO1.out (by simpa using hfl)).mono ?_; rintro e w2 ⟨v2, rfl, HO2, HG2⟩))
        go_ret
        exact ⟨_, rfl, by rw [← HL2.out]; exact HO2.out, (HX.out.grown HG1.out HX.out.size fun k hk => (HO'.out.low k hk).1).grown HG2.out (Nat.le_trans HX.out.size HG1.out.size) fun k hk => (HO'.out.low k hk).1⟩

set_option maxHeartbeats 1000000 in
theorem index_i (w : World) (v : Value) (xs : List Int) (x : Int) (h : Sl w v xs) : Calls Try.prog 62 #[v, .int .i64 x] w fun e w' => ∃ r : Int, e = .returned (.int .i64 r) ∧ decide (0 ≤ r) = decide (x ∈ xs) ∧ Ext w w' := by
  rcases h.ints with ⟨rfl, ao, c, rfl⟩ | ⟨b, off, c, rfl, hc, hc63, hb, hpos, hcell⟩
  · go_enter Try.func62, Try.ntmps62
    go_wp2
    refine wp_loop_rounds 1 ?_
    rw [rounds_succ]
    go_wp2
    go_ret
    exact ⟨_, rfl, by simp, Ext.refl _⟩
  · have HC := Lib.hid hcell
    clear hcell h
    go_enter Try.func62, Try.ntmps62
    go_wp2
    go_loopw [8] (fun i wr => ∃ k : Nat, k ≤ xs.length ∧ i = .int .i64 k ∧ Hid (x ∉ xs.take k) ∧ Hid (Drew w wr)) (fun i _ => xs.length - (intOf i).toNat)
    case atStart => exact ⟨0, Nat.zero_le _, rfl, Lib.hid (by simp), Lib.hid (Drew.refl _)⟩
    case round =>
      obtain ⟨k, hk, rfl, HT, HD⟩ := hrel
      by_cases hlt : k < xs.length
      · have hy := (HD.out.cell ⟨b, off + k, none⟩).trans (HC.out k hlt)
        obtain ⟨y, hyy⟩ : ∃ y, y = xs.getD k 0 := ⟨_, rfl⟩
        rw [← hyy] at hy
        have HN : Hid (xs.take (k + 1) = xs.take k ++ [y]) := Lib.hid (by rw [take_next hlt 0, ← hyy])
        have HM : Hid (y ∈ xs) := Lib.hid (hyy ▸ by rw [List.getD_eq_getElem?_getD, List.getElem?_eq_getElem hlt]; simp)
        clear hyy
        by_cases hq : x = y
        · have e1 : (x == y) = true := by simp [hq]
          have HQ := Lib.hid hq
          clear hq
          go_wp2
          try go_quiet (fail)
          try go_wp2
          go_ret
          exact ⟨_, rfl, by rw [HQ.out, decide_eq_true HM.out]; simp, by first | exact Ext.of_drew HD.out | exact Ext.of_drew (HD.out.more _)⟩
        · have e1 : (x == y) = false := by simp [hq]
          have HQ := Lib.hid hq
          clear hq
          go_wp2
          try go_quiet (fail)
          try go_wp2
          go_roundw
          case rel => exact ⟨k + 1, by omega, by go_num, Lib.hid (by rw [HN.out]; simp only [List.mem_append, List.mem_singleton]; exact fun e => e.elim HT.out HQ.out), by first | exact HD | exact Lib.hid (HD.out.more _)⟩
          case measure => simp [intOf]; omega
      · have hkl : k = xs.length := by omega
        go_wp2
        go_ret
        exact ⟨_, rfl, by have := HT.out; rw [hkl, List.take_length] at this; rw [decide_eq_false this]; rfl, Ext.of_drew HD.out⟩

theorem contains_i (w : World) (v : Value) (xs : List Int) (x : Int) (h : Sl w v xs) (r : Bool) (hr : decide (x ∈ xs) = r) : Calls Try.prog 58 #[v, .int .i64 x] w fun e w' => e = .returned (.bool r) ∧ Ext w w' := by
  subst hr
  have HS := Lib.hid h
  clear h
  go_enter Try.func58, Try.ntmps58
  go_wp2_with (go_at_call 62; refine (index_i _ _ xs x HS.out).mono ?_; rintro e w1 ⟨r, rfl, hr, hx⟩; have HR := Lib.hid hr; have HX := Lib.hid hx; clear hr hx)
  go_ret
  exact ⟨ret_bool HR.out, HX.out⟩

theorem setHas_val (w : World) (v : Value) (xs : List Int) (x : Int) (h : Sl w v xs) (r : Bool) (hr : decide (x ∈ xs) = r) : Calls Try.prog 46 #[v, .int .i64 x] w fun e w' => e = .returned (.bool r) ∧ Ext w w' := by
  have HS := Lib.hid h
  have HR := Lib.hid hr
  clear h hr
  go_enter Try.func46, Try.ntmps46
  go_wp2_with (go_at_call 58; refine (contains_i _ _ xs x HS.out _ HR.out).mono ?_; rintro e w1 ⟨rfl, hx⟩; have HX := Lib.hid hx; clear hx)
  go_ret
  exact ⟨rfl, HX.out⟩

theorem setValid_any (w : World) (v : Value) (xs : List Int) (h : Sl w v xs) : Calls Try.prog 55 #[v] w fun e w' => e = .returned (.bool (decide (SS xs))) ∧ Drew w w' := by
  rcases h.ints with ⟨rfl, ao, c, rfl⟩ | ⟨b, off, c, rfl, hc, hc63, hb, hpos, hcell⟩
  · go_enter Try.func55, Try.ntmps55
    go_wp2
    refine wp_loop_rounds 1 ?_
    rw [rounds_succ]
    go_wp2
    go_ret
    exact ⟨ret_bool (decide_eq_true (SS_one (by simp))).symm, Drew.refl _⟩
  · have hlen : xs.length ≤ 9223372036854775807 := by omega
    have HC := Lib.hid hcell
    clear hcell h
    go_enter Try.func55, Try.ntmps55
    go_wp2
    go_loopw [3] (fun i wr => ∃ k : Nat, 1 ≤ k ∧ k ≤ xs.length ∧ i = .int .i64 k ∧ Hid (SS (xs.take k)) ∧ Hid (Drew w wr)) (fun i _ => xs.length - (intOf i).toNat)
    case atStart => exact ⟨1, Nat.le_refl _, hpos, rfl, Lib.hid (SS_one (by simp; omega)), Lib.hid (Drew.refl _)⟩
    case round =>
      obtain ⟨k, hk1, hk, rfl, HT, HD⟩ := hrel
      by_cases hlt : k < xs.length
      · have hck := (HD.out.cell ⟨b, off + k, none⟩).trans (HC.out k hlt)
        have hck' := (HD.out.cell ⟨b, off + (k - 1), none⟩).trans (HC.out (k - 1) (by omega))
        obtain ⟨y, hy⟩ : ∃ y, y = xs.getD k 0 := ⟨_, rfl⟩
        obtain ⟨z, hz⟩ : ∃ z, z = xs.getD (k - 1) 0 := ⟨_, rfl⟩
        rw [← hy] at hck
        rw [← hz] at hck'
        have HY := Lib.hid hy
        have HZ := Lib.hid hz
        clear hy hz
        by_cases h1 : y ≤ z
        · go_wp2
          go_quiet (fail)
          go_wp2
          go_ret
          refine ⟨ret_bool (decide_eq_false (fun e => ?_)).symm, HD.out.more _⟩
          have := ((SS_take_succ hk1 hlt).1 (List.Pairwise.sublist (List.take_sublist _ _) e)).2
          rw [← HY.out, ← HZ.out] at this
          omega
        · have hd : decide (y ≤ z) = false := decide_eq_false h1
          go_wp2
          go_quiet (fail)
          go_wp2
          go_roundw
          case rel => exact ⟨k + 1, by omega, by omega, by go_num, Lib.hid ((SS_take_succ hk1 hlt).2 ⟨HT.out, by rw [← HY.out, ← HZ.out]; omega⟩), Lib.hid (HD.out.more _)⟩
          case measure => simp [intOf]; omega
      · go_wp2
        go_ret
        have hkl : k = xs.length := by omega
        have hn := HT.out
        rw [hkl, List.take_length] at hn
        exact ⟨ret_bool (decide_eq_true hn).symm, HD.out⟩


theorem setValid_val (w : World) (v : Value) (xs : List Int) (h : Sl w v xs) (r : Bool) (hr : decide (SS xs) = r) : Calls Try.prog 55 #[v] w fun e w' => e = .returned (.bool r) ∧ Ext w w' :=
  (setValid_any w v xs h).mono fun _ _ ⟨he, hd⟩ => ⟨hr ▸ he, Ext.of_drew hd⟩

end Go.Proofs.Ytgcnjkabpcbkgaa
