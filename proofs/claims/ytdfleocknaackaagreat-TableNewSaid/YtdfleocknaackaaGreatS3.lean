/- Sets of numbers: the functions of layer 1 that are asked here, over XBase. -/
import Derived.Test.YtdfleocknaackaaGreatMG
import Derived.Test.YtdfleocknaackaaGreatMath3
import Derived.Test.YtdfleocknaackaaGreatShelf
import Derived.Sort.OwnSortedInts
namespace Go.Proofs.YtdfleocknaackaaGreat
open Go.RowKit

theorem grownBy_same (w : World) (row : Option Nat) : w.grownBy w row := ⟨rfl, rfl, rfl, Nat.le_refl _, fun _ _ _ => rfl⟩

theorem ow_i {w : World} {B : Nat} {v : Value} {xs : List Int} : Ow w B v xs ↔ w.ownsRow B 3 1 v xs.length (xs.map (Value.int .i64)) := by
  unfold Ow
  rw [cells_i]
  rfl

theorem sort_ow (w : World) (B : Nat) (v : Value) (xs : List Int) (h : Ow w B v xs) (hl : xs.length ≤ 1000000) :
    Calls Tryz.prog 134 #[v] w fun e w' => e = .returned (.tuple #[]) ∧ Hid (Ow w' B v (xs.mergeSort fun x y => decide (x ≤ y))) ∧ Hid (w.grownBy w' v.ownBlock) := by
  by_cases hx : xs = []
  · subst hx
    obtain ⟨ao, c, rfl⟩ := h.sl.len
    refine (Tryz.slices_Sort_int_none ao c w).mono ?_
    rintro e w' ⟨rfl, rfl⟩
    exact ⟨rfl, Lib.hid (by simpa using h), Lib.hid (grownBy_same _ _)⟩
  · rcases (ow_i.1 h).2 with ⟨_, h0⟩ | ⟨g, cap, cur, rfl, hg, hh, h1, h2, h3, h4⟩
    · exact absurd (List.eq_nil_of_length_eq_zero h0) hx
    · have hlm : (xs.mergeSort fun x y => decide (x ≤ y)).length = xs.length := by simp
      refine (Tryz.slices_Sort_int g 0 cap xs w (holds_of_blockI hh (by simpa using h4)) (Array.getElem?_eq_some_iff.1 hh).1 (by omega)).mono ?_
      rintro e w' ⟨rfl, n, os, rfl⟩
      refine ⟨rfl, ?_, grownBy_sortedI _⟩
      have := ownsRow_sortedI (w := w) (n := n) (os := os) hlm hg hh h1 h2 h3
      refine ow_i.2 ?_
      rw [hlm]
      exact this

theorem compact_ow (w : World) (B : Nat) (v : Value) (xs : List Int) (h : Ow w B v xs) (hl : xs.length ≤ 1000000) :
    Calls Tryz.prog 135 #[v] w fun e w' => ∃ v', e = .returned v' ∧ Hid (Ow w' B v' (Lib.compact xs)) ∧ Hid (w.grownBy w' v.ownBlock) := by
  by_cases hx : xs = []
  · subst hx
    obtain ⟨ao, c, rfl⟩ := h.sl.len
    refine (Tryz.slices_Compact_int_empty ao c w).mono ?_
    rintro e w' ⟨rfl, rfl⟩
    exact ⟨_, rfl, h, grownBy_same _ _⟩
  · rcases (ow_i.1 h).2 with ⟨_, h0⟩ | ⟨g, cap, cur, rfl, hg, hh, h1, h2, h3, h4⟩
    · exact absurd (List.eq_nil_of_length_eq_zero h0) hx
    · have hcl := compact_length xs
      refine (Tryz.slices_Compact_int g 0 cap xs w (holds_of_blockI hh (by simpa using h4)) (by omega) h1).mono ?_
      rintro e w' ⟨rfl, q, rfl⟩
      have hsz : (Lib.compact xs ++ List.replicate (xs.length - (Lib.compact xs).length) 0).length = xs.length := by simp; omega
      have e0 : ∀ d : Array Int, Sort.putRow (Value.int .i64) (Sort.ahead w q) g 0 d = Sort.grow (Sort.putRow (Value.int .i64) (Sort.ahead w q) g 0 d) #[] := fun d => by simp
      refine ⟨_, rfl, ?_, by rw [e0]; exact grownBy_sortedI _⟩
      rw [e0]
      refine ow_i.2 ⟨by simp, .inr ⟨g, cap, _, rfl, hg, heap_sortedI _ hh, by omega, h2, by simp [Sort.putCells, h3], ?_⟩⟩
      have ht := take_putCellsI cur (Lib.compact xs ++ List.replicate (xs.length - (Lib.compact xs).length) 0) (by rw [hsz]; omega)
      rw [Nat.mul_one]
      have := congrArg (List.take (Lib.compact xs).length) ht
      rw [List.take_take, Nat.min_eq_left (by rw [hsz]; omega)] at this
      rw [this, ← List.map_take, List.take_left]

def ival (x : Int) : Value := .int .i64 x

theorem tells_other (w : World) (B : Nat) (x : Int) (hB : B < w.heap.size) (hc : w.cell? ⟨B, 0, none⟩ = some (.int .i64 x)) : Tells ival w (.func (.func 132) #[] #[.pointer (some ⟨B, 0, none⟩)]) (fun y => y != x) :=
  ⟨132, _, rfl, enters_of Tryz.func132 (by kernel_rfl) rfl, fun W y hb => by
    have hc' : W.cell? ⟨B, 0, none⟩ = some (.int .i64 x) := (hb.cell (p := ⟨B, 0, none⟩) hB).trans hc
    clear hc
    change Calls Tryz.prog _ #[.int .i64 y, .pointer (some ⟨B, 0, none⟩)] W _
    go_enter Tryz.func132, Tryz.ntmps132
    go_wp2
    go_ret
    exact ⟨rfl, Ext.refl _⟩⟩

set_option maxHeartbeats 1000000 in
theorem those_i (w : World) (v fv : Value) (xs : List Int) (p : Int → Bool) (h : Sl w v xs) (ht : Tells ival w fv p) (hlen : xs.length ≤ 1000000) :
    Calls Tryz.prog 131 #[v, fv] w (GivesOw w (norm (xs.filter p))) := by
  obtain ⟨g, lb, rfl, eg, hp⟩ := ht.any
  have HP := Lib.hid hp
  clear ht hp
  rcases h.ints with ⟨rfl, ao, c, rfl⟩ | ⟨b, off, c, rfl, hc, hc63, hb, hpos, hcell⟩
  · go_enter Tryz.func131, Tryz.ntmps131
    go_wp2
    refine wp_loop_rounds 1 ?_
    rw [rounds_succ]
    go_wp2_with (first
      | (go_at_call 134; refine (sort_ow _ w.heap.size _ [] (Ow.nil _ _) (by simp)).mono ?_; rintro e w1 ⟨rfl, HO1, HG1⟩)
      | (go_at_call 135; refine (compact_ow _ w.heap.size _ _ HO1.out (by simp)).mono ?_; rintro e w2 ⟨v2, rfl, HO2, HG2⟩))
    go_ret
    exact ⟨_, rfl, HO2.out, ((Below.refl _ w).grown HG1.out (Nat.le_refl _) (by simp [Value.ownBlock])).trans ((Below.refl _ w1).grown HG2.out HG1.out.size (by simp [Value.ownBlock]))⟩
  · have HC := Lib.hid hcell
    clear hcell h
    go_enter Tryz.func131, Tryz.ntmps131
    go_wp2
    go_loopw [5, 10] (fun q i wr => ∃ k : Nat, k ≤ xs.length ∧ i = .int .i64 k ∧ Hid (Ow wr w.heap.size q ((xs.take k).filter p)) ∧ Hid (Ext w wr)) (fun _ i _ => xs.length - (intOf i).toNat)
    case atStart => exact ⟨0, Nat.zero_le _, rfl, Lib.hid (by simpa using Ow.nil _ _), Lib.hid (Ext.refl _)⟩
    case round =>
      obtain ⟨k, hk, rfl, HO, HX⟩ := hrel
      by_cases hlt : k < xs.length
      · have hy := (HX.out.cell (p := ⟨b, off + k, none⟩) hb).trans (HC.out k hlt)
        obtain ⟨y, hyy⟩ : ∃ y, y = xs.getD k 0 := ⟨_, rfl⟩
        rw [← hyy] at hy
        have HN : Hid ((xs.take (k + 1)).filter p = (xs.take k).filter p ++ (if p y = true then [y] else [])) := Lib.hid (by rw [filter_next p hlt 0, ← hyy])
        clear hyy
        obtain ⟨L, hL⟩ : ∃ L, L = (xs.take k).filter p := ⟨_, rfl⟩
        have hLl : L.length ≤ 1000000 := by
          have := List.length_filter_le p (xs.take k)
          rw [← hL] at this
          simp at this
          omega
        rw [← hL] at HO HN
        clear hL
        have hwr : w.heap.size ≤ wr.heap.size := HX.out.size
        obtain ⟨s, hs⟩ : ∃ s, p y = s := ⟨_, rfl⟩
        rw [hs] at HN
        have HH : Hid (∀ W, Ext w W → Calls Tryz.prog g (#[.int .i64 y] ++ lb) W fun e w' => e = .returned (.bool s) ∧ Ext W w') := Lib.hid fun W hW => hs ▸ HP.out W y hW
        clear hs
        cases s
        all_goals
          go_wp2_with (first
            | (go_at_fn g; refine (HH.out _ (HX.out.trans (by repeat (first | exact Ext.refl _ | assumption | refine Ext.alloc ?_ _ | refine Ext.drew ?_ | refine Ext.drewN ?_ _)))).mono ?_; rintro e w1 ⟨rfl, hx⟩; have y1 := Lib.hid (HX.out.trans hx); have O1 := Lib.hid (HO.out.ext hx); have hs1 : w.heap.size ≤ w1.heap.size := y1.out.size; clear hx)
            | (at_builtin; refine wpList_append_sl (α := Int) rfl (.tmp 17) (.tmp 19) rfl w.heap.size _ L rfl ?_ (.slice (some ⟨_, 0, none⟩) 1 1) [y] rfl ?_ ?_ ?_ ?_; exact (O1.out.alloc _); exact (Sl.litAt w1 _ rfl [y] (by simp)); (first | omega | (simp; omega)); exact (by first | (simp; done) | (simp; omega)); intro v2 W2 ho2 ha2; have O2 := Lib.hid ho2; have y2 : Hid (Ext w W2) := Lib.hid (Below.trans (y1.out.alloc _) ha2.below); clear ho2 ha2))
          go_roundw
          case rel => exact ⟨k + 1, by omega, by go_num, Lib.hid (by rw [HN.out]; first | exact O2.out | simpa using O1.out), by first | exact y2 | exact y1⟩
          case measure => simp [intOf]; omega
      · have hkl : k = xs.length := by omega
        have ho := HO.out
        rw [hkl, List.take_length] at ho
        have HO' := Lib.hid ho
        clear ho HO
        have HLn := Lib.hid hkl
        clear hkl
        have hfl : (xs.filter p).length ≤ 1000000 := Nat.le_trans (List.length_filter_le _ _) hlen
        obtain ⟨L, hL⟩ : ∃ L, L = xs.filter p := ⟨_, rfl⟩
        rw [← hL] at HO' hfl
        have HL2 := Lib.hid hL
        clear hL
        go_wp2_with (first
          | (go_at_call 134; refine (sort_ow _ w.heap.size _ L HO'.out hfl).mono ?_; rintro e w1 ⟨rfl, HO1, HG1⟩)
          | (go_at_call 135; refine (compact_ow _ w.heap.size _ _ HO1.out (by simpa using hfl)).mono ?_; rintro e w2 ⟨v2, rfl, HO2, HG2⟩))
        go_ret
        exact ⟨_, rfl, by rw [← HL2.out]; exact HO2.out, (HX.out.grown HG1.out HX.out.size fun k hk => (HO'.out.low k hk).1).grown HG2.out (Nat.le_trans HX.out.size HG1.out.size) fun k hk => (HO'.out.low k hk).1⟩

theorem setDel_any (w : World) (v : Value) (xs : List Int) (x : Int) (h : Sl w v xs) (hlen : xs.length ≤ 1000000) : Calls Tryz.prog 122 #[v, .int .i64 x] w (GivesOw w (norm (xs.filter fun y => y != x))) := by
  have HS := Lib.hid (h.alloc (.cells #[.int .i64 x] 3))
  have HT : Hid (Tells ival (w.alloc (.cells #[.int .i64 x] 3)) (.func (.func 132) #[] #[.pointer (some ⟨w.heap.size, 0, none⟩)]) (fun y => y != x)) :=
    Lib.hid (tells_other _ _ _ (by simp) (blk_cell (get_alloc_new _ _) 0 rfl))
  clear h
  have hmf : ∀ (fn : Fn) (first cap : Array Value) (w : World), (Instr.makeFunc fn first cap).run Tryz.prog w = .ok (.func fn first cap) w := fun _ _ _ _ => rfl
  go_enter Tryz.func122, Tryz.ntmps122
  go_wp2_with (go_at_call 131; refine (those_i _ _ _ xs _ HS.out HT.out hlen).mono ?_; rintro e w' ⟨v', rfl, ho, hb⟩; have HO := Lib.hid ho; have HB := Lib.hid hb; clear ho hb)
  go_ret
  exact ⟨_, rfl, HO.out.mono (by simp), ((Ext.refl w).alloc _).trans HB.out⟩

set_option maxHeartbeats 1000000 in
theorem index_i (w : World) (v : Value) (xs : List Int) (x : Int) (h : Sl w v xs) : Calls Tryz.prog 114 #[v, .int .i64 x] w fun e w' => ∃ r : Int, e = .returned (.int .i64 r) ∧ decide (0 ≤ r) = decide (x ∈ xs) ∧ Ext w w' := by
  rcases h.ints with ⟨rfl, ao, c, rfl⟩ | ⟨b, off, c, rfl, hc, hc63, hb, hpos, hcell⟩
  · go_enter Tryz.func114, Tryz.ntmps114
    go_wp2
    refine wp_loop_rounds 1 ?_
    rw [rounds_succ]
    go_wp2
    go_ret
    exact ⟨_, rfl, by simp, Ext.refl _⟩
  · have HC := Lib.hid hcell
    clear hcell h
    go_enter Tryz.func114, Tryz.ntmps114
    go_wp2
    go_loopw [8] (fun i wr => ∃ k : Nat, k ≤ xs.length ∧ i = .int .i64 k ∧ Hid (x ∉ xs.take k) ∧ Hid (Drew w wr)) (fun i _ => xs.length - (intOf i).toNat)
    case atStart => exact ⟨0, Nat.zero_le _, rfl, Lib.hid (by simp), Lib.hid (Drew.refl _)⟩
    case round =>
      obtain ⟨k, hk, rfl, HT, HD⟩ := hrel
      by_cases hlt : k < xs.length
      · have hy := (HD.out.cell ⟨b, off + k, none⟩).trans (HC.out k hlt)
        obtain ⟨y, hyy⟩ : ∃ y, y = xs.getD k 0 := ⟨_, rfl⟩
        rw [← hyy] at hy
        have HN : Hid (xs.take (k + 1) = xs.take k ++ [y]) := Lib.hid (by rw [take_next hlt 0, ← hyy])
        have HM : Hid (y ∈ xs) := Lib.hid (hyy ▸ by rw [List.getD_eq_getElem?_getD, List.getElem?_eq_getElem hlt]; simp)
        clear hyy
        by_cases hq : x = y
        · have e1 : (x == y) = true := by simp [hq]
          have HQ := Lib.hid hq
          clear hq
          go_wp2
          try go_quiet (fail)
          try go_wp2
          go_ret
          exact ⟨_, rfl, by rw [HQ.out, decide_eq_true HM.out]; simp, by first | exact Ext.of_drew HD.out | exact Ext.of_drew (HD.out.more _)⟩
        · have e1 : (x == y) = false := by simp [hq]
          have HQ := Lib.hid hq
          clear hq
          go_wp2
          try go_quiet (fail)
          try go_wp2
          go_roundw
          case rel => exact ⟨k + 1, by omega, by go_num, Lib.hid (by rw [HN.out]; simp only [List.mem_append, List.mem_singleton]; exact fun e => e.elim HT.out HQ.out), by first | exact HD | exact Lib.hid (HD.out.more _)⟩
          case measure => simp [intOf]; omega
      · have hkl : k = xs.length := by omega
        go_wp2
        go_ret
        exact ⟨_, rfl, by have := HT.out; rw [hkl, List.take_length] at this; rw [decide_eq_false this]; rfl, Ext.of_drew HD.out⟩

theorem contains_i (w : World) (v : Value) (xs : List Int) (x : Int) (h : Sl w v xs) (r : Bool) (hr : decide (x ∈ xs) = r) : Calls Tryz.prog 90 #[v, .int .i64 x] w fun e w' => e = .returned (.bool r) ∧ Ext w w' := by
  subst hr
  have HS := Lib.hid h
  clear h
  go_enter Tryz.func90, Tryz.ntmps90
  go_wp2_with (go_at_call 114; refine (index_i _ _ xs x HS.out).mono ?_; rintro e w1 ⟨r, rfl, hr, hx⟩; have HR := Lib.hid hr; have HX := Lib.hid hx; clear hr hx)
  go_ret
  exact ⟨ret_bool HR.out, HX.out⟩

end Go.Proofs.YtdfleocknaackaaGreat
