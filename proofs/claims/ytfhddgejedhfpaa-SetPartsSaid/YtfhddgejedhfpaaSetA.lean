/- Sets: the sort and Compact over a slice of the call's own; those that are told of; copies. -/
import Derived.Test.YtfhddgejedhfpaaRefB
import Derived.Test.YtfhddgejedhfpaaShelf
import Derived.Sort.OwnSortedInts
import Derived.Shelf.Abstract
import Derived.Shelf.GgClosure.Gives
namespace Go.Proofs.Ytfhddgejedhfpaa
open Go.RowKit

theorem grownBy_same (w : World) (row : Option Nat) : w.grownBy w row := ⟨rfl, rfl, rfl, Nat.le_refl _, fun _ _ _ => rfl⟩

theorem sort_ow (w : World) (B : Nat) (v : Value) (xs : List Int) (h : Ow w B v xs) (hl : xs.length ≤ 1000000) :
    Calls Try.prog 37 #[v] w fun e w' => e = .returned (.tuple #[]) ∧ Hid (Ow w' B v (xs.mergeSort fun x y => decide (x ≤ y))) ∧ Hid (w.grownBy w' v.ownBlock) := by
  by_cases hx : xs = []
  · subst hx
    obtain ⟨ao, c, rfl⟩ := h.sl.len
    refine (Try.slices_Sort_int_none ao c w).mono ?_
    rintro e w' ⟨rfl, rfl⟩
    exact ⟨rfl, Lib.hid (by simpa using h), Lib.hid (grownBy_same _ _)⟩
  · rcases h.2 with ⟨_, h0⟩ | ⟨g, cap, cur, rfl, hg, hh, h1, h2, h3, h4⟩
    · exact absurd (List.eq_nil_of_length_eq_zero h0) hx
    · have hlm : (xs.mergeSort fun x y => decide (x ≤ y)).length = xs.length := by simp
      refine (Try.slices_Sort_int g 0 cap xs w (holds_of_blockI hh (by simpa using h4)) (Array.getElem?_eq_some_iff.1 hh).1 (by omega)).mono ?_
      rintro e w' ⟨rfl, n, os, rfl⟩
      refine ⟨rfl, ?_, grownBy_sortedI _⟩
      have := ownsRow_sortedI (w := w) (n := n) (os := os) hlm hg hh h1 h2 h3
      show World.ownsRow _ _ _ _ _ _ _
      rw [hlm]
      exact this

theorem compact_ow (w : World) (B : Nat) (v : Value) (xs : List Int) (h : Ow w B v xs) (hl : xs.length ≤ 1000000) :
    Calls Try.prog 38 #[v] w fun e w' => ∃ v', e = .returned v' ∧ Hid (Ow w' B v' (Lib.compact xs)) ∧ Hid (w.grownBy w' v.ownBlock) := by
  by_cases hx : xs = []
  · subst hx
    obtain ⟨ao, c, rfl⟩ := h.sl.len
    refine (Try.slices_Compact_int_empty ao c w).mono ?_
    rintro e w' ⟨rfl, rfl⟩
    exact ⟨_, rfl, h, grownBy_same _ _⟩
  · rcases h.2 with ⟨_, h0⟩ | ⟨g, cap, cur, rfl, hg, hh, h1, h2, h3, h4⟩
    · exact absurd (List.eq_nil_of_length_eq_zero h0) hx
    · have hcl := compact_length xs
      refine (Try.slices_Compact_int g 0 cap xs w (holds_of_blockI hh (by simpa using h4)) (by omega) h1).mono ?_
      rintro e w' ⟨rfl, q, rfl⟩
      have hsz : (Lib.compact xs ++ List.replicate (xs.length - (Lib.compact xs).length) 0).length = xs.length := by simp; omega
      have e0 : ∀ d : Array Int, Sort.putRow (Value.int .i64) (Sort.ahead w q) g 0 d = Sort.grow (Sort.putRow (Value.int .i64) (Sort.ahead w q) g 0 d) #[] := fun d => by simp
      refine ⟨_, rfl, ?_, by rw [e0]; exact grownBy_sortedI _⟩
      rw [e0]
      refine ⟨by simp, .inr ⟨g, cap, _, rfl, hg, heap_sortedI _ hh, by omega, h2, by simp [Sort.putCells, h3], ?_⟩⟩
      have ht := take_putCellsI cur (Lib.compact xs ++ List.replicate (xs.length - (Lib.compact xs).length) 0) (by rw [hsz]; omega)
      rw [Nat.mul_one]
      have := congrArg (List.take (Lib.compact xs).length) ht
      rw [List.take_take, Nat.min_eq_left (by rw [hsz]; omega)] at this
      rw [this, ← List.map_take, List.take_left]

/-- What a function value tells of a number. -/
structure Tells (w : World) (fv : Value) (p : Int → Bool) : Prop where
  any : ∃ g lb, fv = .func (.func g) #[] lb ∧ (∀ args w, (callFunc g args).run Try.prog w = .ok (.enter g args) w) ∧ PredAt Try.prog g lb (Value.int .i64) p w

theorem Tells.below {w w' : World} {fv : Value} {p : Int → Bool} (h : Tells w fv p) {B : Nat} (hb : Below B w w') (hB : w.heap.size ≤ B) : Tells w' fv p := by
  obtain ⟨g, lb, rfl, h2, h3⟩ := h.any
  refine ⟨g, lb, rfl, h2, fun W x hW => h3 W x ?_⟩
  have := hb.size
  exact (hb.mono hB).trans (hW.mono (by omega))

set_option maxHeartbeats 1000000 in
theorem those_any (w : World) (v fv : Value) (xs : List Int) (p : Int → Bool) (h : Sl w v xs) (ht : Tells w fv p) (hlen : xs.length ≤ 1000000) :
    Calls Try.prog 28 #[v, fv] w (GivesOw w (norm (xs.filter p))) := by
  have HT0 := Lib.hid ht
  obtain ⟨g, lb, rfl, eg, hp⟩ := ht.any
  have HP := Lib.hid hp
  clear ht hp
  rcases h.parts with ⟨rfl, ao, c, rfl⟩ | ⟨b, off, c, rfl, hc, hc63, hb, hpos, hcell⟩
  · go_enter Try.func28, Try.ntmps28
    go_wp2
    refine wp_loop_rounds 1 ?_
    rw [rounds_succ]
    go_wp2_with (first
      | (go_at_call 37; refine (sort_ow _ w.heap.size _ [] (Ow.nilRow _ _) (by simp)).mono ?_; rintro e w1 ⟨rfl, HO1, HG1⟩)
      | (go_at_call 38; refine (compact_ow _ w.heap.size _ _ HO1.out (by simp)).mono ?_; rintro e w2 ⟨v2, rfl, HO2, HG2⟩))
    go_ret
    exact ⟨_, rfl, HO2.out, ((Below.refl _ w).grown HG1.out (Nat.le_refl _) (by simp [Value.ownBlock])).trans ((Below.refl _ w1).grown HG2.out HG1.out.size (by simp [Value.ownBlock]))⟩
  · have HC := Lib.hid hcell
    clear hcell h
    go_enter Try.func28, Try.ntmps28
    go_wp2
    go_loopw [5, 10] (fun q i wr => ∃ k : Nat, k ≤ xs.length ∧ i = .int .i64 k ∧ Hid (Ow wr w.heap.size q ((xs.take k).filter p)) ∧ Hid (Below w.heap.size w wr)) (fun _ i _ => xs.length - (intOf i).toNat)
    case atStart => exact ⟨0, Nat.zero_le _, rfl, Lib.hid (by simpa using Ow.nilRow w w.heap.size), Lib.hid (Below.refl _ _)⟩
    case round =>
      obtain ⟨k, hk, rfl, HO, HB⟩ := hrel
      by_cases hlt : k < xs.length
      · have hck := (HB.out.cell (p := ⟨b, off + k, none⟩) hb).trans (HC.out k hlt)
        obtain ⟨y, hy⟩ : ∃ y, y = xs.getD k 0 := ⟨_, rfl⟩
        rw [← hy] at hck
        have HN : Hid ((xs.take (k + 1)).filter p = (xs.take k).filter p ++ (if p y then [y] else [])) := Lib.hid (by rw [pick_next _ hlt, ← hy])
        clear hy
        obtain ⟨L, hL⟩ : ∃ L, L = (xs.take k).filter p := ⟨_, rfl⟩
        have hLl : L.length ≤ 1000000 := by
          have := List.length_filter_le p (xs.take k)
          rw [← hL] at this
          simp at this
          omega
        rw [← hL] at HO HN
        clear hL
        have hwr : w.heap.size ≤ wr.heap.size := HB.out.size
        have HH : Hid (∀ s, p y = s → Calls Try.prog g (#[.int .i64 y] ++ lb) wr fun e w' => e = .returned (.bool s) ∧ Hid (Drew wr w')) :=
          Lib.hid fun s hs => (HP.out wr y HB.out).mono fun e w' ⟨he, q, hq⟩ => ⟨hs ▸ he, q, hq⟩
        obtain ⟨s, hs⟩ : ∃ s, p y = s := ⟨_, rfl⟩
        rw [hs] at HN
        have HS := Lib.hid hs
        clear hs
        cases s
        all_goals
          go_wp2_with (first
            | (go_at_fn g; refine (HH.out _ HS.out).mono ?_; rintro e w1 ⟨rfl, HD⟩; have hwr1 : w.heap.size ≤ w1.heap.size := (by rw [HD.out.size]; exact hwr); have HO' : Hid (Ow w1 w.heap.size _ L) := Lib.hid (by obtain ⟨m, rfl⟩ := HD.out; exact HO.out); have HB' : Hid (Below w.heap.size w w1) := Lib.hid (HB.out.trans (HD.out.below _)))
            | (at_builtin; refine wpList_append_sl rfl (.tmp 17) (.tmp 19) rfl w.heap.size _ L rfl (HO'.out.alloc _) (.slice (some ⟨_, 0, none⟩) 1 1) [y] rfl (Sl.one w1 y) (by simp; omega) (by simp; omega) ?_; intro v1 W1 ho1 hg1 hb1 _; have HO1 := Lib.hid ho1; have HB1 := Lib.hid ((HB'.out.alloc hwr1 _).trans hb1); clear ho1 hg1 hb1))
          go_roundw
          case rel => exact ⟨k + 1, by omega, by go_num, Lib.hid (by rw [HN.out]; first | exact HO1.out | simpa using HO'.out), by first | exact HB1 | exact HB'⟩
          case measure => simp [intOf]; omega
      · have hkl : k = xs.length := by omega
        have ho := HO.out
        rw [hkl, List.take_length] at ho
        have HO' := Lib.hid ho
        clear ho HO
        have HL := Lib.hid hkl
        clear hkl
        have hfl : (xs.filter p).length ≤ 1000000 := Nat.le_trans (List.length_filter_le _ _) hlen
        obtain ⟨L, hL⟩ : ∃ L, L = xs.filter p := ⟨_, rfl⟩
        rw [← hL] at HO' hfl
        have HL2 := Lib.hid hL
        clear hL
        go_wp2_with (first
          | (go_at_call 37; refine (sort_ow _ w.heap.size _ L HO'.out hfl).mono ?_; rintro e w1 ⟨rfl, HO1, HG1⟩)
          | (go_at_call 38; refine (compact_ow _ w.heap.size _ _ HO1.out (by simpa using hfl)).mono ?_; rintro e w2 ⟨v2, rfl, HO2, HG2⟩))
        go_ret
        exact ⟨_, rfl, by rw [← HL2.out]; exact HO2.out, (HB.out.grown HG1.out HB.out.size fun k hk => (World.ownsRow.lt HO'.out k hk).1).grown HG2.out (Nat.le_trans HB.out.size HG1.out.size) fun k hk => (World.ownsRow.lt HO'.out k hk).1⟩

set_option maxHeartbeats 400000 in
theorem own_any (w : World) (v : Value) (xs : List Int) (h : Sl w v xs) (hlen : xs.length ≤ 1000000) : Calls Try.prog 13 #[v] w (GivesOw w xs) := by
  have HS := Lib.hid h
  clear h
  have HB0 : Hid (Below w.heap.size w (w.alloc (.cells #[] 3))) := Lib.hid ((Below.refl _ _).alloc (Nat.le_refl _) _)
  go_enter Try.func13, Try.ntmps13
  go_wp2_with (at_builtin; refine wpList_append_sl rfl (.tmp 3) (.tmp 4) rfl w.heap.size (.slice (some ⟨_, 0, none⟩) 0 0) [] rfl (Ow.empty _ _ (Nat.le_refl _)) _ xs rfl (HS.out.below HB0.out (Nat.le_refl _)) (by simp; omega) (by simp) ?_; intro v1 W1 ho1 hg1 hb1 _; have HO1 := Lib.hid ho1; have HB1 := Lib.hid (HB0.out.trans hb1); clear ho1 hg1 hb1)
  go_ret
  exact ⟨_, rfl, HO1.out, HB1.out⟩

end Go.Proofs.Ytfhddgejedhfpaa
