/- RingOrder. -/
import Derived.Test.YtppikneehgochaaLaw2
import Derived.OpenShut
namespace Go.Proofs.Ytppikneehgochaa
open Go.RowKit

theorem low_atI {l : List Int} {w : World} {b off n c : Nat} (h : Sl w (.slice (some ⟨b, off, none⟩) n c) l) {k : Nat} (hk : k < l.length) : b < w.heap.size := by
  rcases h.low with rfl | h
  · simp at hk
  · exact h b rfl
/-- The ring, what was pushed, and what was popped. -/
structure OI (w wr : World) (p : Nat) (q : Option Nat) (m : Nat) (xs : List Int) (vi : Value) (li : List Int) (vo : Value) (lo : List Int) : Prop where
  ring : RI 57 w wr p q m xs
  iin : Oa p q wr w.heap.size vi li
  out : Oa p q wr w.heap.size vo lo
  apart : Ap vo.ownBlock vi.ownBlock
  sum : li = lo ++ xs
theorem OI.ext {w wr W : World} {p : Nat} {q : Option Nat} {m : Nat} {xs li lo : List Int} {vi vo : Value} (h : OI w wr p q m xs vi li vo lo) (e : Ext wr W) : OI w W p q m xs vi li vo lo :=
  ⟨h.ring.more e, h.iin.ext e, h.out.ext e, h.apart, h.sum⟩
theorem OI.inApp {w wr W W' : World} {p : Nat} {q q' : Option Nat} {m : Nat} {xs li lo : List Int} {vi vo vi' : Value} {y : Int} (h : OI w wr p q m xs vi li vo lo) (r : RAt 57 W w.heap.size p q' m (xs ++ [y])) (s : RStep p q q' wr W)
    {o : Obj} (a : Apd w.heap.size vi vi' (W.alloc o) W') (hi : Ow W' w.heap.size vi' (li ++ [y])) : OI w W' p q' m (xs ++ [y]) vi' (li ++ [y]) vo lo := by
  have r2 := h.ring.step r s
  have i2 := h.iin.step s
  have o2 := h.out.step s
  have e : Ext W (W.alloc o) := (Ext.refl _).alloc _
  have r3 := r2.more e
  have i3 := i2.ext e
  have o3 := o2.ext e
  refine ⟨⟨a.ring r3.1 i3.notp i3.notq, Below.trans r3.2 a.below⟩, ⟨hi, a.notp i3.notp r3.1.lt, a.notq i3.notq (fun b hb => (r3.1.qlow b hb).2)⟩, ⟨a.other o3.own h.apart, o3.notp, o3.notq⟩, a.apart o3.own h.apart, by rw [h.sum, List.append_assoc]⟩
theorem OI.outApp {w wr W W' : World} {p : Nat} {q q' : Option Nat} {m : Nat} {xs li lo : List Int} {vi vo vo' : Value} {y : Int} (h : OI w wr p q m (y :: xs) vi li vo lo) (r : RAt 57 W w.heap.size p q' m xs) (s : RStep p q q' wr W)
    {o : Obj} (a : Apd w.heap.size vo vo' (W.alloc o) W') (ho : Ow W' w.heap.size vo' (lo ++ [y])) : OI w W' p q' m xs vi li vo' (lo ++ [y]) := by
  have r2 := h.ring.step r s
  have i2 := h.iin.step s
  have o2 := h.out.step s
  have e : Ext W (W.alloc o) := (Ext.refl _).alloc _
  have r3 := r2.more e
  have i3 := i2.ext e
  have o3 := o2.ext e
  refine ⟨⟨a.ring r3.1 o3.notp o3.notq, Below.trans r3.2 a.below⟩, ⟨a.other i3.own h.apart.symm, i3.notp, i3.notq⟩, ⟨ho, a.notp o3.notp r3.1.lt, a.notq o3.notq (fun b hb => (r3.1.qlow b hb).2)⟩, (a.apart i3.own h.apart.symm).symm, by rw [h.sum]; simp⟩

theorem hb_ring {α : Type} [Elem α] {T : TypeId} {w wr : World} {p m b : Nat} {q : Option Nat} {xs : List α} (h : RI T w wr p q m xs) (hb : b < w.heap.size) : b ≠ p ∧ q ≠ some b := by
  have := h.1.low
  exact ⟨by omega, fun e => by have := (h.1.qlow b e).1; omega⟩

set_option maxHeartbeats 1000000 in
theorem ringOrder_long (w : World) (room : Int) (ao : Option Addr) (c : Nat) (a : List Int) (ao' : Option Addr) (c' : Nat) (l : List Int) (g : Sl w (.slice ao a.length c) a) (h : Sl w (.slice ao' l.length c') l) (hl : 60 < a.length ∨ 60 < l.length) :
    Calls Try.prog 4 #[.int .i64 room, .slice ao a.length c, .slice ao' l.length c'] w (GivesB w (.bool true)) := by
  have n1 := h.length_le
  have n2 := g.length_le
  clear h g
  by_cases hx : 60 < a.length
  all_goals
    have HL := Lib.hid hl
    clear hl
    try (have hy2 : 60 < l.length := (by rcases HL.out with h | h; exact absurd h hx; exact h))
    go_enter Try.func4, Try.ntmps4
    go_wp2_with fail
    refine (new_i room w.heap.size w (Nat.le_refl _)).mono ?_
    rintro e W1 ⟨rfl, _, x1⟩
    go_wp2_with fail
    refine (awake_any W1).mono ?_
    rintro e W2 ⟨rfl, x2⟩
    go_wp2_with fail
    refine (awake_any W2).mono ?_
    rintro e W3 ⟨rfl, x3⟩
    go_wp2_with fail
    go_ret
    exact ⟨rfl, (x1.trans x2).trans x3⟩

set_option maxRecDepth 100000 in
set_option maxHeartbeats 16000000 in
theorem ringOrder_short (w : World) (room : Int) (ao : Option Addr) (c : Nat) (a : List Int) (ao' : Option Addr) (c' : Nat) (l : List Int) (g : Sl w (.slice ao a.length c) a) (h : Sl w (.slice ao' l.length c') l) (hla : a.length ≤ 60) (hl : l.length ≤ 60) :
    Calls Try.prog 4 #[.int .i64 room, .slice ao a.length c, .slice ao' l.length c'] w (GivesB w (.bool true)) := by
  have GS := Lib.hid g
  clear g
  obtain ⟨m, hm⟩ : ∃ m : Nat, m = (min (max room 0) 1000).toNat := ⟨_, rfl⟩
  have hm1 : (m : Int) = min (max room 0) 1000 := by omega
  have hm2 : m ≤ 1000 := by omega
  have HM := Lib.hid hm
  have HM1 := Lib.hid hm1
  clear hm hm1
  have HS := Lib.hid h
  clear h
  go_enter Try.func4, Try.ntmps4
  go_wp2_with fail
  refine (new_i room w.heap.size w (Nat.le_refl _)).mono ?_
  rintro e W1 ⟨rfl, r1, x1⟩
  rw [← HM.out] at r1
  go_wp2_with fail
  refine (awake_any W1).mono ?_
  rintro e W2 ⟨rfl, x2⟩
  have r2 : RI 57 w W2 w.heap.size none m ([] : List Int) := ⟨r1.ext x2, x1.trans x2⟩
  clear r1 x1 x2
  obtain ⟨p, hp⟩ : ∃ p, p = w.heap.size := ⟨_, rfl⟩
  have hi0 : RI 57 w W2 p none m ([] : List Int) := by rw [hp]; exact r2
  rw [← hp]
  have hpw : p < W2.heap.size := hi0.1.lt
  clear r2 hp
  obtain ⟨vi, hvi⟩ : ∃ v, v = Value.slice (some ⟨W2.heap.size, 0, none⟩) 0 0 := ⟨_, rfl⟩
  obtain ⟨vo, hvo⟩ : ∃ v, v = Value.slice (some ⟨W2.heap.size + 1, 0, none⟩) 0 0 := ⟨_, rfl⟩
  have hi1 := hi0.more (((Ext.refl W2).alloc (.cells #[] 3)).alloc (.cells #[] 3))
  have hoi : OI w ((W2.alloc (.cells #[] 3)).alloc (.cells #[] 3)) p none m [] vi [] vo [] := ⟨hi1, ⟨by rw [hvi]; exact (Ow.litAt W2 _ _ rfl hi0.2.size [] (by simp)).alloc _, by rw [hvi]; simp [Value.ownBlock]; omega, fun _ _ => by simp⟩, ⟨by rw [hvo]; exact Ow.litAt (W2.alloc _) _ _ (by simp) (by have := hi0.2.size; simp; omega) [] (by simp), by rw [hvo]; simp [Value.ownBlock]; omega, fun _ _ => by simp⟩, by rw [hvi, hvo]; intro k e e'; simp [Value.ownBlock] at e e'; omega, rfl⟩
  have HI := Lib.hid (show ∃ q xs li, OI w _ p q m xs vi li vo [] ∧ xs.length ≤ 0 from ⟨_, _, _, hoi, by simp⟩)
  clear hi0 hi1 hoi hpw
  go_wp2
  rw [← hvi, ← hvo]
  clear hvi hvo
  obtain ⟨lo, hlo⟩ : ∃ lo : List Int, lo = [] := ⟨_, rfl⟩
  rw [← hlo] at HI
  have hlol : lo.length ≤ 1 := by rw [hlo]; simp
  have HLO := Lib.hid hlo
  clear hlo
  go_loopw [8, 10] (fun v i wr => ∃ (k : Nat) (v1 : Value), k ≤ a.length ∧ i = .int .i64 k ∧ v1 = v ∧ Hid (∃ q xs li, OI w wr p q m xs v1 li vo lo ∧ xs.length ≤ k)) (fun _ i _ => a.length - (intOf i).toNat)
  case atStart => exact ⟨0, _, Nat.zero_le _, rfl, rfl, HI⟩
  case round =>
    obtain ⟨k, v1, hk, rfl, rfl, HR⟩ := hrel
    clear HI
    clear W2
    by_cases hlt : k < a.length
    · obtain ⟨q, xs, li, hoi, hxk⟩ := HR.out
      clear HR
      rcases (GS.out.ext hoi.ring.2).ints with ⟨rfl, _⟩ | ⟨b, offb, cb', hv, hlcb, hlmb, hbb, _, hcell⟩
      · simp at hlt
      simp only [Value.slice.injEq, true_and] at hv
      obtain ⟨rfl, rfl⟩ := hv
      have c0 := hcell k hlt
      obtain ⟨y, hy⟩ : ∃ y, y = a.getD k 0 := ⟨_, rfl⟩
      rw [← hy] at c0
      have HY := Lib.hid hy
      clear hcell hy
      have hbw := low_atI GS.out hlt
      have hle := hoi.ring.1.le
      have hsum := congrArg List.length hoi.sum
      simp only [List.length_append] at hsum
      have hlil : li.length ≤ 2000 := by omega
      clear hsum
      by_cases hfull : m ≤ xs.length
      · go_wp2_with fail
        refine (push_no_i hoi.ring.1 y hfull).mono ?_
        rintro e W4 ⟨rfl, d⟩
        have HO4 := Lib.hid (hoi.ext (Ext.of_drew d))
        clear d hoi c0
        go_wp2
        go_roundw
        case rel => exact ⟨k + 1, _, by omega, by go_num, rfl, Lib.hid ⟨_, _, _, HO4.out, by omega⟩⟩
        case measure => simp [intOf]; omega
      · have hbn := hb_ring hoi.ring hbw
        go_wp2_with fail
        refine (push_yes_i hoi.ring.1 hoi.ring.2.size y (by omega)).mono ?_
        rintro e W4 ⟨rfl, q4, r4, s4⟩
        have d0 : W4.cell? ⟨b, offb + k, none⟩ = some (.int .i64 y) := (World.cell?_of_block (a := ⟨b, offb + k, none⟩) (s4.block b (Nat.lt_of_lt_of_le hbw hoi.ring.2.size) hbn.1 hbn.2)).trans c0
        have hO4 := hoi.iin.step s4
        have HR4 := Lib.hid r4
        have HS4 := Lib.hid s4
        have HO := Lib.hid hoi
        have hsz : w.heap.size ≤ W4.heap.size := Nat.le_trans hoi.ring.2.size s4.size
        clear r4 s4 hoi c0
        go_wp2_with (at_builtin; refine wpList_append_sl (α := Int) rfl (.tmp 52) (.tmp 57) rfl w.heap.size v1 li rfl ?_ (.slice (some ⟨_, 0, none⟩) 1 1) [y] rfl ?_ ?_ ?_ ?_; exact (hO4.own.alloc _); exact (Sl.litAt _ _ rfl [y] (by simp)); (first | omega | (simp; omega)); (rw [size_alloc]; omega); intro v5 W5 ho5 ha5; have HN := Lib.hid (OI.inApp HO.out HR4.out HS4.out ha5 ho5); clear ho5 ha5 hO4 HO HR4 HS4)
        go_roundw
        case rel => exact ⟨k + 1, _, by omega, by go_num, rfl, Lib.hid ⟨_, _, _, HN.out, by simp; omega⟩⟩
        case measure => simp [intOf]; omega
    · obtain ⟨q, xs, li, hoi, hxk⟩ := HR.out
      clear HR
      have hx60 : xs.length ≤ 60 := by omega
      have hle := hoi.ring.1.le
      obtain ⟨w1, rfl⟩ : ∃ w1 : World, w1 = wr := ⟨_, rfl⟩
      rcases xs with _ | ⟨z, zs⟩
      · go_wp2_with fail
        refine (pop_no_i hoi.ring.1).mono ?_
        rintro e w' ⟨rfl, rfl⟩
        have HI2 := Lib.hid (show ∃ q xs li, OI w w1 p q m xs v1 li vo lo ∧ xs.length ≤ 60 + 0 from ⟨_, _, _, hoi, by simp⟩)
        clear hoi hxk hk hlt
        go_wp2
        have hlol1 : lo.length ≤ 1 := by omega
        go_loopw [8, 13] (fun v i wr => ∃ (k : Nat) (v1 : Value), k ≤ l.length ∧ i = .int .i64 k ∧ v1 = v ∧ Hid (∃ q xs li, OI w wr p q m xs v1 li vo lo ∧ xs.length ≤ 60 + k)) (fun _ i _ => l.length - (intOf i).toNat)
        case atStart => exact ⟨0, _, Nat.zero_le _, rfl, rfl, HI2⟩
        case round =>
          obtain ⟨k, v1, hk, rfl, rfl, HR⟩ := hrel
          clear HI2
          by_cases hlt : k < l.length
          · obtain ⟨q, xs, li, hoi, hxk⟩ := HR.out
            clear HR
            rcases (HS.out.ext hoi.ring.2).ints with ⟨rfl, _⟩ | ⟨b, offb, cb', hv, hlcb, hlmb, hbb, _, hcell⟩
            · simp at hlt
            simp only [Value.slice.injEq, true_and] at hv
            obtain ⟨rfl, rfl⟩ := hv
            have c0 := hcell k hlt
            obtain ⟨y, hy⟩ : ∃ y, y = l.getD k 0 := ⟨_, rfl⟩
            rw [← hy] at c0
            have HY := Lib.hid hy
            clear hcell hy
            have hbw := low_atI HS.out hlt
            have hle := hoi.ring.1.le
            have hsum := congrArg List.length hoi.sum
            simp only [List.length_append] at hsum
            have hlil : li.length ≤ 2000 := by omega
            clear hsum
            by_cases hfull : m ≤ xs.length
            · go_wp2_with fail
              refine (push_no_i hoi.ring.1 y hfull).mono ?_
              rintro e W4 ⟨rfl, d⟩
              have HO4 := Lib.hid (hoi.ext (Ext.of_drew d))
              clear d hoi c0
              go_wp2
              go_roundw
              case rel => exact ⟨k + 1, _, by omega, by go_num, rfl, Lib.hid ⟨_, _, _, HO4.out, by omega⟩⟩
              case measure => simp [intOf]; omega
            · have hbn := hb_ring hoi.ring hbw
              go_wp2_with fail
              refine (push_yes_i hoi.ring.1 hoi.ring.2.size y (by omega)).mono ?_
              rintro e W4 ⟨rfl, q4, r4, s4⟩
              have d0 : W4.cell? ⟨b, offb + k, none⟩ = some (.int .i64 y) := (World.cell?_of_block (a := ⟨b, offb + k, none⟩) (s4.block b (Nat.lt_of_lt_of_le hbw hoi.ring.2.size) hbn.1 hbn.2)).trans c0
              have hO4 := hoi.iin.step s4
              have HR4 := Lib.hid r4
              have HS4 := Lib.hid s4
              have HO := Lib.hid hoi
              have hsz : w.heap.size ≤ W4.heap.size := Nat.le_trans hoi.ring.2.size s4.size
              clear r4 s4 hoi c0
              go_wp2_with (at_builtin; refine wpList_append_sl (α := Int) rfl (.tmp 81) (.tmp 86) rfl w.heap.size v1 li rfl ?_ (.slice (some ⟨_, 0, none⟩) 1 1) [y] rfl ?_ ?_ ?_ ?_; exact (hO4.own.alloc _); exact (Sl.litAt _ _ rfl [y] (by simp)); (first | omega | (simp; omega)); (rw [size_alloc]; omega); intro v5 W5 ho5 ha5; have HN := Lib.hid (OI.inApp HO.out HR4.out HS4.out ha5 ho5); clear ho5 ha5 hO4 HO HR4 HS4)
              go_roundw
              case rel => exact ⟨k + 1, _, by omega, by go_num, rfl, Lib.hid ⟨_, _, _, HN.out, by simp; omega⟩⟩
              case measure => simp [intOf]; omega
          · obtain ⟨q, xs, li, hoi, hxk⟩ := HR.out
            clear HR
            have hsum := congrArg List.length hoi.sum
            simp only [List.length_append] at hsum
            have hlil : li.length ≤ 2000 := by have := hoi.ring.1.le; have := hoi.ring.1.most; omega
            clear hsum
            obtain ⟨w3, rfl⟩ : ∃ w3 : World, w3 = wr := ⟨_, rfl⟩
            have HI3 := Lib.hid (show ∃ q xs lo, OI w w3 p q m xs v1 li vo lo ∧ xs.length ≤ 120 - 0 from ⟨q, xs, lo, hoi, by omega⟩)
            clear hoi hxk
            go_wp2
            go_loopw [9, 11, 12, 14] (fun v x t i wr => ∃ (k : Nat) (vo : Value) (x' : Int) (ok : Bool), k ≤ 130 ∧ i = .int .i64 k ∧ vo = v ∧ x = .int .i64 x' ∧ t = .bool ok ∧ Hid ((∃ q xs lo, OI w wr p q m xs v1 li vo lo ∧ xs.length ≤ 120 - k) ∧ (120 < k → x' = 0 ∧ ok = false))) (fun _ _ _ i _ => 130 - (intOf i).toNat)
            case atStart => exact ⟨0, _, _, _, Nat.zero_le _, rfl, rfl, rfl, rfl, Lib.hid ⟨HI3.out, fun h => absurd h (by omega)⟩⟩
            case round =>
              obtain ⟨k3, vo, x', ok, hk3, rfl, rfl, rfl, rfl, HR⟩ := hrel
              clear HI3
              obtain ⟨⟨q, xs, lo, hoi, hxl⟩, hend⟩ := HR.out
              clear HR
              by_cases hlt3 : k3 < 130
              · clear hend
                have hlo3 : lo.length ≤ 2000 := by have := congrArg List.length hoi.sum; simp only [List.length_append] at this; omega
                rcases xs with _ | ⟨z, zs⟩
                · go_wp2_with fail
                  refine (pop_no_i hoi.ring.1).mono ?_
                  rintro e w' ⟨rfl, rfl⟩
                  have HO4 := Lib.hid hoi
                  clear hoi
                  go_wp2
                  go_roundw
                  case rel => exact ⟨k3 + 1, vo, 0, false, by omega, by go_num, rfl, rfl, rfl, Lib.hid ⟨⟨_, _, _, HO4.out, by simp⟩, fun _ => ⟨rfl, rfl⟩⟩⟩
                  case measure => simp [intOf]; omega
                · simp only [List.length_cons] at hxl
                  go_wp2_with fail
                  refine (pop_yes_i hoi.ring.1).mono ?_
                  rintro e W4 ⟨rfl, q4, r4, s4⟩
                  have hO4 := hoi.out.step s4
                  have HR4 := Lib.hid r4
                  have HS4 := Lib.hid s4
                  have HO := Lib.hid hoi
                  have hsz : w.heap.size ≤ W4.heap.size := Nat.le_trans hoi.ring.2.size s4.size
                  clear r4 s4 hoi
                  go_wp2_with (at_builtin; refine wpList_append_sl (α := Int) rfl (.tmp 98) (.tmp 100) rfl w.heap.size vo lo rfl ?_ (.slice (some ⟨_, 0, none⟩) 1 1) [z] rfl ?_ ?_ ?_ ?_; exact (hO4.own.alloc _); exact (Sl.litAt _ _ rfl [z] (by simp)); (first | omega | (simp; omega)); (rw [size_alloc]; omega); intro v5 W5 ho5 ha5; have HN := Lib.hid (OI.outApp HO.out HR4.out HS4.out ha5 ho5); clear ho5 ha5 hO4 HO HR4 HS4)
                  go_roundw
                  case rel => exact ⟨k3 + 1, _, z, true, by omega, by go_num, rfl, rfl, rfl, Lib.hid ⟨⟨_, _, _, HN.out, by omega⟩, fun h => by omega⟩⟩
                  case measure => simp [intOf]; omega
              · obtain ⟨rfl, rfl⟩ := hend (by omega)
                obtain rfl : xs = [] := List.eq_nil_of_length_eq_zero (by omega)
                go_wp2_with fail
                refine (len_i hoi.ring.1).mono ?_
                rintro e w' ⟨rfl, rfl⟩
                go_wp2_with fail
                refine (refSame_val true _ _ _ li lo hoi.iin.own.sl hoi.out.own.sl (by rw [hoi.sum]; simp)).mono ?_
                rintro e W6 ⟨rfl, d⟩
                go_wp2_with fail
                go_ret
                exact ⟨rfl, hoi.ring.2.trans (Ext.of_drew d)⟩
      · simp only [List.length_cons] at hx60
        go_wp2_with fail
        refine (pop_yes_i hoi.ring.1).mono ?_
        rintro e W4 ⟨rfl, q4, r4, s4⟩
        have hO4 := hoi.out.step s4
        have HR4 := Lib.hid r4
        have HS4 := Lib.hid s4
        have HO := Lib.hid hoi
        have hsz : w.heap.size ≤ W4.heap.size := Nat.le_trans hoi.ring.2.size s4.size
        clear r4 s4 hoi hxk hk hlt
        go_wp2_with (at_builtin; refine wpList_append_sl (α := Int) rfl (.tmp 65) (.tmp 67) rfl w.heap.size vo lo rfl ?_ (.slice (some ⟨_, 0, none⟩) 1 1) [z] rfl ?_ ?_ ?_ ?_; exact (hO4.own.alloc _); exact (Sl.litAt _ _ rfl [z] (by simp)); (first | omega | (simp; omega)); (rw [size_alloc]; omega); intro v5 W5 ho5 ha5; have HN := Lib.hid (OI.outApp HO.out HR4.out HS4.out ha5 ho5); clear ho5 ha5 hO4 HO HR4 HS4)
        obtain ⟨vo2, hvo2⟩ : ∃ v, v = v5 := ⟨_, rfl⟩
        obtain ⟨lo2, hlo2⟩ : ∃ q, q = lo ++ [z] := ⟨_, rfl⟩
        rw [← hlo2] at HN
        have hlol2 : lo2.length ≤ 1 := by rw [hlo2, HLO.out]; simp
        clear hlo2
        have HI2 := Lib.hid (show ∃ q xs li, OI w W5 p q m xs v1 li v5 lo2 ∧ xs.length ≤ 60 + 0 from ⟨_, _, _, HN.out, by omega⟩)
        clear HN hvo2 vo2
        have hlol1 : lo2.length ≤ 1 := by omega
        go_loopw [8, 13] (fun v i wr => ∃ (k : Nat) (v1 : Value), k ≤ l.length ∧ i = .int .i64 k ∧ v1 = v ∧ Hid (∃ q xs li, OI w wr p q m xs v1 li v5 lo2 ∧ xs.length ≤ 60 + k)) (fun _ i _ => l.length - (intOf i).toNat)
        case atStart => exact ⟨0, _, Nat.zero_le _, rfl, rfl, HI2⟩
        case round =>
          obtain ⟨k, v1, hk, rfl, rfl, HR⟩ := hrel
          clear HI2
          by_cases hlt : k < l.length
          · obtain ⟨q, xs, li, hoi, hxk⟩ := HR.out
            clear HR
            rcases (HS.out.ext hoi.ring.2).ints with ⟨rfl, _⟩ | ⟨b, offb, cb', hv, hlcb, hlmb, hbb, _, hcell⟩
            · simp at hlt
            simp only [Value.slice.injEq, true_and] at hv
            obtain ⟨rfl, rfl⟩ := hv
            have c0 := hcell k hlt
            obtain ⟨y, hy⟩ : ∃ y, y = l.getD k 0 := ⟨_, rfl⟩
            rw [← hy] at c0
            have HY := Lib.hid hy
            clear hcell hy
            have hbw := low_atI HS.out hlt
            have hle := hoi.ring.1.le
            have hsum := congrArg List.length hoi.sum
            simp only [List.length_append] at hsum
            have hlil : li.length ≤ 2000 := by omega
            clear hsum
            by_cases hfull : m ≤ xs.length
            · go_wp2_with fail
              refine (push_no_i hoi.ring.1 y hfull).mono ?_
              rintro e W4 ⟨rfl, d⟩
              have HO4 := Lib.hid (hoi.ext (Ext.of_drew d))
              clear d hoi c0
              go_wp2
              go_roundw
              case rel => exact ⟨k + 1, _, by omega, by go_num, rfl, Lib.hid ⟨_, _, _, HO4.out, by omega⟩⟩
              case measure => simp [intOf]; omega
            · have hbn := hb_ring hoi.ring hbw
              go_wp2_with fail
              refine (push_yes_i hoi.ring.1 hoi.ring.2.size y (by omega)).mono ?_
              rintro e W4 ⟨rfl, q4, r4, s4⟩
              have d0 : W4.cell? ⟨b, offb + k, none⟩ = some (.int .i64 y) := (World.cell?_of_block (a := ⟨b, offb + k, none⟩) (s4.block b (Nat.lt_of_lt_of_le hbw hoi.ring.2.size) hbn.1 hbn.2)).trans c0
              have hO4 := hoi.iin.step s4
              have HR4 := Lib.hid r4
              have HS4 := Lib.hid s4
              have HO := Lib.hid hoi
              have hsz : w.heap.size ≤ W4.heap.size := Nat.le_trans hoi.ring.2.size s4.size
              clear r4 s4 hoi c0
              go_wp2_with (at_builtin; refine wpList_append_sl (α := Int) rfl (.tmp 81) (.tmp 86) rfl w.heap.size v1 li rfl ?_ (.slice (some ⟨_, 0, none⟩) 1 1) [y] rfl ?_ ?_ ?_ ?_; exact (hO4.own.alloc _); exact (Sl.litAt _ _ rfl [y] (by simp)); (first | omega | (simp; omega)); (rw [size_alloc]; omega); intro v5 W5 ho5 ha5; have HN := Lib.hid (OI.inApp HO.out HR4.out HS4.out ha5 ho5); clear ho5 ha5 hO4 HO HR4 HS4)
              go_roundw
              case rel => exact ⟨k + 1, _, by omega, by go_num, rfl, Lib.hid ⟨_, _, _, HN.out, by simp; omega⟩⟩
              case measure => simp [intOf]; omega
          · obtain ⟨q, xs, li, hoi, hxk⟩ := HR.out
            clear HR
            have hsum := congrArg List.length hoi.sum
            simp only [List.length_append] at hsum
            have hlil : li.length ≤ 2000 := by have := hoi.ring.1.le; have := hoi.ring.1.most; omega
            clear hsum
            obtain ⟨w3, rfl⟩ : ∃ w3 : World, w3 = wr := ⟨_, rfl⟩
            have HI3 := Lib.hid (show ∃ q xs lo, OI w w3 p q m xs v1 li v5 lo ∧ xs.length ≤ 120 - 0 from ⟨q, xs, lo2, hoi, by omega⟩)
            clear hoi hxk
            go_wp2
            go_loopw [9, 11, 12, 14] (fun v x t i wr => ∃ (k : Nat) (vo : Value) (x' : Int) (ok : Bool), k ≤ 130 ∧ i = .int .i64 k ∧ vo = v ∧ x = .int .i64 x' ∧ t = .bool ok ∧ Hid ((∃ q xs lo, OI w wr p q m xs v1 li vo lo ∧ xs.length ≤ 120 - k) ∧ (120 < k → x' = 0 ∧ ok = false))) (fun _ _ _ i _ => 130 - (intOf i).toNat)
            case atStart => exact ⟨0, _, _, _, Nat.zero_le _, rfl, rfl, rfl, rfl, Lib.hid ⟨HI3.out, fun h => absurd h (by omega)⟩⟩
            case round =>
              obtain ⟨k3, vo, x', ok, hk3, rfl, rfl, rfl, rfl, HR⟩ := hrel
              clear HI3
              obtain ⟨⟨q, xs, lo, hoi, hxl⟩, hend⟩ := HR.out
              clear HR
              by_cases hlt3 : k3 < 130
              · clear hend
                have hlo3 : lo.length ≤ 2000 := by have := congrArg List.length hoi.sum; simp only [List.length_append] at this; omega
                rcases xs with _ | ⟨z, zs⟩
                · go_wp2_with fail
                  refine (pop_no_i hoi.ring.1).mono ?_
                  rintro e w' ⟨rfl, rfl⟩
                  have HO4 := Lib.hid hoi
                  clear hoi
                  go_wp2
                  go_roundw
                  case rel => exact ⟨k3 + 1, vo, 0, false, by omega, by go_num, rfl, rfl, rfl, Lib.hid ⟨⟨_, _, _, HO4.out, by simp⟩, fun _ => ⟨rfl, rfl⟩⟩⟩
                  case measure => simp [intOf]; omega
                · simp only [List.length_cons] at hxl
                  go_wp2_with fail
                  refine (pop_yes_i hoi.ring.1).mono ?_
                  rintro e W4 ⟨rfl, q4, r4, s4⟩
                  have hO4 := hoi.out.step s4
                  have HR4 := Lib.hid r4
                  have HS4 := Lib.hid s4
                  have HO := Lib.hid hoi
                  have hsz : w.heap.size ≤ W4.heap.size := Nat.le_trans hoi.ring.2.size s4.size
                  clear r4 s4 hoi
                  go_wp2_with (at_builtin; refine wpList_append_sl (α := Int) rfl (.tmp 98) (.tmp 100) rfl w.heap.size vo lo rfl ?_ (.slice (some ⟨_, 0, none⟩) 1 1) [z] rfl ?_ ?_ ?_ ?_; exact (hO4.own.alloc _); exact (Sl.litAt _ _ rfl [z] (by simp)); (first | omega | (simp; omega)); (rw [size_alloc]; omega); intro v5 W5 ho5 ha5; have HN := Lib.hid (OI.outApp HO.out HR4.out HS4.out ha5 ho5); clear ho5 ha5 hO4 HO HR4 HS4)
                  go_roundw
                  case rel => exact ⟨k3 + 1, _, z, true, by omega, by go_num, rfl, rfl, rfl, Lib.hid ⟨⟨_, _, _, HN.out, by omega⟩, fun h => by omega⟩⟩
                  case measure => simp [intOf]; omega
              · obtain ⟨rfl, rfl⟩ := hend (by omega)
                obtain rfl : xs = [] := List.eq_nil_of_length_eq_zero (by omega)
                go_wp2_with fail
                refine (len_i hoi.ring.1).mono ?_
                rintro e w' ⟨rfl, rfl⟩
                go_wp2_with fail
                refine (refSame_val true _ _ _ li lo hoi.iin.own.sl hoi.out.own.sl (by rw [hoi.sum]; simp)).mono ?_
                rintro e W6 ⟨rfl, d⟩
                go_wp2_with fail
                go_ret
                exact ⟨rfl, hoi.ring.2.trans (Ext.of_drew d)⟩

end Go.Proofs.Ytppikneehgochaa
