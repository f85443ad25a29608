/- Sets: rows joined, unions, and whether a row is a set. -/
import Derived.Test.YtfhddgejedhfpaaSetB
namespace Go.Proofs.Ytfhddgejedhfpaa
open Go.RowKit

theorem grow_any (w : World) (n : Nat) (hn : n ≤ 2000000) : Calls Try.prog 40 #[.slice none 0 0, .int .i64 n] w (GivesOw w []) := by
  by_cases h0 : n = 0
  · subst h0
    refine (Any8.slices_Grow_room Try.grow40 none 0 0 0 w (by omega) (by omega) (by omega) (by omega)).mono ?_
    rintro e w' ⟨rfl, rfl⟩
    exact ⟨_, rfl, Ow.nilRow _ _, Below.refl _ _⟩
  · obtain ⟨i0, hi, hz0, hz1, hz2⟩ := info_parts Try.info3
    refine (Any8.slices_Grow_grow Try.grow40 i0 (.int .i64 0) hi hz0 (by omega) none 0 0 n [] w (by omega) (by omega) (by rw [hz2]; omega) (by omega) (by simp) (by simp) (by simp)).mono ?_
    rintro e w' ⟨rfl, rfl⟩
    have hm := grownCap_le_maxLen w (0 + n) 0 3 (by unfold maxLen; omega)
    have hge := grownCap_ge w (0 + n) 0 3
    refine ⟨_, rfl, ?_, ((Below.refl _ w).drew).alloc (Nat.le_refl _) _⟩
    refine World.ownsRow_made w.drew _ _ (Nat.le_refl _) hm ?_
    simp [size_zeroCells]
    have : (Value.int .i64 0).cells.size = 1 := rfl
    rw [this]
    have e1 : Try.grow40_ren.t 25 = 3 := rfl
    rw [e1]
    rw [Nat.zero_add] at hge
    omega

set_option maxHeartbeats 1000000 in
theorem concat_any (w : World) (B : Nat) (v u : Value) (xs ys : List Int) (hB : B < w.heap.size) (h0 : w.cell? ⟨B, 0, none⟩ = some v) (h1 : w.cell? ⟨B, 1, none⟩ = some u) (h : Sl w v xs) (g : Sl w u ys)
    (hx : xs.length ≤ 1000000) (hy : ys.length ≤ 1000000) : Calls Try.prog 33 #[.slice (some ⟨B, 0, none⟩) 2 2] w (GivesOw w (xs ++ ys)) := by
  have HS := Lib.hid h
  have HG := Lib.hid g
  obtain ⟨ao, c, rfl⟩ := h.len
  obtain ⟨ao', c', rfl⟩ := g.len
  clear h g
  go_enter Try.func33, Try.ntmps33
  go_wp2
  go_loop [3, 11] (fun n i => (i = .int .i64 0 ∧ n = .int .i64 0) ∨ (i = .int .i64 1 ∧ n = .int .i64 xs.length) ∨ (i = .int .i64 2 ∧ n = .int .i64 (xs.length + ys.length : Nat))) (fun _ i => (2 - intOf i).toNat)
  case atStart => exact .inl ⟨rfl, rfl⟩
  case round =>
    rcases hrel with ⟨rfl, rfl⟩ | ⟨rfl, rfl⟩ | ⟨rfl, rfl⟩
    · go_wp2
      go_round
      case rel => exact .inr (.inl ⟨rfl, rfl⟩)
      case measure => simp [intOf]
    · go_wp2
      go_round
      case rel => exact .inr (.inr ⟨rfl, by go_num⟩)
      case measure => simp [intOf]
    · have hg := fun W => grow_any W (xs.length + ys.length) (by omega)
      have HGr := Lib.hid hg
      clear hg
      go_wp2_with (go_at_call 40; refine (HGr.out _).mono ?_; rintro e w1 ⟨v1, rfl, ho, hb⟩; have HO := Lib.hid ho; have HB := Lib.hid hb; have h0' := (hb.cell (p := ⟨B, 0, none⟩) hB).trans h0; have h1' := (hb.cell (p := ⟨B, 1, none⟩) hB).trans h1; clear ho hb)
      go_loopw [6, 27] (fun q i wr => ((i = .int .i64 0 ∧ Hid (Ow wr w.heap.size q [])) ∨ (i = .int .i64 1 ∧ Hid (Ow wr w.heap.size q xs)) ∨ (i = .int .i64 2 ∧ Hid (Ow wr w.heap.size q (xs ++ ys)))) ∧ Hid (Below w.heap.size w wr)) (fun _ i _ => (2 - intOf i).toNat)
      case atStart => exact ⟨.inl ⟨rfl, HO⟩, HB⟩
      case round =>
        obtain ⟨hr, HB2⟩ := hrel
        have k0 := (HB2.out.cell (p := ⟨B, 0, none⟩) hB).trans h0
        have k1 := (HB2.out.cell (p := ⟨B, 1, none⟩) hB).trans h1
        have hsz : w.heap.size ≤ wr.heap.size := HB2.out.size
        rcases hr with ⟨rfl, HO2⟩ | ⟨rfl, HO2⟩ | ⟨rfl, HO2⟩
        · go_wp2_with (at_builtin; refine wpList_append_sl rfl (.tmp 31) (.tmp 32) rfl w.heap.size _ [] rfl HO2.out _ xs rfl (HS.out.below HB2.out (Nat.le_refl _)) (by simp; omega) hsz ?_; intro v2 W2 ho2 hg2 hb2 _; have HO3 := Lib.hid ho2; have HB3 := Lib.hid (HB2.out.trans hb2); clear ho2 hg2 hb2)
          go_roundw
          case rel => exact ⟨.inr (.inl ⟨rfl, Lib.hid HO3.out⟩), HB3⟩
          case measure => simp [intOf]
        · go_wp2_with (at_builtin; refine wpList_append_sl rfl (.tmp 31) (.tmp 32) rfl w.heap.size _ xs rfl HO2.out _ ys rfl (HG.out.below HB2.out (Nat.le_refl _)) (by omega) hsz ?_; intro v2 W2 ho2 hg2 hb2 _; have HO3 := Lib.hid ho2; have HB3 := Lib.hid (HB2.out.trans hb2); clear ho2 hg2 hb2)
          go_roundw
          case rel => exact ⟨.inr (.inr ⟨rfl, HO3⟩), HB3⟩
          case measure => simp [intOf]
        · go_wp2
          go_ret
          exact ⟨_, rfl, HO2.out, HB2.out⟩

theorem setUnion_any (w : World) (v u : Value) (xs ys : List Int) (h : Sl w v xs) (g : Sl w u ys) (hlen : xs.length + ys.length ≤ 1000000) : Calls Try.prog 24 #[v, u] w (GivesOw w (norm (xs ++ ys))) := by
  have HC : Hid (Calls Try.prog 33 #[.slice (some ⟨w.heap.size, 0, none⟩) 2 2] (w.alloc (.cells #[v, u] 22)) (GivesOw (w.alloc (.cells #[v, u] 22)) (xs ++ ys))) :=
    Lib.hid (concat_any _ w.heap.size v u xs ys (by simp) (by rw [World.cell?_alloc_at _ _ _ _ rfl]; rfl) (by rw [World.cell?_alloc_at _ _ _ _ rfl]; rfl) (h.alloc _) (g.alloc _) (by omega) (by omega))
  have HB0 : Hid (Below w.heap.size w (w.alloc (.cells #[v, u] 22))) := Lib.hid ((Below.refl _ _).alloc (Nat.le_refl _) _)
  obtain ⟨ao, c, rfl⟩ := h.len
  obtain ⟨ao', c', rfl⟩ := g.len
  clear h g
  go_enter Try.func24, Try.ntmps24
  go_wp2_with (first
    | (go_at_call 33; refine HC.out.mono ?_; rintro e w1 ⟨v1, rfl, ho, hb⟩; have HO := Lib.hid ho; have HB := Lib.hid (HB0.out.trans (hb.mono HB0.out.size)); clear ho hb)
    | (go_at_call 12; refine (setOf_any _ _ (xs ++ ys) HO.out.sl (by simp; omega)).mono ?_; rintro e w2 ⟨v2, rfl, ho, hb⟩; have HO2 := Lib.hid ho; have HB2 := Lib.hid hb; clear ho hb))
  go_ret
  exact ⟨_, rfl, HO2.out.mono HB.out.size, HB.out.trans (HB2.out.mono HB.out.size)⟩

theorem setAdd_any (w : World) (v : Value) (xs : List Int) (x : Int) (h : Sl w v xs) (hlen : xs.length ≤ 999999) : Calls Try.prog 20 #[v, .int .i64 x] w (GivesOw w (norm (xs ++ [x]))) := by
  have HC : Hid (Calls Try.prog 24 #[v, .slice (some ⟨w.heap.size, 0, none⟩) 1 1] (w.alloc (.cells #[.int .i64 x] 3)) (GivesOw (w.alloc (.cells #[.int .i64 x] 3)) (norm (xs ++ [x])))) :=
    Lib.hid (setUnion_any _ v _ xs [x] (h.alloc _) (Sl.one w x) (by simp; omega))
  clear h
  go_enter Try.func20, Try.ntmps20
  go_wp2_with (go_at_call 24; refine HC.out.mono ?_; rintro e w1 ⟨v1, rfl, ho, hb⟩; have HO := Lib.hid ho; have HB := Lib.hid hb; clear ho hb)
  go_ret
  exact ⟨_, rfl, HO.out.mono (by simp), ((Below.refl _ w).alloc (Nat.le_refl _) _).trans (HB.out.mono (by simp))⟩

set_option maxHeartbeats 400000 in
theorem setValid_any (w : World) (v : Value) (xs : List Int) (h : Sl w v xs) : Calls Try.prog 19 #[v] w fun e w' => e = .returned (.bool (decide (SS xs))) ∧ Drew w w' := by
  rcases h.parts with ⟨rfl, ao, c, rfl⟩ | ⟨b, off, c, rfl, hc, hc63, hb, hpos, hcell⟩
  · go_enter Try.func19, Try.ntmps19
    go_wp2
    refine wp_loop_rounds 1 ?_
    rw [rounds_succ]
    go_wp2
    go_ret
    exact ⟨ret_bool (decide_eq_true (SS_one (by simp))).symm, Drew.refl _⟩
  · have hlen : xs.length ≤ 9223372036854775807 := by omega
    have HC := Lib.hid hcell
    clear hcell h
    go_enter Try.func19, Try.ntmps19
    go_wp2
    go_loopw [3] (fun i wr => ∃ k : Nat, 1 ≤ k ∧ k ≤ xs.length ∧ i = .int .i64 k ∧ Hid (SS (xs.take k)) ∧ Hid (Drew w wr)) (fun i _ => xs.length - (intOf i).toNat)
    case atStart => exact ⟨1, Nat.le_refl _, hpos, rfl, Lib.hid (SS_one (by simp; omega)), Lib.hid (Drew.refl _)⟩
    case round =>
      obtain ⟨k, hk1, hk, rfl, HT, HD⟩ := hrel
      by_cases hlt : k < xs.length
      · have hck := (HD.out.cell ⟨b, off + k, none⟩).trans (HC.out k hlt)
        have hck' := (HD.out.cell ⟨b, off + (k - 1), none⟩).trans (HC.out (k - 1) (by omega))
        obtain ⟨y, hy⟩ : ∃ y, y = xs.getD k 0 := ⟨_, rfl⟩
        obtain ⟨z, hz⟩ : ∃ z, z = xs.getD (k - 1) 0 := ⟨_, rfl⟩
        rw [← hy] at hck
        rw [← hz] at hck'
        have HY := Lib.hid hy
        have HZ := Lib.hid hz
        clear hy hz
        by_cases h1 : y ≤ z
        · go_wp2
          go_quiet (fail)
          go_wp2
          go_ret
          refine ⟨ret_bool (decide_eq_false (fun e => ?_)).symm, HD.out.more _⟩
          have := ((SS_take_succ hk1 hlt).1 (List.Pairwise.sublist (List.take_sublist _ _) e)).2
          rw [← HY.out, ← HZ.out] at this
          omega
        · have hd : decide (y ≤ z) = false := decide_eq_false h1
          go_wp2
          go_quiet (fail)
          go_wp2
          go_roundw
          case rel => exact ⟨k + 1, by omega, by omega, by go_num, Lib.hid ((SS_take_succ hk1 hlt).2 ⟨HT.out, by rw [← HY.out, ← HZ.out]; omega⟩), Lib.hid (HD.out.more _)⟩
          case measure => simp [intOf]; omega
      · go_wp2
        go_ret
        have hkl : k = xs.length := by omega
        have hn := HT.out
        rw [hkl, List.take_length] at hn
        exact ⟨ret_bool (decide_eq_true hn).symm, HD.out⟩

end Go.Proofs.Ytfhddgejedhfpaa
