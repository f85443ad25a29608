/- The document's answers of layer 2; whether two slices are the same. -/
import Derived.Test.YtppikneehgochaaElem2
import Derived.Deep.RegionLaw
import Derived.IntWalk
import Derived.Deep.AppendLies
namespace Go.Proofs.Ytppikneehgochaa
open Go.RowKit

theorem take_eq_succ {xs ys : List Int} {k : Nat} (h1 : k < xs.length) (h2 : k < ys.length) : xs.take (k + 1) = ys.take (k + 1) ↔ xs.take k = ys.take k ∧ xs.getD k 0 = ys.getD k 0 := by
  rw [List.take_succ_eq_append_getElem h1, List.take_succ_eq_append_getElem h2]
  have e1 : xs.getD k 0 = xs[k] := by simp [h1]
  have e2 : ys.getD k 0 = ys[k] := by simp [h2]
  rw [e1, e2]
  constructor
  · intro h
    have := List.append_inj h (by simp; omega)
    exact ⟨this.1, by simpa using this.2⟩
  · rintro ⟨ha, hb⟩
    rw [ha, hb]

set_option maxHeartbeats 400000 in
theorem refSame_any (w : World) (v u : Value) (xs ys : List Int) (h : Sl w v xs) (g : Sl w u ys) :
    Calls Try.prog 18 #[v, u] w fun e w' => e = .returned (.bool (decide (xs = ys))) ∧ Drew w w' := by
  by_cases hl : xs.length = ys.length
  · rcases h.ints with ⟨rfl, ao, c, rfl⟩ | ⟨b, off, c, rfl, hc, hc63, hb, hpos, hcell⟩
    · have : ys = [] := List.eq_nil_of_length_eq_zero hl.symm
      subst this
      obtain ⟨ao', c', rfl⟩ := g.len
      go_enter Try.func18, Try.ntmps18
      go_wp2
      refine wp_loop_rounds 1 ?_
      rw [rounds_succ]
      go_wp2
      go_ret
      exact ⟨by simp, Drew.refl _⟩
    · rcases g.ints with ⟨rfl, ao, c, rfl⟩ | ⟨b', off', c', rfl, hc', hc63', hb', hpos', hcell'⟩
      · exact absurd hl (by simp only [List.length_nil]; omega)
      · have hlen : xs.length ≤ 9223372036854775807 := by omega
        have hlen' : ys.length ≤ 9223372036854775807 := by omega
        have hne : ((xs.length : Int) != (ys.length : Int)) = false := by simp [hl]
        have HC := Lib.hid hcell
        have HC' := Lib.hid hcell'
        have HL := Lib.hid hl
        clear hcell h hcell' g hl
        go_enter Try.func18, Try.ntmps18
        go_wp2
        go_loopw [5] (fun i wr => ∃ k : Nat, k ≤ xs.length ∧ i = .int .i64 k ∧ Hid (xs.take k = ys.take k) ∧ Hid (Drew w wr)) (fun i _ => xs.length - (intOf i).toNat)
        case atStart => exact ⟨0, Nat.zero_le _, rfl, Lib.hid (by simp), Lib.hid (Drew.refl _)⟩
        case round =>
          obtain ⟨k, hk, rfl, HT, HD⟩ := hrel
          by_cases hlt : k < xs.length
          · have hlt' : k < ys.length := by have := HL.out; omega
            have hck := (HD.out.cell ⟨b, off + k, none⟩).trans (HC.out k hlt)
            have hck' := (HD.out.cell ⟨b', off' + k, none⟩).trans (HC'.out k hlt')
            obtain ⟨y, hy⟩ : ∃ y, y = xs.getD k 0 := ⟨_, rfl⟩
            obtain ⟨z, hz⟩ : ∃ z, z = ys.getD k 0 := ⟨_, rfl⟩
            rw [← hy] at hck
            rw [← hz] at hck'
            have HY := Lib.hid hy
            have HZ := Lib.hid hz
            clear hy hz
            by_cases h1 : y = z
            · have hd : (y != z) = false := by simp [h1]
              have H1 := Lib.hid h1
              clear h1
              go_wp2
              go_quiet (fail)
              go_wp2
              go_roundw
              case rel => exact ⟨k + 1, by omega, by go_num, Lib.hid ((take_eq_succ hlt hlt').2 ⟨HT.out, by rw [← HY.out, ← HZ.out]; exact H1.out⟩), Lib.hid (HD.out.more _)⟩
              case measure => simp [intOf]; omega
            · have hd : (y != z) = true := by simp [h1]
              have H1 := Lib.hid h1
              clear h1
              go_wp2
              go_quiet (fail)
              go_wp2
              go_ret
              exact ⟨ret_bool (decide_eq_false (fun e => H1.out (by rw [HY.out, HZ.out, e]))).symm, HD.out.more _⟩
          · go_wp2
            go_ret
            have hkl : k = xs.length := by omega
            have hn := HT.out
            rw [hkl, List.take_length, HL.out, List.take_length] at hn
            exact ⟨ret_bool (decide_eq_true hn).symm, HD.out⟩
  · obtain ⟨ao, c, rfl⟩ := h.len
    obtain ⟨ao', c', rfl⟩ := g.len
    have hlen := h.length_le
    have hlen' := g.length_le
    have hne : ((xs.length : Int) != (ys.length : Int)) = true := by simp; omega
    have HL := Lib.hid hl
    clear hl h g
    go_enter Try.func18, Try.ntmps18
    go_wp2
    go_ret
    exact ⟨ret_bool (decide_eq_false (fun e => HL.out (by rw [e]))).symm, Drew.refl _⟩

theorem refSame_val (t : Bool) (w : World) (v u : Value) (xs ys : List Int) (h : Sl w v xs) (g : Sl w u ys) (ht : decide (xs = ys) = t) :
    Calls Try.prog 18 #[v, u] w fun e w' => e = .returned (.bool t) ∧ Drew w w' :=
  (refSame_any w v u xs ys h g).mono fun _ _ ⟨he, hw⟩ => ⟨ht ▸ he, hw⟩

theorem refPush_no (w : World) (room : Int) (v : Value) (ys : List Int) (x : Int) (h : Sl w v ys) (hf : room ≤ ys.length) :
    Calls Try.prog 12 #[.agg #[.int .i64 room, v], .int .i64 x] w fun e w' => e = .returned (.tuple #[.agg #[.int .i64 room, v], .bool false]) ∧ Ext w w' := by
  have hl := h.length_le
  obtain ⟨ao, c, rfl⟩ := h.len
  clear h
  go_enter Try.func12, Try.ntmps12
  go_wp2
  exact bodyPost_ret (v := .tuple #[.agg #[.int .i64 room, .slice ao ys.length c], .bool false]) (by simp [results, Try.results12, go_sem]) rfl ⟨rfl, (by first | (repeat (first | exact Ext.refl _ | assumption | refine Ext.alloc ?_ _ | refine Ext.drew ?_ | refine below_set ?_ (by simp) _)))⟩

theorem refPush_yes (w : World) (room : Int) (v : Value) (ys : List Int) (x : Int) (h : Sl w v ys) (hf : ys.length < room) (hs : ys.length ≤ 1000) :
    Calls Try.prog 12 #[.agg #[.int .i64 room, v], .int .i64 x] w fun e w' => ∃ v', e = .returned (.tuple #[.agg #[.int .i64 room, v'], .bool true]) ∧ Ow w' w.heap.size v' (ys ++ [x]) ∧ Ext w w' := by
  have hnf : ¬ room ≤ ys.length := by omega
  obtain ⟨ao, c, rfl⟩ := h.len
  have HS := Lib.hid h
  clear h
  go_enter Try.func12, Try.ntmps12
  go_wp2_with (first
    | (at_builtin; refine wpList_append_sl (α := Int) rfl (.tmp 13) (.tmp 15) rfl (w.heap.size + 2) (.slice (some ⟨_, 0, none⟩) 0 0) [] rfl ?_ (.slice ao ys.length c) ys rfl ?_ ?_ ?_ ?_; exact (Ow.litAt _ _ _ (by simp) (by simp) [] (by simp)); exact (HS.out.ext (((Ext.refl w).alloc _).alloc _ |>.alloc _)); (first | omega | (simp; omega)); simp; intro v1 W1 ho1 ha1; obtain ⟨ao1, n1, c1, rfl⟩ := ho1.sh; have HB1 := Lib.hid ((below_alloc_at (Below.refl (w.heap.size + 2) ((w.alloc _).alloc _)) (by rw [size_alloc, size_alloc]; omega) _).trans ha1.below); have HO1 := Lib.hid ho1; clear ho1 ha1)
    | (at_builtin; refine wpList_append_sl (α := Int) rfl (.tmp 16) (.tmp 18) rfl (w.heap.size + 2) (.slice ao1 n1 c1) ([] ++ ys) rfl ?_ (.slice (some ⟨_, 0, none⟩) 1 1) [x] rfl ?_ ?_ ?_ ?_; exact (HO1.out.alloc _); exact (Sl.litAt W1 _ rfl [x] (by simp)); (first | omega | (simp; omega)); (have hs0 := HB1.out.size; rw [size_alloc, size_alloc] at hs0; rw [size_alloc]; omega); intro v2 W2 ho2 ha2; obtain ⟨ao2, n2, c2, rfl⟩ := ho2.sh; have HB2 := Lib.hid ((below_alloc_at HB1.out (by rw [size_alloc, size_alloc]; omega) _).trans ha2.below); have HO2 := Lib.hid ho2; obtain ⟨hbA, hbB⟩ := box2 HB2.out; have e0 := blk_cell hbA 0 rfl; have e1 := blk_cell hbA 1 rfl; have f0 := blk_free hbA 0; have f1 := blk_free hbA 1; have k0 := blk_free hbB 0; have k1 := blk_free hbB 1; have g0 := blk_cell hbB 0 rfl; have g1 := blk_cell hbB 1 rfl; have HA := Lib.hid hbA; have HB := Lib.hid hbB; clear ho2 ha2 hbA hbB))
  have hb2 := HB2.out
  have hx : Ext w ((w.alloc (.cells #[.int .i64 room, .slice ao ys.length c] 28)).alloc (.cells #[.int .i64 0, .slice none 0 0] 28)) := ((Ext.refl w).alloc _).alloc _
  exact bodyPost_ret (v := .tuple #[.agg #[.int .i64 room, .slice ao2 n2 c2], .bool true]) (by simp [results, Try.results12, go_sem, g0, g1]) rfl
    ⟨_, rfl, ((((HO2.out.set (by simp) _).set (by simp) _).set (by simp) _).mono (by simp)), below_set (below_set (below_set (ext_of_below hb2 (by simp) hx) (by simp) _) (by simp) _) (by simp) _⟩

theorem refAt_no (w : World) (room : Int) (v : Value) (ys : List Int) (i : Int) (h : Sl w v ys) (hi : i < 0 ∨ (ys.length : Int) ≤ i) :
    Calls Try.prog 17 #[.agg #[.int .i64 room, v], .int .i64 i] w fun e w' => e = .returned (.tuple #[.int .i64 0, .bool false]) ∧ Ext w w' := by
  have hl := h.length_le
  obtain ⟨ao, c, rfl⟩ := h.len
  clear h
  rcases hi with h1 | h1
  · go_enter Try.func17, Try.ntmps17
    go_wp2
    go_ret2
    exact ⟨rfl, (Ext.refl _).alloc _⟩
  · have h2 : ¬ i < 0 := by omega
    go_enter Try.func17, Try.ntmps17
    go_wp2
    go_ret2
    exact ⟨rfl, (Ext.refl _).alloc _⟩

theorem refAt_yes (w : World) (room : Int) (v : Value) (ys : List Int) (k : Nat) (x : Int) (h : Sl w v ys) (hx : ys[k]? = some x) :
    Calls Try.prog 17 #[.agg #[.int .i64 room, v], .int .i64 k] w fun e w' => e = .returned (.tuple #[.int .i64 x, .bool true]) ∧ Ext w w' := by
  have hl := h.length_le
  have hk : k < ys.length := (List.getElem?_eq_some_iff.1 hx).1
  rcases h.parts with ⟨rfl, _⟩ | ⟨b, off, c, rfl, hc, hc63, hb, hpos, hcell⟩
  · simp at hk
  · have cx := hcell k x hx 0 _ rfl
    rw [show off + (k * Elem.k Int + 0) = off + k from by show off + (k * 1 + 0) = _; omega] at cx
    clear h hcell hx
    have hbn : b ≠ w.heap.size := by omega
    go_enter Try.func17, Try.ntmps17
    go_wp2
    go_ret2
    exact ⟨rfl, (Ext.refl _).alloc _⟩

theorem refCut_no (w : World) (room : Int) (v : Value) (ys : List Int) (i : Int) (h : Sl w v ys) (hi : i < 0 ∨ (ys.length : Int) ≤ i) :
    Calls Try.prog 14 #[.agg #[.int .i64 room, v], .int .i64 i] w fun e w' => e = .returned (.tuple #[.agg #[.int .i64 room, v], .int .i64 0, .bool false]) ∧ Ext w w' := by
  obtain ⟨ao, c, rfl⟩ := h.len
  go_enter Try.func14, Try.ntmps14
  go_wp2_with fail
  refine (refAt_no _ room _ ys i (h.ext (((Ext.refl w).alloc _).alloc _)) hi).mono ?_
  rintro e w1 ⟨rfl, hx⟩
  obtain ⟨hbA, hbB⟩ := box2 (hx.mono (by rw [size_alloc, size_alloc]; omega))
  have e0 := blk_cell hbA 0 rfl
  have e1 := blk_cell hbA 1 rfl
  have g0 := blk_cell hbB 0 rfl
  have g1 := blk_cell hbB 1 rfl
  have k0 := blk_free hbB 0
  have k1 := blk_free hbB 1
  have HX : Hid (Ext w w1) := Lib.hid ((((Ext.refl w).alloc _).alloc _).trans hx)
  clear hbA hbB hx h
  go_wp2
  exact bodyPost_ret (v := .tuple #[.agg #[.int .i64 room, .slice ao ys.length c], .int .i64 0, .bool false]) (by simp [results, Try.results14, go_sem, g0, g1]) rfl
    ⟨rfl, below_set (below_set HX.out (by simp) _) (by simp) _⟩

theorem take_eraseIdx {α : Type} (xs : List α) (k : Nat) : xs.take k ++ xs.drop (k + 1) = xs.eraseIdx k := (List.eraseIdx_eq_take_drop_succ xs k).symm
set_option maxHeartbeats 2000000 in
theorem refCut_yes (w : World) (room : Int) (v : Value) (ys : List Int) (k : Nat) (x : Int) (h : Sl w v ys) (hx : ys[k]? = some x) (hs : ys.length ≤ 1000) :
    Calls Try.prog 14 #[.agg #[.int .i64 room, v], .int .i64 k] w fun e w' => ∃ v', e = .returned (.tuple #[.agg #[.int .i64 room, v'], .int .i64 x, .bool true]) ∧ Ow w' w.heap.size v' (ys.eraseIdx k) ∧ Ext w w' := by
  have hk : k < ys.length := (List.getElem?_eq_some_iff.1 hx).1
  have hlo := h.low
  rcases h.parts with ⟨rfl, _⟩ | ⟨b, off, c, rfl, hc, hc63, hb, hpos, hcell⟩
  · simp at hk
  · clear hcell hpos hlo
    have HS := Lib.hid h
    have HX := Lib.hid hx
    clear h hx
    go_enter Try.func14, Try.ntmps14
    go_wp2_with fail
    refine (refAt_yes _ room _ ys k x (HS.out.ext (((Ext.refl w).alloc _).alloc _)) HX.out).mono ?_
    rintro e w1 ⟨rfl, hx⟩
    obtain ⟨hbA, hbB⟩ := box2 (hx.mono (by rw [size_alloc, size_alloc]; omega))
    have e0 := blk_cell hbA 0 rfl
    have e1 := blk_cell hbA 1 rfl
    have HA := Lib.hid hbA
    have HB := Lib.hid hbB
    have hxx : Ext w w1 := (((Ext.refl w).alloc _).alloc _).trans hx
    have hw1 : w.heap.size + 2 ≤ w1.heap.size := by have := hx.size; simpa using this
    have HXX := Lib.hid hxx
    have H1 : Hid (∀ W, Ext w W → Sl W (.slice (some ⟨b, off, none⟩) k c) (ys.take k)) := Lib.hid fun W e => by
      have := (HS.out.ext e).cut 0 k (by omega) (by omega)
      simpa using this
    have H2 : Hid (∀ W, Ext w W → Sl W (.slice (if c = k + 1 then some ⟨b, off, none⟩ else some ⟨b, off + (k + 1), none⟩) (ys.length - (k + 1)) (c - (k + 1))) (ys.drop (k + 1))) := Lib.hid fun W e => by
      have := (HS.out.ext e).tail (k + 1) (by omega)
      rwa [show off + (k + 1) * Elem.k Int = off + (k + 1) from by show off + (k + 1) * 1 = _; omega] at this
    clear hbA hbB hx hxx
    have hlt1 : w.heap.size < w1.heap.size := by omega
    have hlt2 : w.heap.size + 1 < w1.heap.size := by omega
    have hw : IntKind.i64.wrap ((k : Int) + 1) = (k : Int) + 1 := IntWalk.i64_in _ (by omega)
    have hz : (0 : Int) ≤ (k : Int) + 1 := by omega
    have hn : ((k : Int) + 1).toNat = k + 1 := by omega
    have hkc : k ≤ c := by omega
    have hkc1 : k + 1 ≤ c := by omega
    have hkl1 : k + 1 ≤ ys.length := by omega
    have hkl2 : (k : Int) + 1 ≤ (ys.length : Int) := by omega
    go_wp2
    go_region_law (first
      | (refine step_append_sl (α := Int) rfl (.tmp 18) (.tmp 22) rfl (w.heap.size + 2) (.slice (some ⟨_, 0, none⟩) 0 0) [] rfl ?_ (.slice (some ⟨b, off, none⟩) k c) (ys.take k) rfl ?_ ?_ ?_ ?_; exact Ow.litAt w1 _ _ rfl hw1 [] (by simp); exact (H1.out w1 HXX.out).alloc _; (simp; omega); (simp; omega); intro v1 W1 ho1 ha1; obtain ⟨ao1, n1, c1, rfl⟩ := ho1.sh; have hbel : Below (w.heap.size + 2) w1 W1 := (Below.drew (below_alloc_at (Below.refl _ w1) hw1 _)).trans ha1.below; have hA1 := (hbel.block w.heap.size (by omega)).trans HA.out; have hB1 := (hbel.block (w.heap.size + 1) (by omega)).trans HB.out; have q1 := blk_cell hA1 1 rfl; have hx1 : Ext w W1 := Below.trans HXX.out (hbel.mono (by omega)); have hw2 : w.heap.size + 2 ≤ W1.heap.size := Nat.le_trans hw1 hbel.size; have HX1 := Lib.hid hx1; have HA1 := Lib.hid hA1; have HB1 := Lib.hid hB1; have HO1 := Lib.hid ho1; clear hbel hx1 ho1 ha1 hA1 hB1)
      | (refine step_append_sl (α := Int) rfl (.tmp 23) (.tmp 28) rfl (w.heap.size + 2) (.slice ao1 n1 c1) ([] ++ ys.take k) rfl ?_ (.slice (if c = k + 1 then some ⟨b, off, none⟩ else some ⟨b, off + (k + 1), none⟩) (ys.length - (k + 1)) (c - (k + 1))) (ys.drop (k + 1)) rfl ?_ ?_ ?_ ?_; exact HO1.out; exact H2.out _ HX1.out; (simp; omega); exact hw2; intro v2 W2 ho2 ha2; obtain ⟨ao2, n2, c2, rfl⟩ := ho2.sh; have hA2 := (ha2.below.block w.heap.size (by omega)).trans HA1.out; have hB2 := (ha2.below.block (w.heap.size + 1) (by omega)).trans HB1.out; have r1 := blk_cell hA2 1 rfl; have r0 := blk_cell hA2 0 rfl; have rf := blk_free hA2 1; have g0 := blk_cell hB2 0 rfl; have g1 := blk_cell hB2 1 rfl; have k0 := blk_free hB2 0; have k1 := blk_free hB2 1; have hx2 : Ext w W2 := Below.trans HX1.out (ha2.below.mono (by omega)); have HX2 := Lib.hid hx2; have HO2 := Lib.hid ho2; clear ho2 ha2 hA2 hB2 hx2))
    all_goals
      clear hw hn hz
      go_wp2
      all_goals
        refine bodyPost_ret (v := .tuple #[.agg #[.int .i64 room, .slice ao2 n2 c2], .int .i64 x, .bool true]) ?_ rfl ?_
        · simp [results, Try.results14, go_sem, g0, g1]
        · have ho := HO2.out
          simp only [List.nil_append, take_eraseIdx] at ho
          exact ⟨_, rfl, (((ho.set (by simp) _).set (by simp) _).set (by simp) _).mono (by simp), below_set (below_set (below_set HX2.out (by simp) _) (by simp) _) (by simp) _⟩
end Go.Proofs.Ytppikneehgochaa
