/- RingDoes. -/
import Derived.Test.YtppikneehgochaaAwake2
import Derived.Deep.RegionWith
import Derived.Deep.DeepCutAuto
import Derived.Deep.CutBlock
import Derived.Deep.RegionHeld3
import Derived.StillTailTactics
namespace Go.Proofs.Ytppikneehgochaa
open Go.RowKit

theorem Sl.acts {w : World} {v : Value} {xs : List Act} (h : Sl w v xs) :
    (xs = [] ∧ ∃ ao c, v = .slice ao 0 c) ∨
    (∃ b off c, v = .slice (some ⟨b, off, none⟩) xs.length c ∧ xs.length ≤ c ∧ c ≤ 9223372036854775807 ∧ b < w.heap.size ∧ 0 < xs.length ∧ ∀ j, j < xs.length → w.cell? ⟨b, off + j * 2, none⟩ = some (.int .i64 (xs.getD j ⟨0, 0⟩).k) ∧ w.cell? ⟨b, off + j * 2 + 1, none⟩ = some (.int .i64 (xs.getD j ⟨0, 0⟩).x)) := by
  rcases h.parts with h | ⟨b, off, c, h1, h2, h3, h4, h5, h6⟩
  · exact .inl h
  · refine .inr ⟨b, off, c, h1, h2, h3, h4, h5, fun j hj => ?_⟩
    have e : xs[j]? = some (xs.getD j ⟨0, 0⟩) := by simp [hj]
    have a0 := h6 j _ e 0 _ rfl
    have a1 := h6 j _ e 1 _ rfl
    exact ⟨a0, a1⟩

theorem RAt.set {α : Type} [Elem α] {T : TypeId} {w : World} {B p : Nat} {q : Option Nat} {room : Nat} {xs : List α} (h : RAt T w B p q room xs) {d : Addr} (hp : d.block ≠ p) (hq : q ≠ some d.block) (u : Value) : RAt T (w.setCell d u) B p q room xs := by
  obtain ⟨v, hb, ho, hvq, hne⟩ := h.blk
  exact ⟨h.low, h.le, h.most, v, by rw [set_other _ _ _ _ (fun e => hp e.symm)]; exact hb, ownsRow_setCell_other ho (by rw [hvq]; exact hq) u, hvq, hne⟩
theorem Sl.set {α : Type} [Elem α] {w : World} {v : Value} {xs : List α} (h : Sl w v xs) {d : Addr} (hd : xs = [] ∨ v.ownBlock ≠ some d.block) (u : Value) : Sl (w.setCell d u) v xs := by
  rcases hd with rfl | hd
  · obtain ⟨h1, ao, c, rfl, h2, h3, h4, h5⟩ := h
    exact ⟨h1, ao, c, rfl, h2, h3, h4, .inl rfl⟩
  · exact h.grown (row := some d.block) ⟨rfl, rfl, rfl, by rw [set_size]; exact Nat.le_refl _, fun k hk hne => set_other _ _ _ _ (fun e => hne (by rw [e]))⟩ (.inl hd)

/-- The ring and the document's row, side by side. -/
structure Side2 (w wr : World) (p pr : Nat) (room : Nat) (q : Option Nat) (vr : Value) (xs : List Int) : Prop where
  ring : RAt 57 wr w.heap.size p q room xs
  row : wr.heap[pr]? = some (.cells #[.int .i64 room, vr] 28 (0, 0))
  keep : Kp p q wr vr xs
  apart : xs = [] ∨ vr.ownBlock ≠ some pr
  prp : pr ≠ p
  prq : q ≠ some pr
  low : w.heap.size ≤ pr
  ext : Ext w wr

def Inv2 (w wr : World) (p pr room : Nat) : Prop := ∃ q vr xs, Side2 w wr p pr room q vr xs

theorem Side2.more {w wr W : World} {p pr room : Nat} {q : Option Nat} {vr : Value} {xs : List Int} (h : Side2 w wr p pr room q vr xs) (e : Ext wr W) : Side2 w W p pr room q vr xs :=
  ⟨h.ring.ext e, by rw [e.block _ (blk_lt h.row)]; exact h.row, h.keep.ext e, h.apart, h.prp, h.prq, h.low, h.ext.trans e⟩
/-- The ring goes a step; the row follows. -/
theorem Side2.step {w wr W W2 : World} {p pr room : Nat} {q q' : Option Nat} {vr vr' : Value} {xs ys : List Int} (h : Side2 w wr p pr room q vr xs) (r : RAt 57 W w.heap.size p q' room ys) (s : RStep p q q' wr W)
    (e : Ext W W2) (hv : Sl W2 vr' ys) (hf : ∀ b, vr'.ownBlock = some b → W.heap.size ≤ b) :
    Side2 w ((W2.setCell ⟨pr, 0, none⟩ (.int .i64 room)).setCell ⟨pr, 1, none⟩ vr') p pr room q' vr' ys := by
  have hpr : pr < wr.heap.size := blk_lt h.row
  have hprW : pr < W.heap.size := Nat.lt_of_lt_of_le hpr s.size
  have hrowW : W.heap[pr]? = some (.cells #[.int .i64 room, vr] 28 (0, 0)) := by rw [s.block pr hpr h.prp h.prq]; exact h.row
  have hrow2 : W2.heap[pr]? = some (.cells #[.int .i64 room, vr] 28 (0, 0)) := by rw [e.block _ hprW]; exact hrowW
  have hq' : q' ≠ some pr := by
    rcases s.new with h' | h'
    · rw [h']; exact h.prq
    · intro e'; have := h' pr e'; omega
  have hap : vr'.ownBlock ≠ some pr := fun e' => by have := hf pr e'; omega
  have r2 := r.ext e
  refine ⟨(r2.set h.prp hq' _).set h.prp hq' _, ?_, ?_, .inr hap, h.prp, hq', h.low, below_set (below_set (Ext.trans (ext_step h.ext h.ring s) e) h.low _) h.low _⟩
  · have := blk_set (blk_set hrow2 0 (.int .i64 room)) 1 vr'
    simpa using this
  · have hk : Kp p q' W2 vr' ys := Kp.fresh hv hf r.lt (fun b eb => (r.qlow b eb).2)
    exact ⟨(hk.1.set (.inr hap) _).set (.inr hap) _, hk.2⟩
/-- The row is laid anew as it was. -/
theorem Side2.same {w wr : World} {p pr room : Nat} {q : Option Nat} {vr : Value} {xs : List Int} (h : Side2 w wr p pr room q vr xs) :
    Side2 w ((wr.setCell ⟨pr, 0, none⟩ (.int .i64 room)).setCell ⟨pr, 1, none⟩ vr) p pr room q vr xs := by
  refine ⟨(h.ring.set h.prp h.prq _).set h.prp h.prq _, ?_, ⟨(h.keep.1.set h.apart _).set h.apart _, h.keep.2⟩, h.apart, h.prp, h.prq, h.low, below_set (below_set h.ext h.low _) h.low _⟩
  have := blk_set (blk_set h.row 0 (.int .i64 room)) 1 vr
  simpa using this

theorem hb_ne {w wr : World} {p pr room b : Nat} {q : Option Nat} {vr : Value} {xs : List Int} (hi : Side2 w wr p pr room q vr xs) (h : b < w.heap.size) : b ≠ p ∧ q ≠ some b := by
  have := hi.ring.low
  exact ⟨by omega, fun e => by have := (hi.ring.qlow b e).1; omega⟩
theorem low_at {l : List Act} {w : World} {b off n c : Nat} (h : Sl w (.slice (some ⟨b, off, none⟩) n c) l) {k : Nat} (hk : k < l.length) : b < w.heap.size := by
  rcases h.low with rfl | h
  · simp at hk
  · exact h b rfl
theorem ow_fresh {α : Type} [Elem α] {W0 W W3 : World} {v : Value} {xs : List α} (h : Ow W3 W0.heap.size v xs) (hs : W.heap.size ≤ W0.heap.size) : Ow W3 W.heap.size v xs := h.mono hs

set_option maxHeartbeats 1000000 in
theorem ringDoes_long (w : World) (room : Int) (ao : Option Addr) (c : Nat) (l : List Act) (h : Sl w (.slice ao l.length c) l) (hl : 60 < l.length) :
    Calls Try.prog 3 #[.int .i64 room, .slice ao l.length c] w (GivesB w (.bool true)) := by
  have n1 := h.length_le
  clear h
  go_enter Try.func3, Try.ntmps3
  go_wp2_with fail
  refine (new_i room w.heap.size w (Nat.le_refl _)).mono ?_
  rintro e W1 ⟨rfl, _, x1⟩
  go_wp2_with fail
  refine (awake_any W1).mono ?_
  rintro e W2 ⟨rfl, x2⟩
  go_wp2_with fail
  refine (awake_any W2).mono ?_
  rintro e W3 ⟨rfl, x3⟩
  go_wp2_with fail
  go_ret
  exact ⟨rfl, (x1.trans x2).trans x3⟩

set_option maxRecDepth 100000 in
set_option maxHeartbeats 8000000 in
theorem ringDoes_short (w : World) (room : Int) (ao : Option Addr) (c : Nat) (l : List Act) (h : Sl w (.slice ao l.length c) l) (hl : l.length ≤ 60) :
    Calls Try.prog 3 #[.int .i64 room, .slice ao l.length c] w (GivesB w (.bool true)) := by
  obtain ⟨m, hm⟩ : ∃ m : Nat, m = (min (max room 0) 1000).toNat := ⟨_, rfl⟩
  have hm1 : (m : Int) = min (max room 0) 1000 := by omega
  have HM := Lib.hid hm
  have HM1 := Lib.hid hm1
  clear hm hm1
  have HS := Lib.hid h
  clear h
  go_enter Try.func3, Try.ntmps3
  go_wp2_with fail
  refine (new_i room w.heap.size w (Nat.le_refl _)).mono ?_
  rintro e W1 ⟨rfl, r1, x1⟩
  rw [← HM.out] at r1
  go_wp2_with fail
  refine (awake_any W1).mono ?_
  rintro e W2 ⟨rfl, x2⟩
  have r2 := r1.ext x2
  have y2 : Ext w W2 := x1.trans x2
  clear r1 x1 x2
  obtain ⟨p, hp⟩ : ∃ p, p = w.heap.size := ⟨_, rfl⟩
  have hpw : p < W2.heap.size := by rw [hp]; exact r2.lt
  have r3 : RAt 57 W2 w.heap.size p none m ([] : List Int) := by rw [hp]; exact r2
  rw [← hp]
  clear r2 hp
  have hinv : Inv2 w (W2.alloc (.cells #[.int .i64 m, .slice none 0 0] 28)) p W2.heap.size m :=
    ⟨none, _, [], r3.ext ((Ext.refl _).alloc _), get_alloc_new _ _, ⟨(Ow.nil _ 0).sl, .inl rfl⟩, .inl rfl, by omega, by simp, y2.size, y2.alloc _⟩
  have HI := Lib.hid hinv
  clear hinv r3
  go_wp2
  go_loopw [7] (fun i wr => ∃ k : Nat, k ≤ l.length ∧ i = .int .i64 k ∧ Hid (Inv2 w wr p W2.heap.size m)) (fun i _ => l.length - (intOf i).toNat)
  case atStart => exact ⟨0, Nat.zero_le _, rfl, Lib.hid (by rw [← HM1.out]; exact HI.out)⟩
  case round =>
    obtain ⟨k, hk, rfl, HR⟩ := hrel
    obtain ⟨pr, hpr⟩ : ∃ pr, pr = W2.heap.size := ⟨_, rfl⟩
    rw [← hpr] at HR ⊢
    clear HI hpr hpw y2
    clear W2
    by_cases hlt : k < l.length
    · obtain ⟨q, vr, xs, hi⟩ := HR.out
      clear HR
      have hs := HS.out.ext hi.ext
      rcases hs.acts with ⟨rfl, _⟩ | ⟨b, off, c', hv, _, _, hb, _, hcell⟩
      · simp at hlt
      · simp only [Value.slice.injEq, true_and] at hv
        obtain ⟨rfl, rfl⟩ := hv
        obtain ⟨c0, c1⟩ := hcell k hlt
        obtain ⟨x, hx⟩ : ∃ x, x = l.getD k ⟨0, 0⟩ := ⟨_, rfl⟩
        rw [← hx] at c0 c1
        obtain ⟨xk, xx⟩ := x
        have hbw : b < wr.heap.size := hb
        have hbl := low_at HS.out hlt
        clear hcell hx hs hb
        simp only at c0 c1
        go_upto_block 2 with (fail)
        go_cut [8, 9, 10, 11] (fun s8 s9 s10 s11 wx => ∃ (x : Int) (ok : Bool), s8 = .int .i64 x ∧ s9 = .int .i64 x ∧ s10 = .bool ok ∧ s11 = .bool ok ∧ Hid (Inv2 w wx p pr m))
        case first =>
          have hle := hi.ring.le
          have hmost := hi.ring.most
          by_cases hk0 : xk = 0
          · subst hk0
            by_cases hfull : m ≤ xs.length
            · skip
              go_wp2_with fail
              refine (push_no_i hi.ring xx hfull).mono ?_
              rintro e W ⟨rfl, d⟩
              have x2 : Ext wr W := Ext.of_drew d
              clear d
              have hi2 := hi.more x2
              have d1 := (x2.cell (p := ⟨b, off + k * 2 + 1, none⟩) hbw).trans c1
              have d0 := (x2.cell (p := ⟨b, off + k * 2, none⟩) hbw).trans c0
              have e0 := blk_cell hi2.row 0 rfl
              have e1 := blk_cell hi2.row 1 rfl
              obtain ⟨av, cv, rfl⟩ := hi2.keep.1.len
              clear hi x2 c0 c1
              go_wp2_with fail
              go_region_with (first
                | (go_at_call 12; refine (refPush_no _ m _ xs xx ((hi2.more ((by repeat (first | exact Ext.refl _ | assumption | refine Ext.alloc ?_ _ | refine Ext.drew ?_ | refine Ext.drewN ?_ _)))).keep.1) (by omega)).mono ?_; rintro e W3 ⟨rfl, x3⟩; have hi3 := hi2.more (Ext.trans (by exact (by repeat (first | exact Ext.refl _ | assumption | refine Ext.alloc ?_ _ | refine Ext.drew ?_ | refine Ext.drewN ?_ _))) x3); have g0 := blk_cell hi3.row 0 rfl; have g1 := blk_cell hi3.row 1 rfl; have k0 := blk_free hi3.row 0; have k1 := blk_free hi3.row 1; clear x3))
              all_goals
                go_wp2_with fail
                go_meet
                exact ⟨0, false, rfl, rfl, rfl, rfl, Lib.hid ⟨_, _, _, hi3.same⟩⟩
            · skip
              go_wp2_with fail
              refine (push_yes_i hi.ring hi.ext.size xx (by omega)).mono ?_
              rintro e W ⟨rfl, q2, r2, s⟩
              have hbpq := hb_ne hi hbl
              have hrowW : W.heap[pr]? = _ := (s.block pr (blk_lt hi.row) hi.prp hi.prq).trans hi.row
              have hkW := hi.keep.step s
              have d1 := (World.cell?_of_block (w := wr) (a := ⟨b, off + k * 2 + 1, none⟩) (s.block b hbw hbpq.1 hbpq.2)).trans c1
              have d0 := (World.cell?_of_block (w := wr) (a := ⟨b, off + k * 2, none⟩) (s.block b hbw hbpq.1 hbpq.2)).trans c0
              have e0 := blk_cell hrowW 0 rfl
              have e1 := blk_cell hrowW 1 rfl
              obtain ⟨av, cv, rfl⟩ := hkW.1.len
              clear c0 c1 hbpq
              go_wp2_with fail
              go_region_with (first
                | (go_at_call 12; refine (refPush_yes _ m _ xs xx (hkW.1.ext ((by repeat (first | exact Ext.refl _ | assumption | refine Ext.alloc ?_ _ | refine Ext.drew ?_ | refine Ext.drewN ?_ _)))) (by omega) (by omega)).mono ?_; rintro e W3 ⟨v3, rfl, ho3, x3⟩; have x4 : Ext W W3 := Ext.trans (by exact (by repeat (first | exact Ext.refl _ | assumption | refine Ext.alloc ?_ _ | refine Ext.drew ?_ | refine Ext.drewN ?_ _))) x3; have hrow3 := (x4.block pr (blk_lt hrowW)).trans hrowW; have g0 := blk_cell hrow3 0 rfl; have g1 := blk_cell hrow3 1 rfl; have k0 := blk_free hrow3 0; have k1 := blk_free hrow3 1; have ho4 := ow_fresh (W := W) ho3 (by first | exact Nat.le_refl _ | simp); clear ho3; obtain ⟨ao3, n3, c3, rfl⟩ := ho4.sh; clear x3))
              all_goals
                go_wp2_with fail
                go_meet
                exact ⟨0, true, rfl, rfl, rfl, rfl, Lib.hid ⟨_, _, _, hi.step r2 s x4 ho4.sl (fun b hb => (ho4.low b hb).1)⟩⟩
          · have n0 : (xk == 0) = false := by simpa using hk0
            by_cases hk1 : xk = 1
            · subst hk1
              cases xs with
              | nil =>
                go_wp2_with fail
                refine (pop_no_i hi.ring).mono ?_
                rintro e W ⟨rfl, rfl⟩
                have x2 : Ext wr wr := Ext.refl _
                have hi2 := hi.more x2
                have d1 := (x2.cell (p := ⟨b, off + k * 2 + 1, none⟩) hbw).trans c1
                have d0 := (x2.cell (p := ⟨b, off + k * 2, none⟩) hbw).trans c0
                have e0 := blk_cell hi2.row 0 rfl
                have e1 := blk_cell hi2.row 1 rfl
                obtain ⟨av, cv, rfl⟩ := hi2.keep.1.len
                clear hi x2 c0 c1
                go_wp2_with fail
                refine (refCut_no _ m _ [] 0 ((hi2.more ((by repeat (first | exact Ext.refl _ | assumption | refine Ext.alloc ?_ _ | refine Ext.drew ?_ | refine Ext.drewN ?_ _)))).keep.1) (by simp)).mono ?_
                rintro e W3 ⟨rfl, x3⟩
                have hi3 := hi2.more (Ext.trans (by exact (by repeat (first | exact Ext.refl _ | assumption | refine Ext.alloc ?_ _ | refine Ext.drew ?_ | refine Ext.drewN ?_ _))) x3)
                have g0 := blk_cell hi3.row 0 rfl
                have g1 := blk_cell hi3.row 1 rfl
                have k0 := blk_free hi3.row 0
                have k1 := blk_free hi3.row 1
                clear x3
                all_goals
                  go_wp2_with fail
                  go_meet
                  exact ⟨0, false, rfl, rfl, rfl, rfl, Lib.hid ⟨_, _, _, hi3.same⟩⟩
              | cons y ys =>
                go_wp2_with fail
                refine (pop_yes_i hi.ring).mono ?_
                rintro e W ⟨rfl, q2, r2, s⟩
                have hbpq := hb_ne hi hbl
                have hrowW : W.heap[pr]? = _ := (s.block pr (blk_lt hi.row) hi.prp hi.prq).trans hi.row
                have hkW := hi.keep.step s
                have d1 := (World.cell?_of_block (w := wr) (a := ⟨b, off + k * 2 + 1, none⟩) (s.block b hbw hbpq.1 hbpq.2)).trans c1
                have d0 := (World.cell?_of_block (w := wr) (a := ⟨b, off + k * 2, none⟩) (s.block b hbw hbpq.1 hbpq.2)).trans c0
                have e0 := blk_cell hrowW 0 rfl
                have e1 := blk_cell hrowW 1 rfl
                obtain ⟨av, cv, rfl⟩ := hkW.1.len
                clear c0 c1 hbpq
                go_wp2_with fail
                refine (refCut_yes _ m _ (y :: ys) 0 y (hkW.1.ext ((by repeat (first | exact Ext.refl _ | assumption | refine Ext.alloc ?_ _ | refine Ext.drew ?_ | refine Ext.drewN ?_ _)))) rfl (by omega)).mono ?_
                rintro e W3 ⟨v3, rfl, ho3, x3⟩
                have x4 : Ext W W3 := Ext.trans (by exact (by repeat (first | exact Ext.refl _ | assumption | refine Ext.alloc ?_ _ | refine Ext.drew ?_ | refine Ext.drewN ?_ _))) x3
                have hrow3 := (x4.block pr (blk_lt hrowW)).trans hrowW
                have g0 := blk_cell hrow3 0 rfl
                have g1 := blk_cell hrow3 1 rfl
                have k0 := blk_free hrow3 0
                have k1 := blk_free hrow3 1
                have ho4 := ow_fresh (W := W) ho3 (by first | exact Nat.le_refl _ | simp)
                clear ho3
                obtain ⟨ao3, n3, c3, rfl⟩ := ho4.sh
                clear x3
                all_goals
                  go_wp2_with fail
                  go_meet
                  exact ⟨y, true, rfl, rfl, rfl, rfl, Lib.hid ⟨_, _, _, hi.step r2 s x4 ho4.sl (fun b hb => (ho4.low b hb).1)⟩⟩
            · have n1 : (xk == 1) = false := by simpa using hk1
              by_cases hk2 : xk = 2
              · subst hk2
                by_cases hin : 0 ≤ xx ∧ xx < xs.length
                · obtain ⟨n, rfl⟩ := Int.eq_ofNat_of_zero_le hin.1
                  have hn : n < xs.length := by omega
                  obtain ⟨y, hy⟩ : ∃ y, xs[n]? = some y := ⟨_, List.getElem?_eq_getElem hn⟩
                  have HY := Lib.hid hy
                  clear hy hin
                  go_wp2_with fail
                  refine (cut_yes_i hi.ring n y HY.out).mono ?_
                  rintro e W ⟨rfl, q2, r2, s⟩
                  have hbpq := hb_ne hi hbl
                  have hrowW : W.heap[pr]? = _ := (s.block pr (blk_lt hi.row) hi.prp hi.prq).trans hi.row
                  have hkW := hi.keep.step s
                  have d1 := (World.cell?_of_block (w := wr) (a := ⟨b, off + k * 2 + 1, none⟩) (s.block b hbw hbpq.1 hbpq.2)).trans c1
                  have d0 := (World.cell?_of_block (w := wr) (a := ⟨b, off + k * 2, none⟩) (s.block b hbw hbpq.1 hbpq.2)).trans c0
                  have e0 := blk_cell hrowW 0 rfl
                  have e1 := blk_cell hrowW 1 rfl
                  obtain ⟨av, cv, rfl⟩ := hkW.1.len
                  clear c0 c1 hbpq
                  go_wp2_with fail
                  go_region_with (first
                    | (go_at_call 14; refine (refCut_yes _ m _ xs n y (hkW.1.ext ((by repeat (first | exact Ext.refl _ | assumption | refine Ext.alloc ?_ _ | refine Ext.drew ?_ | refine Ext.drewN ?_ _)))) HY.out (by omega)).mono ?_; rintro e W3 ⟨v3, rfl, ho3, x3⟩; have x4 : Ext W W3 := Ext.trans (by exact (by repeat (first | exact Ext.refl _ | assumption | refine Ext.alloc ?_ _ | refine Ext.drew ?_ | refine Ext.drewN ?_ _))) x3; have hrow3 := (x4.block pr (blk_lt hrowW)).trans hrowW; have g0 := blk_cell hrow3 0 rfl; have g1 := blk_cell hrow3 1 rfl; have k0 := blk_free hrow3 0; have k1 := blk_free hrow3 1; have ho4 := ow_fresh (W := W) ho3 (by first | exact Nat.le_refl _ | simp); clear ho3; obtain ⟨ao3, n3, c3, rfl⟩ := ho4.sh; clear x3))
                  all_goals
                    go_wp2_with fail
                    go_meet
                    exact ⟨y, true, rfl, rfl, rfl, rfl, Lib.hid ⟨_, _, _, hi.step r2 s x4 ho4.sl (fun b hb => (ho4.low b hb).1)⟩⟩
                · have ho : xx < 0 ∨ (xs.length : Int) ≤ xx := by omega
                  go_wp2_with fail
                  refine (cut_no_i hi.ring xx ho).mono ?_
                  rintro e W ⟨rfl, rfl⟩
                  have x2 : Ext wr wr := Ext.refl _
                  have hi2 := hi.more x2
                  have d1 := (x2.cell (p := ⟨b, off + k * 2 + 1, none⟩) hbw).trans c1
                  have d0 := (x2.cell (p := ⟨b, off + k * 2, none⟩) hbw).trans c0
                  have e0 := blk_cell hi2.row 0 rfl
                  have e1 := blk_cell hi2.row 1 rfl
                  obtain ⟨av, cv, rfl⟩ := hi2.keep.1.len
                  clear hi x2 c0 c1
                  go_wp2_with fail
                  go_region_with (first
                    | (go_at_call 14; refine (refCut_no _ m _ xs xx ((hi2.more ((by repeat (first | exact Ext.refl _ | assumption | refine Ext.alloc ?_ _ | refine Ext.drew ?_ | refine Ext.drewN ?_ _)))).keep.1) ho).mono ?_; rintro e W3 ⟨rfl, x3⟩; have hi3 := hi2.more (Ext.trans (by exact (by repeat (first | exact Ext.refl _ | assumption | refine Ext.alloc ?_ _ | refine Ext.drew ?_ | refine Ext.drewN ?_ _))) x3); have g0 := blk_cell hi3.row 0 rfl; have g1 := blk_cell hi3.row 1 rfl; have k0 := blk_free hi3.row 0; have k1 := blk_free hi3.row 1; clear x3))
                  all_goals
                    go_wp2_with fail
                    go_meet
                    exact ⟨0, false, rfl, rfl, rfl, rfl, Lib.hid ⟨_, _, _, hi3.same⟩⟩
              · have n2 : (xk == 2) = false := by simpa using hk2
                by_cases hin : 0 ≤ xx ∧ xx < xs.length
                · obtain ⟨n, rfl⟩ := Int.eq_ofNat_of_zero_le hin.1
                  have hn : n < xs.length := by omega
                  obtain ⟨y, hy⟩ : ∃ y, xs[n]? = some y := ⟨_, List.getElem?_eq_getElem hn⟩
                  have HY := Lib.hid hy
                  clear hy hin
                  go_wp2_with fail
                  refine (at_yes_i hi.ring n (by omega) (by omega) y (by simpa using HY.out)).mono ?_
                  rintro e W ⟨rfl, rfl⟩
                  have x2 : Ext wr wr := Ext.refl _
                  have hi2 := hi.more x2
                  have d1 := (x2.cell (p := ⟨b, off + k * 2 + 1, none⟩) hbw).trans c1
                  have d0 := (x2.cell (p := ⟨b, off + k * 2, none⟩) hbw).trans c0
                  have e0 := blk_cell hi2.row 0 rfl
                  have e1 := blk_cell hi2.row 1 rfl
                  obtain ⟨av, cv, rfl⟩ := hi2.keep.1.len
                  clear hi x2 c0 c1
                  go_wp2_with fail
                  go_region_with (first
                    | (go_at_call 17; refine (refAt_yes _ m _ xs n y ((hi2.more ((by repeat (first | exact Ext.refl _ | assumption | refine Ext.alloc ?_ _ | refine Ext.drew ?_ | refine Ext.drewN ?_ _)))).keep.1) HY.out).mono ?_; rintro e W3 ⟨rfl, x3⟩; have hi3 := hi2.more (Ext.trans (by exact (by repeat (first | exact Ext.refl _ | assumption | refine Ext.alloc ?_ _ | refine Ext.drew ?_ | refine Ext.drewN ?_ _))) x3); have g0 := blk_cell hi3.row 0 rfl; have g1 := blk_cell hi3.row 1 rfl; have k0 := blk_free hi3.row 0; have k1 := blk_free hi3.row 1; clear x3))
                  all_goals
                    go_wp2_with fail
                    go_meet
                    exact ⟨y, true, rfl, rfl, rfl, rfl, Lib.hid ⟨_, _, _, hi3⟩⟩
                · have ho : xx < 0 ∨ (xs.length : Int) ≤ xx := by omega
                  go_wp2_with fail
                  refine (at_no_i hi.ring xx ho).mono ?_
                  rintro e W ⟨rfl, rfl⟩
                  have x2 : Ext wr wr := Ext.refl _
                  have hi2 := hi.more x2
                  have d1 := (x2.cell (p := ⟨b, off + k * 2 + 1, none⟩) hbw).trans c1
                  have d0 := (x2.cell (p := ⟨b, off + k * 2, none⟩) hbw).trans c0
                  have e0 := blk_cell hi2.row 0 rfl
                  have e1 := blk_cell hi2.row 1 rfl
                  obtain ⟨av, cv, rfl⟩ := hi2.keep.1.len
                  clear hi x2 c0 c1
                  go_wp2_with fail
                  go_region_with (first
                    | (go_at_call 17; refine (refAt_no _ m _ xs xx ((hi2.more ((by repeat (first | exact Ext.refl _ | assumption | refine Ext.alloc ?_ _ | refine Ext.drew ?_ | refine Ext.drewN ?_ _)))).keep.1) ho).mono ?_; rintro e W3 ⟨rfl, x3⟩; have hi3 := hi2.more (Ext.trans (by exact (by repeat (first | exact Ext.refl _ | assumption | refine Ext.alloc ?_ _ | refine Ext.drew ?_ | refine Ext.drewN ?_ _))) x3); have g0 := blk_cell hi3.row 0 rfl; have g1 := blk_cell hi3.row 1 rfl; have k0 := blk_free hi3.row 0; have k1 := blk_free hi3.row 1; clear x3))
                  all_goals
                    go_wp2_with fail
                    go_meet
                    exact ⟨0, false, rfl, rfl, rfl, rfl, Lib.hid ⟨_, _, _, hi3⟩⟩
        case rest =>
          obtain ⟨x, ok, rfl, rfl, rfl, rfl, HR⟩ := hcut
          clear hi c0 c1 hbl hbw
          obtain ⟨q, vr, xs, hi⟩ := HR.out
          clear HR
          have hle := hi.ring.le
          have hmost := hi.ring.most
          have e0 := blk_cell hi.row 0 rfl
          have e1 := blk_cell hi.row 1 rfl
          obtain ⟨av, cv, rfl⟩ := hi.keep.1.len
          have hxx : (x != x) = false := by simp
          have hkk : (ok != ok) = false := by simp
          have hll : ((xs.length : Int) != (xs.length : Int)) = false := by simp
          have hrr : (((m : Int) - (xs.length : Int)) != ((m : Int) - (xs.length : Int))) = false := by simp
          go_wp2_with fail
          have hwr : IntKind.i64.wrap ((m : Int) - (xs.length : Int)) = (m : Int) - (xs.length : Int) := IntWalk.i64_in _ (by omega)
          go_region_held3 (fun w' => w'.cell? ⟨pr, 0, none⟩ = some (.int .i64 m) ∧ w'.cell? ⟨pr, 1, none⟩ = some (.slice av xs.length cv)) (first | exact ⟨e0, e1⟩ | exact ⟨f0, f1⟩ | exact ⟨g0, g1⟩ | exact ⟨h0, h1⟩)
            (first
              | (go_at_call 19; refine (all_i ((hi.more ((by repeat (first | exact Ext.refl _ | assumption | refine Ext.alloc ?_ _ | refine Ext.drew ?_ | refine Ext.drewN ?_ _)))).ring)).mono ?_; rintro e W3 ⟨v3, rfl, ho3, x3⟩; have hi3 := hi.more (Ext.trans (by exact (by repeat (first | exact Ext.refl _ | assumption | refine Ext.alloc ?_ _ | refine Ext.drew ?_ | refine Ext.drewN ?_ _))) x3); have f0 := blk_cell hi3.row 0 rfl; have f1 := blk_cell hi3.row 1 rfl; have hs3 := ho3.sl; obtain ⟨ao3, c3, rfl⟩ := hs3.len; clear ho3 x3)
              | (go_at_call 18; refine (refSame_val true _ _ _ xs xs (hs3.ext (by repeat (first | exact Ext.refl _ | assumption | refine Ext.alloc ?_ _ | refine Ext.drew ?_ | refine Ext.drewN ?_ _))) ((hi3.more ((by repeat (first | exact Ext.refl _ | assumption | refine Ext.alloc ?_ _ | refine Ext.drew ?_ | refine Ext.drewN ?_ _)))).keep.1) (by simp)).mono ?_; rintro e W4 ⟨rfl, d⟩; have hi4 := hi3.more (Ext.trans (by exact (by repeat (first | exact Ext.refl _ | assumption | refine Ext.alloc ?_ _ | refine Ext.drew ?_ | refine Ext.drewN ?_ _))) (Ext.of_drew d)); have g0 := blk_cell hi4.row 0 rfl; have g1 := blk_cell hi4.row 1 rfl; clear d)
              | (go_at_call 20; refine (len_i ((hi4.more ((by repeat (first | exact Ext.refl _ | assumption | refine Ext.alloc ?_ _ | refine Ext.drew ?_ | refine Ext.drewN ?_ _)))).ring)).mono ?_; rintro e w' ⟨rfl, rfl⟩)
              | (go_at_call 21; refine (room_i ((hi4.more ((by repeat (first | exact Ext.refl _ | assumption | refine Ext.alloc ?_ _ | refine Ext.drew ?_ | refine Ext.drewN ?_ _)))).ring)).mono ?_; rintro e W5 ⟨rfl, d⟩; have hi5 := hi4.more (Ext.trans (by exact (by repeat (first | exact Ext.refl _ | assumption | refine Ext.alloc ?_ _ | refine Ext.drew ?_ | refine Ext.drewN ?_ _))) (Ext.of_drew d)); have h0 := blk_cell hi5.row 0 rfl; have h1 := blk_cell hi5.row 1 rfl; clear d))
          all_goals
            go_wp2
            exact ⟨⟨k + 1, by omega, by go_num, Lib.hid ⟨_, _, _, hi5⟩⟩, by simp [intOf]; omega⟩
    · go_wp2
      go_ret
      obtain ⟨q, vr, xs, hi⟩ := HR.out
      exact ⟨rfl, hi.ext⟩

end Go.Proofs.Ytppikneehgochaa
