/- Colours: who goes ahead, what is taken, the least free one, a round. -/
import Derived.Test.YtalncechmhmdcaaY3
namespace Go.Proofs.Ytalncechmhmdcaa
open Go.RowKit

theorem TellsP.imp {w : World} {fv : Value} {P Q : Int → Prop} {p : Int → Bool} (h : TellsP w fv P p) (g : ∀ x, Q x → P x) : TellsP w fv Q p := by
  obtain ⟨f, lb, rfl, h2, h3⟩ := h.any
  exact ⟨f, lb, rfl, h2, fun W x hW hq => h3 W x hW (g x hq)⟩

set_option maxHeartbeats 1000000 in
theorem least_any (w : World) (fv : Value) (t : Int → Bool) (m : Int) (ht : TellsP w fv (fun _ => True) t) (hm : IsLeast t m) (hb : m ≤ 1000000) :
    Calls Try.prog 43 #[fv] w fun e w' => e = .returned (.int .i64 m) ∧ Ext w w' := by
  obtain ⟨g, lb, rfl, eg, hp⟩ := ht.any
  have HP := Lib.hid hp
  have HM := Lib.hid hm
  have h1 := hm.pos
  clear ht hp hm
  go_enter Try.func43, Try.ntmps43
  go_wp2
  go_loopw [3] (fun i wr => ∃ k : Int, 1 ≤ k ∧ k ≤ m ∧ i = .int .i64 k ∧ Hid (Ext w wr)) (fun i _ => (m - intOf i).toNat)
  case atStart => exact ⟨1, by omega, h1, rfl, Lib.hid (Ext.refl _)⟩
  case round =>
    obtain ⟨k, hk1, hk, rfl, HX⟩ := hrel
    by_cases hlt : k < m
    · have HH : Hid (Calls Try.prog g (#[.int .i64 k] ++ lb) wr fun e w' => e = .returned (.bool true) ∧ Ext wr w') := Lib.hid (by have := HP.out wr k HX.out trivial; rwa [HM.out.low k hk1 hlt] at this)
      have hw1 : IntKind.i64.wrap (k + 1) = k + 1 := wrapN _ (by omega) (by omega)
      go_wp2_with (go_at_fn g; refine HH.out.mono ?_; rintro e w1 ⟨rfl, hx⟩; have HX1 := Lib.hid (HX.out.trans hx); clear hx)
      go_roundw
      case rel => exact ⟨k + 1, by omega, by omega, rfl, HX1⟩
      case measure => simp [intOf]; omega
    · have hkm : k = m := by omega
      subst hkm
      have HH : Hid (Calls Try.prog g (#[.int .i64 k] ++ lb) wr fun e w' => e = .returned (.bool false) ∧ Ext wr w') := Lib.hid (by have := HP.out wr k HX.out trivial; rwa [HM.out.free] at this)
      go_wp2_with (go_at_fn g; refine HH.out.mono ?_; rintro e w1 ⟨rfl, hx⟩; have HX1 := Lib.hid (HX.out.trans hx); clear hx)
      go_ret
      exact ⟨rfl, HX1.out⟩

theorem Sl.colAt {w : World} {v : Value} {c : List Int} (h : Sl w v c) {x : Int} (h0 : 0 ≤ x) (h1 : x < c.length) :
    ∃ b off n k, v = .slice (some ⟨b, off, none⟩) n k ∧ n = c.length ∧ n ≤ k ∧ k ≤ 9223372036854775807 ∧ b < w.heap.size ∧ w.cell? ⟨b, off + x.toNat, none⟩ = some (.int .i64 (col c x)) := by
  obtain ⟨ao, k, rfl⟩ := h.len
  obtain ⟨b, off, rfl, _, h2, h3, h4, h5⟩ := h.intsAt (k := x.toNat) (by omega)
  exact ⟨b, off, _, k, rfl, rfl, h2, h3, h4, h5⟩

theorem ahead_tells (w : World) (V C : Nat) (cv : Value) (c : List Int) (a : Int) (hV : V < w.heap.size) (hC : C < w.heap.size) (k0 : w.cell? ⟨V, 0, none⟩ = some (.int .i64 a)) (k1 : w.cell? ⟨C, 0, none⟩ = some cv) (h : Sl w cv c) :
    TellsP w (.func (.func 40) #[] #[.pointer (some ⟨V, 0, none⟩), .pointer (some ⟨C, 0, none⟩)]) (fun x => 0 ≤ x ∧ x < c.length) (fun x => decide (a < x) && (col c x == 0)) :=
  ⟨40, _, rfl, enters_of Try.func40 (by kernel_rfl) rfl, fun W x hW hx => by
    obtain ⟨b, off, n, k, rfl, hn, hnk, hk63, hb, hcell⟩ := h.colAt hx.1 hx.2
    have g0 := (hW.cell (p := ⟨V, 0, none⟩) hV).trans k0
    have g1 := (hW.cell (p := ⟨C, 0, none⟩) hC).trans k1
    have g2 := (hW.cell (p := ⟨b, off + x.toNat, none⟩) hb).trans hcell
    obtain ⟨hx0, hx1⟩ := hx
    have hxn : x < (n : Int) := by omega
    clear hW h hV hC k0 k1 hcell hb hn hx1
    change Calls Try.prog _ #[.int .i64 x, .pointer (some ⟨V, 0, none⟩), .pointer (some ⟨C, 0, none⟩)] W _
    obtain ⟨y, hy⟩ : ∃ y, y = col c x := ⟨_, rfl⟩
    rw [← hy] at g2 ⊢
    clear hy
    by_cases hlt : a < x
    · by_cases e : y = 0
      · subst e
        go_enter Try.func40, Try.ntmps40
        go_wp2
        go_ret
        exact ⟨ret_bool (by simp [hlt]), (by repeat (first | exact Ext.refl _ | assumption | refine Ext.alloc ?_ _ | refine Ext.drew ?_ | refine Ext.drewN ?_ _))⟩
      · have e2 : (y == 0) = false := by simp [e]
        rw [e2]
        clear e
        go_enter Try.func40, Try.ntmps40
        go_wp2
        go_ret
        exact ⟨ret_bool (by simp), (by repeat (first | exact Ext.refl _ | assumption | refine Ext.alloc ?_ _ | refine Ext.drew ?_ | refine Ext.drewN ?_ _))⟩
    · rw [decide_eq_false hlt]
      go_enter Try.func40, Try.ntmps40
      go_wp2
      go_ret
      exact ⟨ret_bool (by simp), (by repeat (first | exact Ext.refl _ | assumption | refine Ext.alloc ?_ _ | refine Ext.drew ?_ | refine Ext.drewN ?_ _))⟩⟩

theorem inner_tells (w : World) (C B : Nat) (cv : Value) (c : List Int) (a : Int) (hC : C < w.heap.size) (hB : B < w.heap.size) (k0 : w.cell? ⟨C, 0, none⟩ = some cv) (k1 : w.cell? ⟨B, 0, none⟩ = some (.int .i64 a)) (h : Sl w cv c) :
    TellsP w (.func (.func 42) #[] #[.pointer (some ⟨C, 0, none⟩), .pointer (some ⟨B, 0, none⟩)]) (fun x => 0 ≤ x ∧ x < c.length) (fun x => col c x == a) :=
  ⟨42, _, rfl, enters_of Try.func42 (by kernel_rfl) rfl, fun W x hW hx => by
    obtain ⟨b, off, n, k, rfl, hn, hnk, hk63, hb, hcell⟩ := h.colAt hx.1 hx.2
    have g0 := (hW.cell (p := ⟨C, 0, none⟩) hC).trans k0
    have g1 := (hW.cell (p := ⟨B, 0, none⟩) hB).trans k1
    have g2 := (hW.cell (p := ⟨b, off + x.toNat, none⟩) hb).trans hcell
    obtain ⟨hx0, hx1⟩ := hx
    have hxn : x < (n : Int) := by omega
    clear hW h hB hC k0 k1 hcell hb hn hx1
    change Calls Try.prog _ #[.int .i64 x, .pointer (some ⟨C, 0, none⟩), .pointer (some ⟨B, 0, none⟩)] W _
    obtain ⟨y, hy⟩ : ∃ y, y = col c x := ⟨_, rfl⟩
    rw [← hy] at g2 ⊢
    clear hy
    go_enter Try.func42, Try.ntmps42
    go_wp2
    go_quiet (fail)
    go_wp2
    go_ret
    exact ⟨rfl, (by repeat (first | exact Ext.refl _ | assumption | refine Ext.alloc ?_ _ | refine Ext.drew ?_ | refine Ext.drewN ?_ _))⟩⟩

theorem right_tells (w : World) (C B : Nat) (cv : Value) (c : List Int) (a : Int) (hC : C < w.heap.size) (hB : B < w.heap.size) (k0 : w.cell? ⟨C, 0, none⟩ = some cv) (k1 : w.cell? ⟨B, 0, none⟩ = some (.int .i64 a)) (h : Sl w cv c) :
    TellsP w (.func (.func 30) #[] #[.pointer (some ⟨C, 0, none⟩), .pointer (some ⟨B, 0, none⟩)]) (fun x => 0 ≤ x ∧ x < c.length) (fun x => col c x == a) :=
  ⟨30, _, rfl, enters_of Try.func30 (by kernel_rfl) rfl, fun W x hW hx => by
    obtain ⟨b, off, n, k, rfl, hn, hnk, hk63, hb, hcell⟩ := h.colAt hx.1 hx.2
    have g0 := (hW.cell (p := ⟨C, 0, none⟩) hC).trans k0
    have g1 := (hW.cell (p := ⟨B, 0, none⟩) hB).trans k1
    have g2 := (hW.cell (p := ⟨b, off + x.toNat, none⟩) hb).trans hcell
    obtain ⟨hx0, hx1⟩ := hx
    have hxn : x < (n : Int) := by omega
    clear hW h hB hC k0 k1 hcell hb hn hx1
    change Calls Try.prog _ #[.int .i64 x, .pointer (some ⟨C, 0, none⟩), .pointer (some ⟨B, 0, none⟩)] W _
    obtain ⟨y, hy⟩ : ∃ y, y = col c x := ⟨_, rfl⟩
    rw [← hy] at g2 ⊢
    clear hy
    go_enter Try.func30, Try.ntmps30
    go_wp2
    go_quiet (fail)
    go_wp2
    go_ret
    exact ⟨rfl, (by repeat (first | exact Ext.refl _ | assumption | refine Ext.alloc ?_ _ | refine Ext.drew ?_ | refine Ext.drewN ?_ _))⟩⟩

set_option maxHeartbeats 1000000 in
theorem taken_tells (w : World) (M V C : Nat) (fv cv : Value) (N : Int) (E : List Edge) (c : List Int) (a : Int) (ok : OkG N E) (hM : M < w.heap.size) (hV : V < w.heap.size) (hC : C < w.heap.size)
    (k0 : w.cell? ⟨M, 0, none⟩ = some fv) (k1 : w.cell? ⟨V, 0, none⟩ = some (.int .i64 a)) (k2 : w.cell? ⟨C, 0, none⟩ = some cv) (h : Sl w cv c) (hl : (c.length : Int) = N) (ha : Asks w fv N E) (h0 : 0 ≤ a) (h1 : a < N) :
    TellsP w (.func (.func 41) #[] #[.pointer (some ⟨M, 0, none⟩), .pointer (some ⟨V, 0, none⟩), .pointer (some ⟨C, 0, none⟩)]) (fun _ => True) (takenB c (rnear N E a)) :=
  ⟨41, _, rfl, enters_of Try.func41 (by kernel_rfl) rfl, fun W x hW _ => by
    have g0 := (hW.cell (p := ⟨M, 0, none⟩) hM).trans k0
    have g1 := (hW.cell (p := ⟨V, 0, none⟩) hV).trans k1
    have g2 := (hW.cell (p := ⟨C, 0, none⟩) hC).trans k2
    have hMW : M < W.heap.size := Nat.lt_of_lt_of_le hM hW.size
    have hVW : V < W.heap.size := Nat.lt_of_lt_of_le hV hW.size
    have hCW : C < W.heap.size := Nat.lt_of_lt_of_le hC hW.size
    obtain ⟨g, lb, rfl, eg, hq⟩ := ha.any
    have hS := h.ext hW
    have hin := inner_tells (W.alloc (.cells #[.int .i64 x] 3)) C W.heap.size cv c x (by rw [size_alloc]; omega) (by rw [size_alloc]; omega) ((World.cell?_alloc_past _ _ _ (by simpa using hCW)).trans g2) (blk_cell (get_alloc_new _ _) 0 rfl) (hS.alloc _)
    have HQ := Lib.hid (hq (W.alloc (.cells #[.int .i64 x] 3)) a _ (fun y => col c y == x) (hW.alloc _) h0 h1 (hin.imp fun y hy => by have := near_in ok hy; omega))
    have hmf : ∀ (fn : Fn) (first cap : Array Value) (w : World), (Instr.makeFunc fn first cap).run Try.prog w = .ok (.func fn first cap) w := fun _ _ _ _ => rfl
    clear hW h ha ok hM hV hC k0 k1 k2 hq hin hS hl
    change Calls Try.prog _ #[.int .i64 x, .pointer (some ⟨M, 0, none⟩), .pointer (some ⟨V, 0, none⟩), .pointer (some ⟨C, 0, none⟩)] W _
    go_enter Try.func41, Try.ntmps41
    go_wp2_with (go_at_fn g; refine HQ.out.mono ?_; rintro e w1 ⟨rfl, hx⟩; have HX := Lib.hid (Ext.trans ((Ext.refl W).alloc _) hx); clear hx)
    go_ret
    exact ⟨rfl, HX.out⟩⟩

end Go.Proofs.Ytalncechmhmdcaa
