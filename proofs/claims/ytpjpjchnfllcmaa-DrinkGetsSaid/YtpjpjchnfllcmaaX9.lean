/- Layer 15, the program: the bottle, or the ask, that a message brings. -/
import Derived.Test.YtpjpjchnfllcmaaX4
import Derived.Test.YtpjpjchnfllcmaaXV
import Derived.Test.YtpjpjchnfllcmaaMUA
import Derived.Test.YtpjpjchnfllcmaaMUF
namespace Go.Proofs.Ytpjpjchnfllcmaa
open Go.RowKit

set_option maxRecDepth 100000 in
set_option maxHeartbeats 2000000 in
theorem meantK_one (W : World) (g1 g2 : Nat) (p k me n : Int) (s : Sd) (h1 : W.heap[g1]? = some (.cells #[.int .i64 p] 3 (0, 0))) (h2 : W.heap[g2]? = some (.cells #[.int .i64 k, .int .i64 me, .int .i64 n] 44 (0, 0))) (t : Bool) (ht : (s.peer == p && s.epoch == me) = t) :
    Calls Try.prog 66 #[.agg s.cs, .pointer (some ⟨g1, 0, none⟩), .pointer (some ⟨g2, 0, none⟩)] W fun e W' => e = .returned (.bool t) ∧ Ext W W' := by
  obtain ⟨y0, y1, y2, y3, y4, y5, y6, y7⟩ := s
  unfold Sd.cs
  dsimp only at ht ⊢
  obtain ⟨W1, hW1⟩ : ∃ W1, W1 = W.alloc (.cells #[.int .i64 y0, .int .i64 y1, .int .i64 y2, .bool y3, .bool y4, .bool y5, .bool y6, .bool y7] 53) := ⟨_, rfl⟩
  have X1 : Hid (Ext W W1) := Lib.hid (hW1 ▸ (Ext.refl W).alloc _)
  have d1 : W1.heap[W.heap.size]? = some (.cells #[.int .i64 y0, .int .i64 y1, .int .i64 y2, .bool y3, .bool y4, .bool y5, .bool y6, .bool y7] 53 (0, 0)) := hW1 ▸ at0 W _
  have HW1 := Lib.hid hW1
  have x0 := blk_cell d1 0 rfl
  have x1 := blk_cell d1 1 rfl
  have k1 := blk_cell (keepU h1 X1.out) 0 rfl
  have k2 := blk_cell (keepU h2 X1.out) 1 rfl
  have HT := Lib.hid ht
  clear ht h1 h2 hW1 d1
  by_cases e1 : y0 = p
  · have t1 : (y0 == p) = true := by simp [e1]
    by_cases e2 : y1 = me
    · have t2 : (y1 == me) = true := by simp [e2]
      have HF : Hid (true = t) := Lib.hid (by rw [← HT.out, t1, t2]; rfl)
      clear e1 e2 HT
      go_enter Try.func66, Try.ntmps66
      go_upto_region 1 with (fail)
      rw [← HW1.out]
      go_wp2
      go_ret
      exact ⟨ret_bool HF.out, X1.out⟩
    · have t2 : (y1 == me) = false := by simp [e2]
      have HF : Hid (false = t) := Lib.hid (by rw [← HT.out, t1, t2]; rfl)
      clear e1 e2 HT
      go_enter Try.func66, Try.ntmps66
      go_upto_region 1 with (fail)
      rw [← HW1.out]
      go_wp2
      go_ret
      exact ⟨ret_bool HF.out, X1.out⟩
  · have t1 : (y0 == p) = false := by simp [e1]
    have HF : Hid (false = t) := Lib.hid (by rw [← HT.out, t1]; rfl)
    clear e1 HT
    go_enter Try.func66, Try.ntmps66
    go_upto_region 1 with (fail)
    rw [← HW1.out]
    go_wp2
    go_ret
    exact ⟨ret_bool HF.out, X1.out⟩
theorem indexK_meant (w : World) (v : Value) (L : List Sd) (g1 g2 : Nat) (p k me n : Int) (h : Sl w v L) (h1 : w.heap[g1]? = some (.cells #[.int .i64 p] 3 (0, 0))) (h2 : w.heap[g2]? = some (.cells #[.int .i64 k, .int .i64 me, .int .i64 n] 44 (0, 0))) :
    Calls Try.prog 67 #[v, .func (.func 66) #[] #[.pointer (some ⟨g1, 0, none⟩), .pointer (some ⟨g2, 0, none⟩)]] w fun e w' => ∃ r : Int, e = .returned (.int .i64 r) ∧ ((r = -1 ∧ findS (fun s => s.peer == p && s.epoch == me) L = none) ∨ ∃ (i : Nat) (s : Sd), r = (i : Int) ∧ L[i]? = some s ∧ findS (fun s => s.peer == p && s.epoch == me) L = some (i, s)) ∧ Ext w w' := by
  refine (indexFunc_sd w v L 66 #[.pointer (some ⟨g1, 0, none⟩), .pointer (some ⟨g2, 0, none⟩)] (fun _ V => Ext w V) (fun _ s => s.peer == p && s.epoch == me) (enters_of Try.func66 (by kernel_rfl) rfl) (fun _ W hW => h.ext hW) ?_ (Ext.refl w)).mono ?_
  · intro i s W hi hW
    refine (meantK_one W g1 g2 p k me n s (keepU h1 hW) (keepU h2 hW) _ rfl).mono ?_
    rintro e W' ⟨rfl, hx⟩
    exact ⟨rfl, Ext.trans hW hx⟩
  · rintro e w' ⟨r, rfl, hr, i, hx⟩
    refine ⟨r, rfl, ?_, hx⟩
    rcases hr with ⟨e, hn⟩ | ⟨i, s, e, hs, hq, hn⟩
    · exact .inl ⟨e, findS_none hn⟩
    · exact .inr ⟨i, s, e, hs, findS_some hs hq hn⟩

/-- the sides, and what is wrong -/
def withK (L : List Sd) (p k me : Int) : List Sd × Int := match findS (fun s => s.peer == p && s.epoch == me) L with
  | none => ([], 131)
  | some (i, s) => if k = 4 then (if s.ask = true then ([], 132) else (L.set i { s with ask := true }, 0)) else (if s.bottle = true then ([], 132) else (L.set i { s with bottle := true }, 0))
def GivesW (w : World) (r : List Sd × Int) (e : Ending) (w' : World) : Prop := ∃ v', e = .returned (.tuple #[v', .int .i64 r.2]) ∧ Sl w' v' r.1 ∧ Ext w w' ∧ ∀ b, v'.ownBlock = some b → w.heap.size ≤ b

set_option maxRecDepth 100000 in
set_option maxHeartbeats 8000000 in
theorem withK_any (w : World) (v : Value) (L : List Sd) (p k me n : Int) (h : Sl w v L) (hl : L.length ≤ 1000) :
    Calls Try.prog 43 #[v, .int .i64 p, .agg #[.int .i64 k, .int .i64 me, .int .i64 n]] w (GivesW w (withK L p k me)) := by
  obtain ⟨ao, c, rfl⟩ := h.len
  have hmf : ∀ (fn : Fn) (first cap : Array Value) (w : World), (Instr.makeFunc fn first cap).run Try.prog w = .ok (.func fn first cap) w := fun _ _ _ _ => rfl
  have hlen := h.length_le
  obtain ⟨W0, hW0⟩ : ∃ W0, W0 = (w.alloc (.cells #[.int .i64 p] 3)).alloc (.cells #[.int .i64 k, .int .i64 me, .int .i64 n] 44) := ⟨_, rfl⟩
  have X0 : Hid (Ext w W0) := Lib.hid (hW0 ▸ ((Ext.refl w).alloc _).alloc _)
  have P0 : Hid (W0.heap[w.heap.size]? = some (.cells #[.int .i64 p] 3 (0, 0))) := Lib.hid (hW0 ▸ old1 (at0 w _) _)
  have M0 : Hid (W0.heap[w.heap.size + 1]? = some (.cells #[.int .i64 k, .int .i64 me, .int .i64 n] 44 (0, 0))) := Lib.hid (hW0 ▸ at1 w _ _)
  have HW0 := Lib.hid hW0
  have HS := Lib.hid (h.ext X0.out)
  clear h hW0
  go_enter Try.func43, Try.ntmps43
  go_upto_region 1 with (fail)
  rw [← HW0.out]
  go_upto_region 3 with (first
    | (go_at_call 67; refine (indexK_meant W0 _ L w.heap.size (w.heap.size + 1) p k me n HS.out P0.out M0.out).mono ?_; rintro e w2 ⟨r, rfl, hr, hx⟩; have X2 : Hid (Ext W0 w2) := Lib.hid hx; have HRR := Lib.hid hr; clear hx hr))
  rcases HRR.out with ⟨rfl, hf⟩ | ⟨i, s, rfl, hsi, hf⟩
  · have HR : Hid (withK L p k me = ([], 131)) := Lib.hid (by unfold withK; rw [hf])
    clear hf HRR
    go_wp2
    go_ret2
    exact ⟨_, by rw [HR.out]; rfl, by rw [HR.out]; exact slNoneU _, X0.out.trans X2.out, fun b hb => by simp [Value.ownBlock] at hb⟩
  · have hlt : i < L.length := (List.getElem?_eq_some_iff.1 hsi).1
    have ho1 : ¬ ((i : Int) < 0) := by omega
    have HR : Hid (withK L p k me = if k = 4 then (if s.ask = true then ([], 132) else (L.set i { s with ask := true }, 0)) else (if s.bottle = true then ([], 132) else (L.set i { s with bottle := true }, 0))) := Lib.hid (by unfold withK; rw [hf])
    clear hf HRR
    go_upto_region 6 with (first
      | (go_at_call 49; refine (clone_sd w2 _ L (HS.out.ext X2.out) hl).mono ?_; rintro e w5 ⟨v5, rfl, o5, x5⟩; obtain ⟨a5, n5, c5, rfl⟩ := o5.sh; have X5 : Hid (Ext w2 w5) := Lib.hid x5; have O5 := Lib.hid o5; clear o5 x5))
    have hz2 : w.heap.size + 2 ≤ w2.heap.size := by have := blk_lt (keepU M0.out X2.out); omega
    obtain ⟨b1, off, s', hsy, hsj, hao, hn1, hnc, hc63, hb, hcs⟩ := O5.out.sl.sidesAt hlt
    subst hao
    obtain rfl : s' = s := by have := hsj.symm.trans hsi; simpa using this
    obtain ⟨⟨⟨x0, x1⟩, x2, x3⟩, ⟨x4, x5⟩, x6, x7⟩ := hcs _ (Ext.refl _)
    subst hn1
    obtain ⟨p0, m0, m1, m2⟩ : w5.cell? ⟨w.heap.size, 0, none⟩ = some (.int .i64 p) ∧ _ := ⟨blk_cell (keepU P0.out (X2.out.trans X5.out)) 0 rfl, cells3U (keepU M0.out (X2.out.trans X5.out))⟩
    obtain ⟨z1, z2, z3, z4⟩ := Ow.setCell1 (i := 6) (x' := { s' with bottle := true }) (u := .bool true) O5.out hsj (by decide) rfl
    obtain ⟨_, _, u3, u4⟩ := Ow.setCell1 (i := 7) (x' := { s' with ask := true }) (u := .bool true) O5.out hsj (by decide) rfl
    subst z1
    change w5.frozen? ⟨b1, 0 + i * 8 + 6, none⟩ = false at z3
    change w5.frozen? ⟨b1, 0 + i * 8 + 7, none⟩ = false at u3
    simp only [Nat.zero_add] at x6 x7 z3 u3
    rw [show (0 + i * Elem.k Sd + 6 : Nat) = i * 8 + 6 from by show 0 + i * 8 + 6 = _; omega] at z4
    rw [show (0 + i * Elem.k Sd + 7 : Nat) = i * 8 + 7 from by show 0 + i * 8 + 7 = _; omega] at u4
    have Z4 := Lib.hid z4
    have U4 := Lib.hid u4
    have HB1 : Hid (w2.heap.size ≤ b1) := Lib.hid z2
    have hnn : ∀ q : Nat, (Value.pointer (some ⟨b1, q, none⟩)) ≠ .pointer none := fun _ h => by cases h
    clear hsy hsj hcs hsi z4 u4 z2 hnn
    obtain ⟨y0, y1, y2, y3, y4, y5, y6, y7⟩ := s'
    dsimp only at x0 x1 x2 x3 x4 x5 x6 x7 HR Z4 U4
    by_cases e4 : k = 4
    · have t4 : (k == 4) = true := by simp [e4]
      have HR2 := Lib.hid (HR.out.trans (if_pos e4))
      clear e4 HR
      cases y7
      · go_wp2
        go_ret2
        exact ⟨_, by rw [HR2.out]; rfl, by rw [HR2.out]; exact U4.out.sl, below_set (X0.out.trans (X2.out.trans X5.out)) (by have := HB1.out; show w.heap.size ≤ b1; omega) _, fun b hb => by have := (U4.out.low b hb).1; omega⟩
      · go_wp2
        go_ret2
        exact ⟨_, by rw [HR2.out]; rfl, by rw [HR2.out]; exact slNoneU _, X0.out.trans (X2.out.trans X5.out), fun b hb => by simp [Value.ownBlock] at hb⟩
    · have t4 : (k == 4) = false := by simp [e4]
      have HR2 := Lib.hid (HR.out.trans (if_neg e4))
      clear e4 HR
      cases y6
      · go_wp2
        go_ret2
        exact ⟨_, by rw [HR2.out]; rfl, by rw [HR2.out]; exact Z4.out.sl, below_set (X0.out.trans (X2.out.trans X5.out)) (by have := HB1.out; show w.heap.size ≤ b1; omega) _, fun b hb => by have := (Z4.out.low b hb).1; omega⟩
      · go_wp2
        go_ret2
        exact ⟨_, by rw [HR2.out]; rfl, by rw [HR2.out]; exact slNoneU _, X0.out.trans (X2.out.trans X5.out), fun b hb => by simp [Value.ownBlock] at hb⟩
end Go.Proofs.Ytpjpjchnfllcmaa
