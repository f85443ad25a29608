/- Layer 13, the program: what is wrong with a side is told by a closure, side by side; a row of sides asked in order; whether a diner may be. -/
import Derived.Test.YtogbjpipkegecaaU2
import Derived.Test.YtogbjpipkegecaaRegX
import Derived.BigGuard
import Derived.Shelf.Abstract
namespace Go.Proofs.Ytogbjpipkegecaa
open Go.RowKit

theorem side_bits (id last : Int) (s : Sd) : sideD id last s = ((decide (last < s.peer) && (s.peer != id)) && ((decide (0 ≤ s.epoch) && decide (s.epoch ≤ 65535)) && (decide (0 ≤ s.state) && decide (s.state ≤ 3))) && !(s.dirty && !s.fork)) := by
  unfold sideD
  by_cases h : s.peer = id
  · simp [h]
  · have h2 : (s.peer != id) = true := by simp [h]
    rw [h2, decide_eq_true (show s.peer ≠ id from h)]
    simp only [Bool.true_and, Bool.and_true, Bool.and_assoc]

set_option maxRecDepth 100000 in
set_option maxHeartbeats 4000000 in
theorem faults_one (W : World) (g1 g2 : Nat) (la id : Int) (s : Sd) (h1 : W.heap[g1]? = some (.cells #[.int .i64 la] 3 (0, 0))) (h2 : W.heap[g2]? = some (.cells #[.int .i64 id] 3 (0, 0))) (t : Bool) (ht : sideD id la s = t) :
    Calls Try.prog 37 #[.agg s.cs, .pointer (some ⟨g1, 0, none⟩), .pointer (some ⟨g2, 0, none⟩)] W fun e W' => e = .returned (.bool (!t)) ∧ Off (fun k => k = g1) W W' ∧ W'.heap[g1]? = some (.cells #[.int .i64 s.peer] 3 (0, 0)) := by
  rw [side_bits] at ht
  obtain ⟨y0, y1, y2, y3, y4, y5, y6, y7⟩ := s
  unfold Sd.cs
  dsimp only at ht ⊢
  have HT := Lib.hid ht
  have HG1 := Lib.hid h1
  have HG2 := Lib.hid h2
  have hl1 := blk_lt h1
  have hl2 := blk_lt h2
  obtain ⟨W1, hW1⟩ : ∃ W1, W1 = W.alloc (.cells #[.int .i64 y0, .int .i64 y1, .int .i64 y2, .bool y3, .bool y4, .bool y5, .bool y6, .bool y7] 47) := ⟨_, rfl⟩
  have X1 : Hid (Ext W W1) := Lib.hid (hW1 ▸ (Ext.refl W).alloc _)
  have D1 : Hid (W1.heap[W.heap.size]? = some (.cells #[.int .i64 y0, .int .i64 y1, .int .i64 y2, .bool y3, .bool y4, .bool y5, .bool y6, .bool y7] 47 (0, 0))) := Lib.hid (hW1 ▸ at0 W _)
  have HW1 := Lib.hid hW1
  clear ht h1 h2 hW1
  go_enter Try.func37, Try.ntmps37
  go_upto_region 1 with (fail)
  rw [← HW1.out]
  obtain ⟨⟨⟨x0, x1⟩, x2, x3⟩, ⟨x4, x5⟩, x6, x7⟩ := cells8U D1.out
  have k1 := blk_cell (keepU HG1.out X1.out) 0 rfl
  have k2 := blk_cell (keepU HG2.out X1.out) 0 rfl
  go_cut [5] (fun s5 wx => ∃ b, s5 = .bool b ∧ W1 = wx ∧ Hid (b = (decide (la < y0) && (y0 != id))))
  case first =>
    by_cases e1 : la < y0
    · by_cases e2 : y0 = id
      · have t2 : (y0 != id) = false := by simp [e2]
        have HB : Hid (false = (decide (la < y0) && (y0 != id))) := Lib.hid (by rw [t2, Bool.and_false])
        clear e2
        go_wp2_with fail
        go_meet
        exact ⟨_, rfl, rfl, HB⟩
      · have t2 : (y0 != id) = true := by simp [e2]
        have HB : Hid (true = (decide (la < y0) && (y0 != id))) := Lib.hid (by rw [t2, decide_eq_true e1]; rfl)
        clear e2
        go_wp2_with fail
        go_meet
        exact ⟨_, rfl, rfl, HB⟩
    · have HB : Hid (false = (decide (la < y0) && (y0 != id))) := Lib.hid (by rw [decide_eq_false e1]; rfl)
      go_wp2_with fail
      go_meet
      exact ⟨_, rfl, rfl, HB⟩
  case rest =>
    obtain ⟨b5, rfl, rfl, HB5⟩ := hcut
    have fr := blk_free (keepU HG1.out X1.out) 0
    go_upto_region 3 with (fail)
    obtain ⟨W2, hW2⟩ : ∃ W2, W2 = W1.setCell ⟨g1, 0, none⟩ (.int .i64 y0) := ⟨_, rfl⟩
    rw [← hW2]
    have d2 : W2.heap[W.heap.size]? = some (.cells #[.int .i64 y0, .int .i64 y1, .int .i64 y2, .bool y3, .bool y4, .bool y5, .bool y6, .bool y7] 47 (0, 0)) := by rw [hW2, set_other _ _ _ _ (by show W.heap.size ≠ g1; omega)]; exact D1.out
    have G2 : Hid (W2.heap[g1]? = some (.cells #[.int .i64 y0] 3 (0, 0))) := Lib.hid (by rw [hW2, blk_set (keepU HG1.out X1.out)]; rfl)
    have O2 : Hid (Off (fun k => k = g1) W W2) := Lib.hid (hW2 ▸ (Off.of_ext X1.out).trans (off_set W1 ⟨g1, 0, none⟩ _) (Grows.refl _ _))
    clear hW2 x0 x1 x2 x3 x4 x5 x6 x7 k1 k2 fr
    obtain ⟨⟨⟨x0, x1⟩, x2, x3⟩, ⟨x4, x5⟩, x6, x7⟩ := cells8U d2
    clear d2
    go_cut [6] (fun s6 wx => ∃ b, s6 = .bool b ∧ W2 = wx ∧ Hid (b = ((decide (0 ≤ y1) && decide (y1 ≤ 65535)) && (decide (0 ≤ y2) && decide (y2 ≤ 3)))))
    case first =>
      by_cases e1 : 0 ≤ y1
      · by_cases e2 : y1 ≤ 65535
        · by_cases e3 : 0 ≤ y2
          · by_cases e4 : y2 ≤ 3
            · have HB : Hid (true = ((decide (0 ≤ y1) && decide (y1 ≤ 65535)) && (decide (0 ≤ y2) && decide (y2 ≤ 3)))) := Lib.hid (by rw [decide_eq_true e1, decide_eq_true e2, decide_eq_true e3, decide_eq_true e4]; rfl)
              go_wp2_with fail
              go_meet
              exact ⟨_, rfl, rfl, HB⟩
            · have HB : Hid (false = ((decide (0 ≤ y1) && decide (y1 ≤ 65535)) && (decide (0 ≤ y2) && decide (y2 ≤ 3)))) := Lib.hid (by rw [decide_eq_false e4]; simp)
              go_wp2_with fail
              go_meet
              exact ⟨_, rfl, rfl, HB⟩
          · have HB : Hid (false = ((decide (0 ≤ y1) && decide (y1 ≤ 65535)) && (decide (0 ≤ y2) && decide (y2 ≤ 3)))) := Lib.hid (by rw [decide_eq_false e3]; simp)
            go_wp2_with fail
            go_meet
            exact ⟨_, rfl, rfl, HB⟩
        · have HB : Hid (false = ((decide (0 ≤ y1) && decide (y1 ≤ 65535)) && (decide (0 ≤ y2) && decide (y2 ≤ 3)))) := Lib.hid (by rw [decide_eq_false e2]; simp)
          go_wp2_with fail
          go_meet
          exact ⟨_, rfl, rfl, HB⟩
      · have HB : Hid (false = ((decide (0 ≤ y1) && decide (y1 ≤ 65535)) && (decide (0 ≤ y2) && decide (y2 ≤ 3)))) := Lib.hid (by rw [decide_eq_false e1]; simp)
        go_wp2_with fail
        go_meet
        exact ⟨_, rfl, rfl, HB⟩
    case rest =>
      obtain ⟨b6, rfl, rfl, HB6⟩ := hcut
      have HF : Hid (t = (b5 && b6 && !(y4 && !y3))) := Lib.hid (by rw [← HT.out, HB5.out, HB6.out])
      clear HT HB5 HB6
      cases b5
      · go_wp2
        go_ret
        exact ⟨ret_bool (by rw [HF.out]; rfl), O2.out, G2.out⟩
      cases b6
      · go_wp2
        go_ret
        exact ⟨ret_bool (by rw [HF.out]; rfl), O2.out, G2.out⟩
      cases y4
      · go_wp2
        go_ret
        exact ⟨ret_bool (by rw [HF.out]; rfl), O2.out, G2.out⟩
      cases y3
      · go_wp2
        go_ret
        exact ⟨ret_bool (by rw [HF.out]; rfl), O2.out, G2.out⟩
      · go_wp2
        go_ret
        exact ⟨ret_bool (by rw [HF.out]; rfl), O2.out, G2.out⟩

set_option maxHeartbeats 1000000 in
theorem faults_any (W : World) (id : Int) : Calls Try.prog 28 #[.int .i64 id] W fun e W' => ∃ g1 g2, e = .returned (.func (.func 37) #[] #[.pointer (some ⟨g1, 0, none⟩), .pointer (some ⟨g2, 0, none⟩)]) ∧ W'.heap[g1]? = some (.cells #[.int .i64 (-1)] 3 (0, 0)) ∧ W'.heap[g2]? = some (.cells #[.int .i64 id] 3 (0, 0)) ∧ g1 ≠ g2 ∧ W.heap.size ≤ g1 ∧ Ext W W' := by
  have hmf : ∀ (fn : Fn) (first cap : Array Value) (w : World), (Instr.makeFunc fn first cap).run Try.prog w = .ok (.func fn first cap) w := fun _ _ _ _ => rfl
  have q2 := at1 W (.cells #[.int .i64 id] 3) (.cells #[.int .i64 0] 3)
  have f2 := blk_free q2 0
  clear q2
  go_enter Try.func28, Try.ntmps28
  go_wp2
  go_ret
  exact ⟨_, _, rfl, at1 W _ _, old1 (at0 W _) _, by omega, by omega, ((Ext.refl W).alloc _).alloc _⟩

/-- the first one of a row that p is true of -/
def FirstAt (p : Nat → Sd → Bool) (L : List Sd) (r : Int) : Prop := (r = -1 ∧ ∀ k s, L[k]? = some s → p k s = false) ∨ ∃ (k : Nat) (s : Sd), r = (k : Int) ∧ L[k]? = some s ∧ p k s = true ∧ ∀ (j : Nat) (u : Sd), j < k → L[j]? = some u → p j u = false

set_option maxHeartbeats 1000000 in
theorem indexFunc_sd (w : World) (v : Value) (L : List Sd) (g : FuncId) (lb : Array Value) (I : Nat → World → Prop) (p : Nat → Sd → Bool) (eg : ∀ args w, (callFunc g args).run Try.prog w = .ok (.enter g args) w)
    (hI : ∀ k W, I k W → Sl W v L) (hs : ∀ k s W, L[k]? = some s → I k W → Calls Try.prog g (#[.agg s.cs] ++ lb) W fun e W' => e = .returned (.bool (p k s)) ∧ I (k + 1) W') (h0 : I 0 w) :
    Calls Try.prog 31 #[v, .func (.func g) #[] lb] w fun e w' => ∃ r : Int, e = .returned (.int .i64 r) ∧ FirstAt p L r ∧ ∃ k, I k w' := by
  obtain ⟨ao, c, rfl⟩ := (hI 0 w h0).len
  have hlen := (hI 0 w h0).length_le
  have HI := Lib.hid hI
  have HS := Lib.hid hs
  have H0 := Lib.hid h0
  clear hI hs h0
  go_enter Try.func31, Try.ntmps31
  go_wp2
  go_loopw [8] (fun i wr => ∃ k : Nat, k ≤ L.length ∧ i = .int .i64 k ∧ Hid (∀ (j : Nat) (u : Sd), j < k → L[j]? = some u → p j u = false) ∧ Hid (I k wr)) (fun i _ => L.length - (intOf i).toNat)
  case atStart => exact ⟨0, Nat.zero_le _, rfl, Lib.hid (fun j u hj => by omega), H0⟩
  case round =>
    obtain ⟨k, hk, rfl, HT, HX⟩ := hrel
    by_cases hlt : k < L.length
    · obtain ⟨b, off, y, _, hyk, rfl, hn, hnc, hc63, hb, hcell⟩ := (HI.out k wr HX.out).sidesAt hlt
      obtain ⟨⟨⟨x0, x1⟩, x2, x3⟩, ⟨x4, x5⟩, x6, x7⟩ := hcell wr (Ext.refl _)
      have HY := Lib.hid hyk
      obtain ⟨s, hs⟩ : ∃ s, p k y = s := ⟨_, rfl⟩
      have HH := Lib.hid (hs ▸ HS.out k y wr hyk HX.out)
      have HP := Lib.hid hs
      clear hs hcell hyk hn
      obtain ⟨y0, y1, y2, y3, y4, y5, y6, y7⟩ := y
      unfold Sd.cs at HH
      dsimp only at HH x0 x1 x2 x3 x4 x5 x6 x7
      cases s
      · go_wp2_with (go_at_fn g; refine HH.out.mono ?_; rintro e w1 ⟨rfl, hx⟩; have HX1 := Lib.hid hx; clear hx)
        go_roundw
        case rel => exact ⟨k + 1, by omega, by go_num, Lib.hid (fun j u hj hu => by
          rcases Nat.lt_or_ge j k with h | h
          · exact HT.out j u h hu
          · obtain rfl : j = k := by omega
            have := HY.out.symm.trans hu
            simp only [Option.some.injEq] at this
            rw [← this]; exact HP.out), HX1⟩
        case measure => simp [intOf]; omega
      · go_wp2_with (go_at_fn g; refine HH.out.mono ?_; rintro e w1 ⟨rfl, hx⟩; have HX1 := Lib.hid hx; clear hx)
        go_ret
        exact ⟨_, rfl, .inr ⟨k, _, rfl, HY.out, HP.out, HT.out⟩, k + 1, HX1.out⟩
    · have hkl : k = L.length := by omega
      go_wp2
      go_ret
      exact ⟨_, rfl, .inl ⟨rfl, fun j u hu => HT.out j u (by have := (List.getElem?_eq_some_iff.1 hu).1; omega) hu⟩, k, HX.out⟩

set_option maxHeartbeats 1000000 in
theorem containsFunc_sd (w : World) (v : Value) (L : List Sd) (g : FuncId) (lb : Array Value) (I : Nat → World → Prop) (p : Nat → Sd → Bool) (eg : ∀ args w, (callFunc g args).run Try.prog w = .ok (.enter g args) w)
    (hI : ∀ k W, I k W → Sl W v L) (hs : ∀ k s W, L[k]? = some s → I k W → Calls Try.prog g (#[.agg s.cs] ++ lb) W fun e W' => e = .returned (.bool (p k s)) ∧ I (k + 1) W') (h0 : I 0 w)
    (t : Bool) (h1 : (∀ k s, L[k]? = some s → p k s = false) → t = false) (h2 : ∀ (k : Nat) (s : Sd), L[k]? = some s → p k s = true → (∀ (j : Nat) (u : Sd), j < k → L[j]? = some u → p j u = false) → t = true) :
    Calls Try.prog 27 #[v, .func (.func g) #[] lb] w fun e w' => e = .returned (.bool t) ∧ ∃ k, I k w' := by
  have HC := Lib.hid (indexFunc_sd w v L g lb I p eg hI hs h0)
  have H1 := Lib.hid h1
  have H2 := Lib.hid h2
  clear hI hs h0 h1 h2 eg
  go_enter Try.func27, Try.ntmps27
  go_wp2_with (go_at_call 31; refine HC.out.mono ?_; rintro e w1 ⟨r, rfl, hr, hx⟩; have HR := Lib.hid hr; have HX := Lib.hid hx; clear hr hx)
  go_ret
  refine ⟨ret_bool ?_, HX.out⟩
  rcases HR.out with ⟨e, h⟩ | ⟨k, s, e, ha, hb, hc⟩
  · rw [H1.out h, e]; rfl
  · rw [H2.out k s ha hb hc, e]; simp

end Go.Proofs.Ytogbjpipkegecaa
