/- Layer 13, the program: what is wrong with a side is told by a closure, side by side; a row of sides asked in order; whether a diner may be. -/
import Derived.Test.YtpjpjchnfllcmaaMU1
import Derived.Test.YtpjpjchnfllcmaaME
import Derived.BigGuard
import Derived.Shelf.Abstract
import Derived.Test.YtpjpjchnfllcmaaMU3
import Derived.Lib.SliceRun
namespace Go.Proofs.Ytpjpjchnfllcmaa
open Go.RowKit

theorem side_bits (id last : Int) (s : Sd) : sideD id last s = ((decide (last < s.peer) && (s.peer != id)) && ((decide (0 ≤ s.epoch) && decide (s.epoch ≤ 65535)) && (decide (0 ≤ s.state) && decide (s.state ≤ 3))) && !(s.dirty && !s.fork)) := by
  unfold sideD
  by_cases h : s.peer = id
  · simp [h]
  · have h2 : (s.peer != id) = true := by simp [h]
    rw [h2, decide_eq_true (show s.peer ≠ id from h)]
    simp only [Bool.true_and, Bool.and_true, Bool.and_assoc]

set_option maxRecDepth 100000 in
set_option maxHeartbeats 4000000 in
theorem faults_one (W : World) (g1 g2 : Nat) (la id : Int) (s : Sd) (h1 : W.heap[g1]? = some (.cells #[.int .i64 la] 3 (0, 0))) (h2 : W.heap[g2]? = some (.cells #[.int .i64 id] 3 (0, 0))) (t : Bool) (ht : sideD id la s = t) :
    Calls Try.prog 81 #[.agg s.cs, .pointer (some ⟨g1, 0, none⟩), .pointer (some ⟨g2, 0, none⟩)] W fun e W' => e = .returned (.bool (!t)) ∧ Off (fun k => k = g1) W W' ∧ W'.heap[g1]? = some (.cells #[.int .i64 s.peer] 3 (0, 0)) := by
  rw [side_bits] at ht
  obtain ⟨y0, y1, y2, y3, y4, y5, y6, y7⟩ := s
  unfold Sd.cs
  dsimp only at ht ⊢
  have HT := Lib.hid ht
  have HG1 := Lib.hid h1
  have HG2 := Lib.hid h2
  have hl1 := blk_lt h1
  have hl2 := blk_lt h2
  obtain ⟨W1, hW1⟩ : ∃ W1, W1 = W.alloc (.cells #[.int .i64 y0, .int .i64 y1, .int .i64 y2, .bool y3, .bool y4, .bool y5, .bool y6, .bool y7] 53) := ⟨_, rfl⟩
  have X1 : Hid (Ext W W1) := Lib.hid (hW1 ▸ (Ext.refl W).alloc _)
  have D1 : Hid (W1.heap[W.heap.size]? = some (.cells #[.int .i64 y0, .int .i64 y1, .int .i64 y2, .bool y3, .bool y4, .bool y5, .bool y6, .bool y7] 53 (0, 0))) := Lib.hid (hW1 ▸ at0 W _)
  have HW1 := Lib.hid hW1
  clear ht h1 h2 hW1
  go_enter Try.func81, Try.ntmps81
  go_upto_region 1 with (fail)
  rw [← HW1.out]
  obtain ⟨⟨⟨x0, x1⟩, x2, x3⟩, ⟨x4, x5⟩, x6, x7⟩ := cells8U D1.out
  have k1 := blk_cell (keepU HG1.out X1.out) 0 rfl
  have k2 := blk_cell (keepU HG2.out X1.out) 0 rfl
  go_cut [5] (fun s5 wx => ∃ b, s5 = .bool b ∧ W1 = wx ∧ Hid (b = (decide (la < y0) && (y0 != id))))
  case first =>
    by_cases e1 : la < y0
    · by_cases e2 : y0 = id
      · have t2 : (y0 != id) = false := by simp [e2]
        have HB : Hid (false = (decide (la < y0) && (y0 != id))) := Lib.hid (by rw [t2, Bool.and_false])
        clear e2
        go_wp2_with fail
        go_meet
        exact ⟨_, rfl, rfl, HB⟩
      · have t2 : (y0 != id) = true := by simp [e2]
        have HB : Hid (true = (decide (la < y0) && (y0 != id))) := Lib.hid (by rw [t2, decide_eq_true e1]; rfl)
        clear e2
        go_wp2_with fail
        go_meet
        exact ⟨_, rfl, rfl, HB⟩
    · have HB : Hid (false = (decide (la < y0) && (y0 != id))) := Lib.hid (by rw [decide_eq_false e1]; rfl)
      go_wp2_with fail
      go_meet
      exact ⟨_, rfl, rfl, HB⟩
  case rest =>
    obtain ⟨b5, rfl, rfl, HB5⟩ := hcut
    have fr := blk_free (keepU HG1.out X1.out) 0
    go_upto_region 3 with (fail)
    obtain ⟨W2, hW2⟩ : ∃ W2, W2 = W1.setCell ⟨g1, 0, none⟩ (.int .i64 y0) := ⟨_, rfl⟩
    rw [← hW2]
    have d2 : W2.heap[W.heap.size]? = some (.cells #[.int .i64 y0, .int .i64 y1, .int .i64 y2, .bool y3, .bool y4, .bool y5, .bool y6, .bool y7] 53 (0, 0)) := by rw [hW2, set_other _ _ _ _ (by show W.heap.size ≠ g1; omega)]; exact D1.out
    have G2 : Hid (W2.heap[g1]? = some (.cells #[.int .i64 y0] 3 (0, 0))) := Lib.hid (by rw [hW2, blk_set (keepU HG1.out X1.out)]; rfl)
    have O2 : Hid (Off (fun k => k = g1) W W2) := Lib.hid (hW2 ▸ (Off.of_ext X1.out).trans (off_set W1 ⟨g1, 0, none⟩ _) (Grows.refl _ _))
    clear hW2 x0 x1 x2 x3 x4 x5 x6 x7 k1 k2 fr
    obtain ⟨⟨⟨x0, x1⟩, x2, x3⟩, ⟨x4, x5⟩, x6, x7⟩ := cells8U d2
    clear d2
    go_cut [6] (fun s6 wx => ∃ b, s6 = .bool b ∧ W2 = wx ∧ Hid (b = ((decide (0 ≤ y1) && decide (y1 ≤ 65535)) && (decide (0 ≤ y2) && decide (y2 ≤ 3)))))
    case first =>
      by_cases e1 : 0 ≤ y1
      · by_cases e2 : y1 ≤ 65535
        · by_cases e3 : 0 ≤ y2
          · by_cases e4 : y2 ≤ 3
            · have HB : Hid (true = ((decide (0 ≤ y1) && decide (y1 ≤ 65535)) && (decide (0 ≤ y2) && decide (y2 ≤ 3)))) := Lib.hid (by rw [decide_eq_true e1, decide_eq_true e2, decide_eq_true e3, decide_eq_true e4]; rfl)
              go_wp2_with fail
              go_meet
              exact ⟨_, rfl, rfl, HB⟩
            · have HB : Hid (false = ((decide (0 ≤ y1) && decide (y1 ≤ 65535)) && (decide (0 ≤ y2) && decide (y2 ≤ 3)))) := Lib.hid (by rw [decide_eq_false e4]; simp)
              go_wp2_with fail
              go_meet
              exact ⟨_, rfl, rfl, HB⟩
          · have HB : Hid (false = ((decide (0 ≤ y1) && decide (y1 ≤ 65535)) && (decide (0 ≤ y2) && decide (y2 ≤ 3)))) := Lib.hid (by rw [decide_eq_false e3]; simp)
            go_wp2_with fail
            go_meet
            exact ⟨_, rfl, rfl, HB⟩
        · have HB : Hid (false = ((decide (0 ≤ y1) && decide (y1 ≤ 65535)) && (decide (0 ≤ y2) && decide (y2 ≤ 3)))) := Lib.hid (by rw [decide_eq_false e2]; simp)
          go_wp2_with fail
          go_meet
          exact ⟨_, rfl, rfl, HB⟩
      · have HB : Hid (false = ((decide (0 ≤ y1) && decide (y1 ≤ 65535)) && (decide (0 ≤ y2) && decide (y2 ≤ 3)))) := Lib.hid (by rw [decide_eq_false e1]; simp)
        go_wp2_with fail
        go_meet
        exact ⟨_, rfl, rfl, HB⟩
    case rest =>
      obtain ⟨b6, rfl, rfl, HB6⟩ := hcut
      have HF : Hid (t = (b5 && b6 && !(y4 && !y3))) := Lib.hid (by rw [← HT.out, HB5.out, HB6.out])
      clear HT HB5 HB6
      cases b5
      · go_wp2
        go_ret
        exact ⟨ret_bool (by rw [HF.out]; rfl), O2.out, G2.out⟩
      cases b6
      · go_wp2
        go_ret
        exact ⟨ret_bool (by rw [HF.out]; rfl), O2.out, G2.out⟩
      cases y4
      · go_wp2
        go_ret
        exact ⟨ret_bool (by rw [HF.out]; rfl), O2.out, G2.out⟩
      cases y3
      · go_wp2
        go_ret
        exact ⟨ret_bool (by rw [HF.out]; rfl), O2.out, G2.out⟩
      · go_wp2
        go_ret
        exact ⟨ret_bool (by rw [HF.out]; rfl), O2.out, G2.out⟩

set_option maxHeartbeats 1000000 in
theorem faults_any (W : World) (id : Int) : Calls Try.prog 63 #[.int .i64 id] W fun e W' => ∃ g1 g2, e = .returned (.func (.func 81) #[] #[.pointer (some ⟨g1, 0, none⟩), .pointer (some ⟨g2, 0, none⟩)]) ∧ W'.heap[g1]? = some (.cells #[.int .i64 (-1)] 3 (0, 0)) ∧ W'.heap[g2]? = some (.cells #[.int .i64 id] 3 (0, 0)) ∧ g1 ≠ g2 ∧ W.heap.size ≤ g1 ∧ Ext W W' := by
  have hmf : ∀ (fn : Fn) (first cap : Array Value) (w : World), (Instr.makeFunc fn first cap).run Try.prog w = .ok (.func fn first cap) w := fun _ _ _ _ => rfl
  have q2 := at1 W (.cells #[.int .i64 id] 3) (.cells #[.int .i64 0] 3)
  have f2 := blk_free q2 0
  clear q2
  go_enter Try.func63, Try.ntmps63
  go_wp2
  go_ret
  exact ⟨_, _, rfl, at1 W _ _, old1 (at0 W _) _, by omega, by omega, ((Ext.refl W).alloc _).alloc _⟩

/-- the first one of a row that p is true of -/
def FirstAt (p : Nat → Sd → Bool) (L : List Sd) (r : Int) : Prop := (r = -1 ∧ ∀ k s, L[k]? = some s → p k s = false) ∨ ∃ (k : Nat) (s : Sd), r = (k : Int) ∧ L[k]? = some s ∧ p k s = true ∧ ∀ (j : Nat) (u : Sd), j < k → L[j]? = some u → p j u = false

set_option maxHeartbeats 1000000 in
theorem indexFunc_sd (w : World) (v : Value) (L : List Sd) (g : FuncId) (lb : Array Value) (I : Nat → World → Prop) (p : Nat → Sd → Bool) (eg : ∀ args w, (callFunc g args).run Try.prog w = .ok (.enter g args) w)
    (hI : ∀ k W, I k W → Sl W v L) (hs : ∀ k s W, L[k]? = some s → I k W → Calls Try.prog g (#[.agg s.cs] ++ lb) W fun e W' => e = .returned (.bool (p k s)) ∧ I (k + 1) W') (h0 : I 0 w) :
    Calls Try.prog 67 #[v, .func (.func g) #[] lb] w fun e w' => ∃ r : Int, e = .returned (.int .i64 r) ∧ FirstAt p L r ∧ ∃ k, I k w' := by
  obtain ⟨ao, c, rfl⟩ := (hI 0 w h0).len
  have hlen := (hI 0 w h0).length_le
  have HI := Lib.hid hI
  have HS := Lib.hid hs
  have H0 := Lib.hid h0
  clear hI hs h0
  go_enter Try.func67, Try.ntmps67
  go_wp2
  go_loopw [8] (fun i wr => ∃ k : Nat, k ≤ L.length ∧ i = .int .i64 k ∧ Hid (∀ (j : Nat) (u : Sd), j < k → L[j]? = some u → p j u = false) ∧ Hid (I k wr)) (fun i _ => L.length - (intOf i).toNat)
  case atStart => exact ⟨0, Nat.zero_le _, rfl, Lib.hid (fun j u hj => by omega), H0⟩
  case round =>
    obtain ⟨k, hk, rfl, HT, HX⟩ := hrel
    by_cases hlt : k < L.length
    · obtain ⟨b, off, y, _, hyk, rfl, hn, hnc, hc63, hb, hcell⟩ := (HI.out k wr HX.out).sidesAt hlt
      obtain ⟨⟨⟨x0, x1⟩, x2, x3⟩, ⟨x4, x5⟩, x6, x7⟩ := hcell wr (Ext.refl _)
      have HY := Lib.hid hyk
      obtain ⟨s, hs⟩ : ∃ s, p k y = s := ⟨_, rfl⟩
      have HH := Lib.hid (hs ▸ HS.out k y wr hyk HX.out)
      have HP := Lib.hid hs
      clear hs hcell hyk hn
      obtain ⟨y0, y1, y2, y3, y4, y5, y6, y7⟩ := y
      unfold Sd.cs at HH
      dsimp only at HH x0 x1 x2 x3 x4 x5 x6 x7
      cases s
      · go_wp2_with (go_at_fn g; refine HH.out.mono ?_; rintro e w1 ⟨rfl, hx⟩; have HX1 := Lib.hid hx; clear hx)
        go_roundw
        case rel => exact ⟨k + 1, by omega, by go_num, Lib.hid (fun j u hj hu => by
          rcases Nat.lt_or_ge j k with h | h
          · exact HT.out j u h hu
          · obtain rfl : j = k := by omega
            have := HY.out.symm.trans hu
            simp only [Option.some.injEq] at this
            rw [← this]; exact HP.out), HX1⟩
        case measure => simp [intOf]; omega
      · go_wp2_with (go_at_fn g; refine HH.out.mono ?_; rintro e w1 ⟨rfl, hx⟩; have HX1 := Lib.hid hx; clear hx)
        go_ret
        exact ⟨_, rfl, .inr ⟨k, _, rfl, HY.out, HP.out, HT.out⟩, k + 1, HX1.out⟩
    · have hkl : k = L.length := by omega
      go_wp2
      go_ret
      exact ⟨_, rfl, .inl ⟨rfl, fun j u hu => HT.out j u (by have := (List.getElem?_eq_some_iff.1 hu).1; omega) hu⟩, k, HX.out⟩

set_option maxHeartbeats 1000000 in
theorem containsFunc_sd (w : World) (v : Value) (L : List Sd) (g : FuncId) (lb : Array Value) (I : Nat → World → Prop) (p : Nat → Sd → Bool) (eg : ∀ args w, (callFunc g args).run Try.prog w = .ok (.enter g args) w)
    (hI : ∀ k W, I k W → Sl W v L) (hs : ∀ k s W, L[k]? = some s → I k W → Calls Try.prog g (#[.agg s.cs] ++ lb) W fun e W' => e = .returned (.bool (p k s)) ∧ I (k + 1) W') (h0 : I 0 w)
    (t : Bool) (h1 : (∀ k s, L[k]? = some s → p k s = false) → t = false) (h2 : ∀ (k : Nat) (s : Sd), L[k]? = some s → p k s = true → (∀ (j : Nat) (u : Sd), j < k → L[j]? = some u → p j u = false) → t = true) :
    Calls Try.prog 58 #[v, .func (.func g) #[] lb] w fun e w' => e = .returned (.bool t) ∧ ∃ k, I k w' := by
  have HC := Lib.hid (indexFunc_sd w v L g lb I p eg hI hs h0)
  have H1 := Lib.hid h1
  have H2 := Lib.hid h2
  clear hI hs h0 h1 h2 eg
  go_enter Try.func58, Try.ntmps58
  go_wp2_with (go_at_call 67; refine HC.out.mono ?_; rintro e w1 ⟨r, rfl, hr, hx⟩; have HR := Lib.hid hr; have HX := Lib.hid hx; clear hr hx)
  go_ret
  refine ⟨ret_bool ?_, HX.out⟩
  rcases HR.out with ⟨e, h⟩ | ⟨k, s, e, ha, hb, hc⟩
  · rw [H1.out h, e]; rfl
  · rw [H2.out k s ha hb hc, e]; simp

end Go.Proofs.Ytpjpjchnfllcmaa

/- Layer 13, the program: whether a diner may be; a row of sides of one's own; who is hungry, who stops. -/
namespace Go.Proofs.Ytpjpjchnfllcmaa
open Go.RowKit

theorem sides_good (id : Int) : ∀ (L : List Sd) (last : Int), (∀ k s, L[k]? = some s → sideD id (lastD last (L.take k)) s = true) → sidesD id last L = true
  | [], _, _ => rfl
  | t :: L, last, h => by
    show (sideD id last t && sidesD id t.peer L) = true
    have h0 : sideD id last t = true := h 0 t rfl
    rw [h0, Bool.true_and]
    exact sides_good id L t.peer fun k s hk => h (k + 1) s hk
theorem sides_bad (id : Int) : ∀ (L : List Sd) (last : Int) (k : Nat) (s : Sd), L[k]? = some s → sideD id (lastD last (L.take k)) s = false → sidesD id last L = false
  | [], _, _, _, h, _ => by simp at h
  | t :: L, last, 0, s, h, hb => by
    obtain rfl : t = s := by simpa using h
    show (sideD id last t && sidesD id t.peer L) = false
    have hb : sideD id last t = false := hb
    rw [hb]; rfl
  | t :: L, last, k + 1, s, h, hb => by
    show (sideD id last t && sidesD id t.peer L) = false
    rw [sides_bad id L t.peer k s h hb, Bool.and_false]
theorem lastD_next {L : List Sd} {k : Nat} {s : Sd} (last : Int) (h : L[k]? = some s) : lastD last (L.take (k + 1)) = s.peer := by
  have hk := (List.getElem?_eq_some_iff.1 h).1
  rw [List.take_succ_eq_append_getElem hk, (List.getElem?_eq_some_iff.1 h).2, lastD_app]
theorem head_bits (id ph : Int) (L : List Sd) : headD ⟨id, ph, L⟩ = (decide (0 ≤ id) && decide (0 ≤ ph) && decide (ph ≤ 2) && decide ((L.length : Int) < 64)) := by
  unfold headD
  by_cases h1 : 0 ≤ id
  · rw [decide_eq_true h1, Bool.true_and, Bool.true_and]
    by_cases h2 : 0 ≤ ph
    · by_cases h3 : ph ≤ 2
      · have h4 : (decide (ph = 0) || decide (ph = 1) || decide (ph = 2)) = true := by
          simp only [Bool.or_eq_true, decide_eq_true_eq]; omega
        rw [h4, decide_eq_true h2, decide_eq_true h3]
        by_cases h5 : L.length ≤ 63
        · rw [decide_eq_true h5, decide_eq_true (show (L.length : Int) < 64 by omega)]; rfl
        · rw [decide_eq_false h5, decide_eq_false (show ¬ (L.length : Int) < 64 by omega)]; rfl
      · have h4 : (decide (ph = 0) || decide (ph = 1) || decide (ph = 2)) = false := by
          simp only [Bool.or_eq_false_iff, decide_eq_false_iff_not]; omega
        rw [h4, decide_eq_false h3]; simp
    · have h4 : (decide (ph = 0) || decide (ph = 1) || decide (ph = 2)) = false := by
        simp only [Bool.or_eq_false_iff, decide_eq_false_iff_not]; omega
      rw [h4, decide_eq_false h2]; simp
  · rw [decide_eq_false h1]; simp

/-- while a row's sides are asked -/
structure AskS (w : World) (g1 g2 : Nat) (id : Int) (L : List Sd) (k : Nat) (V : World) : Prop where
  off : Off (fun b => b = g1) w V
  last : V.heap[g1]? = some (.cells #[.int .i64 (lastD (-1) (L.take k))] 3 (0, 0))
theorem contains_faults (w : World) (v : Value) (L : List Sd) (g1 g2 : Nat) (id : Int) (h : Sl w v L) (hv : L = [] ∨ ∀ b, v.ownBlock = some b → b ≠ g1) (h1 : w.heap[g1]? = some (.cells #[.int .i64 (-1)] 3 (0, 0))) (h2 : w.heap[g2]? = some (.cells #[.int .i64 id] 3 (0, 0))) (hne : g1 ≠ g2) (t : Bool) (ht : sidesD id (-1) L = t) :
    Calls Try.prog 58 #[v, .func (.func 81) #[] #[.pointer (some ⟨g1, 0, none⟩), .pointer (some ⟨g2, 0, none⟩)]] w fun e w' => e = .returned (.bool (!t)) ∧ Off (fun b => b = g1) w w' := by
  refine (containsFunc_sd w v L 81 #[.pointer (some ⟨g1, 0, none⟩), .pointer (some ⟨g2, 0, none⟩)] (AskS w g1 g2 id L) (fun k s => !(sideD id (lastD (-1) (L.take k)) s)) (enters_of Try.func81 (by kernel_rfl) rfl) ?_ ?_ ⟨Off.refl _ _, h1⟩ (!t) ?_ ?_).mono ?_
  · exact fun k W hW => h.off (hv.imp (fun h => h) fun h b hb => h b hb) hW.off
  · intro k s W hk hW
    refine (faults_one W g1 g2 _ id s hW.last (hW.off.blk h2 (fun e => hne e.symm)) _ rfl).mono ?_
    rintro e W' ⟨rfl, ho, hl⟩
    exact ⟨rfl, hW.off.trans ho (Grows.refl _ _), by rw [lastD_next (-1) hk]; exact hl⟩
  · intro hall
    have : sidesD id (-1) L = true := sides_good id L (-1) fun k s hk => by have := hall k s hk; simpa using this
    rw [← ht, this]; rfl
  · intro k s hk hp _
    have : sidesD id (-1) L = false := sides_bad id L (-1) k s hk (by simpa using hp)
    rw [← ht, this]; rfl
  · rintro e w' ⟨rfl, k, hk⟩
    exact ⟨rfl, hk.off⟩

set_option maxRecDepth 100000 in
set_option maxHeartbeats 4000000 in
theorem dCheck_any (w : World) (id ph : Int) (v : Value) (L : List Sd) (h : Sl w v L) (t : Bool) (ht : dnOk ⟨id, ph, L⟩ = t) :
    Calls Try.prog 41 #[.agg #[.int .i64 id, .int .i64 ph, v]] w fun e w' => e = .returned (.int .i64 (cond t 0 130)) ∧ Ext w w' := by
  obtain ⟨ao, c, rfl⟩ := h.len
  have hlen := h.length_le
  obtain ⟨W1, hW1⟩ : ∃ W1, W1 = w.alloc (.cells #[.int .i64 id, .int .i64 ph, .slice ao L.length c] 25) := ⟨_, rfl⟩
  have X1 : Hid (Ext w W1) := Lib.hid (hW1 ▸ (Ext.refl w).alloc _)
  have D1 : Hid (W1.heap[w.heap.size]? = some (.cells #[.int .i64 id, .int .i64 ph, .slice ao L.length c] 25 (0, 0))) := Lib.hid (hW1 ▸ at0 w _)
  have HS : Hid (Sl W1 (.slice ao L.length c) L) := Lib.hid (h.ext X1.out)
  have HLW : Hid (L = [] ∨ ∀ b, (Value.slice ao L.length c).ownBlock = some b → b < w.heap.size) := Lib.hid h.low
  have hs1 : W1.heap.size = w.heap.size + 1 := by rw [hW1, size_alloc]
  have HW1 := Lib.hid hW1
  have HT := Lib.hid ht
  clear h ht hW1
  go_enter Try.func41, Try.ntmps41
  go_upto_region 1 with (fail)
  rw [← HW1.out]
  have d0 := blk_cell D1.out 0 rfl
  have d1 := blk_cell D1.out 1 rfl
  have d2 := blk_cell D1.out 2 rfl
  go_cut [3] (fun s3 wx => ∃ b, s3 = .bool b ∧ W1 = wx ∧ Hid (b = headD ⟨id, ph, L⟩))
  case first =>
    by_cases e1 : 0 ≤ id
    · by_cases e2 : 0 ≤ ph
      · by_cases e3 : ph ≤ 2
        · by_cases e4 : (L.length : Int) < 64
          · have HB : Hid (true = headD ⟨id, ph, L⟩) := Lib.hid (by rw [head_bits, decide_eq_true e1, decide_eq_true e2, decide_eq_true e3, decide_eq_true e4]; rfl)
            go_wp2_with fail
            go_meet
            exact ⟨_, rfl, rfl, HB⟩
          · have HB : Hid (false = headD ⟨id, ph, L⟩) := Lib.hid (by rw [head_bits, decide_eq_false e4]; simp)
            go_wp2_with fail
            go_meet
            exact ⟨_, rfl, rfl, HB⟩
        · have HB : Hid (false = headD ⟨id, ph, L⟩) := Lib.hid (by rw [head_bits, decide_eq_false e3]; simp)
          go_wp2_with fail
          go_meet
          exact ⟨_, rfl, rfl, HB⟩
      · have HB : Hid (false = headD ⟨id, ph, L⟩) := Lib.hid (by rw [head_bits, decide_eq_false e2]; simp)
        go_wp2_with fail
        go_meet
        exact ⟨_, rfl, rfl, HB⟩
    · have HB : Hid (false = headD ⟨id, ph, L⟩) := Lib.hid (by rw [head_bits, decide_eq_false e1]; simp)
      go_wp2_with fail
      go_meet
      exact ⟨_, rfl, rfl, HB⟩
  case rest =>
    obtain ⟨b, rfl, rfl, HB⟩ := hcut
    clear d0 d1 d2
    cases b
    · have HF : Hid (130 = cond t 0 (130 : Int)) := Lib.hid (by
        have : dnOk ⟨id, ph, L⟩ = false := by unfold dnOk; rw [← HB.out]; rfl
        rw [← HT.out, this]; rfl)
      go_wp2_with fail
      (refine wp_region_X_lit (K := fun V => Ext W1 V) (by kernel_rfl) (fun w1 hw1 => ?_))
      have HX := Lib.hid hw1
      clear hw1
      refine xtv 0 (h := ?_)
      refine xtv 1 (h := ?_)
      refine xtv 2 (h := ?_)
      (refine xtakeU 3 (h := ?_); (simp only [Act.put, List.setIfInBounds_toArray, List.set]))
      (refine xtakeU 4 (h := ?_); (simp only [Act.put, List.setIfInBounds_toArray, List.set]))
      (refine xtakeU 5 (h := ?_); (simp only [Act.put, List.setIfInBounds_toArray, List.set]))
      (refine xtakeU 6 (h := ?_); (simp only [Act.put, List.setIfInBounds_toArray, List.set]))
      (refine xtakeU 7 (h := ?_); (simp only [Act.put, List.setIfInBounds_toArray, List.set]))
      (refine xtakeU 8 (h := ?_); (simp only [Act.put, List.setIfInBounds_toArray, List.set]))
      refine xtv 9 (h := ?_)
      (refine xdone (by kernel_rfl) (HX.out) ?_)
      go_wp2
      go_ret
      exact ⟨ret_int HF.out, X1.out.trans HX.out⟩
    · have HF : Hid (∀ s, sidesD id (-1) L = s → s = t) := Lib.hid (fun s hs => by
        rw [← HT.out, ← hs]
        show _ = (headD ⟨id, ph, L⟩ && sidesD id (-1) L)
        rw [← HB.out, Bool.true_and])
      obtain ⟨s, hs⟩ : ∃ s, sidesD id (-1) L = s := ⟨_, rfl⟩
      have HSD := Lib.hid hs
      have HST := Lib.hid (HF.out s hs)
      clear hs HF HT HB
      go_wp2_with fail
      (refine wp_region_X_lit (K := fun V => Ext W1 V) (by kernel_rfl) (fun w1 hw1 => ?_))
      have HX := Lib.hid hw1
      clear hw1
      refine xtv 0 (h := ?_)
      refine xtv 1 (h := ?_)
      refine xtv 2 (h := ?_)
      refine xtv 3 (h := ?_)
      refine xtv 4 (hv := by intro w' hw'; have q2 := blk_cell (keepU D1.out hw') 2 rfl; go_simp; first | done | with_reducible rfl) (h := ?_)
      refine xtv 5 (h := ?_)
      refine xtv 6 (hv := by intro w' hw'; have q0 := blk_cell (keepU D1.out hw') 0 rfl; go_simp; first | done | with_reducible rfl) (h := ?_)
      refine xone 7 (hk := HX.out) (h := RunX.of 7 (h := ?_))
      go_simp
      refine (faults_any w1 id).mono ?_
      rintro e5 w5 ⟨g1, g2, rfl, m1, m2, hne, hg1, hx5⟩
      have X5 := Lib.hid (Ext.trans HX.out hx5)
      have M1 := Lib.hid m1
      have M2 := Lib.hid m2
      have HG1 : Hid (W1.heap.size ≤ g1) := Lib.hid (Nat.le_trans (Below.size HX.out) hg1)
      clear m1 m2 hx5 hg1
      dsimp only
      (try (simp only [Act.put, List.setIfInBounds_toArray, List.set]))
      refine xone 8 (hk := X5.out) (h := RunX.of 8 (h := ?_))
      go_simp
      have HCF : Hid (L = [] ∨ ∀ b, (Value.slice ao L.length c).ownBlock = some b → b ≠ g1) := Lib.hid (HLW.out.imp (fun h => h) fun h b hb e => by have := h b hb; have := HG1.out; omega)
      refine (contains_faults w5 _ L g1 g2 id (HS.out.ext X5.out) HCF.out M1.out M2.out hne s HSD.out).mono ?_
      rintro e6 w6 ⟨rfl, o6⟩
      have X6 := Lib.hid (ext_off X5.out o6 (fun k hk => by rw [hk]; exact HG1.out))
      clear o6 hne
      dsimp only
      (try (simp only [Act.put, List.setIfInBounds_toArray, List.set]))
      refine xtv 9 (h := ?_)
      (refine xdone (by kernel_rfl) (X6.out) ?_)
      have XF := Lib.hid (X1.out.trans X6.out)
      cases s
      · have HF : Hid (130 = cond t 0 (130 : Int)) := Lib.hid (by rw [← HST.out]; rfl)
        go_wp2
        go_ret
        exact ⟨ret_int HF.out, XF.out⟩
      · have HF : Hid (0 = cond t 0 (130 : Int)) := Lib.hid (by rw [← HST.out]; rfl)
        go_wp2
        go_ret
        exact ⟨ret_int HF.out, XF.out⟩

end Go.Proofs.Ytpjpjchnfllcmaa

/- Layer 13, the program: a row of sides of one's own; who is hungry, who stops. -/
namespace Go.Proofs.Ytpjpjchnfllcmaa
open Go.RowKit

def noD : Dn := ⟨0, 0, []⟩
/-- a diner and an error are answered; all that was there is as it was -/
def GivesE (w : World) (r : Dn × Int) (e : Ending) (w' : World) : Prop := ∃ v', e = .returned (.tuple #[.agg #[.int .i64 r.1.id, .int .i64 r.1.phase, v'], .int .i64 r.2]) ∧ Sl w' v' r.1.sides ∧ Ext w w' ∧ ∀ b, v'.ownBlock = some b → w.heap.size ≤ b
def stepR (d : Dn) (fr to_ : Int) : Dn × Int := if dnOk d = true then (if d.phase = fr then (⟨d.id, to_, d.sides⟩, 0) else (noD, 134)) else (noD, 130)
theorem zeroCells : (#[.int .i64 0, .int .i64 0, .slice none 0 0] : Array Value) = #[.int .i64 0, .int .i64 0, .slice none 0 0] := rfl
theorem givesNo {w W : World} {r : Dn × Int} {er : Int} (h : r = (noD, er)) (x : Ext w W) : GivesE w r (.returned (.tuple #[.agg #[.int .i64 0, .int .i64 0, .slice none 0 0], .int .i64 er])) W := by
  subst h
  exact ⟨_, rfl, slNoneU _, x, fun b hb => by simp [Value.ownBlock] at hb⟩

set_option maxRecDepth 100000 in
set_option maxHeartbeats 2000000 in
theorem clone_sd (w : World) (v : Value) (L : List Sd) (h : Sl w v L) (hl : L.length ≤ 1000) :
    Calls Try.prog 49 #[v] w fun e w' => ∃ v', e = .returned v' ∧ Ow w' w.heap.size v' L ∧ Ext w w' := by
  have h0 := h
  obtain ⟨_, ao, c, rfl, h2, h3, h4, h5⟩ := h0
  cases ao with
  | none =>
    obtain rfl := h4 rfl
    have hL : L = [] := List.eq_nil_of_length_eq_zero (by omega)
    subst hL
    clear h h2 h3 h4 h5
    dsimp only [List.length_nil]
    have q := fun w => Lib.run_eql_slice_nil (P := Try.prog) w _ _ none 0 0 0 0 (Elem.row (α := Sd))
    change ∀ w, (binOp .eql 23 (.slice none 0 0) (.slice none 0 0)).run Try.prog w = .ok (.bool true) w at q
    go_enter Try.func49, Try.ntmps49
    go_wp2
    go_ret
    exact ⟨_, rfl, Ow.nil _ _, Ext.refl _⟩
  | some a =>
    have HS := Lib.hid h
    clear h h2 h3 h4 h5
    have q := fun w => Lib.run_eql_slice_nil (P := Try.prog) w _ _ (some a) L.length c 0 0 (Elem.row (α := Sd))
    change ∀ w, (binOp .eql 23 (.slice (some a) L.length c) (.slice none 0 0)).run Try.prog w = .ok (.bool false) w at q
    go_enter Try.func49, Try.ntmps49
    go_wp2_with (first
      | (at_builtin; refine wpList_append_sl (α := Sd) rfl (.tmp 5) (.tmp 6) rfl w.heap.size (.slice (some ⟨_, 0, none⟩) 0 0) [] rfl ?_ _ L rfl ?_ ?_ ?_ ?_; exact (Ow.litAt w _ _ rfl (Nat.le_refl _) [] (by simp)); exact (HS.out.alloc _); (first | omega | (simp; omega)); exact (by rw [size_alloc]; omega); intro v6 W6 ho6 ha6; obtain ⟨a6, n6, c6, rfl⟩ := ho6.sh; have O6 : Hid (Ow W6 w.heap.size (.slice a6 n6 c6) L) := Lib.hid ho6; have X6 : Hid (Ext w W6) := Lib.hid (Below.trans (Ext.alloc (Ext.refl w) _) ha6.below); clear ho6 ha6))
    go_ret
    exact ⟨_, rfl, O6.out, X6.out⟩

end Go.Proofs.Ytpjpjchnfllcmaa

/- Layer 13, the program: what a message brings to a side; a message that comes. -/
namespace Go.Proofs.Ytpjpjchnfllcmaa
open Go.RowKit

def withR (x : Sd) (k n : Int) : Sd × Int := if n ≠ 0 ∨ (k ≠ 1 ∧ k ≠ 2) then (Sd.zero, 133) else if (k = 1 ∧ x.fork = true) ∨ (k = 2 ∧ x.token = true) then (Sd.zero, 132) else if k = 1 then ({ x with fork := true }, 0) else ({ x with token := true }, 0)
def findS (q : Sd → Bool) : List Sd → Option (Nat × Sd)
  | [] => none
  | s :: L => if q s = true then some (0, s) else (findS q L).map fun x => (x.1 + 1, x.2)
theorem findS_none {q : Sd → Bool} : ∀ {L : List Sd}, (∀ (k : Nat) (s : Sd), L[k]? = some s → q s = false) → findS q L = none
  | [], _ => rfl
  | s :: L, h => by
    have h0 : q s = false := h 0 s rfl
    unfold findS
    rw [h0, findS_none (L := L) fun k u hk => h (k + 1) u hk]; rfl
theorem findS_some {q : Sd → Bool} : ∀ {L : List Sd} {k : Nat} {s : Sd}, L[k]? = some s → q s = true → (∀ (j : Nat) (u : Sd), j < k → L[j]? = some u → q u = false) → findS q L = some (k, s)
  | [], _, _, h, _, _ => by simp at h
  | t :: L, 0, s, h, hq, _ => by
    obtain rfl : t = s := by simpa using h
    unfold findS
    rw [if_pos hq]
  | t :: L, k + 1, s, h, hq, hn => by
    have h0 : q t = false := hn 0 t (by omega) rfl
    unfold findS
    rw [h0, findS_some (L := L) (k := k) (s := s) h hq fun j u hj hu => hn (j + 1) u (by omega) hu]; rfl
def getR (d : Dn) (p k me n : Int) : Dn × Int := if dnOk d = true then (match findS (fun s => s.peer == p && s.epoch == me) d.sides with
  | none => (noD, 131)
  | some (i, s) => if (withR s k n).2 = 0 then (⟨d.id, d.phase, d.sides.set i (withR s k n).1⟩, 0) else (noD, (withR s k n).2)) else (noD, 130)

theorem cells3U {w : World} {g : Nat} {u0 u1 u2 : Value} {t : TypeId} (h : w.heap[g]? = some (.cells #[u0, u1, u2] t (0, 0))) :
    w.cell? ⟨g, 0, none⟩ = some u0 ∧ w.cell? ⟨g, 1, none⟩ = some u1 ∧ w.cell? ⟨g, 2, none⟩ = some u2 := ⟨blk_cell h 0 rfl, blk_cell h 1 rfl, blk_cell h 2 rfl⟩

set_option maxRecDepth 100000 in
set_option maxHeartbeats 4000000 in
theorem with_any (w : World) (x : Sd) (k me n : Int) : Calls Try.prog 69 #[.agg x.cs, .agg #[.int .i64 k, .int .i64 me, .int .i64 n]] w fun e w' => e = .returned (.tuple #[.agg (withR x k n).1.cs, .int .i64 (withR x k n).2]) ∧ Ext w w' := by
  obtain ⟨y0, y1, y2, y3, y4, y5, y6, y7⟩ := x
  obtain ⟨⟨⟨z0, z1, z2, z3, z4, z5, z6, z7⟩, er⟩, hr⟩ : ∃ r, withR ⟨y0, y1, y2, y3, y4, y5, y6, y7⟩ k n = r := ⟨_, rfl⟩
  rw [hr]
  have HR := Lib.hid hr
  clear hr
  unfold Sd.cs
  dsimp only
  obtain ⟨W0, hW0⟩ : ∃ W0, W0 = ((w.alloc (.cells #[.int .i64 y0, .int .i64 y1, .int .i64 y2, .bool y3, .bool y4, .bool y5, .bool y6, .bool y7] 53)).alloc (.cells #[.int .i64 k, .int .i64 me, .int .i64 n] 44)).alloc (.cells #[.int .i64 0, .int .i64 0, .int .i64 0, .bool false, .bool false, .bool false, .bool false, .bool false] 53) := ⟨_, rfl⟩
  have X0 : Hid (Ext w W0) := Lib.hid (hW0 ▸ (((Ext.refl w).alloc _).alloc _).alloc _)
  have D0 : Hid (W0.heap[w.heap.size]? = some (.cells #[.int .i64 y0, .int .i64 y1, .int .i64 y2, .bool y3, .bool y4, .bool y5, .bool y6, .bool y7] 53 (0, 0))) := Lib.hid (hW0 ▸ old1 (old1 (at0 w _) _) _)
  have M0 : Hid (W0.heap[w.heap.size + 1]? = some (.cells #[.int .i64 k, .int .i64 me, .int .i64 n] 44 (0, 0))) := Lib.hid (hW0 ▸ old1 (at1 w _ _) _)
  have R0 : Hid (W0.heap[w.heap.size + 2]? = some (.cells #[.int .i64 0, .int .i64 0, .int .i64 0, .bool false, .bool false, .bool false, .bool false, .bool false] 53 (0, 0))) := Lib.hid (hW0 ▸ at2 w _ _ _)
  have HW0 := Lib.hid hW0
  clear hW0
  obtain ⟨m0, m1, m2⟩ := cells3U M0.out
  obtain ⟨⟨⟨x0, x1⟩, x2, x3⟩, ⟨x4, x5⟩, x6, x7⟩ := cells8U D0.out
  have f3 := blk_free D0.out 3
  have f5 := blk_free D0.out 5
  by_cases hn : n = 0
  · by_cases h1 : k = 1
    · subst hn h1
      cases y3
      · have HF : Hid ((y0 = z0 ∧ y1 = z1 ∧ y2 = z2 ∧ true = z3 ∧ y4 = z4 ∧ y5 = z5 ∧ y6 = z6 ∧ y7 = z7) ∧ (0 : Int) = er) := Lib.hid (by have h := HR.out; unfold withR at h; simp [] at h; simpa [eq_comm, and_assoc] using h)
        clear HR
        obtain ⟨⟨rfl, rfl, rfl, rfl, rfl, rfl, rfl, rfl⟩, rfl⟩ := HF.out
        go_enter Try.func69, Try.ntmps69
        go_upto_region 2 with (fail)
        rw [← HW0.out]
        go_upto_region 8 with (fail)
        obtain ⟨W3, hW3⟩ : ∃ W3, W3 = W0.setCell ⟨w.heap.size, 3, none⟩ (.bool true) := ⟨_, rfl⟩
        have D3 : Hid (W3.heap[w.heap.size]? = some (.cells #[.int .i64 y0, .int .i64 y1, .int .i64 y2, .bool true, .bool y4, .bool y5, .bool y6, .bool y7] 53 (0, 0))) := Lib.hid (by rw [hW3, blk_set D0.out]; rfl)
        have R3 : Hid (W3.heap[w.heap.size + 2]? = some (.cells #[.int .i64 0, .int .i64 0, .int .i64 0, .bool false, .bool false, .bool false, .bool false, .bool false] 53 (0, 0))) := Lib.hid (by rw [hW3, set_other _ _ _ _ (by show w.heap.size + 2 ≠ w.heap.size; omega)]; exact R0.out)
        have X3 : Hid (Ext w W3) := Lib.hid (hW3 ▸ below_set X0.out (Nat.le_refl _) _)
        rw [← hW3]
        clear hW3 x0 x1 x2 x3 x4 x5 x6 x7 f3 f5 m0 m1 m2
        obtain ⟨⟨⟨x0, x1⟩, x2, x3⟩, ⟨x4, x5⟩, x6, x7⟩ := cells8U D3.out
        go_wp2_with (first | refine haltst 53 ?_)
        refine .inl ?_
        refine st_l 53 (.tmp 4) (.tmp 45) (w.heap.size + 2) 0 53 #[.int .i64 0, .int .i64 0, .int .i64 0, .bool false, .bool false, .bool false, .bool false, .bool false] #[.int .i64 y0, .int .i64 y1, .int .i64 y2, .bool true, .bool y4, .bool y5, .bool y6, .bool y7] #[.int .i64 y0, .int .i64 y1, .int .i64 y2, .bool true, .bool y4, .bool y5, .bool y6, .bool y7] rfl rfl R3.out (by kernel_rfl) (by simp) rfl rfl ?_
        intro W9 hW9 o9
        simp only [Act.put]
        go_wp2
        exact bodyPost_ret (v := .tuple #[.agg #[.int .i64 y0, .int .i64 y1, .int .i64 y2, .bool true, .bool y4, .bool y5, .bool y6, .bool y7], .int .i64 0]) (res_ct 5 rfl rfl hW9 uSide (by kernel_rfl)) rfl ⟨rfl, ext_off X3.out o9 (fun b hb => by omega)⟩
      · have HF : Hid (((0 : Int) = z0 ∧ (0 : Int) = z1 ∧ (0 : Int) = z2 ∧ false = z3 ∧ false = z4 ∧ false = z5 ∧ false = z6 ∧ false = z7) ∧ (132 : Int) = er) := Lib.hid (by have h := HR.out; unfold withR at h; simp [Sd.zero] at h; simpa [eq_comm, and_assoc] using h)
        clear HR
        obtain ⟨⟨rfl, rfl, rfl, rfl, rfl, rfl, rfl, rfl⟩, rfl⟩ := HF.out
        go_enter Try.func69, Try.ntmps69
        go_upto_region 2 with (fail)
        rw [← HW0.out]
        go_upto_region 5 with (fail)
        go_wp2_with (first | refine haltst 53 ?_)
        refine .inl ?_
        refine st_l 53 (.tmp 4) (.tmp 39) (w.heap.size + 2) 0 53 #[.int .i64 0, .int .i64 0, .int .i64 0, .bool false, .bool false, .bool false, .bool false, .bool false] #[.int .i64 0, .int .i64 0, .int .i64 0, .bool false, .bool false, .bool false, .bool false, .bool false] #[.int .i64 0, .int .i64 0, .int .i64 0, .bool false, .bool false, .bool false, .bool false, .bool false] rfl rfl R0.out (by kernel_rfl) (by simp) rfl rfl ?_
        intro W9 hW9 o9
        simp only [Act.put]
        go_wp2
        exact bodyPost_ret (v := .tuple #[.agg #[.int .i64 0, .int .i64 0, .int .i64 0, .bool false, .bool false, .bool false, .bool false, .bool false], .int .i64 132]) (res_ct 5 rfl rfl hW9 uSide (by kernel_rfl)) rfl ⟨rfl, ext_off X0.out o9 (fun b hb => by omega)⟩
    · by_cases h2 : k = 2
      · subst hn h2
        cases y5
        · have HF : Hid ((y0 = z0 ∧ y1 = z1 ∧ y2 = z2 ∧ y3 = z3 ∧ y4 = z4 ∧ true = z5 ∧ y6 = z6 ∧ y7 = z7) ∧ (0 : Int) = er) := Lib.hid (by have h := HR.out; unfold withR at h; simp [] at h; simpa [eq_comm, and_assoc] using h)
          clear HR h1
          obtain ⟨⟨rfl, rfl, rfl, rfl, rfl, rfl, rfl, rfl⟩, rfl⟩ := HF.out
          go_enter Try.func69, Try.ntmps69
          go_upto_region 2 with (fail)
          rw [← HW0.out]
          go_upto_region 8 with (fail)
          obtain ⟨W3, hW3⟩ : ∃ W3, W3 = W0.setCell ⟨w.heap.size, 5, none⟩ (.bool true) := ⟨_, rfl⟩
          have D3 : Hid (W3.heap[w.heap.size]? = some (.cells #[.int .i64 y0, .int .i64 y1, .int .i64 y2, .bool y3, .bool y4, .bool true, .bool y6, .bool y7] 53 (0, 0))) := Lib.hid (by rw [hW3, blk_set D0.out]; rfl)
          have R3 : Hid (W3.heap[w.heap.size + 2]? = some (.cells #[.int .i64 0, .int .i64 0, .int .i64 0, .bool false, .bool false, .bool false, .bool false, .bool false] 53 (0, 0))) := Lib.hid (by rw [hW3, set_other _ _ _ _ (by show w.heap.size + 2 ≠ w.heap.size; omega)]; exact R0.out)
          have X3 : Hid (Ext w W3) := Lib.hid (hW3 ▸ below_set X0.out (Nat.le_refl _) _)
          rw [← hW3]
          clear hW3 x0 x1 x2 x3 x4 x5 x6 x7 f3 f5 m0 m1 m2
          obtain ⟨⟨⟨x0, x1⟩, x2, x3⟩, ⟨x4, x5⟩, x6, x7⟩ := cells8U D3.out
          go_wp2_with (first | refine haltst 53 ?_)
          refine .inl ?_
          refine st_l 53 (.tmp 4) (.tmp 45) (w.heap.size + 2) 0 53 #[.int .i64 0, .int .i64 0, .int .i64 0, .bool false, .bool false, .bool false, .bool false, .bool false] #[.int .i64 y0, .int .i64 y1, .int .i64 y2, .bool y3, .bool y4, .bool true, .bool y6, .bool y7] #[.int .i64 y0, .int .i64 y1, .int .i64 y2, .bool y3, .bool y4, .bool true, .bool y6, .bool y7] rfl rfl R3.out (by kernel_rfl) (by simp) rfl rfl ?_
          intro W9 hW9 o9
          simp only [Act.put]
          go_wp2
          exact bodyPost_ret (v := .tuple #[.agg #[.int .i64 y0, .int .i64 y1, .int .i64 y2, .bool y3, .bool y4, .bool true, .bool y6, .bool y7], .int .i64 0]) (res_ct 5 rfl rfl hW9 uSide (by kernel_rfl)) rfl ⟨rfl, ext_off X3.out o9 (fun b hb => by omega)⟩
        · have HF : Hid (((0 : Int) = z0 ∧ (0 : Int) = z1 ∧ (0 : Int) = z2 ∧ false = z3 ∧ false = z4 ∧ false = z5 ∧ false = z6 ∧ false = z7) ∧ (132 : Int) = er) := Lib.hid (by have h := HR.out; unfold withR at h; simp [Sd.zero] at h; simpa [eq_comm, and_assoc] using h)
          clear HR h1
          obtain ⟨⟨rfl, rfl, rfl, rfl, rfl, rfl, rfl, rfl⟩, rfl⟩ := HF.out
          go_enter Try.func69, Try.ntmps69
          go_upto_region 2 with (fail)
          rw [← HW0.out]
          go_upto_region 5 with (fail)
          go_wp2_with (first | refine haltst 53 ?_)
          refine .inl ?_
          refine st_l 53 (.tmp 4) (.tmp 39) (w.heap.size + 2) 0 53 #[.int .i64 0, .int .i64 0, .int .i64 0, .bool false, .bool false, .bool false, .bool false, .bool false] #[.int .i64 0, .int .i64 0, .int .i64 0, .bool false, .bool false, .bool false, .bool false, .bool false] #[.int .i64 0, .int .i64 0, .int .i64 0, .bool false, .bool false, .bool false, .bool false, .bool false] rfl rfl R0.out (by kernel_rfl) (by simp) rfl rfl ?_
          intro W9 hW9 o9
          simp only [Act.put]
          go_wp2
          exact bodyPost_ret (v := .tuple #[.agg #[.int .i64 0, .int .i64 0, .int .i64 0, .bool false, .bool false, .bool false, .bool false, .bool false], .int .i64 132]) (res_ct 5 rfl rfl hW9 uSide (by kernel_rfl)) rfl ⟨rfl, ext_off X0.out o9 (fun b hb => by omega)⟩
      · have HF : Hid (((0 : Int) = z0 ∧ (0 : Int) = z1 ∧ (0 : Int) = z2 ∧ false = z3 ∧ false = z4 ∧ false = z5 ∧ false = z6 ∧ false = z7) ∧ (133 : Int) = er) := Lib.hid (by have h := HR.out; unfold withR at h; simp [h1, h2, Sd.zero] at h; simpa [eq_comm, and_assoc] using h)
        have t1 : (k != 1) = true := by simp [h1]
        have t2 : (k != 2) = true := by simp [h2]
        subst hn
        clear HR h1 h2
        obtain ⟨⟨rfl, rfl, rfl, rfl, rfl, rfl, rfl, rfl⟩, rfl⟩ := HF.out
        go_enter Try.func69, Try.ntmps69
        go_upto_region 2 with (fail)
        rw [← HW0.out]
        go_upto_region 3 with (fail)
        go_wp2_with (first | refine haltst 53 ?_)
        refine .inl ?_
        refine st_l 53 (.tmp 4) (.tmp 21) (w.heap.size + 2) 0 53 #[.int .i64 0, .int .i64 0, .int .i64 0, .bool false, .bool false, .bool false, .bool false, .bool false] #[.int .i64 0, .int .i64 0, .int .i64 0, .bool false, .bool false, .bool false, .bool false, .bool false] #[.int .i64 0, .int .i64 0, .int .i64 0, .bool false, .bool false, .bool false, .bool false, .bool false] rfl rfl R0.out (by kernel_rfl) (by simp) rfl rfl ?_
        intro W9 hW9 o9
        simp only [Act.put]
        go_wp2
        exact bodyPost_ret (v := .tuple #[.agg #[.int .i64 0, .int .i64 0, .int .i64 0, .bool false, .bool false, .bool false, .bool false, .bool false], .int .i64 133]) (res_ct 5 rfl rfl hW9 uSide (by kernel_rfl)) rfl ⟨rfl, ext_off X0.out o9 (fun b hb => by omega)⟩
  · have HF : Hid (((0 : Int) = z0 ∧ (0 : Int) = z1 ∧ (0 : Int) = z2 ∧ false = z3 ∧ false = z4 ∧ false = z5 ∧ false = z6 ∧ false = z7) ∧ (133 : Int) = er) := Lib.hid (by have h := HR.out; unfold withR at h; simp [hn, Sd.zero] at h; simpa [eq_comm, and_assoc] using h)
    have t0 : (n != 0) = true := by simp [hn]
    clear HR hn
    obtain ⟨⟨rfl, rfl, rfl, rfl, rfl, rfl, rfl, rfl⟩, rfl⟩ := HF.out
    go_enter Try.func69, Try.ntmps69
    go_upto_region 2 with (fail)
    rw [← HW0.out]
    go_upto_region 3 with (fail)
    go_wp2_with (first | refine haltst 53 ?_)
    refine .inl ?_
    refine st_l 53 (.tmp 4) (.tmp 21) (w.heap.size + 2) 0 53 #[.int .i64 0, .int .i64 0, .int .i64 0, .bool false, .bool false, .bool false, .bool false, .bool false] #[.int .i64 0, .int .i64 0, .int .i64 0, .bool false, .bool false, .bool false, .bool false, .bool false] #[.int .i64 0, .int .i64 0, .int .i64 0, .bool false, .bool false, .bool false, .bool false, .bool false] rfl rfl R0.out (by kernel_rfl) (by simp) rfl rfl ?_
    intro W9 hW9 o9
    simp only [Act.put]
    go_wp2
    exact bodyPost_ret (v := .tuple #[.agg #[.int .i64 0, .int .i64 0, .int .i64 0, .bool false, .bool false, .bool false, .bool false, .bool false], .int .i64 133]) (res_ct 5 rfl rfl hW9 uSide (by kernel_rfl)) rfl ⟨rfl, ext_off X0.out o9 (fun b hb => by omega)⟩

end Go.Proofs.Ytpjpjchnfllcmaa

/- Layer 13, the program: a message that comes. -/
namespace Go.Proofs.Ytpjpjchnfllcmaa
open Go.RowKit

set_option maxRecDepth 100000 in
set_option maxHeartbeats 2000000 in
theorem meant_one (W : World) (g1 g2 : Nat) (p k me n : Int) (s : Sd) (h1 : W.heap[g1]? = some (.cells #[.int .i64 p] 3 (0, 0))) (h2 : W.heap[g2]? = some (.cells #[.int .i64 k, .int .i64 me, .int .i64 n] 44 (0, 0))) (t : Bool) (ht : (s.peer == p && s.epoch == me) = t) :
    Calls Try.prog 68 #[.agg s.cs, .pointer (some ⟨g1, 0, none⟩), .pointer (some ⟨g2, 0, none⟩)] W fun e W' => e = .returned (.bool t) ∧ Ext W W' := by
  obtain ⟨y0, y1, y2, y3, y4, y5, y6, y7⟩ := s
  unfold Sd.cs
  dsimp only at ht ⊢
  obtain ⟨W1, hW1⟩ : ∃ W1, W1 = W.alloc (.cells #[.int .i64 y0, .int .i64 y1, .int .i64 y2, .bool y3, .bool y4, .bool y5, .bool y6, .bool y7] 53) := ⟨_, rfl⟩
  have X1 : Hid (Ext W W1) := Lib.hid (hW1 ▸ (Ext.refl W).alloc _)
  have d1 : W1.heap[W.heap.size]? = some (.cells #[.int .i64 y0, .int .i64 y1, .int .i64 y2, .bool y3, .bool y4, .bool y5, .bool y6, .bool y7] 53 (0, 0)) := hW1 ▸ at0 W _
  have HW1 := Lib.hid hW1
  have x0 := blk_cell d1 0 rfl
  have x1 := blk_cell d1 1 rfl
  have k1 := blk_cell (keepU h1 X1.out) 0 rfl
  have k2 := blk_cell (keepU h2 X1.out) 1 rfl
  have HT := Lib.hid ht
  clear ht h1 h2 hW1 d1
  by_cases e1 : y0 = p
  · have t1 : (y0 == p) = true := by simp [e1]
    by_cases e2 : y1 = me
    · have t2 : (y1 == me) = true := by simp [e2]
      have HF : Hid (true = t) := Lib.hid (by rw [← HT.out, t1, t2]; rfl)
      clear e1 e2 HT
      go_enter Try.func68, Try.ntmps68
      go_upto_region 1 with (fail)
      rw [← HW1.out]
      go_wp2
      go_ret
      exact ⟨ret_bool HF.out, X1.out⟩
    · have t2 : (y1 == me) = false := by simp [e2]
      have HF : Hid (false = t) := Lib.hid (by rw [← HT.out, t1, t2]; rfl)
      clear e1 e2 HT
      go_enter Try.func68, Try.ntmps68
      go_upto_region 1 with (fail)
      rw [← HW1.out]
      go_wp2
      go_ret
      exact ⟨ret_bool HF.out, X1.out⟩
  · have t1 : (y0 == p) = false := by simp [e1]
    have HF : Hid (false = t) := Lib.hid (by rw [← HT.out, t1]; rfl)
    clear e1 HT
    go_enter Try.func68, Try.ntmps68
    go_upto_region 1 with (fail)
    rw [← HW1.out]
    go_wp2
    go_ret
    exact ⟨ret_bool HF.out, X1.out⟩

theorem index_meant (w : World) (v : Value) (L : List Sd) (g1 g2 : Nat) (p k me n : Int) (h : Sl w v L) (h1 : w.heap[g1]? = some (.cells #[.int .i64 p] 3 (0, 0))) (h2 : w.heap[g2]? = some (.cells #[.int .i64 k, .int .i64 me, .int .i64 n] 44 (0, 0))) :
    Calls Try.prog 67 #[v, .func (.func 68) #[] #[.pointer (some ⟨g1, 0, none⟩), .pointer (some ⟨g2, 0, none⟩)]] w fun e w' => ∃ r : Int, e = .returned (.int .i64 r) ∧ ((r = -1 ∧ findS (fun s => s.peer == p && s.epoch == me) L = none) ∨ ∃ (i : Nat) (s : Sd), r = (i : Int) ∧ L[i]? = some s ∧ findS (fun s => s.peer == p && s.epoch == me) L = some (i, s)) ∧ Ext w w' := by
  refine (indexFunc_sd w v L 68 #[.pointer (some ⟨g1, 0, none⟩), .pointer (some ⟨g2, 0, none⟩)] (fun _ V => Ext w V) (fun _ s => s.peer == p && s.epoch == me) (enters_of Try.func68 (by kernel_rfl) rfl) (fun _ W hW => h.ext hW) ?_ (Ext.refl w)).mono ?_
  · intro i s W hi hW
    refine (meant_one W g1 g2 p k me n s (keepU h1 hW) (keepU h2 hW) _ rfl).mono ?_
    rintro e W' ⟨rfl, hx⟩
    exact ⟨rfl, Ext.trans hW hx⟩
  · rintro e w' ⟨r, rfl, hr, i, hx⟩
    refine ⟨r, rfl, ?_, hx⟩
    rcases hr with ⟨e, hn⟩ | ⟨i, s, e, hs, hq, hn⟩
    · exact .inl ⟨e, findS_none hn⟩
    · exact .inr ⟨i, s, e, hs, findS_some hs hq hn⟩

set_option maxRecDepth 100000 in
set_option maxHeartbeats 8000000 in
theorem get_any (w : World) (id ph p k me n : Int) (v : Value) (L : List Sd) (h : Sl w v L) (hl : L.length ≤ 1000) :
    Calls Try.prog 44 #[.agg #[.int .i64 id, .int .i64 ph, v], .int .i64 p, .agg #[.int .i64 k, .int .i64 me, .int .i64 n]] w (GivesE w (getR ⟨id, ph, L⟩ p k me n)) := by
  obtain ⟨ao, c, rfl⟩ := h.len
  have hmf : ∀ (fn : Fn) (first cap : Array Value) (w : World), (Instr.makeFunc fn first cap).run Try.prog w = .ok (.func fn first cap) w := fun _ _ _ _ => rfl
  have hlen := h.length_le
  obtain ⟨W0, hW0⟩ : ∃ W0, W0 = (((w.alloc (.cells #[.int .i64 id, .int .i64 ph, .slice ao L.length c] 25)).alloc (.cells #[.int .i64 p] 3)).alloc (.cells #[.int .i64 k, .int .i64 me, .int .i64 n] 44)).alloc (.cells #[.int .i64 0, .int .i64 0, .slice none 0 0] 25) := ⟨_, rfl⟩
  have X0 : Hid (Ext w W0) := Lib.hid (hW0 ▸ ((((Ext.refl w).alloc _).alloc _).alloc _).alloc _)
  have D0 : Hid (W0.heap[w.heap.size]? = some (.cells #[.int .i64 id, .int .i64 ph, .slice ao L.length c] 25 (0, 0))) := Lib.hid (hW0 ▸ old1 (old1 (old1 (at0 w _) _) _) _)
  have P0 : Hid (W0.heap[w.heap.size + 1]? = some (.cells #[.int .i64 p] 3 (0, 0))) := Lib.hid (hW0 ▸ old1 (old1 (at1 w _ _) _) _)
  have M0 : Hid (W0.heap[w.heap.size + 2]? = some (.cells #[.int .i64 k, .int .i64 me, .int .i64 n] 44 (0, 0))) := Lib.hid (hW0 ▸ old1 (at2 w _ _ _) _)
  have R0 : Hid (W0.heap[w.heap.size + 3]? = some (.cells #[.int .i64 0, .int .i64 0, .slice none 0 0] 25 (0, 0))) := Lib.hid (hW0 ▸ at3 w _ _ _ _)
  have hs0 : W0.heap.size = w.heap.size + 4 := by rw [hW0, size_alloc, size_alloc, size_alloc, size_alloc]
  have HW0 := Lib.hid hW0
  have HS := Lib.hid (h.ext X0.out)
  clear h hW0
  obtain ⟨d0, d1, d2⟩ := cells3U D0.out
  obtain ⟨t, ht⟩ : ∃ t, dnOk ⟨id, ph, L⟩ = t := ⟨_, rfl⟩
  have HT := Lib.hid ht
  clear ht
  go_enter Try.func44, Try.ntmps44
  go_upto_region 1 with (fail)
  rw [← HW0.out]
  cases t
  · have HR : Hid (getR ⟨id, ph, L⟩ p k me n = (noD, 130)) := Lib.hid (by unfold getR; rw [HT.out]; rfl)
    go_upto_region 3 with (first
      | (go_at_call 41; refine (dCheck_any W0 id ph _ L HS.out false HT.out).mono ?_; rintro e w1 ⟨rfl, hx⟩; dsimp only [cond]; have X1 := Lib.hid hx; clear hx))
    go_wp2_with (first | refine haltst 25 ?_)
    refine .inl ?_
    refine st_l 25 (.tmp 6) (.tmp 17) (w.heap.size + 3) 0 25 #[.int .i64 0, .int .i64 0, .slice none 0 0] #[.int .i64 0, .int .i64 0, .slice none 0 0] #[.int .i64 0, .int .i64 0, .slice none 0 0] rfl rfl (keepU R0.out X1.out) (by kernel_rfl) (by simp) rfl rfl ?_
    intro W9 hW9 o9
    simp only [Act.put]
    go_wp2
    exact bodyPost_ret (v := .tuple #[.agg #[.int .i64 0, .int .i64 0, .slice none 0 0], .int .i64 130]) (res_ct 7 rfl rfl hW9 uDiner (by kernel_rfl)) rfl (givesNo HR.out (ext_off (X0.out.trans X1.out) o9 (fun b hb => by omega)))
  · go_upto_region 4 with (first
      | (go_at_call 41; refine (dCheck_any W0 id ph _ L HS.out true HT.out).mono ?_; rintro e w1 ⟨rfl, hx⟩; dsimp only [cond]; have X1 := Lib.hid hx; clear hx))
    clear d0 d1 d2
    obtain ⟨d0, d1, d2⟩ := cells3U (keepU D0.out X1.out)
    go_upto_region 6 with (first
      | (go_at_call 67; refine (index_meant w1 _ L (w.heap.size + 1) (w.heap.size + 2) p k me n (HS.out.ext X1.out) (keepU P0.out X1.out) (keepU M0.out X1.out)).mono ?_; rintro e w2 ⟨r, rfl, hr, hx⟩; have X2 := Lib.hid (X1.out.trans hx); have HRR := Lib.hid hr; clear hx hr))
    clear d0 d1 d2
    obtain ⟨d0, d1, d2⟩ := cells3U (keepU D0.out X2.out)
    rcases HRR.out with ⟨rfl, hf⟩ | ⟨i, s, rfl, hsi, hf⟩
    · have HR : Hid (getR ⟨id, ph, L⟩ p k me n = (noD, 131)) := Lib.hid (by unfold getR; rw [HT.out, if_pos rfl]; dsimp only; rw [hf])
      clear hf HRR
      go_upto_region 7 with (fail)
      go_wp2_with (first | refine haltst 25 ?_)
      refine .inl ?_
      refine st_l 25 (.tmp 6) (.tmp 26) (w.heap.size + 3) 0 25 #[.int .i64 0, .int .i64 0, .slice none 0 0] #[.int .i64 0, .int .i64 0, .slice none 0 0] #[.int .i64 0, .int .i64 0, .slice none 0 0] rfl rfl (keepU R0.out X2.out) (by kernel_rfl) (by simp) rfl rfl ?_
      intro W9 hW9 o9
      simp only [Act.put]
      go_wp2
      exact bodyPost_ret (v := .tuple #[.agg #[.int .i64 0, .int .i64 0, .slice none 0 0], .int .i64 131]) (res_ct 7 rfl rfl hW9 uDiner (by kernel_rfl)) rfl (givesNo HR.out (ext_off (X0.out.trans X2.out) o9 (fun b hb => by omega)))
    · have hlt : i < L.length := (List.getElem?_eq_some_iff.1 hsi).1
      have ho1 : ¬ ((i : Int) < 0) := by omega
      obtain ⟨⟨s', er⟩, hwr⟩ : ∃ r, withR s k n = r := ⟨_, rfl⟩
      have HWI := Lib.hid (fun W => hwr ▸ with_any W s k me n)
      have HRR2 : Hid (getR ⟨id, ph, L⟩ p k me n = if er = 0 then (⟨id, ph, L.set i s'⟩, 0) else (noD, er)) := Lib.hid (by unfold getR; rw [HT.out, if_pos rfl]; dsimp only; rw [hf]; dsimp only; rw [hwr])
      clear hf HRR hwr
      obtain ⟨b1, off, s2, hsy, hsj, rfl, hn1, hnc, hc63, hb, hcs⟩ := HS.out.sidesAt hlt
      obtain rfl : s2 = s := by have := hsj.symm.trans hsi; simpa using this
      have HCS := Lib.hid hcs
      clear hsy hsj hsi hcs hn1
      obtain ⟨y0, y1, y2, y3, y4, y5, y6, y7⟩ := s2
      obtain ⟨u0, u1, u2, u3, u4, u5, u6, u7⟩ := s'
      unfold Sd.cs at HWI
      dsimp only at HCS HWI
      go_upto_region 8 with (fail)
      go_cut [11, 12] (fun s11 s12 wx => ∃ g, s11 = .pointer (some ⟨g, 0, none⟩) ∧ s12 = .int .i64 er ∧ Hid (wx.heap[g]? = some (.cells #[.int .i64 u0, .int .i64 u1, .int .i64 u2, .bool u3, .bool u4, .bool u5, .bool u6, .bool u7] 53 (0, 0))) ∧ Hid (Ext W0 wx) ∧ W0.heap.size ≤ g)
      case first =>
        (refine wp_region_X_lit (K := fun V => Ext W0 V) (by kernel_rfl) (fun w1 hw1 => ?_))
        have HV1 : Hid (Ext W0 w1) := Lib.hid (X2.out.trans hw1)
        clear hw1
        refine xtv 0 (h := ?_)
        refine xtv 1 (hv := by intro w' hw'; have q2 := blk_cell (keepU D0.out hw') 2 rfl; go_simp; first | done | with_reducible rfl) (h := ?_)
        refine xtv 2 (h := ?_)
        refine xtv 3 (h := ?_)
        refine xtv 4 (hv := by intro w' hw'; obtain ⟨⟨⟨x0, x1⟩, x2, x3⟩, ⟨x4, x5⟩, x6, x7⟩ := HCS.out w' hw'; go_simp; first | done | with_reducible rfl) (h := ?_)
        refine xtv 5 (hv := by intro w' hw'; obtain ⟨m0, m1, m2⟩ := cells3U (keepU M0.out hw'); go_simp; first | done | with_reducible rfl) (h := ?_)
        refine xtwo 6 10 (hk := HV1.out) (h := RunX.of 6 (h := ?_)) (h' := RunX.of 10 (h := ?_))
        · go_simp
          refine (HWI.out w1).mono ?_
          rintro e6 w6 ⟨rfl, x6⟩
          have Y6 : Hid (Ext W0 w6) := Lib.hid (Ext.trans HV1.out x6)
          clear x6
          dsimp only
          (try (simp only [Act.put, List.setIfInBounds_toArray, List.set]))
          refine xtv 7 (h := ?_)
          refine xtv 8 (h := ?_)
          refine xtv 9 (h := ?_)
          refine xone 10 (hk := Y6.out) (h := RunX.of 10 (h := ?_))
          go_simp
          (try (simp only [Act.put, List.setIfInBounds_toArray, List.set]))
          obtain ⟨W7, hW7⟩ : ∃ W7, W7 = w6.alloc (.cells #[.int .i64 0, .int .i64 0, .int .i64 0, .bool false, .bool false, .bool false, .bool false, .bool false] 53) := ⟨_, rfl⟩
          have Y7 : Hid (Ext W0 W7) := Lib.hid (hW7 ▸ Y6.out.alloc _)
          have B7 : Hid (W7.heap[w6.heap.size]? = some (.cells #[.int .i64 0, .int .i64 0, .int .i64 0, .bool false, .bool false, .bool false, .bool false, .bool false] 53 (0, 0))) := Lib.hid (hW7 ▸ at0 w6 _)
          have hg7 : W0.heap.size ≤ w6.heap.size := Below.size Y6.out
          rw [← hW7]
          clear hW7
          refine xone 11 (hk := Y7.out) (h := RunX.of 11 (h := ?_))
          refine wp_st 53 (.tmp 11) (.tmp 35) rfl w6.heap.size 0 53 #[.int .i64 0, .int .i64 0, .int .i64 0, .bool false, .bool false, .bool false, .bool false, .bool false] #[.int .i64 u0, .int .i64 u1, .int .i64 u2, .bool u3, .bool u4, .bool u5, .bool u6, .bool u7] #[.int .i64 u0, .int .i64 u1, .int .i64 u2, .bool u3, .bool u4, .bool u5, .bool u6, .bool u7] rfl rfl B7.out (by kernel_rfl) (by simp) rfl rfl ?_
          intro WB hWB oB
          simp only [Act.put]
          have YB : Hid (Ext W0 WB) := Lib.hid (ext_off Y7.out oB (fun b hb => by omega))
          have RB := Lib.hid hWB
          clear hWB oB
          refine xtv 12 (h := ?_)
          (refine xdone (by kernel_rfl) (YB.out) ?_)
          go_wp2_with fail
          go_meet
          exact ⟨_, rfl, rfl, RB, YB, hg7⟩
        · go_simp
          (try (simp only [Act.put, List.setIfInBounds_toArray, List.set]))
          obtain ⟨W7, hW7⟩ : ∃ W7, W7 = w1.alloc (.cells #[.int .i64 0, .int .i64 0, .int .i64 0, .bool false, .bool false, .bool false, .bool false, .bool false] 53) := ⟨_, rfl⟩
          have Y7 : Hid (Ext W0 W7) := Lib.hid (hW7 ▸ HV1.out.alloc _)
          have B7 : Hid (W7.heap[w1.heap.size]? = some (.cells #[.int .i64 0, .int .i64 0, .int .i64 0, .bool false, .bool false, .bool false, .bool false, .bool false] 53 (0, 0))) := Lib.hid (hW7 ▸ at0 w1 _)
          have hg7 : W0.heap.size ≤ w1.heap.size := Below.size HV1.out
          rw [← hW7]
          clear hW7
          refine xone 6 (hk := Y7.out) (h := RunX.of 6 (h := ?_))
          go_simp
          refine (HWI.out W7).mono ?_
          rintro e6 w6 ⟨rfl, x6⟩
          have Y6 : Hid (Ext W0 w6) := Lib.hid (Ext.trans Y7.out x6)
          have B6 : Hid (w6.heap[w1.heap.size]? = some (.cells #[.int .i64 0, .int .i64 0, .int .i64 0, .bool false, .bool false, .bool false, .bool false, .bool false] 53 (0, 0))) := Lib.hid (keepU B7.out x6)
          clear x6
          dsimp only
          (try (simp only [Act.put, List.setIfInBounds_toArray, List.set]))
          refine xtv 7 (h := ?_)
          refine xtv 8 (h := ?_)
          refine xtv 9 (h := ?_)
          refine xone 11 (hk := Y6.out) (h := RunX.of 11 (h := ?_))
          refine wp_st 53 (.tmp 11) (.tmp 35) rfl w1.heap.size 0 53 #[.int .i64 0, .int .i64 0, .int .i64 0, .bool false, .bool false, .bool false, .bool false, .bool false] #[.int .i64 u0, .int .i64 u1, .int .i64 u2, .bool u3, .bool u4, .bool u5, .bool u6, .bool u7] #[.int .i64 u0, .int .i64 u1, .int .i64 u2, .bool u3, .bool u4, .bool u5, .bool u6, .bool u7] rfl rfl B6.out (by kernel_rfl) (by simp) rfl rfl ?_
          intro WB hWB oB
          simp only [Act.put]
          have YB : Hid (Ext W0 WB) := Lib.hid (ext_off Y6.out oB (fun b hb => by omega))
          have RB := Lib.hid hWB
          clear hWB oB
          refine xtv 12 (h := ?_)
          (refine xdone (by kernel_rfl) (YB.out) ?_)
          go_wp2_with fail
          go_meet
          exact ⟨_, rfl, rfl, RB, YB, hg7⟩
      case rest =>
        obtain ⟨g, rfl, rfl, HG, HXC, hg⟩ := hcut
        clear d0 d1 d2
        by_cases he : er = 0
        · subst he
          have HR : Hid (getR ⟨id, ph, L⟩ p k me n = (⟨id, ph, L.set i ⟨u0, u1, u2, u3, u4, u5, u6, u7⟩⟩, 0)) := Lib.hid (by rw [HRR2.out, if_pos rfl])
          have d2 := blk_cell (keepU D0.out HXC.out) 2 rfl
          go_upto_region 11 with (fail)
          go_upto_region 12 with (first
            | (go_at_call 49; refine (clone_sd wc _ L (HS.out.ext HXC.out) hl).mono ?_; rintro e w5 ⟨v5, rfl, o5, x5⟩; obtain ⟨a5, n5, c5, rfl⟩ := o5.sh; have X5 : Hid (Ext wc w5) := Lib.hid x5; have O5 := Lib.hid o5; have hcc := blk_cell (keepU (keepU D0.out HXC.out) x5) 2 rfl; have f5 := blk_free (keepU (keepU D0.out HXC.out) x5) 2; clear o5 x5))
          have hcs : W0.heap.size ≤ wc.heap.size := Below.size HXC.out
          have hgc : g < wc.heap.size := blk_lt HG.out
          obtain ⟨W6, hW6⟩ : ∃ W6, W6 = w5.setCell ⟨w.heap.size, 2, none⟩ (.slice a5 n5 c5) := ⟨_, rfl⟩
          have D6 : Hid (W6.heap[w.heap.size]? = some (.cells #[.int .i64 id, .int .i64 ph, .slice a5 n5 c5] 25 (0, 0))) := Lib.hid (by rw [hW6, blk_set (keepU (keepU D0.out HXC.out) X5.out)]; rfl)
          have R6 : Hid (W6.heap[w.heap.size + 3]? = some (.cells #[.int .i64 0, .int .i64 0, .slice none 0 0] 25 (0, 0))) := Lib.hid (by rw [hW6, set_other _ _ _ _ (by show w.heap.size + 3 ≠ w.heap.size; omega)]; exact keepU (keepU R0.out HXC.out) X5.out)
          have G6 : Hid (W6.heap[g]? = some (.cells #[.int .i64 u0, .int .i64 u1, .int .i64 u2, .bool u3, .bool u4, .bool u5, .bool u6, .bool u7] 53 (0, 0))) := Lib.hid (by rw [hW6, set_other _ _ _ _ (by show g ≠ w.heap.size; omega)]; exact keepU HG.out X5.out)
          have X6 : Hid (Ext w W6) := Lib.hid (hW6 ▸ below_set (X0.out.trans (HXC.out.trans X5.out)) (Nat.le_refl _) _)
          have S6 : Ow W6 wc.heap.size (.slice a5 n5 c5) L := hW6 ▸ O5.out.set (d := ⟨w.heap.size, 2, none⟩) (by show w.heap.size < _; omega) _
          rw [← hW6]
          clear hW6 d2 f5 hcc O5
          obtain ⟨gs, cur, rfl, hgs, rfl, hnc6, hc636, hcur, hcsz, hput⟩ := S6.setAt hlt ⟨u0, u1, u2, u3, u4, u5, u6, u7⟩
          have HCUR := Lib.hid hcur
          have HPUT := Lib.hid hput
          have HCZ : Hid (i * 8 + 8 ≤ cur.size) := Lib.hid hcsz
          have d2 := blk_cell D6.out 2 rfl
          obtain ⟨⟨⟨z0, z1⟩, z2, z3⟩, ⟨z4, z5⟩, z6, z7⟩ := cells8U G6.out
          clear hcur hput hcsz S6
          go_wp2_with (first | refine haltst 53 ?_)
          refine .inl ?_
          refine st_l 53 (.tmp 49) (.tmp 48) gs (i * 8) 53 cur #[.int .i64 u0, .int .i64 u1, .int .i64 u2, .bool u3, .bool u4, .bool u5, .bool u6, .bool u7] _ rfl rfl HCUR.out (by kernel_rfl) HCZ.out rfl rfl ?_
          intro W8 hW8 o8
          simp only [Act.put]
          have O8 := Lib.hid (HPUT.out W8 hW8)
          have X8 := Lib.hid (ext_off X6.out o8 (fun b hb => by omega))
          have R8 := Lib.hid ((o8.block (w.heap.size + 3) (blk_lt R6.out) (by omega)).trans R6.out)
          have hd8 := (o8.block w.heap.size (blk_lt D6.out) (by omega)).trans D6.out
          obtain ⟨e0, e1, e2⟩ := cells3U hd8
          clear hW8 o8 hd8 d2 z0 z1 z2 z3 z4 z5 z6 z7
          go_wp2_with (first | refine haltst 25 ?_)
          refine .inl ?_
          refine st_l 25 (.tmp 6) (.tmp 50) (w.heap.size + 3) 0 25 #[.int .i64 0, .int .i64 0, .slice none 0 0] #[.int .i64 id, .int .i64 ph, .slice (some ⟨gs, 0, none⟩) L.length c5] #[.int .i64 id, .int .i64 ph, .slice (some ⟨gs, 0, none⟩) L.length c5] rfl rfl R8.out (by kernel_rfl) (by simp) rfl rfl ?_
          intro W9 hW9 o9
          simp only [Act.put]
          go_wp2
          exact bodyPost_ret (v := .tuple #[.agg #[.int .i64 id, .int .i64 ph, .slice (some ⟨gs, 0, none⟩) L.length c5], .int .i64 0]) (res_ct 7 rfl rfl hW9 uDiner (by kernel_rfl)) rfl (by
            rw [HR.out]
            exact ⟨_, rfl, slOffU O8.out.sl (fun b hb => (O8.out.low b hb).1) o9 (by omega), ext_off X8.out o9 (fun b hb => by omega), fun b hb => by have := (O8.out.low b hb).1; omega⟩)
        · have HR : Hid (getR ⟨id, ph, L⟩ p k me n = (noD, er)) := Lib.hid (by rw [HRR2.out, if_neg he])
          have t9 : (er != 0) = true := by simp [he]
          clear he
          go_upto_region 10 with (fail)
          go_wp2_with (first | refine haltst 25 ?_)
          refine .inl ?_
          refine st_l 25 (.tmp 6) (.tmp 39) (w.heap.size + 3) 0 25 #[.int .i64 0, .int .i64 0, .slice none 0 0] #[.int .i64 0, .int .i64 0, .slice none 0 0] #[.int .i64 0, .int .i64 0, .slice none 0 0] rfl rfl (keepU R0.out HXC.out) (by kernel_rfl) (by simp) rfl rfl ?_
          intro W9 hW9 o9
          simp only [Act.put]
          go_wp2
          exact bodyPost_ret (v := .tuple #[.agg #[.int .i64 0, .int .i64 0, .slice none 0 0], .int .i64 er]) (res_ct 7 rfl rfl hW9 uDiner (by kernel_rfl)) rfl (givesNo HR.out (ext_off (X0.out.trans HXC.out) o9 (fun b hb => by omega)))

end Go.Proofs.Ytpjpjchnfllcmaa
