/- Texts of this seat. -/
import Derived.Test.YtfbambemjokmgaaGreatNAU
namespace Go.Proofs.YtfbambemjokmgaaGreat
open Go.RowKit
def FirstOf {α : Type} (p : α → Bool) (L : List α) (r : Int) : Prop := (r = -1 ∧ ∀ x ∈ L, p x = false) ∨ ∃ (k : Nat) (x : α), r = (k : Int) ∧ L[k]? = some x ∧ p x = true ∧ ∀ (j : Nat) (u : α), j < k → L[j]? = some u → p u = false
theorem FirstOf.any {α : Type} {p : α → Bool} {L : List α} {r : Int} (h : FirstOf p L r) : L.any p = decide (0 ≤ r) := by
  rcases h with ⟨rfl, h⟩ | ⟨k, x, rfl, h1, h2, _⟩
  · rw [List.any_eq_false.2 fun x hx => by rw [h x hx]; simp]; rfl
  · rw [List.any_eq_true.2 ⟨x, List.mem_of_getElem? h1, h2⟩, decide_eq_true (by omega)]
theorem first_no {α : Type} {p : α → Bool} {L : List α} {k : Nat} (hk : k = L.length) (h : ∀ (j : Nat) (u : α), j < k → L[j]? = some u → p u = false) : ∀ x ∈ L, p x = false := fun x hx => by
  obtain ⟨j, hj⟩ := List.getElem?_of_mem hx
  exact h j x (by rw [hk]; exact (List.getElem?_eq_some_iff.1 hj).1) hj
theorem first_up {α : Type} {p : α → Bool} {L : List α} {k : Nat} {y : α} (h : ∀ (j : Nat) (u : α), j < k → L[j]? = some u → p u = false) (hy : L[k]? = some y) (hp : p y = false) : ∀ (j : Nat) (u : α), j < k + 1 → L[j]? = some u → p u = false := fun j u hj hu => by
  rcases Nat.lt_or_ge j k with h1 | h1
  · exact h j u h1 hu
  · obtain rfl : j = k := by omega
    have := hy.symm.trans hu
    simp only [Option.some.injEq] at this
    rw [← this]; exact hp
set_option maxHeartbeats 1000000 in
theorem indexFunc_ml (w : World) (v : Value) (L : List Ml) (g : FuncId) (lb : Array Value) (p : Ml → Bool) (eg : ∀ args w, (callFunc g args).run Tryz.prog w = .ok (.enter g args) w)
    (h : Sl w v L) (hs : ∀ m W, m ∈ L → Ext w W → Calls Tryz.prog g (#[m.val] ++ lb) W fun e W' => e = .returned (.bool (p m)) ∧ Ext W W') :
    Calls Tryz.prog 89 #[v, .func (.func g) #[] lb] w fun e w' => ∃ r : Int, e = .returned (.int .i64 r) ∧ FirstOf p L r ∧ Ext w w' := by
  obtain ⟨ao, c, rfl⟩ := h.len
  have hlen := h.length_le
  have HI := Lib.hid h
  have HS := Lib.hid hs
  clear hs h
  go_enter Tryz.func89, Tryz.ntmps89
  go_wp2
  go_loopw [8] (fun i wr => ∃ k : Nat, k ≤ L.length ∧ i = .int .i64 k ∧ Hid (∀ (j : Nat) (u : Ml), j < k → L[j]? = some u → p u = false) ∧ Hid (Ext w wr)) (fun i _ => L.length - (intOf i).toNat)
  case atStart => exact ⟨0, Nat.zero_le _, rfl, Lib.hid (fun j u hj => by omega), Lib.hid (Ext.refl _)⟩
  case round =>
    obtain ⟨k, hk, rfl, HT, HX⟩ := hrel
    by_cases hlt : k < L.length
    · obtain ⟨b, off, y, _, hyk, rfl, hn, hnc, hc63, hb, hcell⟩ := HI.out.mailAt hlt
      obtain ⟨⟨x0, x1⟩, x2, x3, x4⟩ := hcell wr HX.out
      have HY := Lib.hid hyk
      obtain ⟨s, hs⟩ : ∃ s, p y = s := ⟨_, rfl⟩
      have HH := Lib.hid (hs ▸ HS.out y wr (List.mem_of_getElem? hyk) HX.out)
      have HP := Lib.hid hs
      clear hs hcell hyk hn
      obtain ⟨y0, y1, y2, y3, y4⟩ := y
      unfold Ml.val at HH
      dsimp only at HH x0 x1 x2 x3 x4
      cases s
      · go_wp2_with (go_at_fn g; refine HH.out.mono ?_; rintro e w1 ⟨rfl, hx⟩; have HX1 := Lib.hid (HX.out.trans hx); clear hx)
        go_roundw
        case rel => exact ⟨k + 1, by omega, by go_num, Lib.hid (first_up HT.out HY.out HP.out), HX1⟩
        case measure => simp [intOf]; omega
      · go_wp2_with (go_at_fn g; refine HH.out.mono ?_; rintro e w1 ⟨rfl, hx⟩; have HX1 := Lib.hid (HX.out.trans hx); clear hx)
        go_ret
        exact ⟨_, rfl, .inr ⟨k, _, rfl, HY.out, HP.out, HT.out⟩, HX1.out⟩
    · have hkl : k = L.length := by omega
      go_wp2
      go_ret
      exact ⟨_, rfl, .inl ⟨rfl, first_no hkl HT.out⟩, HX.out⟩
set_option maxHeartbeats 1000000 in
theorem containsFunc_ml (w : World) (v : Value) (L : List Ml) (g : FuncId) (lb : Array Value) (p : Ml → Bool) (eg : ∀ args w, (callFunc g args).run Tryz.prog w = .ok (.enter g args) w)
    (h : Sl w v L) (hs : ∀ m W, m ∈ L → Ext w W → Calls Tryz.prog g (#[m.val] ++ lb) W fun e W' => e = .returned (.bool (p m)) ∧ Ext W W') (t : Bool) (ht : L.any p = t) :
    Calls Tryz.prog 109 #[v, .func (.func g) #[] lb] w fun e w' => e = .returned (.bool t) ∧ Ext w w' := by
  have HC := Lib.hid (indexFunc_ml w v L g lb p eg h hs)
  have HT := Lib.hid ht
  clear hs h eg ht
  go_enter Tryz.func109, Tryz.ntmps109
  go_wp2_with (go_at_call 89; refine HC.out.mono ?_; rintro e w1 ⟨r, rfl, hr, hx⟩; have HR := Lib.hid hr; have HX := Lib.hid hx; clear hr hx)
  go_ret
  exact ⟨ret_bool (HR.out.any.symm.trans HT.out), HX.out⟩
set_option maxHeartbeats 1000000 in
theorem indexFunc_dn (w : World) (v : Value) (L : List Dn) (g : FuncId) (lb : Array Value) (p : Dn → Bool) (eg : ∀ args w, (callFunc g args).run Tryz.prog w = .ok (.enter g args) w)
    (h : Ns DV Non w v L) (hs : ∀ (id ph : Int) (u : Value) (S : List Sd) W, (⟨id, ph, S⟩ : Dn) ∈ L → Ext w W → Sl W u S → Calls Tryz.prog g (#[.agg #[.int .i64 id, .int .i64 ph, u]] ++ lb) W fun e W' => e = .returned (.bool (p ⟨id, ph, S⟩)) ∧ Ext W W') :
    Calls Tryz.prog 146 #[v, .func (.func g) #[] lb] w fun e w' => ∃ r : Int, e = .returned (.int .i64 r) ∧ FirstOf p L r ∧ Ext w w' := by
  obtain ⟨ao, c, rfl⟩ := h.len
  have hlen := h.length_le
  have HI := Lib.hid h
  have HS := Lib.hid hs
  clear hs h
  go_enter Tryz.func146, Tryz.ntmps146
  go_wp2
  go_loopw [8] (fun i wr => ∃ k : Nat, k ≤ L.length ∧ i = .int .i64 k ∧ Hid (∀ (j : Nat) (u : Dn), j < k → L[j]? = some u → p u = false) ∧ Hid (Ext w wr)) (fun i _ => L.length - (intOf i).toNat)
  case atStart => exact ⟨0, Nat.zero_le _, rfl, Lib.hid (fun j u hj => by omega), Lib.hid (Ext.refl _)⟩
  case round =>
    obtain ⟨k, hk, rfl, HT, HX⟩ := hrel
    by_cases hlt : k < L.length
    · obtain ⟨b, off, so, sc, y, hyk, rfl, hn, hnc, hc63, hb, hsl, hcell⟩ := HI.out.dinerAt hlt
      obtain ⟨x0, x1, x2⟩ := hcell wr HX.out
      have HY := Lib.hid hyk
      obtain ⟨y0, y1, y2⟩ := y
      dsimp only at x0 x1 x2 hsl
      obtain ⟨s, hs⟩ : ∃ s, p ⟨y0, y1, y2⟩ = s := ⟨_, rfl⟩
      have HH := Lib.hid (hs ▸ HS.out y0 y1 (.slice so y2.length sc) y2 wr (List.mem_of_getElem? hyk) HX.out (hsl.sl.ext HX.out))
      have HP := Lib.hid hs
      clear hs hcell hyk hn hsl
      cases s
      · go_wp2_with (go_at_fn g; refine HH.out.mono ?_; rintro e w1 ⟨rfl, hx⟩; have HX1 := Lib.hid (HX.out.trans hx); clear hx)
        go_roundw
        case rel => exact ⟨k + 1, by omega, by go_num, Lib.hid (first_up HT.out HY.out HP.out), HX1⟩
        case measure => simp [intOf]; omega
      · go_wp2_with (go_at_fn g; refine HH.out.mono ?_; rintro e w1 ⟨rfl, hx⟩; have HX1 := Lib.hid (HX.out.trans hx); clear hx)
        go_ret
        exact ⟨_, rfl, .inr ⟨k, _, rfl, HY.out, HP.out, HT.out⟩, HX1.out⟩
    · have hkl : k = L.length := by omega
      go_wp2
      go_ret
      exact ⟨_, rfl, .inl ⟨rfl, first_no hkl HT.out⟩, HX.out⟩
set_option maxHeartbeats 1000000 in
theorem containsFunc_dn (w : World) (v : Value) (L : List Dn) (g : FuncId) (lb : Array Value) (p : Dn → Bool) (eg : ∀ args w, (callFunc g args).run Tryz.prog w = .ok (.enter g args) w)
    (h : Ns DV Non w v L) (hs : ∀ (id ph : Int) (u : Value) (S : List Sd) W, (⟨id, ph, S⟩ : Dn) ∈ L → Ext w W → Sl W u S → Calls Tryz.prog g (#[.agg #[.int .i64 id, .int .i64 ph, u]] ++ lb) W fun e W' => e = .returned (.bool (p ⟨id, ph, S⟩)) ∧ Ext W W') (t : Bool) (ht : L.any p = t) :
    Calls Tryz.prog 108 #[v, .func (.func g) #[] lb] w fun e w' => e = .returned (.bool t) ∧ Ext w w' := by
  have HC := Lib.hid (indexFunc_dn w v L g lb p eg h hs)
  have HT := Lib.hid ht
  clear hs h eg ht
  go_enter Tryz.func108, Tryz.ntmps108
  go_wp2_with (go_at_call 146; refine HC.out.mono ?_; rintro e w1 ⟨r, rfl, hr, hx⟩; have HR := Lib.hid hr; have HX := Lib.hid hx; clear hr hx)
  go_ret
  exact ⟨ret_bool (HR.out.any.symm.trans HT.out), HX.out⟩
end Go.Proofs.YtfbambemjokmgaaGreat
namespace Go.Proofs.YtfbambemjokmgaaGreat
open Go.RowKit
structure Sm (L : List Dn) (M : List Ml) : Prop where
  n : L.length ≤ 100
  s : ∀ d ∈ L, d.sides.length ≤ 100
  m : M.length ≤ 1000
theorem any_not {α : Type} (p : α → Bool) : ∀ l : List α, l.any (fun x => !p x) = !l.all p
  | [] => rfl
  | x :: l => by rw [List.any_cons, List.all_cons, any_not p l]; cases p x <;> simp
theorem chk_bits (L : List Dn) (M : List Ml) : chkT L M = (graphB L && !(L.any fun d => !dnOk d) && !(M.any (strayB L))) := by
  unfold chkT
  rw [any_not]
  have h : M.any (strayB L) = M.any (fun m => !(nodeB L m.from_ && nodeB L m.to_ && !decide (m.from_ = m.to_))) := congrArg (fun f => M.any f) (funext fun m => by
    unfold strayB
    cases nodeB L m.from_ <;> cases nodeB L m.to_ <;> cases decide (m.from_ = m.to_) <;> rfl)
  rw [h, any_not]
  simp
set_option maxRecDepth 100000 in
set_option maxHeartbeats 4000000 in
theorem tCheck_any (w : World) (vd vm : Value) (L : List Dn) (M : List Ml) (h : SV w vd vm L M) (hl : Sm L M) (t : Bool) (ht : chkT L M = t) :
    Calls Tryz.prog 59 #[.agg #[vd, vm]] w fun e w' => e = .returned (.int .i64 (cond t 0 142)) ∧ Ext w w' := by
  have hmf : ∀ (fn : Fn) (first cap : Array Value) (w : World), (Instr.makeFunc fn first cap).run Tryz.prog w = .ok (.func fn first cap) w := fun _ _ _ _ => rfl
  obtain ⟨ao, c, bo, d, rfl, rfl⟩ := h.len
  obtain ⟨W1, hW1⟩ : ∃ W1, W1 = w.alloc (.cells #[.slice ao L.length c, .slice bo M.length d] 48) := ⟨_, rfl⟩
  have X0 : Hid (Ext w W1) := Lib.hid (hW1 ▸ (Ext.refl w).alloc _)
  have B1 : Hid (W1.heap[w.heap.size]? = some (.cells #[.slice ao L.length c, .slice bo M.length d] 48 (0, 0))) := Lib.hid (hW1 ▸ at0 w _)
  have HK : Hid (∀ V, Ext W1 V → V.cell? ⟨w.heap.size, 0, none⟩ = some (.slice ao L.length c) ∧ V.cell? ⟨w.heap.size, 1, none⟩ = some (.slice bo M.length d)) := Lib.hid fun V hV => cells2S (keepU B1.out hV)
  have HV := Lib.hid (h.ext X0.out)
  have HL := Lib.hid hl
  have HW1 := Lib.hid hW1
  have HT := Lib.hid ((chk_bits L M).symm.trans ht)
  obtain ⟨⟨N', E', tg⟩, hg⟩ : ∃ r, graphR L = r := ⟨_, rfl⟩
  have HGB : Hid (graphB L = tg) := Lib.hid (by
    unfold graphR at hg
    split at hg
    · next q => rw [q]; exact (three hg).2.2
    · next q => rw [Bool.not_eq_true] at q; rw [q]; exact (three hg).2.2)
  have HG := Lib.hid hg
  obtain ⟨n1, hn1⟩ : ∃ t, (L.any fun d => !dnOk d) = t := ⟨_, rfl⟩
  obtain ⟨n2, hn2⟩ : ∃ t, M.any (strayB L) = t := ⟨_, rfl⟩
  have HN1 := Lib.hid hn1
  have HN2 := Lib.hid hn2
  have HR : Hid (t = (tg && !n1 && !n2)) := Lib.hid (by rw [← HT.out, HGB.out, hn1, hn2])
  obtain ⟨k0, k1⟩ := HK.out W1 (Ext.refl _)
  clear h hl ht hW1 hg hn1 hn2
  go_enter Tryz.func59, Tryz.ntmps59
  go_upto_region 3 with (fail)
  rw [← HW1.out]
  go_upto_region 4 with (first
    | (go_at_call 107; refine (pGraph_any W1 _ L HV.out.ds HL.out.n HL.out.s N' E' tg HG.out).mono ?_; rintro e w1 ⟨gv, rfl, hs, hx⟩; obtain ⟨ga, gc, rfl⟩ := hs.len; have X1 := Lib.hid hx; clear hs hx))
  obtain ⟨W2, hW2⟩ : ∃ W2, W2 = w1.alloc (.cells #[.int .i64 N', .slice ga E'.length gc] 53) := ⟨_, rfl⟩
  have X2 : Hid (Ext W1 W2) := Lib.hid (hW2 ▸ X1.out.alloc _)
  obtain ⟨j0, j1⟩ := HK.out W2 X2.out
  (try rw [← hW2])
  clear hW2 k0 k1
  cases tg
  · go_wp2
    go_ret
    exact ⟨by rw [HR.out]; rfl, X0.out.trans X2.out⟩
  cases n1
  · cases n2
    all_goals
      go_wp2_with (first
        | (go_at_call 108; refine (containsFunc_dn W2 _ L 104 #[] (fun d => !dnOk d) (enters_of Tryz.func104 (by kernel_rfl) rfl) (HV.out.ds.ext X2.out) (fun id ph u S W _ _ hu => spoilt_one W id ph u S hu _ rfl) _ HN1.out).mono ?_; rintro e w3 ⟨rfl, hx⟩; have X3 := Lib.hid (X2.out.trans hx); obtain ⟨i0, i1⟩ := HK.out w3 X3.out; clear hx)
        | (go_at_call 109; refine (containsFunc_ml w3 _ M 105 #[.pointer (some ⟨w.heap.size, 0, none⟩)] (strayB L) (enters_of Tryz.func105 (by kernel_rfl) rfl) (HV.out.ms.ext X3.out) (fun m W _ hW => strays_one W w.heap.size _ _ L M (HV.out.ext (X3.out.trans hW)) (keepU B1.out (X3.out.trans hW)) m _ rfl) _ HN2.out).mono ?_; rintro e w4 ⟨rfl, hx⟩; have X4 := Lib.hid (X3.out.trans hx); clear hx))
      go_ret
      exact ⟨by rw [HR.out]; rfl, X0.out.trans X4.out⟩
  · go_wp2_with (first
      | (go_at_call 108; refine (containsFunc_dn W2 _ L 104 #[] (fun d => !dnOk d) (enters_of Tryz.func104 (by kernel_rfl) rfl) (HV.out.ds.ext X2.out) (fun id ph u S W _ _ hu => spoilt_one W id ph u S hu _ rfl) _ HN1.out).mono ?_; rintro e w3 ⟨rfl, hx⟩; have X3 := Lib.hid (X2.out.trans hx); clear hx))
    go_ret
    exact ⟨by rw [HR.out]; rfl, X0.out.trans X3.out⟩
end Go.Proofs.YtfbambemjokmgaaGreat
namespace Go.Proofs.YtfbambemjokmgaaGreat
open Go.RowKit
set_option maxRecDepth 100000 in
set_option maxHeartbeats 2000000 in
theorem equal_m (w : World) (v1 v2 : Value) (L M : List Ml) (h : Sl w v1 L) (g : Sl w v2 M) (t : Bool) (ht : decide (L = M) = t) :
    Calls Tryz.prog 70 #[v1, v2] w fun e w' => e = .returned (.bool t) ∧ Ext w w' := by
  obtain ⟨ao1, c1, rfl⟩ := h.len
  obtain ⟨ao2, c2, rfl⟩ := g.len
  have l1 := h.length_le
  have l2 := g.length_le
  have HS := Lib.hid h
  have HM := Lib.hid g
  have HE := Lib.hid ht
  clear h g ht
  by_cases e3 : L.length = M.length
  · have q3 : ((L.length : Int) != (M.length : Int)) = false := by simp [e3]
    have HL3 := Lib.hid e3
    clear e3
    go_enter Tryz.func70, Tryz.ntmps70
    go_wp2
    go_loopw [13] (fun i wr => ∃ k : Nat, k ≤ L.length ∧ i = .int .i64 k ∧ Hid (L.take k = M.take k) ∧ Hid (Ext w wr)) (fun i _ => L.length - (intOf i).toNat)
    case atStart => exact ⟨0, Nat.zero_le _, rfl, Lib.hid rfl, Lib.hid (Ext.refl _)⟩
    case round =>
      obtain ⟨k, hk, rfl, HQ, HX⟩ := hrel
      by_cases hlt : k < L.length
      · have hltM : k < M.length := by have := HL3.out; omega
        obtain ⟨b1, o1, y, _, hyk, rfl, hn, hnc, hc63, hb, hcell⟩ := HS.out.mailAt hlt
        obtain ⟨b2, o2, z, _, hzk, rfl, hn', hnc', hc63', hb', hcell'⟩ := HM.out.mailAt hltM
        have HCY : Hid (∀ V, Ext wr V → _) := Lib.hid fun V hV => hcell V (HX.out.trans hV)
        have HCZ : Hid (∀ V, Ext wr V → _) := Lib.hid fun V hV => hcell' V (HX.out.trans hV)
        have HN := Lib.hid (take_eqD hyk hzk)
        obtain ⟨s, hs⟩ : ∃ s, decide (y = z) = s := ⟨_, rfl⟩
        have HYZ := Lib.hid hs
        obtain ⟨y0, y1, y2, y3, y4⟩ := y
        obtain ⟨z0, z1, z2, z3, z4⟩ := z
        have HNQ := Lib.hid (neq_Ml y0 y1 y2 y3 y4 z0 z1 z2 z3 z4 s hs)
        clear hcell hcell' hyk hzk hn hn' hs
        dsimp only at HCY HCZ
        cases s
        all_goals
          go_wp2_with fail
          (refine wp_region_X_lit (K := fun W => Ext wr W) (by kernel_rfl) (fun w1 hw1 => ?_))
          have HX1 := Lib.hid (HX.out.trans hw1)
          have HW1 := Lib.hid hw1
          clear hw1
          refine xtv 0 (h := ?_)
          refine xtv 1 (h := ?_)
          refine xtv 2 (h := ?_)
          refine xtv 3 (hv := by intro w' hw'; obtain ⟨⟨a0, a1⟩, a2, a3, a4⟩ := HCY.out w' hw'; go_simp; first | done | with_reducible rfl) (h := ?_)
          refine xtv 4 (h := ?_)
          refine xtv 5 (h := ?_)
          refine xtv 6 (h := ?_)
          refine xtv 7 (hv := by intro w' hw'; obtain ⟨⟨a0, a1⟩, a2, a3, a4⟩ := HCZ.out w' hw'; go_simp; first | done | with_reducible rfl) (h := ?_)
          refine xtv 8 (hv := by intro w' hw'; obtain ⟨q1, q2⟩ := HNQ.out; go_simp; first | done | with_reducible rfl) (h := ?_)
          (refine xdone (by kernel_rfl) (HW1.out) ?_)
        · go_wp2
          go_ret
          exact ⟨ret_bool (by
            rw [← HE.out]
            exact (decide_eq_false fun e => of_decide_eq_false HYZ.out ((HN.out.1 (by rw [e])).2)).symm), HX1.out⟩
        · go_wp2
          go_roundw
          case rel => exact ⟨k + 1, by omega, by go_num, Lib.hid (HN.out.2 ⟨HQ.out, of_decide_eq_true HYZ.out⟩), HX1⟩
          case measure => simp [intOf]; omega
      · have hkl : k = L.length := by omega
        have HF : Hid (true = t) := Lib.hid (by
          have hq := HQ.out
          rw [hkl, List.take_length, HL3.out, List.take_length] at hq
          rw [← HE.out, decide_eq_true hq])
        go_wp2
        go_ret
        exact ⟨ret_bool HF.out, HX.out⟩
  · have q3 : ((L.length : Int) != (M.length : Int)) = true := by simp; omega
    have HF : Hid (false = t) := Lib.hid (by rw [← HE.out, decide_eq_false fun e => e3 (by rw [e])])
    clear e3
    go_enter Tryz.func70, Tryz.ntmps70
    go_wp2
    go_ret
    exact ⟨ret_bool HF.out, Ext.refl _⟩
theorem grow_m (w : World) (n : Nat) (hn : n ≤ 2000000) : Calls Tryz.prog 136 #[.slice none 0 0, .int .i64 n] w (GivesOw w ([] : List Ml)) := by
  by_cases h0 : n = 0
  · subst h0
    refine (Any8.slices_Grow_room Tryz.grow136 none 0 0 0 w (by omega) (by omega) (by omega) (by omega)).mono ?_
    rintro e w' ⟨rfl, rfl⟩
    exact ⟨_, rfl, Ow.nil _ _, Below.refl _ _⟩
  · obtain ⟨i0, hi, hz0, hz1, hz2⟩ := info_parts (Elem.info (α := Ml))
    have hz1 : i0.size = 5 := hz1
    have hz2 : i0.bytes = 40 := hz2
    have hz0 : i0.zero = some (.agg #[.int .i64 0, .int .i64 0, .int .i64 0, .int .i64 0, .int .i64 0]) := hz0
    refine (Any8.slices_Grow_grow Tryz.grow136 i0 (.agg #[.int .i64 0, .int .i64 0, .int .i64 0, .int .i64 0, .int .i64 0]) hi hz0 (by omega) none 0 0 n [] w (by omega) (by omega) (by rw [hz2]; omega) (by omega) (by simp) (by simp) (by simp)).mono ?_
    rintro e w' ⟨rfl, rfl⟩
    have hm := grownCap_le_maxLen w (0 + n) 0 95 (by unfold maxLen; omega)
    have hge := grownCap_ge w (0 + n) 0 95
    refine ⟨_, rfl, ?_, ((Below.refl _ w).drew).alloc (Nat.le_refl _) _⟩
    refine World.ownsRow_made w.drew _ _ (Nat.le_refl _) hm ?_
    simp [size_zeroCells]
    have : (Value.agg #[.int .i64 0, .int .i64 0, .int .i64 0, .int .i64 0, .int .i64 0]).cells.size = 5 := rfl
    rw [this]
    have e1 : Tryz.grow136_ren.t 25 = 95 := rfl
    rw [e1]
    rw [Nat.zero_add] at hge
    show _ = _ * 5
    omega
theorem growI_m (w : World) (m : Int) (h0 : 0 ≤ m) (h1 : m ≤ 2000000) : Calls Tryz.prog 136 #[.slice none 0 0, .int .i64 m] w (GivesOw w ([] : List Ml)) := by
  have := grow_m w m.toNat (by omega)
  rwa [show ((m.toNat : Nat) : Int) = m from by omega] at this
set_option maxHeartbeats 1000000 in
set_option maxHeartbeats 2000000 in
theorem concat_m (w : World) (B : Nat) (v0 v1 : Value) (xs ys : List Ml) (hB : B < w.heap.size) (c0 : w.cell? ⟨B, 0, none⟩ = some v0) (c1 : w.cell? ⟨B, 1, none⟩ = some v1)
    (h0 : Sl w v0 xs) (h1 : Sl w v1 ys) (l0 : xs.length ≤ 1000) (l1 : ys.length ≤ 1000) :
    Calls Tryz.prog 92 #[.slice (some ⟨B, 0, none⟩) 2 2] w (GivesOw w (xs ++ ys)) := by
  obtain ⟨a0, k0, rfl⟩ := h0.len
  obtain ⟨a1, k1, rfl⟩ := h1.len
  have H0 := Lib.hid h0
  have H1 := Lib.hid h1
  clear h0 h1
  have HK : Hid (∀ V, Ext w V → V.cell? ⟨B, 0, none⟩ = some (.slice a0 xs.length k0) ∧ V.cell? ⟨B, 1, none⟩ = some (.slice a1 ys.length k1)) := Lib.hid fun V x =>
    ⟨(x.cell (p := ⟨B, 0, none⟩) hB).trans c0, (x.cell (p := ⟨B, 1, none⟩) hB).trans c1⟩
  go_enter Tryz.func92, Tryz.ntmps92
  go_wp2
  refine wp_loop_rounds 3 ?_
  rw [rounds_succ]; go_wp2
  rw [rounds_succ]; go_wp2
  rw [rounds_succ]
  clear c0 c1
  go_wp2_with (go_at_call 136; refine (growI_m _ _ (by omega) (by omega)).mono ?_; rintro e w1 ⟨v1, rfl, ho, x1⟩; obtain ⟨ao1, n1, q1, rfl⟩ := ho.sh; have O1 := Lib.hid ho; obtain ⟨c0, c1⟩ := HK.out w1 x1; have hs1 : w.heap.size ≤ w1.heap.size := x1.size; clear ho)
  refine wp_loop_rounds 3 ?_
  rw [rounds_succ]
  go_wp2_with ((at_builtin; refine wpList_append_sl (α := Ml) rfl (.tmp 31) (.tmp 32) rfl w.heap.size _ [] rfl ?_ _ xs rfl ?_ ?_ ?_ ?_; exact O1.out; exact (H0.out.ext x1); (first | omega | (simp; omega)); omega; intro v2 W2 ho2 ha2; obtain ⟨ao2, n2, q2, rfl⟩ := ho2.sh; have O2 := Lib.hid ho2; have x2 : Ext w W2 := Below.trans x1 ha2.below; obtain ⟨d0, d1⟩ := HK.out W2 x2; have hs2 : w.heap.size ≤ W2.heap.size := x2.size; clear ho2 ha2))
  rw [rounds_succ]
  go_wp2_with ((at_builtin; refine wpList_append_sl (α := Ml) rfl (.tmp 31) (.tmp 32) rfl w.heap.size _ ([] ++ xs) rfl ?_ _ ys rfl ?_ ?_ ?_ ?_; exact O2.out; exact (H1.out.ext x2); (first | omega | (simp; omega)); omega; intro v3 W3 ho3 ha3; obtain ⟨ao3, n3, q3, rfl⟩ := ho3.sh; have O3 := Lib.hid ho3; have x3 : Ext w W3 := Below.trans x2 ha3.below; have hs3 : w.heap.size ≤ W3.heap.size := x3.size; clear ho3 ha3))
  rw [rounds_succ]
  go_wp2
  go_ret
  exact ⟨_, rfl, by have := O3.out; simpa using this, x3⟩
end Go.Proofs.YtfbambemjokmgaaGreat
namespace Go.Proofs.YtfbambemjokmgaaGreat
open Go.RowKit
set_option maxRecDepth 100000 in
set_option maxHeartbeats 2000000 in
theorem tNew_bad (w : World) (N : Int) (v : Value) (E : List Edge) (h : Sl w v E) (ok : ¬ OkG N E) :
    Calls Tryz.prog 84 #[.agg #[.int .i64 N, v]] w (GivesS w (noS, 30)) := by
  obtain ⟨vo, vn, vc, rfl⟩ := h.sh
  obtain ⟨W0, hW0⟩ : ∃ W0, W0 = (w.alloc (.cells #[.int .i64 N, .slice vo vn vc] 53)).alloc (.cells #[.slice none 0 0, .slice none 0 0] 48) := ⟨_, rfl⟩
  have X0 : Hid (Ext w W0) := Lib.hid (hW0 ▸ ((Ext.refl w).alloc _).alloc _)
  have B0 : Hid (W0.heap[w.heap.size]? = some (.cells #[.int .i64 N, .slice vo vn vc] 53 (0, 0))) := Lib.hid (hW0 ▸ old1 (at0 w _) _)
  have R0 : Hid (W0.heap[w.heap.size + 1]? = some (.cells #[.slice none 0 0, .slice none 0 0] 48 (0, 0))) := Lib.hid (hW0 ▸ at1 w _ _)
  have HW0 := Lib.hid hW0
  have HC := Lib.hid (run_bad W0 N _ E (h.ext X0.out) ok)
  obtain ⟨k0, k1⟩ := cells2S B0.out
  clear h hW0 ok
  go_enter Tryz.func84, Tryz.ntmps84
  go_upto_region 1 with (fail)
  rw [← HW0.out]
  go_wp2_with (first
    | (go_at_call 130; refine HC.out.mono ?_; rintro e w1 ⟨v1, rfl, s1, hx⟩; obtain ⟨a1, n1, c1, rfl⟩ := s1.sh; have X1 := Lib.hid hx; clear hx s1)
    | refine haltst 48 ?_)
  refine .inl ?_
  refine st_l 48 (.tmp 2) (.tmp 16) (w.heap.size + 1) 0 48 _ #[.slice none 0 0, .slice none 0 0] _ rfl rfl (keepU R0.out X1.out) (by kernel_rfl) (by simp) rfl rfl ?_
  intro W9 hW9 o9
  simp only [Act.put]
  go_wp2
  exact bodyPost_ret (v := .tuple #[.agg #[.slice none 0 0, .slice none 0 0], .int .i64 30]) (res_ct 3 rfl rfl hW9 uScene (by kernel_rfl)) rfl (givesS_no rfl (ext_off (X0.out.trans X1.out) o9 (fun b hb => by omega)))
set_option maxRecDepth 100000 in
set_option maxHeartbeats 2000000 in
theorem tNew_ok (w : World) (N : Int) (v : Value) (E : List Edge) (h : Sl w v E) (ok : OkG N E) (K : Nat) (hK : Ends N E K) :
    Calls Tryz.prog 84 #[.agg #[.int .i64 N, v]] w (GivesS w ((tableL N E (itr N E K), []), 0)) := by
  obtain ⟨vo, vn, vc, rfl⟩ := h.sh
  obtain ⟨W0, hW0⟩ : ∃ W0, W0 = (w.alloc (.cells #[.int .i64 N, .slice vo vn vc] 53)).alloc (.cells #[.slice none 0 0, .slice none 0 0] 48) := ⟨_, rfl⟩
  have X0 : Hid (Ext w W0) := Lib.hid (hW0 ▸ ((Ext.refl w).alloc _).alloc _)
  have B0 : Hid (W0.heap[w.heap.size]? = some (.cells #[.int .i64 N, .slice vo vn vc] 53 (0, 0))) := Lib.hid (hW0 ▸ old1 (at0 w _) _)
  have R0 : Hid (W0.heap[w.heap.size + 1]? = some (.cells #[.slice none 0 0, .slice none 0 0] 48 (0, 0))) := Lib.hid (hW0 ▸ at1 w _ _)
  have HW0 := Lib.hid hW0
  have HS := Lib.hid (h.ext X0.out)
  have HC := Lib.hid (run_ok W0 N _ E (h.ext X0.out) ok K hK)
  have HP : Hid (placeR N E (itr N E K) = 0) := Lib.hid (by unfold placeR; rw [okG_iff.2 ok, hK.right ok]; rfl)
  obtain ⟨T, hT⟩ : ∃ T, tableL N E (itr N E K) = T := ⟨_, rfl⟩
  have HT : Hid ((if (0 : Int) = 0 then tableL N E (itr N E K) else []) = T) := Lib.hid (by rw [if_pos rfl, hT])
  have HTT := Lib.hid hT
  obtain ⟨k0, k1⟩ := cells2S B0.out
  clear h hW0 ok hT
  go_enter Tryz.func84, Tryz.ntmps84
  go_upto_region 1 with (fail)
  rw [← HW0.out]
  go_wp2_with (first
    | (go_at_call 130; refine HC.out.mono ?_; rintro e w1 ⟨v1, rfl, s1, hx⟩; obtain ⟨a1, n1, c1, rfl⟩ := s1.sh; have X1 := Lib.hid hx; have S1 := Lib.hid s1; obtain ⟨j0, j1⟩ := cells2S (keepU B0.out hx); clear hx s1)
    | (go_at_call 131; refine (pTable_any w1 N _ _ E (itr N E K) (HS.out.ext X1.out) S1.out 0 HP.out T HT.out).mono ?_; rintro e w2 ⟨v2, rfl, s2, hx⟩; obtain ⟨a2, c2, rfl⟩ := s2.len; have X2 := Lib.hid (X1.out.trans hx); have S2 := Lib.hid s2; clear hx s2)
    | refine haltst 48 ?_)
  refine .inl ?_
  have RC := Lib.hid (keepU R0.out X2.out)
  refine st_l 48 (.tmp 2) (.tmp 25) (w.heap.size + 1) 0 48 _ #[.slice a2 T.length c2, .slice none 0 0] _ rfl rfl RC.out (by kernel_rfl) (by simp) rfl rfl ?_
  intro W9 hW9 o9
  simp only [Act.put]
  go_wp2
  exact bodyPost_ret (v := .tuple #[.agg #[.slice a2 T.length c2, .slice none 0 0], .int .i64 0]) (res_ct 3 rfl rfl hW9 uScene (by kernel_rfl)) rfl (by
    rw [HTT.out]
    exact ⟨_, _, rfl, (SV.mk S2.out (slNoneU _)).off RC.out o9, ext_off (X0.out.trans X2.out) o9 (fun b hb => by omega)⟩)
end Go.Proofs.YtfbambemjokmgaaGreat
namespace Go.Proofs.YtfbambemjokmgaaGreat
structure Dk where
  id : Int
  phase : Int
  sides : List Sd
  thirst : Int
  need : List Int
deriving DecidableEq
def Dk.dn (d : Dk) : Dn := ⟨d.id, d.phase, d.sides⟩
def isOpening (L : List Sd) : Bool := L.any fun s => decide (s.state = 1)
def turnK (t : Int) (op : Bool) (ph : Int) : Int := if t = 1 ∧ ph = 0 then 1 else if t ≠ 1 ∧ ph = 2 ∧ op = false then 0 else ph
def needsB (need : List Int) (s : Sd) : Bool := decide (s.peer ∈ need)
def keptB (t : Int) (need : List Int) (s : Sd) : Bool := needsB need s && (decide (t = 2) || (decide (t = 1) && s.fork))
def pours (t : Int) (need : List Int) (s : Sd) : Bool := s.bottle && s.ask && !keptB t need s
def poured (t : Int) (need : List Int) (s : Sd) : Sd := if pours t need s = true then { s with bottle := false } else s
def asksK (t : Int) (need : List Int) (s : Sd) : Bool := needsB need s && decide (t = 1) && s.ask && !s.bottle
def bottleS (t : Int) (need : List Int) (s : Sd) : Sd := if asksK t need (poured t need s) = true then { poured t need s with ask := false } else poured t need s
def bottleM (id t : Int) (need : List Int) (s : Sd) : List Ml := (if pours t need s = true then [⟨id, s.peer, 3, s.epoch, 0⟩] else []) ++ (if asksK t need (poured t need s) = true then [⟨id, s.peer, 4, s.epoch, 0⟩] else [])
def missB (need : List Int) (L : List Sd) : Bool := L.any fun s => needsB need s && !s.bottle
def preK (d : Dk) : Dn := ⟨d.id, turnK d.thirst (isOpening d.sides) d.phase, d.sides⟩
def onceK (d : Dk) : Dk × List Ml :=
  (⟨(fireD (preK d)).id, (fireD (preK d)).phase, (fireD (preK d)).sides.map (bottleS d.thirst d.need), if d.thirst = 1 ∧ missB d.need ((fireD (preK d)).sides.map (bottleS d.thirst d.need)) = false then 2 else d.thirst, d.need⟩,
    fireMl (preK d) ++ (fireD (preK d)).sides.flatMap (bottleM d.id d.thirst d.need))
def thing (s : Sd) : Nat := cond s.fork 1 0 + cond s.token 1 0 + cond s.bottle 1 0 + cond s.ask 1 0
def things (L : List Sd) : Nat := (L.map thing).sum
def rankK (t ph : Int) : Nat := if t = 1 then (if ph = 0 then 6 else if ph = 1 then 5 else 4) else (if ph = 1 then 3 else if ph = 2 then 2 else 1)
def leftK (d : Dk) : Nat := 7 * things d.sides + rankK d.thirst d.phase
theorem fireS1_thing (id ph : Int) (s : Sd) : thing (fireS1 ph s) + (fireM1 id ph s).length = thing s ∧ ((fireM1 id ph s) = [] → fireS1 ph s = s) := by
  obtain ⟨p, e, t, f, di, k, b, a⟩ := s
  by_cases h1 : ph = 1
  · subst h1
    cases f <;> cases di <;> cases k <;> cases b <;> cases a <;> simp [fireS1, fireM1, gone, asked, hot, wants, thing]
  · by_cases h2 : ph = 2
    · subst h2
      cases f <;> cases di <;> cases k <;> cases b <;> cases a <;> simp [fireS1, fireM1, gone, asked, hot, wants, thing]
    · cases f <;> cases di <;> cases k <;> cases b <;> cases a <;> simp [fireS1, fireM1, gone, asked, hot, wants, thing, h1, h2]
theorem bottleS_thing (id t : Int) (need : List Int) (s : Sd) : thing (bottleS t need s) + (bottleM id t need s).length = thing s ∧ ((bottleM id t need s) = [] → bottleS t need s = s) := by
  unfold bottleS bottleM
  by_cases h1 : pours t need s = true
  · have hb : s.bottle = true := by unfold pours at h1; simp only [Bool.and_eq_true] at h1; exact h1.1.1
    have hp : poured t need s = { s with bottle := false } := by unfold poured; rw [if_pos h1]
    rw [if_pos h1, hp]
    have hth : thing { s with bottle := false } + 1 = thing s := by unfold thing; rw [hb]; simp; omega
    by_cases h2 : asksK t need { s with bottle := false } = true
    · have ha : s.ask = true := by unfold asksK at h2; simp only [Bool.and_eq_true] at h2; exact h2.1.2
      rw [if_pos h2, if_pos h2]
      refine ⟨?_, fun h => by simp at h⟩
      unfold thing at *
      rw [ha, hb]; simp <;> omega
    · rw [if_neg h2, if_neg h2]
      exact ⟨by simpa using hth, fun h => by simp at h⟩
  · have hp : poured t need s = s := by unfold poured; rw [if_neg h1]
    rw [if_neg h1, hp]
    by_cases h2 : asksK t need s = true
    · have ha : s.ask = true := by unfold asksK at h2; simp only [Bool.and_eq_true] at h2; exact h2.1.2
      rw [if_pos h2, if_pos h2]
      refine ⟨?_, fun h => by simp at h⟩
      unfold thing; rw [ha]; simp
    · rw [if_neg h2, if_neg h2]
      exact ⟨rfl, fun _ => rfl⟩
theorem things_map {f : Sd → Sd} {g : Sd → List Ml} (h : ∀ s, thing (f s) + (g s).length = thing s) : ∀ L : List Sd, things (L.map f) + (L.flatMap g).length = things L
  | [] => rfl
  | s :: L => by
    have ih := things_map h L
    have hs := h s
    unfold things at *
    rw [List.map_cons, List.map_cons, List.sum_cons, List.flatMap_cons, List.length_append, List.map_cons, List.sum_cons]
    omega
theorem flatK_nil {f : Sd → Sd} {g : Sd → List Ml} (h : ∀ s, g s = [] → f s = s) : ∀ {L : List Sd}, L.flatMap g = [] → L.map f = L
  | [], _ => rfl
  | s :: L, e => by
    rw [List.flatMap_cons, List.append_eq_nil_iff] at e
    rw [List.map_cons, h s e.1, flatK_nil h e.2]
theorem things_dirty (L : List Sd) : things (dirtyAll L) = things L := by
  unfold things dirtyAll
  rw [List.map_map]; rfl
theorem fireD_things (d : Dn) : things (fireD d).sides + (fireMl d).length = things d.sides := by
  have h := things_map (f := fireS1 d.phase) (g := fireM1 d.id d.phase) (fun s => (fireS1_thing d.id d.phase s).1) d.sides
  unfold fireD
  split
  · dsimp only
    rw [things_dirty]; exact h
  · exact h
theorem once_things (d : Dk) : things (onceK d).1.sides + (onceK d).2.length = things d.sides := by
  have h1 := fireD_things (preK d)
  have h2 := things_map (f := bottleS d.thirst d.need) (g := bottleM d.id d.thirst d.need) (fun s => (bottleS_thing d.id d.thirst d.need s).1) (fireD (preK d)).sides
  unfold onceK
  dsimp only
  rw [List.length_append]
  have : (preK d).sides = d.sides := rfl
  rw [this] at h1
  omega
theorem fireD_ways (d : Dn) : (fireD d).id = d.id ∧ ((fireD d).phase = d.phase ∧ (fireD d).sides = fireSs d.phase d.sides ∨ d.phase = 1 ∧ (fireD d).phase = 2 ∧ (fireD d).sides = dirtyAll (fireSs d.phase d.sides)) := by
  unfold fireD
  split
  · next h =>
    refine ⟨rfl, .inr ⟨?_, rfl, rfl⟩⟩
    unfold eats at h
    simp only [Bool.and_eq_true, decide_eq_true_eq] at h
    exact h.1
  · exact ⟨rfl, .inl ⟨rfl, rfl⟩⟩
theorem once_rank (d : Dk) : rankK (onceK d).1.thirst (onceK d).1.phase < rankK d.thirst d.phase ∨ ((onceK d).1.thirst = d.thirst ∧ (onceK d).1.phase = d.phase ∧ (preK d).phase = d.phase ∧ (fireD (preK d)).sides = fireSs d.phase d.sides) := by
  obtain ⟨_, hw⟩ := fireD_ways (preK d)
  have ht : (onceK d).1.thirst = d.thirst ∨ d.thirst = 1 ∧ (onceK d).1.thirst = 2 := by
    unfold onceK
    dsimp only
    split
    · next h => exact .inr ⟨h.1, rfl⟩
    · exact .inl rfl
  have hp : (onceK d).1.phase = (fireD (preK d)).phase := rfl
  have hpre : (preK d).phase = d.phase ∨ d.thirst = 1 ∧ d.phase = 0 ∧ (preK d).phase = 1 ∨ d.thirst ≠ 1 ∧ d.phase = 2 ∧ (preK d).phase = 0 := by
    unfold preK turnK
    dsimp only
    split
    · next h => exact .inr (.inl ⟨h.1, h.2, rfl⟩)
    · split
      · next h => exact .inr (.inr ⟨h.1, h.2.1, rfl⟩)
      · exact .inl rfl
  rw [hp]
  have hsd : (preK d).sides = d.sides := rfl
  rcases ht with ht | ⟨ht1, ht2⟩
  · rw [ht]
    rcases hw with ⟨w1, w2⟩ | ⟨w1, w2, w3⟩
    · rcases hpre with e | ⟨e1, e2, e3⟩ | ⟨e1, e2, e3⟩
      · exact .inr ⟨rfl, w1.trans e, e, by rw [w2, e, hsd]⟩
      · left; rw [w1, e3, e1, e2]; decide
      · left; rw [w1, e3, e2]; unfold rankK; rw [if_neg e1, if_neg e1]; decide
    · left
      rw [w2]
      rcases hpre with e | ⟨e1, e2, e3⟩ | ⟨e1, e2, e3⟩
      · rw [← e, w1]; unfold rankK; split <;> decide
      · rw [e1, e2]; decide
      · rw [w1] at e3; omega
  · left
    rw [ht2, ht1]
    unfold rankK
    rw [if_neg (by omega), if_pos rfl]
    split <;> split <;> (try split) <;> (try split) <;> omega
theorem once_less {d : Dk} (h : (onceK d).1 ≠ d) : leftK (onceK d).1 < leftK d := by
  have h1 := once_things d
  unfold leftK
  have hr : ∀ t ph, rankK t ph ≤ 6 := fun t ph => by unfold rankK; split <;> split <;> (try split) <;> omega
  have hr1 : ∀ t ph, 1 ≤ rankK t ph := fun t ph => by unfold rankK; split <;> split <;> (try split) <;> omega
  rcases once_rank d with h2 | ⟨e1, e2, e3, e4⟩
  · omega
  · rw [e1, e2]
    by_cases hl : (onceK d).2.length = 0
    · exfalso
      have hnil := List.eq_nil_of_length_eq_zero hl
      unfold onceK at hnil
      dsimp only at hnil
      rw [List.append_eq_nil_iff] at hnil
      have s1 : fireSs d.phase d.sides = d.sides := by
        have hm : d.sides.flatMap (fireM1 d.id d.phase) = [] := by
          have := hnil.1
          unfold fireMl fireMs at this
          rw [e3] at this
          exact this
        exact flatK_nil (fun s hs => (fireS1_thing d.id d.phase s).2 hs) hm
      have s2 : (fireD (preK d)).sides.map (bottleS d.thirst d.need) = (fireD (preK d)).sides := flatK_nil (fun s hs => (bottleS_thing d.id d.thirst d.need s).2 hs) hnil.2
      apply h
      have i1 : (onceK d).1.sides = d.sides := by
        show (fireD (preK d)).sides.map (bottleS d.thirst d.need) = d.sides
        rw [s2, e4, s1]
      have i2 : (onceK d).1.id = d.id := (fireD_ways (preK d)).1
      have i3 : (onceK d).1.need = d.need := rfl
      generalize onceK d = q at *
      obtain ⟨⟨q1, q2, q3, q4, q5⟩, q6⟩ := q
      obtain ⟨d1, d2, d3, d4, d5⟩ := d
      dsimp only at *
      subst i1 i2 i3 e1 e2
      rfl
    · omega
theorem once_nil {d : Dk} (h : (onceK d).1 = d) : (onceK d).2 = [] := by
  have := once_things d
  rw [h] at this
  exact List.eq_nil_of_length_eq_zero (by omega)
def fireN : Nat → Dk → Dk × List Ml
  | 0, d => (d, [])
  | n + 1, d => if (onceK d).1 = d then (d, []) else ((fireN n (onceK d).1).1, (onceK d).2 ++ (fireN n (onceK d).1).2)
theorem fireN_same : ∀ {n m : Nat} {d : Dk}, leftK d < n → leftK d < m → fireN n d = fireN m d
  | 0, _, _, h, _ => by omega
  | _ + 1, 0, _, _, h => by omega
  | n + 1, m + 1, d, h1, h2 => by
    unfold fireN
    by_cases e : (onceK d).1 = d
    · rw [if_pos e, if_pos e]
    · have := once_less e
      rw [if_neg e, if_neg e, fireN_same (n := n) (m := m) (by omega) (by omega)]
def fireAll (d : Dk) : Dk × List Ml := fireN (leftK d + 1) d
theorem fireAll_end {d : Dk} (h : (onceK d).1 = d) : fireAll d = (d, []) := by
  unfold fireAll fireN
  rw [if_pos h]
theorem fireAll_on {d : Dk} (h : (onceK d).1 ≠ d) : fireAll d = ((fireAll (onceK d).1).1, (onceK d).2 ++ (fireAll (onceK d).1).2) := by
  have hl := once_less h
  have e : fireAll d = fireN (leftK d + 1) d := rfl
  rw [e]
  unfold fireN
  rw [if_neg h, fireN_same (n := leftK d) (m := leftK (onceK d).1 + 1) hl (by omega)]
  rfl
theorem fireAll_keeps {I : Dk → Prop} (hI : ∀ d, I d → I (onceK d).1) : ∀ {n : Nat} {d : Dk}, leftK d < n → I d → I (fireAll d).1
  | 0, _, h, _ => by omega
  | n + 1, d, h, hd => by
    by_cases e : (onceK d).1 = d
    · rw [fireAll_end e]; exact hd
    · have := once_less e
      rw [fireAll_on e]
      exact fireAll_keeps hI (n := n) (by omega) (hI d hd)
theorem fireAll_still : ∀ {n : Nat} {d : Dk}, leftK d < n → (onceK (fireAll d).1).1 = (fireAll d).1
  | 0, _, h => by omega
  | n + 1, d, h => by
    by_cases e : (onceK d).1 = d
    · rw [fireAll_end e]; exact e
    · have := once_less e
      rw [fireAll_on e]
      exact fireAll_still (n := n) (by omega)
theorem fireAll_things : ∀ {n : Nat} {d : Dk}, leftK d < n → things (fireAll d).1.sides + (fireAll d).2.length = things d.sides
  | 0, _, h => by omega
  | n + 1, d, h => by
    by_cases e : (onceK d).1 = d
    · rw [fireAll_end e]; rfl
    · have hl := once_less e
      have h1 := once_things d
      have h2 := fireAll_things (n := n) (d := (onceK d).1) (by omega)
      rw [fireAll_on e, List.length_append]
      dsimp only
      omega
end Go.Proofs.YtfbambemjokmgaaGreat
namespace Go.Proofs.YtfbambemjokmgaaGreat
def riseB : List Int → Bool
  | [] => true
  | [_] => true
  | a :: b :: l => decide (a < b) && riseB (b :: l)
def chkK (d : Dk) : Bool := dnOk d.dn && (decide (0 ≤ d.thirst) && decide (d.thirst ≤ 2)) && !(decide (d.thirst = 0) && !d.need.isEmpty) && (d.need.all fun p => d.sides.any fun s => s.peer == p) && riseB d.need
theorem bottleS_keeps (t : Int) (need : List Int) (s : Sd) : (bottleS t need s).peer = s.peer ∧ (bottleS t need s).epoch = s.epoch ∧ (bottleS t need s).state = s.state ∧ (bottleS t need s).fork = s.fork ∧ (bottleS t need s).dirty = s.dirty ∧ (bottleS t need s).token = s.token := by
  unfold bottleS poured
  split <;> split <;> exact ⟨rfl, rfl, rfl, rfl, rfl, rfl⟩
theorem dnOk_turn {d : Dn} {q : Int} (h : dnOk d = true) (hq : q = d.phase ∨ q = 0 ∨ q = 1) : dnOk ⟨d.id, q, d.sides⟩ = true := by
  rcases hq with rfl | hq
  · exact h
  · unfold dnOk headD at *
    dsimp only at *
    simp only [Bool.and_eq_true, Bool.or_eq_true, decide_eq_true_eq] at *
    exact ⟨⟨h.1.1, by rcases hq with rfl | rfl <;> simp, h.1.2.2⟩, h.2⟩
theorem preK_ok {d : Dk} (h : dnOk d.dn = true) : dnOk (preK d) = true := by
  unfold preK turnK
  refine dnOk_turn (d := d.dn) h ?_
  split
  · exact .inr (.inr rfl)
  · split
    · exact .inr (.inl rfl)
    · exact .inl rfl
theorem dnOk_map {d : Dn} {f : Sd → Sd} (hf : ∀ s, (f s).peer = s.peer ∧ (f s).epoch = s.epoch ∧ (f s).state = s.state ∧ (f s).fork = s.fork ∧ (f s).dirty = s.dirty) (h : dnOk d = true) : dnOk ⟨d.id, d.phase, d.sides.map f⟩ = true := by
  unfold dnOk at *
  rw [Bool.and_eq_true] at *
  refine ⟨head_of h.1 rfl (.inl rfl) (by dsimp only; rw [List.length_map]), ?_⟩
  have key : ∀ (L : List Sd) (last : Int), sidesD d.id last L = true → sidesD d.id last (L.map f) = true := by
    intro L
    induction L with
    | nil => intro _ _; rfl
    | cons s L ih =>
      intro last h
      rw [sidesD_cons] at h
      rw [List.map_cons, sidesD_cons]
      obtain ⟨e1, e2, e3, e4, e5⟩ := hf s
      refine ⟨sideD_of h.1 e1 e2 e3 (by rw [e4, e5]; exact sideD_dirty h.1), ?_⟩
      rw [e1]
      exact ih _ h.2
  exact key _ _ h.2
theorem once_ok {d : Dk} (h : dnOk d.dn = true) : dnOk (onceK d).1.dn = true := by
  have h1 := dnOk_fire (preK_ok h)
  exact dnOk_map (f := bottleS d.thirst d.need) (fun s => by obtain ⟨e1, e2, e3, e4, e5, _⟩ := bottleS_keeps d.thirst d.need s; exact ⟨e1, e2, e3, e4, e5⟩) h1
theorem once_len (d : Dk) : (onceK d).1.sides.length = d.sides.length := by
  show ((fireD (preK d)).sides.map _).length = _
  rw [List.length_map, (fireD_len _).1]; rfl
theorem once_thirst (d : Dk) : (onceK d).1.thirst = d.thirst ∨ d.thirst = 1 ∧ (onceK d).1.thirst = 2 ∧ missB d.need (onceK d).1.sides = false := by
  show (if d.thirst = 1 ∧ missB d.need ((fireD (preK d)).sides.map (bottleS d.thirst d.need)) = false then (2 : Int) else d.thirst) = _ ∨ _
  by_cases h : d.thirst = 1 ∧ missB d.need ((fireD (preK d)).sides.map (bottleS d.thirst d.need)) = false
  · right
    refine ⟨h.1, ?_, h.2⟩
    show (if _ then (2 : Int) else d.thirst) = 2
    rw [if_pos h]
  · left; rw [if_neg h]
theorem fire_drinks {d : Dk} (h : d.thirst = 2) : (fireAll d).1.thirst = 2 := fireAll_keeps (I := fun d => d.thirst = 2) (fun d h => by
  rcases once_thirst d with e | ⟨_, e, _⟩
  · rw [e]; exact h
  · exact e) (Nat.lt_succ_self _) h
theorem fire_thirst {d : Dk} (h : d.thirst ≠ 1) : (fireAll d).1.thirst = d.thirst := fireAll_keeps (I := fun e => e.thirst = d.thirst) (fun e he => by
  rcases once_thirst e with q | ⟨q, _, _⟩
  · rw [q]; exact he
  · rw [he] at q; exact absurd q h) (Nat.lt_succ_self _) rfl
theorem fire_none {d : Dk} (h : d.thirst = 1) (hn : d.need = []) : (fireAll d).1.thirst = 2 := by
  have hm : ∀ L, missB d.need L = false := fun L => by
    unfold missB needsB
    rw [hn]
    simp
  have h1 : (onceK d).1.thirst = 2 := by
    show (if d.thirst = 1 ∧ missB d.need _ = false then (2 : Int) else d.thirst) = 2
    rw [if_pos ⟨h, hm _⟩]
  have hne : (onceK d).1 ≠ d := fun e => by rw [e] at h1; omega
  rw [fireAll_on hne]
  exact fire_drinks h1
end Go.Proofs.YtfbambemjokmgaaGreat
namespace Go.Proofs.YtfbambemjokmgaaGreat
open Go.RowKit
variable {w W W' : World} {id ph th : Int} {sv nv ov : Value} {s : Sd} {M : List Ml}
theorem bottle_out {id th : Int} {N : List Int} {s s1 s2 : Sd} {q q2 : Bool} (h1 : pours th N s = q) (hs1 : s1 = cond q { s with bottle := false } s) (h2 : asksK th N s1 = q2) (hs2 : s2 = cond q2 { s1 with ask := false } s1) :
    bottleS th N s = s2 ∧ bottleM id th N s = cond q [⟨id, s.peer, 3, s.epoch, 0⟩] [] ++ cond q2 [⟨id, s.peer, 4, s.epoch, 0⟩] [] := by
  have hp : poured th N s = s1 := by rw [hs1]; unfold poured; rw [h1]; cases q <;> rfl
  unfold bottleS bottleM
  rw [hp, h1, h2, hs2]
  cases q <;> cases q2 <;> exact ⟨rfl, rfl⟩
end Go.Proofs.YtfbambemjokmgaaGreat
namespace Go.Proofs.YtfbambemjokmgaaGreat
open Go.RowKit
theorem chk_dn {d : Dk} (h : chkK d = true) : dnOk d.dn = true := by
  unfold chkK at h
  simp only [Bool.and_eq_true] at h
  exact h.1.1.1.1
end Go.Proofs.YtfbambemjokmgaaGreat
