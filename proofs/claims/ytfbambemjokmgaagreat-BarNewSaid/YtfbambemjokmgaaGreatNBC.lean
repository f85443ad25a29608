/- Texts of this seat. -/
import Derived.Test.YtfbambemjokmgaaGreatNAW
namespace Go.Proofs.YtfbambemjokmgaaGreat
open Go.RowKit
theorem setTells_all (w : World) : Tells ival w (.func (.func 153) #[] #[]) (fun _ => true) :=
  ⟨153, _, rfl, enters_of Tryz.func153 (by kernel_rfl) rfl, fun W y hb => by
    change Calls Tryz.prog _ #[.int .i64 y] W _
    go_enter Tryz.func153, Tryz.ntmps153
    go_wp2
    go_ret
    exact ⟨rfl, Ext.refl _⟩⟩
theorem setOfE_any (w : World) (v : Value) (xs : List Int) (h : Sl w v xs) (hlen : xs.length ≤ 1000000) : Calls Tryz.prog 129 #[v] w (GivesOw w (norm xs)) := by
  have HS := Lib.hid h
  have hn : norm (xs.filter fun _ => true) = norm xs := by rw [List.filter_eq_self.2 (fun _ _ => rfl)]
  have HN := Lib.hid hn
  clear h hn
  go_enter Tryz.func129, Tryz.ntmps129
  go_wp2_with (go_at_call 152; refine (those_i _ _ _ xs _ HS.out (setTells_all _) hlen).mono ?_; rintro e w' ⟨v', rfl, ho, hb⟩; have HO := Lib.hid ho; have HB := Lib.hid hb; clear ho hb)
  go_ret
  exact ⟨_, rfl, by rw [← HN.out]; exact HO.out, HB.out⟩
theorem search_i (w : World) (v : Value) (s : List Int) (x : Int) (h : Sl w v s) (hs : SS s) (hl : s.length ≤ 1000000) :
    Calls Tryz.prog 168 #[v, .int .i64 x] w fun e w' => ∃ n : Int, e = .returned (.tuple #[.int .i64 n, .bool (decide (x ∈ s))]) ∧ Hid (Drew w w') := by
  rcases h.ints with ⟨rfl, ao, c, rfl⟩ | ⟨b, off, c, rfl, hc, hc63, hb, hpos, hcell⟩
  · refine (Tryz.slices_BinarySearch_int_empty ao c x w).mono ?_
    rintro e w' ⟨rfl, rfl⟩
    exact ⟨0, by simp, Drew.refl _⟩
  · refine (Tryz.slices_BinarySearch_int b off s.length c s x w (Nat.le_refl _) (by omega) hcell (by rw [List.take_length]; exact hs.imp fun h => by omega)).mono ?_
    rintro e w' ⟨rfl, q, rfl⟩
    exact ⟨((s.countP fun y => decide (y < x) : Nat) : Int), by rw [List.take_length]; simp, q, rfl⟩
theorem tells_in (w : World) (B : Nat) (v : Value) (s : List Int) (hB : B < w.heap.size) (hc : w.cell? ⟨B, 0, none⟩ = some v) (h : Sl w v s) (hs : SS s) (hl : s.length ≤ 1000000) :
    Tells ival w (.func (.func 167) #[] #[.pointer (some ⟨B, 0, none⟩)]) (fun x => decide (x ∈ s)) :=
  ⟨167, _, rfl, enters_of Tryz.func167 (by kernel_rfl) rfl, fun W y hb => by
    change Calls Tryz.prog _ #[.int .i64 y, .pointer (some ⟨B, 0, none⟩)] W _
    have hc' : W.cell? ⟨B, 0, none⟩ = some v := (hb.cell (p := ⟨B, 0, none⟩) hB).trans hc
    have HS := Lib.hid (h.ext hb)
    obtain ⟨ao, c, rfl⟩ := h.len
    clear hc h
    have HSS := Lib.hid hs
    clear hs
    go_enter Tryz.func167, Tryz.ntmps167
    go_wp2_with (go_at_call 168; refine (search_i _ _ _ y HS.out HSS.out hl).mono ?_; rintro e w' ⟨n, rfl, HD⟩)
    go_ret
    exact ⟨rfl, Ext.of_drew HD.out⟩⟩
theorem tells_not (w : World) (B : Nat) (fv : Value) (p : Int → Bool) (hB : B < w.heap.size) (hc : w.cell? ⟨B, 0, none⟩ = some fv) (h : Tells ival w fv p) :
    Tells ival w (.func (.func 166) #[] #[.pointer (some ⟨B, 0, none⟩)]) (fun x => !p x) :=
  ⟨166, _, rfl, enters_of Tryz.func166 (by kernel_rfl) rfl, fun W y hb => by
    change Calls Tryz.prog _ #[.int .i64 y, .pointer (some ⟨B, 0, none⟩)] W _
    have hc' : W.cell? ⟨B, 0, none⟩ = some fv := (hb.cell (p := ⟨B, 0, none⟩) hB).trans hc
    obtain ⟨g, lb, rfl, eg, hp⟩ := h.any
    have HH : Hid (Calls Tryz.prog g (#[.int .i64 y] ++ lb) W fun e w' => e = .returned (.bool (p y)) ∧ Ext W w') := Lib.hid (hp W y hb)
    clear hc h hp
    obtain ⟨t, ht⟩ : ∃ t, t = p y := ⟨_, rfl⟩
    rw [← ht] at HH
    have HT := Lib.hid ht
    clear ht
    go_enter Tryz.func166, Tryz.ntmps166
    go_wp2_with (go_at_fn g; refine HH.out.mono ?_; rintro e w' ⟨rfl, hx⟩; have HX := Lib.hid hx; clear hx)
    go_ret
    exact ⟨ret_bool (by rw [HT.out]), HX.out⟩⟩
def GivesFn (w : World) (p : Int → Bool) (e : Ending) (w' : World) : Prop := ∃ fv, e = .returned fv ∧ Tells ival w' fv p ∧ Ext w w'
theorem in_any (w : World) (v : Value) (xs : List Int) (h : Sl w v xs) (hlen : xs.length ≤ 1000000) : Calls Tryz.prog 141 #[v] w (GivesFn w (fun x => decide (x ∈ xs))) := by
  have HS := Lib.hid h
  clear h
  have hnl : (norm xs).length ≤ 1000000 := Nat.le_trans (norm_length _) hlen
  have hmf : ∀ (fn : Fn) (first cap : Array Value) (w : World), (Instr.makeFunc fn first cap).run Tryz.prog w = .ok (.func fn first cap) w := fun _ _ _ _ => rfl
  go_enter Tryz.func141, Tryz.ntmps141
  go_wp2_with (go_at_call 129; refine (setOfE_any _ _ xs HS.out hlen).mono ?_; rintro e w' ⟨v', rfl, ho, hb⟩; have HO := Lib.hid ho; have HB := Lib.hid hb; obtain ⟨ao, c, rfl⟩ := ho.sl.len; clear ho hb)
  go_ret
  refine ⟨_, rfl, ?_, HB.out.alloc HB.out.size _⟩
  have ht := tells_in (w'.alloc (.cells #[.slice ao (norm xs).length c] 26)) w'.heap.size (.slice ao (norm xs).length c) (norm xs) (by simp) (by rw [World.cell?_alloc_at _ _ _ _ rfl]; rfl) (HO.out.sl.alloc _) (norm_SS xs) hnl
  simp only [mem_norm] at ht
  exact ht
theorem not_any (w : World) (fv : Value) (p : Int → Bool) (h : Tells ival w fv p) : Calls Tryz.prog 140 #[fv] w (GivesFn w (fun x => !p x)) := by
  have HT := Lib.hid h
  obtain ⟨g, lb, rfl, eg, hp⟩ := h.any
  clear h hp eg
  have hmf : ∀ (fn : Fn) (first cap : Array Value) (w : World), (Instr.makeFunc fn first cap).run Tryz.prog w = .ok (.func fn first cap) w := fun _ _ _ _ => rfl
  go_enter Tryz.func140, Tryz.ntmps140
  go_wp2
  go_ret
  exact ⟨_, rfl, tells_not _ w.heap.size _ p (by simp) (by rw [World.cell?_alloc_at _ _ _ _ rfl]; rfl) (HT.out.ext ((Ext.refl w).alloc _)), (Ext.refl w).alloc _⟩
set_option maxHeartbeats 1000000 in
theorem indexFunc_i (w : World) (v fv : Value) (E : List Int) (p : Int → Bool) (h : Sl w v E) (ht : Tells ival w fv p) :
    Calls Tryz.prog 150 #[v, fv] w fun e w' => ∃ r : Int, e = .returned (.int .i64 r) ∧ decide (0 ≤ r) = E.any p ∧ Ext w w' := by
  obtain ⟨g, lb, rfl, eg, hp⟩ := ht.any
  have HP := Lib.hid hp
  clear ht hp
  rcases h.ints with ⟨rfl, ao, c, rfl⟩ | ⟨b, off, c, rfl, hc, hc63, hb, hpos, hcell⟩
  · go_enter Tryz.func150, Tryz.ntmps150
    go_wp2
    refine wp_loop_rounds 1 ?_
    rw [rounds_succ]
    go_wp2
    go_ret
    exact ⟨_, rfl, rfl, Ext.refl _⟩
  · have HC := Lib.hid hcell
    clear hcell h
    go_enter Tryz.func150, Tryz.ntmps150
    go_wp2
    go_loopw [8] (fun i wr => ∃ k : Nat, k ≤ E.length ∧ i = .int .i64 k ∧ Hid ((E.take k).any p = false) ∧ Hid (Ext w wr)) (fun i _ => E.length - (intOf i).toNat)
    case atStart => exact ⟨0, Nat.zero_le _, rfl, Lib.hid rfl, Lib.hid (Ext.refl _)⟩
    case round =>
      obtain ⟨k, hk, rfl, HT, HX⟩ := hrel
      by_cases hlt : k < E.length
      · have hya := (HX.out.cell (p := ⟨b, off + k, none⟩) hb).trans (HC.out k hlt)
        obtain ⟨y, hy⟩ : ∃ y, y = E.getD k 0 := ⟨_, rfl⟩
        rw [← hy] at hya
        have HN : Hid ((E.take (k + 1)).any p = ((E.take k).any p || p y)) := Lib.hid (by rw [any_next p hlt 0, ← hy])
        have HH : Hid (∀ s, p y = s → Calls Tryz.prog g (#[.int .i64 y] ++ lb) wr fun e w' => e = .returned (.bool s) ∧ Ext wr w') := Lib.hid fun s hs => hs ▸ HP.out wr y HX.out
        clear hy
        obtain ⟨s, hs⟩ : ∃ s, p y = s := ⟨_, rfl⟩
        rw [hs] at HN
        have HS := Lib.hid hs
        clear hs
        cases s
        · go_wp2_with (go_at_fn g; refine (HH.out _ HS.out).mono ?_; rintro e w1 ⟨rfl, hx⟩; have HX1 := Lib.hid (HX.out.trans hx); clear hx)
          go_roundw
          case rel => exact ⟨k + 1, by omega, by go_num, Lib.hid (by rw [HN.out, HT.out]; rfl), HX1⟩
          case measure => simp [intOf]; omega
        · go_wp2_with (go_at_fn g; refine (HH.out _ HS.out).mono ?_; rintro e w1 ⟨rfl, hx⟩; have HX1 := Lib.hid (HX.out.trans hx); clear hx)
          go_ret
          exact ⟨_, rfl, by rw [any_of_take (HN.out.trans (by simp))]; simp, HX1.out⟩
      · have hkl : k = E.length := by omega
        go_wp2
        go_ret
        exact ⟨_, rfl, by have := HT.out; rw [hkl, List.take_length] at this; rw [this]; rfl, HX.out⟩
theorem containsFunc_i (w : World) (v fv : Value) (E : List Int) (p : Int → Bool) (h : Sl w v E) (ht : Tells ival w fv p) (t : Bool) (hr : E.any p = t) :
    Calls Tryz.prog 125 #[v, fv] w fun e w' => e = .returned (.bool t) ∧ Ext w w' := by
  subst hr
  have HS := Lib.hid h
  have HT := Lib.hid ht
  clear h ht
  go_enter Tryz.func125, Tryz.ntmps125
  go_wp2_with (go_at_call 150; refine (indexFunc_i _ _ _ E p HS.out HT.out).mono ?_; rintro e w1 ⟨r, rfl, hr, hx⟩; have HR := Lib.hid hr; have HX := Lib.hid hx; clear hr hx)
  go_ret
  exact ⟨ret_bool HR.out, HX.out⟩
theorem setWithin_val (w : World) (v u : Value) (xs ys : List Int) (h : Sl w v xs) (g : Sl w u ys) (hy : ys.length ≤ 1000000) (t : Bool) (ht : (xs.all fun x => decide (x ∈ ys)) = t) : Calls Tryz.prog 101 #[v, u] w fun e w' => e = .returned (.bool t) ∧ Ext w w' := by
  have HS := Lib.hid h
  have HG := Lib.hid g
  have hq : xs.any (fun x => !decide (x ∈ ys)) = !t := by rw [← ht]; simp [List.all_eq_not_any_not]
  have HQ := Lib.hid hq
  clear h g ht hq
  go_enter Tryz.func101, Tryz.ntmps101
  go_wp2_with (first
    | (go_at_call 141; refine (in_any _ _ ys HG.out hy).mono ?_; rintro e w1 ⟨fv, rfl, ht, hb⟩; obtain ⟨g1, l1, rfl⟩ := ht.sh; have HT := Lib.hid ht; have HB := Lib.hid hb; clear ht hb)
    | (go_at_call 140; refine (not_any _ _ _ HT.out).mono ?_; rintro e w2 ⟨fv2, rfl, ht, hb⟩; obtain ⟨g2, l2, rfl⟩ := ht.sh; have HT2 := Lib.hid ht; have HB2 := Lib.hid (HB.out.trans hb); clear ht hb)
    | (go_at_call 125; refine (containsFunc_i _ _ _ xs _ (HS.out.ext HB2.out) HT2.out _ HQ.out).mono ?_; rintro e w3 ⟨rfl, hd⟩; have HD := Lib.hid hd; clear hd))
  go_ret
  exact ⟨ret_bool (by cases t <;> rfl), HB2.out.trans HD.out⟩
set_option maxHeartbeats 1000000 in
theorem equal_i (w : World) (v u : Value) (xs ys : List Int) (h : Sl w v xs) (g : Sl w u ys) (t : Bool) (ht : decide (xs = ys) = t) :
    Calls Tryz.prog 118 #[v, u] w fun e w' => e = .returned (.bool t) ∧ Ext w w' := by
  obtain ⟨ao1, c1, rfl⟩ := h.len
  obtain ⟨ao2, c2, rfl⟩ := g.len
  have l1 := h.length_le
  have l2 := g.length_le
  have HS := Lib.hid h
  have HM := Lib.hid g
  have HE := Lib.hid ht
  clear h g ht
  by_cases e3 : xs.length = ys.length
  · have q3 : ((xs.length : Int) != (ys.length : Int)) = false := by simp [e3]
    have HL3 := Lib.hid e3
    clear e3
    go_enter Tryz.func118, Tryz.ntmps118
    go_wp2
    go_loopw [13] (fun i wr => ∃ k : Nat, k ≤ xs.length ∧ i = .int .i64 k ∧ Hid (xs.take k = ys.take k) ∧ Hid (Ext w wr)) (fun i _ => xs.length - (intOf i).toNat)
    case atStart => exact ⟨0, Nat.zero_le _, rfl, Lib.hid rfl, Lib.hid (Ext.refl _)⟩
    case round =>
      obtain ⟨k, hk, rfl, HQ, HX⟩ := hrel
      by_cases hlt : k < xs.length
      · have hltM : k < ys.length := by have := HL3.out; omega
        rcases HS.out.ints with ⟨e, _⟩ | ⟨b1, o1, c1', e1, hnc1, hc1, hb1, _, hcell1⟩
        · rw [e] at hlt; exact absurd hlt (Nat.not_lt_zero _)
        rcases HM.out.ints with ⟨e, _⟩ | ⟨b2, o2, c2', e2, hnc2, hc2, hb2, _, hcell2⟩
        · rw [e] at hltM; exact absurd hltM (Nat.not_lt_zero _)
        simp only [Value.slice.injEq] at e1 e2
        obtain ⟨rfl, _, rfl⟩ := e1
        obtain ⟨rfl, _, rfl⟩ := e2
        obtain ⟨y, hy⟩ : ∃ y, y = xs.getD k 0 := ⟨_, rfl⟩
        obtain ⟨z, hz⟩ : ∃ z, z = ys.getD k 0 := ⟨_, rfl⟩
        have HCY : Hid (∀ V, Ext wr V → V.cell? ⟨b1, o1 + k, none⟩ = some (.int .i64 y)) := Lib.hid fun V hV => by rw [hy]; exact ((HX.out.trans hV).cell (p := ⟨b1, o1 + k, none⟩) hb1).trans (hcell1 k hlt)
        have HCZ : Hid (∀ V, Ext wr V → V.cell? ⟨b2, o2 + k, none⟩ = some (.int .i64 z)) := Lib.hid fun V hV => by rw [hz]; exact ((HX.out.trans hV).cell (p := ⟨b2, o2 + k, none⟩) hb2).trans (hcell2 k hltM)
        have HN : Hid (xs.take (k + 1) = ys.take (k + 1) ↔ xs.take k = ys.take k ∧ y = z) := Lib.hid (by rw [hy, hz]; exact take_eq_next hlt hltM 0)
        clear hcell1 hcell2 hy hz
        by_cases hyz : y = z
        · have q : (y != z) = false := by simp [hyz]
          have HYZ := Lib.hid hyz
          clear hyz
          go_wp2_with fail
          (refine wp_region_X_lit (K := fun W => Ext wr W) (by kernel_rfl) (fun w1 hw1 => ?_))
          have HX1 := Lib.hid (HX.out.trans hw1)
          have HW1 := Lib.hid hw1
          clear hw1
          refine xtv 0 (h := ?_)
          refine xtv 1 (h := ?_)
          refine xtv 2 (h := ?_)
          refine xtv 3 (hv := by intro w' hw'; have a0 := HCY.out w' hw'; go_simp; first | done | with_reducible rfl) (h := ?_)
          refine xtv 4 (h := ?_)
          refine xtv 5 (h := ?_)
          refine xtv 6 (h := ?_)
          refine xtv 7 (hv := by intro w' hw'; have a0 := HCZ.out w' hw'; go_simp; first | done | with_reducible rfl) (h := ?_)
          refine xtv 8 (h := ?_)
          (refine xdone (by kernel_rfl) (HW1.out) ?_)
          go_wp2
          go_roundw
          case rel => exact ⟨k + 1, by omega, by go_num, Lib.hid (HN.out.2 ⟨HQ.out, HYZ.out⟩), HX1⟩
          case measure => simp [intOf]; omega
        · have q : (y != z) = true := by simp [hyz]
          have HYZ := Lib.hid hyz
          clear hyz
          go_wp2_with fail
          (refine wp_region_X_lit (K := fun W => Ext wr W) (by kernel_rfl) (fun w1 hw1 => ?_))
          have HX1 := Lib.hid (HX.out.trans hw1)
          have HW1 := Lib.hid hw1
          clear hw1
          refine xtv 0 (h := ?_)
          refine xtv 1 (h := ?_)
          refine xtv 2 (h := ?_)
          refine xtv 3 (hv := by intro w' hw'; have a0 := HCY.out w' hw'; go_simp; first | done | with_reducible rfl) (h := ?_)
          refine xtv 4 (h := ?_)
          refine xtv 5 (h := ?_)
          refine xtv 6 (h := ?_)
          refine xtv 7 (hv := by intro w' hw'; have a0 := HCZ.out w' hw'; go_simp; first | done | with_reducible rfl) (h := ?_)
          refine xtv 8 (h := ?_)
          (refine xdone (by kernel_rfl) (HW1.out) ?_)
          go_wp2
          go_ret
          exact ⟨ret_bool (by
            rw [← HE.out]
            exact (decide_eq_false fun e => HYZ.out ((HN.out.1 (by rw [e])).2)).symm), HX1.out⟩
      · have hkl : k = xs.length := by omega
        have HF : Hid (true = t) := Lib.hid (by
          have hq := HQ.out
          rw [hkl, List.take_length, HL3.out, List.take_length] at hq
          rw [← HE.out, decide_eq_true hq])
        go_wp2
        go_ret
        exact ⟨ret_bool HF.out, HX.out⟩
  · have q3 : ((xs.length : Int) != (ys.length : Int)) = true := by simp; omega
    have HF : Hid (false = t) := Lib.hid (by rw [← HE.out, decide_eq_false fun e => e3 (by rw [e])])
    clear e3
    go_enter Tryz.func118, Tryz.ntmps118
    go_wp2
    go_ret
    exact ⟨ret_bool HF.out, Ext.refl _⟩
set_option maxHeartbeats 2000000 in
theorem clone_i (w : World) (v : Value) (L : List Int) (h : Sl w v L) (hl : L.length ≤ 1000) :
    Calls Tryz.prog 127 #[v] w fun e w' => ∃ v', e = .returned v' ∧ Ow w' w.heap.size v' L ∧ Ext w w' := by
  have h0 := h
  obtain ⟨_, ao, c, rfl, h2, h3, h4, h5⟩ := h0
  cases ao with
  | none =>
    obtain rfl := h4 rfl
    have hL : L = [] := List.eq_nil_of_length_eq_zero (by omega)
    subst hL
    clear h h2 h3 h4 h5
    dsimp only [List.length_nil]
    have q := fun w => Lib.run_eql_slice_nil (P := Tryz.prog) w _ _ none 0 0 0 0 (Elem.row (α := Int))
    change ∀ w, (binOp .eql 26 (.slice none 0 0) (.slice none 0 0)).run Tryz.prog w = .ok (.bool true) w at q
    go_enter Tryz.func127, Tryz.ntmps127
    go_wp2
    go_ret
    exact ⟨_, rfl, Ow.nil _ _, Ext.refl _⟩
  | some a =>
    have HS := Lib.hid h
    clear h h2 h3 h4 h5
    have q := fun w => Lib.run_eql_slice_nil (P := Tryz.prog) w _ _ (some a) L.length c 0 0 (Elem.row (α := Int))
    change ∀ w, (binOp .eql 26 (.slice (some a) L.length c) (.slice none 0 0)).run Tryz.prog w = .ok (.bool false) w at q
    go_enter Tryz.func127, Tryz.ntmps127
    go_wp2_with (first
      | (at_builtin; refine wpList_append_sl (α := Int) rfl (.tmp 5) (.tmp 6) rfl w.heap.size (.slice (some ⟨_, 0, none⟩) 0 0) [] rfl ?_ _ L rfl ?_ ?_ ?_ ?_; exact (Ow.litAt w _ _ rfl (Nat.le_refl _) [] (by simp)); exact (HS.out.alloc _); (first | omega | (simp; omega)); exact (by rw [size_alloc]; omega); intro v6 W6 ho6 ha6; obtain ⟨a6, n6, c6, rfl⟩ := ho6.sh; have O6 : Hid (Ow W6 w.heap.size (.slice a6 n6 c6) L) := Lib.hid ho6; have X6 : Hid (Ext w W6) := Lib.hid (Below.trans (Ext.alloc (Ext.refl w) _) ha6.below); clear ho6 ha6))
    go_ret
    exact ⟨_, rfl, O6.out, X6.out⟩
end Go.Proofs.YtfbambemjokmgaaGreat
namespace Go.Proofs.YtfbambemjokmgaaGreat
open Go.RowKit
def sval (s : Sd) : Value := .agg s.cs
def peersL (p : Sd → Bool) (L : List Sd) : List Int := (L.filter p).map (·.peer)
theorem peersL_next {p : Sd → Bool} {L : List Sd} {k : Nat} {s : Sd} (h : L[k]? = some s) : peersL p (L.take (k + 1)) = peersL p (L.take k) ++ (if p s = true then [s.peer] else []) := by
  have hk := (List.getElem?_eq_some_iff.1 h).1
  unfold peersL
  rw [List.take_succ_eq_append_getElem hk, (List.getElem?_eq_some_iff.1 h).2, List.filter_append, List.map_append]
  congr 1
  by_cases hq : p s = true <;> simp [hq]
theorem peersL_len (p : Sd → Bool) (L : List Sd) : (peersL p L).length ≤ L.length := by
  unfold peersL; rw [List.length_map]; exact List.length_filter_le _ _
set_option maxRecDepth 100000 in
set_option maxHeartbeats 4000000 in
theorem peers_any (w : World) (id ph th : Int) (v nv fv : Value) (L : List Sd) (N : List Int) (p : Sd → Bool) (h : Sl w v L) (hN : Sl w nv N) (ht : Tells sval w fv p) (hl : L.length ≤ 1000) :
    Calls Tryz.prog 102 #[.agg #[.int .i64 id, .int .i64 ph, v, .int .i64 th, nv], fv] w (GivesOw w (peersL p L)) := by
  obtain ⟨ao, c, rfl⟩ := h.len
  obtain ⟨na, nc, rfl⟩ := hN.len
  have hlen := h.length_le
  obtain ⟨g, lb, rfl, eg, hp⟩ := ht.any
  obtain ⟨W0, hW0⟩ : ∃ W0, W0 = w.alloc (.cells #[.int .i64 id, .int .i64 ph, .slice ao L.length c, .int .i64 th, .slice na N.length nc] 63) := ⟨_, rfl⟩
  have X0 : Hid (Ext w W0) := Lib.hid (hW0 ▸ (Ext.refl w).alloc _)
  have b0 : W0.heap[w.heap.size]? = some (.cells #[.int .i64 id, .int .i64 ph, .slice ao L.length c, .int .i64 th, .slice na N.length nc] 63 (0, 0)) := hW0 ▸ at0 w _
  obtain ⟨⟨d0, d1, d2⟩, d3, d4⟩ := cells5 b0
  have HW0 := Lib.hid hW0
  have HZ0 : Hid (w.heap.size + 1 ≤ W0.heap.size) := Lib.hid (by rw [hW0, size_alloc]; omega)
  have HSw := Lib.hid h
  have HP := Lib.hid hp
  clear h hN hW0 b0 ht hp
  go_enter Tryz.func102, Tryz.ntmps102
  go_upto_region 1 with (fail)
  rw [← HW0.out]
  go_wp2
  go_loopw [5, 12] (fun q i wr => ∃ (k : Nat) (fo : Option Addr) (fn fc : Nat), k ≤ L.length ∧ i = .int .i64 k ∧ q = .slice fo fn fc ∧ Hid (Ow wr (w.heap.size + 1) (.slice fo fn fc) (peersL p (L.take k))) ∧ Hid (Ext w wr) ∧ Hid (w.heap.size + 1 ≤ wr.heap.size)) (fun _ i _ => L.length - (intOf i).toNat)
  case atStart => exact ⟨0, none, 0, 0, Nat.zero_le _, rfl, rfl, Lib.hid (Ow.nil _ _), X0, HZ0⟩
  case round =>
    obtain ⟨k, fo, fn, fc, hk, rfl, rfl, HO, HX, HZ⟩ := hrel
    by_cases hlt : k < L.length
    · obtain ⟨b1, off, s, hsy, hsj, rfl, hn, hnc, hc63, hb, hcs⟩ := HSw.out.sidesAt hlt
      obtain ⟨⟨⟨x0, x1⟩, x2, x3⟩, ⟨x4, x5⟩, x6, x7⟩ := hcs wr HX.out
      have HNX := Lib.hid (peersL_next (p := p) hsj)
      obtain ⟨P, hP⟩ : ∃ P, peersL p (L.take k) = P := ⟨_, rfl⟩
      have hPl : P.length ≤ 1000 := by rw [← hP]; have := peersL_len p (L.take k); rw [List.length_take] at this; omega
      rw [hP] at HO HNX
      obtain ⟨q, hq⟩ : ∃ q, p s = q := ⟨_, rfl⟩
      rw [hq] at HNX
      have HH : Hid (∀ W, Ext w W → Calls Tryz.prog g (#[.agg s.cs] ++ lb) W fun e w' => e = .returned (.bool q) ∧ Ext W w') := Lib.hid fun W hW => hq ▸ HP.out W s hW
      clear hsy hsj hcs hn hP hq
      obtain ⟨y0, y1, y2, y3, y4, y5, y6, y7⟩ := s
      unfold Sd.cs at HH
      dsimp only at x0 x1 x2 x3 x4 x5 x6 x7 HH HNX
      go_upto_region 5 with (fail)
      obtain ⟨W1, hW1⟩ : ∃ W1, W1 = wr.alloc (.cells #[.int .i64 y0, .int .i64 y1, .int .i64 y2, .bool y3, .bool y4, .bool y5, .bool y6, .bool y7] 66) := ⟨_, rfl⟩
      have X1 : Hid (Ext wr W1) := Lib.hid (hW1 ▸ (Ext.refl wr).alloc _)
      have B1 : Hid (W1.heap[wr.heap.size]? = some (.cells #[.int .i64 y0, .int .i64 y1, .int .i64 y2, .bool y3, .bool y4, .bool y5, .bool y6, .bool y7] 66 (0, 0))) := Lib.hid (hW1 ▸ at0 wr _)
      rw [← hW1]
      clear hW1 x0 x1 x2 x3 x4 x5 x6 x7
      obtain ⟨⟨⟨x0, x1⟩, x2, x3⟩, ⟨x4, x5⟩, x6, x7⟩ := cells8U B1.out
      cases q
      · go_wp2_with (go_at_fn g; refine (HH.out W1 (HX.out.trans X1.out)).mono ?_; rintro e w2 ⟨rfl, hx⟩; have X2 := Lib.hid (X1.out.trans hx); clear hx)
        go_roundw
        case rel => exact ⟨k + 1, _, _, _, by omega, by go_num, rfl, Lib.hid (by rw [HNX.out]; simpa using HO.out.ext X2.out), Lib.hid (HX.out.trans X2.out), Lib.hid (Nat.le_trans HZ.out (Below.size X2.out))⟩
        case measure => simp [intOf]; omega
      · go_upto_region 6 with (go_at_fn g; refine (HH.out W1 (HX.out.trans X1.out)).mono ?_; rintro e w2 ⟨rfl, hx⟩; have X2 := Lib.hid (X1.out.trans hx); have B2 := Lib.hid (keepU B1.out hx); clear hx)
        have O2 := Lib.hid (HO.out.ext X2.out)
        have hs2 : w.heap.size + 1 ≤ w2.heap.size := Nat.le_trans HZ.out (Below.size X2.out)
        clear x0 x1 x2 x3 x4 x5 x6 x7
        obtain ⟨⟨⟨x0, x1⟩, x2, x3⟩, ⟨x4, x5⟩, x6, x7⟩ := cells8U B2.out
        go_wp2_with (first
          | (at_builtin; refine wpList_append_sl (α := Int) rfl (.tmp 19) (.tmp 22) rfl (w.heap.size + 1) (.slice fo fn fc) P rfl ?_ (.slice (some ⟨_, 0, none⟩) 1 1) [y0] rfl ?_ ?_ ?_ ?_; exact (O2.out.alloc _); exact (Sl.litAt w2 _ rfl [y0] (by simp)); (first | omega | (simp; omega)); (rw [size_alloc]; omega); intro v3 W3 ho3 ha3; obtain ⟨a3, n3, c3, rfl⟩ := ho3.sh; have O3 := Lib.hid ho3; have X3 : Hid (Ext w W3) := Lib.hid (Below.trans ((HX.out.trans X2.out).alloc _) (ha3.below.mono (by omega))); have Z3 : Hid (w.heap.size + 1 ≤ W3.heap.size) := Lib.hid (Nat.le_trans (by rw [size_alloc]; omega) ha3.below.size); clear ho3 ha3))
        go_roundw
        case rel => exact ⟨k + 1, _, _, _, by omega, by go_num, rfl, Lib.hid (by rw [HNX.out]; exact O3.out), X3, Z3⟩
        case measure => simp [intOf]; omega
    · have hkl : k = L.length := by omega
      have HE : Hid (Ow wr (w.heap.size + 1) (.slice fo fn fc) (peersL p L)) := Lib.hid (by have := HO.out; rwa [hkl, List.take_length] at this)
      clear HO hkl
      go_wp2
      go_ret
      exact ⟨_, rfl, HE.out.mono (by omega), HX.out⟩
set_option maxRecDepth 100000 in
set_option maxHeartbeats 4000000 in
theorem dkSame_any (w : World) (id1 ph1 th1 id2 ph2 th2 : Int) (v1 v2 n1 n2 : Value) (L M : List Sd) (N K : List Int) (h : Sl w v1 L) (g : Sl w v2 M) (hn : Sl w n1 N) (gn : Sl w n2 K) (t : Bool) (ht : decide ((⟨id1, ph1, L, th1, N⟩ : Dk) = ⟨id2, ph2, M, th2, K⟩) = t) :
    Calls Tryz.prog 69 #[.agg #[.int .i64 id1, .int .i64 ph1, v1, .int .i64 th1, n1], .agg #[.int .i64 id2, .int .i64 ph2, v2, .int .i64 th2, n2]] w fun e w' => e = .returned (.bool t) ∧ Ext w w' := by
  rw [dk_eq] at ht
  obtain ⟨ao, c, rfl⟩ := h.len
  obtain ⟨bo, c2, rfl⟩ := g.len
  obtain ⟨na, nc, rfl⟩ := hn.len
  obtain ⟨nb, nc2, rfl⟩ := gn.len
  obtain ⟨W0, hW0⟩ : ∃ W0, W0 = (w.alloc (.cells #[.int .i64 id1, .int .i64 ph1, .slice ao L.length c, .int .i64 th1, .slice na N.length nc] 63)).alloc (.cells #[.int .i64 id2, .int .i64 ph2, .slice bo M.length c2, .int .i64 th2, .slice nb K.length nc2] 63) := ⟨_, rfl⟩
  have X0 : Hid (Ext w W0) := Lib.hid (hW0 ▸ ((Ext.refl w).alloc _).alloc _)
  have b1 : W0.heap[w.heap.size]? = _ := hW0 ▸ old1 (at0 w _) _
  have b2 : W0.heap[w.heap.size + 1]? = _ := hW0 ▸ at1 w _ _
  have HK1 : Hid (∀ V, Ext W0 V → _) := Lib.hid fun V hV => cells5 (keepU b1 hV)
  have HK2 : Hid (∀ V, Ext W0 V → _) := Lib.hid fun V hV => cells5 (keepU b2 hV)
  have HS := Lib.hid (h.ext X0.out)
  have HG := Lib.hid (g.ext X0.out)
  have HN := Lib.hid (hn.ext X0.out)
  have HM := Lib.hid (gn.ext X0.out)
  have HW0 := Lib.hid hW0
  obtain ⟨s, hs⟩ : ∃ s, decide ((⟨id1, ph1, L⟩ : Dn) = ⟨id2, ph2, M⟩) = s := ⟨_, rfl⟩
  obtain ⟨r, hr⟩ : ∃ r, decide (N = K) = r := ⟨_, rfl⟩
  rw [hs, hr] at ht
  have HD := Lib.hid hs
  have HR := Lib.hid hr
  have HT := Lib.hid ht
  clear h g hn gn hW0 b1 b2 hs hr ht
  cases s
  · go_enter Tryz.func69, Tryz.ntmps69
    go_upto_region 1 with (fail)
    rw [← HW0.out]
    obtain ⟨⟨a0, a1, a2⟩, a3, a4⟩ := HK1.out W0 (Ext.refl _)
    obtain ⟨⟨c0, c1, c2⟩, c3, c4⟩ := HK2.out W0 (Ext.refl _)
    go_wp2_with (go_at_call 117; refine (sameDn_any W0 id1 ph1 id2 ph2 _ _ L M HS.out HG.out false HD.out).mono ?_; rintro e w1 ⟨rfl, x1⟩; have X1 := Lib.hid x1; clear x1)
    go_ret
    exact ⟨ret_bool (by rw [← HT.out]; rfl), X0.out.trans X1.out⟩
  by_cases e : th1 = th2
  · have hd : (th1 == th2) = true := by simpa using e
    have HE : Hid (decide (th1 = th2) = true) := Lib.hid (decide_eq_true e)
    clear e
    go_enter Tryz.func69, Tryz.ntmps69
    go_upto_region 1 with (fail)
    rw [← HW0.out]
    obtain ⟨⟨a0, a1, a2⟩, a3, a4⟩ := HK1.out W0 (Ext.refl _)
    obtain ⟨⟨c0, c1, c2⟩, c3, c4⟩ := HK2.out W0 (Ext.refl _)
    go_wp2_with (first
      | (go_at_call 117; refine (sameDn_any W0 id1 ph1 id2 ph2 _ _ L M HS.out HG.out true HD.out).mono ?_; rintro e w1 ⟨rfl, x1⟩; have X1 := Lib.hid x1; clear a0 a1 a2 a3 a4 c0 c1 c2 c3 c4; obtain ⟨⟨a0, a1, a2⟩, a3, a4⟩ := HK1.out w1 x1; obtain ⟨⟨c0, c1, c2⟩, c3, c4⟩ := HK2.out w1 x1; clear x1)
      | (go_at_call 118; refine (equal_i _ _ _ N K (HN.out.ext X1.out) (HM.out.ext X1.out) r HR.out).mono ?_; rintro e w2 ⟨rfl, x2⟩; have X2 := Lib.hid x2; clear x2))
    go_ret
    exact ⟨ret_bool (by rw [← HT.out, HE.out]; rfl), (X0.out.trans X1.out).trans X2.out⟩
  · have hd : (th1 == th2) = false := by simpa using e
    have HE : Hid (decide (th1 = th2) = false) := Lib.hid (decide_eq_false e)
    clear e
    go_enter Tryz.func69, Tryz.ntmps69
    go_upto_region 1 with (fail)
    rw [← HW0.out]
    obtain ⟨⟨a0, a1, a2⟩, a3, a4⟩ := HK1.out W0 (Ext.refl _)
    obtain ⟨⟨c0, c1, c2⟩, c3, c4⟩ := HK2.out W0 (Ext.refl _)
    go_wp2_with (go_at_call 117; refine (sameDn_any W0 id1 ph1 id2 ph2 _ _ L M HS.out HG.out true HD.out).mono ?_; rintro e w1 ⟨rfl, x1⟩; have X1 := Lib.hid x1; clear a0 a1 a2 a3 a4 c0 c1 c2 c3 c4; obtain ⟨⟨a0, a1, a2⟩, a3, a4⟩ := HK1.out w1 x1; obtain ⟨⟨c0, c1, c2⟩, c3, c4⟩ := HK2.out w1 x1; clear x1)
    go_ret
    exact ⟨ret_bool (by rw [← HT.out, HE.out]; rfl), X0.out.trans X1.out⟩
theorem tellsAny (w : World) : Tells sval w (.func (.func 99) #[] #[]) (fun _ => true) :=
  ⟨99, _, rfl, enters_of Tryz.func99 (by kernel_rfl) rfl, fun W s hb => by
    obtain ⟨y0, y1, y2, y3, y4, y5, y6, y7⟩ := s
    change Calls Tryz.prog _ #[.agg #[.int .i64 y0, .int .i64 y1, .int .i64 y2, .bool y3, .bool y4, .bool y5, .bool y6, .bool y7]] W _
    clear hb
    go_enter Tryz.func99, Tryz.ntmps99
    go_wp2
    go_ret
    exact ⟨rfl, (Ext.refl W).alloc _⟩⟩
theorem tellsLive (w : World) : Tells sval w (.func (.func 128) #[] #[]) (fun s => decide (s.state = 0)) :=
  ⟨128, _, rfl, enters_of Tryz.func128 (by kernel_rfl) rfl, fun W s hb => by
    obtain ⟨y0, y1, y2, y3, y4, y5, y6, y7⟩ := s
    change Calls Tryz.prog _ #[.agg #[.int .i64 y0, .int .i64 y1, .int .i64 y2, .bool y3, .bool y4, .bool y5, .bool y6, .bool y7]] W _
    dsimp only
    have x2 := blk_cell (at0 W (.cells #[.int .i64 y0, .int .i64 y1, .int .i64 y2, .bool y3, .bool y4, .bool y5, .bool y6, .bool y7] 66)) 2 rfl
    have HX : Hid (Ext W (W.alloc (.cells #[.int .i64 y0, .int .i64 y1, .int .i64 y2, .bool y3, .bool y4, .bool y5, .bool y6, .bool y7] 66))) := Lib.hid ((Ext.refl W).alloc _)
    clear hb
    go_enter Tryz.func128, Tryz.ntmps128
    go_wp2
    go_ret
    exact ⟨rfl, HX.out⟩⟩
end Go.Proofs.YtfbambemjokmgaaGreat
namespace Go.Proofs.YtfbambemjokmgaaGreat
open Go.RowKit
theorem riseB_iff : ∀ N : List Int, riseB N = true ↔ SS N
  | [] => by simp [riseB, SS]
  | [a] => by simp [riseB, SS]
  | a :: b :: l => by
    have ih := riseB_iff (b :: l)
    show (decide (a < b) && riseB (b :: l)) = true ↔ SS (a :: b :: l)
    rw [Bool.and_eq_true, ih, decide_eq_true_eq]
    unfold SS
    constructor
    · rintro ⟨h2, h⟩
      refine List.pairwise_cons.2 ⟨fun x hx => ?_, h⟩
      rcases List.mem_cons.1 hx with rfl | hx
      · exact h2
      · have := (List.pairwise_cons.1 h).1 x hx; omega
    · intro h3
      exact ⟨(List.pairwise_cons.1 h3).1 b (by simp), (List.pairwise_cons.1 h3).2⟩
theorem riseB_SS (N : List Int) : riseB N = decide (SS N) := by
  rw [Bool.eq_iff_iff, riseB_iff, decide_eq_true_iff]
def fitsB (th : Int) (N : List Int) : Bool := (decide (0 ≤ th) && decide (th ≤ 2)) && ((th != 0) || ((N.length : Int) == 0))
def theirsB (L : List Sd) (N : List Int) : Bool := decide (SS N) && N.all fun p => decide (p ∈ peersL (fun _ => true) L)
theorem mem_peers {L : List Sd} {p : Int} : (L.any fun s => s.peer == p) = decide (p ∈ peersL (fun _ => true) L) := by
  unfold peersL
  rw [List.filter_eq_self.2 (fun _ _ => rfl)]
  by_cases h : p ∈ L.map (·.peer)
  · rw [decide_eq_true h, List.any_eq_true]
    obtain ⟨s, hs, e⟩ := List.mem_map.1 h
    exact ⟨s, hs, by simpa using e⟩
  · rw [decide_eq_false h, List.any_eq_false]
    intro s hs e
    exact h (List.mem_map.2 ⟨s, hs, by simpa using e⟩)
theorem chkK_bits (id ph th : Int) (L : List Sd) (N : List Int) : chkK ⟨id, ph, L, th, N⟩ = (dnOk ⟨id, ph, L⟩ && fitsB th N && theirsB L N) := by
  unfold chkK fitsB theirsB Dk.dn
  dsimp only
  rw [riseB_SS]
  simp only [mem_peers]
  have e : (!(decide (th = 0) && !N.isEmpty)) = ((th != 0) || ((N.length : Int) == 0)) := by
    cases N with
    | nil => simp
    | cons a l =>
      have : ((((a :: l).length : Nat) : Int) == 0) = false := by simp only [List.length_cons, beq_eq_false_iff_ne, ne_eq]; omega
      rw [this]
      by_cases h : th = 0 <;> simp [h]
  rw [e]
  cases dnOk ⟨id, ph, L⟩ <;> cases decide (0 ≤ th) <;> cases decide (th ≤ 2) <;> cases ((th != 0) || ((N.length : Int) == 0)) <;> cases decide (SS N) <;> simp
set_option maxRecDepth 100000 in
set_option maxHeartbeats 4000000 in
theorem dkCheck_any (w : World) (id ph th : Int) (v nv : Value) (L : List Sd) (N : List Int) (h : Sl w v L) (hN : Sl w nv N) (hl : L.length ≤ 1000) (t : Bool) (ht : chkK ⟨id, ph, L, th, N⟩ = t) :
    Calls Tryz.prog 58 #[.agg #[.int .i64 id, .int .i64 ph, v, .int .i64 th, nv]] w fun e w' => e = .returned (.int .i64 (cond t 0 150)) ∧ Ext w w' := by
  obtain ⟨ao, c, rfl⟩ := h.len
  obtain ⟨na, nc, rfl⟩ := hN.len
  have hlenN := hN.length_le
  obtain ⟨W0, hW0⟩ : ∃ W0, W0 = w.alloc (.cells #[.int .i64 id, .int .i64 ph, .slice ao L.length c, .int .i64 th, .slice na N.length nc] 63) := ⟨_, rfl⟩
  have X0 : Hid (Ext w W0) := Lib.hid (hW0 ▸ (Ext.refl w).alloc _)
  have b0 : W0.heap[w.heap.size]? = some (.cells #[.int .i64 id, .int .i64 ph, .slice ao L.length c, .int .i64 th, .slice na N.length nc] 63 (0, 0)) := hW0 ▸ at0 w _
  have HK : Hid (∀ V, Ext W0 V → _) := Lib.hid fun V hV => cells5 (keepU b0 hV)
  have HW0 := Lib.hid hW0
  have HS := Lib.hid (h.ext X0.out)
  have HN := Lib.hid (hN.ext X0.out)
  rw [chkK_bits] at ht
  obtain ⟨d, hd⟩ : ∃ d, dnOk ⟨id, ph, L⟩ = d := ⟨_, rfl⟩
  rw [hd] at ht
  have HD := Lib.hid hd
  have HT := Lib.hid ht
  clear h hN hW0 b0 hd ht
  go_enter Tryz.func58, Tryz.ntmps58
  go_upto_region 2 with (fail)
  rw [← HW0.out]
  go_cut [4] (fun s4 wx => ∃ b, s4 = .bool b ∧ W0 = wx ∧ Hid (fitsB th N = b))
  case first =>
    obtain ⟨⟨d0, d1, d2⟩, d3, d4⟩ := HK.out W0 (Ext.refl _)
    by_cases e1 : 0 ≤ th
    · by_cases e2 : th ≤ 2
      · by_cases e3 : th = 0
        · have t3 : (th != 0) = false := by simp [e3]
          have HF : Hid (fitsB th N = ((N.length : Int) == 0)) := Lib.hid (by unfold fitsB; rw [t3, decide_eq_true e1, decide_eq_true e2]; rfl)
          obtain ⟨q, hq⟩ : ∃ q, ((N.length : Int) == 0) = q := ⟨_, rfl⟩
          have HF2 : Hid (fitsB th N = q) := Lib.hid (by rw [HF.out, hq])
          clear HF
          have HTH := Lib.hid e3
          clear e3
          go_wp2_with fail
          go_meet
          exact ⟨_, rfl, rfl, HF2⟩
        · have t3 : (th != 0) = true := by simp [e3]
          have HF : Hid (fitsB th N = true) := Lib.hid (by unfold fitsB; rw [t3, decide_eq_true e1, decide_eq_true e2]; rfl)
          clear e3
          go_wp2_with fail
          go_meet
          exact ⟨_, rfl, rfl, HF⟩
      · have HF : Hid (fitsB th N = false) := Lib.hid (by unfold fitsB; rw [decide_eq_false e2]; simp)
        go_wp2_with fail
        go_meet
        exact ⟨_, rfl, rfl, HF⟩
    · have HF : Hid (fitsB th N = false) := Lib.hid (by unfold fitsB; rw [decide_eq_false e1]; simp)
      go_wp2_with fail
      go_meet
      exact ⟨_, rfl, rfl, HF⟩
  case rest =>
    obtain ⟨fb, rfl, rfl, HF⟩ := hcut
    go_upto_region 3 with (fail)
    go_cut [5] (fun s5 wx => ∃ b, s5 = .bool b ∧ Hid (Ext W0 wx) ∧ Hid (theirsB L N = b))
    case first =>
      obtain ⟨q, hq⟩ : ∃ q, decide (SS N) = q := ⟨_, rfl⟩
      have HV : Hid (∀ W, Ext W0 W → Calls Tryz.prog 100 #[.slice na N.length nc] W fun e w' => e = .returned (.bool q) ∧ Ext W w') := Lib.hid fun W hW => by
        rw [← hq]
        exact (setValid_any W _ N (HN.out.ext hW)).mono fun e w' hh => ⟨hh.1, Ext.of_drew hh.2⟩
      have HQ := Lib.hid hq
      clear hq
      cases q
      · have HB : Hid (theirsB L N = false) := Lib.hid (by unfold theirsB; rw [HQ.out]; rfl)
        (refine wp_region_X_lit (K := fun V => Ext W0 V) (by kernel_rfl) (fun w1 hw1 => ?_))
        have HX1 : Hid (Ext W0 w1) := Lib.hid hw1
        clear hw1
        refine xtv 0 (h := ?_)
        refine xtv 1 (hv := by intro w' hw'; obtain ⟨⟨d0, d1, d2⟩, d3, d4⟩ := HK.out w' hw'; go_simp; first | done | with_reducible rfl) (h := ?_)
        refine xone 2 (hk := HX1.out) (h := RunX.of 2 (h := ?_))
        go_simp
        refine (HV.out w1 HX1.out).mono ?_
        rintro e2 w2 ⟨rfl, x2⟩
        have X2 := Lib.hid (Ext.trans HX1.out x2)
        clear x2
        dsimp only
        (try (simp only [Act.put, List.setIfInBounds_toArray, List.set]))
        refine xtv 3 (h := ?_)
        (refine xtakeU 4 (h := ?_); (simp only [Act.put, List.setIfInBounds_toArray, List.set]))
        (refine xtakeU 5 (h := ?_); (simp only [Act.put, List.setIfInBounds_toArray, List.set]))
        (refine xtakeU 6 (h := ?_); (simp only [Act.put, List.setIfInBounds_toArray, List.set]))
        (refine xtakeU 7 (h := ?_); (simp only [Act.put, List.setIfInBounds_toArray, List.set]))
        (refine xtakeU 8 (h := ?_); (simp only [Act.put, List.setIfInBounds_toArray, List.set]))
        (refine xtakeU 9 (h := ?_); (simp only [Act.put, List.setIfInBounds_toArray, List.set]))
        refine xtv 10 (h := ?_)
        refine xtv 11 (h := ?_)
        (refine xdone (by kernel_rfl) (X2.out) ?_)
        go_wp2_with fail
        go_meet
        exact ⟨_, rfl, X2, HB⟩
      · obtain ⟨q, hq⟩ : ∃ q, (N.all fun p => decide (p ∈ peersL (fun _ => true) L)) = q := ⟨_, rfl⟩
        have HB : Hid (theirsB L N = q) := Lib.hid (by unfold theirsB; rw [HQ.out, hq]; rfl)
        have HQ2 := Lib.hid hq
        clear hq
        (refine wp_region_X_lit (K := fun V => Ext W0 V) (by kernel_rfl) (fun w1 hw1 => ?_))
        have HX1 : Hid (Ext W0 w1) := Lib.hid hw1
        clear hw1
        refine xtv 0 (h := ?_)
        refine xtv 1 (hv := by intro w' hw'; obtain ⟨⟨d0, d1, d2⟩, d3, d4⟩ := HK.out w' hw'; go_simp; first | done | with_reducible rfl) (h := ?_)
        refine xone 2 (hk := HX1.out) (h := RunX.of 2 (h := ?_))
        go_simp
        refine (HV.out w1 HX1.out).mono ?_
        rintro e2 w2 ⟨rfl, x2⟩
        have X2 := Lib.hid (Ext.trans HX1.out x2)
        clear x2
        dsimp only
        (try (simp only [Act.put, List.setIfInBounds_toArray, List.set]))
        refine xtv 3 (h := ?_)
        refine xtv 4 (h := ?_)
        refine xtv 5 (hv := by intro w' hw'; obtain ⟨⟨d0, d1, d2⟩, d3, d4⟩ := HK.out w' hw'; go_simp; first | done | with_reducible rfl) (h := ?_)
        refine xtv 6 (hv := by intro w' hw'; obtain ⟨⟨d0, d1, d2⟩, d3, d4⟩ := HK.out w' hw'; go_simp; first | done | with_reducible rfl) (h := ?_)
        refine xtv 7 (h := ?_)
        refine xone 8 (hk := X2.out) (h := RunX.of 8 (h := ?_))
        go_simp
        refine (peers_any w2 id ph th _ _ _ L N (fun _ => true) (HS.out.ext X2.out) (HN.out.ext X2.out) (tellsAny _) hl).mono ?_
        rintro e3 w3 ⟨v3, rfl, o3, x3⟩
        obtain ⟨a3, n3, c3, rfl⟩ := o3.sh
        have X3 := Lib.hid (Ext.trans X2.out x3)
        have O3 := Lib.hid o3
        clear x3 o3
        dsimp only
        (try (simp only [Act.put, List.setIfInBounds_toArray, List.set]))
        refine xone 9 (hk := X3.out) (h := RunX.of 9 (h := ?_))
        go_simp
        refine (setWithin_val w3 _ _ N (peersL (fun _ => true) L) (HN.out.ext X3.out) O3.out.sl (Nat.le_trans (peersL_len _ _) (by omega)) q HQ2.out).mono ?_
        rintro e4 w4 ⟨rfl, x4⟩
        have X4 := Lib.hid (Ext.trans X3.out x4)
        clear x4
        dsimp only
        (try (simp only [Act.put, List.setIfInBounds_toArray, List.set]))
        refine xtv 10 (h := ?_)
        refine xtv 11 (h := ?_)
        (refine xdone (by kernel_rfl) (X4.out) ?_)
        go_wp2_with fail
        go_meet
        exact ⟨_, rfl, X4, HB⟩
    case rest =>
      obtain ⟨tb, rfl, X5, HTB⟩ := hcut
      obtain ⟨⟨d0, d1, d2⟩, d3, d4⟩ := HK.out wc X5.out
      have HC := Lib.hid (dCheck_any wc id ph _ L (HS.out.ext X5.out) d HD.out)
      have HT2 : Hid ((d && fb && tb) = t) := Lib.hid (by rw [← HT.out, HF.out, HTB.out])
      clear HT HF HTB
      cases d
      · go_wp2_with (go_at_call 103; refine HC.out.mono ?_; rintro e w6 ⟨rfl, x6⟩; dsimp only [cond]; have X6 := Lib.hid x6; clear x6)
        go_ret
        exact ⟨ret_int (by rw [← HT2.out]; rfl), X0.out.trans (X5.out.trans X6.out)⟩
      · cases fb
        · go_wp2_with (go_at_call 103; refine HC.out.mono ?_; rintro e w6 ⟨rfl, x6⟩; dsimp only [cond]; have X6 := Lib.hid x6; clear x6)
          go_ret
          exact ⟨ret_int (by rw [← HT2.out]; rfl), X0.out.trans (X5.out.trans X6.out)⟩
        · cases tb
          · go_wp2_with (go_at_call 103; refine HC.out.mono ?_; rintro e w6 ⟨rfl, x6⟩; dsimp only [cond]; have X6 := Lib.hid x6; clear x6)
            go_ret
            exact ⟨ret_int (by rw [← HT2.out]; rfl), X0.out.trans (X5.out.trans X6.out)⟩
          · go_wp2_with (go_at_call 103; refine HC.out.mono ?_; rintro e w6 ⟨rfl, x6⟩; dsimp only [cond]; have X6 := Lib.hid x6; clear x6)
            go_ret
            exact ⟨ret_int (by rw [← HT2.out]; rfl), X0.out.trans (X5.out.trans X6.out)⟩
end Go.Proofs.YtfbambemjokmgaaGreat
namespace Go.Proofs.YtfbambemjokmgaaGreat
open Go.RowKit
def noK : Dk := ⟨0, 0, [], 0, []⟩
def GivesD (w : World) (r : Dk × Int) (e : Ending) (w' : World) : Prop := ∃ v' nv', e = .returned (.tuple #[.agg #[.int .i64 r.1.id, .int .i64 r.1.phase, v', .int .i64 r.1.thirst, nv'], .int .i64 r.2]) ∧ Sl w' v' r.1.sides ∧ Sl w' nv' r.1.need ∧ Ext w w'
def GivesDN (w : World) (r : Dk × Int) (e : Ending) (w' : World) : Prop := ∃ v' nv', e = .returned (.tuple #[.agg #[.int .i64 r.1.id, .int .i64 r.1.phase, v', .int .i64 r.1.thirst, nv'], .int .i64 r.2]) ∧ Sl w' v' r.1.sides ∧ Sl w' nv' r.1.need ∧ Ext w w' ∧ ∀ b, nv'.ownBlock = some b → w.heap.size ≤ b
theorem givesDNNo {w W : World} {r : Dk × Int} {er : Int} (h : r = (noK, er)) (x : Ext w W) : GivesDN w r (.returned (.tuple #[.agg #[.int .i64 0, .int .i64 0, .slice none 0 0, .int .i64 0, .slice none 0 0], .int .i64 er])) W := by
  subst h
  exact ⟨_, _, rfl, slNoneU _, slNoneU _, x, fun b hb => by simp [Value.ownBlock] at hb⟩
def openR (d : Dk) (Q : List Int) : Dk × Int := if chkK d = true then (if d.thirst ≠ 0 then (noK, 152) else if (Q.all fun p => decide (p ∈ peersL (fun s => decide (s.state = 0)) d.sides)) = true then (⟨d.id, d.phase, d.sides, 1, norm Q⟩, 0) else (noK, 151)) else (noK, 150)
def closeR (d : Dk) : Dk × Int := if chkK d = true then (if d.thirst = 0 then (noK, 152) else (⟨d.id, d.phase, d.sides, 0, []⟩, 0)) else (noK, 150)
def getK (d : Dk) (p k me n : Int) : Dk × Int := if chkK d = true then (match findS (fun s => s.peer == p && s.epoch == me) d.sides with
  | none => (noK, 131)
  | some (i, s) => if n = 0 ∧ k = 3 then (if s.bottle = true then (noK, 132) else (⟨d.id, d.phase, d.sides.set i { s with bottle := true }, d.thirst, d.need⟩, 0))
    else if n = 0 ∧ k = 4 then (if s.ask = true then (noK, 132) else (⟨d.id, d.phase, d.sides.set i { s with ask := true }, d.thirst, d.need⟩, 0))
    else if (withR s k n).2 = 0 then (⟨d.id, d.phase, d.sides.set i (withR s k n).1, d.thirst, d.need⟩, 0) else (noK, (withR s k n).2)) else (noK, 150)
end Go.Proofs.YtfbambemjokmgaaGreat
