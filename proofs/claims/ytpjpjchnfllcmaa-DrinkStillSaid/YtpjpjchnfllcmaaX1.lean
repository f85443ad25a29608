/- Layer 15, the program: sets of numbers: all of them, who is in one, whether one lies within another one; rows of numbers compared and copied. -/
import Derived.Test.YtpjpjchnfllcmaaS3
import Derived.Test.YtpjpjchnfllcmaaME
import Derived.Lib.SliceRun
namespace Go.Proofs.Ytpjpjchnfllcmaa
open Go.RowKit

theorem setTells_all (w : World) : Tells ival w (.func (.func 71) #[] #[]) (fun _ => true) :=
  ⟨71, _, rfl, enters_of Try.func71 (by kernel_rfl) rfl, fun W y hb => by
    change Calls Try.prog _ #[.int .i64 y] W _
    go_enter Try.func71, Try.ntmps71
    go_wp2
    go_ret
    exact ⟨rfl, Ext.refl _⟩⟩
theorem setOfE_any (w : World) (v : Value) (xs : List Int) (h : Sl w v xs) (hlen : xs.length ≤ 1000000) : Calls Try.prog 48 #[v] w (GivesOw w (norm xs)) := by
  have HS := Lib.hid h
  have hn : norm (xs.filter fun _ => true) = norm xs := by rw [List.filter_eq_self.2 (fun _ _ => rfl)]
  have HN := Lib.hid hn
  clear h hn
  go_enter Try.func48, Try.ntmps48
  go_wp2_with (go_at_call 70; refine (those_i _ _ _ xs _ HS.out (setTells_all _) hlen).mono ?_; rintro e w' ⟨v', rfl, ho, hb⟩; have HO := Lib.hid ho; have HB := Lib.hid hb; clear ho hb)
  go_ret
  exact ⟨_, rfl, by rw [← HN.out]; exact HO.out, HB.out⟩
theorem search_i (w : World) (v : Value) (s : List Int) (x : Int) (h : Sl w v s) (hs : SS s) (hl : s.length ≤ 1000000) :
    Calls Try.prog 80 #[v, .int .i64 x] w fun e w' => ∃ n : Int, e = .returned (.tuple #[.int .i64 n, .bool (decide (x ∈ s))]) ∧ Hid (Drew w w') := by
  rcases h.ints with ⟨rfl, ao, c, rfl⟩ | ⟨b, off, c, rfl, hc, hc63, hb, hpos, hcell⟩
  · refine (Try.slices_BinarySearch_int_empty ao c x w).mono ?_
    rintro e w' ⟨rfl, rfl⟩
    exact ⟨0, by simp, Drew.refl _⟩
  · refine (Try.slices_BinarySearch_int b off s.length c s x w (Nat.le_refl _) (by omega) hcell (by rw [List.take_length]; exact hs.imp fun h => by omega)).mono ?_
    rintro e w' ⟨rfl, q, rfl⟩
    exact ⟨((s.countP fun y => decide (y < x) : Nat) : Int), by rw [List.take_length]; simp, q, rfl⟩
theorem tells_in (w : World) (B : Nat) (v : Value) (s : List Int) (hB : B < w.heap.size) (hc : w.cell? ⟨B, 0, none⟩ = some v) (h : Sl w v s) (hs : SS s) (hl : s.length ≤ 1000000) :
    Tells ival w (.func (.func 79) #[] #[.pointer (some ⟨B, 0, none⟩)]) (fun x => decide (x ∈ s)) :=
  ⟨79, _, rfl, enters_of Try.func79 (by kernel_rfl) rfl, fun W y hb => by
    change Calls Try.prog _ #[.int .i64 y, .pointer (some ⟨B, 0, none⟩)] W _
    have hc' : W.cell? ⟨B, 0, none⟩ = some v := (hb.cell (p := ⟨B, 0, none⟩) hB).trans hc
    have HS := Lib.hid (h.ext hb)
    obtain ⟨ao, c, rfl⟩ := h.len
    clear hc h
    have HSS := Lib.hid hs
    clear hs
    go_enter Try.func79, Try.ntmps79
    go_wp2_with (go_at_call 80; refine (search_i _ _ _ y HS.out HSS.out hl).mono ?_; rintro e w' ⟨n, rfl, HD⟩)
    go_ret
    exact ⟨rfl, Ext.of_drew HD.out⟩⟩
theorem tells_not (w : World) (B : Nat) (fv : Value) (p : Int → Bool) (hB : B < w.heap.size) (hc : w.cell? ⟨B, 0, none⟩ = some fv) (h : Tells ival w fv p) :
    Tells ival w (.func (.func 78) #[] #[.pointer (some ⟨B, 0, none⟩)]) (fun x => !p x) :=
  ⟨78, _, rfl, enters_of Try.func78 (by kernel_rfl) rfl, fun W y hb => by
    change Calls Try.prog _ #[.int .i64 y, .pointer (some ⟨B, 0, none⟩)] W _
    have hc' : W.cell? ⟨B, 0, none⟩ = some fv := (hb.cell (p := ⟨B, 0, none⟩) hB).trans hc
    obtain ⟨g, lb, rfl, eg, hp⟩ := h.any
    have HH : Hid (Calls Try.prog g (#[.int .i64 y] ++ lb) W fun e w' => e = .returned (.bool (p y)) ∧ Ext W w') := Lib.hid (hp W y hb)
    clear hc h hp
    obtain ⟨t, ht⟩ : ∃ t, t = p y := ⟨_, rfl⟩
    rw [← ht] at HH
    have HT := Lib.hid ht
    clear ht
    go_enter Try.func78, Try.ntmps78
    go_wp2_with (go_at_fn g; refine HH.out.mono ?_; rintro e w' ⟨rfl, hx⟩; have HX := Lib.hid hx; clear hx)
    go_ret
    exact ⟨ret_bool (by rw [HT.out]), HX.out⟩⟩
/-- A function value that tells p, made by a call. -/
def GivesFn (w : World) (p : Int → Bool) (e : Ending) (w' : World) : Prop := ∃ fv, e = .returned fv ∧ Tells ival w' fv p ∧ Ext w w'
theorem in_any (w : World) (v : Value) (xs : List Int) (h : Sl w v xs) (hlen : xs.length ≤ 1000000) : Calls Try.prog 62 #[v] w (GivesFn w (fun x => decide (x ∈ xs))) := by
  have HS := Lib.hid h
  clear h
  have hnl : (norm xs).length ≤ 1000000 := Nat.le_trans (norm_length _) hlen
  have hmf : ∀ (fn : Fn) (first cap : Array Value) (w : World), (Instr.makeFunc fn first cap).run Try.prog w = .ok (.func fn first cap) w := fun _ _ _ _ => rfl
  go_enter Try.func62, Try.ntmps62
  go_wp2_with (go_at_call 48; refine (setOfE_any _ _ xs HS.out hlen).mono ?_; rintro e w' ⟨v', rfl, ho, hb⟩; have HO := Lib.hid ho; have HB := Lib.hid hb; obtain ⟨ao, c, rfl⟩ := ho.sl.len; clear ho hb)
  go_ret
  refine ⟨_, rfl, ?_, HB.out.alloc HB.out.size _⟩
  have ht := tells_in (w'.alloc (.cells #[.slice ao (norm xs).length c] 27)) w'.heap.size (.slice ao (norm xs).length c) (norm xs) (by simp) (by rw [World.cell?_alloc_at _ _ _ _ rfl]; rfl) (HO.out.sl.alloc _) (norm_SS xs) hnl
  simp only [mem_norm] at ht
  exact ht
theorem not_any (w : World) (fv : Value) (p : Int → Bool) (h : Tells ival w fv p) : Calls Try.prog 61 #[fv] w (GivesFn w (fun x => !p x)) := by
  have HT := Lib.hid h
  obtain ⟨g, lb, rfl, eg, hp⟩ := h.any
  clear h hp eg
  have hmf : ∀ (fn : Fn) (first cap : Array Value) (w : World), (Instr.makeFunc fn first cap).run Try.prog w = .ok (.func fn first cap) w := fun _ _ _ _ => rfl
  go_enter Try.func61, Try.ntmps61
  go_wp2
  go_ret
  exact ⟨_, rfl, tells_not _ w.heap.size _ p (by simp) (by rw [World.cell?_alloc_at _ _ _ _ rfl]; rfl) (HT.out.ext ((Ext.refl w).alloc _)), (Ext.refl w).alloc _⟩

set_option maxHeartbeats 1000000 in
theorem indexFunc_i (w : World) (v fv : Value) (E : List Int) (p : Int → Bool) (h : Sl w v E) (ht : Tells ival w fv p) :
    Calls Try.prog 77 #[v, fv] w fun e w' => ∃ r : Int, e = .returned (.int .i64 r) ∧ decide (0 ≤ r) = E.any p ∧ Ext w w' := by
  obtain ⟨g, lb, rfl, eg, hp⟩ := ht.any
  have HP := Lib.hid hp
  clear ht hp
  rcases h.ints with ⟨rfl, ao, c, rfl⟩ | ⟨b, off, c, rfl, hc, hc63, hb, hpos, hcell⟩
  · go_enter Try.func77, Try.ntmps77
    go_wp2
    refine wp_loop_rounds 1 ?_
    rw [rounds_succ]
    go_wp2
    go_ret
    exact ⟨_, rfl, rfl, Ext.refl _⟩
  · have HC := Lib.hid hcell
    clear hcell h
    go_enter Try.func77, Try.ntmps77
    go_wp2
    go_loopw [8] (fun i wr => ∃ k : Nat, k ≤ E.length ∧ i = .int .i64 k ∧ Hid ((E.take k).any p = false) ∧ Hid (Ext w wr)) (fun i _ => E.length - (intOf i).toNat)
    case atStart => exact ⟨0, Nat.zero_le _, rfl, Lib.hid rfl, Lib.hid (Ext.refl _)⟩
    case round =>
      obtain ⟨k, hk, rfl, HT, HX⟩ := hrel
      by_cases hlt : k < E.length
      · have hya := (HX.out.cell (p := ⟨b, off + k, none⟩) hb).trans (HC.out k hlt)
        obtain ⟨y, hy⟩ : ∃ y, y = E.getD k 0 := ⟨_, rfl⟩
        rw [← hy] at hya
        have HN : Hid ((E.take (k + 1)).any p = ((E.take k).any p || p y)) := Lib.hid (by rw [any_next p hlt 0, ← hy])
        have HH : Hid (∀ s, p y = s → Calls Try.prog g (#[.int .i64 y] ++ lb) wr fun e w' => e = .returned (.bool s) ∧ Ext wr w') := Lib.hid fun s hs => hs ▸ HP.out wr y HX.out
        clear hy
        obtain ⟨s, hs⟩ : ∃ s, p y = s := ⟨_, rfl⟩
        rw [hs] at HN
        have HS := Lib.hid hs
        clear hs
        cases s
        · go_wp2_with (go_at_fn g; refine (HH.out _ HS.out).mono ?_; rintro e w1 ⟨rfl, hx⟩; have HX1 := Lib.hid (HX.out.trans hx); clear hx)
          go_roundw
          case rel => exact ⟨k + 1, by omega, by go_num, Lib.hid (by rw [HN.out, HT.out]; rfl), HX1⟩
          case measure => simp [intOf]; omega
        · go_wp2_with (go_at_fn g; refine (HH.out _ HS.out).mono ?_; rintro e w1 ⟨rfl, hx⟩; have HX1 := Lib.hid (HX.out.trans hx); clear hx)
          go_ret
          exact ⟨_, rfl, by rw [any_of_take (HN.out.trans (by simp))]; simp, HX1.out⟩
      · have hkl : k = E.length := by omega
        go_wp2
        go_ret
        exact ⟨_, rfl, by have := HT.out; rw [hkl, List.take_length] at this; rw [this]; rfl, HX.out⟩
theorem containsFunc_i (w : World) (v fv : Value) (E : List Int) (p : Int → Bool) (h : Sl w v E) (ht : Tells ival w fv p) (t : Bool) (hr : E.any p = t) :
    Calls Try.prog 60 #[v, fv] w fun e w' => e = .returned (.bool t) ∧ Ext w w' := by
  subst hr
  have HS := Lib.hid h
  have HT := Lib.hid ht
  clear h ht
  go_enter Try.func60, Try.ntmps60
  go_wp2_with (go_at_call 77; refine (indexFunc_i _ _ _ E p HS.out HT.out).mono ?_; rintro e w1 ⟨r, rfl, hr, hx⟩; have HR := Lib.hid hr; have HX := Lib.hid hx; clear hr hx)
  go_ret
  exact ⟨ret_bool HR.out, HX.out⟩
theorem setWithin_val (w : World) (v u : Value) (xs ys : List Int) (h : Sl w v xs) (g : Sl w u ys) (hy : ys.length ≤ 1000000) (t : Bool) (ht : (xs.all fun x => decide (x ∈ ys)) = t) : Calls Try.prog 39 #[v, u] w fun e w' => e = .returned (.bool t) ∧ Ext w w' := by
  have HS := Lib.hid h
  have HG := Lib.hid g
  have hq : xs.any (fun x => !decide (x ∈ ys)) = !t := by rw [← ht]; simp [List.all_eq_not_any_not]
  have HQ := Lib.hid hq
  clear h g ht hq
  go_enter Try.func39, Try.ntmps39
  go_wp2_with (first
    | (go_at_call 62; refine (in_any _ _ ys HG.out hy).mono ?_; rintro e w1 ⟨fv, rfl, ht, hb⟩; obtain ⟨g1, l1, rfl⟩ := ht.sh; have HT := Lib.hid ht; have HB := Lib.hid hb; clear ht hb)
    | (go_at_call 61; refine (not_any _ _ _ HT.out).mono ?_; rintro e w2 ⟨fv2, rfl, ht, hb⟩; obtain ⟨g2, l2, rfl⟩ := ht.sh; have HT2 := Lib.hid ht; have HB2 := Lib.hid (HB.out.trans hb); clear ht hb)
    | (go_at_call 60; refine (containsFunc_i _ _ _ xs _ (HS.out.ext HB2.out) HT2.out _ HQ.out).mono ?_; rintro e w3 ⟨rfl, hd⟩; have HD := Lib.hid hd; clear hd))
  go_ret
  exact ⟨ret_bool (by cases t <;> rfl), HB2.out.trans HD.out⟩

set_option maxHeartbeats 1000000 in
theorem equal_i (w : World) (v u : Value) (xs ys : List Int) (h : Sl w v xs) (g : Sl w u ys) (t : Bool) (ht : decide (xs = ys) = t) :
    Calls Try.prog 33 #[v, u] w fun e w' => e = .returned (.bool t) ∧ Ext w w' := by
  obtain ⟨ao1, c1, rfl⟩ := h.len
  obtain ⟨ao2, c2, rfl⟩ := g.len
  have l1 := h.length_le
  have l2 := g.length_le
  have HS := Lib.hid h
  have HM := Lib.hid g
  have HE := Lib.hid ht
  clear h g ht
  by_cases e3 : xs.length = ys.length
  · have q3 : ((xs.length : Int) != (ys.length : Int)) = false := by simp [e3]
    have HL3 := Lib.hid e3
    clear e3
    go_enter Try.func33, Try.ntmps33
    go_wp2
    go_loopw [13] (fun i wr => ∃ k : Nat, k ≤ xs.length ∧ i = .int .i64 k ∧ Hid (xs.take k = ys.take k) ∧ Hid (Ext w wr)) (fun i _ => xs.length - (intOf i).toNat)
    case atStart => exact ⟨0, Nat.zero_le _, rfl, Lib.hid rfl, Lib.hid (Ext.refl _)⟩
    case round =>
      obtain ⟨k, hk, rfl, HQ, HX⟩ := hrel
      by_cases hlt : k < xs.length
      · have hltM : k < ys.length := by have := HL3.out; omega
        rcases HS.out.ints with ⟨e, _⟩ | ⟨b1, o1, c1', e1, hnc1, hc1, hb1, _, hcell1⟩
        · rw [e] at hlt; exact absurd hlt (Nat.not_lt_zero _)
        rcases HM.out.ints with ⟨e, _⟩ | ⟨b2, o2, c2', e2, hnc2, hc2, hb2, _, hcell2⟩
        · rw [e] at hltM; exact absurd hltM (Nat.not_lt_zero _)
        simp only [Value.slice.injEq] at e1 e2
        obtain ⟨rfl, _, rfl⟩ := e1
        obtain ⟨rfl, _, rfl⟩ := e2
        obtain ⟨y, hy⟩ : ∃ y, y = xs.getD k 0 := ⟨_, rfl⟩
        obtain ⟨z, hz⟩ : ∃ z, z = ys.getD k 0 := ⟨_, rfl⟩
        have HCY : Hid (∀ V, Ext wr V → V.cell? ⟨b1, o1 + k, none⟩ = some (.int .i64 y)) := Lib.hid fun V hV => by rw [hy]; exact ((HX.out.trans hV).cell (p := ⟨b1, o1 + k, none⟩) hb1).trans (hcell1 k hlt)
        have HCZ : Hid (∀ V, Ext wr V → V.cell? ⟨b2, o2 + k, none⟩ = some (.int .i64 z)) := Lib.hid fun V hV => by rw [hz]; exact ((HX.out.trans hV).cell (p := ⟨b2, o2 + k, none⟩) hb2).trans (hcell2 k hltM)
        have HN : Hid (xs.take (k + 1) = ys.take (k + 1) ↔ xs.take k = ys.take k ∧ y = z) := Lib.hid (by rw [hy, hz]; exact take_eq_next hlt hltM 0)
        clear hcell1 hcell2 hy hz
        by_cases hyz : y = z
        · have q : (y != z) = false := by simp [hyz]
          have HYZ := Lib.hid hyz
          clear hyz
          go_wp2_with fail
          (refine wp_region_X_lit (K := fun W => Ext wr W) (by kernel_rfl) (fun w1 hw1 => ?_))
          have HX1 := Lib.hid (HX.out.trans hw1)
          have HW1 := Lib.hid hw1
          clear hw1
          refine xtv 0 (h := ?_)
          refine xtv 1 (h := ?_)
          refine xtv 2 (h := ?_)
          refine xtv 3 (hv := by intro w' hw'; have a0 := HCY.out w' hw'; go_simp; first | done | with_reducible rfl) (h := ?_)
          refine xtv 4 (h := ?_)
          refine xtv 5 (h := ?_)
          refine xtv 6 (h := ?_)
          refine xtv 7 (hv := by intro w' hw'; have a0 := HCZ.out w' hw'; go_simp; first | done | with_reducible rfl) (h := ?_)
          refine xtv 8 (h := ?_)
          (refine xdone (by kernel_rfl) (HW1.out) ?_)
          go_wp2
          go_roundw
          case rel => exact ⟨k + 1, by omega, by go_num, Lib.hid (HN.out.2 ⟨HQ.out, HYZ.out⟩), HX1⟩
          case measure => simp [intOf]; omega
        · have q : (y != z) = true := by simp [hyz]
          have HYZ := Lib.hid hyz
          clear hyz
          go_wp2_with fail
          (refine wp_region_X_lit (K := fun W => Ext wr W) (by kernel_rfl) (fun w1 hw1 => ?_))
          have HX1 := Lib.hid (HX.out.trans hw1)
          have HW1 := Lib.hid hw1
          clear hw1
          refine xtv 0 (h := ?_)
          refine xtv 1 (h := ?_)
          refine xtv 2 (h := ?_)
          refine xtv 3 (hv := by intro w' hw'; have a0 := HCY.out w' hw'; go_simp; first | done | with_reducible rfl) (h := ?_)
          refine xtv 4 (h := ?_)
          refine xtv 5 (h := ?_)
          refine xtv 6 (h := ?_)
          refine xtv 7 (hv := by intro w' hw'; have a0 := HCZ.out w' hw'; go_simp; first | done | with_reducible rfl) (h := ?_)
          refine xtv 8 (h := ?_)
          (refine xdone (by kernel_rfl) (HW1.out) ?_)
          go_wp2
          go_ret
          exact ⟨ret_bool (by
            rw [← HE.out]
            exact (decide_eq_false fun e => HYZ.out ((HN.out.1 (by rw [e])).2)).symm), HX1.out⟩
      · have hkl : k = xs.length := by omega
        have HF : Hid (true = t) := Lib.hid (by
          have hq := HQ.out
          rw [hkl, List.take_length, HL3.out, List.take_length] at hq
          rw [← HE.out, decide_eq_true hq])
        go_wp2
        go_ret
        exact ⟨ret_bool HF.out, HX.out⟩
  · have q3 : ((xs.length : Int) != (ys.length : Int)) = true := by simp; omega
    have HF : Hid (false = t) := Lib.hid (by rw [← HE.out, decide_eq_false fun e => e3 (by rw [e])])
    clear e3
    go_enter Try.func33, Try.ntmps33
    go_wp2
    go_ret
    exact ⟨ret_bool HF.out, Ext.refl _⟩

set_option maxHeartbeats 2000000 in
theorem clone_i (w : World) (v : Value) (L : List Int) (h : Sl w v L) (hl : L.length ≤ 1000) :
    Calls Try.prog 30 #[v] w fun e w' => ∃ v', e = .returned v' ∧ Ow w' w.heap.size v' L ∧ Ext w w' := by
  have h0 := h
  obtain ⟨_, ao, c, rfl, h2, h3, h4, h5⟩ := h0
  cases ao with
  | none =>
    obtain rfl := h4 rfl
    have hL : L = [] := List.eq_nil_of_length_eq_zero (by omega)
    subst hL
    clear h h2 h3 h4 h5
    dsimp only [List.length_nil]
    have q := fun w => Lib.run_eql_slice_nil (P := Try.prog) w _ _ none 0 0 0 0 (Elem.row (α := Int))
    change ∀ w, (binOp .eql 27 (.slice none 0 0) (.slice none 0 0)).run Try.prog w = .ok (.bool true) w at q
    go_enter Try.func30, Try.ntmps30
    go_wp2
    go_ret
    exact ⟨_, rfl, Ow.nil _ _, Ext.refl _⟩
  | some a =>
    have HS := Lib.hid h
    clear h h2 h3 h4 h5
    have q := fun w => Lib.run_eql_slice_nil (P := Try.prog) w _ _ (some a) L.length c 0 0 (Elem.row (α := Int))
    change ∀ w, (binOp .eql 27 (.slice (some a) L.length c) (.slice none 0 0)).run Try.prog w = .ok (.bool false) w at q
    go_enter Try.func30, Try.ntmps30
    go_wp2_with (first
      | (at_builtin; refine wpList_append_sl (α := Int) rfl (.tmp 5) (.tmp 6) rfl w.heap.size (.slice (some ⟨_, 0, none⟩) 0 0) [] rfl ?_ _ L rfl ?_ ?_ ?_ ?_; exact (Ow.litAt w _ _ rfl (Nat.le_refl _) [] (by simp)); exact (HS.out.alloc _); (first | omega | (simp; omega)); exact (by rw [size_alloc]; omega); intro v6 W6 ho6 ha6; obtain ⟨a6, n6, c6, rfl⟩ := ho6.sh; have O6 : Hid (Ow W6 w.heap.size (.slice a6 n6 c6) L) := Lib.hid ho6; have X6 : Hid (Ext w W6) := Lib.hid (Below.trans (Ext.alloc (Ext.refl w) _) ha6.below); clear ho6 ha6))
    go_ret
    exact ⟨_, rfl, O6.out, X6.out⟩
end Go.Proofs.Ytpjpjchnfllcmaa
