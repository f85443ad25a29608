/- Layer 15, the program: sets of numbers: all of them, who is in one, whether one lies within another one; rows of numbers compared and copied. -/
import Derived.Test.YtgcnjkabpcbkgaaS3
import Derived.Test.YtgcnjkabpcbkgaaRegX
import Derived.Lib.SliceRun
namespace Go.Proofs.Ytgcnjkabpcbkgaa
open Go.RowKit

theorem setTells_all (w : World) : Tells ival w (.func (.func 60) #[] #[]) (fun _ => true) :=
  ⟨60, _, rfl, enters_of Try.func60 (by kernel_rfl) rfl, fun W y hb => by
    change Calls Try.prog _ #[.int .i64 y] W _
    go_enter Try.func60, Try.ntmps60
    go_wp2
    go_ret
    exact ⟨rfl, Ext.refl _⟩⟩
theorem setOfE_any (w : World) (v : Value) (xs : List Int) (h : Sl w v xs) (hlen : xs.length ≤ 1000000) : Calls Try.prog 47 #[v] w (GivesOw w (norm xs)) := by
  have HS := Lib.hid h
  have hn : norm (xs.filter fun _ => true) = norm xs := by rw [List.filter_eq_self.2 (fun _ _ => rfl)]
  have HN := Lib.hid hn
  clear h hn
  go_enter Try.func47, Try.ntmps47
  go_wp2_with (go_at_call 59; refine (those_i _ _ _ xs _ HS.out (setTells_all _) hlen).mono ?_; rintro e w' ⟨v', rfl, ho, hb⟩; have HO := Lib.hid ho; have HB := Lib.hid hb; clear ho hb)
  go_ret
  exact ⟨_, rfl, by rw [← HN.out]; exact HO.out, HB.out⟩
/-- A function value that tells p, made by a call. -/
def GivesFn (w : World) (p : Int → Bool) (e : Ending) (w' : World) : Prop := ∃ fv, e = .returned fv ∧ Tells ival w' fv p ∧ Ext w w'
set_option maxHeartbeats 1000000 in
theorem equal_i (w : World) (v u : Value) (xs ys : List Int) (h : Sl w v xs) (g : Sl w u ys) (t : Bool) (ht : decide (xs = ys) = t) :
    Calls Try.prog 40 #[v, u] w fun e w' => e = .returned (.bool t) ∧ Ext w w' := by
  obtain ⟨ao1, c1, rfl⟩ := h.len
  obtain ⟨ao2, c2, rfl⟩ := g.len
  have l1 := h.length_le
  have l2 := g.length_le
  have HS := Lib.hid h
  have HM := Lib.hid g
  have HE := Lib.hid ht
  clear h g ht
  by_cases e3 : xs.length = ys.length
  · have q3 : ((xs.length : Int) != (ys.length : Int)) = false := by simp [e3]
    have HL3 := Lib.hid e3
    clear e3
    go_enter Try.func40, Try.ntmps40
    go_wp2
    go_loopw [13] (fun i wr => ∃ k : Nat, k ≤ xs.length ∧ i = .int .i64 k ∧ Hid (xs.take k = ys.take k) ∧ Hid (Ext w wr)) (fun i _ => xs.length - (intOf i).toNat)
    case atStart => exact ⟨0, Nat.zero_le _, rfl, Lib.hid rfl, Lib.hid (Ext.refl _)⟩
    case round =>
      obtain ⟨k, hk, rfl, HQ, HX⟩ := hrel
      by_cases hlt : k < xs.length
      · have hltM : k < ys.length := by have := HL3.out; omega
        rcases HS.out.ints with ⟨e, _⟩ | ⟨b1, o1, c1', e1, hnc1, hc1, hb1, _, hcell1⟩
        · rw [e] at hlt; exact absurd hlt (Nat.not_lt_zero _)
        rcases HM.out.ints with ⟨e, _⟩ | ⟨b2, o2, c2', e2, hnc2, hc2, hb2, _, hcell2⟩
        · rw [e] at hltM; exact absurd hltM (Nat.not_lt_zero _)
        simp only [Value.slice.injEq] at e1 e2
        obtain ⟨rfl, _, rfl⟩ := e1
        obtain ⟨rfl, _, rfl⟩ := e2
        obtain ⟨y, hy⟩ : ∃ y, y = xs.getD k 0 := ⟨_, rfl⟩
        obtain ⟨z, hz⟩ : ∃ z, z = ys.getD k 0 := ⟨_, rfl⟩
        have HCY : Hid (∀ V, Ext wr V → V.cell? ⟨b1, o1 + k, none⟩ = some (.int .i64 y)) := Lib.hid fun V hV => by rw [hy]; exact ((HX.out.trans hV).cell (p := ⟨b1, o1 + k, none⟩) hb1).trans (hcell1 k hlt)
        have HCZ : Hid (∀ V, Ext wr V → V.cell? ⟨b2, o2 + k, none⟩ = some (.int .i64 z)) := Lib.hid fun V hV => by rw [hz]; exact ((HX.out.trans hV).cell (p := ⟨b2, o2 + k, none⟩) hb2).trans (hcell2 k hltM)
        have HN : Hid (xs.take (k + 1) = ys.take (k + 1) ↔ xs.take k = ys.take k ∧ y = z) := Lib.hid (by rw [hy, hz]; exact take_eq_next hlt hltM 0)
        clear hcell1 hcell2 hy hz
        by_cases hyz : y = z
        · have q : (y != z) = false := by simp [hyz]
          have HYZ := Lib.hid hyz
          clear hyz
          go_wp2_with fail
          (refine wp_region_X_lit (K := fun W => Ext wr W) (by kernel_rfl) (fun w1 hw1 => ?_))
          have HX1 := Lib.hid (HX.out.trans hw1)
          have HW1 := Lib.hid hw1
          clear hw1
          refine xtv 0 (h := ?_)
          refine xtv 1 (h := ?_)
          refine xtv 2 (h := ?_)
          refine xtv 3 (hv := by intro w' hw'; have a0 := HCY.out w' hw'; go_simp; first | done | with_reducible rfl) (h := ?_)
          refine xtv 4 (h := ?_)
          refine xtv 5 (h := ?_)
          refine xtv 6 (h := ?_)
          refine xtv 7 (hv := by intro w' hw'; have a0 := HCZ.out w' hw'; go_simp; first | done | with_reducible rfl) (h := ?_)
          refine xtv 8 (h := ?_)
          (refine xdone (by kernel_rfl) (HW1.out) ?_)
          go_wp2
          go_roundw
          case rel => exact ⟨k + 1, by omega, by go_num, Lib.hid (HN.out.2 ⟨HQ.out, HYZ.out⟩), HX1⟩
          case measure => simp [intOf]; omega
        · have q : (y != z) = true := by simp [hyz]
          have HYZ := Lib.hid hyz
          clear hyz
          go_wp2_with fail
          (refine wp_region_X_lit (K := fun W => Ext wr W) (by kernel_rfl) (fun w1 hw1 => ?_))
          have HX1 := Lib.hid (HX.out.trans hw1)
          have HW1 := Lib.hid hw1
          clear hw1
          refine xtv 0 (h := ?_)
          refine xtv 1 (h := ?_)
          refine xtv 2 (h := ?_)
          refine xtv 3 (hv := by intro w' hw'; have a0 := HCY.out w' hw'; go_simp; first | done | with_reducible rfl) (h := ?_)
          refine xtv 4 (h := ?_)
          refine xtv 5 (h := ?_)
          refine xtv 6 (h := ?_)
          refine xtv 7 (hv := by intro w' hw'; have a0 := HCZ.out w' hw'; go_simp; first | done | with_reducible rfl) (h := ?_)
          refine xtv 8 (h := ?_)
          (refine xdone (by kernel_rfl) (HW1.out) ?_)
          go_wp2
          go_ret
          exact ⟨ret_bool (by
            rw [← HE.out]
            exact (decide_eq_false fun e => HYZ.out ((HN.out.1 (by rw [e])).2)).symm), HX1.out⟩
      · have hkl : k = xs.length := by omega
        have HF : Hid (true = t) := Lib.hid (by
          have hq := HQ.out
          rw [hkl, List.take_length, HL3.out, List.take_length] at hq
          rw [← HE.out, decide_eq_true hq])
        go_wp2
        go_ret
        exact ⟨ret_bool HF.out, HX.out⟩
  · have q3 : ((xs.length : Int) != (ys.length : Int)) = true := by simp; omega
    have HF : Hid (false = t) := Lib.hid (by rw [← HE.out, decide_eq_false fun e => e3 (by rw [e])])
    clear e3
    go_enter Try.func40, Try.ntmps40
    go_wp2
    go_ret
    exact ⟨ret_bool HF.out, Ext.refl _⟩

set_option maxHeartbeats 2000000 in
theorem clone_i (w : World) (v : Value) (L : List Int) (h : Sl w v L) (hl : L.length ≤ 1000) :
    Calls Try.prog 57 #[v] w fun e w' => ∃ v', e = .returned v' ∧ Ow w' w.heap.size v' L ∧ Ext w w' := by
  have h0 := h
  obtain ⟨_, ao, c, rfl, h2, h3, h4, h5⟩ := h0
  cases ao with
  | none =>
    obtain rfl := h4 rfl
    have hL : L = [] := List.eq_nil_of_length_eq_zero (by omega)
    subst hL
    clear h h2 h3 h4 h5
    dsimp only [List.length_nil]
    have q := fun w => Lib.run_eql_slice_nil (P := Try.prog) w _ _ none 0 0 0 0 (Elem.row (α := Int))
    change ∀ w, (binOp .eql 25 (.slice none 0 0) (.slice none 0 0)).run Try.prog w = .ok (.bool true) w at q
    go_enter Try.func57, Try.ntmps57
    go_wp2
    go_ret
    exact ⟨_, rfl, Ow.nil _ _, Ext.refl _⟩
  | some a =>
    have HS := Lib.hid h
    clear h h2 h3 h4 h5
    have q := fun w => Lib.run_eql_slice_nil (P := Try.prog) w _ _ (some a) L.length c 0 0 (Elem.row (α := Int))
    change ∀ w, (binOp .eql 25 (.slice (some a) L.length c) (.slice none 0 0)).run Try.prog w = .ok (.bool false) w at q
    go_enter Try.func57, Try.ntmps57
    go_wp2_with (first
      | (at_builtin; refine wpList_append_sl (α := Int) rfl (.tmp 5) (.tmp 6) rfl w.heap.size (.slice (some ⟨_, 0, none⟩) 0 0) [] rfl ?_ _ L rfl ?_ ?_ ?_ ?_; exact (Ow.litAt w _ _ rfl (Nat.le_refl _) [] (by simp)); exact (HS.out.alloc _); (first | omega | (simp; omega)); exact (by rw [size_alloc]; omega); intro v6 W6 ho6 ha6; obtain ⟨a6, n6, c6, rfl⟩ := ho6.sh; have O6 : Hid (Ow W6 w.heap.size (.slice a6 n6 c6) L) := Lib.hid ho6; have X6 : Hid (Ext w W6) := Lib.hid (Below.trans (Ext.alloc (Ext.refl w) _) ha6.below); clear ho6 ha6))
    go_ret
    exact ⟨_, rfl, O6.out, X6.out⟩
end Go.Proofs.Ytgcnjkabpcbkgaa
