/- The document's answers for colours: who is near, whose turn it is, a round, all rounds, whether they are right. -/
import Derived.Test.YtdfleocknaackaaGreatY7
namespace Go.Proofs.YtdfleocknaackaaGreat
open Go.RowKit

def rangeI (k : Nat) : List Int := (List.range k).map fun i : Nat => (i : Int)
theorem rangeI_next (k : Nat) : rangeI (k + 1) = rangeI k ++ [(k : Int)] := by unfold rangeI; rw [List.range_succ, List.map_append]; rfl
theorem rnear_range (m : Nat) (E : List Edge) (a : Int) : rnear (m : Int) E a = (rangeI m).filter fun b => decide (btw a b ∈ E) := by unfold rnear rangeI; rw [Int.toNat_natCast]
theorem rnear_length (N : Int) (E : List Edge) (a : Int) : (rnear N E a).length ≤ N.toNat := by
  unfold rnear
  have := List.length_filter_le (fun b => decide (btw a b ∈ E)) ((List.range N.toNat).map fun i : Nat => (i : Int))
  simpa using this

set_option maxHeartbeats 1000000 in
theorem refNear_any (w : World) (N : Int) (v : Value) (E : List Edge) (a : Int) (h : Sl w v E) (ok : OkG N E) :
    Calls Tryz.prog 123 #[.agg #[.int .i64 N, v], .int .i64 a] w (GivesOw w (rnear N E a)) := by
  obtain ⟨vo, vn, vc, rfl⟩ := h.sh
  have HS := Lib.hid h
  have HOK := Lib.hid (okG_iff.2 ok)
  have n0 := ok.n0
  have n64 := ok.n64
  obtain ⟨m, hm⟩ : ∃ m : Nat, (m : Int) = N := ⟨N.toNat, by omega⟩
  subst hm
  have HG := Lib.hid (graph_at w (m : Int) (.slice vo vn vc))
  rw [rnear_range]
  clear h ok
  go_enter Tryz.func123, Tryz.ntmps123
  go_wp2
  go_loopw [5, 6] (fun q i wr => ∃ k : Nat, k ≤ m ∧ i = .int .i64 k ∧ Hid (Ow wr (w.heap.size + 1) q ((rangeI k).filter fun b => decide (btw a b ∈ E))) ∧ Hid (Ext (w.alloc (.cells #[.int .i64 (m : Int), .slice vo vn vc] 24)) wr)) (fun _ i _ => m - (intOf i).toNat)
  case atStart => exact ⟨0, Nat.zero_le _, rfl, Lib.hid (Ow.litAt (w.alloc (.cells #[.int .i64 (m : Int), .slice vo vn vc] 24)) _ _ (by simp) (by simp) [] (by simp)), Lib.hid ((Ext.refl _).alloc _)⟩
  case round =>
    obtain ⟨k, hk, rfl, HO, HX⟩ := hrel
    obtain ⟨a0, a1⟩ := HG.out wr HX.out
    have hsz := Below.size HX.out
    rw [size_alloc] at hsz
    by_cases hlt : k < m
    · obtain ⟨t, ht⟩ : ∃ t, decide (btw a (k : Int) ∈ E) = t := ⟨_, rfl⟩
      have HN : Hid ((rangeI (k + 1)).filter (fun b => decide (btw a b ∈ E)) = (rangeI k).filter (fun b => decide (btw a b ∈ E)) ++ (if t = true then [(k : Int)] else [])) := Lib.hid (by
        rw [rangeI_next, List.filter_append, List.filter_cons, ht]; rfl)
      have HT := Lib.hid ht
      obtain ⟨L, hL⟩ : ∃ L, L = (rangeI k).filter (fun b => decide (btw a b ∈ E)) := ⟨_, rfl⟩
      have hLl : L.length ≤ 64 := by
        have := List.length_filter_le (fun b => decide (btw a b ∈ E)) (rangeI k)
        rw [← hL] at this
        unfold rangeI at this
        simp at this
        omega
      rw [← hL] at HO HN
      clear ht hL
      cases t
      all_goals
        go_wp2_with (first
          | (go_at_call 30; refine (refCheck_val _ (m : Int) _ E (HS.out.ext (Ext.trans ((Ext.refl w).alloc _) HX.out)) true HOK.out).mono ?_; rintro e w1 ⟨rfl, hx⟩; have X1 := Lib.hid (Ext.trans HX.out hx); have Y1 := Lib.hid hx; obtain ⟨b0, b1⟩ := HG.out w1 X1.out; clear hx)
          | (go_at_call 18; refine (refHas_val _ (m : Int) _ E a k (HS.out.ext (Ext.trans ((Ext.refl w).alloc _) X1.out)) _ HT.out).mono ?_; rintro e w2 ⟨rfl, hx⟩; have X2 := Lib.hid (Ext.trans X1.out hx); have Y2 := Lib.hid (Ext.trans Y1.out hx); have hs2 := Below.size Y2.out; obtain ⟨d0, d1⟩ := HG.out w2 X2.out; clear hx)
          | (at_builtin; refine wpList_append_sl (α := Int) rfl (.tmp 22) (.tmp 24) rfl (w.heap.size + 1) _ L rfl ?_ (.slice (some ⟨_, 0, none⟩) 1 1) [(k : Int)] rfl ?_ ?_ ?_ ?_; exact ((HO.out.ext Y2.out).alloc _); exact (Sl.litAt w2 _ rfl [(k : Int)] (show (1 : Nat) ≤ 1000000 by decide)); (first | omega | (simp; omega)); exact (by first | omega | (rw [size_alloc]; omega)); intro v3 W3 ho3 ha3; have O3 := Lib.hid ho3; have X3 := Lib.hid (Below.trans (X2.out.alloc _) (Below.mono ha3.below (by rw [size_alloc]; omega))); clear ho3 ha3))
        go_roundw
        case rel => exact ⟨k + 1, by omega, by go_num, Lib.hid (by rw [HN.out]; first | exact O3.out | (rw [if_neg (by decide), List.append_nil]; exact HO.out.ext Y2.out)), by first | exact X3 | exact X2⟩
        case measure => simp [intOf]; omega
    · have hkm : k = m := by omega
      subst hkm
      go_wp2
      go_ret
      exact ⟨_, rfl, HO.out.mono (by omega), Ext.trans ((Ext.refl w).alloc _) HX.out⟩

theorem refUsed_any (w : World) (cv lv : Value) (c L : List Int) (x : Int) (hc : Sl w cv c) (hl : Sl w lv L) (hin : ∀ y ∈ L, 0 ≤ y ∧ y < c.length) (r : Bool) (hr : takenB c L x = r) :
    Calls Tryz.prog 125 #[cv, lv, .int .i64 x] w fun e w' => e = .returned (.bool r) ∧ Ext w w' := by
  subst hr
  rcases hl.ints with ⟨rfl, lo, k, rfl⟩ | ⟨b, off, k0, rfl, h1, h63, hb, hpos, hcell⟩
  · obtain ⟨co, cc, rfl⟩ := hc.len
    clear hc hl
    go_enter Tryz.func125, Tryz.ntmps125
    go_wp2
    refine wp_loop_rounds 1 ?_
    rw [rounds_succ]
    go_wp2
    go_ret
    exact ⟨rfl, (by repeat (first | exact Ext.refl _ | assumption | refine Ext.alloc ?_ _ | refine Ext.drew ?_ | refine Ext.drewN ?_ _))⟩
  · have HC := Lib.hid hcell
    have HL := Lib.hid hc
    have HI := Lib.hid hin
    have hlen : L.length ≤ 9223372036854775807 := by omega
    obtain ⟨co, cc, rfl⟩ := hc.len
    clear hcell hl hc hin
    go_enter Tryz.func125, Tryz.ntmps125
    go_wp2
    go_loopw [7] (fun i wr => ∃ k : Nat, k ≤ L.length ∧ i = .int .i64 k ∧ Hid ((L.take k).any (fun y => col c y == x) = false) ∧ Hid (Ext w wr)) (fun i _ => L.length - (intOf i).toNat)
    case atStart => exact ⟨0, Nat.zero_le _, rfl, Lib.hid rfl, Lib.hid (Ext.refl _)⟩
    case round =>
      obtain ⟨k, hk, rfl, HT, HX⟩ := hrel
      by_cases hlt : k < L.length
      · have hya := (HX.out.cell (p := ⟨b, off + k, none⟩) hb).trans (HC.out k hlt)
        obtain ⟨y, hy⟩ : ∃ y, y = L.getD k 0 := ⟨_, rfl⟩
        rw [← hy] at hya
        obtain ⟨hy0, hy1⟩ := HI.out y (hy ▸ getD_mem hlt 0)
        obtain ⟨b2, off2, n2, k2, hv, hn2, hnk2, hk63, hb2, hcell2⟩ := HL.out.colAt hy0 hy1
        simp only [Value.slice.injEq] at hv
        obtain ⟨rfl, rfl, rfl⟩ := hv
        have hyb := (HX.out.cell (p := ⟨b2, off2 + y.toNat, none⟩) hb2).trans hcell2
        have HN : Hid ((L.take (k + 1)).any (fun y => col c y == x) = ((L.take k).any (fun y => col c y == x) || (col c y == x))) := Lib.hid (by rw [any_next _ hlt 0, ← hy])
        clear hy hcell2 hn2
        obtain ⟨z, hz⟩ : ∃ z, z = col c y := ⟨_, rfl⟩
        rw [← hz] at hyb HN
        clear hz
        cases ht : (z == x)
        all_goals have HZ := Lib.hid ht
        · go_wp2
          go_roundw
          case rel => exact ⟨k + 1, by omega, by go_num, Lib.hid (by rw [HN.out, HT.out, HZ.out]; rfl), HX⟩
          case measure => simp [intOf]; omega
        · go_wp2
          go_ret
          exact ⟨ret_bool (any_of_take (HN.out.trans (by rw [HZ.out]; simp))).symm, HX.out⟩
      · have hkl : k = L.length := by omega
        go_wp2
        go_ret
        exact ⟨ret_bool (by have := HT.out; rw [hkl, List.take_length] at this; exact this.symm), HX.out⟩

def turnB (c L : List Int) (a : Int) : Bool := (col c a == 0) && !waits c L a
theorem refTurn_any (w : World) (cv lv : Value) (c L : List Int) (a : Int) (hc : Sl w cv c) (hl : Sl w lv L) (hin : ∀ y ∈ L, 0 ≤ y ∧ y < c.length) (h0 : 0 ≤ a) (h1 : a < c.length) (r : Bool) (hr : turnB c L a = r) :
    Calls Tryz.prog 124 #[cv, lv, .int .i64 a] w fun e w' => e = .returned (.bool r) ∧ Ext w w' := by
  obtain ⟨ba, oa, na, ka, rfl, hna, hnka, hka63, hba, hcella⟩ := hc.colAt h0 h1
  obtain ⟨za, hza⟩ : ∃ z, z = col c a := ⟨_, rfl⟩
  rw [← hza] at hcella
  have HZA := Lib.hid hza
  have han : a < (na : Int) := by omega
  have HLL := Lib.hid hl
  obtain ⟨lo, lc, rfl⟩ := hl.len
  have hlen := hl.length_le
  have HI := Lib.hid hin
  have HL := Lib.hid hc
  have HR := Lib.hid hr
  have HNA := Lib.hid hna
  clear hl hc hin hza hr h1
  go_enter Tryz.func124, Tryz.ntmps124
  go_wp2
  go_loopw [7] (fun i wr => ∃ k : Nat, k ≤ L.length ∧ i = .int .i64 k ∧ Hid ((L.take k).any (fun y => decide (a < y) && (col c y == 0)) = false) ∧ Hid (Ext w wr)) (fun i _ => L.length - (intOf i).toNat)
  case atStart => exact ⟨0, Nat.zero_le _, rfl, Lib.hid rfl, Lib.hid (Ext.refl _)⟩
  case round =>
    obtain ⟨k, hk, rfl, HT, HX⟩ := hrel
    have hca := (HX.out.cell (p := ⟨ba, oa + a.toNat, none⟩) hba).trans hcella
    by_cases hlt : k < L.length
    · obtain ⟨b, off, rfl, hn, hnc, hc63, hb, hcell⟩ := HLL.out.intsAt hlt
      have hya := (HX.out.cell (p := ⟨b, off + k, none⟩) hb).trans hcell
      obtain ⟨y, hy⟩ : ∃ y, y = L.getD k 0 := ⟨_, rfl⟩
      rw [← hy] at hya
      obtain ⟨hy0, hy1⟩ := HI.out y (hy ▸ getD_mem hlt 0)
      obtain ⟨b2, off2, n2, k2, hv, hn2, hnk2, hk63, hb2, hcell2⟩ := HL.out.colAt hy0 hy1
      simp only [Value.slice.injEq, Option.some.injEq, Addr.mk.injEq, and_true] at hv
      obtain ⟨⟨rfl, rfl⟩, rfl, rfl⟩ := hv
      have hyn : y < (na : Int) := by omega
      have hyb := (HX.out.cell (p := ⟨ba, oa + y.toNat, none⟩) hb2).trans hcell2
      have HN : Hid ((L.take (k + 1)).any (fun y => decide (a < y) && (col c y == 0)) = ((L.take k).any (fun y => decide (a < y) && (col c y == 0)) || (decide (a < y) && (col c y == 0)))) := Lib.hid (by rw [any_next _ hlt 0, ← hy])
      clear hy hcell2 hn2 hy1
      obtain ⟨z, hz⟩ : ∃ z, z = col c y := ⟨_, rfl⟩
      rw [← hz] at hyb HN
      clear hz
      by_cases hay : a < y
      · cases ht : (z == 0)
        all_goals have HZ := Lib.hid ht
        · have HF := Lib.hid (HN.out.trans (by rw [HT.out, HZ.out, Bool.and_false, Bool.false_or]))
          go_wp2
          go_roundw
          case rel => exact ⟨k + 1, by omega, by go_num, HF, HX⟩
          case measure => simp [intOf]; omega
        · have HF : Hid ((L.take (k + 1)).any (fun y => decide (a < y) && (col c y == 0)) = true) := Lib.hid (HN.out.trans (by rw [decide_eq_true hay, HZ.out]; simp))
          go_wp2
          go_ret
          exact ⟨ret_bool (by rw [← HR.out]; unfold turnB waits; rw [any_of_take HF.out]; simp), HX.out⟩
      · have HF : Hid ((L.take (k + 1)).any (fun y => decide (a < y) && (col c y == 0)) = false) := Lib.hid (HN.out.trans (by rw [HT.out, decide_eq_false hay]; rfl))
        go_wp2
        go_roundw
        case rel => exact ⟨k + 1, by omega, by go_num, HF, HX⟩
        case measure => simp [intOf]; omega
    · have hkl : k = L.length := by omega
      have HF : Hid (r = (za == 0)) := Lib.hid (by
        have ht := HT.out
        rw [hkl, List.take_length] at ht
        rw [← HR.out]; unfold turnB waits; rw [ht, ← HZA.out]; simp)
      go_wp2
      go_ret
      exact ⟨ret_bool HF.out.symm, HX.out⟩

end Go.Proofs.YtdfleocknaackaaGreat
