/- Texts of this seat. -/
import Derived.Test.YtfbambemjokmgaaGreatNAG
namespace Go.Proofs.YtfbambemjokmgaaGreat
open Go.RowKit
def rangeI (k : Nat) : List Int := (List.range k).map fun i : Nat => (i : Int)
theorem rangeI_next (k : Nat) : rangeI (k + 1) = rangeI k ++ [(k : Int)] := by unfold rangeI; rw [List.range_succ, List.map_append]; rfl
theorem rnear_range (m : Nat) (E : List Edge) (a : Int) : rnear (m : Int) E a = (rangeI m).filter fun b => decide (btw a b ∈ E) := by unfold rnear rangeI; rw [Int.toNat_natCast]
theorem rnear_length (N : Int) (E : List Edge) (a : Int) : (rnear N E a).length ≤ N.toNat := by
  unfold rnear
  have := List.length_filter_le (fun b => decide (btw a b ∈ E)) ((List.range N.toNat).map fun i : Nat => (i : Int))
  simpa using this
set_option maxHeartbeats 1000000 in
theorem refNear_any (w : World) (N : Int) (v : Value) (E : List Edge) (a : Int) (h : Sl w v E) (ok : OkG N E) :
    Calls Tryz.prog 193 #[.agg #[.int .i64 N, v], .int .i64 a] w (GivesOw w (rnear N E a)) := by
  obtain ⟨vo, vn, vc, rfl⟩ := h.sh
  have HS := Lib.hid h
  have HOK := Lib.hid (okG_iff.2 ok)
  have n0 := ok.n0
  have n64 := ok.n64
  obtain ⟨m, hm⟩ : ∃ m : Nat, (m : Int) = N := ⟨N.toNat, by omega⟩
  subst hm
  have HG := Lib.hid (graph_at w (m : Int) (.slice vo vn vc))
  rw [rnear_range]
  clear h ok
  go_enter Tryz.func193, Tryz.ntmps193
  go_wp2
  go_loopw [5, 6] (fun q i wr => ∃ k : Nat, k ≤ m ∧ i = .int .i64 k ∧ Hid (Ow wr (w.heap.size + 1) q ((rangeI k).filter fun b => decide (btw a b ∈ E))) ∧ Hid (Ext (w.alloc (.cells #[.int .i64 (m : Int), .slice vo vn vc] 53)) wr)) (fun _ i _ => m - (intOf i).toNat)
  case atStart => exact ⟨0, Nat.zero_le _, rfl, Lib.hid (Ow.litAt (w.alloc (.cells #[.int .i64 (m : Int), .slice vo vn vc] 53)) _ _ (by simp) (by simp) [] (by simp)), Lib.hid ((Ext.refl _).alloc _)⟩
  case round =>
    obtain ⟨k, hk, rfl, HO, HX⟩ := hrel
    obtain ⟨a0, a1⟩ := HG.out wr HX.out
    have hsz := Below.size HX.out
    rw [size_alloc] at hsz
    by_cases hlt : k < m
    · obtain ⟨t, ht⟩ : ∃ t, decide (btw a (k : Int) ∈ E) = t := ⟨_, rfl⟩
      have HN : Hid ((rangeI (k + 1)).filter (fun b => decide (btw a b ∈ E)) = (rangeI k).filter (fun b => decide (btw a b ∈ E)) ++ (if t = true then [(k : Int)] else [])) := Lib.hid (by
        rw [rangeI_next, List.filter_append, List.filter_cons, ht]; rfl)
      have HT := Lib.hid ht
      obtain ⟨L, hL⟩ : ∃ L, L = (rangeI k).filter (fun b => decide (btw a b ∈ E)) := ⟨_, rfl⟩
      have hLl : L.length ≤ 64 := by
        have := List.length_filter_le (fun b => decide (btw a b ∈ E)) (rangeI k)
        rw [← hL] at this
        unfold rangeI at this
        simp at this
        omega
      rw [← hL] at HO HN
      clear ht hL
      cases t
      all_goals
        go_wp2_with (first
          | (go_at_call 45; refine (refCheck_val _ (m : Int) _ E (HS.out.ext (Ext.trans ((Ext.refl w).alloc _) HX.out)) true HOK.out).mono ?_; rintro e w1 ⟨rfl, hx⟩; have X1 := Lib.hid (Ext.trans HX.out hx); have Y1 := Lib.hid hx; obtain ⟨b0, b1⟩ := HG.out w1 X1.out; clear hx)
          | (go_at_call 42; refine (refHas_val _ (m : Int) _ E a k (HS.out.ext (Ext.trans ((Ext.refl w).alloc _) X1.out)) _ HT.out).mono ?_; rintro e w2 ⟨rfl, hx⟩; have X2 := Lib.hid (Ext.trans X1.out hx); have Y2 := Lib.hid (Ext.trans Y1.out hx); have hs2 := Below.size Y2.out; obtain ⟨d0, d1⟩ := HG.out w2 X2.out; clear hx)
          | (at_builtin; refine wpList_append_sl (α := Int) rfl (.tmp 22) (.tmp 24) rfl (w.heap.size + 1) _ L rfl ?_ (.slice (some ⟨_, 0, none⟩) 1 1) [(k : Int)] rfl ?_ ?_ ?_ ?_; exact ((HO.out.ext Y2.out).alloc _); exact (Sl.litAt w2 _ rfl [(k : Int)] (show (1 : Nat) ≤ 1000000 by decide)); (first | omega | (simp; omega)); exact (by first | omega | (rw [size_alloc]; omega)); intro v3 W3 ho3 ha3; have O3 := Lib.hid ho3; have X3 := Lib.hid (Below.trans (X2.out.alloc _) (Below.mono ha3.below (by rw [size_alloc]; omega))); clear ho3 ha3))
        go_roundw
        case rel => exact ⟨k + 1, by omega, by go_num, Lib.hid (by rw [HN.out]; first | exact O3.out | (rw [if_neg (by decide), List.append_nil]; exact HO.out.ext Y2.out)), by first | exact X3 | exact X2⟩
        case measure => simp [intOf]; omega
    · have hkm : k = m := by omega
      subst hkm
      go_wp2
      go_ret
      exact ⟨_, rfl, HO.out.mono (by omega), Ext.trans ((Ext.refl w).alloc _) HX.out⟩
theorem refUsed_any (w : World) (cv lv : Value) (c L : List Int) (x : Int) (hc : Sl w cv c) (hl : Sl w lv L) (hin : ∀ y ∈ L, 0 ≤ y ∧ y < c.length) (r : Bool) (hr : takenB c L x = r) :
    Calls Tryz.prog 195 #[cv, lv, .int .i64 x] w fun e w' => e = .returned (.bool r) ∧ Ext w w' := by
  subst hr
  rcases hl.ints with ⟨rfl, lo, k, rfl⟩ | ⟨b, off, k0, rfl, h1, h63, hb, hpos, hcell⟩
  · obtain ⟨co, cc, rfl⟩ := hc.len
    clear hc hl
    go_enter Tryz.func195, Tryz.ntmps195
    go_wp2
    refine wp_loop_rounds 1 ?_
    rw [rounds_succ]
    go_wp2
    go_ret
    exact ⟨rfl, (by repeat (first | exact Ext.refl _ | assumption | refine Ext.alloc ?_ _ | refine Ext.drew ?_ | refine Ext.drewN ?_ _))⟩
  · have HC := Lib.hid hcell
    have HL := Lib.hid hc
    have HI := Lib.hid hin
    have hlen : L.length ≤ 9223372036854775807 := by omega
    obtain ⟨co, cc, rfl⟩ := hc.len
    clear hcell hl hc hin
    go_enter Tryz.func195, Tryz.ntmps195
    go_wp2
    go_loopw [7] (fun i wr => ∃ k : Nat, k ≤ L.length ∧ i = .int .i64 k ∧ Hid ((L.take k).any (fun y => col c y == x) = false) ∧ Hid (Ext w wr)) (fun i _ => L.length - (intOf i).toNat)
    case atStart => exact ⟨0, Nat.zero_le _, rfl, Lib.hid rfl, Lib.hid (Ext.refl _)⟩
    case round =>
      obtain ⟨k, hk, rfl, HT, HX⟩ := hrel
      by_cases hlt : k < L.length
      · have hya := (HX.out.cell (p := ⟨b, off + k, none⟩) hb).trans (HC.out k hlt)
        obtain ⟨y, hy⟩ : ∃ y, y = L.getD k 0 := ⟨_, rfl⟩
        rw [← hy] at hya
        obtain ⟨hy0, hy1⟩ := HI.out y (hy ▸ getD_mem hlt 0)
        obtain ⟨b2, off2, n2, k2, hv, hn2, hnk2, hk63, hb2, hcell2⟩ := HL.out.colAt hy0 hy1
        simp only [Value.slice.injEq] at hv
        obtain ⟨rfl, rfl, rfl⟩ := hv
        have hyb := (HX.out.cell (p := ⟨b2, off2 + y.toNat, none⟩) hb2).trans hcell2
        have HN : Hid ((L.take (k + 1)).any (fun y => col c y == x) = ((L.take k).any (fun y => col c y == x) || (col c y == x))) := Lib.hid (by rw [any_next _ hlt 0, ← hy])
        clear hy hcell2 hn2
        obtain ⟨z, hz⟩ : ∃ z, z = col c y := ⟨_, rfl⟩
        rw [← hz] at hyb HN
        clear hz
        cases ht : (z == x)
        all_goals have HZ := Lib.hid ht
        · go_wp2
          go_roundw
          case rel => exact ⟨k + 1, by omega, by go_num, Lib.hid (by rw [HN.out, HT.out, HZ.out]; rfl), HX⟩
          case measure => simp [intOf]; omega
        · go_wp2
          go_ret
          exact ⟨ret_bool (any_of_take (HN.out.trans (by rw [HZ.out]; simp))).symm, HX.out⟩
      · have hkl : k = L.length := by omega
        go_wp2
        go_ret
        exact ⟨ret_bool (by have := HT.out; rw [hkl, List.take_length] at this; exact this.symm), HX.out⟩
def turnB (c L : List Int) (a : Int) : Bool := (col c a == 0) && !waits c L a
theorem refTurn_any (w : World) (cv lv : Value) (c L : List Int) (a : Int) (hc : Sl w cv c) (hl : Sl w lv L) (hin : ∀ y ∈ L, 0 ≤ y ∧ y < c.length) (h0 : 0 ≤ a) (h1 : a < c.length) (r : Bool) (hr : turnB c L a = r) :
    Calls Tryz.prog 194 #[cv, lv, .int .i64 a] w fun e w' => e = .returned (.bool r) ∧ Ext w w' := by
  obtain ⟨ba, oa, na, ka, rfl, hna, hnka, hka63, hba, hcella⟩ := hc.colAt h0 h1
  obtain ⟨za, hza⟩ : ∃ z, z = col c a := ⟨_, rfl⟩
  rw [← hza] at hcella
  have HZA := Lib.hid hza
  have han : a < (na : Int) := by omega
  have HLL := Lib.hid hl
  obtain ⟨lo, lc, rfl⟩ := hl.len
  have hlen := hl.length_le
  have HI := Lib.hid hin
  have HL := Lib.hid hc
  have HR := Lib.hid hr
  have HNA := Lib.hid hna
  clear hl hc hin hza hr h1
  go_enter Tryz.func194, Tryz.ntmps194
  go_wp2
  go_loopw [7] (fun i wr => ∃ k : Nat, k ≤ L.length ∧ i = .int .i64 k ∧ Hid ((L.take k).any (fun y => decide (a < y) && (col c y == 0)) = false) ∧ Hid (Ext w wr)) (fun i _ => L.length - (intOf i).toNat)
  case atStart => exact ⟨0, Nat.zero_le _, rfl, Lib.hid rfl, Lib.hid (Ext.refl _)⟩
  case round =>
    obtain ⟨k, hk, rfl, HT, HX⟩ := hrel
    have hca := (HX.out.cell (p := ⟨ba, oa + a.toNat, none⟩) hba).trans hcella
    by_cases hlt : k < L.length
    · obtain ⟨b, off, rfl, hn, hnc, hc63, hb, hcell⟩ := HLL.out.intsAt hlt
      have hya := (HX.out.cell (p := ⟨b, off + k, none⟩) hb).trans hcell
      obtain ⟨y, hy⟩ : ∃ y, y = L.getD k 0 := ⟨_, rfl⟩
      rw [← hy] at hya
      obtain ⟨hy0, hy1⟩ := HI.out y (hy ▸ getD_mem hlt 0)
      obtain ⟨b2, off2, n2, k2, hv, hn2, hnk2, hk63, hb2, hcell2⟩ := HL.out.colAt hy0 hy1
      simp only [Value.slice.injEq, Option.some.injEq, Addr.mk.injEq, and_true] at hv
      obtain ⟨⟨rfl, rfl⟩, rfl, rfl⟩ := hv
      have hyn : y < (na : Int) := by omega
      have hyb := (HX.out.cell (p := ⟨ba, oa + y.toNat, none⟩) hb2).trans hcell2
      have HN : Hid ((L.take (k + 1)).any (fun y => decide (a < y) && (col c y == 0)) = ((L.take k).any (fun y => decide (a < y) && (col c y == 0)) || (decide (a < y) && (col c y == 0)))) := Lib.hid (by rw [any_next _ hlt 0, ← hy])
      clear hy hcell2 hn2 hy1
      obtain ⟨z, hz⟩ : ∃ z, z = col c y := ⟨_, rfl⟩
      rw [← hz] at hyb HN
      clear hz
      by_cases hay : a < y
      · cases ht : (z == 0)
        all_goals have HZ := Lib.hid ht
        · have HF := Lib.hid (HN.out.trans (by rw [HT.out, HZ.out, Bool.and_false, Bool.false_or]))
          go_wp2
          go_roundw
          case rel => exact ⟨k + 1, by omega, by go_num, HF, HX⟩
          case measure => simp [intOf]; omega
        · have HF : Hid ((L.take (k + 1)).any (fun y => decide (a < y) && (col c y == 0)) = true) := Lib.hid (HN.out.trans (by rw [decide_eq_true hay, HZ.out]; simp))
          go_wp2
          go_ret
          exact ⟨ret_bool (by rw [← HR.out]; unfold turnB waits; rw [any_of_take HF.out]; simp), HX.out⟩
      · have HF : Hid ((L.take (k + 1)).any (fun y => decide (a < y) && (col c y == 0)) = false) := Lib.hid (HN.out.trans (by rw [HT.out, decide_eq_false hay]; rfl))
        go_wp2
        go_roundw
        case rel => exact ⟨k + 1, by omega, by go_num, HF, HX⟩
        case measure => simp [intOf]; omega
    · have hkl : k = L.length := by omega
      have HF : Hid (r = (za == 0)) := Lib.hid (by
        have ht := HT.out
        rw [hkl, List.take_length] at ht
        rw [← HR.out]; unfold turnB waits; rw [ht, ← HZA.out]; simp)
      go_wp2
      go_ret
      exact ⟨ret_bool HF.out.symm, HX.out⟩
end Go.Proofs.YtfbambemjokmgaaGreat
namespace Go.Proofs.YtfbambemjokmgaaGreat
open Go.RowKit
set_option maxHeartbeats 2000000 in
theorem refRound_any (w : World) (N : Int) (v cv : Value) (E : List Edge) (c : List Int) (h : Sl w v E) (hc : Sl w cv c) (ok : OkG N E) (hl : (c.length : Int) = N) :
    Calls Tryz.prog 160 #[.agg #[.int .i64 N, v], cv] w (GivesOw w (roundL N E c)) := by
  obtain ⟨vo, vn, vc, rfl⟩ := h.sh
  obtain ⟨co, cc, rfl⟩ := hc.len
  have n0 := ok.n0
  have n64 := ok.n64
  obtain ⟨m, hm⟩ : ∃ m : Nat, (m : Int) = N := ⟨N.toNat, by omega⟩
  subst hm
  have HS := Lib.hid h
  have HC := Lib.hid hc
  have HOK := Lib.hid ok
  have HG := Lib.hid (graph_at w (m : Int) (.slice vo vn vc))
  have HGB : Hid (∀ V, Ext (w.alloc (.cells #[.int .i64 (m : Int), .slice vo vn vc] 53)) V → V.heap[w.heap.size]? = some (.cells #[.int .i64 (m : Int), .slice vo vn vc] 53 (0, 0))) := Lib.hid fun V hV => box1 (hV.mono (by rw [size_alloc]; omega))
  obtain ⟨RR, hR⟩ : ∃ R, R = roundL (m : Int) E c := ⟨_, rfl⟩
  have hRl : RR.length = m := by rw [hR, roundL_length]; omega
  have HR := Lib.hid hR
  have HRL := Lib.hid hRl
  have hcm : c.length = m := by omega
  have HCM := Lib.hid hcm
  rw [← hR]
  clear h hc ok hR hRl hl hcm
  go_enter Tryz.func160, Tryz.ntmps160
  go_wp2
  go_loopw [5, 6] (fun q i wr => ∃ k : Nat, k ≤ m ∧ i = .int .i64 k ∧ Hid (Ow wr (w.heap.size + 1) q (RR.take k)) ∧ Hid (Ext (w.alloc (.cells #[.int .i64 (m : Int), .slice vo vn vc] 53)) wr)) (fun _ i _ => m - (intOf i).toNat)
  case atStart => exact ⟨0, Nat.zero_le _, rfl, Lib.hid (Ow.litAt (w.alloc (.cells #[.int .i64 (m : Int), .slice vo vn vc] 53)) _ _ (by simp) (by simp) [] (by simp)), Lib.hid ((Ext.refl _).alloc _)⟩
  case round =>
    obtain ⟨k, hk, rfl, HO, HX⟩ := hrel
    obtain ⟨a0, a1⟩ := HG.out wr HX.out
    have hsz := Below.size HX.out
    rw [size_alloc] at hsz
    by_cases hlt : k < m
    · obtain ⟨b, off, n2, k2, hv, hn2, hnk2, hk63, hb, hcell⟩ := HC.out.colAt (x := (k : Int)) (by omega) (by have := HCM.out; omega)
      simp only [Value.slice.injEq] at hv
      obtain ⟨rfl, rfl, rfl⟩ := hv
      rw [Int.toNat_natCast] at hcell
      have hkc : k < c.length := by have := HCM.out; omega
      have hya := (Below.cell (Ext.trans ((Ext.refl w).alloc _) HX.out) (p := ⟨b, off + k, none⟩) hb).trans hcell
      obtain ⟨y, hy⟩ : ∃ y, y = col c (k : Int) := ⟨_, rfl⟩
      rw [← hy] at hya
      have HYA := Lib.hid hya
      have HY := Lib.hid hy
      have HN : Hid (RR.take (k + 1) = RR.take k ++ [take1 c (rnear (m : Int) E k) k]) := Lib.hid (by
        rw [take_next (by rw [HRL.out]; exact hlt) 0]
        congr 2
        have := col_round (N := (m : Int)) (E := E) (c := c) (i := (k : Int)) (by omega) (by omega)
        rw [← HR.out] at this
        exact this)
      have HIN : Hid (∀ x ∈ rnear (m : Int) E (k : Int), 0 ≤ x ∧ x < c.length) := Lib.hid fun x hx => by have := near_in HOK.out ((mem_rnear HOK.out).1 hx); have := HCM.out; omega
      have HRN := Lib.hid (rnear_length (m : Int) E (k : Int))
      obtain ⟨M, hM⟩ : ∃ M, M = rnear (m : Int) E (k : Int) := ⟨_, rfl⟩
      rw [← hM] at HN HIN HRN
      have HM := Lib.hid hM
      obtain ⟨L, hL⟩ : ∃ L, L = RR.take k := ⟨_, rfl⟩
      have hLl : L.length ≤ 64 := by rw [hL]; simp; omega
      rw [← hL] at HO HN
      clear hy hcell hM hL hn2 hya
      have hbr : b < wr.heap.size := by have := Below.size (Ext.trans ((Ext.refl w).alloc (.cells #[.int .i64 (m : Int), .slice vo vn vc] 53)) HX.out); omega
      go_wp2_with fail
      (refine wp_region_X_lit (K := fun W => W.heap[w.heap.size]? = some (.cells #[.int .i64 (m : Int), .slice vo vn vc] 53 (0, 0)) ∧ W.cell? ⟨b, off + k, none⟩ = some (.int .i64 y)) (by kernel_rfl) (fun w1 hw1 => ?_))
      have HX1 := Lib.hid (Ext.trans HX.out hw1)
      have HE1 := Lib.hid hw1
      have HK1 := Lib.hid (And.intro (HGB.out w1 HX1.out) ((Below.cell hw1 (p := ⟨b, off + k, none⟩) hbr).trans HYA.out))
      clear hw1
      refine xtv 0 (hv := by intro w' hw'; have hc0 := blk_cell hw'.1 0 rfl; have hc1 := blk_cell hw'.1 1 rfl; go_simp; first | done | with_reducible rfl) (h := ?_)
      refine xtv 1 (h := ?_)
      refine xtv 3 (h := ?_)
      refine xtv 4 (h := ?_)
      refine xtv 5 (h := ?_)
      refine xtv 6 (hv := by intro w' hw'; have hc0 := hw'.2; go_simp; first | done | with_reducible rfl) (h := ?_)
      refine xone 2 (hk := HK1.out) (h := RunX.of 2 (h := ?_))
      go_simp
      refine (refNear_any w1 (m : Int) _ E (k : Int) (HS.out.ext (Ext.trans ((Ext.refl w).alloc _) HX1.out)) HOK.out).mono ?_
      rintro e2 w2 ⟨v2, rfl, ho2, hx2⟩
      obtain ⟨a2, n2, c2, rfl⟩ := ho2.sh
      rw [← HM.out] at ho2
      have HX2 := Lib.hid (Ext.trans HX1.out hx2)
      have HE2 := Lib.hid (Ext.trans HE1.out hx2)
      have HO2 := Lib.hid ho2.sl
      have HK2 := Lib.hid (And.intro (HGB.out w2 HX2.out) ((Below.cell HE2.out (p := ⟨b, off + k, none⟩) hbr).trans HYA.out))
      clear ho2 hx2
      dsimp only
      (try (simp only [Act.put, List.setIfInBounds_toArray, List.set]))
      refine xtv 7 (h := ?_)
      refine xtv 8 (h := ?_)
      (refine xdone (by kernel_rfl) (HK2.out) ?_)
      cases ht : turnB c M (k : Int)
      all_goals have HT := Lib.hid ht
      · have hz : take1 c M (k : Int) = y := by
          have ht := HT.out
          unfold turnB at ht
          rw [← HY.out, Bool.and_eq_false_iff] at ht
          rcases ht with e | e
          · rw [take1_keeps (by rw [← HY.out]; simpa using e)]; exact HY.out.symm
          · rw [take1_waits (by simpa using e)]; exact HY.out.symm
        rw [hz] at HN
        clear hz ht
        go_wp2_with (first
          | (go_at_call 194; refine (refTurn_any _ _ _ c M (k : Int) (HC.out.ext (Ext.trans ((Ext.refl w).alloc _) HX2.out)) HO2.out HIN.out (by omega) (by omega) false HT.out).mono ?_; rintro e3 w3 ⟨rfl, hx⟩; have XL := Lib.hid (Ext.trans HX2.out hx); have EL := Lib.hid (Ext.trans HE2.out hx); have hs3 := Below.size EL.out; clear hx)
          | (at_builtin; refine wpList_append_sl (α := Int) rfl (.tmp 33) (.tmp 35) rfl (w.heap.size + 1) _ L rfl ?_ (.slice (some ⟨_, 0, none⟩) 1 1) [y] rfl ?_ ?_ ?_ ?_; exact ((HO.out.ext EL.out).alloc _); exact (Sl.litAt w3 _ rfl [y] (show (1 : Nat) ≤ 1000000 by decide)); (first | omega | (simp; omega)); exact (by first | omega | (rw [size_alloc]; omega)); intro v5 W5 ho5 ha5; have O5 := Lib.hid ho5; have X5 := Lib.hid (Below.trans (XL.out.alloc _) (Below.mono ha5.below (by rw [size_alloc]; omega))); clear ho5 ha5))
        go_roundw
        case rel => exact ⟨k + 1, by omega, by go_num, Lib.hid (by rw [HN.out]; exact O5.out), X5⟩
        case measure => simp [intOf]; omega
      · have hm : IsLeast (takenB c M) (take1 c M (k : Int)) := by
          have ht := HT.out
          unfold turnB at ht
          rw [Bool.and_eq_true] at ht
          exact take1_takes (by simpa using ht.1) (by simpa using ht.2)
        obtain ⟨z, hz⟩ : ∃ z, z = take1 c M (k : Int) := ⟨_, rfl⟩
        rw [← hz] at hm HN
        have hz1 := hm.pos
        have hz2 : z ≤ 1000 := by
          have := hm.le (M := M.map (col c)) fun x hx => taken_mem hx
          rw [List.length_map] at this
          have := HRN.out
          omega
        have HZ := Lib.hid hm
        clear hm ht hz
        go_wp2_with (first
          | (go_at_call 194; refine (refTurn_any _ _ _ c M (k : Int) (HC.out.ext (Ext.trans ((Ext.refl w).alloc _) HX2.out)) HO2.out HIN.out (by omega) (by omega) true HT.out).mono ?_; rintro e3 w3 ⟨rfl, hx⟩; have X3 := Lib.hid (Ext.trans HX2.out hx); have E3 := Lib.hid (Ext.trans HE2.out hx); have Q3 := Lib.hid hx; clear hx))
        obtain ⟨W0, hW0⟩ : ∃ W0, W0 = wr := ⟨_, rfl⟩
        rw [← hW0] at HO E3 hsz
        clear hW0
        go_loopw [8] (fun i wr2 => ∃ j : Int, 1 ≤ j ∧ j ≤ z ∧ i = .int .i64 j ∧ Hid (Ext w3 wr2)) (fun i _ => (z - intOf i).toNat)
        case atStart => exact ⟨1, by omega, hz1, rfl, Lib.hid (Ext.refl _)⟩
        case round =>
          obtain ⟨j, hj1, hj, rfl, HXJ⟩ := hrel
          have HSC := Lib.hid (HC.out.ext (Ext.trans ((Ext.refl w).alloc _) (Ext.trans X3.out HXJ.out)))
          have HSM := Lib.hid (HO2.out.ext (Ext.trans Q3.out HXJ.out))
          by_cases hjz : j < z
          · have HJ := Lib.hid (HZ.out.low j hj1 hjz)
            have hw1 : IntKind.i64.wrap (j + 1) = j + 1 := wrapN _ (by omega) (by omega)
            go_wp2_with (first
              | (go_at_call 195; refine (refUsed_any _ _ _ c M j HSC.out HSM.out HIN.out true HJ.out).mono ?_; rintro e4 w4 ⟨rfl, hx⟩; have X4 := Lib.hid (Ext.trans HXJ.out hx); clear hx))
            go_roundw
            case rel => exact ⟨j + 1, by omega, by omega, rfl, X4⟩
            case measure => simp [intOf]; omega
          · have hjz2 : j = z := by omega
            subst hjz2
            have HJ := Lib.hid HZ.out.free
            go_wp2_with (first
              | (go_at_call 195; refine (refUsed_any _ _ _ c M j HSC.out HSM.out HIN.out false HJ.out).mono ?_; rintro e4 w4 ⟨rfl, hx⟩; have XL := Lib.hid (Ext.trans X3.out (Ext.trans HXJ.out hx)); have EL := Lib.hid (Ext.trans E3.out (Ext.trans HXJ.out hx)); have hs3 := Below.size EL.out; clear hx)
              | (at_builtin; refine wpList_append_sl (α := Int) rfl (.tmp 33) (.tmp 35) rfl (w.heap.size + 1) _ L rfl ?_ (.slice (some ⟨_, 0, none⟩) 1 1) [j] rfl ?_ ?_ ?_ ?_; exact ((HO.out.ext EL.out).alloc _); exact (Sl.litAt w4 _ rfl [j] (show (1 : Nat) ≤ 1000000 by decide)); (first | omega | (simp; omega)); exact (by first | omega | (rw [size_alloc]; omega)); intro v5 W5 ho5 ha5; have O5 := Lib.hid ho5; have X5 := Lib.hid (Below.trans (XL.out.alloc _) (Below.mono ha5.below (by rw [size_alloc]; omega))); clear ho5 ha5))
            go_roundw
            case rel => exact ⟨k + 1, by omega, by go_num, Lib.hid (by rw [HN.out]; exact O5.out), X5⟩
            case measure => simp [intOf]; omega
    · have hkm : k = m := by omega
      have ho := HO.out
      rw [hkm, ← HRL.out, List.take_length] at ho
      have HO' := Lib.hid ho
      clear ho HO hkm
      go_wp2
      go_ret
      exact ⟨_, rfl, HO'.out.mono (by omega), Ext.trans ((Ext.refl w).alloc _) HX.out⟩
theorem zero_next (k : Nat) : List.replicate (k + 1) (0 : Int) = List.replicate k 0 ++ [0] := List.replicate_succ'
set_option maxHeartbeats 2000000 in
theorem refRun_any (w : World) (N : Int) (v : Value) (E : List Edge) (h : Sl w v E) (ok : OkG N E) (K : Nat) (hK : Ends N E K) :
    Calls Tryz.prog 132 #[.agg #[.int .i64 N, v]] w fun e w' => ∃ v, e = .returned (.tuple #[v, .int .i64 (K : Int)]) ∧ Sl w' v (itr N E K) ∧ Ext w w' := by
  obtain ⟨vo, vn, vc, rfl⟩ := h.sh
  have n0 := ok.n0
  have n64 := ok.n64
  have hKN := hK.le ok
  obtain ⟨m, hm⟩ : ∃ m : Nat, (m : Int) = N := ⟨N.toNat, by omega⟩
  subst hm
  have HS := Lib.hid h
  have HOK := Lib.hid ok
  have HE := Lib.hid hK
  have HZ : Hid (List.replicate m (0 : Int) = itr (m : Int) E 0) := Lib.hid rfl
  have HG := Lib.hid (graph_at w (m : Int) (.slice vo vn vc))
  clear h ok hK
  go_enter Tryz.func132, Tryz.ntmps132
  go_wp2
  go_loopw [4, 6] (fun q i wr => ∃ k : Nat, k ≤ m ∧ i = .int .i64 k ∧ Hid (Ow wr (w.heap.size + 1) q (List.replicate k (0 : Int))) ∧ Hid (Ext (w.alloc (.cells #[.int .i64 (m : Int), .slice vo vn vc] 53)) wr)) (fun _ i _ => m - (intOf i).toNat)
  case atStart => exact ⟨0, Nat.zero_le _, rfl, Lib.hid (Ow.litAt (w.alloc (.cells #[.int .i64 (m : Int), .slice vo vn vc] 53)) _ _ (by simp) (by simp) [] (by simp)), Lib.hid ((Ext.refl _).alloc _)⟩
  case round =>
    obtain ⟨k, hk, rfl, HO, HX⟩ := hrel
    obtain ⟨a0, a1⟩ := HG.out wr HX.out
    have hsz := Below.size HX.out
    rw [size_alloc] at hsz
    by_cases hlt : k < m
    · have HN := Lib.hid (zero_next k)
      obtain ⟨L, hL⟩ : ∃ L, L = List.replicate k (0 : Int) := ⟨_, rfl⟩
      have hLl : L.length ≤ 64 := by rw [hL]; simp; omega
      rw [← hL] at HO HN
      clear hL
      go_wp2_with (first
        | (at_builtin; refine wpList_append_sl (α := Int) rfl (.tmp 14) (.tmp 15) rfl (w.heap.size + 1) _ L rfl ?_ (.slice (some ⟨_, 0, none⟩) 1 1) [0] rfl ?_ ?_ ?_ ?_; exact (HO.out.alloc _); exact (Sl.litAt wr _ rfl [0] (show (1 : Nat) ≤ 1000000 by decide)); (first | omega | (simp; omega)); exact (by first | omega | (rw [size_alloc]; omega)); intro v5 W5 ho5 ha5; have O5 := Lib.hid ho5; have X5 := Lib.hid (Below.trans (HX.out.alloc _) (Below.mono ha5.below (by rw [size_alloc]; omega))); clear ho5 ha5))
      go_roundw
      case rel => exact ⟨k + 1, by omega, by go_num, Lib.hid (by rw [HN.out]; exact O5.out), X5⟩
      case measure => simp [intOf]; omega
    · have hkm : m = k := by omega
      subst hkm
      rw [HZ.out] at HO
      obtain ⟨qo, qn, qc, rfl⟩ := HO.out.sh
      obtain ⟨W0, hW0⟩ : ∃ W0, W0 = wr := ⟨_, rfl⟩
      rw [← hW0] at HO HX
      have HSL := Lib.hid HO.out.sl
      go_wp2
      go_loopw [4, 5] (fun q r wr2 => ∃ j : Nat, j ≤ K ∧ r = .int .i64 j ∧ (∃ ao n c, q = .slice ao n c) ∧ Hid (Sl wr2 q (itr (m : Int) E j)) ∧ Hid (Ext W0 wr2)) (fun _ r _ => K - (intOf r).toNat)
      case atStart => exact ⟨0, Nat.zero_le _, rfl, ⟨_, _, _, rfl⟩, Lib.hid (hW0 ▸ HSL.out), Lib.hid (hW0 ▸ Ext.refl _)⟩
      case round =>
        obtain ⟨j, hj, rfl, ⟨ao, n, c, rfl⟩, HOJ, HXJ⟩ := hrel
        have HXT := Lib.hid (Ext.trans HX.out HXJ.out)
        have HLK : Hid (((itr (m : Int) E j).length : Int) = (m : Int)) := Lib.hid (by rw [itr_length]; rfl)
        have HNX : Hid (itr (m : Int) E (j + 1) = roundL (m : Int) E (itr (m : Int) E j)) := Lib.hid rfl
        have HIN : Hid (j < K → (0 : Int) ∈ itr (m : Int) E j) := Lib.hid (HE.out.1 j)
        have HOUT : Hid (j = K → (0 : Int) ∉ itr (m : Int) E j) := Lib.hid (fun e => e ▸ HE.out.2)
        obtain ⟨D, hD⟩ : ∃ D, D = itr (m : Int) E j := ⟨_, rfl⟩
        have HDD := Lib.hid hD
        rw [← hD] at HOJ HLK HNX HIN HOUT
        clear hD
        obtain ⟨d0, d1⟩ := HG.out _ HXT.out
        by_cases hjK : j < K
        · have HD := Lib.hid (decide_eq_true (HIN.out hjK))
          go_wp2_with (first
            | (go_at_call 33; refine (refHasI_val _ _ D 0 HOJ.out true HD.out).mono ?_; rintro e w' ⟨rfl, rfl⟩)
            | (go_at_call 160; refine (refRound_any _ (m : Int) _ _ E D (HS.out.ext (Ext.trans ((Ext.refl w).alloc _) HXT.out)) HOJ.out HOK.out HLK.out).mono ?_; rintro e w5 ⟨v5, rfl, ho, hx⟩; obtain ⟨a5, n5, c5, rfl⟩ := ho.sh; have X5 := Lib.hid (Ext.trans HXJ.out hx); have O5 := Lib.hid ho.sl; clear hx ho))
          go_roundw
          case rel => exact ⟨j + 1, by omega, by go_num, ⟨_, _, _, rfl⟩, Lib.hid (by rw [HNX.out]; exact O5.out), X5⟩
          case measure => simp [intOf]; omega
        · have hjk2 : j = K := by omega
          have HD := Lib.hid (decide_eq_false (HOUT.out hjk2))
          subst hjk2
          go_wp2_with (first
            | (go_at_call 33; refine (refHasI_val _ _ D 0 HOJ.out false HD.out).mono ?_; rintro e w' ⟨rfl, rfl⟩))
          go_ret2
          exact ⟨_, rfl, by rw [← HDD.out]; exact HOJ.out, Ext.trans ((Ext.refl w).alloc _) HXT.out⟩
end Go.Proofs.YtfbambemjokmgaaGreat
