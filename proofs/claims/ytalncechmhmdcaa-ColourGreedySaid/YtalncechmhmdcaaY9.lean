/- The document's answers for colours: Round, Run, Right. -/
import Derived.Test.YtalncechmhmdcaaY8
namespace Go.Proofs.Ytalncechmhmdcaa
open Go.RowKit

set_option maxHeartbeats 2000000 in
theorem refRound_any (w : World) (N : Int) (v cv : Value) (E : List Edge) (c : List Int) (h : Sl w v E) (hc : Sl w cv c) (ok : OkG N E) (hl : (c.length : Int) = N) :
    Calls Try.prog 20 #[.agg #[.int .i64 N, v], cv] w (GivesOw w (roundL N E c)) := by
  obtain ⟨vo, vn, vc, rfl⟩ := h.sh
  obtain ⟨co, cc, rfl⟩ := hc.len
  have n0 := ok.n0
  have n64 := ok.n64
  obtain ⟨m, hm⟩ : ∃ m : Nat, (m : Int) = N := ⟨N.toNat, by omega⟩
  subst hm
  have HS := Lib.hid h
  have HC := Lib.hid hc
  have HOK := Lib.hid ok
  have HG := Lib.hid (graph_at w (m : Int) (.slice vo vn vc))
  have HGB : Hid (∀ V, Ext (w.alloc (.cells #[.int .i64 (m : Int), .slice vo vn vc] 24)) V → V.heap[w.heap.size]? = some (.cells #[.int .i64 (m : Int), .slice vo vn vc] 24 (0, 0))) := Lib.hid fun V hV => box1 (hV.mono (by rw [size_alloc]; omega))
  obtain ⟨RR, hR⟩ : ∃ R, R = roundL (m : Int) E c := ⟨_, rfl⟩
  have hRl : RR.length = m := by rw [hR, roundL_length]; omega
  have HR := Lib.hid hR
  have HRL := Lib.hid hRl
  have hcm : c.length = m := by omega
  have HCM := Lib.hid hcm
  rw [← hR]
  clear h hc ok hR hRl hl hcm
  go_enter Try.func20, Try.ntmps20
  go_wp2
  go_loopw [5, 6] (fun q i wr => ∃ k : Nat, k ≤ m ∧ i = .int .i64 k ∧ Hid (Ow wr (w.heap.size + 1) q (RR.take k)) ∧ Hid (Ext (w.alloc (.cells #[.int .i64 (m : Int), .slice vo vn vc] 24)) wr)) (fun _ i _ => m - (intOf i).toNat)
  case atStart => exact ⟨0, Nat.zero_le _, rfl, Lib.hid (Ow.litAt (w.alloc (.cells #[.int .i64 (m : Int), .slice vo vn vc] 24)) _ _ (by simp) (by simp) [] (by simp)), Lib.hid ((Ext.refl _).alloc _)⟩
  case round =>
    obtain ⟨k, hk, rfl, HO, HX⟩ := hrel
    obtain ⟨a0, a1⟩ := HG.out wr HX.out
    have hsz := Below.size HX.out
    rw [size_alloc] at hsz
    by_cases hlt : k < m
    · obtain ⟨b, off, n2, k2, hv, hn2, hnk2, hk63, hb, hcell⟩ := HC.out.colAt (x := (k : Int)) (by omega) (by have := HCM.out; omega)
      simp only [Value.slice.injEq] at hv
      obtain ⟨rfl, rfl, rfl⟩ := hv
      rw [Int.toNat_natCast] at hcell
      have hkc : k < c.length := by have := HCM.out; omega
      have hya := (Below.cell (Ext.trans ((Ext.refl w).alloc _) HX.out) (p := ⟨b, off + k, none⟩) hb).trans hcell
      obtain ⟨y, hy⟩ : ∃ y, y = col c (k : Int) := ⟨_, rfl⟩
      rw [← hy] at hya
      have HYA := Lib.hid hya
      have HY := Lib.hid hy
      have HN : Hid (RR.take (k + 1) = RR.take k ++ [take1 c (rnear (m : Int) E k) k]) := Lib.hid (by
        rw [take_next (by rw [HRL.out]; exact hlt) 0]
        congr 2
        have := col_round (N := (m : Int)) (E := E) (c := c) (i := (k : Int)) (by omega) (by omega)
        rw [← HR.out] at this
        exact this)
      have HIN : Hid (∀ x ∈ rnear (m : Int) E (k : Int), 0 ≤ x ∧ x < c.length) := Lib.hid fun x hx => by have := near_in HOK.out ((mem_rnear HOK.out).1 hx); have := HCM.out; omega
      have HRN := Lib.hid (rnear_length (m : Int) E (k : Int))
      obtain ⟨M, hM⟩ : ∃ M, M = rnear (m : Int) E (k : Int) := ⟨_, rfl⟩
      rw [← hM] at HN HIN HRN
      have HM := Lib.hid hM
      obtain ⟨L, hL⟩ : ∃ L, L = RR.take k := ⟨_, rfl⟩
      have hLl : L.length ≤ 64 := by rw [hL]; simp; omega
      rw [← hL] at HO HN
      clear hy hcell hM hL hn2 hya
      have hbr : b < wr.heap.size := by have := Below.size (Ext.trans ((Ext.refl w).alloc (.cells #[.int .i64 (m : Int), .slice vo vn vc] 24)) HX.out); omega
      go_wp2_with fail
      (refine wp_region_X_lit (K := fun W => W.heap[w.heap.size]? = some (.cells #[.int .i64 (m : Int), .slice vo vn vc] 24 (0, 0)) ∧ W.cell? ⟨b, off + k, none⟩ = some (.int .i64 y)) (by kernel_rfl) (fun w1 hw1 => ?_))
      have HX1 := Lib.hid (Ext.trans HX.out hw1)
      have HE1 := Lib.hid hw1
      have HK1 := Lib.hid (And.intro (HGB.out w1 HX1.out) ((Below.cell hw1 (p := ⟨b, off + k, none⟩) hbr).trans HYA.out))
      clear hw1
      refine xtv 0 (hv := by intro w' hw'; have hc0 := blk_cell hw'.1 0 rfl; have hc1 := blk_cell hw'.1 1 rfl; go_simp; first | done | with_reducible rfl) (h := ?_)
      refine xtv 1 (h := ?_)
      refine xtv 3 (h := ?_)
      refine xtv 4 (h := ?_)
      refine xtv 5 (h := ?_)
      refine xtv 6 (hv := by intro w' hw'; have hc0 := hw'.2; go_simp; first | done | with_reducible rfl) (h := ?_)
      refine xone 2 (hk := HK1.out) (h := RunX.of 2 (h := ?_))
      go_simp
      refine (refNear_any w1 (m : Int) _ E (k : Int) (HS.out.ext (Ext.trans ((Ext.refl w).alloc _) HX1.out)) HOK.out).mono ?_
      rintro e2 w2 ⟨v2, rfl, ho2, hx2⟩
      obtain ⟨a2, n2, c2, rfl⟩ := ho2.sh
      rw [← HM.out] at ho2
      have HX2 := Lib.hid (Ext.trans HX1.out hx2)
      have HE2 := Lib.hid (Ext.trans HE1.out hx2)
      have HO2 := Lib.hid ho2.sl
      have HK2 := Lib.hid (And.intro (HGB.out w2 HX2.out) ((Below.cell HE2.out (p := ⟨b, off + k, none⟩) hbr).trans HYA.out))
      clear ho2 hx2
      dsimp only
      (try (simp only [Act.put, List.setIfInBounds_toArray, List.set]))
      refine xtv 7 (h := ?_)
      refine xtv 8 (h := ?_)
      (refine xdone (by kernel_rfl) (HK2.out) ?_)
      cases ht : turnB c M (k : Int)
      all_goals have HT := Lib.hid ht
      · have hz : take1 c M (k : Int) = y := by
          have ht := HT.out
          unfold turnB at ht
          rw [← HY.out, Bool.and_eq_false_iff] at ht
          rcases ht with e | e
          · rw [take1_keeps (by rw [← HY.out]; simpa using e)]; exact HY.out.symm
          · rw [take1_waits (by simpa using e)]; exact HY.out.symm
        rw [hz] at HN
        clear hz ht
        go_wp2_with (first
          | (go_at_call 32; refine (refTurn_any _ _ _ c M (k : Int) (HC.out.ext (Ext.trans ((Ext.refl w).alloc _) HX2.out)) HO2.out HIN.out (by omega) (by omega) false HT.out).mono ?_; rintro e3 w3 ⟨rfl, hx⟩; have XL := Lib.hid (Ext.trans HX2.out hx); have EL := Lib.hid (Ext.trans HE2.out hx); have hs3 := Below.size EL.out; clear hx)
          | (at_builtin; refine wpList_append_sl (α := Int) rfl (.tmp 33) (.tmp 35) rfl (w.heap.size + 1) _ L rfl ?_ (.slice (some ⟨_, 0, none⟩) 1 1) [y] rfl ?_ ?_ ?_ ?_; exact ((HO.out.ext EL.out).alloc _); exact (Sl.litAt w3 _ rfl [y] (show (1 : Nat) ≤ 1000000 by decide)); (first | omega | (simp; omega)); exact (by first | omega | (rw [size_alloc]; omega)); intro v5 W5 ho5 ha5; have O5 := Lib.hid ho5; have X5 := Lib.hid (Below.trans (XL.out.alloc _) (Below.mono ha5.below (by rw [size_alloc]; omega))); clear ho5 ha5))
        go_roundw
        case rel => exact ⟨k + 1, by omega, by go_num, Lib.hid (by rw [HN.out]; exact O5.out), X5⟩
        case measure => simp [intOf]; omega
      · have hm : IsLeast (takenB c M) (take1 c M (k : Int)) := by
          have ht := HT.out
          unfold turnB at ht
          rw [Bool.and_eq_true] at ht
          exact take1_takes (by simpa using ht.1) (by simpa using ht.2)
        obtain ⟨z, hz⟩ : ∃ z, z = take1 c M (k : Int) := ⟨_, rfl⟩
        rw [← hz] at hm HN
        have hz1 := hm.pos
        have hz2 : z ≤ 1000 := by
          have := hm.le (M := M.map (col c)) fun x hx => taken_mem hx
          rw [List.length_map] at this
          have := HRN.out
          omega
        have HZ := Lib.hid hm
        clear hm ht hz
        go_wp2_with (first
          | (go_at_call 32; refine (refTurn_any _ _ _ c M (k : Int) (HC.out.ext (Ext.trans ((Ext.refl w).alloc _) HX2.out)) HO2.out HIN.out (by omega) (by omega) true HT.out).mono ?_; rintro e3 w3 ⟨rfl, hx⟩; have X3 := Lib.hid (Ext.trans HX2.out hx); have E3 := Lib.hid (Ext.trans HE2.out hx); have Q3 := Lib.hid hx; clear hx))
        obtain ⟨W0, hW0⟩ : ∃ W0, W0 = wr := ⟨_, rfl⟩
        rw [← hW0] at HO E3 hsz
        clear hW0
        go_loopw [8] (fun i wr2 => ∃ j : Int, 1 ≤ j ∧ j ≤ z ∧ i = .int .i64 j ∧ Hid (Ext w3 wr2)) (fun i _ => (z - intOf i).toNat)
        case atStart => exact ⟨1, by omega, hz1, rfl, Lib.hid (Ext.refl _)⟩
        case round =>
          obtain ⟨j, hj1, hj, rfl, HXJ⟩ := hrel
          have HSC := Lib.hid (HC.out.ext (Ext.trans ((Ext.refl w).alloc _) (Ext.trans X3.out HXJ.out)))
          have HSM := Lib.hid (HO2.out.ext (Ext.trans Q3.out HXJ.out))
          by_cases hjz : j < z
          · have HJ := Lib.hid (HZ.out.low j hj1 hjz)
            have hw1 : IntKind.i64.wrap (j + 1) = j + 1 := wrapN _ (by omega) (by omega)
            go_wp2_with (first
              | (go_at_call 33; refine (refUsed_any _ _ _ c M j HSC.out HSM.out HIN.out true HJ.out).mono ?_; rintro e4 w4 ⟨rfl, hx⟩; have X4 := Lib.hid (Ext.trans HXJ.out hx); clear hx))
            go_roundw
            case rel => exact ⟨j + 1, by omega, by omega, rfl, X4⟩
            case measure => simp [intOf]; omega
          · have hjz2 : j = z := by omega
            subst hjz2
            have HJ := Lib.hid HZ.out.free
            go_wp2_with (first
              | (go_at_call 33; refine (refUsed_any _ _ _ c M j HSC.out HSM.out HIN.out false HJ.out).mono ?_; rintro e4 w4 ⟨rfl, hx⟩; have XL := Lib.hid (Ext.trans X3.out (Ext.trans HXJ.out hx)); have EL := Lib.hid (Ext.trans E3.out (Ext.trans HXJ.out hx)); have hs3 := Below.size EL.out; clear hx)
              | (at_builtin; refine wpList_append_sl (α := Int) rfl (.tmp 33) (.tmp 35) rfl (w.heap.size + 1) _ L rfl ?_ (.slice (some ⟨_, 0, none⟩) 1 1) [j] rfl ?_ ?_ ?_ ?_; exact ((HO.out.ext EL.out).alloc _); exact (Sl.litAt w4 _ rfl [j] (show (1 : Nat) ≤ 1000000 by decide)); (first | omega | (simp; omega)); exact (by first | omega | (rw [size_alloc]; omega)); intro v5 W5 ho5 ha5; have O5 := Lib.hid ho5; have X5 := Lib.hid (Below.trans (XL.out.alloc _) (Below.mono ha5.below (by rw [size_alloc]; omega))); clear ho5 ha5))
            go_roundw
            case rel => exact ⟨k + 1, by omega, by go_num, Lib.hid (by rw [HN.out]; exact O5.out), X5⟩
            case measure => simp [intOf]; omega
    · have hkm : k = m := by omega
      have ho := HO.out
      rw [hkm, ← HRL.out, List.take_length] at ho
      have HO' := Lib.hid ho
      clear ho HO hkm
      go_wp2
      go_ret
      exact ⟨_, rfl, HO'.out.mono (by omega), Ext.trans ((Ext.refl w).alloc _) HX.out⟩

theorem zero_next (k : Nat) : List.replicate (k + 1) (0 : Int) = List.replicate k 0 ++ [0] := List.replicate_succ'

set_option maxHeartbeats 2000000 in
theorem refRun_any (w : World) (N : Int) (v : Value) (E : List Edge) (h : Sl w v E) (ok : OkG N E) (K : Nat) (hK : Ends N E K) :
    Calls Try.prog 22 #[.agg #[.int .i64 N, v]] w fun e w' => ∃ v, e = .returned (.tuple #[v, .int .i64 (K : Int)]) ∧ Sl w' v (itr N E K) ∧ Ext w w' := by
  obtain ⟨vo, vn, vc, rfl⟩ := h.sh
  have n0 := ok.n0
  have n64 := ok.n64
  have hKN := hK.le ok
  obtain ⟨m, hm⟩ : ∃ m : Nat, (m : Int) = N := ⟨N.toNat, by omega⟩
  subst hm
  have HS := Lib.hid h
  have HOK := Lib.hid ok
  have HE := Lib.hid hK
  have HZ : Hid (List.replicate m (0 : Int) = itr (m : Int) E 0) := Lib.hid rfl
  have HG := Lib.hid (graph_at w (m : Int) (.slice vo vn vc))
  clear h ok hK
  go_enter Try.func22, Try.ntmps22
  go_wp2
  go_loopw [4, 6] (fun q i wr => ∃ k : Nat, k ≤ m ∧ i = .int .i64 k ∧ Hid (Ow wr (w.heap.size + 1) q (List.replicate k (0 : Int))) ∧ Hid (Ext (w.alloc (.cells #[.int .i64 (m : Int), .slice vo vn vc] 24)) wr)) (fun _ i _ => m - (intOf i).toNat)
  case atStart => exact ⟨0, Nat.zero_le _, rfl, Lib.hid (Ow.litAt (w.alloc (.cells #[.int .i64 (m : Int), .slice vo vn vc] 24)) _ _ (by simp) (by simp) [] (by simp)), Lib.hid ((Ext.refl _).alloc _)⟩
  case round =>
    obtain ⟨k, hk, rfl, HO, HX⟩ := hrel
    obtain ⟨a0, a1⟩ := HG.out wr HX.out
    have hsz := Below.size HX.out
    rw [size_alloc] at hsz
    by_cases hlt : k < m
    · have HN := Lib.hid (zero_next k)
      obtain ⟨L, hL⟩ : ∃ L, L = List.replicate k (0 : Int) := ⟨_, rfl⟩
      have hLl : L.length ≤ 64 := by rw [hL]; simp; omega
      rw [← hL] at HO HN
      clear hL
      go_wp2_with (first
        | (at_builtin; refine wpList_append_sl (α := Int) rfl (.tmp 14) (.tmp 15) rfl (w.heap.size + 1) _ L rfl ?_ (.slice (some ⟨_, 0, none⟩) 1 1) [0] rfl ?_ ?_ ?_ ?_; exact (HO.out.alloc _); exact (Sl.litAt wr _ rfl [0] (show (1 : Nat) ≤ 1000000 by decide)); (first | omega | (simp; omega)); exact (by first | omega | (rw [size_alloc]; omega)); intro v5 W5 ho5 ha5; have O5 := Lib.hid ho5; have X5 := Lib.hid (Below.trans (HX.out.alloc _) (Below.mono ha5.below (by rw [size_alloc]; omega))); clear ho5 ha5))
      go_roundw
      case rel => exact ⟨k + 1, by omega, by go_num, Lib.hid (by rw [HN.out]; exact O5.out), X5⟩
      case measure => simp [intOf]; omega
    · have hkm : m = k := by omega
      subst hkm
      rw [HZ.out] at HO
      obtain ⟨qo, qn, qc, rfl⟩ := HO.out.sh
      obtain ⟨W0, hW0⟩ : ∃ W0, W0 = wr := ⟨_, rfl⟩
      rw [← hW0] at HO HX
      have HSL := Lib.hid HO.out.sl
      go_wp2
      go_loopw [4, 5] (fun q r wr2 => ∃ j : Nat, j ≤ K ∧ r = .int .i64 j ∧ (∃ ao n c, q = .slice ao n c) ∧ Hid (Sl wr2 q (itr (m : Int) E j)) ∧ Hid (Ext W0 wr2)) (fun _ r _ => K - (intOf r).toNat)
      case atStart => exact ⟨0, Nat.zero_le _, rfl, ⟨_, _, _, rfl⟩, Lib.hid (hW0 ▸ HSL.out), Lib.hid (hW0 ▸ Ext.refl _)⟩
      case round =>
        obtain ⟨j, hj, rfl, ⟨ao, n, c, rfl⟩, HOJ, HXJ⟩ := hrel
        have HXT := Lib.hid (Ext.trans HX.out HXJ.out)
        have HLK : Hid (((itr (m : Int) E j).length : Int) = (m : Int)) := Lib.hid (by rw [itr_length]; rfl)
        have HNX : Hid (itr (m : Int) E (j + 1) = roundL (m : Int) E (itr (m : Int) E j)) := Lib.hid rfl
        have HIN : Hid (j < K → (0 : Int) ∈ itr (m : Int) E j) := Lib.hid (HE.out.1 j)
        have HOUT : Hid (j = K → (0 : Int) ∉ itr (m : Int) E j) := Lib.hid (fun e => e ▸ HE.out.2)
        obtain ⟨D, hD⟩ : ∃ D, D = itr (m : Int) E j := ⟨_, rfl⟩
        have HDD := Lib.hid hD
        rw [← hD] at HOJ HLK HNX HIN HOUT
        clear hD
        obtain ⟨d0, d1⟩ := HG.out _ HXT.out
        by_cases hjK : j < K
        · have HD := Lib.hid (decide_eq_true (HIN.out hjK))
          go_wp2_with (first
            | (go_at_call 24; refine (refHasI_val _ _ D 0 HOJ.out true HD.out).mono ?_; rintro e w' ⟨rfl, rfl⟩)
            | (go_at_call 20; refine (refRound_any _ (m : Int) _ _ E D (HS.out.ext (Ext.trans ((Ext.refl w).alloc _) HXT.out)) HOJ.out HOK.out HLK.out).mono ?_; rintro e w5 ⟨v5, rfl, ho, hx⟩; obtain ⟨a5, n5, c5, rfl⟩ := ho.sh; have X5 := Lib.hid (Ext.trans HXJ.out hx); have O5 := Lib.hid ho.sl; clear hx ho))
          go_roundw
          case rel => exact ⟨j + 1, by omega, by go_num, ⟨_, _, _, rfl⟩, Lib.hid (by rw [HNX.out]; exact O5.out), X5⟩
          case measure => simp [intOf]; omega
        · have hjk2 : j = K := by omega
          have HD := Lib.hid (decide_eq_false (HOUT.out hjk2))
          subst hjk2
          go_wp2_with (first
            | (go_at_call 24; refine (refHasI_val _ _ D 0 HOJ.out false HD.out).mono ?_; rintro e w' ⟨rfl, rfl⟩))
          go_ret2
          exact ⟨_, rfl, by rw [← HDD.out]; exact HOJ.out, Ext.trans ((Ext.refl w).alloc _) HXT.out⟩

set_option maxHeartbeats 2000000 in
theorem refRight_any (w : World) (N : Int) (v cv : Value) (E : List Edge) (c : List Int) (h : Sl w v E) (hc : Sl w cv c) (r : Bool) (hr : rightD N E c = r) :
    Calls Try.prog 15 #[.agg #[.int .i64 N, v], cv] w fun e w' => e = .returned (.bool r) ∧ Ext w w' := by
  obtain ⟨vo, vn, rfl⟩ := h.len
  obtain ⟨co, cc, rfl⟩ := hc.len
  have HS := Lib.hid h
  have HC := Lib.hid hc
  have hEl := h.length_le
  have HG := Lib.hid (graph_at w N (.slice vo E.length vn))
  obtain ⟨o, ho⟩ : ∃ o, okG N E = o := ⟨_, rfl⟩
  obtain ⟨f, hf⟩ : ∃ f, cForm N c = f := ⟨_, rfl⟩
  obtain ⟨z, hz⟩ : ∃ z, decide ((0 : Int) ∈ c) = z := ⟨_, rfl⟩
  have HO := Lib.hid ho
  have HF := Lib.hid hf
  have HZ := Lib.hid hz
  unfold rightD at hr
  rw [ho, show (decide ((c.length : Int) = N) && c.all fun x => decide (0 ≤ x)) = cForm N c from rfl, hf, hz] at hr
  clear h hc ho hf hz
  have AC : Hid (∀ W, Ext (w.alloc (.cells #[.int .i64 N, .slice vo E.length vn] 24)) W → Calls Try.prog 17 #[.agg #[.int .i64 N, .slice vo E.length vn]] W fun e w' => e = .returned (.bool o) ∧ Ext W w') := Lib.hid fun W hW => refCheck_val W N _ E (HS.out.ext (Ext.trans ((Ext.refl w).alloc _) hW)) o HO.out
  have AF : Hid (∀ W, Ext (w.alloc (.cells #[.int .i64 N, .slice vo E.length vn] 24)) W → Calls Try.prog 18 #[.agg #[.int .i64 N, .slice vo E.length vn], .slice co c.length cc] W fun e w' => e = .returned (.bool f) ∧ Ext W w') := Lib.hid fun W hW => refCheckC_any W N _ _ c ⟨_, _, _, rfl⟩ (HC.out.ext (Ext.trans ((Ext.refl w).alloc _) hW)) f HF.out
  have AZ : Hid (∀ W, Ext (w.alloc (.cells #[.int .i64 N, .slice vo E.length vn] 24)) W → Calls Try.prog 24 #[.slice co c.length cc, .int .i64 0] W fun e w' => e = .returned (.bool z) ∧ W = w') := Lib.hid fun W hW => refHasI_val W _ c 0 (HC.out.ext (Ext.trans ((Ext.refl w).alloc _) hW)) z HZ.out
  have tac : ∀ b : Bool, b = r → Ending.returned (.bool b) = .returned (.bool r) := fun b e => ret_bool e
  cases o
  · rw [Bool.false_and, Bool.false_and, Bool.false_and] at hr
    subst hr
    go_enter Try.func15, Try.ntmps15
    go_wp2_with (first
      | (go_at_call 17; refine (AC.out _ (by repeat (first | exact Ext.refl _ | assumption | refine Ext.alloc ?_ _ | refine Ext.drew ?_ | refine Ext.drewN ?_ _))).mono ?_; rintro e w1 ⟨rfl, hx⟩; have X1 := Lib.hid hx; obtain ⟨a0, a1⟩ := HG.out w1 hx; clear hx))
    go_ret
    exact ⟨rfl, Ext.trans ((Ext.refl w).alloc _) X1.out⟩
  cases f
  · rw [Bool.true_and, Bool.false_and, Bool.false_and] at hr
    subst hr
    go_enter Try.func15, Try.ntmps15
    go_wp2_with (first
      | (go_at_call 17; refine (AC.out _ (by repeat (first | exact Ext.refl _ | assumption | refine Ext.alloc ?_ _ | refine Ext.drew ?_ | refine Ext.drewN ?_ _))).mono ?_; rintro e w1 ⟨rfl, hx⟩; have X1 := Lib.hid hx; obtain ⟨a0, a1⟩ := HG.out w1 hx; clear hx)
      | (go_at_call 18; refine (AF.out _ X1.out).mono ?_; rintro e w2 ⟨rfl, hx⟩; have X2 := Lib.hid (Ext.trans X1.out hx); clear hx))
    go_ret
    exact ⟨rfl, Ext.trans ((Ext.refl w).alloc _) X2.out⟩
  cases z
  · have hcN := (form_iff.1 HF.out).1
    have HOK := Lib.hid (okG_iff.1 HO.out)
    rw [Bool.true_and, Bool.true_and] at hr
    have hr2 : E.all (fun e => !(col c e.a == col c e.b)) = r := by rw [← hr]; simp
    have HR := Lib.hid hr2
    clear hr hr2
    go_enter Try.func15, Try.ntmps15
    go_wp2_with (first
      | (go_at_call 17; refine (AC.out _ (by repeat (first | exact Ext.refl _ | assumption | refine Ext.alloc ?_ _ | refine Ext.drew ?_ | refine Ext.drewN ?_ _))).mono ?_; rintro e w1 ⟨rfl, hx⟩; have X1 := Lib.hid hx; obtain ⟨a0, a1⟩ := HG.out w1 hx; clear hx)
      | (go_at_call 18; refine (AF.out _ X1.out).mono ?_; rintro e w2 ⟨rfl, hx⟩; have X2 := Lib.hid (Ext.trans X1.out hx); clear hx)
      | (go_at_call 24; refine (AZ.out _ X2.out).mono ?_; rintro e w' ⟨rfl, rfl⟩))
    go_loopw [5] (fun i wr => ∃ k : Nat, k ≤ E.length ∧ i = .int .i64 k ∧ Hid ((E.take k).all (fun e => !(col c e.a == col c e.b)) = true) ∧ Hid (Ext (w.alloc (.cells #[.int .i64 N, .slice vo E.length vn] 24)) wr)) (fun i _ => E.length - (intOf i).toNat)
    case atStart => exact ⟨0, Nat.zero_le _, rfl, Lib.hid rfl, Lib.hid X2.out⟩
    case round =>
      obtain ⟨k, hk, rfl, HT, HX⟩ := hrel
      obtain ⟨e0, e1⟩ := HG.out wr HX.out
      have XW := Lib.hid (Ext.trans ((Ext.refl w).alloc _) HX.out)
      by_cases hlt : k < E.length
      · obtain ⟨b, off, rfl, hn, hnc, hc63, hb, hya0, hyb0⟩ := HS.out.edgesAt hlt
        obtain ⟨⟨ya, yb⟩, hy⟩ : ∃ y, y = E.getD k ⟨0, 0⟩ := ⟨_, rfl⟩
        rw [← hy] at hya0 hyb0
        have hed := HOK.out.each ⟨ya, yb⟩ (hy ▸ getD_mem hlt ⟨0, 0⟩)
        dsimp only at hed
        obtain ⟨hA0, hAB, hBN⟩ := hed
        have hya := (Below.cell XW.out (p := ⟨b, off + k * 2, none⟩) hb).trans hya0
        have hyb := (Below.cell XW.out (p := ⟨b, off + k * 2 + 1, none⟩) hb).trans hyb0
        dsimp only at hya hyb
        obtain ⟨b2, off2, n2, k2, hv, hn2, hnk2, hk63, hb2, hca⟩ := HC.out.colAt (x := ya) hA0 (by omega)
        obtain ⟨b3, off3, n3, k3, hv3, hn3, hnk3, hk633, hb3, hcb⟩ := HC.out.colAt (x := yb) (by omega) (by omega)
        simp only [Value.slice.injEq] at hv
        obtain ⟨rfl, rfl, rfl⟩ := hv
        simp only [Value.slice.injEq, Option.some.injEq, Addr.mk.injEq, and_true] at hv3
        obtain ⟨⟨rfl, rfl⟩, rfl, rfl⟩ := hv3
        have hda := (Below.cell XW.out (p := ⟨b2, off2 + ya.toNat, none⟩) hb2).trans hca
        have hdb := (Below.cell XW.out (p := ⟨b2, off2 + yb.toNat, none⟩) hb2).trans hcb
        have hal : ya < (c.length : Int) := by omega
        have hbl : yb < (c.length : Int) := by omega
        have hb0 : 0 ≤ yb := by omega
        have HN : Hid ((E.take (k + 1)).all (fun e => !(col c e.a == col c e.b)) = ((E.take k).all (fun e => !(col c e.a == col c e.b)) && !(col c ya == col c yb))) := Lib.hid (by rw [all_next _ hlt ⟨0, 0⟩, ← hy])
        have HMEM : Hid ((⟨ya, yb⟩ : Edge) ∈ E) := Lib.hid (hy ▸ getD_mem hlt ⟨0, 0⟩)
        have HAL : Hid ((col c ya == col c yb) = true → r = false) := Lib.hid fun e => by
          rw [← HR.out, List.all_eq_false]
          exact ⟨_, HMEM.out, by simp [e]⟩
        clear hy hya0 hyb0 hca hcb hn2 hn3 hAB hBN hn
        obtain ⟨p, hp⟩ : ∃ p, p = col c ya := ⟨_, rfl⟩
        obtain ⟨q, hq⟩ : ∃ q, q = col c yb := ⟨_, rfl⟩
        rw [← hp] at hda HN HAL
        rw [← hq] at hdb HN HAL
        clear hp hq
        cases ht : (p == q)
        · have HF : Hid ((E.take (k + 1)).all (fun e => !(col c e.a == col c e.b)) = true) := Lib.hid (HN.out.trans (by rw [HT.out, ht]; rfl))
          go_wp2
          go_quiet (fail)
          go_wp2
          go_roundw
          case rel => exact ⟨k + 1, by omega, by go_num, HF, Lib.hid (by first | exact HX.out | exact Ext.drew HX.out | exact Ext.drewN HX.out _)⟩
          case measure => simp [intOf]; omega
        · have HF := Lib.hid (HAL.out ht)
          go_wp2
          go_quiet (fail)
          go_wp2
          go_ret
          exact ⟨ret_bool HF.out.symm, by first | exact XW.out | exact Ext.drew XW.out | exact Ext.drewN XW.out _⟩
      · have hkl : k = E.length := by omega
        have HF : Hid (true = r) := Lib.hid (by have := HT.out; rw [hkl, List.take_length] at this; rw [← HR.out]; exact this.symm)
        go_wp2
        go_ret
        exact ⟨ret_bool HF.out, XW.out⟩
  · have hr2 : false = r := by rw [← hr]; simp
    subst hr2
    clear hr
    go_enter Try.func15, Try.ntmps15
    go_wp2_with (first
      | (go_at_call 17; refine (AC.out _ (by repeat (first | exact Ext.refl _ | assumption | refine Ext.alloc ?_ _ | refine Ext.drew ?_ | refine Ext.drewN ?_ _))).mono ?_; rintro e w1 ⟨rfl, hx⟩; have X1 := Lib.hid hx; obtain ⟨a0, a1⟩ := HG.out w1 hx; clear hx)
      | (go_at_call 18; refine (AF.out _ X1.out).mono ?_; rintro e w2 ⟨rfl, hx⟩; have X2 := Lib.hid (Ext.trans X1.out hx); clear hx)
      | (go_at_call 24; refine (AZ.out _ X2.out).mono ?_; rintro e w' ⟨rfl, rfl⟩))
    go_ret
    exact ⟨rfl, Ext.trans ((Ext.refl w).alloc _) X2.out⟩

end Go.Proofs.Ytalncechmhmdcaa
