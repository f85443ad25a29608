/- The document's answers for colours: Round, Run, Right. -/
import Derived.Test.YtpnnnbjjoimalaaY8
namespace Go.Proofs.Ytpnnnbjjoimalaa
open Go.RowKit

theorem zero_next (k : Nat) : List.replicate (k + 1) (0 : Int) = List.replicate k 0 ++ [0] := List.replicate_succ'

set_option maxHeartbeats 2000000 in
theorem refRight_any (w : World) (N : Int) (v cv : Value) (E : List Edge) (c : List Int) (h : Sl w v E) (hc : Sl w cv c) (r : Bool) (hr : rightD N E c = r) :
    Calls Try.prog 13 #[.agg #[.int .i64 N, v], cv] w fun e w' => e = .returned (.bool r) ∧ Ext w w' := by
  obtain ⟨vo, vn, rfl⟩ := h.len
  obtain ⟨co, cc, rfl⟩ := hc.len
  have HS := Lib.hid h
  have HC := Lib.hid hc
  have hEl := h.length_le
  have HG := Lib.hid (graph_at w N (.slice vo E.length vn))
  obtain ⟨o, ho⟩ : ∃ o, okG N E = o := ⟨_, rfl⟩
  obtain ⟨f, hf⟩ : ∃ f, cForm N c = f := ⟨_, rfl⟩
  obtain ⟨z, hz⟩ : ∃ z, decide ((0 : Int) ∈ c) = z := ⟨_, rfl⟩
  have HO := Lib.hid ho
  have HF := Lib.hid hf
  have HZ := Lib.hid hz
  unfold rightD at hr
  rw [ho, show (decide ((c.length : Int) = N) && c.all fun x => decide (0 ≤ x)) = cForm N c from rfl, hf, hz] at hr
  clear h hc ho hf hz
  have AC : Hid (∀ W, Ext (w.alloc (.cells #[.int .i64 N, .slice vo E.length vn] 24)) W → Calls Try.prog 12 #[.agg #[.int .i64 N, .slice vo E.length vn]] W fun e w' => e = .returned (.bool o) ∧ Ext W w') := Lib.hid fun W hW => refCheck_val W N _ E (HS.out.ext (Ext.trans ((Ext.refl w).alloc _) hW)) o HO.out
  have AF : Hid (∀ W, Ext (w.alloc (.cells #[.int .i64 N, .slice vo E.length vn] 24)) W → Calls Try.prog 36 #[.agg #[.int .i64 N, .slice vo E.length vn], .slice co c.length cc] W fun e w' => e = .returned (.bool f) ∧ Ext W w') := Lib.hid fun W hW => refCheckC_any W N _ _ c ⟨_, _, _, rfl⟩ (HC.out.ext (Ext.trans ((Ext.refl w).alloc _) hW)) f HF.out
  have AZ : Hid (∀ W, Ext (w.alloc (.cells #[.int .i64 N, .slice vo E.length vn] 24)) W → Calls Try.prog 37 #[.slice co c.length cc, .int .i64 0] W fun e w' => e = .returned (.bool z) ∧ W = w') := Lib.hid fun W hW => refHasI_val W _ c 0 (HC.out.ext (Ext.trans ((Ext.refl w).alloc _) hW)) z HZ.out
  have tac : ∀ b : Bool, b = r → Ending.returned (.bool b) = .returned (.bool r) := fun b e => ret_bool e
  cases o
  · rw [Bool.false_and, Bool.false_and, Bool.false_and] at hr
    subst hr
    go_enter Try.func13, Try.ntmps13
    go_wp2_with (first
      | (go_at_call 12; refine (AC.out _ (by repeat (first | exact Ext.refl _ | assumption | refine Ext.alloc ?_ _ | refine Ext.drew ?_ | refine Ext.drewN ?_ _))).mono ?_; rintro e w1 ⟨rfl, hx⟩; have X1 := Lib.hid hx; obtain ⟨a0, a1⟩ := HG.out w1 hx; clear hx))
    go_ret
    exact ⟨rfl, Ext.trans ((Ext.refl w).alloc _) X1.out⟩
  cases f
  · rw [Bool.true_and, Bool.false_and, Bool.false_and] at hr
    subst hr
    go_enter Try.func13, Try.ntmps13
    go_wp2_with (first
      | (go_at_call 12; refine (AC.out _ (by repeat (first | exact Ext.refl _ | assumption | refine Ext.alloc ?_ _ | refine Ext.drew ?_ | refine Ext.drewN ?_ _))).mono ?_; rintro e w1 ⟨rfl, hx⟩; have X1 := Lib.hid hx; obtain ⟨a0, a1⟩ := HG.out w1 hx; clear hx)
      | (go_at_call 36; refine (AF.out _ X1.out).mono ?_; rintro e w2 ⟨rfl, hx⟩; have X2 := Lib.hid (Ext.trans X1.out hx); clear hx))
    go_ret
    exact ⟨rfl, Ext.trans ((Ext.refl w).alloc _) X2.out⟩
  cases z
  · have hcN := (form_iff.1 HF.out).1
    have HOK := Lib.hid (okG_iff.1 HO.out)
    rw [Bool.true_and, Bool.true_and] at hr
    have hr2 : E.all (fun e => !(col c e.a == col c e.b)) = r := by rw [← hr]; simp
    have HR := Lib.hid hr2
    clear hr hr2
    go_enter Try.func13, Try.ntmps13
    go_wp2_with (first
      | (go_at_call 12; refine (AC.out _ (by repeat (first | exact Ext.refl _ | assumption | refine Ext.alloc ?_ _ | refine Ext.drew ?_ | refine Ext.drewN ?_ _))).mono ?_; rintro e w1 ⟨rfl, hx⟩; have X1 := Lib.hid hx; obtain ⟨a0, a1⟩ := HG.out w1 hx; clear hx)
      | (go_at_call 36; refine (AF.out _ X1.out).mono ?_; rintro e w2 ⟨rfl, hx⟩; have X2 := Lib.hid (Ext.trans X1.out hx); clear hx)
      | (go_at_call 37; refine (AZ.out _ X2.out).mono ?_; rintro e w' ⟨rfl, rfl⟩))
    go_loopw [5] (fun i wr => ∃ k : Nat, k ≤ E.length ∧ i = .int .i64 k ∧ Hid ((E.take k).all (fun e => !(col c e.a == col c e.b)) = true) ∧ Hid (Ext (w.alloc (.cells #[.int .i64 N, .slice vo E.length vn] 24)) wr)) (fun i _ => E.length - (intOf i).toNat)
    case atStart => exact ⟨0, Nat.zero_le _, rfl, Lib.hid rfl, Lib.hid X2.out⟩
    case round =>
      obtain ⟨k, hk, rfl, HT, HX⟩ := hrel
      obtain ⟨e0, e1⟩ := HG.out wr HX.out
      have XW := Lib.hid (Ext.trans ((Ext.refl w).alloc _) HX.out)
      by_cases hlt : k < E.length
      · obtain ⟨b, off, rfl, hn, hnc, hc63, hb, hya0, hyb0⟩ := HS.out.edgesAt hlt
        obtain ⟨⟨ya, yb⟩, hy⟩ : ∃ y, y = E.getD k ⟨0, 0⟩ := ⟨_, rfl⟩
        rw [← hy] at hya0 hyb0
        have hed := HOK.out.each ⟨ya, yb⟩ (hy ▸ getD_mem hlt ⟨0, 0⟩)
        dsimp only at hed
        obtain ⟨hA0, hAB, hBN⟩ := hed
        have hya := (Below.cell XW.out (p := ⟨b, off + k * 2, none⟩) hb).trans hya0
        have hyb := (Below.cell XW.out (p := ⟨b, off + k * 2 + 1, none⟩) hb).trans hyb0
        dsimp only at hya hyb
        obtain ⟨b2, off2, n2, k2, hv, hn2, hnk2, hk63, hb2, hca⟩ := HC.out.colAt (x := ya) hA0 (by omega)
        obtain ⟨b3, off3, n3, k3, hv3, hn3, hnk3, hk633, hb3, hcb⟩ := HC.out.colAt (x := yb) (by omega) (by omega)
        simp only [Value.slice.injEq] at hv
        obtain ⟨rfl, rfl, rfl⟩ := hv
        simp only [Value.slice.injEq, Option.some.injEq, Addr.mk.injEq, and_true] at hv3
        obtain ⟨⟨rfl, rfl⟩, rfl, rfl⟩ := hv3
        have hda := (Below.cell XW.out (p := ⟨b2, off2 + ya.toNat, none⟩) hb2).trans hca
        have hdb := (Below.cell XW.out (p := ⟨b2, off2 + yb.toNat, none⟩) hb2).trans hcb
        have hal : ya < (c.length : Int) := by omega
        have hbl : yb < (c.length : Int) := by omega
        have hb0 : 0 ≤ yb := by omega
        have HN : Hid ((E.take (k + 1)).all (fun e => !(col c e.a == col c e.b)) = ((E.take k).all (fun e => !(col c e.a == col c e.b)) && !(col c ya == col c yb))) := Lib.hid (by rw [all_next _ hlt ⟨0, 0⟩, ← hy])
        have HMEM : Hid ((⟨ya, yb⟩ : Edge) ∈ E) := Lib.hid (hy ▸ getD_mem hlt ⟨0, 0⟩)
        have HAL : Hid ((col c ya == col c yb) = true → r = false) := Lib.hid fun e => by
          rw [← HR.out, List.all_eq_false]
          exact ⟨_, HMEM.out, by simp [e]⟩
        clear hy hya0 hyb0 hca hcb hn2 hn3 hAB hBN hn
        obtain ⟨p, hp⟩ : ∃ p, p = col c ya := ⟨_, rfl⟩
        obtain ⟨q, hq⟩ : ∃ q, q = col c yb := ⟨_, rfl⟩
        rw [← hp] at hda HN HAL
        rw [← hq] at hdb HN HAL
        clear hp hq
        cases ht : (p == q)
        · have HF : Hid ((E.take (k + 1)).all (fun e => !(col c e.a == col c e.b)) = true) := Lib.hid (HN.out.trans (by rw [HT.out, ht]; rfl))
          go_wp2
          go_quiet (fail)
          go_wp2
          go_roundw
          case rel => exact ⟨k + 1, by omega, by go_num, HF, Lib.hid (by first | exact HX.out | exact Ext.drew HX.out | exact Ext.drewN HX.out _)⟩
          case measure => simp [intOf]; omega
        · have HF := Lib.hid (HAL.out ht)
          go_wp2
          go_quiet (fail)
          go_wp2
          go_ret
          exact ⟨ret_bool HF.out.symm, by first | exact XW.out | exact Ext.drew XW.out | exact Ext.drewN XW.out _⟩
      · have hkl : k = E.length := by omega
        have HF : Hid (true = r) := Lib.hid (by have := HT.out; rw [hkl, List.take_length] at this; rw [← HR.out]; exact this.symm)
        go_wp2
        go_ret
        exact ⟨ret_bool HF.out, XW.out⟩
  · have hr2 : false = r := by rw [← hr]; simp
    subst hr2
    clear hr
    go_enter Try.func13, Try.ntmps13
    go_wp2_with (first
      | (go_at_call 12; refine (AC.out _ (by repeat (first | exact Ext.refl _ | assumption | refine Ext.alloc ?_ _ | refine Ext.drew ?_ | refine Ext.drewN ?_ _))).mono ?_; rintro e w1 ⟨rfl, hx⟩; have X1 := Lib.hid hx; obtain ⟨a0, a1⟩ := HG.out w1 hx; clear hx)
      | (go_at_call 36; refine (AF.out _ X1.out).mono ?_; rintro e w2 ⟨rfl, hx⟩; have X2 := Lib.hid (Ext.trans X1.out hx); clear hx)
      | (go_at_call 37; refine (AZ.out _ X2.out).mono ?_; rintro e w' ⟨rfl, rfl⟩))
    go_ret
    exact ⟨rfl, Ext.trans ((Ext.refl w).alloc _) X2.out⟩

end Go.Proofs.Ytpnnnbjjoimalaa
