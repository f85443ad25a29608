/- Layer 11's law ColourAlone, walked. -/
import Derived.Test.YtalncechmhmdcaaYA
namespace Go.Proofs.Ytalncechmhmdcaa
open Go.RowKit

set_option maxHeartbeats 8000000 in
theorem colourAlone_long (w : World) (N : Int) (ao : Option Addr) (k : Nat) (E : List Edge) (h : Sl w (.slice ao E.length k) E) (hf : (decide (E.length ≤ 60) && decide (([] : List Int).length ≤ 70)) = false) :
    Calls Try.prog 8 #[.agg #[.int .i64 N, .slice ao E.length k]] w (GivesB w (.bool true)) := by
  have hEl := h.length_le
  have HS := Lib.hid h
  have HF := Lib.hid hf
  have HG := Lib.hid (graph_at w N (.slice ao E.length k))
  clear h hf
  go_enter Try.func8, Try.ntmps8
  go_wp2_with (first
    | (go_at_call 9; have hgd := X2; refine (awakeC_any _).mono ?_; rintro e w3 ⟨rfl, x3⟩; have X3 := Lib.hid (Ext.trans X2.out x3); obtain ⟨p3, q3⟩ := HG.out w3 X3.out; clear x3 hgd)
    | (go_at_call 9; refine (awakeC_any _).mono ?_; rintro e w1 ⟨rfl, x1⟩; have X1 := Lib.hid (x1); obtain ⟨p1, q1⟩ := HG.out w1 X1.out; clear x1)
    | (go_at_call 10; refine (fewC_any _ N ao k none 0 E [] (by omega) (by first | omega | simp) _ HF.out).mono ?_; rintro e w2 ⟨rfl, x2⟩; have X2 := Lib.hid (Ext.trans X1.out x2); obtain ⟨p2, q2⟩ := HG.out w2 X2.out; clear x2))
  go_ret
  exact ⟨rfl, Ext.trans ((Ext.refl w).alloc _) X3.out⟩

theorem leastFree_one {t : Int → Bool} {n : Nat} (h : t 1 = false) : leastFree t (n + 1) = 1 := by unfold leastFree lf; rw [h]; rfl
theorem alone {N : Int} {E : List Edge} {a : Int} (h0 : 0 ≤ a) (h1 : a < N) : (col (roundL N E (List.replicate N.toNat 0)) a = 0 ∨ col (roundL N E (List.replicate N.toNat 0)) a = 1) ∧
    (OkG N E → (rnear N E a = [] ∨ a = N - 1) → col (roundL N E (List.replicate N.toNat 0)) a = 1) := by
  have key : waits (List.replicate N.toNat 0) (rnear N E a) a = false → take1 (List.replicate N.toNat 0) (rnear N E a) a = 1 := fun hw => by
    unfold take1
    rw [if_pos ⟨col_none _ _, hw⟩]
    refine leastFree_one ?_
    unfold takenB
    rw [List.any_eq_false]
    intro w _
    rw [col_none]
    simp
  rw [col_round h0 h1]
  refine ⟨?_, fun ok h => key ?_⟩
  · cases hw : waits (List.replicate N.toNat 0) (rnear N E a) a with
    | true => exact .inl (by rw [take1_waits hw, col_none])
    | false => exact .inr (key hw)
  · unfold waits
    rw [List.any_eq_false]
    intro w hw
    rcases h with h | h
    · rw [h] at hw; cases hw
    · have := near_in ok ((mem_rnear ok).1 hw)
      rw [decide_eq_false (by omega)]
      simp

set_option maxHeartbeats 8000000 in
theorem colourAlone_A (w : World) (N : Int) (ao : Option Addr) (k : Nat) (E : List Edge) (h : Sl w (.slice ao E.length k) E) (hf : (decide (E.length ≤ 60) && decide (([] : List Int).length ≤ 70)) = true) (ok : ¬ OkG N E) :
    Calls Try.prog 8 #[.agg #[.int .i64 N, .slice ao E.length k]] w (GivesB w (.bool true)) := by
  have hEl := h.length_le
  have HS := Lib.hid h
  have HF := Lib.hid hf
  have HG := Lib.hid (graph_at w N (.slice ao E.length k))
  have hE60 : E.length ≤ 60 := by simp at hf; omega
  clear h hf
  have HO := Lib.hid (okG_not ok)
  clear ok
  go_enter Try.func8, Try.ntmps8
  go_wp2_with (first
    | (go_at_call 9; have hgd := X3; refine (awakeC_any _).mono ?_; rintro e w4 ⟨rfl, x4⟩; have X4 := Lib.hid (Ext.trans X3.out x4); obtain ⟨p4, q4⟩ := HG.out w4 X4.out; clear x4 hgd)
    | (go_at_call 9; refine (awakeC_any _).mono ?_; rintro e w1 ⟨rfl, x1⟩; have X1 := Lib.hid (x1); obtain ⟨p1, q1⟩ := HG.out w1 X1.out; clear x1)
    | (go_at_call 10; refine (fewC_any _ N ao k none 0 E [] (by omega) (by first | omega | simp) _ HF.out).mono ?_; rintro e w2 ⟨rfl, x2⟩; have X2 := Lib.hid (Ext.trans X1.out x2); obtain ⟨p2, q2⟩ := HG.out w2 X2.out; clear x2)
    | (go_at_call 17; refine (refCheck_val _ N _ E (HS.out.ext (Ext.trans ((Ext.refl w).alloc _) X2.out)) false HO.out).mono ?_; rintro e w3 ⟨rfl, x3⟩; have X3 := Lib.hid (Ext.trans X2.out x3); obtain ⟨p3, q3⟩ := HG.out w3 X3.out; clear x3))
  go_ret
  exact ⟨rfl, Ext.trans ((Ext.refl w).alloc _) X4.out⟩

set_option maxHeartbeats 8000000 in
theorem colourAlone_B (w : World) (N : Int) (ao : Option Addr) (k : Nat) (E : List Edge) (h : Sl w (.slice ao E.length k) E) (hf : (decide (E.length ≤ 60) && decide (([] : List Int).length ≤ 70)) = true) (ok : OkG N E) :
    Calls Try.prog 8 #[.agg #[.int .i64 N, .slice ao E.length k]] w (GivesB w (.bool true)) := by
  have hEl := h.length_le
  have HS := Lib.hid h
  have HF := Lib.hid hf
  have HG := Lib.hid (graph_at w N (.slice ao E.length k))
  have hE60 : E.length ≤ 60 := by simp at hf; omega
  clear h hf
  have HOK := Lib.hid ok
  have HO := Lib.hid (okG_iff.2 ok)
  have n0 := ok.n0
  have n64 := ok.n64
  obtain ⟨m, hm⟩ : ∃ m : Nat, (m : Int) = N := ⟨N.toNat, by omega⟩
  subst hm
  have hm64 : m ≤ 64 := by omega
  have hfm : cForm (m : Int) (List.replicate m 0) = true := form_iff.2 ⟨by simp, fun x hx => by rw [List.eq_of_mem_replicate hx]; omega⟩
  have HR : Hid (roundR (m : Int) E (List.replicate m 0) = 0) := Lib.hid (by unfold roundR; rw [okG_iff.2 ok, hfm]; rfl)
  obtain ⟨D, hD⟩ : ∃ D, D = roundL (m : Int) E (List.replicate m 0) := ⟨_, rfl⟩
  have HD : Hid ((if (0 : Int) = 0 then roundL (m : Int) E (List.replicate m 0) else []) = D) := Lib.hid (by rw [if_pos rfl, hD])
  have hDl : D.length = m := by rw [hD, roundL_length]; omega
  have HDL := Lib.hid hDl
  have HAL : Hid (∀ j : Nat, j < m → (D.getD j 0 = 0 ∨ D.getD j 0 = 1) ∧ ((rnear (m : Int) E j = [] ∨ (j : Int) = (m : Int) - 1) → D.getD j 0 = 1)) := Lib.hid fun j hj => by
    have h1 := alone (N := (m : Int)) (E := E) (a := (j : Int)) (by omega) (by omega)
    rw [Int.toNat_natCast, ← hD] at h1
    exact ⟨h1.1, h1.2 ok⟩
  have hlD : ((D.length : Int) == (m : Int)) = true := by simp [hDl]
  clear ok hD hDl hfm
  go_enter Try.func8, Try.ntmps8
  go_wp2_with (first
    | (go_at_call 9; refine (awakeC_any _).mono ?_; rintro e w1 ⟨rfl, x1⟩; have X1 := Lib.hid (x1); obtain ⟨p1, q1⟩ := HG.out w1 X1.out; clear x1)
    | (go_at_call 10; refine (fewC_any _ (m : Int) ao k none 0 E [] (by omega) (by first | omega | simp) _ HF.out).mono ?_; rintro e w2 ⟨rfl, x2⟩; have X2 := Lib.hid (Ext.trans X1.out x2); obtain ⟨p2, q2⟩ := HG.out w2 X2.out; clear x2)
    | (go_at_call 17; refine (refCheck_val _ (m : Int) _ E (HS.out.ext (Ext.trans ((Ext.refl w).alloc _) X2.out)) true HO.out).mono ?_; rintro e w3 ⟨rfl, x3⟩; have X3 := Lib.hid (Ext.trans X2.out x3); obtain ⟨p3, q3⟩ := HG.out w3 X3.out; clear x3))
  go_loopw [3, 4] (fun q i wr => ∃ j : Nat, j ≤ m ∧ i = .int .i64 j ∧ Hid (Ow wr w3.heap.size q (List.replicate j (0 : Int))) ∧ Hid (Ext w3 wr)) (fun _ i _ => m - (intOf i).toNat)
  case atStart => exact ⟨0, Nat.zero_le _, rfl, Lib.hid (Ow.litAt w3 _ _ (by simp) (Nat.le_refl _) [] (by simp)), Lib.hid ((Ext.refl _).alloc _)⟩
  case round =>
    obtain ⟨j, hj, rfl, HQ, HX⟩ := hrel
    have X4 := Lib.hid (Ext.trans X3.out HX.out)
    obtain ⟨p4, q4⟩ := HG.out wr X4.out
    have hsz := Below.size HX.out
    by_cases hlt : j < m
    · have HN := Lib.hid (zero_next j)
      obtain ⟨L, hL⟩ : ∃ L, L = List.replicate j (0 : Int) := ⟨_, rfl⟩
      have hLl : L.length ≤ 64 := by rw [hL]; simp; omega
      rw [← hL] at HQ HN
      clear hL
      go_wp2_with (first
        | (at_builtin; refine wpList_append_sl (α := Int) rfl (.tmp 28) (.tmp 29) rfl w3.heap.size _ L rfl ?_ (.slice (some ⟨_, 0, none⟩) 1 1) [0] rfl ?_ ?_ ?_ ?_; exact (HQ.out.alloc _); exact (Sl.litAt wr _ rfl [0] (show (1 : Nat) ≤ 1000000 by decide)); (first | omega | (simp; omega)); exact (by first | omega | (rw [size_alloc]; omega)); intro v5 W5 ho5 ha5; have O5 := Lib.hid ho5; have Y5 := Lib.hid (Below.trans (HX.out.alloc _) (Below.mono ha5.below (Nat.le_refl _))); clear ho5 ha5))
      go_roundw
      case rel => exact ⟨j + 1, by omega, by go_num, Lib.hid (by rw [HN.out]; exact O5.out), Y5⟩
      case measure => simp [intOf]; omega
    · have hjm : j = m := by omega
      rw [hjm] at HQ
      obtain ⟨qo, qn, qc, rfl⟩ := HQ.out.sh
      have ZQ := Lib.hid HQ.out.sl
      clear HQ hjm
      go_wp2_with (first
        | (go_at_call 12; refine (own_any _ _ _ E (HS.out.ext (Ext.trans ((Ext.refl w).alloc _) X4.out)) (by omega)).mono ?_; rintro e w5 ⟨v5, rfl, s5, x5⟩; obtain ⟨a5, n5, c5, rfl⟩ := s5.sh; have X5 := Lib.hid (Ext.trans X4.out x5); have Z5 := Lib.hid (ZQ.out.ext x5); have S5 := Lib.hid s5; obtain ⟨p5, q5⟩ := HG.out w5 X5.out; clear x5 s5)
        | (go_at_call 11; refine (round_any _ (m : Int) _ _ E (List.replicate m 0) S5.out (Z5.out) 0 HR.out D HD.out).mono ?_; rintro e w6 ⟨v6, rfl, s6, x6⟩; obtain ⟨a6, c6, rfl⟩ := s6.len; have X6 := Lib.hid (Ext.trans X5.out x6); have S6 := Lib.hid s6; obtain ⟨p6, q6⟩ := HG.out w6 X6.out; clear x6 s6))
      go_loopw [7] (fun i wr2 => ∃ j : Nat, j ≤ D.length ∧ i = .int .i64 j ∧ Hid (Ext w6 wr2)) (fun i _ => D.length - (intOf i).toNat)
      case atStart => exact ⟨0, Nat.zero_le _, rfl, Lib.hid (Ext.refl _)⟩
      case round =>
        obtain ⟨j, hj, rfl, HXD⟩ := hrel
        have X7 := Lib.hid (Ext.trans X6.out HXD.out)
        obtain ⟨p7, q7⟩ := HG.out _ X7.out
        by_cases hlt : j < D.length
        · have hjm : j < m := by have := HDL.out; omega
          obtain ⟨b, off, rfl, hn, hnc, hc63, hb, hcell⟩ := S6.out.intsAt hlt
          obtain ⟨hy1, hy2⟩ := HAL.out j hjm
          obtain ⟨y, hy⟩ : ∃ y, y = D.getD j 0 := ⟨_, rfl⟩
          rw [← hy] at hcell hy1 hy2
          obtain ⟨Q, hQ⟩ : ∃ Q, Q = rnear (m : Int) E (j : Int) := ⟨_, rfl⟩
          rw [← hQ] at hy2
          have HQ := Lib.hid hQ
          have HCL : Hid (∀ V, Ext w6 V → V.cell? ⟨b, off + j, none⟩ = some (.int .i64 y)) := Lib.hid fun V hV => (Below.cell hV (p := ⟨b, off + j, none⟩) hb).trans hcell
          have hw1 : IntKind.i64.wrap ((m : Int) - 1) = (m : Int) - 1 := wrapN _ (by omega) (by omega)
          clear hy hQ hcell hn
          have NR := fun (W : World) (hW : Ext (w.alloc (.cells #[.int .i64 (m : Int), .slice ao E.length k] 24)) W) => refNear_any W (m : Int) _ E (j : Int) (HS.out.ext (Ext.trans ((Ext.refl w).alloc _) hW)) HOK.out
          have HNR := Lib.hid NR
          clear NR
          by_cases hq0 : Q = []
          · have h1 := hy2 (.inl hq0)
            subst h1
            subst hq0
            clear hy1 hy2
            go_wp2_with (first
              | (go_at_call 23; refine (HNR.out _ X7.out).mono ?_; rintro e w8 ⟨v8, rfl, s8, x8⟩; rw [← HQ.out] at s8; obtain ⟨a8, c8, rfl⟩ := s8.sl.len; have Y8 := Lib.hid (Ext.trans HXD.out x8); have k8 := HCL.out w8 Y8.out; obtain ⟨p8, q8⟩ := HG.out w8 (Ext.trans X7.out x8); clear x8 s8))
            go_roundw
            case rel => exact ⟨j + 1, by omega, by go_num, Y8⟩
            case measure => simp [intOf]; omega
          · have hql : 0 < Q.length := List.length_pos_iff.2 hq0
            have e0 : ((Q.length : Int) == 0) = false := by simp; omega
            by_cases hl : (j : Int) = (m : Int) - 1
            · have h1 := hy2 (.inr hl)
              have el : ((j : Int) == (m : Int) - 1) = true := by simp [hl]
              subst h1
              clear hy1 hy2 hq0 hl
              go_wp2_with (first
                | (go_at_call 23; refine (HNR.out _ X7.out).mono ?_; rintro e w8 ⟨v8, rfl, s8, x8⟩; rw [← HQ.out] at s8; obtain ⟨a8, c8, rfl⟩ := s8.sl.len; have Y8 := Lib.hid (Ext.trans HXD.out x8); have k8 := HCL.out w8 Y8.out; obtain ⟨p8, q8⟩ := HG.out w8 (Ext.trans X7.out x8); clear x8 s8))
              go_roundw
              case rel => exact ⟨j + 1, by omega, by go_num, Y8⟩
              case measure => simp [intOf]; omega
            · have el : ((j : Int) == (m : Int) - 1) = false := by simp [hl]
              clear hy2 hq0 hl
              rcases hy1 with h1 | h1
              · subst h1
                go_wp2_with (first
                  | (go_at_call 23; refine (HNR.out _ X7.out).mono ?_; rintro e w8 ⟨v8, rfl, s8, x8⟩; rw [← HQ.out] at s8; obtain ⟨a8, c8, rfl⟩ := s8.sl.len; have Y8 := Lib.hid (Ext.trans HXD.out x8); have k8 := HCL.out w8 Y8.out; obtain ⟨p8, q8⟩ := HG.out w8 (Ext.trans X7.out x8); clear x8 s8))
                go_roundw
                case rel => exact ⟨j + 1, by omega, by go_num, Y8⟩
                case measure => simp [intOf]; omega
              · subst h1
                go_wp2_with (first
                  | (go_at_call 23; refine (HNR.out _ X7.out).mono ?_; rintro e w8 ⟨v8, rfl, s8, x8⟩; rw [← HQ.out] at s8; obtain ⟨a8, c8, rfl⟩ := s8.sl.len; have Y8 := Lib.hid (Ext.trans HXD.out x8); have k8 := HCL.out w8 Y8.out; obtain ⟨p8, q8⟩ := HG.out w8 (Ext.trans X7.out x8); clear x8 s8))
                go_roundw
                case rel => exact ⟨j + 1, by omega, by go_num, Y8⟩
                case measure => simp [intOf]; omega
        · go_wp2
          go_ret
          exact ⟨rfl, Ext.trans ((Ext.refl w).alloc _) X7.out⟩

theorem colourAlone_any (w : World) (N : Int) (ao : Option Addr) (k : Nat) (E : List Edge) (h : Sl w (.slice ao E.length k) E) :
    Calls Try.prog 8 #[.agg #[.int .i64 N, .slice ao E.length k]] w (GivesB w (.bool true)) := by
  cases hf : (decide (E.length ≤ 60) && decide (([] : List Int).length ≤ 70)) with
  | false => exact colourAlone_long w N ao k E h hf
  | true =>
    by_cases ok : OkG N E
    · exact colourAlone_B w N ao k E h hf ok
    · exact colourAlone_A w N ao k E h hf ok

end Go.Proofs.Ytalncechmhmdcaa
