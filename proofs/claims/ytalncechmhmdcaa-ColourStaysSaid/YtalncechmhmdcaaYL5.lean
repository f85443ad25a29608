/- Layer 11's law ColourStays, walked. -/
import Derived.Test.YtalncechmhmdcaaYA
namespace Go.Proofs.Ytalncechmhmdcaa
open Go.RowKit

set_option maxHeartbeats 8000000 in
theorem colourStays_long (w : World) (N : Int) (ao : Option Addr) (k : Nat) (E : List Edge) (co : Option Addr) (cc : Nat) (c : List Int) (h : Sl w (.slice ao E.length k) E) (hc : Sl w (.slice co c.length cc) c) (hf : (decide (E.length ≤ 60) && decide (c.length ≤ 70)) = false) :
    Calls Try.prog 7 #[.agg #[.int .i64 N, .slice ao E.length k], .slice co c.length cc] w (GivesB w (.bool true)) := by
  have hEl := h.length_le
  have hCl := hc.length_le
  have HS := Lib.hid h
  have HC := Lib.hid hc
  have HF := Lib.hid hf
  have HG := Lib.hid (graph_at w N (.slice ao E.length k))
  clear h hf hc
  go_enter Try.func7, Try.ntmps7
  go_wp2_with (first
    | (go_at_call 9; have hgd := X2; refine (awakeC_any _).mono ?_; rintro e w3 ⟨rfl, x3⟩; have X3 := Lib.hid (Ext.trans X2.out x3); obtain ⟨p3, q3⟩ := HG.out w3 X3.out; clear x3 hgd)
    | (go_at_call 9; refine (awakeC_any _).mono ?_; rintro e w1 ⟨rfl, x1⟩; have X1 := Lib.hid (x1); obtain ⟨p1, q1⟩ := HG.out w1 X1.out; clear x1)
    | (go_at_call 10; refine (fewC_any _ N ao k co cc E c (by omega) (by first | omega | simp) _ HF.out).mono ?_; rintro e w2 ⟨rfl, x2⟩; have X2 := Lib.hid (Ext.trans X1.out x2); obtain ⟨p2, q2⟩ := HG.out w2 X2.out; clear x2))
  go_ret
  exact ⟨rfl, Ext.trans ((Ext.refl w).alloc _) X3.out⟩

/-- how many took one, of the first n -/
def tookN (c d : List Int) (n : Nat) : Nat := (List.range n).countP fun i => (c.getD i 0 == 0) && (d.getD i 0 != 0)
theorem tookN_next (c d : List Int) (n : Nat) : tookN c d (n + 1) = tookN c d n + (if ((c.getD n 0 == 0) && (d.getD n 0 != 0)) = true then 1 else 0) := by
  unfold tookN
  rw [List.range_succ, List.countP_append, List.countP_cons, List.countP_nil, Nat.zero_add]
theorem tookN_le (c d : List Int) (n : Nat) : tookN c d n ≤ n := by
  unfold tookN
  have := List.countP_le_length (p := fun i => (c.getD i 0 == 0) && (d.getD i 0 != 0)) (l := List.range n)
  rwa [List.length_range] at this
theorem took_some {N : Int} {E : List Edge} {c : List Int} (ok : OkG N E) (hl : (c.length : Int) = N) (h : (0 : Int) ∈ c) : 0 < tookN c (roundL N E c) c.length := by
  obtain ⟨a, h0, h1, h2, h3⟩ := round_takes ok (by omega) h
  refine List.countP_pos_iff.2 ⟨a.toNat, List.mem_range.2 (by omega), ?_⟩
  rw [Bool.and_eq_true]
  refine ⟨by show (col c a == 0) = true; simp [h2], ?_⟩
  show (col (roundL N E c) a != 0) = true
  simp; omega
/-- two that take one are not near -/
theorem not_both {N : Int} {E : List Edge} {c : List Int} (ok : OkG N E) {a b : Int} (h : (⟨a, b⟩ : Edge) ∈ E) (ha : col c a = 0) (hb : col c b = 0) : col (roundL N E c) a = 0 := by
  have hb1 := ok.each _ h
  dsimp only at hb1
  have hn : btw a b ∈ E := by rw [show btw a b = (⟨a, b⟩ : Edge) by simp only [btw, Edge.mk.injEq]; omega]; exact h
  have hi := near_in ok hn
  rw [col_round hi.1 hi.2.1, take1_waits]
  · exact ha
  · exact List.any_eq_true.2 ⟨b, (mem_rnear ok).2 hn, by simp [hb]; omega⟩

set_option maxHeartbeats 8000000 in
theorem colourStays_A (w : World) (N : Int) (ao : Option Addr) (k : Nat) (E : List Edge) (co : Option Addr) (cc : Nat) (c : List Int) (h : Sl w (.slice ao E.length k) E) (hc : Sl w (.slice co c.length cc) c) (hf : (decide (E.length ≤ 60) && decide (c.length ≤ 70)) = true) (r : Int) (hr : roundR N E c = r) (hr0 : r ≠ 0) :
    Calls Try.prog 7 #[.agg #[.int .i64 N, .slice ao E.length k], .slice co c.length cc] w (GivesB w (.bool true)) := by
  have hEl := h.length_le
  have hCl := hc.length_le
  have HS := Lib.hid h
  have HC := Lib.hid hc
  have HF := Lib.hid hf
  have HG := Lib.hid (graph_at w N (.slice ao E.length k))
  have hE60 : E.length ≤ 60 := by simp at hf; omega
  have hC70 : c.length ≤ 70 := by simp at hf; omega
  clear h hf hc
  have HR := Lib.hid hr
  have HD : Hid ((if r = 0 then roundL N E c else []) = []) := Lib.hid (if_neg hr0)
  have hne : (r != 0) = true := by simp [hr0]
  clear hr hr0
  go_enter Try.func7, Try.ntmps7
  go_wp2_with (first
    | (go_at_call 9; refine (awakeC_any _).mono ?_; rintro e w1 ⟨rfl, x1⟩; have X1 := Lib.hid (x1); obtain ⟨p1, q1⟩ := HG.out w1 X1.out; clear x1)
    | (go_at_call 10; refine (fewC_any _ N ao k co cc E c (by omega) (by first | omega | simp) _ HF.out).mono ?_; rintro e w2 ⟨rfl, x2⟩; have X2 := Lib.hid (Ext.trans X1.out x2); obtain ⟨p2, q2⟩ := HG.out w2 X2.out; clear x2)
    | (go_at_call 12; refine (own_any _ N _ E (HS.out.ext (Ext.trans ((Ext.refl w).alloc _) X2.out)) (by omega)).mono ?_; rintro e w3 ⟨v3, rfl, s3, x3⟩; obtain ⟨a3, n3, c3, rfl⟩ := s3.sh; have X3 := Lib.hid (Ext.trans X2.out x3); have S3 := Lib.hid s3; obtain ⟨p3, q3⟩ := HG.out w3 X3.out; clear x3 s3)
    | (go_at_call 13; refine (ownC_any _ _ c (HC.out.ext (Ext.trans ((Ext.refl w).alloc _) X3.out)) (by omega)).mono ?_; rintro e w4 ⟨v4, rfl, s4, x4⟩; obtain ⟨a4, n4, c4, rfl⟩ := s4.sh; have X4 := Lib.hid (Ext.trans X3.out x4); have x4k := Lib.hid x4; have S4 := Lib.hid s4.sl; obtain ⟨p4, q4⟩ := HG.out w4 X4.out; clear x4 s4)
    | (go_at_call 11; refine (round_any _ N _ _ E c (S3.out.ext (Below.mono (x4k.out) (Nat.le_refl _))) S4.out r HR.out [] HD.out).mono ?_; rintro e w5 ⟨v5, rfl, s5, x5⟩; obtain ⟨a5, c5, rfl⟩ := s5.len; have X5 := Lib.hid (Ext.trans X4.out x5); have S5 := Lib.hid s5; obtain ⟨p5, q5⟩ := HG.out w5 X5.out; clear x5 s5))
  go_ret
  exact ⟨rfl, Ext.trans ((Ext.refl w).alloc _) X5.out⟩

set_option maxHeartbeats 8000000 in
theorem colourStays_B (w : World) (N : Int) (ao : Option Addr) (k : Nat) (E : List Edge) (co : Option Addr) (cc : Nat) (c : List Int) (h : Sl w (.slice ao E.length k) E) (hc : Sl w (.slice co c.length cc) c) (hf : (decide (E.length ≤ 60) && decide (c.length ≤ 70)) = true) (ok : OkG N E) (hf2 : cForm N c = true) :
    Calls Try.prog 7 #[.agg #[.int .i64 N, .slice ao E.length k], .slice co c.length cc] w (GivesB w (.bool true)) := by
  have hEl := h.length_le
  have hCl := hc.length_le
  have HS := Lib.hid h
  have HC := Lib.hid hc
  have HF := Lib.hid hf
  have HG := Lib.hid (graph_at w N (.slice ao E.length k))
  have hE60 : E.length ≤ 60 := by simp at hf; omega
  have hC70 : c.length ≤ 70 := by simp at hf; omega
  clear h hf hc
  have hr : roundR N E c = 0 := by unfold roundR; rw [okG_iff.2 ok, hf2]; rfl
  have HR := Lib.hid hr
  have hcl := (form_iff.1 hf2).1
  obtain ⟨D, hD⟩ : ∃ D, D = roundL N E c := ⟨_, rfl⟩
  have HD : Hid ((if (0 : Int) = 0 then roundL N E c else []) = D) := Lib.hid (by rw [if_pos rfl, hD])
  have hDl : D.length = c.length := by rw [hD, roundL_length]; omega
  have HDL := Lib.hid hDl
  have HOK := Lib.hid ok
  have HKEEP : Hid (∀ j : Nat, j < c.length → c.getD j 0 ≠ 0 → D.getD j 0 = c.getD j 0) := Lib.hid fun j hj hne => by
    have := col_round (N := N) (E := E) (c := c) (i := (j : Int)) (by omega) (by omega)
    rw [take1_keeps (by exact hne), ← hD] at this
    exact this
  have HSOME : Hid ((0 : Int) ∈ c → 0 < tookN c D c.length) := Lib.hid fun e => hD ▸ took_some ok hcl e
  have HNOT : Hid (∀ a b : Int, (⟨a, b⟩ : Edge) ∈ E → col c a = 0 → col c b = 0 → col D a = 0) := Lib.hid fun a b he h1 h2 => hD ▸ not_both ok he h1 h2
  have HCN := Lib.hid hcl
  have hlen : ((D.length : Int) != (c.length : Int)) = false := by simp [hDl]
  clear hr ok hf2 hD hDl hcl
  go_enter Try.func7, Try.ntmps7
  go_wp2_with (first
    | (go_at_call 9; refine (awakeC_any _).mono ?_; rintro e w1 ⟨rfl, x1⟩; have X1 := Lib.hid (x1); obtain ⟨p1, q1⟩ := HG.out w1 X1.out; clear x1)
    | (go_at_call 10; refine (fewC_any _ N ao k co cc E c (by omega) (by first | omega | simp) _ HF.out).mono ?_; rintro e w2 ⟨rfl, x2⟩; have X2 := Lib.hid (Ext.trans X1.out x2); obtain ⟨p2, q2⟩ := HG.out w2 X2.out; clear x2)
    | (go_at_call 12; refine (own_any _ N _ E (HS.out.ext (Ext.trans ((Ext.refl w).alloc _) X2.out)) (by omega)).mono ?_; rintro e w3 ⟨v3, rfl, s3, x3⟩; obtain ⟨a3, n3, c3, rfl⟩ := s3.sh; have X3 := Lib.hid (Ext.trans X2.out x3); have S3 := Lib.hid s3; obtain ⟨p3, q3⟩ := HG.out w3 X3.out; clear x3 s3)
    | (go_at_call 13; refine (ownC_any _ _ c (HC.out.ext (Ext.trans ((Ext.refl w).alloc _) X3.out)) (by omega)).mono ?_; rintro e w4 ⟨v4, rfl, s4, x4⟩; obtain ⟨a4, n4, c4, rfl⟩ := s4.sh; have X4 := Lib.hid (Ext.trans X3.out x4); have x4k := Lib.hid x4; have S4 := Lib.hid s4.sl; obtain ⟨p4, q4⟩ := HG.out w4 X4.out; clear x4 s4)
    | (go_at_call 11; refine (round_any _ N _ _ E c (S3.out.ext (Below.mono (x4k.out) (Nat.le_refl _))) S4.out 0 HR.out D HD.out).mono ?_; rintro e w5 ⟨v5, rfl, s5, x5⟩; obtain ⟨a5, c5, rfl⟩ := s5.len; have X5 := Lib.hid (Ext.trans X4.out x5); have S5 := Lib.hid s5; obtain ⟨p5, q5⟩ := HG.out w5 X5.out; clear x5 s5))
  go_loopw [7, 8] (fun s i wr => ∃ j : Nat, j ≤ c.length ∧ i = .int .i64 j ∧ s = .int .i64 (tookN c D j : Int) ∧ Hid (Ext w5 wr)) (fun _ i _ => c.length - (intOf i).toNat)
  case atStart => exact ⟨0, Nat.zero_le _, rfl, rfl, Lib.hid (Ext.refl _)⟩
  case round =>
    obtain ⟨j, hj, rfl, rfl, HX⟩ := hrel
    have X6 := Lib.hid (Ext.trans X5.out HX.out)
    obtain ⟨p6, q6⟩ := HG.out wr X6.out
    have HTL := Lib.hid (tookN_le c D j)
    by_cases hlt : j < c.length
    · obtain ⟨b, off, rfl, hn, hnc, hc63, hb, hcell⟩ := HC.out.intsAt hlt
      have hya := (Below.cell (Ext.trans ((Ext.refl w).alloc _) X6.out) (p := ⟨b, off + j, none⟩) hb).trans hcell
      have hltD : j < D.length := by have := HDL.out; omega
      obtain ⟨b2, off2, rfl, hn2, hnc2, hc632, hb2, hcell2⟩ := S5.out.intsAt hltD
      have hyb := (Below.cell HX.out (p := ⟨b2, off2 + j, none⟩) hb2).trans hcell2
      have HKJ := Lib.hid (HKEEP.out j hlt)
      have HN := Lib.hid (tookN_next c D j)
      obtain ⟨y, hy⟩ : ∃ y, y = c.getD j 0 := ⟨_, rfl⟩
      obtain ⟨z, hz⟩ : ∃ z, z = D.getD j 0 := ⟨_, rfl⟩
      rw [← hy] at hya HKJ HN
      rw [← hz] at hyb HKJ HN
      clear hy hz hcell hcell2 hn hn2
      obtain ⟨T, hT⟩ : ∃ T, T = tookN c D j := ⟨_, rfl⟩
      rw [← hT] at HN HTL ⊢
      have hT70 : T ≤ 70 := by have := HTL.out; omega
      have hw1 : IntKind.i64.wrap ((T : Int) + 1) = (T : Int) + 1 := wrapN _ (by omega) (by omega)
      clear hT
      by_cases hy0 : y = 0
      · subst hy0
        by_cases hz0 : z = 0
        · subst hz0
          have HN' : Hid (tookN c D (j + 1) = T) := Lib.hid (by rw [HN.out]; rfl)
          clear HKJ
          go_wp2
          go_quiet (fail)
          go_wp2
          go_roundw
          case rel => exact ⟨j + 1, by omega, by go_num, by rw [HN'.out], Lib.hid (by first | exact HX.out | exact Ext.drew HX.out | exact Ext.drewN HX.out _)⟩
          case measure => simp [intOf]; omega
        · have e1 : (z != 0) = true := by simp [hz0]
          have HN' : Hid (tookN c D (j + 1) = T + 1) := Lib.hid (by rw [HN.out, e1]; rfl)
          clear HKJ hz0
          go_wp2
          go_quiet (fail)
          go_wp2
          go_roundw
          case rel => exact ⟨j + 1, by omega, by go_num, by rw [HN'.out]; first | rfl | go_num, Lib.hid (by first | exact HX.out | exact Ext.drew HX.out | exact Ext.drewN HX.out _)⟩
          case measure => simp [intOf]; omega
      · have hzy := HKJ.out hy0
        subst hzy
        have e1 : (z != 0) = true := by simp [hy0]
        have e2 : (z == 0) = false := by simp [hy0]
        have HN' : Hid (tookN c D (j + 1) = T) := Lib.hid (by rw [HN.out, e2]; rfl)
        clear HKJ hy0
        go_wp2
        go_quiet (fail)
        go_wp2
        go_roundw
        case rel => exact ⟨j + 1, by omega, by go_num, by rw [HN'.out], Lib.hid (by first | exact HX.out | exact Ext.drew HX.out | exact Ext.drewN HX.out _)⟩
        case measure => simp [intOf]; omega
    · have hjl : j = c.length := by omega
      subst hjl
      obtain ⟨T, hT⟩ : ∃ T, T = tookN c D c.length := ⟨_, rfl⟩
      rw [← hT] at HSOME ⊢
      clear hT HTL hj
      obtain ⟨W0, hW0⟩ : ∃ W0, W0 = wr := ⟨_, rfl⟩
      have HW0 := Lib.hid hW0
      rw [hW0.symm] at HX X6
      clear hW0
      go_wp2
      go_loopw [9] (fun i wr2 => ∃ j : Nat, j ≤ E.length ∧ i = .int .i64 j ∧ Hid (Ext W0 wr2)) (fun i _ => E.length - (intOf i).toNat)
      case atStart => exact ⟨0, Nat.zero_le _, rfl, Lib.hid (HW0.out ▸ Ext.refl _)⟩
      case round =>
        obtain ⟨j, hj, rfl, HXE⟩ := hrel
        have X7 := Lib.hid (Ext.trans X6.out HXE.out)
        have Y7 := Lib.hid (Ext.trans HX.out HXE.out)
        obtain ⟨p7, q7⟩ := HG.out _ X7.out
        by_cases hlt : j < E.length
        · obtain ⟨b, off, rfl, hn, hnc, hc63, hb, hya0, hyb0⟩ := HS.out.edgesAt hlt
          obtain ⟨⟨ya, yb⟩, hy⟩ : ∃ y, y = E.getD j ⟨0, 0⟩ := ⟨_, rfl⟩
          rw [← hy] at hya0 hyb0
          have hmem : (⟨ya, yb⟩ : Edge) ∈ E := hy ▸ getD_mem hlt ⟨0, 0⟩
          have hed := HOK.out.each ⟨ya, yb⟩ hmem
          have HMEM := Lib.hid hmem
          dsimp only at hed
          obtain ⟨hA0, hAB, hBN⟩ := hed
          have XX := Lib.hid (Ext.trans ((Ext.refl w).alloc _) X7.out)
          have hya := (Below.cell XX.out (p := ⟨b, off + j * 2, none⟩) hb).trans hya0
          have hyb := (Below.cell XX.out (p := ⟨b, off + j * 2 + 1, none⟩) hb).trans hyb0
          dsimp only at hya hyb
          have hcN := HCN.out
          have hdN := HDL.out
          obtain ⟨b2, off2, n2, k2, hv, hn2, hnk2, hk63, hb2, hca⟩ := HC.out.colAt (x := ya) hA0 (by omega)
          obtain ⟨b3, off3, n3', k3, hv3, hn3, hnk3, hk633, hb3, hcb⟩ := HC.out.colAt (x := yb) (by omega) (by omega)
          obtain ⟨b4, off4, n4', k4, hv4, hn4, hnk4, hk634, hb4, hda⟩ := S5.out.colAt (x := ya) hA0 (by omega)
          obtain ⟨b5, off5, n5, k5, hv5, hn5, hnk5, hk635, hb5, hdb⟩ := S5.out.colAt (x := yb) (by omega) (by omega)
          simp only [Value.slice.injEq] at hv hv4
          obtain ⟨rfl, rfl, rfl⟩ := hv
          obtain ⟨rfl, rfl, rfl⟩ := hv4
          simp only [Value.slice.injEq, Option.some.injEq, Addr.mk.injEq, and_true] at hv3 hv5
          obtain ⟨⟨rfl, rfl⟩, rfl, rfl⟩ := hv3
          obtain ⟨⟨rfl, rfl⟩, rfl, rfl⟩ := hv5
          have kca := (Below.cell XX.out (p := ⟨b2, off2 + ya.toNat, none⟩) hb2).trans hca
          have kcb := (Below.cell XX.out (p := ⟨b2, off2 + yb.toNat, none⟩) hb3).trans hcb
          have kda := (Below.cell Y7.out (p := ⟨b4, off4 + ya.toNat, none⟩) hb4).trans hda
          have kdb := (Below.cell Y7.out (p := ⟨b4, off4 + yb.toNat, none⟩) hb5).trans hdb
          have hal : ya < (c.length : Int) := by omega
          have hbl : yb < (c.length : Int) := by omega
          have hald : ya < (D.length : Int) := by omega
          have hbld : yb < (D.length : Int) := by omega
          have hb0 : 0 ≤ yb := by omega
          have HNE : Hid (col c ya = 0 → col c yb = 0 → col D ya = 0) := Lib.hid (HNOT.out ya yb HMEM.out)
          have hjs := Below.size HXE.out
          obtain ⟨pa, hpa⟩ : ∃ x, x = col c ya := ⟨_, rfl⟩
          obtain ⟨pb, hpb⟩ : ∃ x, x = col c yb := ⟨_, rfl⟩
          obtain ⟨da, hdaa⟩ : ∃ x, x = col D ya := ⟨_, rfl⟩
          obtain ⟨db, hdbb⟩ : ∃ x, x = col D yb := ⟨_, rfl⟩
          rw [← hpa] at kca HNE
          rw [← hpb] at kcb HNE
          rw [← hdaa] at kda HNE
          rw [← hdbb] at kdb
          have R1 : (wr.alloc (.cells #[.int .i64 ya, .int .i64 yb] 44)).cell? ⟨b2, off2 + ya.toNat, none⟩ = some (.int .i64 pa) := (World.cell?_alloc_past _ _ _ (by have := Below.size XX.out; show b2 < wr.heap.size; omega)).trans kca
          have R2 : (wr.alloc (.cells #[.int .i64 ya, .int .i64 yb] 44)).cell? ⟨b2, off2 + yb.toNat, none⟩ = some (.int .i64 pb) := (World.cell?_alloc_past _ _ _ (by have := Below.size XX.out; show b2 < wr.heap.size; omega)).trans kcb
          have R3 : (wr.alloc (.cells #[.int .i64 ya, .int .i64 yb] 44)).cell? ⟨b4, off4 + ya.toNat, none⟩ = some (.int .i64 da) := (World.cell?_alloc_past _ _ _ (by have := Below.size Y7.out; show b4 < wr.heap.size; omega)).trans kda
          clear hpa hpb hdaa hdbb hy hya0 hyb0 hca hcb hda hdb hn2 hn3 hn4 hn5 hcN hdN hn hAB hBN hmem
          have HFE := Lib.hid (Ext.alloc HXE.out (.cells #[.int .i64 ya, .int .i64 yb] 44))
          by_cases h1 : pa = 0
          · by_cases h2 : pb = 0
            · have h3 := HNE.out h1 h2
              subst h1
              subst h2
              subst h3
              clear HNE
              go_wp2
              go_roundw
              case rel => exact ⟨j + 1, by omega, by go_num, HFE⟩
              case measure => simp [intOf]; omega
            · have e2 : (pb == 0) = false := by simp [h2]
              subst h1
              clear HNE h2
              go_wp2
              go_roundw
              case rel => exact ⟨j + 1, by omega, by go_num, HFE⟩
              case measure => simp [intOf]; omega
          · have e1 : (pa == 0) = false := by simp [h1]
            clear HNE h1
            go_wp2
            go_roundw
            case rel => exact ⟨j + 1, by omega, by go_num, HFE⟩
            case measure => simp [intOf]; omega
        · by_cases hz : (0 : Int) ∈ c
          · have hTp := HSOME.out hz
            have HZ := Lib.hid (decide_eq_true hz)
            obtain ⟨T', rfl⟩ : ∃ T', T = T' + 1 := ⟨T - 1, by omega⟩
            have HTT := Lib.hid hTp
            clear hz hTp
            go_wp2_with (first
              | (go_at_call 24; refine (refHasI_val _ _ c 0 (HC.out.ext (Ext.trans ((Ext.refl w).alloc _) X7.out)) true HZ.out).mono ?_; rintro e w' ⟨rfl, rfl⟩))
            all_goals first
              | (exfalso; omega)
              | (go_ret; exact ⟨rfl, Ext.trans ((Ext.refl w).alloc _) X7.out⟩)
          · have HZ := Lib.hid (decide_eq_false hz)
            clear hz
            go_wp2_with (first
              | (go_at_call 24; refine (refHasI_val _ _ c 0 (HC.out.ext (Ext.trans ((Ext.refl w).alloc _) X7.out)) false HZ.out).mono ?_; rintro e w' ⟨rfl, rfl⟩))
            all_goals (go_ret; exact ⟨rfl, Ext.trans ((Ext.refl w).alloc _) X7.out⟩)

theorem colourStays_any (w : World) (N : Int) (ao : Option Addr) (k : Nat) (E : List Edge) (co : Option Addr) (cc : Nat) (c : List Int) (h : Sl w (.slice ao E.length k) E) (hc : Sl w (.slice co c.length cc) c) :
    Calls Try.prog 7 #[.agg #[.int .i64 N, .slice ao E.length k], .slice co c.length cc] w (GivesB w (.bool true)) := by
  cases hf : (decide (E.length ≤ 60) && decide (c.length ≤ 70)) with
  | false => exact colourStays_long w N ao k E co cc c h hc hf
  | true =>
    by_cases ok : OkG N E
    · cases hf2 : cForm N c with
      | false => exact colourStays_A w N ao k E co cc c h hc hf _ (show roundR N E c = 110 by unfold roundR; rw [okG_iff.2 ok, hf2]; rfl) (by decide)
      | true => exact colourStays_B w N ao k E co cc c h hc hf ok hf2
    · exact colourStays_A w N ao k E co cc c h hc hf _ (show roundR N E c = 30 by unfold roundR; rw [okG_not ok]; rfl) (by decide)

end Go.Proofs.Ytalncechmhmdcaa
