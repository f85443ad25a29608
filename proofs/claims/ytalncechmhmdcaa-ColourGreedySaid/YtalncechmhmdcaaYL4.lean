/- Layer 11's law ColourGreedy, walked. -/
import Derived.Test.YtalncechmhmdcaaYA
namespace Go.Proofs.Ytalncechmhmdcaa
open Go.RowKit

set_option maxHeartbeats 8000000 in
theorem colourGreedy_long (w : World) (N : Int) (ao : Option Addr) (k : Nat) (E : List Edge) (h : Sl w (.slice ao E.length k) E) (hf : (decide (E.length ≤ 60) && decide (([] : List Int).length ≤ 70)) = false) :
    Calls Try.prog 6 #[.agg #[.int .i64 N, .slice ao E.length k]] w (GivesB w (.bool true)) := by
  have hEl := h.length_le
  have HS := Lib.hid h
  have HF := Lib.hid hf
  have HG := Lib.hid (graph_at w N (.slice ao E.length k))
  clear h hf
  go_enter Try.func6, Try.ntmps6
  go_wp2_with (first
    | (go_at_call 9; have hgd := X2; refine (awakeC_any _).mono ?_; rintro e w3 ⟨rfl, x3⟩; have X3 := Lib.hid (Ext.trans X2.out x3); obtain ⟨p3, q3⟩ := HG.out w3 X3.out; clear x3 hgd)
    | (go_at_call 9; refine (awakeC_any _).mono ?_; rintro e w1 ⟨rfl, x1⟩; have X1 := Lib.hid (x1); obtain ⟨p1, q1⟩ := HG.out w1 X1.out; clear x1)
    | (go_at_call 10; refine (fewC_any _ N ao k none 0 E [] (by omega) (by first | omega | simp) _ HF.out).mono ?_; rintro e w2 ⟨rfl, x2⟩; have X2 := Lib.hid (Ext.trans X1.out x2); obtain ⟨p2, q2⟩ := HG.out w2 X2.out; clear x2))
  go_ret
  exact ⟨rfl, Ext.trans ((Ext.refl w).alloc _) X3.out⟩

/-- the colours of those that are greater -/
def tkOf (d L : List Int) (a : Int) : List Int := (L.filter fun w => decide (a < w)).map (col d)
theorem tk_mem (d L : List Int) (a x : Int) : decide (x ∈ tkOf d L a) = L.any fun w => decide (a < w) && (col d w == x) := by
  rw [Bool.eq_iff_iff, decide_eq_true_eq, List.any_eq_true]
  unfold tkOf
  rw [List.mem_map]
  constructor
  · rintro ⟨w, hw, e⟩
    obtain ⟨h1, h2⟩ := List.mem_filter.1 hw
    exact ⟨w, h1, by rw [h2]; simp [e]⟩
  · rintro ⟨w, hw, e⟩
    rw [Bool.and_eq_true] at e
    exact ⟨w, List.mem_filter.2 ⟨hw, e.1⟩, by simpa using e.2⟩
theorem tk_next (d : List Int) {L : List Int} {k : Nat} (a : Int) (h : k < L.length) : tkOf d (L.take (k + 1)) a = tkOf d (L.take k) a ++ (if decide (a < L.getD k 0) = true then [col d (L.getD k 0)] else []) := by
  unfold tkOf
  rw [filter_next _ h 0, List.map_append]
  split <;> rfl
theorem tk_len (d L : List Int) (a : Int) : (tkOf d L a).length ≤ L.length := by
  unfold tkOf
  rw [List.length_map]
  exact List.length_filter_le _ _

set_option maxHeartbeats 8000000 in
theorem colourGreedy_A (w : World) (N : Int) (ao : Option Addr) (k : Nat) (E : List Edge) (h : Sl w (.slice ao E.length k) E) (hf : (decide (E.length ≤ 60) && decide (([] : List Int).length ≤ 70)) = true) (ok : ¬ OkG N E) :
    Calls Try.prog 6 #[.agg #[.int .i64 N, .slice ao E.length k]] w (GivesB w (.bool true)) := by
  have hEl := h.length_le
  have HS := Lib.hid h
  have HF := Lib.hid hf
  have HG := Lib.hid (graph_at w N (.slice ao E.length k))
  have hE60 : E.length ≤ 60 := by simp at hf; omega
  clear h hf
  have HNK := Lib.hid ok
  clear ok
  go_enter Try.func6, Try.ntmps6
  go_wp2_with (first
    | (go_at_call 9; refine (awakeC_any _).mono ?_; rintro e w1 ⟨rfl, x1⟩; have X1 := Lib.hid (x1); obtain ⟨p1, q1⟩ := HG.out w1 X1.out; clear x1)
    | (go_at_call 10; refine (fewC_any _ N ao k none 0 E [] (by omega) (by first | omega | simp) _ HF.out).mono ?_; rintro e w2 ⟨rfl, x2⟩; have X2 := Lib.hid (Ext.trans X1.out x2); obtain ⟨p2, q2⟩ := HG.out w2 X2.out; clear x2)
    | (go_at_call 12; refine (own_any _ N _ E (HS.out.ext (Ext.trans ((Ext.refl w).alloc _) X2.out)) (by omega)).mono ?_; rintro e w3 ⟨v3, rfl, s3, x3⟩; obtain ⟨a3, n3, c3, rfl⟩ := s3.sh; have X3 := Lib.hid (Ext.trans X2.out x3); have S3 := Lib.hid s3; obtain ⟨p3, q3⟩ := HG.out w3 X3.out; clear x3 s3)
    | (go_at_call 21; refine (run_bad _ N _ E (S3.out) HNK.out).mono ?_; rintro e w4 ⟨v4, rfl, s4, x4⟩; obtain ⟨a4, c4, rfl⟩ := s4.len; have X4 := Lib.hid (Ext.trans X3.out x4); have S4 := Lib.hid s4; obtain ⟨p4, q4⟩ := HG.out w4 X4.out; clear x4 s4))
  go_ret
  exact ⟨rfl, Ext.trans ((Ext.refl w).alloc _) X4.out⟩

set_option maxHeartbeats 8000000 in
theorem colourGreedy_B (w : World) (N : Int) (ao : Option Addr) (k : Nat) (E : List Edge) (h : Sl w (.slice ao E.length k) E) (hf : (decide (E.length ≤ 60) && decide (([] : List Int).length ≤ 70)) = true) (ok : OkG N E) (K : Nat) (hK : Ends N E K) :
    Calls Try.prog 6 #[.agg #[.int .i64 N, .slice ao E.length k]] w (GivesB w (.bool true)) := by
  have hEl := h.length_le
  have HS := Lib.hid h
  have HF := Lib.hid hf
  have HG := Lib.hid (graph_at w N (.slice ao E.length k))
  have hE60 : E.length ≤ 60 := by simp at hf; omega
  clear h hf
  have HOK := Lib.hid ok
  have HK := Lib.hid hK
  have HO := Lib.hid (okG_iff.2 ok)
  have n0 := ok.n0
  have n64 := ok.n64
  have hKN := hK.le ok
  obtain ⟨D, hD⟩ : ∃ D, D = itr N E K := ⟨_, rfl⟩
  have HDD := Lib.hid hD
  have hDl : (D.length : Int) = N := by rw [hD, itr_length]; omega
  have HDL := Lib.hid hDl
  have hD64 : D.length ≤ 64 := by omega
  have HL : Hid (∀ a : Nat, a < D.length → IsLeast (fun x => decide (x ∈ tkOf D (rnear N E a) a)) (D.getD a 0) ∧ D.getD a 0 ≤ (rnear N E a).length + 1) := Lib.hid fun a ha => by
    have l := hK.least ok (a := (a : Int)) (by omega) (by omega)
    have f := hK.few ok (a := (a : Int)) (by omega) (by omega)
    rw [← hD] at l f
    exact ⟨l.congr fun x _ => (tk_mem _ _ _ _).symm, f⟩
  have hlD : ((D.length : Int) == N) = true := by simp [hDl]
  clear ok hK hD hDl
  go_enter Try.func6, Try.ntmps6
  go_wp2_with (first
    | (go_at_call 9; refine (awakeC_any _).mono ?_; rintro e w1 ⟨rfl, x1⟩; have X1 := Lib.hid (x1); obtain ⟨p1, q1⟩ := HG.out w1 X1.out; clear x1)
    | (go_at_call 10; refine (fewC_any _ N ao k none 0 E [] (by omega) (by first | omega | simp) _ HF.out).mono ?_; rintro e w2 ⟨rfl, x2⟩; have X2 := Lib.hid (Ext.trans X1.out x2); obtain ⟨p2, q2⟩ := HG.out w2 X2.out; clear x2)
    | (go_at_call 12; refine (own_any _ N _ E (HS.out.ext (Ext.trans ((Ext.refl w).alloc _) X2.out)) (by omega)).mono ?_; rintro e w3 ⟨v3, rfl, s3, x3⟩; obtain ⟨a3, n3, c3, rfl⟩ := s3.sh; have X3 := Lib.hid (Ext.trans X2.out x3); have S3 := Lib.hid s3; obtain ⟨p3, q3⟩ := HG.out w3 X3.out; clear x3 s3)
    | (go_at_call 21; refine (run_ok _ N _ E (S3.out) HOK.out K HK.out).mono ?_; rintro e w4 ⟨v4, rfl, s4, x4⟩; rw [← HDD.out] at s4; obtain ⟨a4, c4, rfl⟩ := s4.len; have X4 := Lib.hid (Ext.trans X3.out x4); have S4 := Lib.hid s4; obtain ⟨p4, q4⟩ := HG.out w4 X4.out; clear x4 s4))
  go_loopw [6] (fun i wr => ∃ j : Nat, j ≤ D.length ∧ i = .int .i64 j ∧ Hid (Ext w4 wr)) (fun i _ => D.length - (intOf i).toNat)
  case atStart => exact ⟨0, Nat.zero_le _, rfl, Lib.hid (Ext.refl _)⟩
  case round =>
    obtain ⟨j, hj, rfl, HX⟩ := hrel
    have X5 := Lib.hid (Ext.trans X4.out HX.out)
    obtain ⟨p5, q5⟩ := HG.out wr X5.out
    by_cases hlt : j < D.length
    · obtain ⟨b, off, rfl, hn, hnc, hc63, hb, hcell⟩ := S4.out.intsAt hlt
      obtain ⟨hy1, hy2⟩ := HL.out j hlt
      obtain ⟨y, hy⟩ : ∃ y, y = D.getD j 0 := ⟨_, rfl⟩
      rw [← hy] at hcell hy1 hy2
      have HCL : Hid (∀ V, Ext w4 V → V.cell? ⟨b, off + j, none⟩ = some (.int .i64 y)) := Lib.hid fun V hV => (Below.cell hV (p := ⟨b, off + j, none⟩) hb).trans hcell
      have HLR := Lib.hid (rnear_length N E (j : Int))
      have HIN : Hid (∀ x ∈ rnear N E (j : Int), 0 ≤ x ∧ x < D.length) := Lib.hid fun x hx => by have := near_in HOK.out ((mem_rnear HOK.out).1 hx); have := HDL.out; omega
      obtain ⟨Q, hQ⟩ : ∃ Q, Q = rnear N E (j : Int) := ⟨_, rfl⟩
      rw [← hQ] at hy1 hy2 HLR HIN
      have HQ := Lib.hid hQ
      have hQ64 : Q.length ≤ 64 := by have := HLR.out; omega
      have hyp := hy1.pos
      have hy66 : y ≤ 66 := by omega
      have HY := Lib.hid hy1
      have HTF := Lib.hid (tk_len D Q j)
      clear hy hcell hQ hy1 hy2 hn
      go_wp2_with (first
        | (go_at_call 23; refine (refNear_any _ N _ E (j : Int) (HS.out.ext (Ext.trans ((Ext.refl w).alloc _) X5.out)) HOK.out).mono ?_; rintro e w7 ⟨v7, rfl, s7, x7⟩; rw [← HQ.out] at s7; obtain ⟨a7, c7, rfl⟩ := s7.sl.len; have Y7 := Lib.hid (Ext.trans HX.out x7); have S7 := Lib.hid s7.sl; clear x7 s7))
      clear p5 q5
      go_loopw [8, 9] (fun q i wr2 => ∃ i2 : Nat, i2 ≤ Q.length ∧ i = .int .i64 i2 ∧ Hid (Ow wr2 w7.heap.size q (tkOf D (Q.take i2) j)) ∧ Hid (Ext w7 wr2)) (fun _ i _ => Q.length - (intOf i).toNat)
      case atStart => exact ⟨0, Nat.zero_le _, rfl, Lib.hid (Ow.litAt w7 _ _ (by simp) (Nat.le_refl _) [] (by simp)), Lib.hid ((Ext.refl _).alloc _)⟩
      case round =>
        obtain ⟨i2, hi2, rfl, HT, HX2⟩ := hrel
        have Y8 := Lib.hid (Ext.trans Y7.out HX2.out)
        have kj := HCL.out _ Y8.out
        have hs7 := Below.size HX2.out
        by_cases hlt2 : i2 < Q.length
        · obtain ⟨b2, off2, rfl, hn2, hnc2, hc632, hb2, hcell2⟩ := S7.out.intsAt hlt2
          have hza := (Below.cell HX2.out (p := ⟨b2, off2 + i2, none⟩) hb2).trans hcell2
          have HN := Lib.hid (tk_next D (j : Int) hlt2)
          have HM := HIN.out (Q.getD i2 0) (getD_mem hlt2 0)
          obtain ⟨z, hz⟩ : ∃ z, z = Q.getD i2 0 := ⟨_, rfl⟩
          rw [← hz] at hza HN HM
          obtain ⟨hz0, hz1⟩ := HM
          obtain ⟨b3, off3, n3', k3, hv3, hn3, hnk3, hk633, hb3, hcb⟩ := S4.out.colAt hz0 hz1
          simp only [Value.slice.injEq, Option.some.injEq, Addr.mk.injEq, and_true] at hv3
          obtain ⟨⟨rfl, rfl⟩, rfl, rfl⟩ := hv3
          have kz := (Below.cell Y8.out (p := ⟨b, off + z.toNat, none⟩) hb3).trans hcb
          have HTL := Lib.hid (Nat.le_trans (tk_len D (Q.take i2) (j : Int)) (List.length_take_le i2 Q))
          clear hz hcell2 hcb hn2 hn3
          obtain ⟨u, hu⟩ : ∃ u, u = col D z := ⟨_, rfl⟩
          rw [← hu] at kz HN
          obtain ⟨L, hL⟩ : ∃ L, L = tkOf D (Q.take i2) (j : Int) := ⟨_, rfl⟩
          rw [← hL] at HT HN HTL
          have hLl : L.length ≤ 64 := by have := HTL.out; omega
          clear hu hL
          by_cases hjz : (j : Int) < z
          · have HN2 : Hid (tkOf D (Q.take (i2 + 1)) (j : Int) = L ++ [u]) := Lib.hid (HN.out.trans (by rw [if_pos (decide_eq_true hjz)]))
            clear HN
            go_wp2_with (first
              | (at_builtin; refine wpList_append_sl (α := Int) rfl (.tmp 53) (.tmp 61) rfl w7.heap.size _ L rfl ?_ (.slice (some ⟨_, 0, none⟩) 1 1) [u] rfl ?_ ?_ ?_ ?_; exact (HT.out.alloc _); exact (Sl.litAt wr _ rfl [u] (show (1 : Nat) ≤ 1000000 by decide)); (first | omega | (simp; omega)); exact (by first | omega | (rw [size_alloc]; omega)); intro v9 W9 ho9 ha9; have O9 := Lib.hid ho9; have Y9 := Lib.hid (Below.trans (HX2.out.alloc _) (Below.mono ha9.below (Nat.le_refl _))); clear ho9 ha9))
            go_roundw
            case rel => exact ⟨i2 + 1, by omega, by go_num, Lib.hid (by rw [HN2.out]; exact O9.out), Y9⟩
            case measure => simp [intOf]; omega
          · have HN2 : Hid (tkOf D (Q.take (i2 + 1)) (j : Int) = L) := Lib.hid (HN.out.trans (by rw [if_neg (by simp; omega), List.append_nil]))
            clear HN
            go_wp2
            go_roundw
            case rel => exact ⟨i2 + 1, by omega, by go_num, Lib.hid (by rw [HN2.out]; exact HT.out), HX2⟩
            case measure => simp [intOf]; omega
        · have hiq : i2 = Q.length := by omega
          rw [hiq, List.take_length] at HT
          obtain ⟨qo, qn, qc, rfl⟩ := HT.out.sh
          have ZT := Lib.hid HT.out.sl
          clear HT hiq
          obtain ⟨TK, hTK⟩ : ∃ TK, TK = tkOf D Q (j : Int) := ⟨_, rfl⟩
          rw [← hTK] at ZT HY
          obtain ⟨W0, hW0⟩ : ∃ W0, W0 = wr := ⟨_, rfl⟩
          have HW0 := Lib.hid hW0
          rw [hW0.symm] at HX2 Y8 ZT kj
          clear hW0 hTK
          go_wp2
          go_loopw [10] (fun i wr3 => ∃ x : Int, 1 ≤ x ∧ x ≤ y ∧ i = .int .i64 x ∧ Hid (Ext W0 wr3)) (fun i _ => (y - intOf i).toNat)
          case atStart => exact ⟨1, by omega, hyp, rfl, Lib.hid (HW0.out ▸ Ext.refl _)⟩
          case round =>
            obtain ⟨x, hx1, hx2, rfl, HX3⟩ := hrel
            have Y9 := Lib.hid (Ext.trans Y8.out HX3.out)
            have kj3 := HCL.out _ Y9.out
            have ZT3 := Lib.hid (ZT.out.ext HX3.out)
            have hw1 : IntKind.i64.wrap (x + 1) = x + 1 := wrapN _ (by omega) (by omega)
            obtain ⟨p9, q9⟩ := HG.out _ (Ext.trans X4.out Y9.out)
            by_cases hxy : x < y
            · have HD := Lib.hid (HY.out.low x hx1 hxy)
              go_wp2_with (first
                | (go_at_call 24; refine (refHasI_val _ _ TK x ZT3.out true HD.out).mono ?_; rintro e w' ⟨rfl, rfl⟩))
              go_roundw
              case rel => exact ⟨x + 1, by omega, by omega, rfl, HX3⟩
              case measure => simp [intOf]; omega
            · have hxe : x = y := by omega
              subst hxe
              have HD := Lib.hid HY.out.free
              go_wp2_with (first
                | (go_at_call 24; refine (refHasI_val _ _ TK x ZT3.out false HD.out).mono ?_; rintro e w' ⟨rfl, rfl⟩))
              go_roundw
              case rel => exact ⟨j + 1, by omega, by go_num, Y9⟩
              case measure => simp [intOf]; omega
    · go_wp2
      go_ret
      exact ⟨rfl, Ext.trans ((Ext.refl w).alloc _) X5.out⟩

theorem colourGreedy_any (w : World) (N : Int) (ao : Option Addr) (k : Nat) (E : List Edge) (h : Sl w (.slice ao E.length k) E) :
    Calls Try.prog 6 #[.agg #[.int .i64 N, .slice ao E.length k]] w (GivesB w (.bool true)) := by
  cases hf : (decide (E.length ≤ 60) && decide (([] : List Int).length ≤ 70)) with
  | false => exact colourGreedy_long w N ao k E h hf
  | true =>
    by_cases ok : OkG N E
    · obtain ⟨K, hK⟩ := ends_some ok
      exact colourGreedy_B w N ao k E h hf ok K hK
    · exact colourGreedy_A w N ao k E h hf ok

end Go.Proofs.Ytalncechmhmdcaa
