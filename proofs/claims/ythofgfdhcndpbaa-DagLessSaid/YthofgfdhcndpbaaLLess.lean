/- With an arc less they don't lead round, if they didn't; and no depth is greater. -/
import Derived.Test.YthofgfdhcndpbaaL4
import Derived.Deep.RegionHeld3
namespace Go.Proofs.Ythofgfdhcndpbaa
open Go.RowKit

theorem ord_erase {N : Int} {E : List Arc} (h : ordB N E = true) (k : Nat) : ordB N (E.take k ++ E.drop (k + 1)) = true := by
  obtain ⟨ok, he⟩ := ordB_iff.1 h
  have hsub : (E.take k ++ E.drop (k + 1)).Sublist E := by
    rw [take_eraseIdx]
    exact List.eraseIdx_sublist E k
  have ok2 : OkD N (E.take k ++ E.drop (k + 1)) := ⟨ok.n0, ok.n64, Nat.le_trans hsub.length_le ok.few, fun x hx => ok.each x (hsub.subset hx), List.Nodup.sublist hsub ok.nodup⟩
  exact ordB_iff.2 ⟨ok2, (peeled_iff ok2).2 (((peeled_iff ok).1 he).sub fun x hx => hsub.subset hx)⟩

theorem dagLess_long (w : World) (N : Int) (ao : Option Addr) (c : Nat) (E : List Arc) (x : Int) (_wx : (Lit.int .u8 x).wf = true) (h : Sl w (.slice ao E.length c) E) (hf : fewB N E.length = false) :
    Calls Try.prog 9 #[.int .i64 N, .slice ao E.length c, .int .u8 x] w (GivesB w (.bool true)) := by
  have n1 := h.length_le
  have HF := Lib.hid hf
  clear h hf
  go_enter Try.func9, Try.ntmps9
  go_wp2_with (first
    | (go_at_call 10; have hgd := x1; refine (awake_any _).mono ?_; rintro e w2 ⟨rfl, x2⟩; clear hgd)
    | (go_at_call 10; refine (awake_any _).mono ?_; rintro e w1 ⟨rfl, x1⟩)
    | (go_at_call 11; refine (few_val _ _ ao E.length c n1 false HF.out).mono ?_; rintro e w9 ⟨rfl, rfl⟩))
  go_ret
  exact ⟨rfl, (by repeat (first | exact Ext.refl _ | assumption | exact Hid.out (by assumption) | refine Ext.alloc ?_ _ | refine Ext.drew ?_ | refine Ext.drewN ?_ _ | refine Ext.trans ?_ (by assumption)))⟩

set_option maxRecDepth 100000 in
set_option maxHeartbeats 8000000 in
theorem dagLess_short (w : World) (N : Int) (ao : Option Addr) (c : Nat) (E : List Arc) (x : Int) (wx : (Lit.int .u8 x).wf = true) (h : Sl w (.slice ao E.length c) E) (hf : fewB N E.length = true) :
    Calls Try.prog 9 #[.int .i64 N, .slice ao E.length c, .int .u8 x] w (GivesB w (.bool true)) := by
  have n1 := h.length_le
  have hl60 : E.length ≤ 60 := by simp only [fewB, Bool.and_eq_true, decide_eq_true_eq] at hf; exact hf.1
  have HF := Lib.hid hf
  have Sg := Lib.hid h
  clear h hf
  have hx : 0 ≤ x ∧ x ≤ 255 := by
    simp only [Lit.wf, Bool.and_eq_true, decide_eq_true_eq] at wx
    exact ⟨wx.1, wx.2⟩
  clear wx
  by_cases h0 : E.length = 0
  · have q0 : ((E.length : Int) == 0) = true := by simp [h0]
    clear h0
    go_enter Try.func9, Try.ntmps9
    go_wp2_with (first
      | (go_at_call 10; have hgd := x1; refine (awake_any _).mono ?_; rintro e w2 ⟨rfl, x2⟩; clear hgd)
      | (go_at_call 10; refine (awake_any _).mono ?_; rintro e w1 ⟨rfl, x1⟩)
      | (go_at_call 11; refine (few_val _ _ ao E.length c n1 true HF.out).mono ?_; rintro e w9 ⟨rfl, rfl⟩))
    go_ret
    exact ⟨rfl, (by repeat (first | exact Ext.refl _ | assumption | exact Hid.out (by assumption) | refine Ext.alloc ?_ _ | refine Ext.drew ?_ | refine Ext.drewN ?_ _ | refine Ext.trans ?_ (by assumption)))⟩
  · have q0 : ((E.length : Int) == 0) = false := beq_eq_false_iff_ne.2 (by omega)
    have hp : 0 < E.length := by omega
    have hpi : (0 : Int) < (E.length : Int) := by omega
    have hne0 : (E.length : Int) ≠ 0 := by omega
    clear h0
    obtain ⟨b, hb⟩ : ∃ b, ordB N E = b := ⟨_, rfl⟩
    have HB := Lib.hid hb
    cases b
    · clear hb
      go_enter Try.func9, Try.ntmps9
      go_wp2_with (first
        | (go_at_call 13; refine (own_any _ _ E (Sg.out.ext (by repeat (first | exact Ext.refl _ | assumption | exact Hid.out (by assumption) | refine Ext.alloc ?_ _ | refine Ext.drew ?_ | refine Ext.drewN ?_ _ | refine Ext.trans ?_ (by assumption)))) (by omega)).mono ?_; rintro e w2 ⟨v2, rfl, s2, x2⟩; obtain ⟨ao2, n2, c2, rfl⟩ := s2.sh; have S2 := Lib.hid s2.sl; clear s2)
        | (go_at_call 15; refine (depths_any _ N _ E (S2.out.ext (by repeat (first | exact Ext.refl _ | assumption | exact Hid.out (by assumption) | refine Ext.alloc ?_ _ | refine Ext.drew ?_ | refine Ext.drewN ?_ _ | refine Ext.trans ?_ (by assumption)))) false HB.out).mono ?_; rintro e w3 ⟨v3, d3, rfl, s3, hd3, x3⟩; obtain ⟨ao3, c3, rfl⟩ := s3.sl.len; have S3 := Lib.hid s3.sl; clear s3)
        | (go_at_call 10; refine (awake_any _).mono ?_; rintro e w1 ⟨rfl, x1⟩)
        | (go_at_call 11; refine (few_val _ _ ao E.length c n1 true HF.out).mono ?_; rintro e w9 ⟨rfl, rfl⟩))
      go_ret
      exact ⟨rfl, (by repeat (first | exact Ext.refl _ | assumption | exact Hid.out (by assumption) | refine Ext.alloc ?_ _ | refine Ext.drew ?_ | refine Ext.drewN ?_ _ | refine Ext.trans ?_ (by assumption)))⟩
    · obtain ⟨ok, hpi2⟩ := ord_pi hb
      obtain ⟨n, rfl⟩ := Int.eq_ofNat_of_zero_le ok.n0
      have hn64 : n ≤ 64 := by have := ok.n64; omega
      obtain ⟨kz, hkz⟩ : ∃ kz, kz = x % (E.length : Int) := ⟨_, rfl⟩
      have hk0 : 0 ≤ kz := by rw [hkz]; exact Int.emod_nonneg _ hne0
      have hk1 : kz < (E.length : Int) := by rw [hkz]; exact Int.emod_lt_of_pos _ hpi
      obtain ⟨k, rfl⟩ := Int.eq_ofNat_of_zero_le hk0
      have HKZ := Lib.hid hkz
      have hkl : k < E.length := by omega
      have HB2 := Lib.hid (ord_erase hb k)
      have HMONO : Hid (∀ d e : List Int, IsDepth n E d → IsDepth n (E.take k ++ E.drop (k + 1)) e → e.length = d.length ∧ ∀ i : Nat, i < d.length → e.getD i 0 ≤ d.getD i 0) := Lib.hid fun d e hd he => by
        obtain ⟨ok2, hp2⟩ := ord_pi (ord_erase hb k)
        refine ⟨by rw [hd.len, he.len], fun i hi => ?_⟩
        exact IsDepth.mono (N := (n : Int)) ok2 hp2 (fun x hx => by
          rw [take_eraseIdx] at hx
          exact (List.eraseIdx_sublist E k).subset hx) hd he i (by rw [hd.len] at hi; exact hi)
      clear hb ok hpi2 hkz hk0
      go_enter Try.func9, Try.ntmps9
      go_wp2_with (first
        | (go_at_call 13; refine (own_any _ _ E (Sg.out.ext (by repeat (first | exact Ext.refl _ | assumption | exact Hid.out (by assumption) | refine Ext.alloc ?_ _ | refine Ext.drew ?_ | refine Ext.drewN ?_ _ | refine Ext.trans ?_ (by assumption)))) (by omega)).mono ?_; rintro e w2 ⟨v2, rfl, s2, x2⟩; obtain ⟨ao2, n2, c2, rfl⟩ := s2.sh; have S2 := Lib.hid s2.sl; clear s2)
        | (go_at_call 15; refine (depths_any _ _ _ E (S2.out.ext (by repeat (first | exact Ext.refl _ | assumption | exact Hid.out (by assumption) | refine Ext.alloc ?_ _ | refine Ext.drew ?_ | refine Ext.drewN ?_ _ | refine Ext.trans ?_ (by assumption)))) true HB.out).mono ?_; rintro e w3 ⟨v3, d3, rfl, s3, hd3, x3⟩; obtain ⟨ao3, c3, rfl⟩ := s3.sl.len; have S3 := Lib.hid s3.sl; clear s3; have HD := Lib.hid (hd3.1 rfl); clear hd3)
        | (go_at_call 10; refine (awake_any _).mono ?_; rintro e w1 ⟨rfl, x1⟩)
        | (go_at_call 11; refine (few_val _ _ ao E.length c n1 true HF.out).mono ?_; rintro e w9 ⟨rfl, rfl⟩))
      have hx3 : Ext w w3 := Ext.trans x1 (Ext.trans x2 x3)
      have X3 := Lib.hid hx3
      have hdl : d3.length = n := HD.out.len
      have hd64 : d3.length ≤ 64 := by omega
      have HDL := Lib.hid hdl
      obtain ⟨b, off, hao, hq1, hnc, hc63, hbl, hya0, _⟩ := Sg.out.arcsAt hkl
      subst hao
      obtain ⟨⟨ya, yb⟩, hy⟩ : ∃ y, y = E.getD k ⟨0, 0⟩ := ⟨_, rfl⟩
      rw [← hy] at hya0
      have HC : Hid (∀ W, Ext w3 W → W.cell? ⟨b, off + k * 2, none⟩ = some (.int .i64 ya)) := Lib.hid fun W hW => ((X3.out.trans hW).cell (p := ⟨b, off + k * 2, none⟩) hbl).trans hya0
      have H1 : Hid (∀ W, Ext w3 W → Sl W (.slice (some ⟨b, off, none⟩) k c) (E.take k)) := Lib.hid fun W e => by
        have := (Sg.out.ext (X3.out.trans e)).cut 0 k (by omega) (by omega)
        simpa using this
      have H2 : Hid (∀ W, Ext w3 W → Sl W (.slice (if c = k + 1 then some ⟨b, off, none⟩ else some ⟨b, off + (k + 1) * 2, none⟩) (E.length - (k + 1)) (c - (k + 1))) (E.drop (k + 1))) := Lib.hid fun W e => by
        have := (Sg.out.ext (X3.out.trans e)).tail (k + 1) (by omega)
        rwa [show off + (k + 1) * Elem.k Arc = off + (k + 1) * 2 from rfl] at this
      have hsum : IntKind.i64.wrap ((k : Int) + 1) = (k : Int) + 1 := IntWalk.i64_in _ (by omega)
      have hz0 : (0 : Int) ≤ (k : Int) := by omega
      have hz : (0 : Int) ≤ (k : Int) + 1 := by omega
      have hnn : ((k : Int) + 1).toNat = k + 1 := by omega
      have hkc : k ≤ c := by omega
      have hkci : (k : Int) ≤ (c : Int) := by omega
      have hkc1 : k + 1 ≤ c := by omega
      have hkl1 : k + 1 ≤ E.length := by omega
      have hkl2 : (k : Int) + 1 ≤ (E.length : Int) := by omega
      clear hx3 hq1 hy hya0 hdl hpi hne0 hk1
      rw [← HKZ.out]
      by_cases hcc : c = k + 1
      all_goals
        first
        | have hct : (c = k + 1) = True := by simp [hcc]
        | have hct : (c = k + 1) = False := by simp [hcc]
        have H3 := H2
        first | rw [if_pos hcc] at H3 | rw [if_neg hcc] at H3
        clear hcc
        go_region_held3 (fun W => W.cell? ⟨b, off + k * 2, none⟩ = some (.int .i64 ya)) (exact HC.out _ (by repeat (first | exact Ext.refl _ | assumption | refine Ext.alloc ?_ _ | refine Ext.drew ?_ | refine Ext.drewN ?_ _)))
          (first
          | (go_at_call 13; refine (own_any _ _ (E.take k) (H1.out _ (by repeat (first | exact Ext.refl _ | assumption | refine Ext.alloc ?_ _ | refine Ext.drew ?_ | refine Ext.drewN ?_ _))) (by simp; omega)).mono ?_; rintro e w5 ⟨v5, rfl, s5, x5⟩; have y5 : Ext w3 w5 := Ext.trans (by exact (by repeat (first | exact Ext.refl _ | assumption | refine Ext.alloc ?_ _ | refine Ext.drew ?_ | refine Ext.drewN ?_ _))) x5; have hw5 : w3.heap.size ≤ w5.heap.size := y5.size; obtain ⟨ao5, n5, c5, rfl⟩ := s5.sh; have O5 : Hid (Ow w5 w3.heap.size (.slice ao5 n5 c5) (E.take k)) := Lib.hid (s5.mono (Nat.le_refl _)); clear s5)
          | (refine step_append_sl (α := Arc) rfl (.tmp 46) (.tmp 50) rfl w3.heap.size (.slice ao5 n5 c5) (E.take k) rfl ?_ _ (E.drop (k + 1)) rfl ?_ ?_ ?_ ?_; exact O5.out; exact H3.out _ y5; (simp; omega); exact hw5; intro v6 w6 ho6 ha6; have y6 : Ext w3 w6 := Below.trans y5 ha6.below; obtain ⟨ao6, n6, c6, rfl⟩ := ho6.sh; have S6 := Lib.hid ho6.sl; clear ho6 ha6)
          | (go_at_call 15; refine (depths_any _ _ _ _ S6.out true HB2.out).mono ?_; rintro e w7 ⟨v7, d7, rfl, s7, hd7, x7⟩; have y7 : Ext w3 w7 := Ext.trans y6 x7; obtain ⟨ao7, c7, rfl⟩ := s7.sl.len; have S7 := Lib.hid s7.sl; have HM := Lib.hid (HMONO.out d3 d7 HD.out (hd7.1 rfl)); clear s7 hd7))
        all_goals
          clear hct H3
          obtain ⟨hle, hmo⟩ := HM.out
          have HMO := Lib.hid hmo
          have q9 : ((d3.length : Int) == (d7.length : Int)) = true := by rw [hle]; simp
          have hle2 : d7.length ≤ d3.length := by omega
          have hle3 : d3.length ≤ d7.length := by omega
          have X7 := Lib.hid (X3.out.trans y7)
          have S37 := Lib.hid (S3.out.ext y7)
          clear hmo hle hsum hz hnn
          go_wp2
          go_loopw [12] (fun i wr => ∃ i' : Nat, i' ≤ d3.length ∧ i = .int .i64 i' ∧ Hid (Drew w7 wr)) (fun i _ => d3.length - (intOf i).toNat)
          case atStart => exact ⟨0, Nat.zero_le _, rfl, Lib.hid (Drew.refl _)⟩
          case round =>
            obtain ⟨i, hi, rfl, HD2⟩ := hrel
            by_cases hil : i < d3.length
            · obtain ⟨b1, o1, e1, hq1, hc1a, hc1b, hb1, ca0⟩ := S37.out.intsAt hil
              have hil7 : i < d7.length := by omega
              obtain ⟨b2, o2, e2, hq2, hc2a, hc2b, hb2, cb0⟩ := S7.out.intsAt hil7
              subst e1 e2
              have hge := HMO.out i hil
              obtain ⟨da, hda⟩ : ∃ da, da = d3.getD i 0 := ⟨_, rfl⟩
              obtain ⟨db, hdb⟩ : ∃ db, db = d7.getD i 0 := ⟨_, rfl⟩
              rw [← hda] at ca0 hge
              rw [← hdb] at cb0 hge
              have ca := (HD2.out.cell ⟨b1, o1 + i, none⟩).trans ca0
              have cb := (HD2.out.cell ⟨b2, o2 + i, none⟩).trans cb0
              have hnl : ¬ da < db := by omega
              have hnl2 : decide (da < db) = false := decide_eq_false hnl
              have hi3 : (i : Int) < (d3.length : Int) := by omega
              have hi7 : (i : Int) < (d7.length : Int) := by omega
              clear hq1 hq2 hda hdb ca0 cb0 hge
              go_wp2
              go_quiet (fail)
              go_wp2
              go_roundw
              case rel => exact ⟨i + 1, by omega, by go_num, Lib.hid (HD2.out.more _)⟩
              case measure => simp [intOf]; omega
            · have hni : ¬ (i : Int) < (d3.length : Int) := by omega
              go_wp2
              go_ret
              exact ⟨rfl, X7.out.trans (Ext.of_drew HD2.out)⟩

end Go.Proofs.Ythofgfdhcndpbaa
