/- A node's depth is one more than the deepest one's that points to it. -/
import Derived.Test.YthofgfdhcndpbaaL4
namespace Go.Proofs.Ythofgfdhcndpbaa
open Go.RowKit

theorem dagDeep_long (w : World) (N : Int) (ao : Option Addr) (c : Nat) (E : List Arc)  (h : Sl w (.slice ao E.length c) E) (hf : fewB N E.length = false) :
    Calls Try.prog 8 #[.int .i64 N, .slice ao E.length c] w (GivesB w (.bool true)) := by
  have n1 := h.length_le
  have HF := Lib.hid hf
  clear h hf
  go_enter Try.func8, Try.ntmps8
  go_wp2_with (first
    | (go_at_call 10; have hgd := x1; refine (awake_any _).mono ?_; rintro e w2 ⟨rfl, x2⟩; clear hgd)
    | (go_at_call 10; refine (awake_any _).mono ?_; rintro e w1 ⟨rfl, x1⟩)
    | (go_at_call 11; refine (few_val _ _ ao E.length c n1 false HF.out).mono ?_; rintro e w9 ⟨rfl, rfl⟩))
  go_ret
  exact ⟨rfl, (by repeat (first | exact Ext.refl _ | assumption | exact Hid.out (by assumption) | refine Ext.alloc ?_ _ | refine Ext.drew ?_ | refine Ext.drewN ?_ _ | refine Ext.trans ?_ (by assumption)))⟩

set_option maxRecDepth 100000 in
set_option maxHeartbeats 8000000 in
theorem dagDeep_short (w : World) (N : Int) (ao : Option Addr) (c : Nat) (E : List Arc)  (h : Sl w (.slice ao E.length c) E) (hf : fewB N E.length = true) :
    Calls Try.prog 8 #[.int .i64 N, .slice ao E.length c] w (GivesB w (.bool true)) := by
  have n1 := h.length_le
  have hl60 : E.length ≤ 60 := by simp only [fewB, Bool.and_eq_true, decide_eq_true_eq] at hf; exact hf.1
  have HF := Lib.hid hf
  have Sg := Lib.hid h
  clear h hf
  obtain ⟨b, hb⟩ : ∃ b, ordB N E = b := ⟨_, rfl⟩
  have HB := Lib.hid hb
  cases b
  · clear hb
    go_enter Try.func8, Try.ntmps8
    go_wp2_with (first
      | (go_at_call 13; refine (own_any _ _ E (Sg.out.ext (by repeat (first | exact Ext.refl _ | assumption | exact Hid.out (by assumption) | refine Ext.alloc ?_ _ | refine Ext.drew ?_ | refine Ext.drewN ?_ _ | refine Ext.trans ?_ (by assumption)))) (by omega)).mono ?_; rintro e w2 ⟨v2, rfl, s2, x2⟩; obtain ⟨ao2, n2, c2, rfl⟩ := s2.sh; have S2 := Lib.hid s2.sl; clear s2)
      | (go_at_call 15; refine (depths_any _ N _ E (S2.out.ext (by repeat (first | exact Ext.refl _ | assumption | exact Hid.out (by assumption) | refine Ext.alloc ?_ _ | refine Ext.drew ?_ | refine Ext.drewN ?_ _ | refine Ext.trans ?_ (by assumption)))) false HB.out).mono ?_; rintro e w3 ⟨v3, d3, rfl, s3, hd3, x3⟩; obtain ⟨ao3, c3, rfl⟩ := s3.sl.len; have S3 := Lib.hid s3.sl; clear s3; have hdd := hd3.2 rfl; subst hdd)
      | (go_at_call 10; refine (awake_any _).mono ?_; rintro e w1 ⟨rfl, x1⟩)
      | (go_at_call 11; refine (few_val _ _ ao E.length c n1 true HF.out).mono ?_; rintro e w9 ⟨rfl, rfl⟩))
    go_ret
    exact ⟨rfl, (by repeat (first | exact Ext.refl _ | assumption | exact Hid.out (by assumption) | refine Ext.alloc ?_ _ | refine Ext.drew ?_ | refine Ext.drewN ?_ _ | refine Ext.trans ?_ (by assumption)))⟩
  · obtain ⟨ok, hp⟩ := ord_pi hb
    obtain ⟨n, rfl⟩ := Int.eq_ofNat_of_zero_le ok.n0
    have hn64 : n ≤ 64 := by have := ok.n64; omega
    have HO := Lib.hid ok
    have HP := Lib.hid hp
    clear hb ok hp
    go_enter Try.func8, Try.ntmps8
    go_wp2_with (first
      | (go_at_call 13; refine (own_any _ _ E (Sg.out.ext (by repeat (first | exact Ext.refl _ | assumption | exact Hid.out (by assumption) | refine Ext.alloc ?_ _ | refine Ext.drew ?_ | refine Ext.drewN ?_ _ | refine Ext.trans ?_ (by assumption)))) (by omega)).mono ?_; rintro e w2 ⟨v2, rfl, s2, x2⟩; obtain ⟨ao2, n2, c2, rfl⟩ := s2.sh; have S2 := Lib.hid s2.sl; clear s2)
      | (go_at_call 15; refine (depths_any _ _ _ E (S2.out.ext (by repeat (first | exact Ext.refl _ | assumption | exact Hid.out (by assumption) | refine Ext.alloc ?_ _ | refine Ext.drew ?_ | refine Ext.drewN ?_ _ | refine Ext.trans ?_ (by assumption)))) true HB.out).mono ?_; rintro e w3 ⟨v3, d3, rfl, s3, hd3, x3⟩; obtain ⟨ao3, c3, rfl⟩ := s3.sl.len; have S3 := Lib.hid s3.sl; clear s3; have hdl : d3.length = n := (hd3.1 rfl).len; have HDL := Lib.hid hdl; have HD := Lib.hid (hd3.1 rfl); clear hd3 hdl)
      | (go_at_call 10; refine (awake_any _).mono ?_; rintro e w1 ⟨rfl, x1⟩)
      | (go_at_call 11; refine (few_val _ _ ao E.length c n1 true HF.out).mono ?_; rintro e w9 ⟨rfl, rfl⟩))
    have hdn : d3.length ≤ 64 := by have := HDL.out; omega
    have X3 : Hid (Ext w w3) := Lib.hid (Ext.trans x1 (Ext.trans x2 x3))
    go_loopw [7, 8] (fun q i wr => ∃ k : Nat, k ≤ n ∧ i = .int .i64 k ∧ Hid (Ow wr w3.heap.size q (d3.take k)) ∧ Hid (Ext w3 wr)) (fun _ i _ => n - (intOf i).toNat)
    case atStart => exact ⟨0, Nat.zero_le _, rfl, Lib.hid (Ow.lit w3 _ (Nat.le_refl _) [] (by simp)), Lib.hid ((Ext.refl _).alloc _)⟩
    case round =>
      obtain ⟨k, hk, rfl, HW, HX⟩ := hrel
      by_cases hlt : k < n
      · go_wp2
        go_loop [9, 10] (fun s9 s10 => ∃ i : Nat, i ≤ E.length ∧ s10 = .int .i64 i ∧ ∃ m : Int, s9 = .int .i64 m ∧ Hid (m = mostOf d3 (k : Int) (E.take i))) (fun _ s10 => E.length - (intOf s10).toNat)
        case atStart => exact ⟨0, Nat.zero_le _, rfl, 0, rfl, Lib.hid rfl⟩
        case round =>
          obtain ⟨i, hi, rfl, m, rfl, HM⟩ := hrel
          by_cases hil : i < E.length
          · obtain ⟨b, off, hao, hq1, hnc, hc63, hb, hya0, hyb0⟩ := Sg.out.arcsAt hil
            subst hao
            have hya := ((X3.out.trans HX.out).cell (p := ⟨b, off + i * 2, none⟩) hb).trans hya0
            have hyb := ((X3.out.trans HX.out).cell (p := ⟨b, off + i * 2 + 1, none⟩) hb).trans hyb0
            obtain ⟨⟨ya, yb⟩, hy⟩ : ∃ y, y = E.getD i ⟨0, 0⟩ := ⟨_, rfl⟩
            rw [← hy] at hya hyb
            have hm : (⟨ya, yb⟩ : Arc) ∈ E := by rw [hy, getD_at hil]; exact List.getElem_mem hil
            have hyr : 0 ≤ ya ∧ ya < (n : Int) ∧ 0 ≤ yb ∧ yb < (n : Int) ∧ ya ≠ yb := HO.out.each _ hm
            obtain ⟨u, rfl⟩ := Int.eq_ofNat_of_zero_le hyr.1
            have hun : u < n := by have := hyr.2.1; omega
            have HN : Hid (mostOf d3 (k : Int) (E.take (i + 1)) = if yb = (k : Int) then max m (d3.getD u 0 + 1) else m) := Lib.hid (by rw [take_next hil ⟨0, 0⟩, ← hy, mostOf_snoc, ← HM.out]; rfl)
            have hul : u < d3.length := by rw [HDL.out]; exact hun
            obtain ⟨b3, o3, e3, hq3, hc3a, hc3b, hb3, hcu0⟩ := S3.out.intsAt hul
            subst e3
            have hcu := (HX.out.cell (p := ⟨b3, o3 + u, none⟩) hb3).trans hcu0
            have hdu := HD.out.less HO.out HP.out u hun
            have hdu0 := (HD.out.at_ u hun).nn
            obtain ⟨du, hdue⟩ : ∃ du, du = d3.getD u 0 := ⟨_, rfl⟩
            rw [← hdue] at HN hcu hdu hdu0
            have hdu64 : du ≤ 64 := by omega
            have hui : (u : Int) < (d3.length : Int) := by omega
            clear hq1 hq3 hya0 hyb0 hy hm hyr hcu0 hdu hdue
            by_cases g1 : yb = (k : Int)
            · have q1 : (yb == (k : Int)) = true := by simp [g1]
              have G1 := Lib.hid g1
              clear g1
              go_wp2
              go_round
              case rel => exact ⟨i + 1, by omega, by go_num, _, rfl, Lib.hid (by rw [HN.out, if_pos G1.out])⟩
              case measure => simp [intOf]; omega
            · have q1 : (yb == (k : Int)) = false := by simp [g1]
              have G1 := Lib.hid g1
              clear g1
              go_wp2
              go_round
              case rel => exact ⟨i + 1, by omega, by go_num, _, rfl, Lib.hid (by rw [HN.out, if_neg G1.out])⟩
              case measure => simp [intOf]; omega
          · have hil2 : i = E.length := by omega
            have hkl : k < d3.length := by rw [HDL.out]; exact hlt
            have HMD : Hid (d3.take (k + 1) = d3.take k ++ [m]) := Lib.hid (by
              have h1 := HM.out
              rw [hil2, List.take_length] at h1
              rw [take_next hkl 0, h1]
              congr 2
              exact (HD.out.at_ k hlt).uniq (mostOf_is d3 (k : Int) E))
            obtain ⟨P, hP⟩ : ∃ P, P = d3.take k := ⟨_, rfl⟩
            have hPl : P.length ≤ 64 := by rw [hP, List.length_take]; omega
            rw [← hP] at HMD HW
            have hwr : w3.heap.size ≤ wr.heap.size := HX.out.size
            clear hil2 HM hP
            go_wp2_with ((at_builtin; refine wpList_append_sl (α := Int) rfl (.tmp 62) (.tmp 64) rfl w3.heap.size _ P rfl ?_ (.slice (some ⟨_, 0, none⟩) 1 1) [m] rfl ?_ ?_ ?_ ?_; exact (HW.out.alloc _); exact (Sl.litAt _ _ (by simp) [m] (by simp)); (first | omega | (simp; omega)); exact (by first | (simp; done) | (simp; omega)); intro v4 W4 ho4 ha4; have O4 := Lib.hid ho4; have y4 : Hid (Ext w3 W4) := Lib.hid (Below.trans (HX.out.alloc _) ha4.below); clear ho4 ha4))
            go_roundw
            case rel => exact ⟨k + 1, by omega, by go_num, Lib.hid (by rw [HMD.out]; exact O4.out), y4⟩
            case measure => simp [intOf]; omega
      · have hkn : k = n := by omega
        have HW2 : Hid (Ow wr w3.heap.size u7 d3) := Lib.hid (by have := HW.out; rwa [hkn, List.take_of_length_le (by rw [HDL.out]; exact Nat.le_refl _)] at this)
        clear hkn HW
        go_wp2_with (go_at_call 17; refine (refSame_val true _ _ _ d3 d3 (S3.out.ext HX.out) HW2.out.sl (by simp)).mono ?_; rintro e w5 ⟨rfl, hd5⟩)
        go_ret
        exact ⟨rfl, X3.out.trans (HX.out.trans (Ext.of_drew hd5))⟩

end Go.Proofs.Ythofgfdhcndpbaa
