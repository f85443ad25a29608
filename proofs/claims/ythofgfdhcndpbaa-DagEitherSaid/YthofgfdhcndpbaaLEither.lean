/- There is an order, in which all arcs lead on, or there are nodes that they lead round; never both. -/
import Derived.Test.YthofgfdhcndpbaaL4
import Derived.Deep.RegionHeld3
namespace Go.Proofs.Ythofgfdhcndpbaa
open Go.RowKit

theorem place_val (w : World) (C : Nat) (x : Int) (ao : Option Addr) (c : Nat) (O : List Int) (hc : w.cell? ⟨C, 0, none⟩ = some (.slice ao O.length c)) (h : Sl w (.slice ao O.length c) O) :
    Calls Try.prog 28 #[.int .i64 x, .pointer (some ⟨C, 0, none⟩)] w fun e w' => e = .returned (.int .i64 (placeIn O x)) ∧ w' = w := by
  have hle := h.length_le
  have HS := Lib.hid h
  clear h
  go_enter Try.func28, Try.ntmps28
  go_wp2
  go_loop [4] (fun i => ∃ k : Nat, k ≤ O.length ∧ i = .int .i64 k ∧ Hid (x ∉ O.take k)) (fun i => O.length - (intOf i).toNat)
  case atStart => exact ⟨0, Nat.zero_le _, rfl, Lib.hid (by simp)⟩
  case round =>
    obtain ⟨k, hk, rfl, HT⟩ := hrel
    by_cases hlt : k < O.length
    · obtain ⟨b, off, hao, hq1, hnc, hc63, hb, hy0⟩ := HS.out.intsAt hlt
      subst hao
      obtain ⟨y, hyy⟩ : ∃ y, y = O.getD k 0 := ⟨_, rfl⟩
      rw [← hyy] at hy0
      have HN : Hid (O.take (k + 1) = O.take k ++ [y]) := Lib.hid (by rw [take_next hlt 0, ← hyy])
      have HY := Lib.hid hyy
      clear hyy hq1
      by_cases hq : y = x
      · have e1 : (y == x) = true := by simp [hq]
        have HQ := Lib.hid hq
        clear hq
        go_wp2
        go_ret
        exact ⟨ret_int (place_here hlt (HQ.out.symm.trans HY.out) HT.out).symm, rfl⟩
      · have e1 : (y == x) = false := by simp [hq]
        have HQ := Lib.hid hq
        clear hq
        go_wp2
        go_round
        case rel => exact ⟨k + 1, by omega, by go_num, Lib.hid (by rw [HN.out]; simp only [List.mem_append, List.mem_singleton]; exact fun e => e.elim HT.out (fun e => HQ.out e.symm))⟩
        case measure => simp [intOf]; omega
    · have hkl : k = O.length := by omega
      go_wp2
      go_ret
      exact ⟨ret_int (place_none (by have := HT.out; rwa [hkl, List.take_length] at this)).symm, rfl⟩
theorem place_two (w : World) (C : Nat) (x a b : Int) (t p q : Nat) (ao : Option Addr) (c : Nat) (O : List Int) (hx : (x = a ∧ t = p) ∨ (x = b ∧ t = q)) (hp : placeIn O a = (p : Int)) (hq : placeIn O b = (q : Int)) (hc : w.cell? ⟨C, 0, none⟩ = some (.slice ao O.length c)) (h : Sl w (.slice ao O.length c) O) :
    Calls Try.prog 28 #[.int .i64 x, .pointer (some ⟨C, 0, none⟩)] w fun e w' => e = .returned (.int .i64 (t : Int)) ∧ w' = w := by
  rcases hx with ⟨rfl, rfl⟩ | ⟨rfl, rfl⟩
  · rw [← hp]; exact place_val w C x ao c O hc h
  · rw [← hq]; exact place_val w C x ao c O hc h

theorem norm_len {l : List Int} (h : l.Nodup) : (norm l).length = l.length :=
  ((List.perm_ext_iff_of_nodup (norm_SS l).nodup h).2 fun x => mem_norm l x).length_eq
theorem cyc_ord {N : Int} {L : List Arc} (ok : OkD N L) : cycB N L = !ordB N L := by
  cases e : ordB N L with
  | true =>
    have := (ordB_iff.1 e).2
    cases f : cycB N L with
    | false => rfl
    | true => exact absurd this (cycB_iff.1 f).2
  | false =>
    refine cycB_iff.2 ⟨ok, fun h => ?_⟩
    rw [ordB_iff.2 ⟨ok, h⟩] at e
    cases e
theorem round_cyc {N : Int} {L : List Arc} (ok : OkD N L) : roundD N L = !ordB N L := by
  cases e : ordB N L with
  | true => exact (ord_round.1 e).2
  | false =>
    cases f : roundD N L with
    | true => rfl
    | false => rw [ord_round.2 ⟨ok, f⟩] at e; cases e

set_option maxRecDepth 100000 in
theorem dagEither_long (w : World) (N : Int) (ao : Option Addr) (c : Nat) (E : List Arc)  (h : Sl w (.slice ao E.length c) E) (hf : fewB N E.length = false) :
    Calls Try.prog 6 #[.int .i64 N, .slice ao E.length c] w (GivesB w (.bool true)) := by
  have n1 := h.length_le
  have HF := Lib.hid hf
  clear h hf
  go_enter Try.func6, Try.ntmps6
  go_wp2_with (first
    | (go_at_call 10; have hgd := x1; refine (awake_any _).mono ?_; rintro e w2 ⟨rfl, x2⟩; clear hgd)
    | (go_at_call 10; refine (awake_any _).mono ?_; rintro e w1 ⟨rfl, x1⟩)
    | (go_at_call 11; refine (few_val _ _ ao E.length c n1 false HF.out).mono ?_; rintro e w9 ⟨rfl, rfl⟩))
  go_ret
  exact ⟨rfl, (by repeat (first | exact Ext.refl _ | assumption | exact Hid.out (by assumption) | refine Ext.alloc ?_ _ | refine Ext.drew ?_ | refine Ext.drewN ?_ _ | refine Ext.trans ?_ (by assumption)))⟩

set_option maxRecDepth 100000 in
set_option maxHeartbeats 8000000 in
theorem dagEither_short (w : World) (N : Int) (ao : Option Addr) (c : Nat) (E : List Arc)  (h : Sl w (.slice ao E.length c) E) (hf : fewB N E.length = true) :
    Calls Try.prog 6 #[.int .i64 N, .slice ao E.length c] w (GivesB w (.bool true)) := by
  have n1 := h.length_le
  have hl60 : E.length ≤ 60 := by simp only [fewB, Bool.and_eq_true, decide_eq_true_eq] at hf; exact hf.1
  have HF := Lib.hid hf
  have Sg := Lib.hid h
  clear h hf
  by_cases ok : OkD N E
  · have HC := Lib.hid (chkD_of ok)
    obtain ⟨n, rfl⟩ := Int.eq_ofNat_of_zero_le ok.n0
    have hn64 : n ≤ 64 := by have := ok.n64; omega
    have HO := Lib.hid ok
    have hcy := cyc_ord ok
    have hrd := round_cyc ok
    obtain ⟨b, hb⟩ : ∃ b, ordB (n : Int) E = b := ⟨_, rfl⟩
    obtain ⟨X, hX⟩ : ∃ X, ordL (n : Int) E = X := ⟨_, rfl⟩
    obtain ⟨CY, hCY⟩ : ∃ CY, cycL (n : Int) E = CY := ⟨_, rfl⟩
    rw [hb] at hcy hrd
    have HB := Lib.hid hb
    have HX := Lib.hid hX
    have HCX := Lib.hid hCY
    have HCB := Lib.hid hcy
    have HRD := Lib.hid hrd
    cases b
    · have hXe : X = [] := by rw [← hX]; unfold ordL; rw [if_neg (by rw [hb]; simp)]
      have hcyt : cycB (n : Int) E = true := hcy
      have hCYe : CY = cycleOf (n : Int) E := by rw [← hCY]; unfold cycL; rw [if_pos hcyt]
      have hIC := cycle_ok ok (cycB_iff.1 hcyt).2
      rw [← hCYe] at hIC
      have h2 := hIC.two ok
      have hCl : CY.length ≤ 64 := by
        have hm : ∀ x ∈ CY, x ∈ upto n := fun x hx => by
          obtain ⟨j, hj, rfl⟩ := List.getElem_of_mem hx
          have := hIC.ring j hj
          rw [getD_at hj] at this
          have := ok.each _ this
          rw [mem_upto]
          exact ⟨this.1, this.2.1⟩
        have := length_le_of_sub hIC.nodup hm
        rw [upto_length] at this
        omega
      have HIC := Lib.hid hIC
      have HNL := Lib.hid (norm_len hIC.nodup)
      subst hXe
      clear hcy hrd hb hX hCY ok hcyt hCYe hIC
      go_enter Try.func6, Try.ntmps6
      go_wp2_with (first
        | (go_at_call 13; have hgd := S5; refine (own_any _ _ E (Sg.out.ext (by repeat (first | exact Ext.refl _ | assumption | exact Hid.out (by assumption) | refine Ext.alloc ?_ _ | refine Ext.drew ?_ | refine Ext.drewN ?_ _ | refine Ext.trans ?_ (by assumption)))) (by omega)).mono ?_; rintro e w6 ⟨v6, rfl, s6, x6⟩; obtain ⟨ao6, n6, c6, rfl⟩ := s6.sh; have S6 := Lib.hid s6.sl; clear s6; clear hgd)
        | (go_at_call 13; have hgd := x3; refine (own_any _ _ E (Sg.out.ext (by repeat (first | exact Ext.refl _ | assumption | exact Hid.out (by assumption) | refine Ext.alloc ?_ _ | refine Ext.drew ?_ | refine Ext.drewN ?_ _ | refine Ext.trans ?_ (by assumption)))) (by omega)).mono ?_; rintro e w4 ⟨v4, rfl, s4, x4⟩; obtain ⟨ao4, n4, c4, rfl⟩ := s4.sh; have S4 := Lib.hid s4.sl; clear s4; clear hgd)
        | (go_at_call 13; refine (own_any _ _ E (Sg.out.ext (by repeat (first | exact Ext.refl _ | assumption | exact Hid.out (by assumption) | refine Ext.alloc ?_ _ | refine Ext.drew ?_ | refine Ext.drewN ?_ _ | refine Ext.trans ?_ (by assumption)))) (by omega)).mono ?_; rintro e w2 ⟨v2, rfl, s2, x2⟩; obtain ⟨ao2, n2, c2, rfl⟩ := s2.sh; have S2 := Lib.hid s2.sl; clear s2)
        | (go_at_call 12; refine (order_any _ _ _ E (S4.out.ext (by repeat (first | exact Ext.refl _ | assumption | exact Hid.out (by assumption) | refine Ext.alloc ?_ _ | refine Ext.drew ?_ | refine Ext.drewN ?_ _ | refine Ext.trans ?_ (by assumption)))) [] false HX.out HB.out).mono ?_; rintro e w5 ⟨v5, rfl, s5, x5⟩; obtain ⟨ao5, c5, rfl⟩ := s5.sl.len; have S5 := Lib.hid s5.sl; clear s5)
        | (go_at_call 20; refine (cycle_any _ _ _ E (S6.out.ext (by repeat (first | exact Ext.refl _ | assumption | exact Hid.out (by assumption) | refine Ext.alloc ?_ _ | refine Ext.drew ?_ | refine Ext.drewN ?_ _ | refine Ext.trans ?_ (by assumption)))) CY true HCX.out HCB.out).mono ?_; rintro e w7 ⟨v7, rfl, s7, x7⟩; obtain ⟨ao7, c7, rfl⟩ := s7.sl.len; have S7 := Lib.hid s7.sl; clear s7)
        | (go_at_call 27; refine (refRound_val _ n _ E (Sg.out.ext (by repeat (first | exact Ext.refl _ | assumption | exact Hid.out (by assumption) | refine Ext.alloc ?_ _ | refine Ext.drew ?_ | refine Ext.drewN ?_ _ | refine Ext.trans ?_ (by assumption)))) HO.out true HRD.out).mono ?_; rintro e w8 ⟨rfl, x8⟩)
        | (go_at_call 18; refine (check_any _ _ _ E (S2.out.ext (by repeat (first | exact Ext.refl _ | assumption | exact Hid.out (by assumption) | refine Ext.alloc ?_ _ | refine Ext.drew ?_ | refine Ext.drewN ?_ _ | refine Ext.trans ?_ (by assumption)))) 0 HC.out).mono ?_; rintro e w3 ⟨rfl, x3⟩)
        | (go_at_call 10; refine (awake_any _).mono ?_; rintro e w1 ⟨rfl, x1⟩)
        | (go_at_call 11; refine (few_val _ _ ao E.length c n1 true HF.out).mono ?_; rintro e w9 ⟨rfl, rfl⟩))
      have X5 : Hid (Ext w w5) := Lib.hid (Ext.trans x1 (Ext.trans x2 (Ext.trans x3 (Ext.trans x4 x5))))
      have X7 : Hid (Ext (w5.alloc (.cells #[.slice ao5 0 c5] 25)) w7) := Lib.hid (Ext.trans x6 x7)
      have X8 := Lib.hid x8
      have HBX : Hid (∀ W, Ext w8 W → W.cell? ⟨w5.heap.size, 0, none⟩ = some (.slice ao5 0 c5) ∧ Sl W (.slice ao7 CY.length c7) CY ∧ Ext w W) := Lib.hid fun W hW =>
        ⟨cell_at W (X7.out.trans (X8.out.trans hW)) rfl, S7.out.ext (X8.out.trans hW), X5.out.trans (((Ext.refl w5).alloc _).trans (X7.out.trans (X8.out.trans hW)))⟩
      clear x1 x2 x3 x4 x5 x6 x7 x8
      go_loopw [11] (fun s11 wr => ∃ i : Nat, i ≤ CY.length ∧ s11 = .int .i64 i ∧ Hid (Ext w8 wr)) (fun s11 _ => CY.length - (intOf s11).toNat)
      case atStart => exact ⟨0, Nat.zero_le _, rfl, Lib.hid (Ext.refl _)⟩
      case round =>
        obtain ⟨i, hi, rfl, HXI⟩ := hrel
        by_cases hil : i < CY.length
        · obtain ⟨j, hj⟩ : ∃ j, j = (if i + 1 = CY.length then 0 else i + 1) := ⟨_, rfl⟩
          have hring := HIC.out.ring i hil
          rw [← hj] at hring
          have hjl : j < CY.length := by rw [hj]; split <;> omega
          have hrem : ((i : Int) + 1) % (CY.length : Int) = (j : Int) := by
            rw [hj]
            split
            · next e =>
              have : (i : Int) + 1 = (CY.length : Int) := by omega
              rw [this, Int.emod_self]; rfl
            · rw [Int.emod_eq_of_lt (by omega) (by omega)]; rfl
          have htm : Int.tmod ((i : Int) + 1) (CY.length : Int) = (j : Int) := by rw [Int.tmod_eq_emod_of_nonneg (by omega)]; exact hrem
          have hsum : IntKind.i64.wrap ((i : Int) + 1) = (i : Int) + 1 := IntWalk.i64_in _ (by omega)
          have hleast := HIC.out.least i
          obtain ⟨b7, o7, e7, hq7, _, _, hb7, hc70⟩ := (HBX.out wr HXI.out).2.1.intsAt hil
          obtain ⟨b8, o8, e8, hq8, _, _, hb8, hc80⟩ := (HBX.out wr HXI.out).2.1.intsAt hjl
          obtain ⟨b9, o9, e9, hq9, _, _, hb9, hc90⟩ := (HBX.out wr HXI.out).2.1.intsAt (show 0 < CY.length by omega)
          subst e7
          simp only [Option.some.injEq, Addr.mk.injEq, and_true] at e8 e9
          obtain ⟨rfl, rfl⟩ := e8
          obtain ⟨rfl, rfl⟩ := e9
          obtain ⟨ci, hci⟩ : ∃ ci, ci = CY.getD i 0 := ⟨_, rfl⟩
          obtain ⟨cj, hcj⟩ : ∃ cj, cj = CY.getD j 0 := ⟨_, rfl⟩
          obtain ⟨cz, hcz⟩ : ∃ cz, cz = CY.getD 0 0 := ⟨_, rfl⟩
          rw [← hci] at hring hc70 hleast
          rw [← hcj] at hring hc80
          rw [← hcz] at hc90 hleast
          rw [Nat.add_zero] at hc90
          have HRING := Lib.hid hring
          have HK : Hid (∀ W, Ext wr W → W.cell? ⟨b7, o7 + i, none⟩ = some (.int .i64 ci) ∧ W.cell? ⟨b7, o7 + j, none⟩ = some (.int .i64 cj)) := Lib.hid fun W hW => ⟨(hW.cell (p := ⟨b7, o7 + i, none⟩) hb7).trans hc70, (hW.cell (p := ⟨b7, o7 + j, none⟩) hb7).trans hc80⟩
          have HK0 : Hid (∀ W, Ext wr W → W.cell? ⟨b7, o7, none⟩ = some (.int .i64 cz)) := Lib.hid fun W hW => (hW.cell (p := ⟨b7, o7, none⟩) hb7).trans hc90
          have hii : (i : Int) < (CY.length : Int) := by omega
          have hji : (j : Int) < (CY.length : Int) := by omega
          have hne0 : (CY.length : Int) ≠ 0 := by omega
          have hne1 : ¬ CY = [] := by intro e; rw [e] at h2; simp at h2
          have hne2 : ¬ CY.length = 0 := by omega
          have HLST := Lib.hid hleast
          clear hring hj hq7 hq8 hq9 hci hcj hcz hleast hc70 hc80 hc90
          go_wp2
          go_region_held3 (fun W => W.cell? ⟨b7, o7 + i, none⟩ = some (.int .i64 ci) ∧ W.cell? ⟨b7, o7 + j, none⟩ = some (.int .i64 cj)) (exact HK.out _ (by repeat (first | exact Ext.refl _ | assumption | refine Ext.alloc ?_ _ | refine Ext.drew ?_ | refine Ext.drewN ?_ _ | refine below_set ?_ (by simp) _))) (fail)
          all_goals
            clear hsum hrem htm hne0 hne1 hne2
            have X80' : Ext w8 ((wr.alloc (.cells #[.int .i64 ci, .int .i64 cj] 38)).drew) := (HXI.out.alloc _).drew
            have KB' : ∀ W, Ext ((wr.alloc (.cells #[.int .i64 ci, .int .i64 cj] 38)).drew) W → (W.cell? ⟨wr.heap.size, 0, none⟩ = some (.int .i64 ci) ∧ W.cell? ⟨wr.heap.size, 1, none⟩ = some (.int .i64 cj)) ∧ W.cell? ⟨b7, o7 + i, none⟩ = some (.int .i64 ci) ∧ W.cell? ⟨b7, o7, none⟩ = some (.int .i64 cz) := fun W hW => by
              have hx : Ext (wr.alloc (.cells #[.int .i64 ci, .int .i64 cj] 38)) W := ((Ext.refl _).drew).trans hW
              exact ⟨⟨cell_at W hx rfl, cell_at W hx rfl⟩, (HK.out W (((Ext.refl wr).alloc _).trans hx)).1, HK0.out W (((Ext.refl wr).alloc _).trans hx)⟩
            generalize hW0 : (wr.alloc (.cells #[.int .i64 ci, .int .i64 cj] 38)).drew = W0 at *
            generalize hbx : wr.heap.size = bx at *
            have X80 := Lib.hid X80'
            have KB := Lib.hid KB'
            clear X80' KB' hW0 hbx HK HK0
            go_wp2
            go_loopw [13, 14] (fun s13 s14 wr => ∃ (k : Nat) (s : Bool), k ≤ E.length ∧ s13 = .bool s ∧ s14 = .int .i64 k ∧ Hid (((E.take k).any fun y => decide (y = ⟨ci, cj⟩)) = s) ∧ Hid (Ext W0 wr)) (fun _ s14 _ => E.length - (intOf s14).toNat)
            case atStart => exact ⟨0, false, Nat.zero_le _, rfl, rfl, Lib.hid rfl, Lib.hid (Ext.refl _)⟩
            case round =>
              obtain ⟨k, s, hk, rfl, rfl, HA, HXK⟩ := hrel
              by_cases hkl : k < E.length
              · obtain ⟨b, off, hao, hq1, hnc, hc63, hbl, hya0, hyb0⟩ := Sg.out.arcsAt hkl
                subst hao
                obtain ⟨⟨ya, yb⟩, hy⟩ : ∃ y, y = E.getD k ⟨0, 0⟩ := ⟨_, rfl⟩
                rw [← hy] at hya0 hyb0
                have HNX : Hid (((E.take (k + 1)).any fun y => decide (y = ⟨ci, cj⟩)) = (s || decide ((⟨ya, yb⟩ : Arc) = ⟨ci, cj⟩))) := Lib.hid (by rw [any_next _ hkl ⟨0, 0⟩, ← hy, HA.out])
                have HKK : Hid (∀ W, Ext wr W → (W.cell? ⟨b, off + k * 2, none⟩ = some (.int .i64 ya) ∧ W.cell? ⟨b, off + k * 2 + 1, none⟩ = some (.int .i64 yb)) ∧ W.cell? ⟨bx, 0, none⟩ = some (.int .i64 ci) ∧ W.cell? ⟨bx, 1, none⟩ = some (.int .i64 cj)) := Lib.hid fun W hW => by
                  have X := (HBX.out W (X80.out.trans (HXK.out.trans hW))).2.2
                  exact ⟨⟨(X.cell (p := ⟨b, off + k * 2, none⟩) hbl).trans hya0, (X.cell (p := ⟨b, off + k * 2 + 1, none⟩) hbl).trans hyb0⟩, (KB.out W (HXK.out.trans hW)).1⟩
                clear hq1 hy hya0 hyb0
                cases s
                · obtain ⟨t, ht⟩ : ∃ t, decide ((⟨ya, yb⟩ : Arc) = ⟨ci, cj⟩) = t := ⟨_, rfl⟩
                  have HQ := Lib.hid (eq_a ya yb ci cj t ht)
                  have HTT := Lib.hid ht
                  clear ht
                  obtain ⟨hq, hq2⟩ := HQ.out
                  cases t
                  all_goals
                    go_wp2_with fail
                    go_region_held3 (fun W => (W.cell? ⟨b, off + k * 2, none⟩ = some (.int .i64 ya) ∧ W.cell? ⟨b, off + k * 2 + 1, none⟩ = some (.int .i64 yb)) ∧ W.cell? ⟨bx, 0, none⟩ = some (.int .i64 ci) ∧ W.cell? ⟨bx, 1, none⟩ = some (.int .i64 cj)) (exact HKK.out _ (by repeat (first | exact Ext.refl _ | assumption | refine Ext.alloc ?_ _ | refine Ext.drew ?_ | refine Ext.drewN ?_ _))) (fail)
                    go_wp2
                    go_roundw
                    case rel => exact ⟨k + 1, _, by omega, rfl, by go_num, Lib.hid (by rw [HNX.out, HTT.out]; rfl), Lib.hid (by first | exact HXK.out.drew | exact HXK.out.drewN _ | exact HXK.out)⟩
                    case measure => simp [intOf]; omega
                · go_wp2
                  go_quiet (fail)
                  go_wp2
                  go_roundw
                  case rel => exact ⟨k + 1, true, by omega, rfl, by go_num, Lib.hid (by rw [HNX.out]; rfl), Lib.hid (by first | exact HXK.out.drewN _ | exact HXK.out.drew | exact HXK.out)⟩
                  case measure => simp [intOf]; omega
              · have hke : k = E.length := by omega
                have hst : s = true := by
                  have := HA.out
                  rw [hke, List.take_length] at this
                  rw [← this]
                  exact List.any_eq_true.2 ⟨_, HRING.out, by simp⟩
                subst hst
                obtain ⟨⟨_, _⟩, k7, k0⟩ := KB.out wr HXK.out
                have XF := Lib.hid (X80.out.trans HXK.out)
                clear hke HA
                by_cases hi0 : i = 0
                · have hni : ¬ (0 : Int) < (i : Int) := by omega
                  have hni2 : ¬ 0 < i := by omega
                  have hni3 : decide (0 < i) = false := decide_eq_false hni2
                  have hni4 : decide ((0 : Int) < (i : Int)) = false := decide_eq_false hni
                  have HI0 := Lib.hid hi0
                  clear hi0 k7
                  go_wp2
                  go_quiet (fail)
                  go_wp2
                  go_roundw
                  case rel => exact ⟨i + 1, by omega, by go_num, Lib.hid (by first | exact XF.out.drewN _ | exact XF.out.drew | exact XF.out)⟩
                  case measure => simp [intOf]; omega
                · have hci := HLST.out (by omega) hil
                  have hnle : ¬ ci ≤ cz := by omega
                  have hnle2 : decide (ci ≤ cz) = false := decide_eq_false hnle
                  have hpi : 0 < i := by omega
                  have hpii : (0 : Int) < (i : Int) := by omega
                  have hpl : 0 < CY.length := by omega
                  have hpli : (0 : Int) < (CY.length : Int) := by omega
                  clear hi0
                  go_wp2
                  go_quiet (fail)
                  go_wp2
                  go_roundw
                  case rel => exact ⟨i + 1, by omega, by go_num, Lib.hid (by first | exact XF.out.drewN _ | exact XF.out.drew | exact XF.out)⟩
                  case measure => simp [intOf]; omega
        · have hgt : (1 : Int) < (CY.length : Int) := by omega
          obtain ⟨bx, sx, xx⟩ := HBX.out wr HXI.out
          have SX := Lib.hid sx
          have HKB : Hid (∀ W, Ext wr W → W.cell? ⟨w5.heap.size, 0, none⟩ = some (.slice ao5 0 c5)) := Lib.hid fun W hW => (HBX.out W (HXI.out.trans hW)).1
          have XX := Lib.hid xx
          obtain ⟨U, hU⟩ : ∃ U, U = norm CY := ⟨_, rfl⟩
          rw [← hU] at HNL
          have HU := Lib.hid hU
          have q3 : ((CY.length : Int) == (CY.length : Int)) = true := by simp
          clear sx xx hU
          go_wp2_with (go_at_call 29; refine (setOf_any _ _ CY SX.out (by omega)).mono ?_; rintro e w40 ⟨v40, rfl, s40, x40⟩; rw [← HU.out] at s40; obtain ⟨ao40, c40, rfl⟩ := s40.sl.len; rw [HNL.out]; have k40 := HKB.out w40 x40; clear s40)
          go_ret
          exact ⟨rfl, XX.out.trans x40⟩
    · have hcf : cycB (n : Int) E = false := hcy
      have hCYe : CY = [] := by rw [← hCY]; unfold cycL; rw [if_neg (by rw [hcf]; simp)]
      obtain ⟨_, hpi⟩ := ord_pi hb
      have hXe : X = (peeled (n : Int) E).1 := by rw [← hX]; unfold ordL; rw [if_pos hb]
      rw [← hXe] at hpi
      have hXl : X.length = n := by have := hpi.len; simpa using this
      have hXn : X.Nodup := by have := hpi.nodup; simpa using this
      have HNX : Hid (norm X = upto n) := Lib.hid (norm_eq (upto_rise n) fun x => by rw [mem_upto]; have := hpi.mem (x := x); simpa using this.symm)
      have HPL : Hid (∀ x ∈ E, ∃ p q : Nat, placeIn X x.a = (p : Int) ∧ placeIn X x.b = (q : Int) ∧ p < q) := Lib.hid fun x hx => by
        have hr := HO.out.each x hx
        have ha := (hpi.mem (x := x.a)).2 ⟨hr.1, by have := hr.2.1; omega⟩ |>.resolve_right (by simp)
        have hbm := (hpi.mem (x := x.b)).2 ⟨hr.2.2.1, by have := hr.2.2.2.1; omega⟩ |>.resolve_right (by simp)
        exact ⟨_, _, (place_some ha).1, (place_some hbm).1, order_idx HO.out hpi x hx⟩
      have HXL := Lib.hid hXl
      have hX64 : X.length ≤ 64 := by omega
      subst hCYe
      clear hcy hrd hb hX hCY ok hcf hpi hXe hXl hXn
      go_enter Try.func6, Try.ntmps6
      go_wp2_with (first
        | (go_at_call 13; have hgd := S5; refine (own_any _ _ E (Sg.out.ext (by repeat (first | exact Ext.refl _ | assumption | exact Hid.out (by assumption) | refine Ext.alloc ?_ _ | refine Ext.drew ?_ | refine Ext.drewN ?_ _ | refine Ext.trans ?_ (by assumption)))) (by omega)).mono ?_; rintro e w6 ⟨v6, rfl, s6, x6⟩; obtain ⟨ao6, n6, c6, rfl⟩ := s6.sh; have S6 := Lib.hid s6.sl; clear s6; clear hgd)
        | (go_at_call 13; have hgd := x3; refine (own_any _ _ E (Sg.out.ext (by repeat (first | exact Ext.refl _ | assumption | exact Hid.out (by assumption) | refine Ext.alloc ?_ _ | refine Ext.drew ?_ | refine Ext.drewN ?_ _ | refine Ext.trans ?_ (by assumption)))) (by omega)).mono ?_; rintro e w4 ⟨v4, rfl, s4, x4⟩; obtain ⟨ao4, n4, c4, rfl⟩ := s4.sh; have S4 := Lib.hid s4.sl; clear s4; clear hgd)
        | (go_at_call 13; refine (own_any _ _ E (Sg.out.ext (by repeat (first | exact Ext.refl _ | assumption | exact Hid.out (by assumption) | refine Ext.alloc ?_ _ | refine Ext.drew ?_ | refine Ext.drewN ?_ _ | refine Ext.trans ?_ (by assumption)))) (by omega)).mono ?_; rintro e w2 ⟨v2, rfl, s2, x2⟩; obtain ⟨ao2, n2, c2, rfl⟩ := s2.sh; have S2 := Lib.hid s2.sl; clear s2)
        | (go_at_call 12; refine (order_any _ _ _ E (S4.out.ext (by repeat (first | exact Ext.refl _ | assumption | exact Hid.out (by assumption) | refine Ext.alloc ?_ _ | refine Ext.drew ?_ | refine Ext.drewN ?_ _ | refine Ext.trans ?_ (by assumption)))) X true HX.out HB.out).mono ?_; rintro e w5 ⟨v5, rfl, s5, x5⟩; obtain ⟨ao5, c5, rfl⟩ := s5.sl.len; have S5 := Lib.hid s5.sl; clear s5)
        | (go_at_call 20; refine (cycle_any _ _ _ E (S6.out.ext (by repeat (first | exact Ext.refl _ | assumption | exact Hid.out (by assumption) | refine Ext.alloc ?_ _ | refine Ext.drew ?_ | refine Ext.drewN ?_ _ | refine Ext.trans ?_ (by assumption)))) [] false HCX.out HCB.out).mono ?_; rintro e w7 ⟨v7, rfl, s7, x7⟩; obtain ⟨ao7, c7, rfl⟩ := s7.sl.len; have S7 := Lib.hid s7.sl; clear s7)
        | (go_at_call 27; refine (refRound_val _ n _ E (Sg.out.ext (by repeat (first | exact Ext.refl _ | assumption | exact Hid.out (by assumption) | refine Ext.alloc ?_ _ | refine Ext.drew ?_ | refine Ext.drewN ?_ _ | refine Ext.trans ?_ (by assumption)))) HO.out false HRD.out).mono ?_; rintro e w8 ⟨rfl, x8⟩)
        | (go_at_call 18; refine (check_any _ _ _ E (S2.out.ext (by repeat (first | exact Ext.refl _ | assumption | exact Hid.out (by assumption) | refine Ext.alloc ?_ _ | refine Ext.drew ?_ | refine Ext.drewN ?_ _ | refine Ext.trans ?_ (by assumption)))) 0 HC.out).mono ?_; rintro e w3 ⟨rfl, x3⟩)
        | (go_at_call 10; refine (awake_any _).mono ?_; rintro e w1 ⟨rfl, x1⟩)
        | (go_at_call 11; refine (few_val _ _ ao E.length c n1 true HF.out).mono ?_; rintro e w9 ⟨rfl, rfl⟩))
      have X5 : Hid (Ext w w5) := Lib.hid (Ext.trans x1 (Ext.trans x2 (Ext.trans x3 (Ext.trans x4 x5))))
      have X8 : Hid (Ext (w5.alloc (.cells #[.slice ao5 X.length c5] 25)) w8) := Lib.hid (Ext.trans x6 (Ext.trans x7 x8))
      have HBX : Hid (∀ W, Ext w8 W → W.cell? ⟨w5.heap.size, 0, none⟩ = some (.slice ao5 X.length c5) ∧ Sl W (.slice ao5 X.length c5) X ∧ Ext w W) := Lib.hid fun W hW =>
        ⟨cell_at W (X8.out.trans hW) rfl, S5.out.ext (((Ext.refl w5).alloc _).trans (X8.out.trans hW)), X5.out.trans (((Ext.refl w5).alloc _).trans (X8.out.trans hW))⟩
      clear x1 x2 x3 x4 x5 x6 x7 x8
      go_loopw [10] (fun s10 wr => ∃ i : Nat, i ≤ E.length ∧ s10 = .int .i64 i ∧ Hid (Ext w8 wr)) (fun s10 _ => E.length - (intOf s10).toNat)
      case atStart => exact ⟨0, Nat.zero_le _, rfl, Lib.hid (Ext.refl _)⟩
      case round =>
        obtain ⟨i, hi, rfl, HXI⟩ := hrel
        by_cases hil : i < E.length
        · obtain ⟨b, off, hao, hq1, hnc, hc63, hbl, hya0, hyb0⟩ := Sg.out.arcsAt hil
          subst hao
          obtain ⟨⟨ya, yb⟩, hy⟩ : ∃ y, y = E.getD i ⟨0, 0⟩ := ⟨_, rfl⟩
          rw [← hy] at hya0 hyb0
          obtain ⟨p, q, hp, hq, hpq⟩ := HPL.out ⟨ya, yb⟩ (by rw [hy, getD_at hil]; exact List.getElem_mem hil)
          have HP := Lib.hid hp
          have HQ := Lib.hid hq
          have HK : Hid (∀ W, Ext wr W → W.cell? ⟨b, off + i * 2, none⟩ = some (.int .i64 ya) ∧ W.cell? ⟨b, off + i * 2 + 1, none⟩ = some (.int .i64 yb)) := Lib.hid fun W hW => by
            have X := (HBX.out W (HXI.out.trans hW)).2.2
            exact ⟨(X.cell (p := ⟨b, off + i * 2, none⟩) hbl).trans hya0, (X.cell (p := ⟨b, off + i * 2 + 1, none⟩) hbl).trans hyb0⟩
          have k0 := HK.out wr (Ext.refl _)
          obtain ⟨ka, kb⟩ := k0
          have hnl : ¬ q ≤ p := by omega
          have hnl2 : ¬ (q : Int) ≤ (p : Int) := by omega
          have hnl3 : decide ((q : Int) ≤ (p : Int)) = false := decide_eq_false hnl2
          clear hy hp hq hya0 hyb0 hq1
          go_wp2
          go_quiet ((go_at_call 28; exact Calls.quiet_of_same (place_two _ _ _ ya yb _ p q _ _ X (by first | exact .inl ⟨rfl, rfl⟩ | exact .inr ⟨rfl, rfl⟩) HP.out HQ.out (HBX.out _ (HXI.out.drewN _)).1 (HBX.out _ (HXI.out.drewN _)).2.1)))
          go_wp2
          go_roundw
          case rel => exact ⟨i + 1, by omega, by go_num, Lib.hid (by first | exact HXI.out.drewN _ | exact HXI.out.drew | exact HXI.out)⟩
          case measure => simp [intOf]; omega
        · have hie : i = E.length := by omega
          obtain ⟨bx, sx, _⟩ := HBX.out wr HXI.out
          have SX := Lib.hid sx
          have HKB : Hid (∀ W, Ext wr W → W.cell? ⟨w5.heap.size, 0, none⟩ = some (.slice ao5 X.length c5)) := Lib.hid fun W hW => (HBX.out W (HXI.out.trans hW)).1
          obtain ⟨U, hU⟩ : ∃ U, U = upto n := ⟨_, rfl⟩
          have hUl : U.length = n := by rw [hU, upto_length]
          rw [← hU] at HNX
          have HUL := Lib.hid hUl
          have q1 : ((X.length : Int) == (n : Int)) = true := by rw [HXL.out]; simp
          have q2 : ((n : Int) == (n : Int)) = true := by simp
          clear hie sx hU hUl
          go_wp2_with fail
          go_region_held3 (fun W => W.cell? ⟨w5.heap.size, 0, none⟩ = some (.slice ao5 X.length c5)) (exact HKB.out _ (by repeat (first | exact Ext.refl _ | assumption | exact Hid.out (by assumption) | refine Ext.alloc ?_ _ | refine Ext.drew ?_ | refine Ext.drewN ?_ _ | refine Ext.trans ?_ (by assumption))))
            (first
            | (go_at_call 29; have hgd := SA; refine (setOf_any _ _ X (SX.out.ext (by repeat (first | exact Ext.refl _ | assumption | exact Hid.out (by assumption) | refine Ext.alloc ?_ _ | refine Ext.drew ?_ | refine Ext.drewN ?_ _ | refine Ext.trans ?_ (by assumption)))) (by omega)).mono ?_; rintro e w31 ⟨v31, rfl, s31, x31⟩; rw [HNX.out] at s31; obtain ⟨ao31, c31, rfl⟩ := s31.sl.len; rw [HUL.out]; have SB : Hid (Sl w31 (.slice ao31 n c31) U) := Lib.hid (by have := s31.sl; rwa [HUL.out] at this); clear s31 hgd)
            | (go_at_call 29; refine (setOf_any _ _ X (SX.out.ext (by repeat (first | exact Ext.refl _ | assumption | exact Hid.out (by assumption) | refine Ext.alloc ?_ _ | refine Ext.drew ?_ | refine Ext.drewN ?_ _ | refine Ext.trans ?_ (by assumption)))) (by omega)).mono ?_; rintro e w30 ⟨v30, rfl, s30, x30⟩; rw [HNX.out] at s30; obtain ⟨ao30, c30, rfl⟩ := s30.sl.len; rw [HUL.out]; have SA : Hid (Sl w30 (.slice ao30 n c30) U) := Lib.hid (by have := s30.sl; rwa [HUL.out] at this); clear s30)
            | (go_at_call 30; refine (refOf_any _ _ X (SX.out.ext (by repeat (first | exact Ext.refl _ | assumption | exact Hid.out (by assumption) | refine Ext.alloc ?_ _ | refine Ext.drew ?_ | refine Ext.drewN ?_ _ | refine Ext.trans ?_ (by assumption)))) (by omega)).mono ?_; rintro e w32 ⟨v32, rfl, s32, x32⟩; rw [HNX.out] at s32; obtain ⟨ao32, c32, rfl⟩ := s32.sl.len; rw [HUL.out]; have SC : Hid (Sl w32 (.slice ao32 n c32) U) := Lib.hid (by have := s32.sl; rwa [HUL.out] at this); clear s32)
            | (go_at_call 17; refine (refSame_val true _ _ _ U U (by first | exact SA.out.ext (by repeat (first | exact Ext.refl _ | assumption | exact Hid.out (by assumption) | refine Ext.alloc ?_ _ | refine Ext.drew ?_ | refine Ext.drewN ?_ _ | refine Ext.trans ?_ (by assumption))) | exact SB.out.ext (by repeat (first | exact Ext.refl _ | assumption | exact Hid.out (by assumption) | refine Ext.alloc ?_ _ | refine Ext.drew ?_ | refine Ext.drewN ?_ _ | refine Ext.trans ?_ (by assumption)))) (SC.out.ext (by repeat (first | exact Ext.refl _ | assumption | exact Hid.out (by assumption) | refine Ext.alloc ?_ _ | refine Ext.drew ?_ | refine Ext.drewN ?_ _ | refine Ext.trans ?_ (by assumption)))) (by simp)).mono ?_; rintro e w33 ⟨rfl, d33⟩; have x33 := Ext.of_drew d33; clear d33))
          all_goals go_wp2
          all_goals go_ret
          all_goals exact ⟨rfl, (HBX.out _ (HXI.out.trans (by repeat (first | exact Ext.refl _ | assumption | exact Hid.out (by assumption) | refine Ext.alloc ?_ _ | refine Ext.drew ?_ | refine Ext.drewN ?_ _ | refine Ext.trans ?_ (by assumption))))).2.2⟩
  · have HC := Lib.hid (chkD_not ok)
    clear ok
    go_enter Try.func6, Try.ntmps6
    go_wp2_with (first
      | (go_at_call 10; have hgd := x3; refine (awake_any _).mono ?_; rintro e w4 ⟨rfl, x4⟩; clear hgd)
      | (go_at_call 10; refine (awake_any _).mono ?_; rintro e w1 ⟨rfl, x1⟩)
      | (go_at_call 11; refine (few_val _ _ ao E.length c n1 true HF.out).mono ?_; rintro e w9 ⟨rfl, rfl⟩)
      | (go_at_call 13; refine (own_any _ _ E (Sg.out.ext (by repeat (first | exact Ext.refl _ | assumption | exact Hid.out (by assumption) | refine Ext.alloc ?_ _ | refine Ext.drew ?_ | refine Ext.drewN ?_ _ | refine Ext.trans ?_ (by assumption)))) (by omega)).mono ?_; rintro e w2 ⟨v2, rfl, s2, x2⟩; obtain ⟨ao2, n2, c2, rfl⟩ := s2.sh; have S2 := Lib.hid s2.sl; clear s2)
      | (go_at_call 18; refine (check_any _ _ _ E (S2.out.ext (by repeat (first | exact Ext.refl _ | assumption | exact Hid.out (by assumption) | refine Ext.alloc ?_ _ | refine Ext.drew ?_ | refine Ext.drewN ?_ _ | refine Ext.trans ?_ (by assumption)))) 40 HC.out).mono ?_; rintro e w3 ⟨rfl, x3⟩))
    go_ret
    exact ⟨rfl, (by repeat (first | exact Ext.refl _ | assumption | exact Hid.out (by assumption) | refine Ext.alloc ?_ _ | refine Ext.drew ?_ | refine Ext.drewN ?_ _ | refine Ext.trans ?_ (by assumption)))⟩

end Go.Proofs.Ythofgfdhcndpbaa
