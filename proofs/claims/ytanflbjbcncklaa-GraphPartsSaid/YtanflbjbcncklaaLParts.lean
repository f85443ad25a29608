/- Both ends of an edge are in one part; with an edge more two parts are one. -/
import Derived.Test.YtanflbjbcncklaaLMath
namespace Go.Proofs.Ytanflbjbcncklaa
open Go.RowKit

set_option maxRecDepth 100000 in
theorem graphParts_long (w : World) (N : Int) (ao : Option Addr) (c : Nat) (E : List Edge) (a b : Int) (h : Sl w (.slice ao E.length c) E) (hl : 60 < E.length) :
    Calls Try.prog 6 #[.agg #[.int .i64 N, .slice ao E.length c], .int .i64 a, .int .i64 b] w (GivesB w (.bool true)) := by
  have n1 := h.length_le
  have HGg := Lib.hid (graph_at w N (.slice ao E.length c))
  have hli : (60 : Int) < (E.length : Int) := by omega
  clear h
  go_enter Try.func6, Try.ntmps6
  go_wp2_with (first
    | (go_at_call 8; have hgd := x1; refine (awake_any _).mono ?_; rintro e w2 ⟨rfl, x2⟩; clear hgd)
    | (go_at_call 8; refine (awake_any _).mono ?_; rintro e w1 ⟨rfl, x1⟩; obtain ⟨cg0_1, cg1_1⟩ := HGg.out w1 (by repeat (first | exact Ext.refl _ | assumption | exact Hid.out (by assumption) | refine Ext.alloc ?_ _ | refine Ext.drew ?_ | refine Ext.drewN ?_ _ | refine Ext.trans ?_ (by assumption)))))
  go_ret
  exact ⟨rfl, (by repeat (first | exact Ext.refl _ | assumption | exact Hid.out (by assumption) | refine Ext.alloc ?_ _ | refine Ext.drew ?_ | refine Ext.drewN ?_ _ | refine Ext.trans ?_ (by assumption)))⟩

set_option maxHeartbeats 8000000 in
set_option maxRecDepth 100000 in
theorem graphParts_short (w : World) (N : Int) (ao : Option Addr) (c : Nat) (E : List Edge) (a b : Int) (h : Sl w (.slice ao E.length c) E) (hl : E.length ≤ 60) :
    Calls Try.prog 6 #[.agg #[.int .i64 N, .slice ao E.length c], .int .i64 a, .int .i64 b] w (GivesB w (.bool true)) := by
  have HGg := Lib.hid (graph_at w N (.slice ao E.length c))
  have hli : ¬ (60 : Int) < (E.length : Int) := by omega
  have Sg := Lib.hid h
  clear h
  by_cases ok : OkG N E
  · have HC := Lib.hid (chk_of ok)
    have OK := Lib.hid ok
    have hn64 := ok.n64
    obtain ⟨N1, F, h1⟩ := addSays N E a b
    obtain ⟨r1, hr1⟩ : ∃ r1, r1 = addR N E a b := ⟨_, rfl⟩
    rw [← hr1] at h1
    have HA := Lib.hid h1
    have HR := Lib.hid hr1
    clear ok h1 hr1
    go_enter Try.func6, Try.ntmps6
    go_wp2_with (first
      | (go_at_call 8; refine (awake_any _).mono ?_; rintro e w1 ⟨rfl, x1⟩; obtain ⟨cg0_1, cg1_1⟩ := HGg.out w1 (by repeat (first | exact Ext.refl _ | assumption | exact Hid.out (by assumption) | refine Ext.alloc ?_ _ | refine Ext.drew ?_ | refine Ext.drewN ?_ _ | refine Ext.trans ?_ (by assumption))))
      | (go_at_call 10; have hgd := x3; refine (own_any _ N _ E (Sg.out.ext (by repeat (first | exact Ext.refl _ | assumption | exact Hid.out (by assumption) | refine Ext.alloc ?_ _ | refine Ext.drew ?_ | refine Ext.drewN ?_ _ | refine Ext.trans ?_ (by assumption)))) (by omega)).mono ?_; rintro e w4 ⟨v4, rfl, s4, x4⟩; obtain ⟨ao4, n4, c4, rfl⟩ := s4.sh; have S4 := Lib.hid s4; clear s4; obtain ⟨cg0_4, cg1_4⟩ := HGg.out w4 (by repeat (first | exact Ext.refl _ | assumption | exact Hid.out (by assumption) | refine Ext.alloc ?_ _ | refine Ext.drew ?_ | refine Ext.drewN ?_ _ | refine Ext.trans ?_ (by assumption))); clear hgd)
      | (go_at_call 10; refine (own_any _ N _ E (Sg.out.ext (by repeat (first | exact Ext.refl _ | assumption | exact Hid.out (by assumption) | refine Ext.alloc ?_ _ | refine Ext.drew ?_ | refine Ext.drewN ?_ _ | refine Ext.trans ?_ (by assumption)))) (by omega)).mono ?_; rintro e w2 ⟨v2, rfl, s2, x2⟩; obtain ⟨ao2, n2, c2, rfl⟩ := s2.sh; have S2 := Lib.hid s2; clear s2; obtain ⟨cg0_2, cg1_2⟩ := HGg.out w2 (by repeat (first | exact Ext.refl _ | assumption | exact Hid.out (by assumption) | refine Ext.alloc ?_ _ | refine Ext.drew ?_ | refine Ext.drewN ?_ _ | refine Ext.trans ?_ (by assumption))))
      | (go_at_call 15; refine (check_any _ N _ E (S2.out.ext (by repeat (first | exact Ext.refl _ | assumption | exact Hid.out (by assumption) | refine Ext.alloc ?_ _ | refine Ext.drew ?_ | refine Ext.drewN ?_ _ | refine Ext.trans ?_ (by assumption)))) _ HC.out).mono ?_; rintro e w3 ⟨rfl, x3⟩; obtain ⟨cg0_3, cg1_3⟩ := HGg.out w3 (by repeat (first | exact Ext.refl _ | assumption | exact Hid.out (by assumption) | refine Ext.alloc ?_ _ | refine Ext.drew ?_ | refine Ext.drewN ?_ _ | refine Ext.trans ?_ (by assumption))))
      | (go_at_call 20; refine (parts_any _ N _ E (S4.out.ext (by repeat (first | exact Ext.refl _ | assumption | exact Hid.out (by assumption) | refine Ext.alloc ?_ _ | refine Ext.drew ?_ | refine Ext.drewN ?_ _ | refine Ext.trans ?_ (by assumption)))) OK.out).mono ?_; rintro e w5 ⟨v5, p, rfl, o5, x5, ip⟩; have hpN := ip.1; obtain ⟨ao5, c5, rfl⟩ := o5.sl.len; have S5 := Lib.hid o5.sl; have IP := Lib.hid ip; have hne : ((p.length : Int) != N) = false := (by simp; omega); clear o5 ip; obtain ⟨cg0_5, cg1_5⟩ := HGg.out w5 (by repeat (first | exact Ext.refl _ | assumption | exact Hid.out (by assumption) | refine Ext.alloc ?_ _ | refine Ext.drew ?_ | refine Ext.drewN ?_ _ | refine Ext.trans ?_ (by assumption)))))
    have hpl : p.length ≤ 64 := by omega
    have HX5 : Hid (Ext (w.alloc (.cells #[.int .i64 N, .slice ao E.length c] 24)) w5) := Lib.hid (by repeat (first | exact Ext.refl _ | assumption | exact Hid.out (by assumption) | refine Ext.alloc ?_ _ | refine Ext.drew ?_ | refine Ext.drewN ?_ _ | refine Ext.trans ?_ (by assumption)))
    clear x1 x2 x3 x4 x5
    go_loopw [8] (fun i wr => ∃ k : Nat, k ≤ p.length ∧ i = .int .i64 k ∧ Hid (Drew w5 wr)) (fun i _ => p.length - (intOf i).toNat)
    case atStart => exact ⟨0, Nat.zero_le _, rfl, Lib.hid (Drew.refl _)⟩
    case round =>
      obtain ⟨k, hk, rfl, HD⟩ := hrel
      by_cases hlt : k < p.length
      · have lo := parts_low IP.out hlt
        have ag := parts_again IP.out hlt
        have hmp : (p.getD k 0).toNat < p.length := by omega
        obtain ⟨b5, off5, hao, _, hnc, hc63, hb5, hz⟩ := S5.out.intsAt hlt
        subst hao
        obtain ⟨b6, off6, hao6, _, _, _, _, hz2⟩ := S5.out.intsAt hmp
        simp only [Option.some.injEq, Addr.mk.injEq, and_true] at hao6
        obtain ⟨rfl, rfl⟩ := hao6
        rw [ag] at hz2
        generalize p.getD k 0 = pi at *
        have d1 := (HD.out.cell ⟨b5, off5 + k, none⟩).trans hz
        have d2 := (HD.out.cell ⟨b5, off5 + pi.toNat, none⟩).trans hz2
        have e1 : decide (pi < 0) = false := by simp; omega
        have hm0 : (0 : Int) ≤ pi := lo.1
        have hmpI : pi < (p.length : Int) := by omega
        have e2 : decide ((k : Int) < pi) = false := by simp; omega
        have e3 : (pi != pi) = false := by simp
        clear lo ag hz hz2
        go_wp2_with fail
        go_quiet (fail)
        go_wp2
        go_roundw
        case rel => exact ⟨k + 1, by omega, by go_num, Lib.hid (HD.out.more _)⟩
        case measure => simp [intOf]; omega
      · go_wp2_with fail
        clear hlt hk
        go_loopw [9] (fun i wr => ∃ k : Nat, k ≤ E.length ∧ i = .int .i64 k ∧ Hid (Drew w5 wr)) (fun i _ => E.length - (intOf i).toNat)
        case atStart => exact ⟨0, Nat.zero_le _, rfl, HD⟩
        case round =>
          clear HD
          obtain ⟨k, hk, rfl, HD⟩ := hrel
          have XR : Ext (w.alloc (.cells #[.int .i64 N, .slice ao E.length c] 24)) wr := HX5.out.trans (Ext.of_drew HD.out)
          obtain ⟨g0, g1⟩ := HGg.out wr XR
          by_cases hlt : k < E.length
          · obtain ⟨bE, offE, hao, _, hncE, hc63E, hbE, hya0, hyb0⟩ := Sg.out.edgesAt hlt
            subst hao
            obtain ⟨⟨ya, yb⟩, hy⟩ : ∃ y, y = E.getD k ⟨0, 0⟩ := ⟨_, rfl⟩
            have hmem : (⟨ya, yb⟩ : Edge) ∈ E := hy ▸ getD_mem hlt _
            rw [← hy] at hya0 hyb0
            have rg := OK.out.each _ hmem
            have eq0 := parts_edge IP.out OK.out hmem
            obtain ⟨ma, hma⟩ := Int.eq_ofNat_of_zero_le rg.1
            obtain ⟨mb, hmb⟩ := Int.eq_ofNat_of_zero_le (show 0 ≤ yb by have := rg.1; have := rg.2.1; simp only at *; omega)
            simp only at hma hmb eq0 rg
            rw [hma, hmb, show (((ma : Nat) : Int).toNat) = ma from by omega, show (((mb : Nat) : Int).toNat) = mb from by omega] at eq0
            have hmap : ma < p.length := by omega
            have hmbp : mb < p.length := by omega
            obtain ⟨z, hz⟩ : ∃ z, z = p.getD ma 0 := ⟨_, rfl⟩
            obtain ⟨b5, off5, hao, _, hnc, hc63, hb5, hz1⟩ := S5.out.intsAt hmap
            subst hao
            obtain ⟨b6, off6, hao6, _, _, _, _, hz2⟩ := S5.out.intsAt hmbp
            simp only [Option.some.injEq, Addr.mk.injEq, and_true] at hao6
            obtain ⟨rfl, rfl⟩ := hao6
            rw [← hz] at hz1 eq0
            rw [← eq0] at hz2
            have XW := Ext.trans ((Ext.refl w).alloc _) XR
            have d1 := (HD.out.cell ⟨b5, off5 + ma, none⟩).trans hz1
            have d2 := (HD.out.cell ⟨b5, off5 + mb, none⟩).trans hz2
            have y1 := (XW.cell (p := ⟨bE, offE + k * 2, none⟩) hbE).trans hya0
            have y2 := (XW.cell (p := ⟨bE, offE + k * 2 + 1, none⟩) hbE).trans hyb0
            simp only [hma] at y1
            simp only [hmb] at y2
            have e3 : (z != z) = false := by simp
            have hmaI : (ma : Int) < (p.length : Int) := by omega
            have hmbI : (mb : Int) < (p.length : Int) := by omega
            have hma0 : (0 : Int) ≤ (ma : Int) := by omega
            have hmb0 : (0 : Int) ≤ (mb : Int) := by omega
            clear hy hmem rg eq0 hma hmb hz hz1 hz2 hya0 hyb0 XW XR
            go_wp2_with fail
            go_quiet (fail)
            go_wp2
            go_roundw
            case rel => exact ⟨k + 1, by omega, by go_num, Lib.hid (HD.out.more _)⟩
            case measure => simp [intOf]; omega
          · by_cases h0 : r1 = 0
            · obtain ⟨hN1, hF⟩ := HA.out.yes h0
              have hr1 := HR.out
              rw [h0] at hr1
              obtain ⟨_, hbe, hxm, _⟩ := add0_iff.1 hr1.symm
              have hb' := bad_iff.1 hbe
              have okF : OkG N F := hF ▸ ok_ins OK.out hbe hxm (by omega)
              have OKF := Lib.hid okF
              have HF := Lib.hid hF
              have HA0 := HA
              rw [h0, hN1] at HA0
              clear hN1 hr1 okF hbe hxm HA HR
              subst h0
              go_wp2_with (first
                | (go_at_call 10; refine (own_any _ N _ E (Sg.out.ext (by repeat (first | exact Ext.refl _ | assumption | exact Hid.out (by assumption) | refine Ext.alloc ?_ _ | refine Ext.drew ?_ | refine Ext.drewN ?_ _ | refine Ext.trans ?_ (by assumption)))) (by omega)).mono ?_; rintro e w6 ⟨v6, rfl, s6, x6⟩; obtain ⟨ao6, n6, c6, rfl⟩ := s6.sh; have S6 := Lib.hid s6; clear s6; obtain ⟨cg0_6, cg1_6⟩ := HGg.out w6 (by repeat (first | exact Ext.refl _ | assumption | exact Hid.out (by assumption) | refine Ext.alloc ?_ _ | refine Ext.drew ?_ | refine Ext.drewN ?_ _ | refine Ext.trans ?_ (by assumption))))
                | (go_at_call 9; refine (add_says _ N _ E a b N F 0 (S6.out.ext (by repeat (first | exact Ext.refl _ | assumption | exact Hid.out (by assumption) | refine Ext.alloc ?_ _ | refine Ext.drew ?_ | refine Ext.drewN ?_ _ | refine Ext.trans ?_ (by assumption)))) HA0.out).mono ?_; rintro e w7 ⟨v7, rfl, s7, x7⟩; obtain ⟨ao7, n7, c7, rfl⟩ := s7.sh; have S7 := Lib.hid s7; clear s7; have HG7 := Lib.hid (graph_at w7 N (.slice ao7 n7 c7)); obtain ⟨cg0_7, cg1_7⟩ := HGg.out (w7.alloc (.cells #[.int .i64 N, .slice ao7 n7 c7] 24)) (by repeat (first | exact Ext.refl _ | assumption | exact Hid.out (by assumption) | refine Ext.alloc ?_ _ | refine Ext.drew ?_ | refine Ext.drewN ?_ _ | refine Ext.trans ?_ (by assumption))))
                | (go_at_call 20; refine (parts_any _ N _ F (S7.out.ext (by repeat (first | exact Ext.refl _ | assumption | exact Hid.out (by assumption) | refine Ext.alloc ?_ _ | refine Ext.drew ?_ | refine Ext.drewN ?_ _ | refine Ext.trans ?_ (by assumption)))) OKF.out).mono ?_; rintro e w8 ⟨v8, q, rfl, o8, x8, iq⟩; have hqN := iq.1; obtain ⟨ao8, c8, rfl⟩ := o8.sl.len; have S8 := Lib.hid o8.sl; have IQ := Lib.hid iq; clear o8 iq; obtain ⟨cg0_8, cg1_8⟩ := HGg.out w8 (by repeat (first | exact Ext.refl _ | assumption | exact Hid.out (by assumption) | refine Ext.alloc ?_ _ | refine Ext.drew ?_ | refine Ext.drewN ?_ _ | refine Ext.trans ?_ (by assumption))); obtain ⟨c70_8, c71_8⟩ := HG7.out w8 (by repeat (first | exact Ext.refl _ | assumption | exact Hid.out (by assumption) | refine Ext.alloc ?_ _ | refine Ext.drew ?_ | refine Ext.drewN ?_ _ | refine Ext.trans ?_ (by assumption)))))
              have hql : q.length = p.length := by omega
              have S5' : Hid (Sl w8 (.slice ao5 p.length c5) p) := Lib.hid (S5.out.ext (Ext.trans (Ext.of_drew HD.out) (by repeat (first | exact Ext.refl _ | assumption | exact Hid.out (by assumption) | refine Ext.alloc ?_ _ | refine Ext.drew ?_ | refine Ext.drewN ?_ _ | refine Ext.trans ?_ (by assumption)))))
              have hla : a.toNat < p.length := by omega
              have hlb : b.toNat < p.length := by omega
              have ha0 : (0 : Int) ≤ a := hb'.2.1
              have hb0 : (0 : Int) ≤ b := hb'.2.2.1
              have haL : a < (p.length : Int) := by omega
              have hbL : b < (p.length : Int) := by omega
              have hx8 : Ext w w8 := Ext.trans ((Ext.refl w).alloc _) (XR.trans (by repeat (first | exact Ext.refl _ | assumption | exact Hid.out (by assumption) | refine Ext.alloc ?_ _ | refine Ext.drew ?_ | refine Ext.drewN ?_ _ | refine Ext.trans ?_ (by assumption))))
              have HX8 := Lib.hid hx8
              have MORE : Hid (∀ i : Nat, i < p.length → q.getD i 0 = if p.getD i 0 = p.getD a.toNat 0 ∨ p.getD i 0 = p.getD b.toNat 0 then min (p.getD a.toNat 0) (p.getD b.toNat 0) else p.getD i 0) :=
                Lib.hid fun i hi => parts_more IP.out (by rw [← HF.out]; exact IQ.out) ⟨ha0, by omega⟩ ⟨hb0, by omega⟩ hi (by omega)
              have HQL := Lib.hid hql
              clear hx8 XR x6 x7 x8 hql hqN
              go_loopw [13] (fun i wr => ∃ k : Nat, k ≤ p.length ∧ i = .int .i64 k ∧ Hid (Drew w8 wr)) (fun i _ => p.length - (intOf i).toNat)
              case atStart => exact ⟨0, Nat.zero_le _, rfl, Lib.hid (Drew.refl _)⟩
              case round =>
                clear HD
                obtain ⟨k, hk, rfl, HD⟩ := hrel
                by_cases hlt : k < p.length
                · have hlq : k < q.length := by have := HQL.out; omega
                  have mo := MORE.out k hlt
                  obtain ⟨b5, off5, hao, _, hnc, hc63, hb5, zi⟩ := S5'.out.intsAt hlt
                  subst hao
                  obtain ⟨b6, off6, hao6, _, _, _, _, za⟩ := S5'.out.intsAt hla
                  simp only [Option.some.injEq, Addr.mk.injEq, and_true] at hao6
                  obtain ⟨rfl, rfl⟩ := hao6
                  obtain ⟨b6, off6, hao6, _, _, _, _, zb⟩ := S5'.out.intsAt hlb
                  simp only [Option.some.injEq, Addr.mk.injEq, and_true] at hao6
                  obtain ⟨rfl, rfl⟩ := hao6
                  obtain ⟨b8, off8, hao8, _, hnc8, hc638, hb8, zq⟩ := S8.out.intsAt hlq
                  subst hao8
                  generalize p.getD k 0 = pi at *
                  generalize p.getD a.toNat 0 = pa at *
                  generalize p.getD b.toNat 0 = pb at *
                  generalize q.getD k 0 = qi at *
                  have d1 := (HD.out.cell ⟨b5, off5 + k, none⟩).trans zi
                  have d2 := (HD.out.cell ⟨b5, off5 + a.toNat, none⟩).trans za
                  have d3 := (HD.out.cell ⟨b5, off5 + b.toNat, none⟩).trans zb
                  have d4 := (HD.out.cell ⟨b8, off8 + k, none⟩).trans zq
                  clear zi za zb zq
                  have hqq : (qi != qi) = false := by simp
                  rcases Classical.em (pi = pa) with c1 | c1
                  · have f1 : (pi == pa) = true := by simp [c1]
                    rw [if_pos (.inl c1)] at mo
                    have mo' : min pa pb = qi := mo.symm
                    clear mo c1
                    go_wp2_with fail
                    go_quiet (fail)
                    go_wp2_with fail
                    go_quiet (fail)
                    go_wp2
                    go_roundw
                    case rel => exact ⟨k + 1, by omega, by go_num, Lib.hid (HD.out.more _)⟩
                    case measure => simp [intOf]; omega
                  · have f1 : (pi == pa) = false := by simp [c1]
                    rcases Classical.em (pi = pb) with c2 | c2
                    · have f2 : (pi == pb) = true := by simp [c2]
                      rw [if_pos (.inr c2)] at mo
                      have mo' : min pa pb = qi := mo.symm
                      clear mo c1 c2
                      go_wp2_with fail
                      go_quiet (fail)
                      go_wp2_with fail
                      go_quiet (fail)
                      go_wp2
                      go_roundw
                      case rel => exact ⟨k + 1, by omega, by go_num, Lib.hid (HD.out.more _)⟩
                      case measure => simp [intOf]; omega
                    · have f2 : (pi == pb) = false := by simp [c2]
                      rw [if_neg (by rintro (e | e); exact c1 e; exact c2 e)] at mo
                      subst mo
                      clear c1 c2
                      go_wp2_with fail
                      go_quiet (fail)
                      go_wp2
                      go_roundw
                      case rel => exact ⟨k + 1, by omega, by go_num, Lib.hid (HD.out.more _)⟩
                      case measure => simp [intOf]; omega
                · have hll : ((q.length : Int) == (p.length : Int)) = true := by have := HQL.out; simp; omega
                  have hll2 : ((q.length : Int) == N) = true := by have := HQL.out; simp; omega
                  go_wp2
                  go_ret
                  exact ⟨ret_bool (by first | rfl | exact hll2 | exact hll), HX8.out.trans (Ext.of_drew HD.out)⟩
            · have q1 : (r1 != 0) = true := by simp [h0]
              have HRR := Lib.hid h0
              clear h0
              have hx0 := Ext.trans ((Ext.refl w).alloc (.cells #[.int .i64 N, .slice ao E.length c] 24)) XR
              go_wp2_with (first
                | (go_at_call 10; refine (own_any _ N _ E (Sg.out.ext (by repeat (first | exact Ext.refl _ | assumption | exact Hid.out (by assumption) | refine Ext.alloc ?_ _ | refine Ext.drew ?_ | refine Ext.drewN ?_ _ | refine Ext.trans ?_ (by assumption)))) (by omega)).mono ?_; rintro e w6 ⟨v6, rfl, s6, x6⟩; obtain ⟨ao6, n6, c6, rfl⟩ := s6.sh; have S6 := Lib.hid s6; clear s6; obtain ⟨cg0_6, cg1_6⟩ := HGg.out w6 (by repeat (first | exact Ext.refl _ | assumption | exact Hid.out (by assumption) | refine Ext.alloc ?_ _ | refine Ext.drew ?_ | refine Ext.drewN ?_ _ | refine Ext.trans ?_ (by assumption))))
                | (go_at_call 9; refine (add_says _ N _ E a b N1 F r1 (S6.out.ext (by repeat (first | exact Ext.refl _ | assumption | exact Hid.out (by assumption) | refine Ext.alloc ?_ _ | refine Ext.drew ?_ | refine Ext.drewN ?_ _ | refine Ext.trans ?_ (by assumption)))) HA.out).mono ?_; rintro e w7 ⟨v7, rfl, s7, x7⟩; obtain ⟨ao7, n7, c7, rfl⟩ := s7.sh; have S7 := Lib.hid s7; clear s7; obtain ⟨cg0_7, cg1_7⟩ := HGg.out (w7.alloc (.cells #[.int .i64 N1, .slice ao7 n7 c7] 24)) (by repeat (first | exact Ext.refl _ | assumption | exact Hid.out (by assumption) | refine Ext.alloc ?_ _ | refine Ext.drew ?_ | refine Ext.drewN ?_ _ | refine Ext.trans ?_ (by assumption)))))
              go_ret
              exact ⟨rfl, Ext.trans hx0 (by repeat (first | exact Ext.refl _ | exact x6 | exact x7 | refine Ext.alloc ?_ _ | refine Ext.drew ?_ | refine Ext.trans ?_ x7 | refine Ext.trans ?_ x6))⟩
  · have HC := Lib.hid (chk_not ok)
    clear ok
    go_enter Try.func6, Try.ntmps6
    go_wp2_with (first
      | (go_at_call 8; have hgd := x3; refine (awake_any _).mono ?_; rintro e w4 ⟨rfl, x4⟩; clear hgd)
      | (go_at_call 8; refine (awake_any _).mono ?_; rintro e w1 ⟨rfl, x1⟩; obtain ⟨cg0_1, cg1_1⟩ := HGg.out w1 (by repeat (first | exact Ext.refl _ | assumption | exact Hid.out (by assumption) | refine Ext.alloc ?_ _ | refine Ext.drew ?_ | refine Ext.drewN ?_ _ | refine Ext.trans ?_ (by assumption))))
      | (go_at_call 10; refine (own_any _ N _ E (Sg.out.ext (by repeat (first | exact Ext.refl _ | assumption | exact Hid.out (by assumption) | refine Ext.alloc ?_ _ | refine Ext.drew ?_ | refine Ext.drewN ?_ _ | refine Ext.trans ?_ (by assumption)))) (by omega)).mono ?_; rintro e w2 ⟨v2, rfl, s2, x2⟩; obtain ⟨ao2, n2, c2, rfl⟩ := s2.sh; have S2 := Lib.hid s2; clear s2; obtain ⟨cg0_2, cg1_2⟩ := HGg.out w2 (by repeat (first | exact Ext.refl _ | assumption | exact Hid.out (by assumption) | refine Ext.alloc ?_ _ | refine Ext.drew ?_ | refine Ext.drewN ?_ _ | refine Ext.trans ?_ (by assumption))))
      | (go_at_call 15; refine (check_any _ N _ E (S2.out.ext (by repeat (first | exact Ext.refl _ | assumption | exact Hid.out (by assumption) | refine Ext.alloc ?_ _ | refine Ext.drew ?_ | refine Ext.drewN ?_ _ | refine Ext.trans ?_ (by assumption)))) _ HC.out).mono ?_; rintro e w3 ⟨rfl, x3⟩; obtain ⟨cg0_3, cg1_3⟩ := HGg.out w3 (by repeat (first | exact Ext.refl _ | assumption | exact Hid.out (by assumption) | refine Ext.alloc ?_ _ | refine Ext.drew ?_ | refine Ext.drewN ?_ _ | refine Ext.trans ?_ (by assumption)))))
    go_ret
    exact ⟨rfl, (by repeat (first | exact Ext.refl _ | assumption | exact Hid.out (by assumption) | refine Ext.alloc ?_ _ | refine Ext.drew ?_ | refine Ext.drewN ?_ _ | refine Ext.trans ?_ (by assumption)))⟩

end Go.Proofs.Ytanflbjbcncklaa
