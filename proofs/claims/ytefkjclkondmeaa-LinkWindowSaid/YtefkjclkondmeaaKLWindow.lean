/- LinkWindow: there never go more than the window; what goes stands in it. -/
import Derived.Test.YtefkjclkondmeaaKM
import Derived.BigGuard
namespace Go.Proofs.Ytefkjclkondmeaa
open Go.RowKit

set_option maxRecDepth 100000 in
set_option maxHeartbeats 40000000 in
theorem window_any (w : World) (hs : Std w) (v : Value) (l : List Act9) (h : Sl w v l) (hin : ∀ y ∈ l, y.f.q < 18446744073709551616 ∧ y.f.a < 18446744073709551616) (e : Int) (first : Nat) (hf : first < 18446744073709551616) (win qn wait : Int) :
    Calls Try.prog 7 #[.int .i64 e, .int .u64 (first : Int), .int .i64 win, .int .i64 qn, .int .i64 wait, v] w (GivesB w (.bool true)) := by
  have hlen := h.length_le
  have HS := Lib.hid h
  have HST := Lib.hid hs
  have HIN := Lib.hid hin
  obtain ⟨ao, c, rfl⟩ := h.len
  clear h hs hin
  go_enter Try.func7, Try.ntmps7
  dsimp only [List.append]
  go_wp2_with fail
  refine (pNew w e first win qn wait hf).mono ?_
  rintro ev w0 ⟨p, F0, rfl, n0, hf0, x0⟩
  have N0 : Hid (End1 w w0 p (EndS.new e first win qn wait) F0) := Lib.hid ⟨n0, hf0, x0⟩
  clear n0 hf0 x0
  go_wp2_with fail
  refine (awake_any w0 (HST.out.ext N0.out.2.2)).mono ?_
  rintro ev w1 ⟨rfl, x1⟩
  have N1 := Lib.hid (N0.out.ext x1)
  clear x1 N0
  go_wp2_with fail
  refine (few_any w1 _ l (HS.out.ext N1.out.2.2)).mono ?_
  rintro ev w2 ⟨r, rfl, hr, rfl⟩
  cases r
  · clear hr
    go_wp2_with (first
      | (go_at_call 10; refine (awake_any w1 (HST.out.ext N1.out.2.2)).mono ?_; rintro ev w2 ⟨rfl, x2⟩; have X2 := Lib.hid (Ext.trans N1.out.2.2 x2); clear x2))
    go_ret
    exact ⟨rfl, X2.out⟩
  · have HR := Lib.hid (hr rfl)
    clear hr
    obtain ⟨A, hA⟩ : ∃ A : Int, A = max qn 0 := ⟨_, rfl⟩
    obtain ⟨Q, hQ⟩ : ∃ Q : Nat, (Q : Int) = min A 64 := ⟨(min A 64).toNat, by omega⟩
    have hq1 : (if qn < 0 then (0 : Int) else qn) = A := by split <;> omega
    have hq2 : (if (64 : Int) < A then (64 : Int) else A) = (Q : Int) := by split <;> omega
    obtain ⟨B, hB⟩ : ∃ B : Int, B = max win 1 := ⟨_, rfl⟩
    obtain ⟨V, hV⟩ : ∃ V : Nat, (V : Int) = min B 8 := ⟨(min B 8).toNat, by omega⟩
    have hw1 : (if win < 1 then (1 : Int) else win) = B := by split <;> omega
    have hw2 : (if (8 : Int) < B then (8 : Int) else B) = (V : Int) := by split <;> omega
    have hV8 : V ≤ 8 := by omega
    have HQ := Lib.hid (show (EndS.new e 0 win qn wait).qn = Q by simp only [EndS.new]; omega)
    have HV := Lib.hid (show (EndS.new e 0 win qn wait).win = V by simp only [EndS.new]; omega)
    clear hA hQ hB hV
    have hwv : IntKind.u64.wrap (V : Int) = (V : Int) := wrapU _ (by omega) (by omega)
    go_wp2
    go_loopw [14] (fun i wr => ∃ (k : Nat) (S : EndS) (F : Nat → Prop), k ≤ l.length ∧ i = .int .i64 (k : Int) ∧ Hid (End1 w wr p S F) ∧ Hid (Keeps S e win qn wait)) (fun i _ => l.length - (intOf i).toNat)
    case atStart => exact ⟨0, _, _, Nat.zero_le _, rfl, N1, Lib.hid (Keeps.new e first win qn wait)⟩
    case round =>
      obtain ⟨k, S, F, hk, rfl, HN, HK⟩ := hrel
      by_cases hlt : k < l.length
      · obtain ⟨b, off, rfl, _, hcl, hbl, hat⟩ := act_here HS.out HN.out.2.2 hlt
        have hm : l.getD k dA ∈ l := by simp [hlt]
        have hs2 := HR.out.2 _ hm
        have hi2 := HIN.out _ hm
        have HAT : Hid (∀ W, Ext w W → ActAt W b (off + k * 9) (l.getD k dA)) := Lib.hid (fun W x => by
          obtain ⟨b', off', hv, _, _, _, h9⟩ := act_here HS.out x hlt
          simp only [Option.some.injEq, Addr.mk.injEq, and_true] at hv
          obtain ⟨rfl, rfl⟩ := hv
          exact h9)
        obtain ⟨Y, hY⟩ : ∃ Y, Y = l.getD k dA := ⟨_, rfl⟩
        rw [← hY] at hat hs2 hi2 HAT
        clear hY hm
        obtain ⟨yk, yn, ys, yt, yf⟩ := Y
        obtain ⟨c0, c1, c2, c3, c4, c5, c6, c7, c8⟩ := hat
        dsimp only at c0 c1 c2 c3 c4 c5 c6 c7 c8 hs2 hi2
        have hkc : (k : Int) ≤ (c : Int) := by omega
        have hn2 : IntKind.i64.wrap ((k : Int) + 1) = (k : Int) + 1 := wrapN _ (by omega) (by omega)
        have hok := HN.out.1.ok
        have hql := hok.len
        have hkq := HK.out.2.2.1
        have hkw := HK.out.2.1
        rw [HQ.out] at hkq
        rw [HV.out] at hkw
        by_cases h0 : yk = 0
        · subst h0
          have hKe := Lib.hid (HK.out.send yt)
          have hl2 := (hok.send yt).len
          rw [show (S.send yt).qn = Q from hKe.out.2.2.1.trans HQ.out] at hl2
          have hl3 : ¬ (Q : Int) < ((S.send yt).l.length : Int) := by omega
          obtain ⟨S', hS'⟩ : ∃ S', S' = S.send yt := ⟨_, rfl⟩
          have cS := Lib.hid (pSend HN.out.1 yt (by omega))
          rw [← hS'] at hl3 hKe cS
          clear hl2 hS' hok hkq hkw hql
          go_wp2_with (first
            | (go_at_call 13; refine cS.out.mono ?_; rintro ev w3 ⟨F3, rfl, n, o, g⟩; have N3 := Lib.hid (HN.out.step n o g); clear n o g)
            | (go_at_call 23; refine (pWaiting N3.out.1).mono ?_; rintro ev w4 ⟨F4, rfl, n, o, g⟩; have N4 := Lib.hid (N3.out.step n o g); clear n o g))
          exact ⟨⟨k + 1, S', F4, hlt, by go_num, N4, hKe⟩, by simp [intOf]; omega⟩
        · have t0 : (yk == 0) = false := beq_eq_false_iff_ne.2 h0
          by_cases h1 : yk = 1
          · subst h1
            have hKe := Lib.hid (HK.out.outS)
            have hl2 := hok.outS.len
            rw [show S.outS.qn = Q from hKe.out.2.2.1.trans HQ.out] at hl2
            have hl3 : ¬ (Q : Int) < (S.l.length : Int) := by have : S.outS.l.length = S.l.length := rfl; omega
            have hwf := Lib.hid (fun j hj => win_frame hok j hj)
            have hfw := EndS.frames_win hok
            rw [hkw] at hfw
            have heS := HK.out.1
            have hwl : IntKind.u64.wrap (S.l.length : Int) = (S.l.length : Int) := wrapU _ (by omega) (by have := hok.len; have := hok.qn; omega)
            have HKW := Lib.hid hkw
            have HES := Lib.hid heS
            clear hl2 hok hkq hkw hql h0 heS
            go_wp2_with fail
            refine (pNumbers HN.out.1).mono ?_
            rintro ev w3 ⟨F3, rfl, n, o, g⟩
            have N3 := Lib.hid (HN.out.step n o g)
            clear n o g
            go_wp2_with fail
            refine (pWaiting N3.out.1).mono ?_
            rintro ev w4 ⟨F4, rfl, n, o, g⟩
            have N4 := Lib.hid (N3.out.step n o g)
            clear n o g
            go_wp2_with fail
            refine (pOut N4.out.1).mono ?_
            rintro ev w5 ⟨oo, on, oc, F5, rfl, hl, _, n, o, g⟩
            have N5 := Lib.hid (N4.out.step n o g)
            obtain ⟨oo', oc', hv⟩ := hl.len
            simp only [Value.slice.injEq] at hv
            obtain ⟨rfl, rfl, rfl⟩ := hv
            have HL := Lib.hid hl
            clear n o g hl
            obtain ⟨FR, hFR⟩ : ∃ FR, FR = S.frames := ⟨_, rfl⟩
            rw [← hFR] at HL hwf hfw ⊢
            have HFR := Lib.hid hFR
            obtain ⟨D, hD⟩ : ∃ D, D = FR.length := ⟨_, rfl⟩
            rw [← hD] at HL hwf hfw ⊢
            have HD := Lib.hid hD
            clear hFR hD
            have hd1 : ¬ (V : Int) < (D : Int) := by omega
            have hd0 : ¬ V < D := by omega
            have hd7 : decide (V < D) = false := decide_eq_false hd0
            go_wp2
            go_loopw [19] (fun i wr2 => ∃ m : Nat, m ≤ D ∧ i = .int .i64 (m : Int) ∧ Hid (Ext w5 wr2)) (fun i _ => D - (intOf i).toNat)
            case atStart => exact ⟨0, Nat.zero_le _, rfl, Lib.hid (Ext.refl _)⟩
            case round =>
              obtain ⟨m, hm, rfl, HX⟩ := hrel
              by_cases hmt : m < D
              · obtain ⟨fb, fo, rfl, hnn, hfc, hfb, hfa⟩ := (HL.out.ext HX.out).frs_some (by have := HD.out; omega)
                have hat := hfa m (by have := HD.out; omega)
                have hw9 := hwf.out m hmt
                obtain ⟨f, hf9⟩ : ∃ f, f = FR.getD m Fr.zero := ⟨_, rfl⟩
                rw [← hf9] at hat hw9
                clear hfa hf9 hnn
                obtain ⟨fk, fe, fq, fa, fbd⟩ := f
                have HKF : Hid (∀ W, Ext wr W → FrAt W fb (fo + m * 5) ⟨fk, fe, fq, fa, fbd⟩) := Lib.hid (fun W x => hat.ext (x.mono hfb))
                clear hat
                obtain ⟨g1, g2, g3⟩ := hw9
                dsimp only at g1 g2 g3
                have b1 : (fe != e) = false := by rw [bne_eq_false_iff_eq, g1, HES.out]
                have b2 : ((fa : Int) != (S.want : Int)) = false := by rw [bne_eq_false_iff_eq, g2]
                have hmc : (m : Int) ≤ (oc : Int) := by have := HD.out; omega
                have hn3 : IntKind.i64.wrap ((m : Int) + 1) = (m : Int) + 1 := wrapN _ (by omega) (by omega)
                clear g1 g2
                rcases g3 with ⟨rfl, d, hd, hd2, hd3⟩ | ⟨rfl, hd⟩
                · rw [HKW.out] at hd2
                  have b3 : ¬ (V : Int) ≤ (d : Int) := by omega
                  have b4 : ¬ (S.l.length : Int) ≤ (d : Int) := by omega
                  clear hd2 hd3
                  obtain ⟨z0, z1, z2, z3, z4⟩ := HKF.out _ (Ext.refl _)
                  have hx9 := HX.out
                  clear HKF
                  go_wp2
                  exact ⟨⟨m + 1, hmt, by go_num, Lib.hid hx9⟩, by simp [intOf]; omega⟩
                · rw [← HFR.out] at hd
                  have hd9 : D = 1 := by have := HD.out; omega
                  have b5 : ((D : Int) != 1) = false := by rw [hd9]; rfl
                  clear hd hd9
                  obtain ⟨z0, z1, z2, z3, z4⟩ := HKF.out _ (Ext.refl _)
                  have hx9 := HX.out
                  clear HKF
                  go_wp2
                  exact ⟨⟨m + 1, hmt, by go_num, Lib.hid hx9⟩, by simp [intOf]; omega⟩
              · have N6 := Lib.hid (N5.out.ext HX.out)
                go_wp2_with fail
                refine (pWaiting N6.out.1).mono ?_
                rintro ev w7 ⟨F7, rfl, n, o, g⟩
                have N7 := Lib.hid (N6.out.step n o g)
                rw [show S.outS.l.length = S.l.length from rfl]
                clear n o g
                go_wp2
                exact ⟨⟨k + 1, S.outS, F7, hlt, by go_num, N7, hKe⟩, by simp [intOf]; omega⟩
          · have t1 : (yk == 1) = false := beq_eq_false_iff_ne.2 h1
            by_cases h2 : yk = 2
            · subst h2
              have hKe := Lib.hid (HK.out.tick)
              have hl2 := hok.tick.len
              rw [show S.tick.qn = Q from hKe.out.2.2.1.trans HQ.out] at hl2
              have hl3 : ¬ (Q : Int) < (S.tick.l.length : Int) := by omega
              obtain ⟨S', hS'⟩ : ∃ S', S' = S.tick := ⟨_, rfl⟩
              have cS := Lib.hid (pTick HN.out.1)
              rw [← hS'] at hl3 hKe cS
              clear hl2 hS' hok hkq hkw hql h0 h1
              go_wp2_with (first
                | (go_at_call 18; refine cS.out.mono ?_; rintro ev w3 ⟨F3, rfl, n, o, g⟩; have N3 := Lib.hid (HN.out.step n o g); clear n o g)
                | (go_at_call 23; refine (pWaiting N3.out.1).mono ?_; rintro ev w4 ⟨F4, rfl, n, o, g⟩; have N4 := Lib.hid (N3.out.step n o g); clear n o g))
              exact ⟨⟨k + 1, S', F4, hlt, by go_num, N4, hKe⟩, by simp [intOf]; omega⟩
            · have t2 : (yk == 2) = false := beq_eq_false_iff_ne.2 h2
              have hKe := Lib.hid (HK.out.take yf)
              have hl2 := (hok.take yf).len
              rw [show (S.take yf).qn = Q from hKe.out.2.2.1.trans HQ.out] at hl2
              have hl3 : ¬ (Q : Int) < ((S.take yf).l.length : Int) := by omega
              obtain ⟨S', hS'⟩ : ∃ S', S' = S.take yf := ⟨_, rfl⟩
              have cS := Lib.hid (pTake (HST.out.ext HN.out.2.2) HN.out.1 yf hi2.2 hi2.1 (by omega))
              rw [← hS'] at hl3 hKe cS
              clear hl2 hS' hok hkq hkw hql h0 h1 h2
              go_wp2_with (first
                | (go_at_call 20; refine cS.out.mono ?_; rintro ev w3 ⟨F3, rfl, n, o, g⟩; have N3 := Lib.hid (HN.out.step n o g); clear n o g)
                | (go_at_call 23; refine (pWaiting N3.out.1).mono ?_; rintro ev w4 ⟨F4, rfl, n, o, g⟩; have N4 := Lib.hid (N3.out.step n o g); clear n o g))
              exact ⟨⟨k + 1, S', F4, hlt, by go_num, N4, hKe⟩, by simp [intOf]; omega⟩
      · go_wp2
        go_ret
        exact ⟨rfl, HN.out.2.2⟩
end Go.Proofs.Ytefkjclkondmeaa
