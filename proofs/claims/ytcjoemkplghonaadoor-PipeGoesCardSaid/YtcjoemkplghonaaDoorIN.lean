/- PipeGoes: what goes out is on its way, behind all else, as far as there is room. -/
import Derived.Test.YtcjoemkplghonaaDoorMU
import Derived.BigGuard
namespace Go.Proofs.YtcjoemkplghonaaDoor
open Go.RowKit

set_option linter.unusedVariables false

set_option maxRecDepth 100000 in
set_option maxHeartbeats 32000000 in
theorem pgoes_any (w : World) (hs : Std w) (v : Value) (l : List Act10) (h : Sl w v l) (hin : ∀ y ∈ l, (-9223372036854775808 ≤ y.x ∧ y.x ≤ 9223372036854775807) ∧ -9223372036854775808 ≤ y.sd ∧ y.sd ≤ 9223372036854775807) (e : Int) (first : Nat) (hf : first < 18446744073709551616) (win qn wait room : Int) :
    Calls Tryd.prog 7 #[.int .i64 e, .int .u64 (first : Int), .int .i64 win, .int .i64 qn, .int .i64 wait, .int .i64 room, v] w (GivesB w (.bool true)) := by
  have hlen := h.length_le
  have HS := Lib.hid h
  have HST := Lib.hid hs
  have HIN := Lib.hid hin
  obtain ⟨ao, c, rfl⟩ := h.len
  clear h hs hin
  go_enter Tryd.func7, Tryd.ntmps7
  (try dsimp only [List.append])
  go_wp2_with fail
  refine (iNew (w := w) HST.out e first win qn wait room hf).mono ?_
  rintro ev w0 ⟨p, F0, rfl, n, o, g⟩
  have N0 : Hid (Pipe1 w w0 p (PipeS.new e first win qn wait room) F0) := Lib.hid ⟨n, o, g⟩
  clear n o g
  go_wp2_with fail
  refine (awake_any w0 (HST.out.ext N0.out.2.2)).mono ?_
  rintro ev w1 ⟨rfl, x1⟩
  have N1 := Lib.hid (N0.out.ext x1)
  clear x1 N0
  go_wp2_with fail
  refine (few_any w1 _ l (HS.out.ext N1.out.2.2)).mono ?_
  rintro ev w2 ⟨r, rfl, hr, rfl⟩
  cases r
  · clear hr
    go_wp2_with fail
    refine (awake_any w1 (HST.out.ext N1.out.2.2)).mono ?_
    rintro ev w2 ⟨rfl, x2⟩
    have X2 := Lib.hid (Ext.trans N1.out.2.2 x2)
    clear x2
    go_wp2
    go_ret
    exact ⟨rfl, X2.out⟩
  have HR := Lib.hid (hr rfl)
  clear hr
  obtain ⟨A, hA⟩ : ∃ A : Int, A = max room 0 := ⟨_, rfl⟩
  obtain ⟨RR, hRR⟩ : ∃ RR : Nat, (RR : Int) = min A 1000 := ⟨(min A 1000).toNat, by omega⟩
  have hr1 : (if room < 0 then (0 : Int) else room) = A := by split <;> omega
  have hr2 : (if (1000 : Int) < A then (1000 : Int) else A) = (RR : Int) := by split <;> omega
  obtain ⟨B, hB⟩ : ∃ B : Int, B = max win 1 := ⟨_, rfl⟩
  obtain ⟨VV, hV⟩ : ∃ VV : Nat, (VV : Int) = min B 8 := ⟨(min B 8).toNat, by omega⟩
  have hw1 : (if win < 1 then (1 : Int) else win) = B := by split <;> omega
  have hw2 : (if (8 : Int) < B then (8 : Int) else B) = (VV : Int) := by split <;> omega
  have HVV : (EndS.new e first win qn wait).win = VV := by simp only [EndS.new]; omega
  have HRV : (NetS.new 2 room).room = RR := by show (min (max room 0) 1000).toNat = RR; omega
  have hRR9 : RR ≤ 1000 := by omega
  have hVV9 : VV ≤ 8 := by omega
  clear hA hRR hB hV
  have G0 : Hid (Gg w ((w1.alloc (.cells zz 29 (0, 0))).alloc (.cells zz 29 (0, 0))) w1.heap.size p VV RR (2 * 0)) :=
    Lib.hid (by rw [← HVV, ← HRV]; exact Gg.new hf N1.out (((Ext.refl w1).alloc _).alloc _) (Nat.le_refl _) (blk_alloc (get_alloc_new w1 _) _) (by
      have := get_alloc_new (w1.alloc (.cells zz 29 (0, 0))) (.cells zz 29 (0, 0))
      rwa [size_alloc] at this))
  unfold zz at G0
  go_wp2
  obtain ⟨nb, hnb⟩ : ∃ nb, nb = w1.heap.size := ⟨_, rfl⟩
  obtain ⟨WC, hWC⟩ : ∃ WC, WC = (w1.alloc (.cells #[.slice none 0 0, .slice none 0 0] 29 (0, 0))).alloc (.cells #[.slice none 0 0, .slice none 0 0] 29 (0, 0)) := ⟨_, rfl⟩
  rw [← hWC, ← hnb] at G0 ⊢
  clear hnb hWC N1 HVV HRV
  go_loopw [18] (fun i wr => ∃ k : Nat, k ≤ l.length ∧ i = .int .i64 (k : Int) ∧ Hid (Gg w wr nb p VV RR (2 * k))) (fun i _ => l.length - (intOf i).toNat)
  case atStart => exact ⟨0, Nat.zero_le _, rfl, G0⟩
  case round =>
    obtain ⟨k, hk, rfl, HP⟩ := hrel
    clear G0
    by_cases hlt : k < l.length
    · have hm : l.getD k dA ∈ l := by simp [hlt]
      have hs2 := HR.out.2 _ hm
      have HI2 := Lib.hid (HIN.out _ hm).1
      have HS2 := Lib.hid (HIN.out _ hm).2
      obtain ⟨b, off, rfl, _, hcl, hbl, hat⟩ := act_here HS.out HP.out.ext hlt
      have HAT : Hid (∀ W, Ext w W → ActAt W b (off + k * 5) (l.getD k dA)) := Lib.hid (fun W x => by
        obtain ⟨b', off', hv, _, _, _, h9⟩ := act_here HS.out x hlt
        simp only [Option.some.injEq, Addr.mk.injEq, and_true] at hv
        obtain ⟨rfl, rfl⟩ := hv
        exact h9)
      obtain ⟨Y, hY⟩ : ∃ Y, Y = l.getD k dA := ⟨_, rfl⟩
      rw [← hY] at hat hs2 HAT HI2 HS2
      clear hY hm hat
      have hkc : (k : Int) ≤ (c : Int) := by omega
      have hkl : (k : Int) < (l.length : Int) := by omega
      have hn2 : IntKind.i64.wrap ((k : Int) + 1) = (k : Int) + 1 := wrapN _ (by omega) (by omega)
      obtain ⟨b4, hwo⟩ : ∃ b4, IntKind.i64.wrap (1 - Y.sd) = b4 := ⟨_, rfl⟩
      have HO := Lib.hid (other_side hwo HS2.out.1 HS2.out.2)
      obtain ⟨P, x, L, F, hg⟩ := HP.out
      obtain ⟨R0, hR0⟩ : ∃ R0, P.net.f (1 - b4) b4 = R0 := ⟨_, rfl⟩
      have cR := Lib.hid (row_any wr p P (F 0) hg.wt.e b4 R0 hR0)
      have a0 := HAT.out wr hg.wt.ext
      obtain ⟨q0, q1, q2, q3, q4⟩ := a0
      have HGA := Lib.hid hg
      have HR0 := Lib.hid hR0
      clear hg hR0
      go_wp2_with fail
      refine cR.out.mono ?_
      rintro ev w3 ⟨wao, wan, wac, F3, rfl, hl3, hap3, n3, o3, g3⟩
      have hgl := gots_len hl3
      subst hgl
      have HG3 := Lib.hid (HGA.out.moves n3 o3 g3 HGA.out.inv)
      have HSA : Hid (Sa F3 w3 (.slice wao R0.length wac) R0) := Lib.hid ⟨hl3, hap3.imp id fun h b hb => (h b hb).2⟩
      clear n3 o3 g3 hl3 hap3 cR q0 q1 q2 q3 q4
      have a3 := HAT.out w3 HG3.out.wt.ext
      obtain ⟨q0, q1, q2, q3, q4⟩ := a3
      by_cases hk1 : Y.k = 1
      · have t1 : (Y.k == 1) = true := beq_iff_eq.2 hk1
        clear hk1
        obtain ⟨N, hN⟩ : ∃ N, P.goN Y.sd = N := ⟨_, rfl⟩
        have cG := iGo (HST.out.ext HG3.out.wt.ext) (by have h9 := HG3.out.wt.e; rwa [upd_same] at h9 : PAt w3 p P F3) Y.sd
        rw [hN] at cG
        replace cG := Lib.hid cG
        have hgo := HGA.out.inv.goes HGA.out.wt.e.ok Y.sd b4 HO.out
        rw [HR0.out, hN] at hgo
        obtain ⟨R1, hR1⟩ : ∃ R1, (P.go Y.sd).net.f (1 - b4) b4 = R1 := ⟨_, rfl⟩
        rw [hR1] at hgo
        obtain ⟨gV, gL, gT, gR⟩ := hgo
        have HR1 := Lib.hid hR1
        have GT := Lib.hid gT
        clear hN hR1 gT
        go_wp2_with fail
        refine cG.out.mono ?_
        rintro ev w4 ⟨F4, rfl, n4, o4, g4⟩
        have HG4 := Lib.hid (HG3.out.moves n4 (by rw [upd_same]; exact o4) (by rw [upd_same]; exact g4) (HG3.out.inv.go Y.sd))
        have HSB := Lib.hid (HSA.out.off o4 g4)
        clear n4 o4 g4 cG q0 q1 q2 q3 q4 HSA
        have a4 := HAT.out w4 HG4.out.wt.ext
        obtain ⟨q0, q1, q2, q3, q4⟩ := a4
        have cR := Lib.hid (row_any w4 p (P.go Y.sd) F4 (by have h9 := HG4.out.wt.e; rwa [upd_same] at h9) b4 R1 HR1.out)
        go_wp2_with fail
        refine cR.out.mono ?_
        rintro ev w5 ⟨nao, nan, nac, F5, rfl, hl5, hap5, n5, o5, g5⟩
        have hgl := gots_len hl5
        subst hgl
        have HG5 : Hid (Gg w w5 nb p VV RR (2 * k)) := Lib.hid ⟨_, _, _, _, HG4.out.moves n5 (by rw [upd_same]; exact o5) (by rw [upd_same]; exact g5) HG4.out.inv⟩
        have HSC := Lib.hid (HSB.out.off o5 g5)
        obtain ⟨cao, cc, hv, hcc, hcut⟩ := sl_begin hl5 (by omega) GT.out
        simp only [Value.slice.injEq] at hv
        obtain ⟨rfl, _, rfl⟩ := hv
        have cT := refTexts_any w5 _ _ R0 R0 hcut HSC.out.1
        rw [decide_eq_true (show R0 = R0 from rfl)] at cT
        replace cT := Lib.hid cT
        have v1 : ¬ (VV : Int) < (N : Int) := by omega
        have v1d : decide ((VV : Int) < (N : Int)) = false := decide_eq_false v1
        have v1n : decide (VV < N) = false := decide_eq_false (by omega)
        have v1m : ¬ VV < N := by omega
        have v2 : IntKind.i64.wrap ((R0.length : Int) + (N : Int)) = (R1.length : Int) := by rw [wrapN _ (by omega) (by omega)]; omega
        have v3 : ((R0.length : Nat) : Int) ≤ (nac : Int) := by omega
        have v4 : ¬ (RR : Int) < (R1.length : Int) := by omega
        have v4d : decide ((RR : Int) < (R1.length : Int)) = false := decide_eq_false v4
        have v4n : decide (RR < R1.length) = false := decide_eq_false (by omega)
        have v4m : ¬ RR < R1.length := by omega
        clear n5 o5 g5 hl5 hap5 hcut cR q0 q1 q2 q3 q4 HSB HSC HG4 HG3 HGA gV gL gR
        go_wp2_with fail
        refine cT.out.mono ?_
        rintro ev w6 ⟨rfl, x6⟩
        have P6 : Hid (Gg w w6 nb p VV RR (2 * (k + 1))) := Lib.hid ((HG5.out.more x6).up.up)
        clear x6 cT HG5
        go_wp2
        exact ⟨⟨k + 1, hlt, by go_num, P6⟩, by simp [intOf]; omega⟩
      · have t1 : (Y.k == 1) = false := beq_eq_false_iff_ne.2 hk1
        have HP := Lib.hid (show Gg w w3 nb p VV RR (2 * k) from ⟨_, _, _, _, HG3.out⟩)
        clear hk1 HG3 HSA HGA HR0
        go_wp2_with fail
        (refine wp_region_X_lit (K := fun W => ActAt W b (off + k * 5) Y) (by kernel_rfl) (fun w1 hw1 => ?_))
        have P2 := Lib.hid (HP.out.more hw1)
        have a1 := HAT.out w1 P2.out.ext
        clear hw1
        obtain ⟨P, x, L, F, hg⟩ := P2.out
        obtain ⟨⟨a0, n0, c0⟩, h0⟩ : ∃ s, x 0 = s := ⟨_, rfl⟩
        obtain ⟨⟨a1', n1, c1⟩, h1⟩ : ∃ s, x 1 = s := ⟨_, rfl⟩
        obtain ⟨⟨a2, n2, c2⟩, h2⟩ : ∃ s, x 2 = s := ⟨_, rfl⟩
        obtain ⟨⟨a3', n3, c3⟩, h3⟩ : ∃ s, x 3 = s := ⟨_, rfl⟩
        have hb0 := hg.b0
        have hb1 := hg.b1
        rw [two2_of (i := 0) h0 h1] at hb0
        rw [two2_of (i := 2) h2 h3] at hb1
        obtain ⟨⟨d0, d1⟩, _⟩ := cells2t hb0
        obtain ⟨⟨d2, d3⟩, _⟩ := cells2t hb1
        (refine xtakeV 0 (v := ?_) (by simp only [List.getElem?_toArray, List.getElem?_cons, reduceIte]; rfl) (by kernel_rfl) (by rfl) (fun w' hw' => ?_) ?_; rotate_left; focus (skip; go_simp; first | done | with_reducible rfl)); (simp only [Act.put, List.setIfInBounds_toArray, List.set])
        (refine xtakeV 1 (v := ?_) (by simp only [List.getElem?_toArray, List.getElem?_cons, reduceIte]; rfl) (by kernel_rfl) (by rfl) (fun w' hw' => ?_) ?_; rotate_left; focus (skip; go_simp; first | done | with_reducible rfl)); (simp only [Act.put, List.setIfInBounds_toArray, List.set])
        (refine xtakeV 2 (v := ?_) (by simp only [List.getElem?_toArray, List.getElem?_cons, reduceIte]; rfl) (by kernel_rfl) (by rfl) (fun w' hw' => ?_) ?_; rotate_left; focus (skip; go_simp; first | done | with_reducible rfl)); (simp only [Act.put, List.setIfInBounds_toArray, List.set])
        (refine xtakeV 3 (v := ?_) (by simp only [List.getElem?_toArray, List.getElem?_cons, reduceIte]; rfl) (by kernel_rfl) (by rfl) (fun w' hw' => ?_) ?_; rotate_left; focus (skip; go_simp; first | done | with_reducible rfl)); (simp only [Act.put, List.setIfInBounds_toArray, List.set])
        (refine xtakeV 4 (v := ?_) (by simp only [List.getElem?_toArray, List.getElem?_cons, reduceIte]; rfl) (by kernel_rfl) (by rfl) (fun w' hw' => ?_) ?_; rotate_left; focus (obtain ⟨q0, q1, q2, q3, q4⟩ := hw'; go_simp; first | done | with_reducible rfl)); (simp only [Act.put, List.setIfInBounds_toArray, List.set])
        (refine xtwo 5 6 (by kernel_rfl) (a1) (RunX.of 5 (by simp only [List.getElem?_toArray, List.getElem?_cons, reduceIte]; rfl) (by rfl) ?_) (RunX.of 6 (by simp only [List.getElem?_toArray, List.getElem?_cons, reduceIte]; rfl) (by rfl) ?_))
        · go_simp
          (try (simp only [Act.put, List.setIfInBounds_toArray, List.set]))
          (refine xone 6 (by kernel_rfl) (a1) (RunX.of 6 (by simp only [List.getElem?_toArray, List.getElem?_cons, reduceIte]; rfl) (by rfl) ?_))
          go_simp
          (try (simp only [Act.put, List.setIfInBounds_toArray, List.set]))
          (refine xone 7 (by kernel_rfl) (a1) (RunX.of 7 (by simp only [List.getElem?_toArray, List.getElem?_cons, reduceIte]; rfl) (by rfl) ?_))
          go_simp
          have cP := play_any w w1 w1 (Bx2 nb) HST.out p P L x F hg.wt Y (by have := hs2; omega) HI2.out (hg.inv.few4 (by have := HR.out.1; omega)) (hg.inv.got (by have := HR.out.1; omega))
          rw [two2_of (i := 0) h0 h1, two2_of (i := 2) h2 h3] at cP
          unfold Act10.v at cP
          obtain ⟨M, hM⟩ : ∃ M, M = playM P L Y := ⟨_, rfl⟩
          have hst := hg.inv.step hg.wt.e.ok Y
          rw [← hM] at cP hst
          obtain ⟨P', L', r⟩ := M
          dsimp only at cP hst
          refine cP.mono ?_
          rintro ev w3 ⟨x', F', rfl, hwt⟩
          have hlow := hg.low
          have e0 := (hwt.kp nb (.inl rfl)).2.trans hb0
          have e1 := (hwt.kp (nb + 1) (.inr rfl)).2.trans hb1
          have xw3 := hwt.ext
          have a3 := HAT.out w3 xw3
          obtain ⟨⟨ra, rn, rc⟩, r0⟩ : ∃ s, x' 0 = s := ⟨_, rfl⟩
          obtain ⟨⟨sa, sn, sc⟩, r1⟩ : ∃ s, x' 1 = s := ⟨_, rfl⟩
          obtain ⟨⟨ta, tn, tc⟩, r2⟩ : ∃ s, x' 2 = s := ⟨_, rfl⟩
          obtain ⟨⟨ua, un, uc⟩, r3⟩ : ∃ s, x' 3 = s := ⟨_, rfl⟩
          rw [two2_of (i := 0) r0 r1, two2_of (i := 2) r2 r3]
          have eb := two2_blks e0 e1 (.slice ra rn rc) (.slice sa sn sc) (.slice ta tn tc) (.slice ua un uc)
          have HG : Hid (Gg w (set2 (set2 w3 nb (.slice ra rn rc) (.slice sa sn sc)) (nb + 1) (.slice ta tn tc) (.slice ua un uc)) nb p VV RR (2 * k + 1)) := Lib.hid (Gg.of hwt hst hlow (off_two2 w3 nb _ _ _ _) (by rw [two2_of (i := 0) r0 r1]; exact eb.1) (by rw [two2_of (i := 2) r2 r3]; exact eb.2))
          have X4 : Hid (Ext w (set2 (set2 w3 nb (.slice ra rn rc) (.slice sa sn sc)) (nb + 1) (.slice ta tn tc) (.slice ua un uc))) := Lib.hid (below_set2 (below_set2 xw3 hlow _ _) (by omega) _ _)
          have a4 := HAT.out _ (below_set2 xw3 hlow (.slice ra rn rc) (.slice sa sn sc))
          have a5 := HAT.out _ X4.out
          have e2 := set2_blk e0 (.slice ra rn rc) (.slice sa sn sc)
          have e3 := (off_set2 w3 nb (.slice ra rn rc) (.slice sa sn sc)).blk e1 (by omega)
          clear d0 d1 d2 d3 hM hst hwt hg hb0 hb1 cP a1 r0 r1 r2 r3 h0 h1 h2 h3 eb P2 hlow
          obtain ⟨⟨d0, d1⟩, f0, f1⟩ := cells2t e0
          obtain ⟨⟨d2, d3⟩, f2, f3⟩ := cells2t e3
          simp only [set2] at d2 d3 f2 f3
          dsimp only
          (try (simp only [Act.put, List.setIfInBounds_toArray, List.set]))
          (refine xtakeV 8 (v := ?_) (by simp only [List.getElem?_toArray, List.getElem?_cons, reduceIte]; rfl) (by kernel_rfl) (by rfl) (fun w' hw' => ?_) ?_; rotate_left; focus (skip; go_simp; first | done | with_reducible rfl)); (simp only [Act.put, List.setIfInBounds_toArray, List.set])
          (refine xtakeV 9 (v := ?_) (by simp only [List.getElem?_toArray, List.getElem?_cons, reduceIte]; rfl) (by kernel_rfl) (by rfl) (fun w' hw' => ?_) ?_; rotate_left; focus (skip; go_simp; first | done | with_reducible rfl)); (simp only [Act.put, List.setIfInBounds_toArray, List.set])
          (refine xtakeV 10 (v := ?_) (by simp only [List.getElem?_toArray, List.getElem?_cons, reduceIte]; rfl) (by kernel_rfl) (by rfl) (fun w' hw' => ?_) ?_; rotate_left; focus (skip; go_simp; first | done | with_reducible rfl)); (simp only [Act.put, List.setIfInBounds_toArray, List.set])
          (refine xtakeV 11 (v := ?_) (by simp only [List.getElem?_toArray, List.getElem?_cons, reduceIte]; rfl) (by kernel_rfl) (by rfl) (fun w' hw' => ?_) ?_; rotate_left; focus (skip; go_simp; first | done | with_reducible rfl)); (simp only [Act.put, List.setIfInBounds_toArray, List.set])
          (refine xone 12 (by kernel_rfl) (a3) (RunX.of 12 (by simp only [List.getElem?_toArray, List.getElem?_cons, reduceIte]; rfl) (by rfl) ?_))
          go_simp
          (try (simp only [Act.put, List.setIfInBounds_toArray, List.set]))
          (refine xone 13 (by kernel_rfl) (a4) (RunX.of 13 (by simp only [List.getElem?_toArray, List.getElem?_cons, reduceIte]; rfl) (by rfl) ?_))
          go_simp
          (try (simp only [Act.put, List.setIfInBounds_toArray, List.set]))
          (refine xtakeV 14 (v := ?_) (by simp only [List.getElem?_toArray, List.getElem?_cons, reduceIte]; rfl) (by kernel_rfl) (by rfl) (fun w' hw' => ?_) ?_; rotate_left; focus (skip; go_simp; first | done | with_reducible rfl)); (simp only [Act.put, List.setIfInBounds_toArray, List.set])
          (refine xdone (by kernel_rfl) (a5) ?_)
          clear d0 d1 d2 d3 f0 f1 f2 f3 e0 e1 e2 e3 a3 a4 a5 xw3
          obtain ⟨W4, hW4⟩ : ∃ W4, W4 = set2 (set2 w3 nb (.slice ra rn rc) (.slice sa sn sc)) (nb + 1) (.slice ta tn tc) (.slice ua un uc) := ⟨_, rfl⟩
          have hW5 := hW4
          simp only [set2] at hW5
          rw [← hW4] at HG X4
          rw [← hW5]
          clear hW4 hW5
          cases r
          · have P4 := HG
            have a6 := HAT.out W4 P4.out.ext
            obtain ⟨q0, q1, q2, q3, q4⟩ := a6
            clear HG X4
            go_wp2_with fail
            (refine wp_region_X_lit (K := fun W => ActAt W b (off + k * 5) Y) (by kernel_rfl) (fun w1 hw1 => ?_))
            have P5 := Lib.hid (P4.out.more hw1)
            have b1 := HAT.out w1 P5.out.ext
            clear hw1 P4
            obtain ⟨P, x, L, F, hg⟩ := P5.out
            (refine xtakeV 0 (v := ?_) (by simp only [List.getElem?_toArray, List.getElem?_cons, reduceIte]; rfl) (by kernel_rfl) (by rfl) (fun w' hw' => ?_) ?_; rotate_left; focus (skip; go_simp; first | done | with_reducible rfl)); (simp only [Act.put, List.setIfInBounds_toArray, List.set])
            (refine xtakeV 1 (v := ?_) (by simp only [List.getElem?_toArray, List.getElem?_cons, reduceIte]; rfl) (by kernel_rfl) (by rfl) (fun w' hw' => ?_) ?_; rotate_left; focus (skip; go_simp; first | done | with_reducible rfl)); (simp only [Act.put, List.setIfInBounds_toArray, List.set])
            (refine xtakeV 2 (v := ?_) (by simp only [List.getElem?_toArray, List.getElem?_cons, reduceIte]; rfl) (by kernel_rfl) (by rfl) (fun w' hw' => ?_) ?_; rotate_left; focus (skip; go_simp; first | done | with_reducible rfl)); (simp only [Act.put, List.setIfInBounds_toArray, List.set])
            (refine xtakeV 3 (v := ?_) (by simp only [List.getElem?_toArray, List.getElem?_cons, reduceIte]; rfl) (by kernel_rfl) (by rfl) (fun w' hw' => ?_) ?_; rotate_left; focus (skip; go_simp; first | done | with_reducible rfl)); (simp only [Act.put, List.setIfInBounds_toArray, List.set])
            (refine xtakeV 4 (v := ?_) (by simp only [List.getElem?_toArray, List.getElem?_cons, reduceIte]; rfl) (by kernel_rfl) (by rfl) (fun w' hw' => ?_) ?_; rotate_left; focus (skip; go_simp; first | done | with_reducible rfl)); (simp only [Act.put, List.setIfInBounds_toArray, List.set])
            (refine xtakeV 5 (v := ?_) (by simp only [List.getElem?_toArray, List.getElem?_cons, reduceIte]; rfl) (by kernel_rfl) (by rfl) (fun w' hw' => ?_) ?_; rotate_left; focus (obtain ⟨q0, q1, q2, q3, q4⟩ := hw'; go_simp; first | done | with_reducible rfl)); (simp only [Act.put, List.setIfInBounds_toArray, List.set])
            (refine xtakeV 6 (v := ?_) (by simp only [List.getElem?_toArray, List.getElem?_cons, reduceIte]; rfl) (by kernel_rfl) (by rfl) (fun w' hw' => ?_) ?_; rotate_left; focus (skip; go_simp; first | done | with_reducible rfl)); (simp only [Act.put, List.setIfInBounds_toArray, List.set])
            (refine xtakeV 7 (v := ?_) (by simp only [List.getElem?_toArray, List.getElem?_cons, reduceIte]; rfl) (by kernel_rfl) (by rfl) (fun w' hw' => ?_) ?_; rotate_left; focus (skip; go_simp; first | done | with_reducible rfl)); (simp only [Act.put, List.setIfInBounds_toArray, List.set])
            (refine xtakeV 8 (v := ?_) (by simp only [List.getElem?_toArray, List.getElem?_cons, reduceIte]; rfl) (by kernel_rfl) (by rfl) (fun w' hw' => ?_) ?_; rotate_left; focus (skip; go_simp; first | done | with_reducible rfl)); (simp only [Act.put, List.setIfInBounds_toArray, List.set])
            (refine xtakeV 9 (v := ?_) (by simp only [List.getElem?_toArray, List.getElem?_cons, reduceIte]; rfl) (by kernel_rfl) (by rfl) (fun w' hw' => ?_) ?_; rotate_left; focus (skip; go_simp; first | done | with_reducible rfl)); (simp only [Act.put, List.setIfInBounds_toArray, List.set])
            (refine xtakeV 10 (v := ?_) (by simp only [List.getElem?_toArray, List.getElem?_cons, reduceIte]; rfl) (by kernel_rfl) (by rfl) (fun w' hw' => ?_) ?_; rotate_left; focus (obtain ⟨q0, q1, q2, q3, q4⟩ := hw'; go_simp; first | done | with_reducible rfl)); (simp only [Act.put, List.setIfInBounds_toArray, List.set])
            (refine xone 11 (by kernel_rfl) (b1) (RunX.of 11 (by simp only [List.getElem?_toArray, List.getElem?_cons, reduceIte]; rfl) (by rfl) ?_))
            go_simp
            refine (iCome (HST.out.ext hg.wt.ext) hg.wt.e Y.sd Y.n (hg.inv.got (by have := HR.out.1; omega) _)).mono ?_
            rintro ev w7 ⟨F7, rfl, n7, o7, g7⟩
            have P7 : Hid (Gg w w7 nb p VV RR (2 * (k + 1))) := Lib.hid ⟨_, _, _, _, hg.moves n7 o7 g7 (hg.inv.come Y.sd Y.n)⟩
            clear n7 o7 g7 hg P5 b1 q0 q1 q2 q3 q4
            have b7 := HAT.out w7 P7.out.ext
            dsimp only
            (try (simp only [Act.put, List.setIfInBounds_toArray, List.set]))
            (refine xdone (by kernel_rfl) (b7) ?_)
            clear b7
            go_wp2
            exact ⟨⟨k + 1, hlt, by go_num, P7⟩, by simp [intOf]; omega⟩

          · have P4 := HG
            clear HG X4
            go_wp2
            exact ⟨⟨k + 1, hlt, by go_num, Lib.hid (by have h9 := P4.out.up; exact h9)⟩, by simp [intOf]; omega⟩

        · go_simp
          (try (simp only [Act.put, List.setIfInBounds_toArray, List.set]))
          (refine xone 5 (by kernel_rfl) (a1) (RunX.of 5 (by simp only [List.getElem?_toArray, List.getElem?_cons, reduceIte]; rfl) (by rfl) ?_))
          go_simp
          (try (simp only [Act.put, List.setIfInBounds_toArray, List.set]))
          (refine xone 7 (by kernel_rfl) (a1) (RunX.of 7 (by simp only [List.getElem?_toArray, List.getElem?_cons, reduceIte]; rfl) (by rfl) ?_))
          go_simp
          have cP := play_any w w1 w1 (Bx2 nb) HST.out p P L x F hg.wt Y (by have := hs2; omega) HI2.out (hg.inv.few4 (by have := HR.out.1; omega)) (hg.inv.got (by have := HR.out.1; omega))
          rw [two2_of (i := 0) h0 h1, two2_of (i := 2) h2 h3] at cP
          unfold Act10.v at cP
          obtain ⟨M, hM⟩ : ∃ M, M = playM P L Y := ⟨_, rfl⟩
          have hst := hg.inv.step hg.wt.e.ok Y
          rw [← hM] at cP hst
          obtain ⟨P', L', r⟩ := M
          dsimp only at cP hst
          refine cP.mono ?_
          rintro ev w3 ⟨x', F', rfl, hwt⟩
          have hlow := hg.low
          have e0 := (hwt.kp nb (.inl rfl)).2.trans hb0
          have e1 := (hwt.kp (nb + 1) (.inr rfl)).2.trans hb1
          have xw3 := hwt.ext
          have a3 := HAT.out w3 xw3
          obtain ⟨⟨ra, rn, rc⟩, r0⟩ : ∃ s, x' 0 = s := ⟨_, rfl⟩
          obtain ⟨⟨sa, sn, sc⟩, r1⟩ : ∃ s, x' 1 = s := ⟨_, rfl⟩
          obtain ⟨⟨ta, tn, tc⟩, r2⟩ : ∃ s, x' 2 = s := ⟨_, rfl⟩
          obtain ⟨⟨ua, un, uc⟩, r3⟩ : ∃ s, x' 3 = s := ⟨_, rfl⟩
          rw [two2_of (i := 0) r0 r1, two2_of (i := 2) r2 r3]
          have eb := two2_blks e0 e1 (.slice ra rn rc) (.slice sa sn sc) (.slice ta tn tc) (.slice ua un uc)
          have HG : Hid (Gg w (set2 (set2 w3 nb (.slice ra rn rc) (.slice sa sn sc)) (nb + 1) (.slice ta tn tc) (.slice ua un uc)) nb p VV RR (2 * k + 1)) := Lib.hid (Gg.of hwt hst hlow (off_two2 w3 nb _ _ _ _) (by rw [two2_of (i := 0) r0 r1]; exact eb.1) (by rw [two2_of (i := 2) r2 r3]; exact eb.2))
          have X4 : Hid (Ext w (set2 (set2 w3 nb (.slice ra rn rc) (.slice sa sn sc)) (nb + 1) (.slice ta tn tc) (.slice ua un uc))) := Lib.hid (below_set2 (below_set2 xw3 hlow _ _) (by omega) _ _)
          have a4 := HAT.out _ (below_set2 xw3 hlow (.slice ra rn rc) (.slice sa sn sc))
          have a5 := HAT.out _ X4.out
          have e2 := set2_blk e0 (.slice ra rn rc) (.slice sa sn sc)
          have e3 := (off_set2 w3 nb (.slice ra rn rc) (.slice sa sn sc)).blk e1 (by omega)
          clear d0 d1 d2 d3 hM hst hwt hg hb0 hb1 cP a1 r0 r1 r2 r3 h0 h1 h2 h3 eb P2 hlow
          obtain ⟨⟨d0, d1⟩, f0, f1⟩ := cells2t e0
          obtain ⟨⟨d2, d3⟩, f2, f3⟩ := cells2t e3
          simp only [set2] at d2 d3 f2 f3
          dsimp only
          (try (simp only [Act.put, List.setIfInBounds_toArray, List.set]))
          (refine xtakeV 8 (v := ?_) (by simp only [List.getElem?_toArray, List.getElem?_cons, reduceIte]; rfl) (by kernel_rfl) (by rfl) (fun w' hw' => ?_) ?_; rotate_left; focus (skip; go_simp; first | done | with_reducible rfl)); (simp only [Act.put, List.setIfInBounds_toArray, List.set])
          (refine xtakeV 9 (v := ?_) (by simp only [List.getElem?_toArray, List.getElem?_cons, reduceIte]; rfl) (by kernel_rfl) (by rfl) (fun w' hw' => ?_) ?_; rotate_left; focus (skip; go_simp; first | done | with_reducible rfl)); (simp only [Act.put, List.setIfInBounds_toArray, List.set])
          (refine xtakeV 10 (v := ?_) (by simp only [List.getElem?_toArray, List.getElem?_cons, reduceIte]; rfl) (by kernel_rfl) (by rfl) (fun w' hw' => ?_) ?_; rotate_left; focus (skip; go_simp; first | done | with_reducible rfl)); (simp only [Act.put, List.setIfInBounds_toArray, List.set])
          (refine xtakeV 11 (v := ?_) (by simp only [List.getElem?_toArray, List.getElem?_cons, reduceIte]; rfl) (by kernel_rfl) (by rfl) (fun w' hw' => ?_) ?_; rotate_left; focus (skip; go_simp; first | done | with_reducible rfl)); (simp only [Act.put, List.setIfInBounds_toArray, List.set])
          (refine xone 12 (by kernel_rfl) (a3) (RunX.of 12 (by simp only [List.getElem?_toArray, List.getElem?_cons, reduceIte]; rfl) (by rfl) ?_))
          go_simp
          (try (simp only [Act.put, List.setIfInBounds_toArray, List.set]))
          (refine xone 13 (by kernel_rfl) (a4) (RunX.of 13 (by simp only [List.getElem?_toArray, List.getElem?_cons, reduceIte]; rfl) (by rfl) ?_))
          go_simp
          (try (simp only [Act.put, List.setIfInBounds_toArray, List.set]))
          (refine xtakeV 14 (v := ?_) (by simp only [List.getElem?_toArray, List.getElem?_cons, reduceIte]; rfl) (by kernel_rfl) (by rfl) (fun w' hw' => ?_) ?_; rotate_left; focus (skip; go_simp; first | done | with_reducible rfl)); (simp only [Act.put, List.setIfInBounds_toArray, List.set])
          (refine xdone (by kernel_rfl) (a5) ?_)
          clear d0 d1 d2 d3 f0 f1 f2 f3 e0 e1 e2 e3 a3 a4 a5 xw3
          obtain ⟨W4, hW4⟩ : ∃ W4, W4 = set2 (set2 w3 nb (.slice ra rn rc) (.slice sa sn sc)) (nb + 1) (.slice ta tn tc) (.slice ua un uc) := ⟨_, rfl⟩
          have hW5 := hW4
          simp only [set2] at hW5
          rw [← hW4] at HG X4
          rw [← hW5]
          clear hW4 hW5
          cases r
          · have P4 := HG
            have a6 := HAT.out W4 P4.out.ext
            obtain ⟨q0, q1, q2, q3, q4⟩ := a6
            clear HG X4
            go_wp2_with fail
            (refine wp_region_X_lit (K := fun W => ActAt W b (off + k * 5) Y) (by kernel_rfl) (fun w1 hw1 => ?_))
            have P5 := Lib.hid (P4.out.more hw1)
            have b1 := HAT.out w1 P5.out.ext
            clear hw1 P4
            obtain ⟨P, x, L, F, hg⟩ := P5.out
            (refine xtakeV 0 (v := ?_) (by simp only [List.getElem?_toArray, List.getElem?_cons, reduceIte]; rfl) (by kernel_rfl) (by rfl) (fun w' hw' => ?_) ?_; rotate_left; focus (skip; go_simp; first | done | with_reducible rfl)); (simp only [Act.put, List.setIfInBounds_toArray, List.set])
            (refine xtakeV 1 (v := ?_) (by simp only [List.getElem?_toArray, List.getElem?_cons, reduceIte]; rfl) (by kernel_rfl) (by rfl) (fun w' hw' => ?_) ?_; rotate_left; focus (skip; go_simp; first | done | with_reducible rfl)); (simp only [Act.put, List.setIfInBounds_toArray, List.set])
            (refine xtakeV 2 (v := ?_) (by simp only [List.getElem?_toArray, List.getElem?_cons, reduceIte]; rfl) (by kernel_rfl) (by rfl) (fun w' hw' => ?_) ?_; rotate_left; focus (skip; go_simp; first | done | with_reducible rfl)); (simp only [Act.put, List.setIfInBounds_toArray, List.set])
            (refine xtakeV 3 (v := ?_) (by simp only [List.getElem?_toArray, List.getElem?_cons, reduceIte]; rfl) (by kernel_rfl) (by rfl) (fun w' hw' => ?_) ?_; rotate_left; focus (skip; go_simp; first | done | with_reducible rfl)); (simp only [Act.put, List.setIfInBounds_toArray, List.set])
            (refine xtakeV 4 (v := ?_) (by simp only [List.getElem?_toArray, List.getElem?_cons, reduceIte]; rfl) (by kernel_rfl) (by rfl) (fun w' hw' => ?_) ?_; rotate_left; focus (skip; go_simp; first | done | with_reducible rfl)); (simp only [Act.put, List.setIfInBounds_toArray, List.set])
            (refine xtakeV 5 (v := ?_) (by simp only [List.getElem?_toArray, List.getElem?_cons, reduceIte]; rfl) (by kernel_rfl) (by rfl) (fun w' hw' => ?_) ?_; rotate_left; focus (obtain ⟨q0, q1, q2, q3, q4⟩ := hw'; go_simp; first | done | with_reducible rfl)); (simp only [Act.put, List.setIfInBounds_toArray, List.set])
            (refine xtakeV 6 (v := ?_) (by simp only [List.getElem?_toArray, List.getElem?_cons, reduceIte]; rfl) (by kernel_rfl) (by rfl) (fun w' hw' => ?_) ?_; rotate_left; focus (skip; go_simp; first | done | with_reducible rfl)); (simp only [Act.put, List.setIfInBounds_toArray, List.set])
            (refine xtakeV 7 (v := ?_) (by simp only [List.getElem?_toArray, List.getElem?_cons, reduceIte]; rfl) (by kernel_rfl) (by rfl) (fun w' hw' => ?_) ?_; rotate_left; focus (skip; go_simp; first | done | with_reducible rfl)); (simp only [Act.put, List.setIfInBounds_toArray, List.set])
            (refine xtakeV 8 (v := ?_) (by simp only [List.getElem?_toArray, List.getElem?_cons, reduceIte]; rfl) (by kernel_rfl) (by rfl) (fun w' hw' => ?_) ?_; rotate_left; focus (skip; go_simp; first | done | with_reducible rfl)); (simp only [Act.put, List.setIfInBounds_toArray, List.set])
            (refine xtakeV 9 (v := ?_) (by simp only [List.getElem?_toArray, List.getElem?_cons, reduceIte]; rfl) (by kernel_rfl) (by rfl) (fun w' hw' => ?_) ?_; rotate_left; focus (skip; go_simp; first | done | with_reducible rfl)); (simp only [Act.put, List.setIfInBounds_toArray, List.set])
            (refine xtakeV 10 (v := ?_) (by simp only [List.getElem?_toArray, List.getElem?_cons, reduceIte]; rfl) (by kernel_rfl) (by rfl) (fun w' hw' => ?_) ?_; rotate_left; focus (obtain ⟨q0, q1, q2, q3, q4⟩ := hw'; go_simp; first | done | with_reducible rfl)); (simp only [Act.put, List.setIfInBounds_toArray, List.set])
            (refine xone 11 (by kernel_rfl) (b1) (RunX.of 11 (by simp only [List.getElem?_toArray, List.getElem?_cons, reduceIte]; rfl) (by rfl) ?_))
            go_simp
            refine (iCome (HST.out.ext hg.wt.ext) hg.wt.e Y.sd Y.n (hg.inv.got (by have := HR.out.1; omega) _)).mono ?_
            rintro ev w7 ⟨F7, rfl, n7, o7, g7⟩
            have P7 : Hid (Gg w w7 nb p VV RR (2 * (k + 1))) := Lib.hid ⟨_, _, _, _, hg.moves n7 o7 g7 (hg.inv.come Y.sd Y.n)⟩
            clear n7 o7 g7 hg P5 b1 q0 q1 q2 q3 q4
            have b7 := HAT.out w7 P7.out.ext
            dsimp only
            (try (simp only [Act.put, List.setIfInBounds_toArray, List.set]))
            (refine xdone (by kernel_rfl) (b7) ?_)
            clear b7
            go_wp2
            exact ⟨⟨k + 1, hlt, by go_num, P7⟩, by simp [intOf]; omega⟩

          · have P4 := HG
            clear HG X4
            go_wp2
            exact ⟨⟨k + 1, hlt, by go_num, Lib.hid (by have h9 := P4.out.up; exact h9)⟩, by simp [intOf]; omega⟩

    · go_wp2
      go_ret
      exact ⟨rfl, HP.out.ext⟩
end Go.Proofs.YtcjoemkplghonaaDoor
