/- PipeOnce: what a side is told is a beginning of what the other one sent. -/
import Derived.Test.YtcjoemkplghonaaDoorMS
import Derived.BigGuard
namespace Go.Proofs.YtcjoemkplghonaaDoor
open Go.RowKit

set_option linter.unusedVariables false

set_option maxRecDepth 100000 in
set_option maxHeartbeats 32000000 in
theorem ponce_any (w : World) (hs : Std w) (v : Value) (l : List Act10) (h : Sl w v l) (hin : ∀ y ∈ l, -9223372036854775808 ≤ y.x ∧ y.x ≤ 9223372036854775807) (e : Int) (first : Nat) (hf : first < 18446744073709551616) (win qn wait room : Int) :
    Calls Tryd.prog 3 #[.int .i64 e, .int .u64 (first : Int), .int .i64 win, .int .i64 qn, .int .i64 wait, .int .i64 room, v] w (GivesB w (.bool true)) := by
  have hlen := h.length_le
  have HS := Lib.hid h
  have HST := Lib.hid hs
  have HIN := Lib.hid hin
  obtain ⟨ao, c, rfl⟩ := h.len
  clear h hs hin
  go_enter Tryd.func3, Tryd.ntmps3
  (try dsimp only [List.append])
  go_wp2_with fail
  refine (iNew (w := w) HST.out e first win qn wait room hf).mono ?_
  rintro ev w0 ⟨p, F0, rfl, n, o, g⟩
  have N0 : Hid (Pipe1 w w0 p (PipeS.new e first win qn wait room) F0) := Lib.hid ⟨n, o, g⟩
  clear n o g
  go_wp2_with fail
  refine (awake_any w0 (HST.out.ext N0.out.2.2)).mono ?_
  rintro ev w1 ⟨rfl, x1⟩
  have N1 := Lib.hid (N0.out.ext x1)
  clear x1 N0
  go_wp2_with fail
  refine (few_any w1 _ l (HS.out.ext N1.out.2.2)).mono ?_
  rintro ev w2 ⟨r, rfl, hr, rfl⟩
  cases r
  · clear hr
    go_wp2_with fail
    refine (awake_any w1 (HST.out.ext N1.out.2.2)).mono ?_
    rintro ev w2 ⟨rfl, x2⟩
    have X2 := Lib.hid (Ext.trans N1.out.2.2 x2)
    clear x2
    go_wp2
    go_ret
    exact ⟨rfl, X2.out⟩
  have HR := Lib.hid (hr rfl)
  clear hr
  have G0 : Hid (Gm w ((w1.alloc (.cells zz 29 (0, 0))).alloc (.cells zz 29 (0, 0))) w1.heap.size p first e (NetS.new 2 room).room 0) :=
    Lib.hid (Gm.new hf N1.out (((Ext.refl w1).alloc _).alloc _) (Nat.le_refl _) (blk_alloc (get_alloc_new w1 _) _) (by
      have := get_alloc_new (w1.alloc (.cells zz 29 (0, 0))) (.cells zz 29 (0, 0))
      rwa [size_alloc] at this))
  unfold zz at G0
  go_wp2
  obtain ⟨nb, hnb⟩ : ∃ nb, nb = w1.heap.size := ⟨_, rfl⟩
  obtain ⟨WC, hWC⟩ : ∃ WC, WC = (w1.alloc (.cells #[.slice none 0 0, .slice none 0 0] 29 (0, 0))).alloc (.cells #[.slice none 0 0, .slice none 0 0] 29 (0, 0)) := ⟨_, rfl⟩
  rw [← hWC, ← hnb] at G0 ⊢
  clear hnb hWC N1
  go_loopw [18] (fun i wr => ∃ k : Nat, k ≤ l.length ∧ i = .int .i64 (k : Int) ∧ Hid (Gm w wr nb p first e (NetS.new 2 room).room k)) (fun i _ => l.length - (intOf i).toNat)
  case atStart => exact ⟨0, Nat.zero_le _, rfl, G0⟩
  case round =>
    obtain ⟨k, hk, rfl, HP⟩ := hrel
    clear G0
    by_cases hlt : k < l.length
    · have hm : l.getD k dA ∈ l := by simp [hlt]
      have hs2 := HR.out.2 _ hm
      have HI2 := Lib.hid (HIN.out _ hm)
      obtain ⟨b, off, rfl, _, hcl, hbl, hat⟩ := act_here HS.out HP.out.ext hlt
      have HAT : Hid (∀ W, Ext w W → ActAt W b (off + k * 5) (l.getD k dA)) := Lib.hid (fun W x => by
        obtain ⟨b', off', hv, _, _, _, h9⟩ := act_here HS.out x hlt
        simp only [Option.some.injEq, Addr.mk.injEq, and_true] at hv
        obtain ⟨rfl, rfl⟩ := hv
        exact h9)
      obtain ⟨Y, hY⟩ : ∃ Y, Y = l.getD k dA := ⟨_, rfl⟩
      rw [← hY] at hat hs2 HAT HI2
      clear hY hm hat
      have hkc : (k : Int) ≤ (c : Int) := by omega
      have hkl : (k : Int) < (l.length : Int) := by omega
      have hn2 : IntKind.i64.wrap ((k : Int) + 1) = (k : Int) + 1 := wrapN _ (by omega) (by omega)
      go_wp2_with fail
      (refine wp_region_X_lit (K := fun W => ActAt W b (off + k * 5) Y) (by kernel_rfl) (fun w1 hw1 => ?_))
      have P2 := Lib.hid (HP.out.more hw1)
      have a1 := HAT.out w1 P2.out.ext
      clear hw1
      obtain ⟨P, x, L, F, O0, O1, hg⟩ := P2.out
      obtain ⟨⟨a0, n0, c0⟩, h0⟩ : ∃ s, x 0 = s := ⟨_, rfl⟩
      obtain ⟨⟨a1', n1, c1⟩, h1⟩ : ∃ s, x 1 = s := ⟨_, rfl⟩
      obtain ⟨⟨a2, n2, c2⟩, h2⟩ : ∃ s, x 2 = s := ⟨_, rfl⟩
      obtain ⟨⟨a3', n3, c3⟩, h3⟩ : ∃ s, x 3 = s := ⟨_, rfl⟩
      have hb0 := hg.b0
      have hb1 := hg.b1
      rw [two2_of (i := 0) h0 h1] at hb0
      rw [two2_of (i := 2) h2 h3] at hb1
      obtain ⟨⟨d0, d1⟩, _⟩ := cells2t hb0
      obtain ⟨⟨d2, d3⟩, _⟩ := cells2t hb1
      (refine xtakeV 0 (v := ?_) (by simp only [List.getElem?_toArray, List.getElem?_cons, reduceIte]; rfl) (by kernel_rfl) (by rfl) (fun w' hw' => ?_) ?_; rotate_left; focus (skip; go_simp; first | done | with_reducible rfl)); (simp only [Act.put, List.setIfInBounds_toArray, List.set])
      (refine xtakeV 1 (v := ?_) (by simp only [List.getElem?_toArray, List.getElem?_cons, reduceIte]; rfl) (by kernel_rfl) (by rfl) (fun w' hw' => ?_) ?_; rotate_left; focus (skip; go_simp; first | done | with_reducible rfl)); (simp only [Act.put, List.setIfInBounds_toArray, List.set])
      (refine xtakeV 2 (v := ?_) (by simp only [List.getElem?_toArray, List.getElem?_cons, reduceIte]; rfl) (by kernel_rfl) (by rfl) (fun w' hw' => ?_) ?_; rotate_left; focus (skip; go_simp; first | done | with_reducible rfl)); (simp only [Act.put, List.setIfInBounds_toArray, List.set])
      (refine xtakeV 3 (v := ?_) (by simp only [List.getElem?_toArray, List.getElem?_cons, reduceIte]; rfl) (by kernel_rfl) (by rfl) (fun w' hw' => ?_) ?_; rotate_left; focus (skip; go_simp; first | done | with_reducible rfl)); (simp only [Act.put, List.setIfInBounds_toArray, List.set])
      (refine xtakeV 4 (v := ?_) (by simp only [List.getElem?_toArray, List.getElem?_cons, reduceIte]; rfl) (by kernel_rfl) (by rfl) (fun w' hw' => ?_) ?_; rotate_left; focus (obtain ⟨q0, q1, q2, q3, q4⟩ := hw'; go_simp; first | done | with_reducible rfl)); (simp only [Act.put, List.setIfInBounds_toArray, List.set])
      (refine xtwo 5 6 (by kernel_rfl) (a1) (RunX.of 5 (by simp only [List.getElem?_toArray, List.getElem?_cons, reduceIte]; rfl) (by rfl) ?_) (RunX.of 6 (by simp only [List.getElem?_toArray, List.getElem?_cons, reduceIte]; rfl) (by rfl) ?_))
      · go_simp
        (try (simp only [Act.put, List.setIfInBounds_toArray, List.set]))
        (refine xone 6 (by kernel_rfl) (a1) (RunX.of 6 (by simp only [List.getElem?_toArray, List.getElem?_cons, reduceIte]; rfl) (by rfl) ?_))
        go_simp
        (try (simp only [Act.put, List.setIfInBounds_toArray, List.set]))
        (refine xone 7 (by kernel_rfl) (a1) (RunX.of 7 (by simp only [List.getElem?_toArray, List.getElem?_cons, reduceIte]; rfl) (by rfl) ?_))
        go_simp
        have cP := play_any w w1 w1 (Bx2 nb) HST.out p P L x F hg.wt Y (by have := hs2; omega) HI2.out (hg.inv.few (by have := HR.out.1; omega)) (hg.inv.got (by have := HR.out.1; omega))
        rw [two2_of (i := 0) h0 h1, two2_of (i := 2) h2 h3] at cP
        unfold Act10.v at cP
        obtain ⟨M, hM⟩ : ∃ M, M = playM P L Y := ⟨_, rfl⟩
        have hst := hg.inv.step (by have := HR.out.1; omega) Y
        rw [← hM] at cP hst
        obtain ⟨P', L', r⟩ := M
        dsimp only at cP hst
        refine cP.mono ?_
        rintro ev w3 ⟨x', F', rfl, hwt⟩
        have hlow := hg.low
        have e0 := (hwt.kp nb (.inl rfl)).2.trans hb0
        have e1 := (hwt.kp (nb + 1) (.inr rfl)).2.trans hb1
        have xw3 := hwt.ext
        have a3 := HAT.out w3 xw3
        obtain ⟨⟨ra, rn, rc⟩, r0⟩ : ∃ s, x' 0 = s := ⟨_, rfl⟩
        obtain ⟨⟨sa, sn, sc⟩, r1⟩ : ∃ s, x' 1 = s := ⟨_, rfl⟩
        obtain ⟨⟨ta, tn, tc⟩, r2⟩ : ∃ s, x' 2 = s := ⟨_, rfl⟩
        obtain ⟨⟨ua, un, uc⟩, r3⟩ : ∃ s, x' 3 = s := ⟨_, rfl⟩
        rw [two2_of (i := 0) r0 r1, two2_of (i := 2) r2 r3]
        have eb := two2_blks e0 e1 (.slice ra rn rc) (.slice sa sn sc) (.slice ta tn tc) (.slice ua un uc)
        have HG : Hid (r = true → Gm w (set2 (set2 w3 nb (.slice ra rn rc) (.slice sa sn sc)) (nb + 1) (.slice ta tn tc) (.slice ua un uc)) nb p first e (NetS.new 2 room).room (k + 1)) := Lib.hid (fun hr => by
          obtain ⟨Oa, Ob, hi⟩ := hst hr
          exact Gm.of hwt hi hlow (off_two2 w3 nb _ _ _ _) (by rw [two2_of (i := 0) r0 r1]; exact eb.1) (by rw [two2_of (i := 2) r2 r3]; exact eb.2))
        have X4 : Hid (Ext w (set2 (set2 w3 nb (.slice ra rn rc) (.slice sa sn sc)) (nb + 1) (.slice ta tn tc) (.slice ua un uc))) := Lib.hid (below_set2 (below_set2 xw3 hlow _ _) (by omega) _ _)
        have a4 := HAT.out _ (below_set2 xw3 hlow (.slice ra rn rc) (.slice sa sn sc))
        have a5 := HAT.out _ X4.out
        have e2 := set2_blk e0 (.slice ra rn rc) (.slice sa sn sc)
        have e3 := (off_set2 w3 nb (.slice ra rn rc) (.slice sa sn sc)).blk e1 (by omega)
        clear d0 d1 d2 d3 hM hst hwt hg hb0 hb1 cP a1 r0 r1 r2 r3 h0 h1 h2 h3 eb P2 hlow
        obtain ⟨⟨d0, d1⟩, f0, f1⟩ := cells2t e0
        obtain ⟨⟨d2, d3⟩, f2, f3⟩ := cells2t e3
        simp only [set2] at d2 d3 f2 f3
        dsimp only
        (try (simp only [Act.put, List.setIfInBounds_toArray, List.set]))
        (refine xtakeV 8 (v := ?_) (by simp only [List.getElem?_toArray, List.getElem?_cons, reduceIte]; rfl) (by kernel_rfl) (by rfl) (fun w' hw' => ?_) ?_; rotate_left; focus (skip; go_simp; first | done | with_reducible rfl)); (simp only [Act.put, List.setIfInBounds_toArray, List.set])
        (refine xtakeV 9 (v := ?_) (by simp only [List.getElem?_toArray, List.getElem?_cons, reduceIte]; rfl) (by kernel_rfl) (by rfl) (fun w' hw' => ?_) ?_; rotate_left; focus (skip; go_simp; first | done | with_reducible rfl)); (simp only [Act.put, List.setIfInBounds_toArray, List.set])
        (refine xtakeV 10 (v := ?_) (by simp only [List.getElem?_toArray, List.getElem?_cons, reduceIte]; rfl) (by kernel_rfl) (by rfl) (fun w' hw' => ?_) ?_; rotate_left; focus (skip; go_simp; first | done | with_reducible rfl)); (simp only [Act.put, List.setIfInBounds_toArray, List.set])
        (refine xtakeV 11 (v := ?_) (by simp only [List.getElem?_toArray, List.getElem?_cons, reduceIte]; rfl) (by kernel_rfl) (by rfl) (fun w' hw' => ?_) ?_; rotate_left; focus (skip; go_simp; first | done | with_reducible rfl)); (simp only [Act.put, List.setIfInBounds_toArray, List.set])
        (refine xone 12 (by kernel_rfl) (a3) (RunX.of 12 (by simp only [List.getElem?_toArray, List.getElem?_cons, reduceIte]; rfl) (by rfl) ?_))
        go_simp
        (try (simp only [Act.put, List.setIfInBounds_toArray, List.set]))
        (refine xone 13 (by kernel_rfl) (a4) (RunX.of 13 (by simp only [List.getElem?_toArray, List.getElem?_cons, reduceIte]; rfl) (by rfl) ?_))
        go_simp
        (try (simp only [Act.put, List.setIfInBounds_toArray, List.set]))
        (refine xtakeV 14 (v := ?_) (by simp only [List.getElem?_toArray, List.getElem?_cons, reduceIte]; rfl) (by kernel_rfl) (by rfl) (fun w' hw' => ?_) ?_; rotate_left; focus (skip; go_simp; first | done | with_reducible rfl)); (simp only [Act.put, List.setIfInBounds_toArray, List.set])
        (refine xdone (by kernel_rfl) (a5) ?_)
        clear d0 d1 d2 d3 f0 f1 f2 f3 e0 e1 e2 e3 a3 a4 a5 xw3
        obtain ⟨W4, hW4⟩ : ∃ W4, W4 = set2 (set2 w3 nb (.slice ra rn rc) (.slice sa sn sc)) (nb + 1) (.slice ta tn tc) (.slice ua un uc) := ⟨_, rfl⟩
        have hW5 := hW4
        simp only [set2] at hW5
        rw [← hW4] at HG X4
        rw [← hW5]
        clear hW4 hW5
        cases r
        · clear HG
          go_wp2
          go_ret
          exact ⟨rfl, X4.out⟩

        · have P4 := Lib.hid (HG.out rfl)
          clear HG X4
          go_wp2
          go_loopw [20] (fun j wi => ∃ m : Nat, m ≤ 2 ∧ j = .int .i64 (m : Int) ∧ Hid (Gm w wi nb p first e (NetS.new 2 room).room (k + 1))) (fun j _ => 2 - (intOf j).toNat)
          case atStart => exact ⟨0, by decide, rfl, P4⟩
          case round =>
            obtain ⟨m, hm2, rfl, HP2⟩ := hrel
            clear P4
            obtain rfl | rfl | rfl : m = 0 ∨ m = 1 ∨ m = 2 := by omega
            · obtain ⟨P, x, L, F, O0, O1, hg⟩ := HP2.out
              have hka := hg.inv.pair.swap.asks.1
              have hl8 := hg.inv.few (by have := HR.out.1; omega) 3 (by decide)
              have cG := Lib.hid (iGot hg.wt.e 0 (hg.inv.got (by have := HR.out.1; omega) 0))
              obtain ⟨⟨a2, n2, c2⟩, h2⟩ : ∃ s, x 2 = s := ⟨_, rfl⟩
              obtain ⟨⟨a3, n3, c3⟩, h3⟩ : ∃ s, x 3 = s := ⟨_, rfl⟩
              go_wp2_with fail
              refine cG.out.mono ?_
              rintro ev w5 ⟨ga, gn, gc, F5, rfl, hl, hap, n5, o5, g5⟩
              have hgl : gn = (P.g0).length := gots_len hl
              subst hgl
              have hg2 := hg.moves n5 o5 g5 hg.inv
              have hb1 := hg2.b1
              rw [two2_of (i := 2) h2 h3] at hb1
              obtain ⟨⟨d2, d3⟩, _⟩ := cells2t hb1
              obtain ⟨ao2, c9, hv, hc9, hcut⟩ := sl_begin (hg2.wt.own (i := 3) (by decide) h3).1.sl hka.1 hka.2
              simp only [Value.slice.injEq] at hv
              obtain ⟨rfl, rfl, rfl⟩ := hv
              have v0 : ¬ (((L 3).length : Int) < ((P.g0).length : Int)) := by have := hka.1; omega
              have v0d : decide (((L 3).length : Int) < ((P.g0).length : Int)) = false := decide_eq_false v0
              have v0n : decide ((L 3).length < (P.g0).length) = false := decide_eq_false (by have := hka.1; omega)
              have v0m : ¬ (L 3).length < (P.g0).length := by have := hka.1; omega
              have v2 : (((P.g0).length : Nat) : Int) ≤ (c3 : Int) := by omega
              have v4 : IntKind.i64.wrap 1 = 1 := by kernel_rfl
              have v5 : IntKind.i64.wrap 0 = 0 := by kernel_rfl
              have cT := refTexts_any w5 _ _ (P.g0) (P.g0) hl hcut
              rw [decide_eq_true (show P.g0 = P.g0 from rfl)] at cT
              replace cT := Lib.hid cT
              have HG2 : Hid (Gm w w5 nb p first e (NetS.new 2 room).room (k + 1)) := Lib.hid ⟨_, _, _, _, _, _, hg2⟩
              clear hg hg2 hl hap n5 o5 g5 hka hb1 hcut cG hl8 h2 h3
              go_wp2_with fail
              refine cT.out.mono ?_
              rintro ev w6 ⟨rfl, x6⟩
              have HP6 := Lib.hid (HG2.out.more x6)
              clear x6 HG2 cT d2 d3
              go_wp2
              exact ⟨⟨1, by decide, by go_num, HP6⟩, by simp [intOf]⟩
            · obtain ⟨P, x, L, F, O0, O1, hg⟩ := HP2.out
              have hka := hg.inv.pair.asks.1
              have hl8 := hg.inv.few (by have := HR.out.1; omega) 2 (by decide)
              have cG := Lib.hid (iGot hg.wt.e 1 (hg.inv.got (by have := HR.out.1; omega) 1))
              obtain ⟨⟨a2, n2, c2⟩, h2⟩ : ∃ s, x 2 = s := ⟨_, rfl⟩
              obtain ⟨⟨a3, n3, c3⟩, h3⟩ : ∃ s, x 3 = s := ⟨_, rfl⟩
              go_wp2_with fail
              refine cG.out.mono ?_
              rintro ev w5 ⟨ga, gn, gc, F5, rfl, hl, hap, n5, o5, g5⟩
              have hgl : gn = (P.g1).length := gots_len hl
              subst hgl
              have hg2 := hg.moves n5 o5 g5 hg.inv
              have hb1 := hg2.b1
              rw [two2_of (i := 2) h2 h3] at hb1
              obtain ⟨⟨d2, d3⟩, _⟩ := cells2t hb1
              obtain ⟨ao2, c9, hv, hc9, hcut⟩ := sl_begin (hg2.wt.own (i := 2) (by decide) h2).1.sl hka.1 hka.2
              simp only [Value.slice.injEq] at hv
              obtain ⟨rfl, rfl, rfl⟩ := hv
              have v0 : ¬ (((L 2).length : Int) < ((P.g1).length : Int)) := by have := hka.1; omega
              have v0d : decide (((L 2).length : Int) < ((P.g1).length : Int)) = false := decide_eq_false v0
              have v0n : decide ((L 2).length < (P.g1).length) = false := decide_eq_false (by have := hka.1; omega)
              have v0m : ¬ (L 2).length < (P.g1).length := by have := hka.1; omega
              have v2 : (((P.g1).length : Nat) : Int) ≤ (c2 : Int) := by omega
              have v4 : IntKind.i64.wrap 1 = 1 := by kernel_rfl
              have v5 : IntKind.i64.wrap 0 = 0 := by kernel_rfl
              have cT := refTexts_any w5 _ _ (P.g1) (P.g1) hl hcut
              rw [decide_eq_true (show P.g1 = P.g1 from rfl)] at cT
              replace cT := Lib.hid cT
              have HG2 : Hid (Gm w w5 nb p first e (NetS.new 2 room).room (k + 1)) := Lib.hid ⟨_, _, _, _, _, _, hg2⟩
              clear hg hg2 hl hap n5 o5 g5 hka hb1 hcut cG hl8 h2 h3
              go_wp2_with fail
              refine cT.out.mono ?_
              rintro ev w6 ⟨rfl, x6⟩
              have HP6 := Lib.hid (HG2.out.more x6)
              clear x6 HG2 cT d2 d3
              go_wp2
              exact ⟨⟨2, by decide, by go_num, HP6⟩, by simp [intOf]⟩
            · go_wp2
              exact ⟨⟨k + 1, hlt, by go_num, HP2⟩, by simp [intOf]; omega⟩

      · go_simp
        (try (simp only [Act.put, List.setIfInBounds_toArray, List.set]))
        (refine xone 5 (by kernel_rfl) (a1) (RunX.of 5 (by simp only [List.getElem?_toArray, List.getElem?_cons, reduceIte]; rfl) (by rfl) ?_))
        go_simp
        (try (simp only [Act.put, List.setIfInBounds_toArray, List.set]))
        (refine xone 7 (by kernel_rfl) (a1) (RunX.of 7 (by simp only [List.getElem?_toArray, List.getElem?_cons, reduceIte]; rfl) (by rfl) ?_))
        go_simp
        have cP := play_any w w1 w1 (Bx2 nb) HST.out p P L x F hg.wt Y (by have := hs2; omega) HI2.out (hg.inv.few (by have := HR.out.1; omega)) (hg.inv.got (by have := HR.out.1; omega))
        rw [two2_of (i := 0) h0 h1, two2_of (i := 2) h2 h3] at cP
        unfold Act10.v at cP
        obtain ⟨M, hM⟩ : ∃ M, M = playM P L Y := ⟨_, rfl⟩
        have hst := hg.inv.step (by have := HR.out.1; omega) Y
        rw [← hM] at cP hst
        obtain ⟨P', L', r⟩ := M
        dsimp only at cP hst
        refine cP.mono ?_
        rintro ev w3 ⟨x', F', rfl, hwt⟩
        have hlow := hg.low
        have e0 := (hwt.kp nb (.inl rfl)).2.trans hb0
        have e1 := (hwt.kp (nb + 1) (.inr rfl)).2.trans hb1
        have xw3 := hwt.ext
        have a3 := HAT.out w3 xw3
        obtain ⟨⟨ra, rn, rc⟩, r0⟩ : ∃ s, x' 0 = s := ⟨_, rfl⟩
        obtain ⟨⟨sa, sn, sc⟩, r1⟩ : ∃ s, x' 1 = s := ⟨_, rfl⟩
        obtain ⟨⟨ta, tn, tc⟩, r2⟩ : ∃ s, x' 2 = s := ⟨_, rfl⟩
        obtain ⟨⟨ua, un, uc⟩, r3⟩ : ∃ s, x' 3 = s := ⟨_, rfl⟩
        rw [two2_of (i := 0) r0 r1, two2_of (i := 2) r2 r3]
        have eb := two2_blks e0 e1 (.slice ra rn rc) (.slice sa sn sc) (.slice ta tn tc) (.slice ua un uc)
        have HG : Hid (r = true → Gm w (set2 (set2 w3 nb (.slice ra rn rc) (.slice sa sn sc)) (nb + 1) (.slice ta tn tc) (.slice ua un uc)) nb p first e (NetS.new 2 room).room (k + 1)) := Lib.hid (fun hr => by
          obtain ⟨Oa, Ob, hi⟩ := hst hr
          exact Gm.of hwt hi hlow (off_two2 w3 nb _ _ _ _) (by rw [two2_of (i := 0) r0 r1]; exact eb.1) (by rw [two2_of (i := 2) r2 r3]; exact eb.2))
        have X4 : Hid (Ext w (set2 (set2 w3 nb (.slice ra rn rc) (.slice sa sn sc)) (nb + 1) (.slice ta tn tc) (.slice ua un uc))) := Lib.hid (below_set2 (below_set2 xw3 hlow _ _) (by omega) _ _)
        have a4 := HAT.out _ (below_set2 xw3 hlow (.slice ra rn rc) (.slice sa sn sc))
        have a5 := HAT.out _ X4.out
        have e2 := set2_blk e0 (.slice ra rn rc) (.slice sa sn sc)
        have e3 := (off_set2 w3 nb (.slice ra rn rc) (.slice sa sn sc)).blk e1 (by omega)
        clear d0 d1 d2 d3 hM hst hwt hg hb0 hb1 cP a1 r0 r1 r2 r3 h0 h1 h2 h3 eb P2 hlow
        obtain ⟨⟨d0, d1⟩, f0, f1⟩ := cells2t e0
        obtain ⟨⟨d2, d3⟩, f2, f3⟩ := cells2t e3
        simp only [set2] at d2 d3 f2 f3
        dsimp only
        (try (simp only [Act.put, List.setIfInBounds_toArray, List.set]))
        (refine xtakeV 8 (v := ?_) (by simp only [List.getElem?_toArray, List.getElem?_cons, reduceIte]; rfl) (by kernel_rfl) (by rfl) (fun w' hw' => ?_) ?_; rotate_left; focus (skip; go_simp; first | done | with_reducible rfl)); (simp only [Act.put, List.setIfInBounds_toArray, List.set])
        (refine xtakeV 9 (v := ?_) (by simp only [List.getElem?_toArray, List.getElem?_cons, reduceIte]; rfl) (by kernel_rfl) (by rfl) (fun w' hw' => ?_) ?_; rotate_left; focus (skip; go_simp; first | done | with_reducible rfl)); (simp only [Act.put, List.setIfInBounds_toArray, List.set])
        (refine xtakeV 10 (v := ?_) (by simp only [List.getElem?_toArray, List.getElem?_cons, reduceIte]; rfl) (by kernel_rfl) (by rfl) (fun w' hw' => ?_) ?_; rotate_left; focus (skip; go_simp; first | done | with_reducible rfl)); (simp only [Act.put, List.setIfInBounds_toArray, List.set])
        (refine xtakeV 11 (v := ?_) (by simp only [List.getElem?_toArray, List.getElem?_cons, reduceIte]; rfl) (by kernel_rfl) (by rfl) (fun w' hw' => ?_) ?_; rotate_left; focus (skip; go_simp; first | done | with_reducible rfl)); (simp only [Act.put, List.setIfInBounds_toArray, List.set])
        (refine xone 12 (by kernel_rfl) (a3) (RunX.of 12 (by simp only [List.getElem?_toArray, List.getElem?_cons, reduceIte]; rfl) (by rfl) ?_))
        go_simp
        (try (simp only [Act.put, List.setIfInBounds_toArray, List.set]))
        (refine xone 13 (by kernel_rfl) (a4) (RunX.of 13 (by simp only [List.getElem?_toArray, List.getElem?_cons, reduceIte]; rfl) (by rfl) ?_))
        go_simp
        (try (simp only [Act.put, List.setIfInBounds_toArray, List.set]))
        (refine xtakeV 14 (v := ?_) (by simp only [List.getElem?_toArray, List.getElem?_cons, reduceIte]; rfl) (by kernel_rfl) (by rfl) (fun w' hw' => ?_) ?_; rotate_left; focus (skip; go_simp; first | done | with_reducible rfl)); (simp only [Act.put, List.setIfInBounds_toArray, List.set])
        (refine xdone (by kernel_rfl) (a5) ?_)
        clear d0 d1 d2 d3 f0 f1 f2 f3 e0 e1 e2 e3 a3 a4 a5 xw3
        obtain ⟨W4, hW4⟩ : ∃ W4, W4 = set2 (set2 w3 nb (.slice ra rn rc) (.slice sa sn sc)) (nb + 1) (.slice ta tn tc) (.slice ua un uc) := ⟨_, rfl⟩
        have hW5 := hW4
        simp only [set2] at hW5
        rw [← hW4] at HG X4
        rw [← hW5]
        clear hW4 hW5
        cases r
        · clear HG
          go_wp2
          go_ret
          exact ⟨rfl, X4.out⟩

        · have P4 := Lib.hid (HG.out rfl)
          clear HG X4
          go_wp2
          go_loopw [20] (fun j wi => ∃ m : Nat, m ≤ 2 ∧ j = .int .i64 (m : Int) ∧ Hid (Gm w wi nb p first e (NetS.new 2 room).room (k + 1))) (fun j _ => 2 - (intOf j).toNat)
          case atStart => exact ⟨0, by decide, rfl, P4⟩
          case round =>
            obtain ⟨m, hm2, rfl, HP2⟩ := hrel
            clear P4
            obtain rfl | rfl | rfl : m = 0 ∨ m = 1 ∨ m = 2 := by omega
            · obtain ⟨P, x, L, F, O0, O1, hg⟩ := HP2.out
              have hka := hg.inv.pair.swap.asks.1
              have hl8 := hg.inv.few (by have := HR.out.1; omega) 3 (by decide)
              have cG := Lib.hid (iGot hg.wt.e 0 (hg.inv.got (by have := HR.out.1; omega) 0))
              obtain ⟨⟨a2, n2, c2⟩, h2⟩ : ∃ s, x 2 = s := ⟨_, rfl⟩
              obtain ⟨⟨a3, n3, c3⟩, h3⟩ : ∃ s, x 3 = s := ⟨_, rfl⟩
              go_wp2_with fail
              refine cG.out.mono ?_
              rintro ev w5 ⟨ga, gn, gc, F5, rfl, hl, hap, n5, o5, g5⟩
              have hgl : gn = (P.g0).length := gots_len hl
              subst hgl
              have hg2 := hg.moves n5 o5 g5 hg.inv
              have hb1 := hg2.b1
              rw [two2_of (i := 2) h2 h3] at hb1
              obtain ⟨⟨d2, d3⟩, _⟩ := cells2t hb1
              obtain ⟨ao2, c9, hv, hc9, hcut⟩ := sl_begin (hg2.wt.own (i := 3) (by decide) h3).1.sl hka.1 hka.2
              simp only [Value.slice.injEq] at hv
              obtain ⟨rfl, rfl, rfl⟩ := hv
              have v0 : ¬ (((L 3).length : Int) < ((P.g0).length : Int)) := by have := hka.1; omega
              have v0d : decide (((L 3).length : Int) < ((P.g0).length : Int)) = false := decide_eq_false v0
              have v0n : decide ((L 3).length < (P.g0).length) = false := decide_eq_false (by have := hka.1; omega)
              have v0m : ¬ (L 3).length < (P.g0).length := by have := hka.1; omega
              have v2 : (((P.g0).length : Nat) : Int) ≤ (c3 : Int) := by omega
              have v4 : IntKind.i64.wrap 1 = 1 := by kernel_rfl
              have v5 : IntKind.i64.wrap 0 = 0 := by kernel_rfl
              have cT := refTexts_any w5 _ _ (P.g0) (P.g0) hl hcut
              rw [decide_eq_true (show P.g0 = P.g0 from rfl)] at cT
              replace cT := Lib.hid cT
              have HG2 : Hid (Gm w w5 nb p first e (NetS.new 2 room).room (k + 1)) := Lib.hid ⟨_, _, _, _, _, _, hg2⟩
              clear hg hg2 hl hap n5 o5 g5 hka hb1 hcut cG hl8 h2 h3
              go_wp2_with fail
              refine cT.out.mono ?_
              rintro ev w6 ⟨rfl, x6⟩
              have HP6 := Lib.hid (HG2.out.more x6)
              clear x6 HG2 cT d2 d3
              go_wp2
              exact ⟨⟨1, by decide, by go_num, HP6⟩, by simp [intOf]⟩
            · obtain ⟨P, x, L, F, O0, O1, hg⟩ := HP2.out
              have hka := hg.inv.pair.asks.1
              have hl8 := hg.inv.few (by have := HR.out.1; omega) 2 (by decide)
              have cG := Lib.hid (iGot hg.wt.e 1 (hg.inv.got (by have := HR.out.1; omega) 1))
              obtain ⟨⟨a2, n2, c2⟩, h2⟩ : ∃ s, x 2 = s := ⟨_, rfl⟩
              obtain ⟨⟨a3, n3, c3⟩, h3⟩ : ∃ s, x 3 = s := ⟨_, rfl⟩
              go_wp2_with fail
              refine cG.out.mono ?_
              rintro ev w5 ⟨ga, gn, gc, F5, rfl, hl, hap, n5, o5, g5⟩
              have hgl : gn = (P.g1).length := gots_len hl
              subst hgl
              have hg2 := hg.moves n5 o5 g5 hg.inv
              have hb1 := hg2.b1
              rw [two2_of (i := 2) h2 h3] at hb1
              obtain ⟨⟨d2, d3⟩, _⟩ := cells2t hb1
              obtain ⟨ao2, c9, hv, hc9, hcut⟩ := sl_begin (hg2.wt.own (i := 2) (by decide) h2).1.sl hka.1 hka.2
              simp only [Value.slice.injEq] at hv
              obtain ⟨rfl, rfl, rfl⟩ := hv
              have v0 : ¬ (((L 2).length : Int) < ((P.g1).length : Int)) := by have := hka.1; omega
              have v0d : decide (((L 2).length : Int) < ((P.g1).length : Int)) = false := decide_eq_false v0
              have v0n : decide ((L 2).length < (P.g1).length) = false := decide_eq_false (by have := hka.1; omega)
              have v0m : ¬ (L 2).length < (P.g1).length := by have := hka.1; omega
              have v2 : (((P.g1).length : Nat) : Int) ≤ (c2 : Int) := by omega
              have v4 : IntKind.i64.wrap 1 = 1 := by kernel_rfl
              have v5 : IntKind.i64.wrap 0 = 0 := by kernel_rfl
              have cT := refTexts_any w5 _ _ (P.g1) (P.g1) hl hcut
              rw [decide_eq_true (show P.g1 = P.g1 from rfl)] at cT
              replace cT := Lib.hid cT
              have HG2 : Hid (Gm w w5 nb p first e (NetS.new 2 room).room (k + 1)) := Lib.hid ⟨_, _, _, _, _, _, hg2⟩
              clear hg hg2 hl hap n5 o5 g5 hka hb1 hcut cG hl8 h2 h3
              go_wp2_with fail
              refine cT.out.mono ?_
              rintro ev w6 ⟨rfl, x6⟩
              have HP6 := Lib.hid (HG2.out.more x6)
              clear x6 HG2 cT d2 d3
              go_wp2
              exact ⟨⟨2, by decide, by go_num, HP6⟩, by simp [intOf]⟩
            · go_wp2
              exact ⟨⟨k + 1, hlt, by go_num, HP2⟩, by simp [intOf]; omega⟩

    · go_wp2
      go_ret
      exact ⟨rfl, HP.out.ext⟩
end Go.Proofs.YtcjoemkplghonaaDoor
