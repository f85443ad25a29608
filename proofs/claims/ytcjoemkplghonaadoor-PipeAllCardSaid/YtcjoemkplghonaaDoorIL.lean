/- PipeAll: if all that is sent comes, oldest first, and time passes, all comes. -/
import Derived.Test.YtcjoemkplghonaaDoorMT
import Derived.BigGuard
namespace Go.Proofs.YtcjoemkplghonaaDoor
open Go.RowKit

set_option linter.unusedVariables false

set_option maxRecDepth 100000 in
set_option maxHeartbeats 32000000 in
theorem pall_any (w : World) (hs : Std w) (v : Value) (l : List Act10) (h : Sl w v l) (hin : ∀ y ∈ l, -9223372036854775808 ≤ y.x ∧ y.x ≤ 9223372036854775807) (e : Int) (first : Nat) (hf : first < 18446744073709551616) (win qn wait room : Int) :
    Calls Tryd.prog 4 #[.int .i64 e, .int .u64 (first : Int), .int .i64 win, .int .i64 qn, .int .i64 wait, .int .i64 room, v] w (GivesB w (.bool true)) := by
  have hlen := h.length_le
  have HS := Lib.hid h
  have HST := Lib.hid hs
  have HIN := Lib.hid hin
  obtain ⟨ao, c, rfl⟩ := h.len
  clear h hs hin
  go_enter Tryd.func4, Tryd.ntmps4
  (try dsimp only [List.append])
  go_wp2_with fail
  refine (iNew (w := w) HST.out e first win qn wait room hf).mono ?_
  rintro ev w0 ⟨p, F0, rfl, n, o, g⟩
  have N0 : Hid (Pipe1 w w0 p (PipeS.new e first win qn wait room) F0) := Lib.hid ⟨n, o, g⟩
  clear n o g
  go_wp2_with fail
  refine (awake_any w0 (HST.out.ext N0.out.2.2)).mono ?_
  rintro ev w1 ⟨rfl, x1⟩
  have N1 := Lib.hid (N0.out.ext x1)
  clear x1 N0
  go_wp2_with fail
  refine (few_any w1 _ l (HS.out.ext N1.out.2.2)).mono ?_
  rintro ev w2 ⟨r, rfl, hr, rfl⟩
  cases r
  · clear hr
    go_wp2_with fail
    refine (awake_any w1 (HST.out.ext N1.out.2.2)).mono ?_
    rintro ev w2 ⟨rfl, x2⟩
    have X2 := Lib.hid (Ext.trans N1.out.2.2 x2)
    clear x2
    go_wp2
    go_ret
    exact ⟨rfl, X2.out⟩
  have HR := Lib.hid (hr rfl)
  clear hr
  by_cases he0 : e < 0
  · clear hlen
    go_wp2_with fail
    refine (awake_any w1 (HST.out.ext N1.out.2.2)).mono ?_
    rintro ev w2 ⟨rfl, x2⟩
    have X2 := Lib.hid (Ext.trans N1.out.2.2 x2)
    clear x2
    go_wp2
    go_ret
    exact ⟨rfl, X2.out⟩
  by_cases he1 : (65535 : Int) < e
  · clear hlen
    go_wp2_with fail
    refine (awake_any w1 (HST.out.ext N1.out.2.2)).mono ?_
    rintro ev w2 ⟨rfl, x2⟩
    have X2 := Lib.hid (Ext.trans N1.out.2.2 x2)
    clear x2
    go_wp2
    go_ret
    exact ⟨rfl, X2.out⟩
  by_cases hr8 : room < 8
  · clear hlen
    go_wp2_with fail
    refine (awake_any w1 (HST.out.ext N1.out.2.2)).mono ?_
    rintro ev w2 ⟨rfl, x2⟩
    have X2 := Lib.hid (Ext.trans N1.out.2.2 x2)
    clear x2
    go_wp2
    go_ret
    exact ⟨rfl, X2.out⟩
  have HE : Hid (EpOk e) := Lib.hid ⟨⟨by omega, by omega⟩⟩
  have HR8 : Hid (8 ≤ (NetS.new 2 room).room) := Lib.hid (by show 8 ≤ (min (max room 0) 1000).toNat; omega)
  have G0 : Hid (Gm w ((w1.alloc (.cells zz 29 (0, 0))).alloc (.cells zz 29 (0, 0))) w1.heap.size p first e (NetS.new 2 room).room 0) :=
    Lib.hid (Gm.new hf N1.out (((Ext.refl w1).alloc _).alloc _) (Nat.le_refl _) (blk_alloc (get_alloc_new w1 _) _) (by
      have := get_alloc_new (w1.alloc (.cells zz 29 (0, 0))) (.cells zz 29 (0, 0))
      rwa [size_alloc] at this))
  unfold zz at G0
  go_wp2
  obtain ⟨nb, hnb⟩ : ∃ nb, nb = w1.heap.size := ⟨_, rfl⟩
  obtain ⟨WC, hWC⟩ : ∃ WC, WC = (w1.alloc (.cells #[.slice none 0 0, .slice none 0 0] 29 (0, 0))).alloc (.cells #[.slice none 0 0, .slice none 0 0] 29 (0, 0)) := ⟨_, rfl⟩
  rw [← hWC, ← hnb] at G0 ⊢
  clear hnb hWC N1
  go_loopw [18] (fun i wr => ∃ k : Nat, k ≤ l.length ∧ i = .int .i64 (k : Int) ∧ Hid (Gm w wr nb p first e (NetS.new 2 room).room k)) (fun i _ => l.length - (intOf i).toNat)
  case atStart => exact ⟨0, Nat.zero_le _, rfl, G0⟩
  case round =>
    obtain ⟨k, hk, rfl, HP⟩ := hrel
    clear G0
    by_cases hlt : k < l.length
    · have hm : l.getD k dA ∈ l := by simp [hlt]
      have hs2 := HR.out.2 _ hm
      have HI2 := Lib.hid (HIN.out _ hm)
      obtain ⟨b, off, rfl, _, hcl, hbl, hat⟩ := act_here HS.out HP.out.ext hlt
      have HAT : Hid (∀ W, Ext w W → ActAt W b (off + k * 5) (l.getD k dA)) := Lib.hid (fun W x => by
        obtain ⟨b', off', hv, _, _, _, h9⟩ := act_here HS.out x hlt
        simp only [Option.some.injEq, Addr.mk.injEq, and_true] at hv
        obtain ⟨rfl, rfl⟩ := hv
        exact h9)
      obtain ⟨Y, hY⟩ : ∃ Y, Y = l.getD k dA := ⟨_, rfl⟩
      rw [← hY] at hat hs2 HAT HI2
      clear hY hm hat
      have hkc : (k : Int) ≤ (c : Int) := by omega
      have hkl : (k : Int) < (l.length : Int) := by omega
      have hn2 : IntKind.i64.wrap ((k : Int) + 1) = (k : Int) + 1 := wrapN _ (by omega) (by omega)
      go_wp2_with fail
      (refine wp_region_X_lit (K := fun W => ActAt W b (off + k * 5) Y) (by kernel_rfl) (fun w1 hw1 => ?_))
      have P2 := Lib.hid (HP.out.more hw1)
      have a1 := HAT.out w1 P2.out.ext
      clear hw1
      obtain ⟨P, x, L, F, O0, O1, hg⟩ := P2.out
      obtain ⟨⟨a0, n0, c0⟩, h0⟩ : ∃ s, x 0 = s := ⟨_, rfl⟩
      obtain ⟨⟨a1', n1, c1⟩, h1⟩ : ∃ s, x 1 = s := ⟨_, rfl⟩
      obtain ⟨⟨a2, n2, c2⟩, h2⟩ : ∃ s, x 2 = s := ⟨_, rfl⟩
      obtain ⟨⟨a3', n3, c3⟩, h3⟩ : ∃ s, x 3 = s := ⟨_, rfl⟩
      have hb0 := hg.b0
      have hb1 := hg.b1
      rw [two2_of (i := 0) h0 h1] at hb0
      rw [two2_of (i := 2) h2 h3] at hb1
      obtain ⟨⟨d0, d1⟩, _⟩ := cells2t hb0
      obtain ⟨⟨d2, d3⟩, _⟩ := cells2t hb1
      (refine xtakeV 0 (v := ?_) (by simp only [List.getElem?_toArray, List.getElem?_cons, reduceIte]; rfl) (by kernel_rfl) (by rfl) (fun w' hw' => ?_) ?_; rotate_left; focus (skip; go_simp; first | done | with_reducible rfl)); (simp only [Act.put, List.setIfInBounds_toArray, List.set])
      (refine xtakeV 1 (v := ?_) (by simp only [List.getElem?_toArray, List.getElem?_cons, reduceIte]; rfl) (by kernel_rfl) (by rfl) (fun w' hw' => ?_) ?_; rotate_left; focus (skip; go_simp; first | done | with_reducible rfl)); (simp only [Act.put, List.setIfInBounds_toArray, List.set])
      (refine xtakeV 2 (v := ?_) (by simp only [List.getElem?_toArray, List.getElem?_cons, reduceIte]; rfl) (by kernel_rfl) (by rfl) (fun w' hw' => ?_) ?_; rotate_left; focus (skip; go_simp; first | done | with_reducible rfl)); (simp only [Act.put, List.setIfInBounds_toArray, List.set])
      (refine xtakeV 3 (v := ?_) (by simp only [List.getElem?_toArray, List.getElem?_cons, reduceIte]; rfl) (by kernel_rfl) (by rfl) (fun w' hw' => ?_) ?_; rotate_left; focus (skip; go_simp; first | done | with_reducible rfl)); (simp only [Act.put, List.setIfInBounds_toArray, List.set])
      (refine xtakeV 4 (v := ?_) (by simp only [List.getElem?_toArray, List.getElem?_cons, reduceIte]; rfl) (by kernel_rfl) (by rfl) (fun w' hw' => ?_) ?_; rotate_left; focus (obtain ⟨q0, q1, q2, q3, q4⟩ := hw'; go_simp; first | done | with_reducible rfl)); (simp only [Act.put, List.setIfInBounds_toArray, List.set])
      (refine xtwo 5 6 (by kernel_rfl) (a1) (RunX.of 5 (by simp only [List.getElem?_toArray, List.getElem?_cons, reduceIte]; rfl) (by rfl) ?_) (RunX.of 6 (by simp only [List.getElem?_toArray, List.getElem?_cons, reduceIte]; rfl) (by rfl) ?_))
      · go_simp
        (try (simp only [Act.put, List.setIfInBounds_toArray, List.set]))
        (refine xone 6 (by kernel_rfl) (a1) (RunX.of 6 (by simp only [List.getElem?_toArray, List.getElem?_cons, reduceIte]; rfl) (by rfl) ?_))
        go_simp
        (try (simp only [Act.put, List.setIfInBounds_toArray, List.set]))
        (refine xone 7 (by kernel_rfl) (a1) (RunX.of 7 (by simp only [List.getElem?_toArray, List.getElem?_cons, reduceIte]; rfl) (by rfl) ?_))
        go_simp
        have cP := play_any w w1 w1 (Bx2 nb) HST.out p P L x F hg.wt Y (by have := hs2; omega) HI2.out (hg.inv.few (by have := HR.out.1; omega)) (hg.inv.got (by have := HR.out.1; omega))
        rw [two2_of (i := 0) h0 h1, two2_of (i := 2) h2 h3] at cP
        unfold Act10.v at cP
        obtain ⟨M, hM⟩ : ∃ M, M = playM P L Y := ⟨_, rfl⟩
        have hst := hg.inv.step (by have := HR.out.1; omega) Y
        rw [← hM] at cP hst
        obtain ⟨P', L', r⟩ := M
        dsimp only at cP hst
        refine cP.mono ?_
        rintro ev w3 ⟨x', F', rfl, hwt⟩
        have hlow := hg.low
        have e0 := (hwt.kp nb (.inl rfl)).2.trans hb0
        have e1 := (hwt.kp (nb + 1) (.inr rfl)).2.trans hb1
        have xw3 := hwt.ext
        have a3 := HAT.out w3 xw3
        obtain ⟨⟨ra, rn, rc⟩, r0⟩ : ∃ s, x' 0 = s := ⟨_, rfl⟩
        obtain ⟨⟨sa, sn, sc⟩, r1⟩ : ∃ s, x' 1 = s := ⟨_, rfl⟩
        obtain ⟨⟨ta, tn, tc⟩, r2⟩ : ∃ s, x' 2 = s := ⟨_, rfl⟩
        obtain ⟨⟨ua, un, uc⟩, r3⟩ : ∃ s, x' 3 = s := ⟨_, rfl⟩
        rw [two2_of (i := 0) r0 r1, two2_of (i := 2) r2 r3]
        have eb := two2_blks e0 e1 (.slice ra rn rc) (.slice sa sn sc) (.slice ta tn tc) (.slice ua un uc)
        have HG : Hid (r = true → Gm w (set2 (set2 w3 nb (.slice ra rn rc) (.slice sa sn sc)) (nb + 1) (.slice ta tn tc) (.slice ua un uc)) nb p first e (NetS.new 2 room).room (k + 1)) := Lib.hid (fun hr => by
          obtain ⟨Oa, Ob, hi⟩ := hst hr
          exact Gm.of hwt hi hlow (off_two2 w3 nb _ _ _ _) (by rw [two2_of (i := 0) r0 r1]; exact eb.1) (by rw [two2_of (i := 2) r2 r3]; exact eb.2))
        have X4 : Hid (Ext w (set2 (set2 w3 nb (.slice ra rn rc) (.slice sa sn sc)) (nb + 1) (.slice ta tn tc) (.slice ua un uc))) := Lib.hid (below_set2 (below_set2 xw3 hlow _ _) (by omega) _ _)
        have a4 := HAT.out _ (below_set2 xw3 hlow (.slice ra rn rc) (.slice sa sn sc))
        have a5 := HAT.out _ X4.out
        have e2 := set2_blk e0 (.slice ra rn rc) (.slice sa sn sc)
        have e3 := (off_set2 w3 nb (.slice ra rn rc) (.slice sa sn sc)).blk e1 (by omega)
        clear d0 d1 d2 d3 hM hst hwt hg hb0 hb1 cP a1 r0 r1 r2 r3 h0 h1 h2 h3 eb P2 hlow
        obtain ⟨⟨d0, d1⟩, f0, f1⟩ := cells2t e0
        obtain ⟨⟨d2, d3⟩, f2, f3⟩ := cells2t e3
        simp only [set2] at d2 d3 f2 f3
        dsimp only
        (try (simp only [Act.put, List.setIfInBounds_toArray, List.set]))
        (refine xtakeV 8 (v := ?_) (by simp only [List.getElem?_toArray, List.getElem?_cons, reduceIte]; rfl) (by kernel_rfl) (by rfl) (fun w' hw' => ?_) ?_; rotate_left; focus (skip; go_simp; first | done | with_reducible rfl)); (simp only [Act.put, List.setIfInBounds_toArray, List.set])
        (refine xtakeV 9 (v := ?_) (by simp only [List.getElem?_toArray, List.getElem?_cons, reduceIte]; rfl) (by kernel_rfl) (by rfl) (fun w' hw' => ?_) ?_; rotate_left; focus (skip; go_simp; first | done | with_reducible rfl)); (simp only [Act.put, List.setIfInBounds_toArray, List.set])
        (refine xtakeV 10 (v := ?_) (by simp only [List.getElem?_toArray, List.getElem?_cons, reduceIte]; rfl) (by kernel_rfl) (by rfl) (fun w' hw' => ?_) ?_; rotate_left; focus (skip; go_simp; first | done | with_reducible rfl)); (simp only [Act.put, List.setIfInBounds_toArray, List.set])
        (refine xtakeV 11 (v := ?_) (by simp only [List.getElem?_toArray, List.getElem?_cons, reduceIte]; rfl) (by kernel_rfl) (by rfl) (fun w' hw' => ?_) ?_; rotate_left; focus (skip; go_simp; first | done | with_reducible rfl)); (simp only [Act.put, List.setIfInBounds_toArray, List.set])
        (refine xone 12 (by kernel_rfl) (a3) (RunX.of 12 (by simp only [List.getElem?_toArray, List.getElem?_cons, reduceIte]; rfl) (by rfl) ?_))
        go_simp
        (try (simp only [Act.put, List.setIfInBounds_toArray, List.set]))
        (refine xone 13 (by kernel_rfl) (a4) (RunX.of 13 (by simp only [List.getElem?_toArray, List.getElem?_cons, reduceIte]; rfl) (by rfl) ?_))
        go_simp
        (try (simp only [Act.put, List.setIfInBounds_toArray, List.set]))
        (refine xtakeV 14 (v := ?_) (by simp only [List.getElem?_toArray, List.getElem?_cons, reduceIte]; rfl) (by kernel_rfl) (by rfl) (fun w' hw' => ?_) ?_; rotate_left; focus (skip; go_simp; first | done | with_reducible rfl)); (simp only [Act.put, List.setIfInBounds_toArray, List.set])
        (refine xdone (by kernel_rfl) (a5) ?_)
        clear d0 d1 d2 d3 f0 f1 f2 f3 e0 e1 e2 e3 a3 a4 a5 xw3
        obtain ⟨W4, hW4⟩ : ∃ W4, W4 = set2 (set2 w3 nb (.slice ra rn rc) (.slice sa sn sc)) (nb + 1) (.slice ta tn tc) (.slice ua un uc) := ⟨_, rfl⟩
        have hW5 := hW4
        simp only [set2] at hW5
        rw [← hW4] at HG X4
        rw [← hW5]
        clear hW4 hW5
        cases r
        · clear HG
          go_wp2
          go_ret
          exact ⟨rfl, X4.out⟩

        · have P4 := Lib.hid (HG.out rfl)
          clear HG X4
          go_wp2
          exact ⟨⟨k + 1, hlt, by go_num, P4⟩, by simp [intOf]; omega⟩

      · go_simp
        (try (simp only [Act.put, List.setIfInBounds_toArray, List.set]))
        (refine xone 5 (by kernel_rfl) (a1) (RunX.of 5 (by simp only [List.getElem?_toArray, List.getElem?_cons, reduceIte]; rfl) (by rfl) ?_))
        go_simp
        (try (simp only [Act.put, List.setIfInBounds_toArray, List.set]))
        (refine xone 7 (by kernel_rfl) (a1) (RunX.of 7 (by simp only [List.getElem?_toArray, List.getElem?_cons, reduceIte]; rfl) (by rfl) ?_))
        go_simp
        have cP := play_any w w1 w1 (Bx2 nb) HST.out p P L x F hg.wt Y (by have := hs2; omega) HI2.out (hg.inv.few (by have := HR.out.1; omega)) (hg.inv.got (by have := HR.out.1; omega))
        rw [two2_of (i := 0) h0 h1, two2_of (i := 2) h2 h3] at cP
        unfold Act10.v at cP
        obtain ⟨M, hM⟩ : ∃ M, M = playM P L Y := ⟨_, rfl⟩
        have hst := hg.inv.step (by have := HR.out.1; omega) Y
        rw [← hM] at cP hst
        obtain ⟨P', L', r⟩ := M
        dsimp only at cP hst
        refine cP.mono ?_
        rintro ev w3 ⟨x', F', rfl, hwt⟩
        have hlow := hg.low
        have e0 := (hwt.kp nb (.inl rfl)).2.trans hb0
        have e1 := (hwt.kp (nb + 1) (.inr rfl)).2.trans hb1
        have xw3 := hwt.ext
        have a3 := HAT.out w3 xw3
        obtain ⟨⟨ra, rn, rc⟩, r0⟩ : ∃ s, x' 0 = s := ⟨_, rfl⟩
        obtain ⟨⟨sa, sn, sc⟩, r1⟩ : ∃ s, x' 1 = s := ⟨_, rfl⟩
        obtain ⟨⟨ta, tn, tc⟩, r2⟩ : ∃ s, x' 2 = s := ⟨_, rfl⟩
        obtain ⟨⟨ua, un, uc⟩, r3⟩ : ∃ s, x' 3 = s := ⟨_, rfl⟩
        rw [two2_of (i := 0) r0 r1, two2_of (i := 2) r2 r3]
        have eb := two2_blks e0 e1 (.slice ra rn rc) (.slice sa sn sc) (.slice ta tn tc) (.slice ua un uc)
        have HG : Hid (r = true → Gm w (set2 (set2 w3 nb (.slice ra rn rc) (.slice sa sn sc)) (nb + 1) (.slice ta tn tc) (.slice ua un uc)) nb p first e (NetS.new 2 room).room (k + 1)) := Lib.hid (fun hr => by
          obtain ⟨Oa, Ob, hi⟩ := hst hr
          exact Gm.of hwt hi hlow (off_two2 w3 nb _ _ _ _) (by rw [two2_of (i := 0) r0 r1]; exact eb.1) (by rw [two2_of (i := 2) r2 r3]; exact eb.2))
        have X4 : Hid (Ext w (set2 (set2 w3 nb (.slice ra rn rc) (.slice sa sn sc)) (nb + 1) (.slice ta tn tc) (.slice ua un uc))) := Lib.hid (below_set2 (below_set2 xw3 hlow _ _) (by omega) _ _)
        have a4 := HAT.out _ (below_set2 xw3 hlow (.slice ra rn rc) (.slice sa sn sc))
        have a5 := HAT.out _ X4.out
        have e2 := set2_blk e0 (.slice ra rn rc) (.slice sa sn sc)
        have e3 := (off_set2 w3 nb (.slice ra rn rc) (.slice sa sn sc)).blk e1 (by omega)
        clear d0 d1 d2 d3 hM hst hwt hg hb0 hb1 cP a1 r0 r1 r2 r3 h0 h1 h2 h3 eb P2 hlow
        obtain ⟨⟨d0, d1⟩, f0, f1⟩ := cells2t e0
        obtain ⟨⟨d2, d3⟩, f2, f3⟩ := cells2t e3
        simp only [set2] at d2 d3 f2 f3
        dsimp only
        (try (simp only [Act.put, List.setIfInBounds_toArray, List.set]))
        (refine xtakeV 8 (v := ?_) (by simp only [List.getElem?_toArray, List.getElem?_cons, reduceIte]; rfl) (by kernel_rfl) (by rfl) (fun w' hw' => ?_) ?_; rotate_left; focus (skip; go_simp; first | done | with_reducible rfl)); (simp only [Act.put, List.setIfInBounds_toArray, List.set])
        (refine xtakeV 9 (v := ?_) (by simp only [List.getElem?_toArray, List.getElem?_cons, reduceIte]; rfl) (by kernel_rfl) (by rfl) (fun w' hw' => ?_) ?_; rotate_left; focus (skip; go_simp; first | done | with_reducible rfl)); (simp only [Act.put, List.setIfInBounds_toArray, List.set])
        (refine xtakeV 10 (v := ?_) (by simp only [List.getElem?_toArray, List.getElem?_cons, reduceIte]; rfl) (by kernel_rfl) (by rfl) (fun w' hw' => ?_) ?_; rotate_left; focus (skip; go_simp; first | done | with_reducible rfl)); (simp only [Act.put, List.setIfInBounds_toArray, List.set])
        (refine xtakeV 11 (v := ?_) (by simp only [List.getElem?_toArray, List.getElem?_cons, reduceIte]; rfl) (by kernel_rfl) (by rfl) (fun w' hw' => ?_) ?_; rotate_left; focus (skip; go_simp; first | done | with_reducible rfl)); (simp only [Act.put, List.setIfInBounds_toArray, List.set])
        (refine xone 12 (by kernel_rfl) (a3) (RunX.of 12 (by simp only [List.getElem?_toArray, List.getElem?_cons, reduceIte]; rfl) (by rfl) ?_))
        go_simp
        (try (simp only [Act.put, List.setIfInBounds_toArray, List.set]))
        (refine xone 13 (by kernel_rfl) (a4) (RunX.of 13 (by simp only [List.getElem?_toArray, List.getElem?_cons, reduceIte]; rfl) (by rfl) ?_))
        go_simp
        (try (simp only [Act.put, List.setIfInBounds_toArray, List.set]))
        (refine xtakeV 14 (v := ?_) (by simp only [List.getElem?_toArray, List.getElem?_cons, reduceIte]; rfl) (by kernel_rfl) (by rfl) (fun w' hw' => ?_) ?_; rotate_left; focus (skip; go_simp; first | done | with_reducible rfl)); (simp only [Act.put, List.setIfInBounds_toArray, List.set])
        (refine xdone (by kernel_rfl) (a5) ?_)
        clear d0 d1 d2 d3 f0 f1 f2 f3 e0 e1 e2 e3 a3 a4 a5 xw3
        obtain ⟨W4, hW4⟩ : ∃ W4, W4 = set2 (set2 w3 nb (.slice ra rn rc) (.slice sa sn sc)) (nb + 1) (.slice ta tn tc) (.slice ua un uc) := ⟨_, rfl⟩
        have hW5 := hW4
        simp only [set2] at hW5
        rw [← hW4] at HG X4
        rw [← hW5]
        clear hW4 hW5
        cases r
        · clear HG
          go_wp2
          go_ret
          exact ⟨rfl, X4.out⟩

        · have P4 := Lib.hid (HG.out rfl)
          clear HG X4
          go_wp2
          exact ⟨⟨k + 1, hlt, by go_num, P4⟩, by simp [intOf]; omega⟩

    · skip
      obtain ⟨s0, s1, hgw⟩ := HP.out.behind
      have HM0 := Lib.hid hgw
      clear hgw HP
      go_wp2
      go_loopw [20] (fun u wi => ∃ m : Nat, m ≤ 2 ∧ u = .int .i64 (m : Int) ∧ Hid (GmW w wi nb p s0 s1 (JL first e (NetS.new 2 room).room s0 s1 m 0))) (fun u _ => 2 - (intOf u).toNat)
      case atStart => exact ⟨0, by decide, rfl, HM0⟩
      case round =>
        obtain ⟨m, hm2, rfl, HM⟩ := hrel
        clear HM0
        obtain rfl | rfl | rfl : m = 0 ∨ m = 1 ∨ m = 2 := by omega
        · skip
          go_wp2
          go_loopw [21] (fun u wi => ∃ q : Nat, q ≤ 1000 ∧ u = .int .i64 (q : Int) ∧ Hid (GmW w wi nb p s0 s1 (JL first e (NetS.new 2 room).room s0 s1 0 q))) (fun u _ => 1000 - (intOf u).toNat)
          case atStart => exact ⟨0, Nat.zero_le _, rfl, HM⟩
          case round =>
            obtain ⟨q, hq, rfl, HQ⟩ := hrel
            by_cases hqn : q < 1000
            · have hqi : (q : Int) < 1000 := by omega
              have hqw : IntKind.i64.wrap ((q : Int) + 1) = (q : Int) + 1 := wrapN _ (by omega) (by omega)
              obtain ⟨P, x, L, F, hb, hj⟩ := HQ.out
              go_wp2_with fail
              refine (iLose hb.wt.e 0 0).mono ?_
              rintro ev w9 ⟨F9, rfl, n9, o9, g9⟩
              have HG9 : Hid (GmW w w9 nb p s0 s1 (JL first e (NetS.new 2 room).room s0 s1 0 (q + 1))) := Lib.hid ⟨_, _, _, _, hb.moves n9 o9 g9, hj.lose0⟩
              clear n9 o9 g9 hb hj
              dsimp only
              go_wp2
              exact ⟨⟨q + 1, hqn, by go_num, HG9⟩, by simp [intOf]; omega⟩
            · have hqi : ¬ (q : Int) < 1000 := by omega
              have hqe : q = 1000 := by omega
              subst hqe
              have HN := Lib.hid (HQ.out.map (fun P ok j => j.next0 ok.net))
              go_wp2
              exact ⟨⟨1, by decide, by go_num, HN⟩, by simp [intOf]⟩
        · skip
          go_wp2
          go_loopw [21] (fun u wi => ∃ q : Nat, q ≤ 1000 ∧ u = .int .i64 (q : Int) ∧ Hid (GmW w wi nb p s0 s1 (JL first e (NetS.new 2 room).room s0 s1 1 q))) (fun u _ => 1000 - (intOf u).toNat)
          case atStart => exact ⟨0, Nat.zero_le _, rfl, HM⟩
          case round =>
            obtain ⟨q, hq, rfl, HQ⟩ := hrel
            by_cases hqn : q < 1000
            · have hqi : (q : Int) < 1000 := by omega
              have hqw : IntKind.i64.wrap ((q : Int) + 1) = (q : Int) + 1 := wrapN _ (by omega) (by omega)
              obtain ⟨P, x, L, F, hb, hj⟩ := HQ.out
              go_wp2_with fail
              refine (iLose hb.wt.e 1 0).mono ?_
              rintro ev w9 ⟨F9, rfl, n9, o9, g9⟩
              have HG9 : Hid (GmW w w9 nb p s0 s1 (JL first e (NetS.new 2 room).room s0 s1 1 (q + 1))) := Lib.hid ⟨_, _, _, _, hb.moves n9 o9 g9, hj.lose1⟩
              clear n9 o9 g9 hb hj
              dsimp only
              go_wp2
              exact ⟨⟨q + 1, hqn, by go_num, HG9⟩, by simp [intOf]; omega⟩
            · have hqi : ¬ (q : Int) < 1000 := by omega
              have hqe : q = 1000 := by omega
              subst hqe
              have HN := Lib.hid (HQ.out.map (fun P ok j => JL.to2 j.next1))
              go_wp2
              exact ⟨⟨2, by decide, by go_num, HN⟩, by simp [intOf]⟩
        · replace HM := Lib.hid (HM.out.map (fun P ok j => j.of2))
          go_wp2
          go_loopw [22] (fun u wr => ∃ i : Nat, i ≤ 66 ∧ u = .int .i64 (i : Int) ∧ Hid (GmW w wr nb p s0 s1 (JR first e (NetS.new 2 room).room s0 s1 i))) (fun u _ => 66 - (intOf u).toNat)
          case atStart => exact ⟨0, by decide, rfl, HM⟩
          case round =>
            obtain ⟨i, hi, rfl, HQ4⟩ := hrel
            clear HM
            by_cases hi6 : i < 66
            · have hii : (i : Int) < 66 := by omega
              have hiw : IntKind.i64.wrap ((i : Int) + 1) = (i : Int) + 1 := wrapN _ (by omega) (by omega)
              have HM0 : Hid (GmW w wr nb p s0 s1 (JS first e (NetS.new 2 room).room s0 s1 i 0)) := Lib.hid (HQ4.out.map (fun P ok j => .inl ⟨rfl, j⟩))
              go_wp2
              go_loopw [23] (fun u wi => ∃ m : Nat, m ≤ 2 ∧ u = .int .i64 (m : Int) ∧ Hid (GmW w wi nb p s0 s1 (JS first e (NetS.new 2 room).room s0 s1 i m))) (fun u _ => 2 - (intOf u).toNat)
              case atStart => exact ⟨0, by decide, rfl, HM0⟩
              case round =>
                obtain ⟨m, hm2, rfl, HM1⟩ := hrel
                clear HM0
                obtain rfl | rfl | rfl : m = 0 ∨ m = 1 ∨ m = 2 := by omega
                · have HM := Lib.hid (HM1.out.map (J' := (JA first e (NetS.new 2 room).room s0 s1 i 0)) (fun P ok j => by
                    rcases j with ⟨_, j⟩ | ⟨h, _⟩ | ⟨h, _⟩
                    · exact j.a
                    · cases h
                    · cases h))
                  clear HM1
                  go_wp2
                  go_loopw [24] (fun u wi => ∃ q : Nat, q ≤ 100 ∧ u = .int .i64 (q : Int) ∧ Hid (GmW w wi nb p s0 s1 (JA first e (NetS.new 2 room).room s0 s1 i q))) (fun u _ => 100 - (intOf u).toNat)
                  case atStart => exact ⟨0, Nat.zero_le _, rfl, HM⟩
                  case round =>
                    obtain ⟨q, hq, rfl, HQ⟩ := hrel
                    by_cases hqn : q < 100
                    · have hqi : (q : Int) < 100 := by omega
                      have hqw : IntKind.i64.wrap ((q : Int) + 1) = (q : Int) + 1 := wrapN _ (by omega) (by omega)
                      obtain ⟨P, x, L, F, hb, hj⟩ := HQ.out
                      go_wp2_with fail
                      refine (iTick hb.wt.e 0).mono ?_
                      rintro ev w9 ⟨F9, rfl, n9, o9, g9⟩
                      have HG9 : Hid (GmW w w9 nb p s0 s1 (JA first e (NetS.new 2 room).room s0 s1 i (q + 1))) := Lib.hid ⟨_, _, _, _, hb.moves n9 o9 g9, hj.tick⟩
                      clear n9 o9 g9 hb hj
                      dsimp only
                      go_wp2
                      exact ⟨⟨q + 1, hqn, by go_num, HG9⟩, by simp [intOf]; omega⟩
                    · have hqi : ¬ (q : Int) < 100 := by omega
                      have hqe : q = 100 := by omega
                      subst hqe
                      obtain ⟨P, x, L, F, hb, hj⟩ := HQ.out
                      have hokP := hb.wt.e.ok
                      go_wp2_with fail
                      refine (iGo (HST.out.ext hb.wt.ext) hb.wt.e 0).mono ?_
                      rintro ev w9 ⟨F9, rfl, n9, o9, g9⟩
                      have HG9 : Hid (GmW w w9 nb p s0 s1 (JB first e (NetS.new 2 room).room s0 s1 i 0)) := Lib.hid ⟨_, _, _, _, hb.moves n9 o9 g9, (by haveI := HE.out; exact hj.go hokP HR8.out)⟩
                      clear hokP n9 o9 g9 hb hj
                      dsimp only
                      clear HQ
                      go_wp2
                      go_loopw [25] (fun u wi => ∃ q : Nat, q ≤ 8 ∧ u = .int .i64 (q : Int) ∧ Hid (GmW w wi nb p s0 s1 (JB first e (NetS.new 2 room).room s0 s1 i q))) (fun u _ => 8 - (intOf u).toNat)
                      case atStart => exact ⟨0, Nat.zero_le _, rfl, HG9⟩
                      case round =>
                        obtain ⟨q, hq, rfl, HQ⟩ := hrel
                        by_cases hqn : q < 8
                        · have hqi : (q : Int) < 8 := by omega
                          have hqw : IntKind.i64.wrap ((q : Int) + 1) = (q : Int) + 1 := wrapN _ (by omega) (by omega)
                          obtain ⟨P, x, L, F, hb, hj⟩ := HQ.out
                          have hv9 : IntKind.i64.wrap 1 = 1 := by kernel_rfl
                          have hfw := (by haveI := HE.out; exact hj.few : (P.got 1).length ≤ 1000000)
                          go_wp2_with fail
                          refine (iCome (HST.out.ext hb.wt.ext) hb.wt.e 1 0 hfw).mono ?_
                          rintro ev w9 ⟨F9, rfl, n9, o9, g9⟩
                          have HG9 : Hid (GmW w w9 nb p s0 s1 (JB first e (NetS.new 2 room).room s0 s1 i (q + 1))) := Lib.hid ⟨_, _, _, _, hb.moves n9 o9 g9, (by haveI := HE.out; exact hj.come)⟩
                          clear hfw n9 o9 g9 hb hj
                          dsimp only
                          go_wp2
                          exact ⟨⟨q + 1, hqn, by go_num, HG9⟩, by simp [intOf]; omega⟩
                        · have hqi : ¬ (q : Int) < 8 := by omega
                          have hqe : q = 8 := by omega
                          subst hqe
                          have HN := Lib.hid (HQ.out.map (J' := (JS first e (NetS.new 2 room).room s0 s1 i 1)) (fun P ok j => .inr (.inl ⟨rfl, j.c⟩)))
                          go_wp2
                          exact ⟨⟨1, by decide, by go_num, HN⟩, by simp [intOf]⟩
                · have HM := Lib.hid (HM1.out.map (J' := (JC first e (NetS.new 2 room).room s0 s1 i 0)) (fun P ok j => by
                    rcases j with ⟨h, _⟩ | ⟨_, j⟩ | ⟨h, _⟩
                    · cases h
                    · exact j
                    · cases h))
                  clear HM1
                  go_wp2
                  go_loopw [24] (fun u wi => ∃ q : Nat, q ≤ 100 ∧ u = .int .i64 (q : Int) ∧ Hid (GmW w wi nb p s0 s1 (JC first e (NetS.new 2 room).room s0 s1 i q))) (fun u _ => 100 - (intOf u).toNat)
                  case atStart => exact ⟨0, Nat.zero_le _, rfl, HM⟩
                  case round =>
                    obtain ⟨q, hq, rfl, HQ⟩ := hrel
                    by_cases hqn : q < 100
                    · have hqi : (q : Int) < 100 := by omega
                      have hqw : IntKind.i64.wrap ((q : Int) + 1) = (q : Int) + 1 := wrapN _ (by omega) (by omega)
                      obtain ⟨P, x, L, F, hb, hj⟩ := HQ.out
                      go_wp2_with fail
                      refine (iTick hb.wt.e 1).mono ?_
                      rintro ev w9 ⟨F9, rfl, n9, o9, g9⟩
                      have HG9 : Hid (GmW w w9 nb p s0 s1 (JC first e (NetS.new 2 room).room s0 s1 i (q + 1))) := Lib.hid ⟨_, _, _, _, hb.moves n9 o9 g9, hj.tick⟩
                      clear n9 o9 g9 hb hj
                      dsimp only
                      go_wp2
                      exact ⟨⟨q + 1, hqn, by go_num, HG9⟩, by simp [intOf]; omega⟩
                    · have hqi : ¬ (q : Int) < 100 := by omega
                      have hqe : q = 100 := by omega
                      subst hqe
                      obtain ⟨P, x, L, F, hb, hj⟩ := HQ.out
                      have hokP := hb.wt.e.ok
                      go_wp2_with fail
                      refine (iGo (HST.out.ext hb.wt.ext) hb.wt.e 1).mono ?_
                      rintro ev w9 ⟨F9, rfl, n9, o9, g9⟩
                      have HG9 : Hid (GmW w w9 nb p s0 s1 (JD first e (NetS.new 2 room).room s0 s1 i 0)) := Lib.hid ⟨_, _, _, _, hb.moves n9 o9 g9, (by haveI := HE.out; exact hj.go hokP HR8.out)⟩
                      clear hokP n9 o9 g9 hb hj
                      dsimp only
                      clear HQ
                      go_wp2
                      go_loopw [25] (fun u wi => ∃ q : Nat, q ≤ 8 ∧ u = .int .i64 (q : Int) ∧ Hid (GmW w wi nb p s0 s1 (JD first e (NetS.new 2 room).room s0 s1 i q))) (fun u _ => 8 - (intOf u).toNat)
                      case atStart => exact ⟨0, Nat.zero_le _, rfl, HG9⟩
                      case round =>
                        obtain ⟨q, hq, rfl, HQ⟩ := hrel
                        by_cases hqn : q < 8
                        · have hqi : (q : Int) < 8 := by omega
                          have hqw : IntKind.i64.wrap ((q : Int) + 1) = (q : Int) + 1 := wrapN _ (by omega) (by omega)
                          obtain ⟨P, x, L, F, hb, hj⟩ := HQ.out
                          have hv9 : IntKind.i64.wrap 0 = 0 := by kernel_rfl
                          have hfw := (by haveI := HE.out; exact hj.few : (P.got 0).length ≤ 1000000)
                          go_wp2_with fail
                          refine (iCome (HST.out.ext hb.wt.ext) hb.wt.e 0 0 hfw).mono ?_
                          rintro ev w9 ⟨F9, rfl, n9, o9, g9⟩
                          have HG9 : Hid (GmW w w9 nb p s0 s1 (JD first e (NetS.new 2 room).room s0 s1 i (q + 1))) := Lib.hid ⟨_, _, _, _, hb.moves n9 o9 g9, (by haveI := HE.out; exact hj.come)⟩
                          clear hfw n9 o9 g9 hb hj
                          dsimp only
                          go_wp2
                          exact ⟨⟨q + 1, hqn, by go_num, HG9⟩, by simp [intOf]; omega⟩
                        · have hqi : ¬ (q : Int) < 8 := by omega
                          have hqe : q = 8 := by omega
                          subst hqe
                          have HN := Lib.hid (HQ.out.map (J' := (JS first e (NetS.new 2 room).room s0 s1 i 2)) (fun P ok j => .inr (.inr ⟨rfl, by haveI := HE.out; exact j.next⟩)))
                          go_wp2
                          exact ⟨⟨2, by decide, by go_num, HN⟩, by simp [intOf]⟩
                · have HM := Lib.hid (HM1.out.map (J' := (JR first e (NetS.new 2 room).room s0 s1 (i + 1))) (fun P ok j => by
                    rcases j with ⟨h, _⟩ | ⟨h, _⟩ | ⟨_, j⟩
                    · cases h
                    · cases h
                    · exact j))
                  clear HM1
                  go_wp2
                  exact ⟨⟨i + 1, hi6, by go_num, HM⟩, by simp [intOf]; omega⟩
            · have hii : ¬ (i : Int) < 66 := by omega
              have hie : i = 66 := by omega
              subst hie
              obtain ⟨P, x, L, F, hb, hj⟩ := HQ4.out
              obtain ⟨hd1', hd0', hx0, hx1⟩ := hj.done
              have hfw := Lib.hid (show s0.length ≤ 1000000 ∧ s1.length ≤ 1000000 by
                obtain ⟨_, ⟨O, O', hp, _⟩, _⟩ := hj
                have h1 := hp.one.few
                have h2 := hp.two.few
                omega)
              have hfg : Hid ((P.g0).length ≤ 1000000 ∧ (P.g1).length ≤ 1000000) := Lib.hid (by rw [hd1', hd0']; exact ⟨hfw.out.2, hfw.out.1⟩)
              clear hfw
              have hd0 := Lib.hid (show P.got 0 = s1 from hd0')
              have hd1 := Lib.hid (show P.got 1 = s0 from hd1')
              have hz0 : P.waiting 0 = 0 := hx0
              have hz1 : P.waiting 1 = 0 := hx1
              replace hz0 := Lib.hid hz0
              replace hz1 := Lib.hid hz1
              clear hd1' hd0' hx0 hx1 hj
              obtain ⟨⟨a2, n2, c2⟩, h2⟩ : ∃ s, x 2 = s := ⟨_, rfl⟩
              obtain ⟨⟨a3, n3, c3⟩, h3⟩ : ∃ s, x 3 = s := ⟨_, rfl⟩
              have H2 := Lib.hid h2
              have H3 := Lib.hid h3
              have HB0 := Lib.hid hb
              clear hb h2 h3
              have KF : Hid (∀ W F9, GmB w W nb p s0 s1 P x L F9 → W.cell? ⟨nb + 1, 0, none⟩ = some (.slice a2 n2 c2) ∧ W.cell? ⟨nb + 1, 1, none⟩ = some (.slice a3 n3 c3)) := Lib.hid (fun W F9 h => by
                have hb1 := h.b1
                rw [two2_of (i := 2) H2.out H3.out] at hb1
                exact (cells2t hb1).1)
              go_wp2_with fail
              (refine wp_region_X_lit (K := fun W => W.cell? ⟨nb + 1, 0, none⟩ = some (.slice a2 n2 c2) ∧ W.cell? ⟨nb + 1, 1, none⟩ = some (.slice a3 n3 c3)) (by kernel_rfl) (fun w1 hw1 => ?_))
              have HB1 := Lib.hid (HB0.out.more hw1)
              have k1 := KF.out _ _ HB1.out
              clear hw1 HB0
              (refine xtakeV 0 (v := ?_) (by simp only [List.getElem?_toArray, List.getElem?_cons, reduceIte]; rfl) (by kernel_rfl) (by rfl) (fun w' hw' => ?_) ?_; rotate_left; focus (skip; go_simp; first | done | with_reducible rfl)); (simp only [Act.put, List.setIfInBounds_toArray, List.set])
              (refine xtakeV 2 (v := ?_) (by simp only [List.getElem?_toArray, List.getElem?_cons, reduceIte]; rfl) (by kernel_rfl) (by rfl) (fun w' hw' => ?_) ?_; rotate_left; focus (skip; go_simp; first | done | with_reducible rfl)); (simp only [Act.put, List.setIfInBounds_toArray, List.set])
              (refine xtakeV 3 (v := ?_) (by simp only [List.getElem?_toArray, List.getElem?_cons, reduceIte]; rfl) (by kernel_rfl) (by rfl) (fun w' hw' => ?_) ?_; rotate_left; focus (have hc := hw'.2; go_simp; first | done | with_reducible rfl)); (simp only [Act.put, List.setIfInBounds_toArray, List.set])
              (refine xone 1 (by kernel_rfl) (k1) (RunX.of 1 (by simp only [List.getElem?_toArray, List.getElem?_cons, reduceIte]; rfl) (by rfl) ?_))
              go_simp
              refine (iGot HB1.out.wt.e 0 hfg.out.1).mono ?_
              rintro ev w5 ⟨ga, gn, gc, F5, rfl, hl, _, n9, o9, g9⟩
              rw [hd0.out] at hl
              have hgl := gots_len hl
              subst hgl
              have HB2 := Lib.hid (HB1.out.moves n9 o9 g9)
              have k2 := KF.out _ _ HB2.out
              have cT := refTexts_any w5 _ _ s1 s1 hl (by have h9 := (HB2.out.wt.own (i := 3) (by decide) H3.out).1.sl; rw [HB2.out.l3] at h9; exact h9)
              rw [decide_eq_true (show s1 = s1 from rfl)] at cT
              replace cT := Lib.hid cT
              clear n9 o9 g9 hl k1 HB1
              dsimp only
              (try (simp only [Act.put, List.setIfInBounds_toArray, List.set]))
              (refine xone 4 (by kernel_rfl) (k2) (RunX.of 4 (by simp only [List.getElem?_toArray, List.getElem?_cons, reduceIte]; rfl) (by rfl) ?_))
              go_simp
              refine cT.out.mono ?_
              rintro ev w6 ⟨rfl, x6⟩
              have HB3 := Lib.hid (HB2.out.more x6)
              have k3 := KF.out _ _ HB3.out
              clear x6 k2 HB2 cT
              dsimp only
              (try (simp only [Act.put, List.setIfInBounds_toArray, List.set]))
              (refine xtakeV 5 (v := ?_) (by simp only [List.getElem?_toArray, List.getElem?_cons, reduceIte]; rfl) (by kernel_rfl) (by rfl) (fun w' hw' => ?_) ?_; rotate_left; focus (skip; go_simp; first | done | with_reducible rfl)); (simp only [Act.put, List.setIfInBounds_toArray, List.set])
              (refine xtakeV 6 (v := ?_) (by simp only [List.getElem?_toArray, List.getElem?_cons, reduceIte]; rfl) (by kernel_rfl) (by rfl) (fun w' hw' => ?_) ?_; rotate_left; focus (skip; go_simp; first | done | with_reducible rfl)); (simp only [Act.put, List.setIfInBounds_toArray, List.set])
              (refine xtakeV 8 (v := ?_) (by simp only [List.getElem?_toArray, List.getElem?_cons, reduceIte]; rfl) (by kernel_rfl) (by rfl) (fun w' hw' => ?_) ?_; rotate_left; focus (skip; go_simp; first | done | with_reducible rfl)); (simp only [Act.put, List.setIfInBounds_toArray, List.set])
              (refine xtakeV 9 (v := ?_) (by simp only [List.getElem?_toArray, List.getElem?_cons, reduceIte]; rfl) (by kernel_rfl) (by rfl) (fun w' hw' => ?_) ?_; rotate_left; focus (have hc := hw'.1; go_simp; first | done | with_reducible rfl)); (simp only [Act.put, List.setIfInBounds_toArray, List.set])
              (refine xone 7 (by kernel_rfl) (k3) (RunX.of 7 (by simp only [List.getElem?_toArray, List.getElem?_cons, reduceIte]; rfl) (by rfl) ?_))
              go_simp
              refine (iGot HB3.out.wt.e 1 hfg.out.2).mono ?_
              rintro ev w7 ⟨gb, gm, gd, F7, rfl, hl, _, n9, o9, g9⟩
              rw [hd1.out] at hl
              have hgl := gots_len hl
              subst hgl
              have HB4 := Lib.hid (HB3.out.moves n9 o9 g9)
              have k4 := KF.out _ _ HB4.out
              have cT := refTexts_any w7 _ _ s0 s0 hl (by have h9 := (HB4.out.wt.own (i := 2) (by decide) H2.out).1.sl; rw [HB4.out.l2] at h9; exact h9)
              rw [decide_eq_true (show s0 = s0 from rfl)] at cT
              replace cT := Lib.hid cT
              clear n9 o9 g9 hl k3 HB3
              dsimp only
              (try (simp only [Act.put, List.setIfInBounds_toArray, List.set]))
              (refine xone 10 (by kernel_rfl) (k4) (RunX.of 10 (by simp only [List.getElem?_toArray, List.getElem?_cons, reduceIte]; rfl) (by rfl) ?_))
              go_simp
              refine cT.out.mono ?_
              rintro ev w8 ⟨rfl, x8⟩
              have HB5 := Lib.hid (HB4.out.more x8)
              have k5 := KF.out _ _ HB5.out
              clear x8 k4 HB4 cT
              dsimp only
              (try (simp only [Act.put, List.setIfInBounds_toArray, List.set]))
              (refine xtakeV 11 (v := ?_) (by simp only [List.getElem?_toArray, List.getElem?_cons, reduceIte]; rfl) (by kernel_rfl) (by rfl) (fun w' hw' => ?_) ?_; rotate_left; focus (skip; go_simp; first | done | with_reducible rfl)); (simp only [Act.put, List.setIfInBounds_toArray, List.set])
              (refine xtakeV 12 (v := ?_) (by simp only [List.getElem?_toArray, List.getElem?_cons, reduceIte]; rfl) (by kernel_rfl) (by rfl) (fun w' hw' => ?_) ?_; rotate_left; focus (skip; go_simp; first | done | with_reducible rfl)); (simp only [Act.put, List.setIfInBounds_toArray, List.set])
              (refine xtakeV 13 (v := ?_) (by simp only [List.getElem?_toArray, List.getElem?_cons, reduceIte]; rfl) (by kernel_rfl) (by rfl) (fun w' hw' => ?_) ?_; rotate_left; focus (skip; go_simp; first | done | with_reducible rfl)); (simp only [Act.put, List.setIfInBounds_toArray, List.set])
              (refine xone 14 (by kernel_rfl) (k5) (RunX.of 14 (by simp only [List.getElem?_toArray, List.getElem?_cons, reduceIte]; rfl) (by rfl) ?_))
              go_simp
              refine (iWaiting HB5.out.wt.e 0).mono ?_
              rintro ev w9 ⟨F9, rfl, n9, o9, g9⟩
              rw [hz0.out]
              have HB6 := Lib.hid (HB5.out.moves n9 o9 g9)
              have k6 := KF.out _ _ HB6.out
              clear n9 o9 g9 k5 HB5
              dsimp only
              (try (simp only [Act.put, List.setIfInBounds_toArray, List.set]))
              (refine xtakeV 15 (v := ?_) (by simp only [List.getElem?_toArray, List.getElem?_cons, reduceIte]; rfl) (by kernel_rfl) (by rfl) (fun w' hw' => ?_) ?_; rotate_left; focus (skip; go_simp; first | done | with_reducible rfl)); (simp only [Act.put, List.setIfInBounds_toArray, List.set])
              (refine xtakeV 16 (v := ?_) (by simp only [List.getElem?_toArray, List.getElem?_cons, reduceIte]; rfl) (by kernel_rfl) (by rfl) (fun w' hw' => ?_) ?_; rotate_left; focus (skip; go_simp; first | done | with_reducible rfl)); (simp only [Act.put, List.setIfInBounds_toArray, List.set])
              (refine xtakeV 17 (v := ?_) (by simp only [List.getElem?_toArray, List.getElem?_cons, reduceIte]; rfl) (by kernel_rfl) (by rfl) (fun w' hw' => ?_) ?_; rotate_left; focus (skip; go_simp; first | done | with_reducible rfl)); (simp only [Act.put, List.setIfInBounds_toArray, List.set])
              (refine xtakeV 18 (v := ?_) (by simp only [List.getElem?_toArray, List.getElem?_cons, reduceIte]; rfl) (by kernel_rfl) (by rfl) (fun w' hw' => ?_) ?_; rotate_left; focus (skip; go_simp; first | done | with_reducible rfl)); (simp only [Act.put, List.setIfInBounds_toArray, List.set])
              (refine xone 19 (by kernel_rfl) (k6) (RunX.of 19 (by simp only [List.getElem?_toArray, List.getElem?_cons, reduceIte]; rfl) (by rfl) ?_))
              go_simp
              refine (iWaiting HB6.out.wt.e 1).mono ?_
              rintro ev wx ⟨Fx, rfl, n9, o9, g9⟩
              rw [hz1.out]
              have HB7 := Lib.hid (HB6.out.moves n9 o9 g9)
              have k7 := KF.out _ _ HB7.out
              clear n9 o9 g9 k6 HB6
              dsimp only
              (try (simp only [Act.put, List.setIfInBounds_toArray, List.set]))
              (refine xtakeV 20 (v := ?_) (by simp only [List.getElem?_toArray, List.getElem?_cons, reduceIte]; rfl) (by kernel_rfl) (by rfl) (fun w' hw' => ?_) ?_; rotate_left; focus (skip; go_simp; first | done | with_reducible rfl)); (simp only [Act.put, List.setIfInBounds_toArray, List.set])
              (refine xtakeV 21 (v := ?_) (by simp only [List.getElem?_toArray, List.getElem?_cons, reduceIte]; rfl) (by kernel_rfl) (by rfl) (fun w' hw' => ?_) ?_; rotate_left; focus (skip; go_simp; first | done | with_reducible rfl)); (simp only [Act.put, List.setIfInBounds_toArray, List.set])
              (refine xtakeV 22 (v := ?_) (by simp only [List.getElem?_toArray, List.getElem?_cons, reduceIte]; rfl) (by kernel_rfl) (by rfl) (fun w' hw' => ?_) ?_; rotate_left; focus (skip; go_simp; first | done | with_reducible rfl)); (simp only [Act.put, List.setIfInBounds_toArray, List.set])
              (refine xdone (by kernel_rfl) (k7) ?_)
              have X9 := Lib.hid HB7.out.wt.ext
              clear k7 HB7
              go_wp2
              go_ret
              exact ⟨rfl, X9.out⟩
end Go.Proofs.YtcjoemkplghonaaDoor
