/- LinkAll: if all that goes out comes, in order, and time passes, all comes, and nothing waits. -/
import Derived.Test.YtefkjclkondmeaaKR
namespace Go.Proofs.Ytefkjclkondmeaa
open Go.RowKit

set_option linter.unusedVariables false
set_option maxRecDepth 100000 in
set_option maxHeartbeats 32000000 in
theorem all_any (w : World) (hs : Std w) (v : Value) (l : List Act9) (h : Sl w v l) (hin : ∀ y ∈ l, y.f.q < 18446744073709551616 ∧ y.f.a < 18446744073709551616) (first : Nat) (hf : first < 18446744073709551616) (win qn wait : Int) :
    Calls Try.prog 5 #[.int .u64 (first : Int), .int .i64 win, .int .i64 qn, .int .i64 wait, v] w (GivesB w (.bool true)) := by
  have hlen := h.length_le
  have HS := Lib.hid h
  have HST := Lib.hid hs
  obtain ⟨ao, c, rfl⟩ := h.len
  clear h hs hin
  go_enter Try.func5, Try.ntmps5
  go_wp2_with fail
  refine (pNew _ 1 first win qn wait hf).mono ?_
  rintro ev wa ⟨p, F0, rfl, n0, hf0, x0⟩
  have XA := Lib.hid x0
  have N0 := Lib.hid n0
  have L0 := Lib.hid hf0
  clear n0 hf0 x0
  go_wp2_with fail
  refine (pNew wa 1 first win qn wait hf).mono ?_
  rintro ev wb ⟨q, F1, rfl, n1, hf1, x1⟩
  have XB := Lib.hid x1
  have N1 := Lib.hid n1
  have L1 := Lib.hid hf1
  have HB : Hid (wb.heap[w.heap.size]? = some (.cells #[.pointer none, .pointer none, .slice none 0 0, .slice none 0 0, .slice none 0 0, .slice none 0 0, .slice none 0 0, .slice none 0 0] 59 (0, 0))) := Lib.hid (blk_later (blk_later (get_alloc_new w _) XA.out) x1)
  obtain ⟨⟨d0, d1, _⟩, f0, f1, _⟩ := cells8t HB.out
  clear n1 hf1 x1
  have hb2 := blk_set (blk_set HB.out 0 (.pointer (some ⟨p, 0, none⟩))) 1 (.pointer (some ⟨q, 0, none⟩))
  simp only [List.setIfInBounds_toArray, List.set_cons_succ, List.set_cons_zero] at hb2
  have HP : Hid (Play w ((wb.setCell ⟨w.heap.size, 0, none⟩ (.pointer (some ⟨p, 0, none⟩))).setCell ⟨w.heap.size, 1, none⟩ (.pointer (some ⟨q, 0, none⟩))) first 0 ⟨p, q, SV.nil, SV.nil, SV.nil, SV.nil, SV.nil, SV.nil⟩) :=
    Lib.hid (Play.new hf (Ext.trans ((Ext.refl w).alloc _) XA.out) N0.out (fun k hk => by have := L0.out k hk; rwa [size_alloc] at this) XB.out N1.out L1.out (by have := XA.out.size; rwa [size_alloc] at this) ((off_set wb ⟨w.heap.size, 0, none⟩ _).trans (off_set _ ⟨w.heap.size, 1, none⟩ _) (Grows.refl _ _)) hb2)
  clear hb2
  go_wp2_with fail
  clear d0 d1 f0 f1
  obtain ⟨WC, hWC⟩ : ∃ WC, WC = ((wb.setCell ⟨w.heap.size, 0, none⟩ (.pointer (some ⟨p, 0, none⟩))).setCell ⟨w.heap.size, 1, none⟩ (.pointer (some ⟨q, 0, none⟩))) := ⟨_, rfl⟩
  rw [← hWC] at HP ⊢
  clear hWC HB XA XB N0 N1 L0 L1
  refine (awake_any WC (HST.out.ext HP.out.ext)).mono ?_
  rintro ev w1 ⟨rfl, x1⟩
  have P1 := Lib.hid (HP.out.more x1)
  clear x1 HP
  go_wp2_with fail
  refine (few_any w1 _ l (HS.out.ext P1.out.ext)).mono ?_
  rintro ev w2 ⟨r, rfl, hr, rfl⟩
  cases r
  · clear hr
    go_wp2_with (first
      | (go_at_call 10; refine (awake_any w1 (HST.out.ext P1.out.ext)).mono ?_; rintro ev w2 ⟨rfl, x2⟩; have X2 := Lib.hid (Ext.trans P1.out.ext x2); clear x2))
    go_ret
    exact ⟨rfl, X2.out⟩
  · have HR := Lib.hid (hr rfl)
    clear hr
    obtain ⟨⟨d0, d1, _⟩, _⟩ := cells8t P1.out.box
    go_wp2
    clear d0 d1
    go_loopw [12] (fun i wr => ∃ (k : Nat) (T : TV), k ≤ l.length ∧ i = .int .i64 (k : Int) ∧ Hid (Play w wr first k T)) (fun i _ => l.length - (intOf i).toNat)
    case atStart => exact ⟨0, _, Nat.zero_le _, rfl, P1⟩
    case round =>
      obtain ⟨k, T, hk, rfl, HP⟩ := hrel
      by_cases hlt : k < l.length
      · have hm : l.getD k dA ∈ l := by simp [hlt]
        have hs2 := HR.out.2 _ hm
        have h80 := HR.out.1
        obtain ⟨b, off, rfl, _, hcl, hbl, hat⟩ := act_here HS.out HP.out.ext hlt
        have HAT : Hid (∀ W, Ext w W → ActAt W b (off + k * 9) (l.getD k dA)) := Lib.hid (fun W x => by
          obtain ⟨b', off', hv, _, _, _, h9⟩ := act_here HS.out x hlt
          simp only [Option.some.injEq, Addr.mk.injEq, and_true] at hv
          obtain ⟨rfl, rfl⟩ := hv
          exact h9)
        obtain ⟨Y, hY⟩ : ∃ Y, Y = l.getD k dA := ⟨_, rfl⟩
        rw [← hY] at hat hs2 HAT
        clear hY hm hat
        have hkc : (k : Int) ≤ (c : Int) := by omega
        have hkl : (k : Int) < (l.length : Int) := by omega
        have hn2 : IntKind.i64.wrap ((k : Int) + 1) = (k : Int) + 1 := wrapN _ (by omega) (by omega)
        go_wp2_with fail
        (refine wp_region_X_lit (K := fun W => ActAt W b (off + k * 9) Y) (by kernel_rfl) (fun w1 hw1 => ?_))
        have P2 := Lib.hid (HP.out.more hw1)
        have a1 := HAT.out w1 P2.out.ext
        clear hw1
        obtain ⟨⟨d0, d1, d2, d3, d4, d5, d6, d7⟩, _⟩ := cells8t P2.out.box
        (refine xtakeV 1 (v := ?_) (by simp only [List.getElem?_toArray, List.getElem?_cons, reduceIte]; rfl) (by kernel_rfl) (by rfl) (fun w' hw' => ?_) ?_; rotate_left; focus (skip; go_simp; first | done | with_reducible rfl)); (simp only [Act.put, List.setIfInBounds_toArray, List.set])
        (refine xtakeV 2 (v := ?_) (by simp only [List.getElem?_toArray, List.getElem?_cons, reduceIte]; rfl) (by kernel_rfl) (by rfl) (fun w' hw' => ?_) ?_; rotate_left; focus (skip; go_simp; first | done | with_reducible rfl)); (simp only [Act.put, List.setIfInBounds_toArray, List.set])
        (refine xtakeV 3 (v := ?_) (by simp only [List.getElem?_toArray, List.getElem?_cons, reduceIte]; rfl) (by kernel_rfl) (by rfl) (fun w' hw' => ?_) ?_; rotate_left; focus (skip; go_simp; first | done | with_reducible rfl)); (simp only [Act.put, List.setIfInBounds_toArray, List.set])
        (refine xtakeV 4 (v := ?_) (by simp only [List.getElem?_toArray, List.getElem?_cons, reduceIte]; rfl) (by kernel_rfl) (by rfl) (fun w' hw' => ?_) ?_; rotate_left; focus (obtain ⟨q0, q1, q2, q3, q4, q5, q6, q7, q8⟩ := hw'; go_simp; first | done | with_reducible rfl)); (simp only [Act.put, List.setIfInBounds_toArray, List.set])
        (refine xone 0 (by kernel_rfl) (a1) (RunX.of 0 (by simp only [List.getElem?_toArray, List.getElem?_cons, reduceIte]; rfl) (by rfl) ?_))
        go_simp
        (try (simp only [Act.put, List.setIfInBounds_toArray, List.set]))
        (refine xone 5 (by kernel_rfl) (a1) (RunX.of 5 (by simp only [List.getElem?_toArray, List.getElem?_cons, reduceIte]; rfl) (by rfl) ?_))
        go_simp
        refine (play_any (Bx w T) w1 (HST.out.ext ((Ext.refl w).alloc _)) first k T P2.out.game (by omega) Y (by omega)).mono ?_
        rintro ev w3 ⟨T', rfl, g3, ep, ep'⟩
        clear ep ep'
        obtain ⟨p', q', ⟨oa, on, oc⟩, ⟨oa', on', oc'⟩, ⟨sa, sn, sc⟩, ⟨sa', sn', sc'⟩, ⟨ga, gn, gc⟩, ⟨ga', gn', gc'⟩⟩ := T'
        have x3 := g3.ext
        have xw3 : Ext w w3 := Ext.trans ((Ext.refl w).alloc _) x3
        have hb3 : w3.heap[w.heap.size]? = some (.cells (tvA T) 59 (0, 0)) := blk_later (get_alloc_new w _) x3
        have a3 := HAT.out w3 xw3
        have h4 := set8_blk hb3 (.pointer (some ⟨p', 0, none⟩)) (.pointer (some ⟨q', 0, none⟩)) (.slice oa on oc) (.slice oa' on' oc') (.slice sa sn sc) (.slice sa' sn' sc') (.slice ga gn gc) (.slice ga' gn' gc')
        have P4 : Hid (Play w (set8 w3 w.heap.size (.pointer (some ⟨p', 0, none⟩)) (.pointer (some ⟨q', 0, none⟩)) (.slice oa on oc) (.slice oa' on' oc') (.slice sa sn sc) (.slice sa' sn' sc') (.slice ga gn gc) (.slice ga' gn' gc')) first (k + 1) ⟨p', q', ⟨oa, on, oc⟩, ⟨oa', on', oc'⟩, ⟨sa, sn, sc⟩, ⟨sa', sn', sc'⟩, ⟨ga, gn, gc⟩, ⟨ga', gn', gc'⟩⟩) := Lib.hid (Play.of g3 xw3 (off_set8 w3 w.heap.size (.pointer (some ⟨p', 0, none⟩)) (.pointer (some ⟨q', 0, none⟩)) (.slice oa on oc) (.slice oa' on' oc') (.slice sa sn sc) (.slice sa' sn' sc') (.slice ga gn gc) (.slice ga' gn' gc')) h4)
        clear d0 d1 d2 d3 d4 d5 d6 d7
        obtain ⟨⟨d0, d1, d2, d3, d4, d5, d6, d7⟩, f0, f1, f2, f3, f4, f5, f6, f7⟩ := cells8t hb3
        dsimp only [tv]
        (try (simp only [Act.put, List.setIfInBounds_toArray, List.set]))
        (refine xone 6 (by kernel_rfl) (a3) (RunX.of 6 (by simp only [List.getElem?_toArray, List.getElem?_cons, reduceIte]; rfl) (by rfl) ?_))
        go_simp
        (try (simp only [Act.put, List.setIfInBounds_toArray, List.set]))
        clear d0 d1 d2 d3 d4 d5 d6 d7 f0 f1 f2 f3 f4 f5 f6 f7 hb3 h4 a1 a3 g3 x3 xw3
        have a4 := HAT.out _ P4.out.ext
        (refine xdone (by kernel_rfl) (a4) ?_)
        clear a4
        obtain ⟨W4, hW4⟩ : ∃ W4, W4 = set8 w3 w.heap.size (.pointer (some ⟨p', 0, none⟩)) (.pointer (some ⟨q', 0, none⟩)) (.slice oa on oc) (.slice oa' on' oc') (.slice sa sn sc) (.slice sa' sn' sc') (.slice ga gn gc) (.slice ga' gn' gc') := ⟨_, rfl⟩
        have hW5 := hW4
        simp only [set8] at hW5
        rw [← hW4] at P4
        rw [← hW5]
        clear hW4 hW5 HAT hs2 hkc hkl
        go_wp2
        exact ⟨⟨k + 1, _, hlt, by go_num, P4⟩, by simp [intOf]; omega⟩
      · have hke : k = l.length := by omega
        subst hke
        have R0 := Lib.hid (Rnd.start HP.out)
        clear HP
        go_wp2
        go_loopw [13] (fun i wr => ∃ n : Nat, n ≤ 66 ∧ i = .int .i64 (n : Int) ∧ Hid (Rnd w wr first n)) (fun i _ => 66 - (intOf i).toNat)
        case atStart => exact ⟨0, by decide, rfl, R0⟩
        case round =>
          obtain ⟨i, hi, rfl, HRn⟩ := hrel
          obtain ⟨T, X, Y, s, g, O, s', g', O', F, O2, O2', hh, hp, hx, hy, hfar⟩ := HRn.out
          clear R0 HRn
          by_cases hi66 : i < 66
          · have hin2 : IntKind.i64.wrap ((i : Int) + 1) = (i : Int) + 1 := wrapN _ (by omega) (by omega)
            have hi66i : (i : Int) < 66 := by omega
            have hi66d : decide ((i : Int) < 66) = true := decide_eq_true hi66i
            have okA : (tickAll X).Ok := (hp.ticks 100).okX
            have hgs := hp.one.gle
            have hss := hp.one.few
            have hgs' := hp.two.gle
            have hss' := hp.two.few
            obtain ⟨Y1, g1, X2, g2, O3, O3', e1, e2, hp2, hx2, hy2, hf2⟩ := round_far hp hx hy hfar
            have okY1 : Y1.Ok := by
              have h1 := feed_ok (l := (tickN 100 X).frames) (hp.ticks 100).okY g
              rw [e1] at h1
              exact h1
            have HPR : Hid (∃ O3 O3', Pair first X2 Y1.outS s g1 O3 s' g2 O3' ∧ X2.e = 1 ∧ Y1.outS.e = 1 ∧ Far (i + 1) X2 Y1.outS s' g2) := Lib.hid ⟨O3, O3', hp2, hx2, hy2, hf2⟩
            clear hp2 hx2 hy2 hf2
            rw [tickAll_eq, tickAll_eq] at e1
            rw [tickAll_eq] at e2
            replace okA := Lib.hid okA
            have EE : Hid (FedB (tickAll X) (tickAll Y) g g' Y1 g1 X2 g2) := Lib.hid ⟨e1, e2⟩
            clear e1 e2
            have H0 : Hid (Are w wr (tickN 0 X) (tickN 0 Y) s g O s' g' O' SV.nil []) := Lib.hid ⟨T, F, hh⟩
            clear hh hp hx hy hfar
            go_wp2
            go_loopw [14] (fun j wi => ∃ n : Nat, n ≤ 100 ∧ j = .int .i64 (n : Int) ∧ Hid (Are w wi (tickN n X) (tickN n Y) s g O s' g' O' SV.nil [])) (fun j _ => 100 - (intOf j).toNat)
            case atStart => exact ⟨0, by decide, rfl, H0⟩
            case round =>
              obtain ⟨n, hn, rfl, HA⟩ := hrel
              by_cases hn100 : n < 100
              · have hnn : IntKind.i64.wrap ((n : Int) + 1) = (n : Int) + 1 := wrapN _ (by omega) (by omega)
                obtain ⟨T1, F1, h1⟩ := HA.out
                clear H0 HA
                obtain ⟨⟨d0, d1, _⟩, _⟩ := cells8t h1.box
                have cK := Lib.hid (pTick h1.st.e)
                go_wp2_with fail
                refine cK.out.mono ?_
                rintro ev w5 ⟨F5, rfl, n5, o5, g5⟩
                have h5 := h1.moves n5 o5 g5
                clear d0 d1 cK n5 o5 g5 h1
                obtain ⟨⟨d0, d1, _⟩, _⟩ := cells8t h5.box
                have cK := Lib.hid (pTick h5.st.e')
                go_wp2_with fail
                refine cK.out.mono ?_
                rintro ev w6 ⟨F6, rfl, n6, o6, g6⟩
                have h6 := h5.moves' n6 o6 g6
                rw [← tickN_succ, ← tickN_succ] at h6
                have H6 : Hid (Are w w6 (tickN (n + 1) X) (tickN (n + 1) Y) s g O s' g' O' SV.nil []) := Lib.hid ⟨_, _, h6⟩
                clear d0 d1 cK n6 o6 g6 h5 h6
                go_wp2
                exact ⟨⟨n + 1, hn100, by go_num, H6⟩, by simp [intOf]; omega⟩
              · have hne : n = 100 := by omega
                subst hne
                rw [show ((100 : Nat) : Int) = 100 from rfl]
                clear H0
                rw [tickAll_eq, tickAll_eq] at HA
                obtain ⟨A, hA⟩ : ∃ A, A = tickAll X := ⟨_, rfl⟩
                obtain ⟨B, hB⟩ : ∃ B, B = tickAll Y := ⟨_, rfl⟩
                rw [← hA] at okA
                rw [← hA, ← hB] at HA
                rw [← hA, ← hB] at EE
                replace okA := okA.out
                have M0 : Hid (Mid w wr A B s g O s' g' O' Y1 g1 X2 g2 0) := Lib.hid (.inl ⟨rfl, HA.out⟩)
                clear hA hB HA
                go_wp2
                go_loopw [15] (fun j wi => ∃ m : Nat, m ≤ 2 ∧ j = .int .i64 (m : Int) ∧ Hid (Mid w wi A B s g O s' g' O' Y1 g1 X2 g2 m)) (fun j _ => 2 - (intOf j).toNat)
                case atStart => exact ⟨0, by decide, rfl, M0⟩
                case round =>
                  obtain ⟨m, hm2, rfl, HM⟩ := hrel
                  rcases HM.out with ⟨rfl, hM⟩ | ⟨rfl, hM⟩ | ⟨rfl, hM⟩
                  all_goals clear HM M0
                  · obtain ⟨T0, F, hh⟩ := hM
                    obtain ⟨⟨d0, d1, _⟩, _⟩ := cells8t hh.box
                    have cO := Lib.hid (pOut hh.st.e)
                    go_wp2_with fail
                    refine cO.out.mono ?_
                    rintro ev w5 ⟨a3, n3, c3, F5, rfl, r5, q5, n5, o5, g5⟩
                    obtain ⟨a9, c9, hv9⟩ := r5.len
                    simp only [Value.slice.injEq] at hv9
                    obtain ⟨ea9, hn3, ec9⟩ := hv9
                    subst hn3
                    clear ea9 ec9
                    have h5 := hh.fresh (y := ⟨a3, A.frames.length, c3⟩) n5 o5 g5 r5 q5
                    have hfit := FitO.frames okA
                    have hfl := EndS.frames_le okA
                    obtain ⟨FR, hFR⟩ : ∃ FR, FR = A.frames := ⟨_, rfl⟩
                    rw [← hFR] at h5 hfit hfl ⊢
                    have HFR := Lib.hid hFR
                    replace hfit := Lib.hid hfit
                    clear hFR
                    have H5 : Hid (ComD w w5 A.outS B s g O s' g' O' ⟨a3, FR.length, c3⟩ FR 0) := Lib.hid ⟨_, _, h5⟩
                    clear n5 o5 g5 r5 q5 hh h5 d0 d1 cO
                    go_wp2
                    go_loopw [17] (fun j wi => ∃ k : Nat, k ≤ FR.length ∧ j = .int .i64 (k : Int) ∧ Hid (ComD w wi A.outS B s g O s' g' O' ⟨a3, FR.length, c3⟩ FR k)) (fun j _ => FR.length - (intOf j).toNat)
                    case atStart => exact ⟨0, Nat.zero_le _, rfl, H5⟩
                    case round =>
                      obtain ⟨k, hk, rfl, HC⟩ := hrel
                      by_cases hlt3 : k < FR.length
                      · have hk3 : (k : Int) < (FR.length : Int) := by omega
                        have hkn : IntKind.i64.wrap ((k : Int) + 1) = (k : Int) + 1 := wrapN _ (by omega) (by omega)
                        have v4 : IntKind.i64.wrap 1 = 1 := by kernel_rfl
                        have v5 : IntKind.i64.wrap 0 = 0 := by kernel_rfl
                        obtain ⟨T1, F, hh⟩ := HC.out
                        clear HC H5
                        obtain ⟨f, hf⟩ : ∃ f, f = FR.getD k Fr.zero := ⟨_, rfl⟩
                        have hfi := hfit.out f (by rw [hf]; simp [hlt3])
                        have hsn := feed_snoc (FR.take k) f B g
                        have htk : FR.take (k + 1) = FR.take k ++ [f] := by rw [List.take_succ_eq_append_getElem hlt3, hf]; simp [hlt3]
                        rw [← htk] at hsn
                        have hln := feed_len (FR.take k) B g
                        rw [List.length_take] at hln
                        obtain ⟨Yk, hYk⟩ : ∃ Yk, Yk = (feed B g (FR.take k)).1 := ⟨_, rfl⟩
                        obtain ⟨gk, hgk⟩ : ∃ gk, gk = (feed B g (FR.take k)).2 := ⟨_, rfl⟩
                        rw [← hYk, ← hgk] at hh hsn
                        rw [← hgk] at hln
                        have hgk2 : gk.length ≤ 2000 := by omega
                        have HSN : Hid (Snoc B g FR k f Yk gk) := Lib.hid hsn
                        obtain ⟨b9, off9, hoa, _, hoc, hb9, hfr⟩ := Sl.frs_some (ao := a3) (n := FR.length) (c := c3) hh.nob.1 (by omega)
                        subst hoa
                        have hfr2 := hfr k hlt3
                        rw [← hf] at hfr2
                        have hkc3 : (k : Int) ≤ (c3 : Int) := by omega
                        have HF := Lib.hid hf.symm
                        clear hsn hf hfr hYk hgk hln htk
                        obtain ⟨p', q', ⟨oa, on, oc⟩, ⟨oa', on', oc'⟩, ⟨sa, sn, sc⟩, ⟨sa', sn', sc'⟩, ⟨ga, gn, gc⟩, ⟨ga', gn', gc'⟩⟩ := T1
                        go_wp2_with fail
                        (refine wp_region_X_lit (K := fun W => W.heap[w.heap.size]? = some (.cells (tvA ⟨p', q', ⟨oa, on, oc⟩, ⟨oa', on', oc'⟩, ⟨sa, sn, sc⟩, ⟨sa', sn', sc'⟩, ⟨ga, gn, gc⟩, ⟨ga', gn', gc'⟩⟩) 59 (0, 0)) ∧ FrAt W b9 (off9 + k * 5) f) (by kernel_rfl) (fun w1 hw1 => ?_))
                        have hh1 := hh.more hw1
                        have hb91 : b9 < w1.heap.size := Nat.lt_of_lt_of_le hb9 hw1.size
                        have k1 := And.intro hh1.box (hfr2.ext (hw1.mono hb9))
                        have hst := HST.out.ext hh1.ext
                        clear hh hw1 hfr2
                        (refine xtakeV 0 (v := ?_) (by simp only [List.getElem?_toArray, List.getElem?_cons, reduceIte]; rfl) (by kernel_rfl) (by rfl) (fun w' hw' => ?_) ?_; rotate_left; focus (skip; go_simp; first | done | with_reducible rfl)); (simp only [Act.put, List.setIfInBounds_toArray, List.set])
                        (refine xtakeV 1 (v := ?_) (by simp only [List.getElem?_toArray, List.getElem?_cons, reduceIte]; rfl) (by kernel_rfl) (by rfl) (fun w' hw' => ?_) ?_; rotate_left; focus (skip; go_simp; first | done | with_reducible rfl)); (simp only [Act.put, List.setIfInBounds_toArray, List.set])
                        (refine xtakeV 2 (v := ?_) (by simp only [List.getElem?_toArray, List.getElem?_cons, reduceIte]; rfl) (by kernel_rfl) (by rfl) (fun w' hw' => ?_) ?_; rotate_left; focus (skip; go_simp; first | done | with_reducible rfl)); (simp only [Act.put, List.setIfInBounds_toArray, List.set])
                        (refine xtakeV 3 (v := ?_) (by simp only [List.getElem?_toArray, List.getElem?_cons, reduceIte]; rfl) (by kernel_rfl) (by rfl) (fun w' hw' => ?_) ?_; rotate_left; focus (skip; go_simp; first | done | with_reducible rfl)); (simp only [Act.put, List.setIfInBounds_toArray, List.set])
                        (refine xtakeV 4 (v := ?_) (by simp only [List.getElem?_toArray, List.getElem?_cons, reduceIte]; rfl) (by kernel_rfl) (by rfl) (fun w' hw' => ?_) ?_; rotate_left; focus (obtain ⟨⟨e0, e1, e2, e3, e4, e5, e6, e7⟩, _⟩ := cells8t hw'.1; go_simp; first | done | with_reducible rfl)); (simp only [Act.put, List.setIfInBounds_toArray, List.set])
                        (refine xtakeV 5 (v := ?_) (by simp only [List.getElem?_toArray, List.getElem?_cons, reduceIte]; rfl) (by kernel_rfl) (by rfl) (fun w' hw' => ?_) ?_; rotate_left; focus (skip; go_simp; first | done | with_reducible rfl)); (simp only [Act.put, List.setIfInBounds_toArray, List.set])
                        (refine xtakeV 6 (v := ?_) (by simp only [List.getElem?_toArray, List.getElem?_cons, reduceIte]; rfl) (by kernel_rfl) (by rfl) (fun w' hw' => ?_) ?_; rotate_left; focus (skip; go_simp; first | done | with_reducible rfl)); (simp only [Act.put, List.setIfInBounds_toArray, List.set])
                        (refine xtakeV 7 (v := ?_) (by simp only [List.getElem?_toArray, List.getElem?_cons, reduceIte]; rfl) (by kernel_rfl) (by rfl) (fun w' hw' => ?_) ?_; rotate_left; focus (skip; go_simp; first | done | with_reducible rfl)); (simp only [Act.put, List.setIfInBounds_toArray, List.set])
                        (refine xtakeV 8 (v := ?_) (by simp only [List.getElem?_toArray, List.getElem?_cons, reduceIte]; rfl) (by kernel_rfl) (by rfl) (fun w' hw' => ?_) ?_; rotate_left; focus (obtain ⟨q0, q1, q2, q3, q4⟩ := hw'.2; go_simp; first | done | with_reducible rfl)); (simp only [Act.put, List.setIfInBounds_toArray, List.set])
                        (refine xone 9 (by kernel_rfl) (k1) (RunX.of 9 (by simp only [List.getElem?_toArray, List.getElem?_cons, reduceIte]; rfl) (by rfl) ?_))
                        go_simp
                        cases hT : Yk.told f
                        · have hbody : Yk.body f = ⟨#[]⟩ := by unfold EndS.body; rw [hT]; rfl
                          have cT := pTake hst hh1.st.e' f hfi.1 hfi.2.1 hfi.2.2
                          rw [hT, hbody] at cT
                          refine cT.mono ?_
                          rintro ev w9 ⟨F9, rfl, n9, o9, g9⟩
                          have h9 := hh1.moves' n9 o9 g9
                          have hfr9 : FrAt w9 b9 (off9 + k * 5) f := by
                            obtain ⟨b0, off0, ho0, _, _, _, hfr0⟩ := Sl.frs_some (ao := some ⟨b9, off9, none⟩) (n := FR.length) (c := c3) h9.nob.1 (by omega)
                            simp only [Option.some.injEq, Addr.mk.injEq, and_true] at ho0
                            obtain ⟨rfl, rfl⟩ := ho0
                            have h0 := hfr0 k hlt3
                            rwa [HF.out] at h0
                          have k9 := And.intro h9.box hfr9
                          have HC9 : Hid (ComD w _ A.outS B s g O s' g' O' ⟨some ⟨b9, off9, none⟩, FR.length, c3⟩ FR (k + 1)) := Lib.hid (ComD.old HSN.out hT h9)
                          clear cT n9 o9 g9
                          dsimp only
                          (try (simp only [Act.put, List.setIfInBounds_toArray, List.set]))
                          (refine xtakeV 10 (v := ?_) (by simp only [List.getElem?_toArray, List.getElem?_cons, reduceIte]; rfl) (by kernel_rfl) (by rfl) (fun w' hw' => ?_) ?_; rotate_left; focus (skip; go_simp; first | done | with_reducible rfl)); (simp only [Act.put, List.setIfInBounds_toArray, List.set])
                          (refine xtakeV 11 (v := ?_) (by simp only [List.getElem?_toArray, List.getElem?_cons, reduceIte]; rfl) (by kernel_rfl) (by rfl) (fun w' hw' => ?_) ?_; rotate_left; focus (skip; go_simp; first | done | with_reducible rfl)); (simp only [Act.put, List.setIfInBounds_toArray, List.set])
                          (refine xtakeV 12 (v := ?_) (by simp only [List.getElem?_toArray, List.getElem?_cons, reduceIte]; rfl) (by kernel_rfl) (by rfl) (fun w' hw' => ?_) ?_; rotate_left; focus (skip; go_simp; first | done | with_reducible rfl)); (simp only [Act.put, List.setIfInBounds_toArray, List.set])
                          (refine xtakeV 13 (v := ?_) (by simp only [List.getElem?_toArray, List.getElem?_cons, reduceIte]; rfl) (by kernel_rfl) (by rfl) (fun w' hw' => ?_) ?_; rotate_left; focus (skip; go_simp; first | done | with_reducible rfl)); (simp only [Act.put, List.setIfInBounds_toArray, List.set])
                          (refine xtakeV 14 (v := ?_) (by simp only [List.getElem?_toArray, List.getElem?_cons, reduceIte]; rfl) (by kernel_rfl) (by rfl) (fun w' hw' => ?_) ?_; rotate_left; focus (skip; go_simp; first | done | with_reducible rfl)); (simp only [Act.put, List.setIfInBounds_toArray, List.set])
                          (refine xdone (by kernel_rfl) (k9) ?_)
                          clear k9 h9 hfr9 hT HSN k1 hh1 hst hbody
                          go_wp2
                          exact ⟨⟨k + 1, hlt3, by go_num, HC9⟩, by simp [intOf]; omega⟩
                        · have hbody : Yk.body f = f.b := by unfold EndS.body; rw [hT]; rfl
                          have cT := pTake hst hh1.st.e' f hfi.1 hfi.2.1 hfi.2.2
                          rw [hT, hbody] at cT
                          refine cT.mono ?_
                          rintro ev w9 ⟨F9, rfl, n9, o9, g9⟩
                          have h9 := hh1.moves' n9 o9 g9
                          have hfr9 : FrAt w9 b9 (off9 + k * 5) f := by
                            obtain ⟨b0, off0, ho0, _, _, _, hfr0⟩ := Sl.frs_some (ao := some ⟨b9, off9, none⟩) (n := FR.length) (c := c3) h9.nob.1 (by omega)
                            simp only [Option.some.injEq, Addr.mk.injEq, and_true] at ho0
                            obtain ⟨rfl, rfl⟩ := ho0
                            have h0 := hfr0 k hlt3
                            rwa [HF.out] at h0
                          have k9 := And.intro h9.box hfr9
                          have HT := Lib.hid hT
                          have H9 := Lib.hid h9
                          clear cT n9 o9 g9
                          dsimp only
                          (try (simp only [Act.put, List.setIfInBounds_toArray, List.set]))
                          (refine xtakeV 10 (v := ?_) (by simp only [List.getElem?_toArray, List.getElem?_cons, reduceIte]; rfl) (by kernel_rfl) (by rfl) (fun w' hw' => ?_) ?_; rotate_left; focus (skip; go_simp; first | done | with_reducible rfl)); (simp only [Act.put, List.setIfInBounds_toArray, List.set])
                          (refine xtakeV 11 (v := ?_) (by simp only [List.getElem?_toArray, List.getElem?_cons, reduceIte]; rfl) (by kernel_rfl) (by rfl) (fun w' hw' => ?_) ?_; rotate_left; focus (skip; go_simp; first | done | with_reducible rfl)); (simp only [Act.put, List.setIfInBounds_toArray, List.set])
                          (refine xtakeV 12 (v := ?_) (by simp only [List.getElem?_toArray, List.getElem?_cons, reduceIte]; rfl) (by kernel_rfl) (by rfl) (fun w' hw' => ?_) ?_; rotate_left; focus (skip; go_simp; first | done | with_reducible rfl)); (simp only [Act.put, List.setIfInBounds_toArray, List.set])
                          (refine xtakeV 13 (v := ?_) (by simp only [List.getElem?_toArray, List.getElem?_cons, reduceIte]; rfl) (by kernel_rfl) (by rfl) (fun w' hw' => ?_) ?_; rotate_left; focus (skip; go_simp; first | done | with_reducible rfl)); (simp only [Act.put, List.setIfInBounds_toArray, List.set])
                          (refine xtakeV 14 (v := ?_) (by simp only [List.getElem?_toArray, List.getElem?_cons, reduceIte]; rfl) (by kernel_rfl) (by rfl) (fun w' hw' => ?_) ?_; rotate_left; focus (skip; go_simp; first | done | with_reducible rfl)); (simp only [Act.put, List.setIfInBounds_toArray, List.set])
                          (refine xdone (by kernel_rfl) (k9) ?_)
                          clear k9 h9 hfr9 hT k1 hh1 hst hbody
                          obtain ⟨⟨d0, d1, d2, d3, d4, d5, d6, d7⟩, _⟩ := cells8t H9.out.box
                          go_wp2_with (first
                            | (at_builtin; go_loud (refine wpList_append_sl (α := ByteArray) rfl (.tmp 118) (.tmp 120) rfl (w.heap.size + 1) (.slice ga' gn' gc') gk rfl ?_ (.slice (some ⟨w9.heap.size, 0, none⟩) 1 1) [f.b] rfl ?_ ?_ ?_ ?_; exact ((by have h := H9.out.st.cg'.1; rw [bx_size] at h; exact h : Ow w9 (w.heap.size + 1) (.slice ga' gn' gc') gk).alloc _); exact (Sl.litAt w9 _ rfl [f.b] (show (1 : Nat) ≤ 1000000 by decide)); (first | omega | (simp; omega)); (have := blk_lt H9.out.box; rw [size_alloc]; omega); intro v2 W2 ho2 ha2; obtain ⟨ya, yn, yc, rfl⟩ := ho2.sh; have hG := H9.out.got' (ob0 := .cells #[.string f.b] 9) (y := ⟨ya, yn, yc⟩) ho2 ha2; have HG := Lib.hid hG.2; obtain ⟨⟨x0, x1, x2, x3, x4, x5, x6, x7⟩, y0, y1, y2, y3, y4, y5, y6, y7⟩ := cells8t hG.1; clear ho2 ha2 hG)))
                          have HC9 : Hid (ComD w _ A.outS B s g O s' g' O' ⟨some ⟨b9, off9, none⟩, FR.length, c3⟩ FR (k + 1)) := Lib.hid (ComD.told HSN.out HT.out HG.out)
                          clear HG HT HSN H9 d0 d1 d2 d3 d4 d5 d6 d7 x0 x1 x2 x3 x4 x5 x6 x7 y0 y1 y2 y3 y4 y5 y6 y7
                          exact ⟨⟨k + 1, hlt3, by go_num, HC9⟩, by simp [intOf]; omega⟩
                      · have hke : k = FR.length := by omega
                        subst hke
                        obtain ⟨T2, F2, h2⟩ := HC.out
                        rw [List.take_length, HFR.out] at h2
                        rw [EE.out.1] at h2
                        have HM2 : Hid (Mid w wr A B s g O s' g' O' Y1 g1 X2 g2 1) := Lib.hid (.inr <| .inl ⟨rfl, T2, F2, h2.drop⟩)
                        clear h2 HC H5
                        go_wp2
                        exact ⟨⟨1, by decide, by go_num, HM2⟩, by simp [intOf]⟩
                  · obtain ⟨T0, F, hh⟩ := hM
                    obtain ⟨⟨d0, d1, _⟩, _⟩ := cells8t hh.box
                    have cO := Lib.hid (pOut hh.st.e')
                    go_wp2_with fail
                    refine cO.out.mono ?_
                    rintro ev w5 ⟨a3, n3, c3, F5, rfl, r5, q5, n5, o5, g5⟩
                    obtain ⟨a9, c9, hv9⟩ := r5.len
                    simp only [Value.slice.injEq] at hv9
                    obtain ⟨ea9, hn3, ec9⟩ := hv9
                    subst hn3
                    clear ea9 ec9
                    have h5 := hh.fresh' (y := ⟨a3, Y1.frames.length, c3⟩) n5 o5 g5 r5 q5
                    have hfit := FitO.frames okY1
                    have hfl := EndS.frames_le okY1
                    obtain ⟨FR, hFR⟩ : ∃ FR, FR = Y1.frames := ⟨_, rfl⟩
                    rw [← hFR] at h5 hfit hfl ⊢
                    have HFR := Lib.hid hFR
                    replace hfit := Lib.hid hfit
                    clear hFR
                    have H5 : Hid (ComU w w5 A.outS Y1.outS s g1 O s' g' O' ⟨a3, FR.length, c3⟩ FR 0) := Lib.hid ⟨_, _, h5⟩
                    clear n5 o5 g5 r5 q5 hh h5 d0 d1 cO
                    go_wp2
                    go_loopw [17] (fun j wi => ∃ k : Nat, k ≤ FR.length ∧ j = .int .i64 (k : Int) ∧ Hid (ComU w wi A.outS Y1.outS s g1 O s' g' O' ⟨a3, FR.length, c3⟩ FR k)) (fun j _ => FR.length - (intOf j).toNat)
                    case atStart => exact ⟨0, Nat.zero_le _, rfl, H5⟩
                    case round =>
                      obtain ⟨k, hk, rfl, HC⟩ := hrel
                      by_cases hlt3 : k < FR.length
                      · have hk3 : (k : Int) < (FR.length : Int) := by omega
                        have hkn : IntKind.i64.wrap ((k : Int) + 1) = (k : Int) + 1 := wrapN _ (by omega) (by omega)
                        have v4 : IntKind.i64.wrap 1 = 1 := by kernel_rfl
                        have v5 : IntKind.i64.wrap 0 = 0 := by kernel_rfl
                        obtain ⟨T1, F, hh⟩ := HC.out
                        clear HC H5
                        obtain ⟨f, hf⟩ : ∃ f, f = FR.getD k Fr.zero := ⟨_, rfl⟩
                        have hfi := hfit.out f (by rw [hf]; simp [hlt3])
                        have hsn := feed_snoc (FR.take k) f A.outS g'
                        have htk : FR.take (k + 1) = FR.take k ++ [f] := by rw [List.take_succ_eq_append_getElem hlt3, hf]; simp [hlt3]
                        rw [← htk] at hsn
                        have hln := feed_len (FR.take k) A.outS g'
                        rw [List.length_take] at hln
                        obtain ⟨Yk, hYk⟩ : ∃ Yk, Yk = (feed A.outS g' (FR.take k)).1 := ⟨_, rfl⟩
                        obtain ⟨gk, hgk⟩ : ∃ gk, gk = (feed A.outS g' (FR.take k)).2 := ⟨_, rfl⟩
                        rw [← hYk, ← hgk] at hh hsn
                        rw [← hgk] at hln
                        have hgk2 : gk.length ≤ 2000 := by omega
                        have HSN : Hid (Snoc A.outS g' FR k f Yk gk) := Lib.hid hsn
                        obtain ⟨b9, off9, hoa, _, hoc, hb9, hfr⟩ := Sl.frs_some (ao := a3) (n := FR.length) (c := c3) hh.nob.1 (by omega)
                        subst hoa
                        have hfr2 := hfr k hlt3
                        rw [← hf] at hfr2
                        have hkc3 : (k : Int) ≤ (c3 : Int) := by omega
                        have HF := Lib.hid hf.symm
                        clear hsn hf hfr hYk hgk hln htk
                        obtain ⟨p', q', ⟨oa, on, oc⟩, ⟨oa', on', oc'⟩, ⟨sa, sn, sc⟩, ⟨sa', sn', sc'⟩, ⟨ga, gn, gc⟩, ⟨ga', gn', gc'⟩⟩ := T1
                        go_wp2_with fail
                        (refine wp_region_X_lit (K := fun W => W.heap[w.heap.size]? = some (.cells (tvA ⟨p', q', ⟨oa, on, oc⟩, ⟨oa', on', oc'⟩, ⟨sa, sn, sc⟩, ⟨sa', sn', sc'⟩, ⟨ga, gn, gc⟩, ⟨ga', gn', gc'⟩⟩) 59 (0, 0)) ∧ FrAt W b9 (off9 + k * 5) f) (by kernel_rfl) (fun w1 hw1 => ?_))
                        have hh1 := hh.more hw1
                        have hb91 : b9 < w1.heap.size := Nat.lt_of_lt_of_le hb9 hw1.size
                        have k1 := And.intro hh1.box (hfr2.ext (hw1.mono hb9))
                        have hst := HST.out.ext hh1.ext
                        clear hh hw1 hfr2
                        (refine xtakeV 0 (v := ?_) (by simp only [List.getElem?_toArray, List.getElem?_cons, reduceIte]; rfl) (by kernel_rfl) (by rfl) (fun w' hw' => ?_) ?_; rotate_left; focus (skip; go_simp; first | done | with_reducible rfl)); (simp only [Act.put, List.setIfInBounds_toArray, List.set])
                        (refine xtakeV 1 (v := ?_) (by simp only [List.getElem?_toArray, List.getElem?_cons, reduceIte]; rfl) (by kernel_rfl) (by rfl) (fun w' hw' => ?_) ?_; rotate_left; focus (skip; go_simp; first | done | with_reducible rfl)); (simp only [Act.put, List.setIfInBounds_toArray, List.set])
                        (refine xtakeV 2 (v := ?_) (by simp only [List.getElem?_toArray, List.getElem?_cons, reduceIte]; rfl) (by kernel_rfl) (by rfl) (fun w' hw' => ?_) ?_; rotate_left; focus (skip; go_simp; first | done | with_reducible rfl)); (simp only [Act.put, List.setIfInBounds_toArray, List.set])
                        (refine xtakeV 3 (v := ?_) (by simp only [List.getElem?_toArray, List.getElem?_cons, reduceIte]; rfl) (by kernel_rfl) (by rfl) (fun w' hw' => ?_) ?_; rotate_left; focus (skip; go_simp; first | done | with_reducible rfl)); (simp only [Act.put, List.setIfInBounds_toArray, List.set])
                        (refine xtakeV 4 (v := ?_) (by simp only [List.getElem?_toArray, List.getElem?_cons, reduceIte]; rfl) (by kernel_rfl) (by rfl) (fun w' hw' => ?_) ?_; rotate_left; focus (obtain ⟨⟨e0, e1, e2, e3, e4, e5, e6, e7⟩, _⟩ := cells8t hw'.1; go_simp; first | done | with_reducible rfl)); (simp only [Act.put, List.setIfInBounds_toArray, List.set])
                        (refine xtakeV 5 (v := ?_) (by simp only [List.getElem?_toArray, List.getElem?_cons, reduceIte]; rfl) (by kernel_rfl) (by rfl) (fun w' hw' => ?_) ?_; rotate_left; focus (skip; go_simp; first | done | with_reducible rfl)); (simp only [Act.put, List.setIfInBounds_toArray, List.set])
                        (refine xtakeV 6 (v := ?_) (by simp only [List.getElem?_toArray, List.getElem?_cons, reduceIte]; rfl) (by kernel_rfl) (by rfl) (fun w' hw' => ?_) ?_; rotate_left; focus (skip; go_simp; first | done | with_reducible rfl)); (simp only [Act.put, List.setIfInBounds_toArray, List.set])
                        (refine xtakeV 7 (v := ?_) (by simp only [List.getElem?_toArray, List.getElem?_cons, reduceIte]; rfl) (by kernel_rfl) (by rfl) (fun w' hw' => ?_) ?_; rotate_left; focus (skip; go_simp; first | done | with_reducible rfl)); (simp only [Act.put, List.setIfInBounds_toArray, List.set])
                        (refine xtakeV 8 (v := ?_) (by simp only [List.getElem?_toArray, List.getElem?_cons, reduceIte]; rfl) (by kernel_rfl) (by rfl) (fun w' hw' => ?_) ?_; rotate_left; focus (obtain ⟨q0, q1, q2, q3, q4⟩ := hw'.2; go_simp; first | done | with_reducible rfl)); (simp only [Act.put, List.setIfInBounds_toArray, List.set])
                        (refine xone 9 (by kernel_rfl) (k1) (RunX.of 9 (by simp only [List.getElem?_toArray, List.getElem?_cons, reduceIte]; rfl) (by rfl) ?_))
                        go_simp
                        cases hT : Yk.told f
                        · have hbody : Yk.body f = ⟨#[]⟩ := by unfold EndS.body; rw [hT]; rfl
                          have cT := pTake hst hh1.st.e f hfi.1 hfi.2.1 hfi.2.2
                          rw [hT, hbody] at cT
                          refine cT.mono ?_
                          rintro ev w9 ⟨F9, rfl, n9, o9, g9⟩
                          have h9 := hh1.moves n9 o9 g9
                          have hfr9 : FrAt w9 b9 (off9 + k * 5) f := by
                            obtain ⟨b0, off0, ho0, _, _, _, hfr0⟩ := Sl.frs_some (ao := some ⟨b9, off9, none⟩) (n := FR.length) (c := c3) h9.nob.1 (by omega)
                            simp only [Option.some.injEq, Addr.mk.injEq, and_true] at ho0
                            obtain ⟨rfl, rfl⟩ := ho0
                            have h0 := hfr0 k hlt3
                            rwa [HF.out] at h0
                          have k9 := And.intro h9.box hfr9
                          have HC9 : Hid (ComU w _ A.outS Y1.outS s g1 O s' g' O' ⟨some ⟨b9, off9, none⟩, FR.length, c3⟩ FR (k + 1)) := Lib.hid (ComU.old HSN.out hT h9)
                          clear cT n9 o9 g9
                          dsimp only
                          (try (simp only [Act.put, List.setIfInBounds_toArray, List.set]))
                          (refine xtakeV 10 (v := ?_) (by simp only [List.getElem?_toArray, List.getElem?_cons, reduceIte]; rfl) (by kernel_rfl) (by rfl) (fun w' hw' => ?_) ?_; rotate_left; focus (skip; go_simp; first | done | with_reducible rfl)); (simp only [Act.put, List.setIfInBounds_toArray, List.set])
                          (refine xtakeV 11 (v := ?_) (by simp only [List.getElem?_toArray, List.getElem?_cons, reduceIte]; rfl) (by kernel_rfl) (by rfl) (fun w' hw' => ?_) ?_; rotate_left; focus (skip; go_simp; first | done | with_reducible rfl)); (simp only [Act.put, List.setIfInBounds_toArray, List.set])
                          (refine xtakeV 12 (v := ?_) (by simp only [List.getElem?_toArray, List.getElem?_cons, reduceIte]; rfl) (by kernel_rfl) (by rfl) (fun w' hw' => ?_) ?_; rotate_left; focus (skip; go_simp; first | done | with_reducible rfl)); (simp only [Act.put, List.setIfInBounds_toArray, List.set])
                          (refine xtakeV 13 (v := ?_) (by simp only [List.getElem?_toArray, List.getElem?_cons, reduceIte]; rfl) (by kernel_rfl) (by rfl) (fun w' hw' => ?_) ?_; rotate_left; focus (skip; go_simp; first | done | with_reducible rfl)); (simp only [Act.put, List.setIfInBounds_toArray, List.set])
                          (refine xtakeV 14 (v := ?_) (by simp only [List.getElem?_toArray, List.getElem?_cons, reduceIte]; rfl) (by kernel_rfl) (by rfl) (fun w' hw' => ?_) ?_; rotate_left; focus (skip; go_simp; first | done | with_reducible rfl)); (simp only [Act.put, List.setIfInBounds_toArray, List.set])
                          (refine xdone (by kernel_rfl) (k9) ?_)
                          clear k9 h9 hfr9 hT HSN k1 hh1 hst hbody
                          go_wp2
                          exact ⟨⟨k + 1, hlt3, by go_num, HC9⟩, by simp [intOf]; omega⟩
                        · have hbody : Yk.body f = f.b := by unfold EndS.body; rw [hT]; rfl
                          have cT := pTake hst hh1.st.e f hfi.1 hfi.2.1 hfi.2.2
                          rw [hT, hbody] at cT
                          refine cT.mono ?_
                          rintro ev w9 ⟨F9, rfl, n9, o9, g9⟩
                          have h9 := hh1.moves n9 o9 g9
                          have hfr9 : FrAt w9 b9 (off9 + k * 5) f := by
                            obtain ⟨b0, off0, ho0, _, _, _, hfr0⟩ := Sl.frs_some (ao := some ⟨b9, off9, none⟩) (n := FR.length) (c := c3) h9.nob.1 (by omega)
                            simp only [Option.some.injEq, Addr.mk.injEq, and_true] at ho0
                            obtain ⟨rfl, rfl⟩ := ho0
                            have h0 := hfr0 k hlt3
                            rwa [HF.out] at h0
                          have k9 := And.intro h9.box hfr9
                          have HT := Lib.hid hT
                          have H9 := Lib.hid h9
                          clear cT n9 o9 g9
                          dsimp only
                          (try (simp only [Act.put, List.setIfInBounds_toArray, List.set]))
                          (refine xtakeV 10 (v := ?_) (by simp only [List.getElem?_toArray, List.getElem?_cons, reduceIte]; rfl) (by kernel_rfl) (by rfl) (fun w' hw' => ?_) ?_; rotate_left; focus (skip; go_simp; first | done | with_reducible rfl)); (simp only [Act.put, List.setIfInBounds_toArray, List.set])
                          (refine xtakeV 11 (v := ?_) (by simp only [List.getElem?_toArray, List.getElem?_cons, reduceIte]; rfl) (by kernel_rfl) (by rfl) (fun w' hw' => ?_) ?_; rotate_left; focus (skip; go_simp; first | done | with_reducible rfl)); (simp only [Act.put, List.setIfInBounds_toArray, List.set])
                          (refine xtakeV 12 (v := ?_) (by simp only [List.getElem?_toArray, List.getElem?_cons, reduceIte]; rfl) (by kernel_rfl) (by rfl) (fun w' hw' => ?_) ?_; rotate_left; focus (skip; go_simp; first | done | with_reducible rfl)); (simp only [Act.put, List.setIfInBounds_toArray, List.set])
                          (refine xtakeV 13 (v := ?_) (by simp only [List.getElem?_toArray, List.getElem?_cons, reduceIte]; rfl) (by kernel_rfl) (by rfl) (fun w' hw' => ?_) ?_; rotate_left; focus (skip; go_simp; first | done | with_reducible rfl)); (simp only [Act.put, List.setIfInBounds_toArray, List.set])
                          (refine xtakeV 14 (v := ?_) (by simp only [List.getElem?_toArray, List.getElem?_cons, reduceIte]; rfl) (by kernel_rfl) (by rfl) (fun w' hw' => ?_) ?_; rotate_left; focus (skip; go_simp; first | done | with_reducible rfl)); (simp only [Act.put, List.setIfInBounds_toArray, List.set])
                          (refine xdone (by kernel_rfl) (k9) ?_)
                          clear k9 h9 hfr9 hT k1 hh1 hst hbody
                          obtain ⟨⟨d0, d1, d2, d3, d4, d5, d6, d7⟩, _⟩ := cells8t H9.out.box
                          go_wp2_with (first
                            | (at_builtin; go_loud (refine wpList_append_sl (α := ByteArray) rfl (.tmp 118) (.tmp 120) rfl (w.heap.size + 1) (.slice ga gn gc) gk rfl ?_ (.slice (some ⟨w9.heap.size, 0, none⟩) 1 1) [f.b] rfl ?_ ?_ ?_ ?_; exact ((by have h := H9.out.st.cg.1; rw [bx_size] at h; exact h : Ow w9 (w.heap.size + 1) (.slice ga gn gc) gk).alloc _); exact (Sl.litAt w9 _ rfl [f.b] (show (1 : Nat) ≤ 1000000 by decide)); (first | omega | (simp; omega)); (have := blk_lt H9.out.box; rw [size_alloc]; omega); intro v2 W2 ho2 ha2; obtain ⟨ya, yn, yc, rfl⟩ := ho2.sh; have hG := H9.out.got (ob0 := .cells #[.string f.b] 9) (y := ⟨ya, yn, yc⟩) ho2 ha2; have HG := Lib.hid hG.2; obtain ⟨⟨x0, x1, x2, x3, x4, x5, x6, x7⟩, y0, y1, y2, y3, y4, y5, y6, y7⟩ := cells8t hG.1; clear ho2 ha2 hG)))
                          have HC9 : Hid (ComU w _ A.outS Y1.outS s g1 O s' g' O' ⟨some ⟨b9, off9, none⟩, FR.length, c3⟩ FR (k + 1)) := Lib.hid (ComU.told HSN.out HT.out HG.out)
                          clear HG HT HSN H9 d0 d1 d2 d3 d4 d5 d6 d7 x0 x1 x2 x3 x4 x5 x6 x7 y0 y1 y2 y3 y4 y5 y6 y7
                          exact ⟨⟨k + 1, hlt3, by go_num, HC9⟩, by simp [intOf]; omega⟩
                      · have hke : k = FR.length := by omega
                        subst hke
                        obtain ⟨T2, F2, h2⟩ := HC.out
                        rw [List.take_length, HFR.out] at h2
                        rw [EE.out.2] at h2
                        have HM2 : Hid (Mid w wr A B s g O s' g' O' Y1 g1 X2 g2 2) := Lib.hid (.inr <| .inr ⟨rfl, T2, F2, h2.drop⟩)
                        clear h2 HC H5
                        go_wp2
                        exact ⟨⟨2, by decide, by go_num, HM2⟩, by simp [intOf]⟩
                  · obtain ⟨T2, F2, h2⟩ := hM
                    obtain ⟨O4, O4', p1, p2, p3, p4⟩ := HPR.out
                    have HR2 : Hid (Rnd w wr first (i + 1)) := Lib.hid ⟨T2, _, _, _, _, _, _, _, _, F2, O4, O4', h2, p1, p2, p3, p4⟩
                    clear h2 p1 p2 p3 p4
                    go_wp2
                    exact ⟨⟨i + 1, hi66, by go_num, HR2⟩, by simp [intOf]; omega⟩
          · have hie : i = 66 := by omega
            subst hie
            obtain ⟨z1, z2, z3, z4⟩ := all_came hp hfar
            subst z1
            subst z2
            have hh2 := hh
            clear hh hp hfar hx hy
            obtain ⟨⟨d0, d1, d2, d3, d4, d5, d6, d7⟩, _⟩ := cells8t hh2.box
            have cX := Lib.hid (refTexts_any wr _ _ _ _ hh2.st.cg'.1.sl hh2.st.cs.1.sl)
            go_wp2_with fail
            refine cX.out.mono ?_
            rintro ev w5 ⟨rfl, x5⟩
            simp only [decide_true]
            have h5 := hh2.more x5
            clear d0 d1 d2 d3 d4 d5 d6 d7 cX x5 hh2
            obtain ⟨⟨d0, d1, d2, d3, d4, d5, d6, d7⟩, _⟩ := cells8t h5.box
            have cX := Lib.hid (refTexts_any w5 _ _ _ _ h5.st.cg.1.sl h5.st.cs'.1.sl)
            go_wp2_with fail
            refine cX.out.mono ?_
            rintro ev w6 ⟨rfl, x6⟩
            simp only [decide_true]
            have h6 := h5.more x6
            clear d0 d1 d2 d3 d4 d5 d6 d7 cX x6 h5
            obtain ⟨⟨d0, d1, _⟩, _⟩ := cells8t h6.box
            have cW := pWaiting h6.st.e
            rw [z3] at cW
            replace cW := Lib.hid cW
            go_wp2_with fail
            refine cW.out.mono ?_
            rintro ev w7 ⟨F7, rfl, n7, o7, g7⟩
            have h7 := h6.moves n7 o7 g7
            clear d0 d1 cW n7 o7 g7 h6
            obtain ⟨⟨d0, d1, _⟩, _⟩ := cells8t h7.box
            have cW := pWaiting h7.st.e'
            rw [z4] at cW
            replace cW := Lib.hid cW
            go_wp2_with fail
            refine cW.out.mono ?_
            rintro ev w8 ⟨F8, rfl, n8, o8, g8⟩
            have h8 := Lib.hid (h7.moves' n8 o8 g8)
            clear d0 d1 cW n8 o8 g8 h7
            go_wp2
            go_ret
            exact ⟨rfl, h8.out.ext⟩
end Go.Proofs.Ytefkjclkondmeaa
