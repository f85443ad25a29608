/- LinkOnce: whatever comes, how often and in whatever order, each is told once, in order. -/
import Derived.Test.YtefkjclkondmeaaKW
namespace Go.Proofs.Ytefkjclkondmeaa
open Go.RowKit

set_option linter.unusedVariables false
set_option maxRecDepth 100000 in
set_option maxHeartbeats 32000000 in
theorem once_any (w : World) (hs : Std w) (v : Value) (l : List Act9) (h : Sl w v l) (hin : ∀ y ∈ l, y.f.q < 18446744073709551616 ∧ y.f.a < 18446744073709551616) (first : Nat) (hf : first < 18446744073709551616) (win qn wait : Int) :
    Calls Try.prog 4 #[.int .u64 (first : Int), .int .i64 win, .int .i64 qn, .int .i64 wait, v] w (GivesB w (.bool true)) := by
  have hlen := h.length_le
  have HS := Lib.hid h
  have HST := Lib.hid hs
  obtain ⟨ao, c, rfl⟩ := h.len
  clear h hs hin
  go_enter Try.func4, Try.ntmps4
  go_wp2_with fail
  refine (pNew _ 1 first win qn wait hf).mono ?_
  rintro ev wa ⟨p, F0, rfl, n0, hf0, x0⟩
  have XA := Lib.hid x0
  have N0 := Lib.hid n0
  have L0 := Lib.hid hf0
  clear n0 hf0 x0
  go_wp2_with fail
  refine (pNew wa 1 first win qn wait hf).mono ?_
  rintro ev wb ⟨q, F1, rfl, n1, hf1, x1⟩
  have XB := Lib.hid x1
  have N1 := Lib.hid n1
  have L1 := Lib.hid hf1
  have HB : Hid (wb.heap[w.heap.size]? = some (.cells #[.pointer none, .pointer none, .slice none 0 0, .slice none 0 0, .slice none 0 0, .slice none 0 0, .slice none 0 0, .slice none 0 0] 59 (0, 0))) := Lib.hid (blk_later (blk_later (get_alloc_new w _) XA.out) x1)
  obtain ⟨⟨d0, d1, _⟩, f0, f1, _⟩ := cells8t HB.out
  clear n1 hf1 x1
  have hb2 := blk_set (blk_set HB.out 0 (.pointer (some ⟨p, 0, none⟩))) 1 (.pointer (some ⟨q, 0, none⟩))
  simp only [List.setIfInBounds_toArray, List.set_cons_succ, List.set_cons_zero] at hb2
  have HP : Hid (Play w ((wb.setCell ⟨w.heap.size, 0, none⟩ (.pointer (some ⟨p, 0, none⟩))).setCell ⟨w.heap.size, 1, none⟩ (.pointer (some ⟨q, 0, none⟩))) first 0 ⟨p, q, SV.nil, SV.nil, SV.nil, SV.nil, SV.nil, SV.nil⟩) :=
    Lib.hid (Play.new hf (Ext.trans ((Ext.refl w).alloc _) XA.out) N0.out (fun k hk => by have := L0.out k hk; rwa [size_alloc] at this) XB.out N1.out L1.out (by have := XA.out.size; rwa [size_alloc] at this) ((off_set wb ⟨w.heap.size, 0, none⟩ _).trans (off_set _ ⟨w.heap.size, 1, none⟩ _) (Grows.refl _ _)) hb2)
  clear hb2
  go_wp2_with fail
  clear d0 d1 f0 f1
  obtain ⟨WC, hWC⟩ : ∃ WC, WC = ((wb.setCell ⟨w.heap.size, 0, none⟩ (.pointer (some ⟨p, 0, none⟩))).setCell ⟨w.heap.size, 1, none⟩ (.pointer (some ⟨q, 0, none⟩))) := ⟨_, rfl⟩
  rw [← hWC] at HP ⊢
  clear hWC HB XA XB N0 N1 L0 L1
  refine (awake_any WC (HST.out.ext HP.out.ext)).mono ?_
  rintro ev w1 ⟨rfl, x1⟩
  have P1 := Lib.hid (HP.out.more x1)
  clear x1 HP
  go_wp2_with fail
  refine (few_any w1 _ l (HS.out.ext P1.out.ext)).mono ?_
  rintro ev w2 ⟨r, rfl, hr, rfl⟩
  cases r
  · clear hr
    go_wp2_with (first
      | (go_at_call 10; refine (awake_any w1 (HST.out.ext P1.out.ext)).mono ?_; rintro ev w2 ⟨rfl, x2⟩; have X2 := Lib.hid (Ext.trans P1.out.ext x2); clear x2))
    go_ret
    exact ⟨rfl, X2.out⟩
  · have HR := Lib.hid (hr rfl)
    clear hr
    obtain ⟨⟨d0, d1, _⟩, _⟩ := cells8t P1.out.box
    go_wp2
    clear d0 d1
    go_loopw [12] (fun i wr => ∃ (k : Nat) (T : TV), k ≤ l.length ∧ i = .int .i64 (k : Int) ∧ Hid (Play w wr first k T)) (fun i _ => l.length - (intOf i).toNat)
    case atStart => exact ⟨0, _, Nat.zero_le _, rfl, P1⟩
    case round =>
      obtain ⟨k, T, hk, rfl, HP⟩ := hrel
      by_cases hlt : k < l.length
      · have hm : l.getD k dA ∈ l := by simp [hlt]
        have hs2 := HR.out.2 _ hm
        have h80 := HR.out.1
        obtain ⟨b, off, rfl, _, hcl, hbl, hat⟩ := act_here HS.out HP.out.ext hlt
        have HAT : Hid (∀ W, Ext w W → ActAt W b (off + k * 9) (l.getD k dA)) := Lib.hid (fun W x => by
          obtain ⟨b', off', hv, _, _, _, h9⟩ := act_here HS.out x hlt
          simp only [Option.some.injEq, Addr.mk.injEq, and_true] at hv
          obtain ⟨rfl, rfl⟩ := hv
          exact h9)
        obtain ⟨Y, hY⟩ : ∃ Y, Y = l.getD k dA := ⟨_, rfl⟩
        rw [← hY] at hat hs2 HAT
        clear hY hm hat
        have hkc : (k : Int) ≤ (c : Int) := by omega
        have hkl : (k : Int) < (l.length : Int) := by omega
        have hn2 : IntKind.i64.wrap ((k : Int) + 1) = (k : Int) + 1 := wrapN _ (by omega) (by omega)
        go_wp2_with fail
        (refine wp_region_X_lit (K := fun W => ActAt W b (off + k * 9) Y) (by kernel_rfl) (fun w1 hw1 => ?_))
        have P2 := Lib.hid (HP.out.more hw1)
        have a1 := HAT.out w1 P2.out.ext
        clear hw1
        obtain ⟨⟨d0, d1, d2, d3, d4, d5, d6, d7⟩, _⟩ := cells8t P2.out.box
        (refine xtakeV 1 (v := ?_) (by simp only [List.getElem?_toArray, List.getElem?_cons, reduceIte]; rfl) (by kernel_rfl) (by rfl) (fun w' hw' => ?_) ?_; rotate_left; focus (skip; go_simp; first | done | with_reducible rfl)); (simp only [Act.put, List.setIfInBounds_toArray, List.set])
        (refine xtakeV 2 (v := ?_) (by simp only [List.getElem?_toArray, List.getElem?_cons, reduceIte]; rfl) (by kernel_rfl) (by rfl) (fun w' hw' => ?_) ?_; rotate_left; focus (skip; go_simp; first | done | with_reducible rfl)); (simp only [Act.put, List.setIfInBounds_toArray, List.set])
        (refine xtakeV 3 (v := ?_) (by simp only [List.getElem?_toArray, List.getElem?_cons, reduceIte]; rfl) (by kernel_rfl) (by rfl) (fun w' hw' => ?_) ?_; rotate_left; focus (skip; go_simp; first | done | with_reducible rfl)); (simp only [Act.put, List.setIfInBounds_toArray, List.set])
        (refine xtakeV 4 (v := ?_) (by simp only [List.getElem?_toArray, List.getElem?_cons, reduceIte]; rfl) (by kernel_rfl) (by rfl) (fun w' hw' => ?_) ?_; rotate_left; focus (obtain ⟨q0, q1, q2, q3, q4, q5, q6, q7, q8⟩ := hw'; go_simp; first | done | with_reducible rfl)); (simp only [Act.put, List.setIfInBounds_toArray, List.set])
        (refine xone 0 (by kernel_rfl) (a1) (RunX.of 0 (by simp only [List.getElem?_toArray, List.getElem?_cons, reduceIte]; rfl) (by rfl) ?_))
        go_simp
        (try (simp only [Act.put, List.setIfInBounds_toArray, List.set]))
        (refine xone 5 (by kernel_rfl) (a1) (RunX.of 5 (by simp only [List.getElem?_toArray, List.getElem?_cons, reduceIte]; rfl) (by rfl) ?_))
        go_simp
        refine (play_any (Bx w T) w1 (HST.out.ext ((Ext.refl w).alloc _)) first k T P2.out.game (by omega) Y (by omega)).mono ?_
        rintro ev w3 ⟨T', rfl, g3, ep, ep'⟩
        clear ep ep'
        obtain ⟨p', q', ⟨oa, on, oc⟩, ⟨oa', on', oc'⟩, ⟨sa, sn, sc⟩, ⟨sa', sn', sc'⟩, ⟨ga, gn, gc⟩, ⟨ga', gn', gc'⟩⟩ := T'
        have x3 := g3.ext
        have xw3 : Ext w w3 := Ext.trans ((Ext.refl w).alloc _) x3
        have hb3 : w3.heap[w.heap.size]? = some (.cells (tvA T) 59 (0, 0)) := blk_later (get_alloc_new w _) x3
        have a3 := HAT.out w3 xw3
        have h4 := set8_blk hb3 (.pointer (some ⟨p', 0, none⟩)) (.pointer (some ⟨q', 0, none⟩)) (.slice oa on oc) (.slice oa' on' oc') (.slice sa sn sc) (.slice sa' sn' sc') (.slice ga gn gc) (.slice ga' gn' gc')
        have P4 : Hid (Play w (set8 w3 w.heap.size (.pointer (some ⟨p', 0, none⟩)) (.pointer (some ⟨q', 0, none⟩)) (.slice oa on oc) (.slice oa' on' oc') (.slice sa sn sc) (.slice sa' sn' sc') (.slice ga gn gc) (.slice ga' gn' gc')) first (k + 1) ⟨p', q', ⟨oa, on, oc⟩, ⟨oa', on', oc'⟩, ⟨sa, sn, sc⟩, ⟨sa', sn', sc'⟩, ⟨ga, gn, gc⟩, ⟨ga', gn', gc'⟩⟩) := Lib.hid (Play.of g3 xw3 (off_set8 w3 w.heap.size (.pointer (some ⟨p', 0, none⟩)) (.pointer (some ⟨q', 0, none⟩)) (.slice oa on oc) (.slice oa' on' oc') (.slice sa sn sc) (.slice sa' sn' sc') (.slice ga gn gc) (.slice ga' gn' gc')) h4)
        clear d0 d1 d2 d3 d4 d5 d6 d7
        obtain ⟨⟨d0, d1, d2, d3, d4, d5, d6, d7⟩, f0, f1, f2, f3, f4, f5, f6, f7⟩ := cells8t hb3
        dsimp only [tv]
        (try (simp only [Act.put, List.setIfInBounds_toArray, List.set]))
        (refine xone 6 (by kernel_rfl) (a3) (RunX.of 6 (by simp only [List.getElem?_toArray, List.getElem?_cons, reduceIte]; rfl) (by rfl) ?_))
        go_simp
        (try (simp only [Act.put, List.setIfInBounds_toArray, List.set]))
        clear d0 d1 d2 d3 d4 d5 d6 d7 f0 f1 f2 f3 f4 f5 f6 f7 hb3 h4 a1 a3 g3 x3 xw3
        have a4 := HAT.out _ P4.out.ext
        (refine xdone (by kernel_rfl) (a4) ?_)
        clear a4
        obtain ⟨W4, hW4⟩ : ∃ W4, W4 = set8 w3 w.heap.size (.pointer (some ⟨p', 0, none⟩)) (.pointer (some ⟨q', 0, none⟩)) (.slice oa on oc) (.slice oa' on' oc') (.slice sa sn sc) (.slice sa' sn' sc') (.slice ga gn gc) (.slice ga' gn' gc') := ⟨_, rfl⟩
        have hW5 := hW4
        simp only [set8] at hW5
        rw [← hW4] at P4
        rw [← hW5]
        clear hW4 hW5 HAT hs2 hkc hkl
        go_wp2
        go_loopw [13] (fun j wi => ∃ m : Nat, m ≤ 2 ∧ j = .int .i64 (m : Int) ∧ Hid (Play w wi first (k + 1) ⟨p', q', ⟨oa, on, oc⟩, ⟨oa', on', oc'⟩, ⟨sa, sn, sc⟩, ⟨sa', sn', sc'⟩, ⟨ga, gn, gc⟩, ⟨ga', gn', gc'⟩⟩)) (fun j _ => 2 - (intOf j).toNat)
        case atStart => exact ⟨0, by decide, rfl, P4⟩
        case round =>
          obtain ⟨m, hm2, rfl, HP⟩ := hrel
          have hbx := HP.out.box
          have x0 := HP.out.ext
          obtain ⟨X, Y, s, g, O, s', g', O', F, hg⟩ := HP.out.game
          have hnF : ∀ i, ¬ F i w.heap.size := fun i hi => by have := (hg.st.low i _ hi).1; rw [bx_size] at this; omega
          clear HP P4
          obtain rfl | rfl | rfl : m = 0 ∨ m = 1 ∨ m = 2 := by omega
          · obtain ⟨⟨d0, d1, d2, d3, d4, d5, d6, d7⟩, _⟩ := cells8t hbx
            have cW := Lib.hid (pWaiting hg.st.e)
            go_wp2_with fail
            refine cW.out.mono ?_
            rintro ev w5 ⟨F5, rfl, n5, o5, g5⟩
            have HG4 := Lib.hid (Game.of_st hg (hg.st.moves n5 o5 g5))
            have HB6 := Lib.hid (o5.blk hbx (hnF 0))
            have X5 := Lib.hid (Below.trans x0 (o5.below (fun j hj => by have := (hg.st.low 0 j hj).1; rw [bx_size] at this; omega) x0.size))
            clear n5 o5 g5 d0 d1 d2 d3 d4 d5 d6 d7 cW
            have hgl : gn' = g.length := by
              obtain ⟨a9, c9, h9⟩ := HG4.out.st.cg'.1.sl.len
              unfold SV.v at h9
              simp only [Value.slice.injEq] at h9
              exact h9.2.1
            have hsl : sn = s.length := by
              obtain ⟨a9, c9, h9⟩ := HG4.out.st.cs.1.sl.len
              unfold SV.v at h9
              simp only [Value.slice.injEq] at h9
              exact h9.2.1
            subst hgl hsl
            have hka := hg.pair.asks
            have hsl2 := hg.bs
            have hsl3 := hg.bs'
            have v0 : ¬ ((s.length : Int) < (X.l.length : Int)) := by have := hka.2.1; omega
            have v2 : IntKind.i64.wrap ((s.length : Int) - (X.l.length : Int)) = ((s.length - X.l.length : Nat) : Int) := by
              have h1 := hka.2.1
              rw [wrapN _ (by omega) (by omega)]
              omega
            have v3 : ¬ ((g.length : Int) < ((s.length - X.l.length : Nat) : Int)) := by have := hka.2.2; omega
            have v0d : decide ((s.length : Int) < (X.l.length : Int)) = false := decide_eq_false v0
            have v0n : decide (s.length < X.l.length) = false := decide_eq_false (by omega)
            have v0m : ¬ s.length < X.l.length := by omega
            have v4 : IntKind.i64.wrap 1 = 1 := by kernel_rfl
            have v5 : IntKind.i64.wrap 0 = 0 := by kernel_rfl
            have cB := Lib.hid (fun W9 (x : Ext w5 W9) => begins_yes W9 _ _ g s (HG4.out.st.cg'.1.sl.ext x) (HG4.out.st.cs.1.sl.ext x) hka.1.1 hka.1.2)
            obtain ⟨LD, hLD⟩ : ∃ LD : Nat, LD = s.length - X.l.length := ⟨_, rfl⟩
            rw [← hLD] at v2 v3
            have v3d : decide ((g.length : Int) < (LD : Int)) = false := decide_eq_false v3
            have v3n : decide (g.length < LD) = false := decide_eq_false (by omega)
            have v3m : ¬ g.length < LD := by omega
            unfold SV.v at cB
            dsimp only at cB
            clear hka hLD hg hbx hnF x0 hsl2 hsl3
            go_wp2_with fail
            refine wp_region_M_lit (by kernel_rfl) ?_
            (refine takeV 0 (v := ?_) (by simp only [List.getElem?_toArray, List.getElem?_cons, reduceIte]; rfl) (by kernel_rfl) (by rfl) (fun w' hw' => ?_) ?_; rotate_left; focus (skip; go_simp; first | done | with_reducible rfl)); (simp only [Act.put, List.setIfInBounds_toArray, List.set])
            (refine takeV 1 (v := ?_) (by simp only [List.getElem?_toArray, List.getElem?_cons, reduceIte]; rfl) (by kernel_rfl) (by rfl) (fun w' hw' => ?_) ?_; rotate_left; focus (skip; go_simp; first | done | with_reducible rfl)); (simp only [Act.put, List.setIfInBounds_toArray, List.set])
            (refine takeV 2 (v := ?_) (by simp only [List.getElem?_toArray, List.getElem?_cons, reduceIte]; rfl) (by kernel_rfl) (by rfl) (fun w' hw' => ?_) ?_; rotate_left; focus (skip; go_simp; first | done | with_reducible rfl)); (simp only [Act.put, List.setIfInBounds_toArray, List.set])
            (refine takeV 3 (v := ?_) (by simp only [List.getElem?_toArray, List.getElem?_cons, reduceIte]; rfl) (by kernel_rfl) (by rfl) (fun w' hw' => ?_) ?_; rotate_left; focus (skip; go_simp; first | done | with_reducible rfl)); (simp only [Act.put, List.setIfInBounds_toArray, List.set])
            (refine takeV 4 (v := ?_) (by simp only [List.getElem?_toArray, List.getElem?_cons, reduceIte]; rfl) (by kernel_rfl) (by rfl) (fun w' hw' => ?_) ?_; rotate_left; focus (obtain ⟨⟨d0, d1, d2, d3, d4, d5, d6, d7⟩, _⟩ := cells8t (blk_later HB6.out hw'); go_simp; first | done | with_reducible rfl)); (simp only [Act.put, List.setIfInBounds_toArray, List.set])
            (refine takeV 5 (v := ?_) (by simp only [List.getElem?_toArray, List.getElem?_cons, reduceIte]; rfl) (by kernel_rfl) (by rfl) (fun w' hw' => ?_) ?_; rotate_left; focus (skip; go_simp; first | done | with_reducible rfl)); (simp only [Act.put, List.setIfInBounds_toArray, List.set])
            (refine takeV 6 (v := ?_) (by simp only [List.getElem?_toArray, List.getElem?_cons, reduceIte]; rfl) (by kernel_rfl) (by rfl) (fun w' hw' => ?_) ?_; rotate_left; focus (skip; go_simp; first | done | with_reducible rfl)); (simp only [Act.put, List.setIfInBounds_toArray, List.set])
            (refine takeV 7 (v := ?_) (by simp only [List.getElem?_toArray, List.getElem?_cons, reduceIte]; rfl) (by kernel_rfl) (by rfl) (fun w' hw' => ?_) ?_; rotate_left; focus (skip; go_simp; first | done | with_reducible rfl)); (simp only [Act.put, List.setIfInBounds_toArray, List.set])
            (refine takeV 8 (v := ?_) (by simp only [List.getElem?_toArray, List.getElem?_cons, reduceIte]; rfl) (by kernel_rfl) (by rfl) (fun w' hw' => ?_) ?_; rotate_left; focus (obtain ⟨⟨d0, d1, d2, d3, d4, d5, d6, d7⟩, _⟩ := cells8t (blk_later HB6.out hw'); go_simp; first | done | with_reducible rfl)); (simp only [Act.put, List.setIfInBounds_toArray, List.set])
            (refine takeG 9 (v := ?_) (by simp only [List.getElem?_toArray, List.getElem?_cons, reduceIte]; rfl) (by kernel_rfl) (by rfl) (fun w' hw' => ?_) ?_; rotate_left; focus (go_simp; refine ⟨Ext.refl _, ?_⟩; (exact cB.out w' hw'))); (simp only [Act.put, List.setIfInBounds_toArray, List.set])
            (refine takeV 10 (v := ?_) (by simp only [List.getElem?_toArray, List.getElem?_cons, reduceIte]; rfl) (by kernel_rfl) (by rfl) (fun w' hw' => ?_) ?_; rotate_left; focus (skip; go_simp; first | done | with_reducible rfl)); (simp only [Act.put, List.setIfInBounds_toArray, List.set])
            (refine takeV 11 (v := ?_) (by simp only [List.getElem?_toArray, List.getElem?_cons, reduceIte]; rfl) (by kernel_rfl) (by rfl) (fun w' hw' => ?_) ?_; rotate_left; focus (skip; go_simp; first | done | with_reducible rfl)); (simp only [Act.put, List.setIfInBounds_toArray, List.set])
            (refine takeV 12 (v := ?_) (by simp only [List.getElem?_toArray, List.getElem?_cons, reduceIte]; rfl) (by kernel_rfl) (by rfl) (fun w' hw' => ?_) ?_; rotate_left; focus (skip; go_simp; first | done | with_reducible rfl)); (simp only [Act.put, List.setIfInBounds_toArray, List.set])
            (refine takeV 13 (v := ?_) (by simp only [List.getElem?_toArray, List.getElem?_cons, reduceIte]; rfl) (by kernel_rfl) (by rfl) (fun w' hw' => ?_) ?_; rotate_left; focus (skip; go_simp; first | done | with_reducible rfl)); (simp only [Act.put, List.setIfInBounds_toArray, List.set])
            (refine takeV 14 (v := ?_) (by simp only [List.getElem?_toArray, List.getElem?_cons, reduceIte]; rfl) (by kernel_rfl) (by rfl) (fun w' hw' => ?_) ?_; rotate_left; focus (skip; go_simp; first | done | with_reducible rfl)); (simp only [Act.put, List.setIfInBounds_toArray, List.set])
            (refine takeV 15 (v := ?_) (by simp only [List.getElem?_toArray, List.getElem?_cons, reduceIte]; rfl) (by kernel_rfl) (by rfl) (fun w' hw' => ?_) ?_; rotate_left; focus (skip; go_simp; first | done | with_reducible rfl)); (simp only [Act.put, List.setIfInBounds_toArray, List.set])
            (refine takeV 16 (v := ?_) (by simp only [List.getElem?_toArray, List.getElem?_cons, reduceIte]; rfl) (by kernel_rfl) (by rfl) (fun w' hw' => ?_) ?_; rotate_left; focus (obtain ⟨⟨d0, d1, d2, d3, d4, d5, d6, d7⟩, _⟩ := cells8t (blk_later HB6.out hw'); go_simp; first | done | with_reducible rfl)); (simp only [Act.put, List.setIfInBounds_toArray, List.set])
            (refine takeV 17 (v := ?_) (by simp only [List.getElem?_toArray, List.getElem?_cons, reduceIte]; rfl) (by kernel_rfl) (by rfl) (fun w' hw' => ?_) ?_; rotate_left; focus (skip; go_simp; first | done | with_reducible rfl)); (simp only [Act.put, List.setIfInBounds_toArray, List.set])
            (refine takeV 18 (v := ?_) (by simp only [List.getElem?_toArray, List.getElem?_cons, reduceIte]; rfl) (by kernel_rfl) (by rfl) (fun w' hw' => ?_) ?_; rotate_left; focus (skip; go_simp; first | done | with_reducible rfl)); (simp only [Act.put, List.setIfInBounds_toArray, List.set])
            (refine takeV 19 (v := ?_) (by simp only [List.getElem?_toArray, List.getElem?_cons, reduceIte]; rfl) (by kernel_rfl) (by rfl) (fun w' hw' => ?_) ?_; rotate_left; focus (skip; go_simp; first | done | with_reducible rfl)); (simp only [Act.put, List.setIfInBounds_toArray, List.set])
            (refine takeV 20 (v := ?_) (by simp only [List.getElem?_toArray, List.getElem?_cons, reduceIte]; rfl) (by kernel_rfl) (by rfl) (fun w' hw' => ?_) ?_; rotate_left; focus (skip; go_simp; first | done | with_reducible rfl)); (simp only [Act.put, List.setIfInBounds_toArray, List.set])
            (refine takeV 21 (v := ?_) (by simp only [List.getElem?_toArray, List.getElem?_cons, reduceIte]; rfl) (by kernel_rfl) (by rfl) (fun w' hw' => ?_) ?_; rotate_left; focus (skip; go_simp; first | done | with_reducible rfl)); (simp only [Act.put, List.setIfInBounds_toArray, List.set])
            (refine takeV 22 (v := ?_) (by simp only [List.getElem?_toArray, List.getElem?_cons, reduceIte]; rfl) (by kernel_rfl) (by rfl) (fun w' hw' => ?_) ?_; rotate_left; focus (skip; go_simp; first | done | with_reducible rfl)); (simp only [Act.put, List.setIfInBounds_toArray, List.set])
            (refine takeV 23 (v := ?_) (by simp only [List.getElem?_toArray, List.getElem?_cons, reduceIte]; rfl) (by kernel_rfl) (by rfl) (fun w' hw' => ?_) ?_; rotate_left; focus (skip; go_simp; first | done | with_reducible rfl)); (simp only [Act.put, List.setIfInBounds_toArray, List.set])
            (refine takeV 24 (v := ?_) (by simp only [List.getElem?_toArray, List.getElem?_cons, reduceIte]; rfl) (by kernel_rfl) (by rfl) (fun w' hw' => ?_) ?_; rotate_left; focus (obtain ⟨⟨d0, d1, d2, d3, d4, d5, d6, d7⟩, _⟩ := cells8t (blk_later HB6.out hw'); go_simp; first | done | with_reducible rfl)); (simp only [Act.put, List.setIfInBounds_toArray, List.set])
            (refine takeV 25 (v := ?_) (by simp only [List.getElem?_toArray, List.getElem?_cons, reduceIte]; rfl) (by kernel_rfl) (by rfl) (fun w' hw' => ?_) ?_; rotate_left; focus (skip; go_simp; first | done | with_reducible rfl)); (simp only [Act.put, List.setIfInBounds_toArray, List.set])
            (refine takeV 26 (v := ?_) (by simp only [List.getElem?_toArray, List.getElem?_cons, reduceIte]; rfl) (by kernel_rfl) (by rfl) (fun w' hw' => ?_) ?_; rotate_left; focus (skip; go_simp; first | done | with_reducible rfl)); (simp only [Act.put, List.setIfInBounds_toArray, List.set])
            (refine takeV 27 (v := ?_) (by simp only [List.getElem?_toArray, List.getElem?_cons, reduceIte]; rfl) (by kernel_rfl) (by rfl) (fun w' hw' => ?_) ?_; rotate_left; focus (skip; go_simp; first | done | with_reducible rfl)); (simp only [Act.put, List.setIfInBounds_toArray, List.set])
            (refine takeV 28 (v := ?_) (by simp only [List.getElem?_toArray, List.getElem?_cons, reduceIte]; rfl) (by kernel_rfl) (by rfl) (fun w' hw' => ?_) ?_; rotate_left; focus (skip; go_simp; first | done | with_reducible rfl)); (simp only [Act.put, List.setIfInBounds_toArray, List.set])
            (refine takeV 29 (v := ?_) (by simp only [List.getElem?_toArray, List.getElem?_cons, reduceIte]; rfl) (by kernel_rfl) (by rfl) (fun w' hw' => ?_) ?_; rotate_left; focus (skip; go_simp; first | done | with_reducible rfl)); (simp only [Act.put, List.setIfInBounds_toArray, List.set])
            (refine takeV 30 (v := ?_) (by simp only [List.getElem?_toArray, List.getElem?_cons, reduceIte]; rfl) (by kernel_rfl) (by rfl) (fun w' hw' => ?_) ?_; rotate_left; focus (skip; go_simp; first | done | with_reducible rfl)); (simp only [Act.put, List.setIfInBounds_toArray, List.set])
            (refine takeV 31 (v := ?_) (by simp only [List.getElem?_toArray, List.getElem?_cons, reduceIte]; rfl) (by kernel_rfl) (by rfl) (fun w' hw' => ?_) ?_; rotate_left; focus (skip; go_simp; first | done | with_reducible rfl)); (simp only [Act.put, List.setIfInBounds_toArray, List.set])
            (refine takeV 32 (v := ?_) (by simp only [List.getElem?_toArray, List.getElem?_cons, reduceIte]; rfl) (by kernel_rfl) (by rfl) (fun w' hw' => ?_) ?_; rotate_left; focus (obtain ⟨⟨d0, d1, d2, d3, d4, d5, d6, d7⟩, _⟩ := cells8t (blk_later HB6.out hw'); go_simp; first | done | with_reducible rfl)); (simp only [Act.put, List.setIfInBounds_toArray, List.set])
            (refine takeV 33 (v := ?_) (by simp only [List.getElem?_toArray, List.getElem?_cons, reduceIte]; rfl) (by kernel_rfl) (by rfl) (fun w' hw' => ?_) ?_; rotate_left; focus (skip; go_simp; first | done | with_reducible rfl)); (simp only [Act.put, List.setIfInBounds_toArray, List.set])
            (refine takeV 34 (v := ?_) (by simp only [List.getElem?_toArray, List.getElem?_cons, reduceIte]; rfl) (by kernel_rfl) (by rfl) (fun w' hw' => ?_) ?_; rotate_left; focus (skip; go_simp; first | done | with_reducible rfl)); (simp only [Act.put, List.setIfInBounds_toArray, List.set])
            (refine takeV 35 (v := ?_) (by simp only [List.getElem?_toArray, List.getElem?_cons, reduceIte]; rfl) (by kernel_rfl) (by rfl) (fun w' hw' => ?_) ?_; rotate_left; focus (skip; go_simp; first | done | with_reducible rfl)); (simp only [Act.put, List.setIfInBounds_toArray, List.set])
            (refine doneM (by kernel_rfl) ?_; intro w' hw'; show _)
            have HP6 := Lib.hid (Play.mk (Ext.trans X5.out hw') (blk_later HB6.out hw') ⟨_, _, _, _, _, _, _, _, _, HG4.out.more hw' (Nat.le_refl _)⟩)
            clear hw'
            go_wp2
            exact ⟨⟨1, by decide, by go_num, HP6⟩, by simp [intOf]⟩
          · obtain ⟨⟨d0, d1, d2, d3, d4, d5, d6, d7⟩, _⟩ := cells8t hbx
            have cW := Lib.hid (pWaiting hg.st.e')
            go_wp2_with fail
            refine cW.out.mono ?_
            rintro ev w5 ⟨F5, rfl, n5, o5, g5⟩
            have HG4 := Lib.hid (Game.of_st hg ((hg.st.swap.moves n5 o5 g5).swap))
            have HB6 := Lib.hid (o5.blk hbx (hnF 1))
            have X5 := Lib.hid (Below.trans x0 (o5.below (fun j hj => by have := (hg.st.low 1 j hj).1; rw [bx_size] at this; omega) x0.size))
            clear n5 o5 g5 d0 d1 d2 d3 d4 d5 d6 d7 cW
            have hgl : gn = g'.length := by
              obtain ⟨a9, c9, h9⟩ := HG4.out.st.cg.1.sl.len
              unfold SV.v at h9
              simp only [Value.slice.injEq] at h9
              exact h9.2.1
            have hsl : sn' = s'.length := by
              obtain ⟨a9, c9, h9⟩ := HG4.out.st.cs'.1.sl.len
              unfold SV.v at h9
              simp only [Value.slice.injEq] at h9
              exact h9.2.1
            subst hgl hsl
            have hka := hg.pair.swap.asks
            have hsl2 := hg.bs
            have hsl3 := hg.bs'
            have v0 : ¬ ((s'.length : Int) < (Y.l.length : Int)) := by have := hka.2.1; omega
            have v2 : IntKind.i64.wrap ((s'.length : Int) - (Y.l.length : Int)) = ((s'.length - Y.l.length : Nat) : Int) := by
              have h1 := hka.2.1
              rw [wrapN _ (by omega) (by omega)]
              omega
            have v3 : ¬ ((g'.length : Int) < ((s'.length - Y.l.length : Nat) : Int)) := by have := hka.2.2; omega
            have v0d : decide ((s'.length : Int) < (Y.l.length : Int)) = false := decide_eq_false v0
            have v0n : decide (s'.length < Y.l.length) = false := decide_eq_false (by omega)
            have v0m : ¬ s'.length < Y.l.length := by omega
            have v4 : IntKind.i64.wrap 1 = 1 := by kernel_rfl
            have v5 : IntKind.i64.wrap 0 = 0 := by kernel_rfl
            have cB := Lib.hid (fun W9 (x : Ext w5 W9) => begins_yes W9 _ _ g' s' (HG4.out.st.cg.1.sl.ext x) (HG4.out.st.cs'.1.sl.ext x) hka.1.1 hka.1.2)
            obtain ⟨LD, hLD⟩ : ∃ LD : Nat, LD = s'.length - Y.l.length := ⟨_, rfl⟩
            rw [← hLD] at v2 v3
            have v3d : decide ((g'.length : Int) < (LD : Int)) = false := decide_eq_false v3
            have v3n : decide (g'.length < LD) = false := decide_eq_false (by omega)
            have v3m : ¬ g'.length < LD := by omega
            unfold SV.v at cB
            dsimp only at cB
            clear hka hLD hg hbx hnF x0 hsl2 hsl3
            go_wp2_with fail
            refine wp_region_M_lit (by kernel_rfl) ?_
            (refine takeV 0 (v := ?_) (by simp only [List.getElem?_toArray, List.getElem?_cons, reduceIte]; rfl) (by kernel_rfl) (by rfl) (fun w' hw' => ?_) ?_; rotate_left; focus (skip; go_simp; first | done | with_reducible rfl)); (simp only [Act.put, List.setIfInBounds_toArray, List.set])
            (refine takeV 1 (v := ?_) (by simp only [List.getElem?_toArray, List.getElem?_cons, reduceIte]; rfl) (by kernel_rfl) (by rfl) (fun w' hw' => ?_) ?_; rotate_left; focus (skip; go_simp; first | done | with_reducible rfl)); (simp only [Act.put, List.setIfInBounds_toArray, List.set])
            (refine takeV 2 (v := ?_) (by simp only [List.getElem?_toArray, List.getElem?_cons, reduceIte]; rfl) (by kernel_rfl) (by rfl) (fun w' hw' => ?_) ?_; rotate_left; focus (skip; go_simp; first | done | with_reducible rfl)); (simp only [Act.put, List.setIfInBounds_toArray, List.set])
            (refine takeV 3 (v := ?_) (by simp only [List.getElem?_toArray, List.getElem?_cons, reduceIte]; rfl) (by kernel_rfl) (by rfl) (fun w' hw' => ?_) ?_; rotate_left; focus (skip; go_simp; first | done | with_reducible rfl)); (simp only [Act.put, List.setIfInBounds_toArray, List.set])
            (refine takeV 4 (v := ?_) (by simp only [List.getElem?_toArray, List.getElem?_cons, reduceIte]; rfl) (by kernel_rfl) (by rfl) (fun w' hw' => ?_) ?_; rotate_left; focus (obtain ⟨⟨d0, d1, d2, d3, d4, d5, d6, d7⟩, _⟩ := cells8t (blk_later HB6.out hw'); go_simp; first | done | with_reducible rfl)); (simp only [Act.put, List.setIfInBounds_toArray, List.set])
            (refine takeV 5 (v := ?_) (by simp only [List.getElem?_toArray, List.getElem?_cons, reduceIte]; rfl) (by kernel_rfl) (by rfl) (fun w' hw' => ?_) ?_; rotate_left; focus (skip; go_simp; first | done | with_reducible rfl)); (simp only [Act.put, List.setIfInBounds_toArray, List.set])
            (refine takeV 6 (v := ?_) (by simp only [List.getElem?_toArray, List.getElem?_cons, reduceIte]; rfl) (by kernel_rfl) (by rfl) (fun w' hw' => ?_) ?_; rotate_left; focus (skip; go_simp; first | done | with_reducible rfl)); (simp only [Act.put, List.setIfInBounds_toArray, List.set])
            (refine takeV 7 (v := ?_) (by simp only [List.getElem?_toArray, List.getElem?_cons, reduceIte]; rfl) (by kernel_rfl) (by rfl) (fun w' hw' => ?_) ?_; rotate_left; focus (skip; go_simp; first | done | with_reducible rfl)); (simp only [Act.put, List.setIfInBounds_toArray, List.set])
            (refine takeV 8 (v := ?_) (by simp only [List.getElem?_toArray, List.getElem?_cons, reduceIte]; rfl) (by kernel_rfl) (by rfl) (fun w' hw' => ?_) ?_; rotate_left; focus (obtain ⟨⟨d0, d1, d2, d3, d4, d5, d6, d7⟩, _⟩ := cells8t (blk_later HB6.out hw'); go_simp; first | done | with_reducible rfl)); (simp only [Act.put, List.setIfInBounds_toArray, List.set])
            (refine takeG 9 (v := ?_) (by simp only [List.getElem?_toArray, List.getElem?_cons, reduceIte]; rfl) (by kernel_rfl) (by rfl) (fun w' hw' => ?_) ?_; rotate_left; focus (go_simp; refine ⟨Ext.refl _, ?_⟩; (exact cB.out w' hw'))); (simp only [Act.put, List.setIfInBounds_toArray, List.set])
            (refine takeV 10 (v := ?_) (by simp only [List.getElem?_toArray, List.getElem?_cons, reduceIte]; rfl) (by kernel_rfl) (by rfl) (fun w' hw' => ?_) ?_; rotate_left; focus (skip; go_simp; first | done | with_reducible rfl)); (simp only [Act.put, List.setIfInBounds_toArray, List.set])
            (refine takeV 11 (v := ?_) (by simp only [List.getElem?_toArray, List.getElem?_cons, reduceIte]; rfl) (by kernel_rfl) (by rfl) (fun w' hw' => ?_) ?_; rotate_left; focus (skip; go_simp; first | done | with_reducible rfl)); (simp only [Act.put, List.setIfInBounds_toArray, List.set])
            (refine takeV 12 (v := ?_) (by simp only [List.getElem?_toArray, List.getElem?_cons, reduceIte]; rfl) (by kernel_rfl) (by rfl) (fun w' hw' => ?_) ?_; rotate_left; focus (skip; go_simp; first | done | with_reducible rfl)); (simp only [Act.put, List.setIfInBounds_toArray, List.set])
            (refine takeV 13 (v := ?_) (by simp only [List.getElem?_toArray, List.getElem?_cons, reduceIte]; rfl) (by kernel_rfl) (by rfl) (fun w' hw' => ?_) ?_; rotate_left; focus (skip; go_simp; first | done | with_reducible rfl)); (simp only [Act.put, List.setIfInBounds_toArray, List.set])
            (refine takeV 14 (v := ?_) (by simp only [List.getElem?_toArray, List.getElem?_cons, reduceIte]; rfl) (by kernel_rfl) (by rfl) (fun w' hw' => ?_) ?_; rotate_left; focus (skip; go_simp; first | done | with_reducible rfl)); (simp only [Act.put, List.setIfInBounds_toArray, List.set])
            (refine takeV 15 (v := ?_) (by simp only [List.getElem?_toArray, List.getElem?_cons, reduceIte]; rfl) (by kernel_rfl) (by rfl) (fun w' hw' => ?_) ?_; rotate_left; focus (skip; go_simp; first | done | with_reducible rfl)); (simp only [Act.put, List.setIfInBounds_toArray, List.set])
            (refine takeV 16 (v := ?_) (by simp only [List.getElem?_toArray, List.getElem?_cons, reduceIte]; rfl) (by kernel_rfl) (by rfl) (fun w' hw' => ?_) ?_; rotate_left; focus (obtain ⟨⟨d0, d1, d2, d3, d4, d5, d6, d7⟩, _⟩ := cells8t (blk_later HB6.out hw'); go_simp; first | done | with_reducible rfl)); (simp only [Act.put, List.setIfInBounds_toArray, List.set])
            (refine takeV 17 (v := ?_) (by simp only [List.getElem?_toArray, List.getElem?_cons, reduceIte]; rfl) (by kernel_rfl) (by rfl) (fun w' hw' => ?_) ?_; rotate_left; focus (skip; go_simp; first | done | with_reducible rfl)); (simp only [Act.put, List.setIfInBounds_toArray, List.set])
            (refine takeV 18 (v := ?_) (by simp only [List.getElem?_toArray, List.getElem?_cons, reduceIte]; rfl) (by kernel_rfl) (by rfl) (fun w' hw' => ?_) ?_; rotate_left; focus (skip; go_simp; first | done | with_reducible rfl)); (simp only [Act.put, List.setIfInBounds_toArray, List.set])
            (refine takeV 19 (v := ?_) (by simp only [List.getElem?_toArray, List.getElem?_cons, reduceIte]; rfl) (by kernel_rfl) (by rfl) (fun w' hw' => ?_) ?_; rotate_left; focus (skip; go_simp; first | done | with_reducible rfl)); (simp only [Act.put, List.setIfInBounds_toArray, List.set])
            (refine takeV 20 (v := ?_) (by simp only [List.getElem?_toArray, List.getElem?_cons, reduceIte]; rfl) (by kernel_rfl) (by rfl) (fun w' hw' => ?_) ?_; rotate_left; focus (skip; go_simp; first | done | with_reducible rfl)); (simp only [Act.put, List.setIfInBounds_toArray, List.set])
            (refine takeV 21 (v := ?_) (by simp only [List.getElem?_toArray, List.getElem?_cons, reduceIte]; rfl) (by kernel_rfl) (by rfl) (fun w' hw' => ?_) ?_; rotate_left; focus (skip; go_simp; first | done | with_reducible rfl)); (simp only [Act.put, List.setIfInBounds_toArray, List.set])
            (refine takeV 22 (v := ?_) (by simp only [List.getElem?_toArray, List.getElem?_cons, reduceIte]; rfl) (by kernel_rfl) (by rfl) (fun w' hw' => ?_) ?_; rotate_left; focus (skip; go_simp; first | done | with_reducible rfl)); (simp only [Act.put, List.setIfInBounds_toArray, List.set])
            (refine takeV 23 (v := ?_) (by simp only [List.getElem?_toArray, List.getElem?_cons, reduceIte]; rfl) (by kernel_rfl) (by rfl) (fun w' hw' => ?_) ?_; rotate_left; focus (skip; go_simp; first | done | with_reducible rfl)); (simp only [Act.put, List.setIfInBounds_toArray, List.set])
            (refine takeV 24 (v := ?_) (by simp only [List.getElem?_toArray, List.getElem?_cons, reduceIte]; rfl) (by kernel_rfl) (by rfl) (fun w' hw' => ?_) ?_; rotate_left; focus (obtain ⟨⟨d0, d1, d2, d3, d4, d5, d6, d7⟩, _⟩ := cells8t (blk_later HB6.out hw'); go_simp; first | done | with_reducible rfl)); (simp only [Act.put, List.setIfInBounds_toArray, List.set])
            (refine takeV 25 (v := ?_) (by simp only [List.getElem?_toArray, List.getElem?_cons, reduceIte]; rfl) (by kernel_rfl) (by rfl) (fun w' hw' => ?_) ?_; rotate_left; focus (skip; go_simp; first | done | with_reducible rfl)); (simp only [Act.put, List.setIfInBounds_toArray, List.set])
            (refine takeV 26 (v := ?_) (by simp only [List.getElem?_toArray, List.getElem?_cons, reduceIte]; rfl) (by kernel_rfl) (by rfl) (fun w' hw' => ?_) ?_; rotate_left; focus (skip; go_simp; first | done | with_reducible rfl)); (simp only [Act.put, List.setIfInBounds_toArray, List.set])
            (refine takeV 27 (v := ?_) (by simp only [List.getElem?_toArray, List.getElem?_cons, reduceIte]; rfl) (by kernel_rfl) (by rfl) (fun w' hw' => ?_) ?_; rotate_left; focus (skip; go_simp; first | done | with_reducible rfl)); (simp only [Act.put, List.setIfInBounds_toArray, List.set])
            (refine takeV 28 (v := ?_) (by simp only [List.getElem?_toArray, List.getElem?_cons, reduceIte]; rfl) (by kernel_rfl) (by rfl) (fun w' hw' => ?_) ?_; rotate_left; focus (skip; go_simp; first | done | with_reducible rfl)); (simp only [Act.put, List.setIfInBounds_toArray, List.set])
            (refine takeV 29 (v := ?_) (by simp only [List.getElem?_toArray, List.getElem?_cons, reduceIte]; rfl) (by kernel_rfl) (by rfl) (fun w' hw' => ?_) ?_; rotate_left; focus (skip; go_simp; first | done | with_reducible rfl)); (simp only [Act.put, List.setIfInBounds_toArray, List.set])
            (refine takeV 30 (v := ?_) (by simp only [List.getElem?_toArray, List.getElem?_cons, reduceIte]; rfl) (by kernel_rfl) (by rfl) (fun w' hw' => ?_) ?_; rotate_left; focus (skip; go_simp; first | done | with_reducible rfl)); (simp only [Act.put, List.setIfInBounds_toArray, List.set])
            (refine takeV 31 (v := ?_) (by simp only [List.getElem?_toArray, List.getElem?_cons, reduceIte]; rfl) (by kernel_rfl) (by rfl) (fun w' hw' => ?_) ?_; rotate_left; focus (skip; go_simp; first | done | with_reducible rfl)); (simp only [Act.put, List.setIfInBounds_toArray, List.set])
            (refine takeV 32 (v := ?_) (by simp only [List.getElem?_toArray, List.getElem?_cons, reduceIte]; rfl) (by kernel_rfl) (by rfl) (fun w' hw' => ?_) ?_; rotate_left; focus (obtain ⟨⟨d0, d1, d2, d3, d4, d5, d6, d7⟩, _⟩ := cells8t (blk_later HB6.out hw'); go_simp; first | done | with_reducible rfl)); (simp only [Act.put, List.setIfInBounds_toArray, List.set])
            (refine takeV 33 (v := ?_) (by simp only [List.getElem?_toArray, List.getElem?_cons, reduceIte]; rfl) (by kernel_rfl) (by rfl) (fun w' hw' => ?_) ?_; rotate_left; focus (skip; go_simp; first | done | with_reducible rfl)); (simp only [Act.put, List.setIfInBounds_toArray, List.set])
            (refine takeV 34 (v := ?_) (by simp only [List.getElem?_toArray, List.getElem?_cons, reduceIte]; rfl) (by kernel_rfl) (by rfl) (fun w' hw' => ?_) ?_; rotate_left; focus (skip; go_simp; first | done | with_reducible rfl)); (simp only [Act.put, List.setIfInBounds_toArray, List.set])
            (refine takeV 35 (v := ?_) (by simp only [List.getElem?_toArray, List.getElem?_cons, reduceIte]; rfl) (by kernel_rfl) (by rfl) (fun w' hw' => ?_) ?_; rotate_left; focus (skip; go_simp; first | done | with_reducible rfl)); (simp only [Act.put, List.setIfInBounds_toArray, List.set])
            (refine doneM (by kernel_rfl) ?_; intro w' hw'; show _)
            have HP6 := Lib.hid (Play.mk (Ext.trans X5.out hw') (blk_later HB6.out hw') ⟨_, _, _, _, _, _, _, _, _, HG4.out.more hw' (Nat.le_refl _)⟩)
            clear hw'
            go_wp2
            exact ⟨⟨2, by decide, by go_num, HP6⟩, by simp [intOf]⟩
          · go_wp2
            exact ⟨⟨k + 1, _, hlt, by go_num, Lib.hid ⟨x0, hbx, X, Y, s, g, O, s', g', O', F, hg⟩⟩, by simp [intOf]; omega⟩
      · go_wp2
        go_ret
        exact ⟨rfl, HP.out.ext⟩
end Go.Proofs.Ytefkjclkondmeaa
