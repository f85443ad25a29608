/- LinkEpochs: frames of other epochs change nothing. -/
import Derived.Test.YtefkjclkondmeaaKM
namespace Go.Proofs.Ytefkjclkondmeaa
open Go.RowKit

theorem other_epoch {S : EndS} {f : Fr} (h : f.e ≠ S.e) : S.take f = S ∧ S.body f = ⟨#[]⟩ ∧ S.told f = false := by
  have hg : S.good f = false := by unfold EndS.good; rw [decide_eq_false h]; simp
  have ht : S.told f = false := by unfold EndS.told; rw [hg]; rfl
  exact ⟨by unfold EndS.take; rw [if_neg (by rw [hg]; decide)], by unfold EndS.body; rw [if_neg (by rw [ht]; decide)], ht⟩

set_option maxRecDepth 100000 in
set_option maxHeartbeats 16000000 in
theorem epochs_any (w : World) (hs : Std w) (v : Value) (l : List Act9) (h : Sl w v l) (hin : ∀ y ∈ l, y.f.q < 18446744073709551616 ∧ y.f.a < 18446744073709551616) (e : Int) (first : Nat) (hf : first < 18446744073709551616) (win qn wait : Int) (f : Fr) :
    Calls Try.prog 6 #[.int .i64 e, .int .u64 (first : Int), .int .i64 win, .int .i64 qn, .int .i64 wait, v, .agg #[.int .i64 f.k, .int .i64 f.e, .int .u64 (f.q : Int), .int .u64 (f.a : Int), .string f.b]] w (GivesB w (.bool true)) := by
  have hlen := h.length_le
  have HS := Lib.hid h
  have HST := Lib.hid hs
  have HIN := Lib.hid hin
  obtain ⟨ao, c, rfl⟩ := h.len
  clear h hs hin
  obtain ⟨fk, fe, fq, fa, fb⟩ := f
  dsimp only
  go_enter Try.func6, Try.ntmps6
  go_wp2_with fail
  refine (pNew _ e first win qn wait hf).mono ?_
  rintro ev w0 ⟨p, F0, rfl, n0, hf0, x0⟩
  have hb0 := late_blk x0
  have M0 : Hid (End1 w w0 p (EndS.new e first win qn wait) F0) := Lib.hid ⟨n0, fun k hk => Nat.le_trans (by rw [size_alloc]; omega) (hf0 k hk), Ext.trans ((Ext.refl w).alloc _) x0⟩
  have hg0 : ¬ F0 w.heap.size := fun h9 => by have := hf0 _ h9; rw [size_alloc] at this; omega
  clear n0 hf0 x0
  go_wp2_with fail
  refine (pNew w0 e first win qn wait hf).mono ?_
  rintro ev w1 ⟨q, G0, rfl, n0, hf0, x0⟩
  have hb1 := blk_later hb0 x0
  have N0 : Hid (End2 w w1 p (EndS.new e first win qn wait) F0 q (EndS.new e first win qn wait) G0) := Lib.hid (End2.new M0.out n0 hf0 x0)
  have hg1 : ¬ G0 w.heap.size := fun h9 => by have := hf0 _ h9; have := blk_lt hb0; omega
  clear n0 hf0 x0 M0 hb0
  go_wp2_with fail
  refine (awake_any w1 (HST.out.ext N0.out.ex)).mono ?_
  rintro ev w2 ⟨rfl, x2⟩
  have hb2 := blk_later hb1 x2
  have N1 := Lib.hid (N0.out.ext x2)
  clear x2 N0 hb1
  go_wp2_with fail
  refine (few_any w2 _ l (HS.out.ext N1.out.ex)).mono ?_
  rintro ev w3 ⟨r, rfl, hr, rfl⟩
  obtain ⟨k0, k1, k2, k3, k4⟩ := (cells5 hb2).1
  by_cases hgo : r = true ∧ ¬ (70 : Int) < (fb.size : Int)
  · obtain ⟨rfl, h70⟩ := hgo
    have HR := Lib.hid (hr rfl)
    clear hr hb2
    go_wp2
    go_loopw [17] (fun i wr => ∃ (k : Nat) (S : EndS) (F G : Nat → Prop), k ≤ l.length ∧ i = .int .i64 (k : Int) ∧ Hid (End2 w wr p S F q S G) ∧ Hid (Keeps S e win qn wait)) (fun i _ => l.length - (intOf i).toNat)
    case atStart => exact ⟨0, _, _, _, Nat.zero_le _, rfl, N1, Lib.hid (Keeps.new e first win qn wait)⟩
    case round =>
      obtain ⟨k, S, F, G, hk, rfl, HN, HK⟩ := hrel
      by_cases hlt : k < l.length
      · have hm : l.getD k dA ∈ l := by simp [hlt]
        have hs2 := HR.out.2 _ hm
        have hi2 := HIN.out _ hm
        obtain ⟨b, off, rfl, _, hcl, hbl, hat⟩ := act_here HS.out HN.out.ex hlt
        have HAT : Hid (∀ W, Ext w W → ActAt W b (off + k * 9) (l.getD k dA)) := Lib.hid (fun W x => by
          obtain ⟨b', off', hv, _, _, _, h9⟩ := act_here HS.out x hlt
          simp only [Option.some.injEq, Addr.mk.injEq, and_true] at hv
          obtain ⟨rfl, rfl⟩ := hv
          exact h9)
        obtain ⟨Y, hY⟩ : ∃ Y, Y = l.getD k dA := ⟨_, rfl⟩
        rw [← hY] at hat hs2 hi2 HAT
        clear hY hm
        obtain ⟨yk, yn, ys, yt, yf⟩ := Y
        obtain ⟨gk, ge, gq, ga, gb⟩ := yf
        dsimp only at hs2 hi2
        have hkc : (k : Int) ≤ (c : Int) := by omega
        have hn2 : IntKind.i64.wrap ((k : Int) + 1) = (k : Int) + 1 := wrapN _ (by omega) (by omega)
        obtain ⟨c0, c1, c2, c3, c4, c5, c6, c7, c8⟩ := hat
        dsimp only at c0 c1 c2 c3 c4 c5 c6 c7 c8
        have hke := HK.out.1
        by_cases hge : ge = e
        · have t9 : (ge != e) = false := by rw [bne_eq_false_iff_eq]; exact hge
          have t8 : (ge == e) = true := beq_iff_eq.2 hge
          have N2 := Lib.hid (HN.out.ext ((Ext.refl wr).alloc (.cells #[.int .i64 gk, .int .i64 ge, .int .u64 (gq : Int), .int .u64 (ga : Int), .string gb] 34)))
          have B2 := Lib.hid (get_alloc_new wr (.cells #[.int .i64 gk, .int .i64 ge, .int .u64 (gq : Int), .int .u64 (ga : Int), .string gb] 34))
          have HF2 : Hid (¬ F wr.heap.size) := Lib.hid (fun h9 => Nat.lt_irrefl _ (HN.out.one.low _ h9))
          have HG2 : Hid (¬ G wr.heap.size) := Lib.hid (fun h9 => Nat.lt_irrefl _ (HN.out.two.low _ h9))
          clear hge hke
          obtain ⟨d0, d1, d2, d3, d4, d5, d6, d7, d8⟩ := HAT.out _ N2.out.ex
          dsimp only at d0 d1 d2 d3 d4 d5 d6 d7 d8
          obtain ⟨y0, y1, y2, y3, y4⟩ := (cells5 B2.out).1
          by_cases h0 : yk = 0
          · subst h0
            have hKe := Lib.hid (HK.out.send yt)
            obtain ⟨S', hS'⟩ : ∃ S', S' = S.send yt := ⟨_, rfl⟩
            have cS := Lib.hid (fun (W : World) (r : Nat) (H : Nat → Prop) (h9 : EAt W r S H) => pSend h9 yt (by omega))
            rw [← hS'] at cS hKe
            clear hS'
            go_wp2_with fail
            (refine wp_region_X_lit (K := fun W => ActAt W b (off + k * 9) ⟨0, yn, ys, yt, ⟨gk, ge, gq, ga, gb⟩⟩) (by kernel_rfl) (fun w1 hw1 => ?_))
            have N3 := Lib.hid (N2.out.ext hw1)
            clear hw1
            (refine xtakeV 0 (v := ?_) (by simp only [List.getElem?_toArray, List.getElem?_cons, reduceIte]; rfl) (by kernel_rfl) (by rfl) (fun w' hw' => ?_) ?_; rotate_left; focus (skip; go_simp; first | done | with_reducible rfl)); (simp only [Act.put, List.setIfInBounds_toArray, List.set])
            (refine xtakeV 1 (v := ?_) (by simp only [List.getElem?_toArray, List.getElem?_cons, reduceIte]; rfl) (by kernel_rfl) (by rfl) (fun w' hw' => ?_) ?_; rotate_left; focus (skip; go_simp; first | done | with_reducible rfl)); (simp only [Act.put, List.setIfInBounds_toArray, List.set])
            (refine xtakeV 2 (v := ?_) (by simp only [List.getElem?_toArray, List.getElem?_cons, reduceIte]; rfl) (by kernel_rfl) (by rfl) (fun w' hw' => ?_) ?_; rotate_left; focus (skip; go_simp; first | done | with_reducible rfl)); (simp only [Act.put, List.setIfInBounds_toArray, List.set])
            (refine xtakeV 3 (v := ?_) (by simp only [List.getElem?_toArray, List.getElem?_cons, reduceIte]; rfl) (by kernel_rfl) (by rfl) (fun w' hw' => ?_) ?_; rotate_left; focus (skip; go_simp; first | done | with_reducible rfl)); (simp only [Act.put, List.setIfInBounds_toArray, List.set])
            (refine xtakeV 4 (v := ?_) (by simp only [List.getElem?_toArray, List.getElem?_cons, reduceIte]; rfl) (by kernel_rfl) (by rfl) (fun w' hw' => ?_) ?_; rotate_left; focus (skip; go_simp; first | done | with_reducible rfl)); (simp only [Act.put, List.setIfInBounds_toArray, List.set])
            (refine xtakeV 5 (v := ?_) (by simp only [List.getElem?_toArray, List.getElem?_cons, reduceIte]; rfl) (by kernel_rfl) (by rfl) (fun w' hw' => ?_) ?_; rotate_left; focus (obtain ⟨z0, z1, z2, z3, z4, z5, z6, z7, z8⟩ := hw'; go_simp; first | done | with_reducible rfl)); (simp only [Act.put, List.setIfInBounds_toArray, List.set])
            (refine xtakeV 7 (v := ?_) (by simp only [List.getElem?_toArray, List.getElem?_cons, reduceIte]; rfl) (by kernel_rfl) (by rfl) (fun w' hw' => ?_) ?_; rotate_left; focus (skip; go_simp; first | done | with_reducible rfl)); (simp only [Act.put, List.setIfInBounds_toArray, List.set])
            (refine xtakeV 8 (v := ?_) (by simp only [List.getElem?_toArray, List.getElem?_cons, reduceIte]; rfl) (by kernel_rfl) (by rfl) (fun w' hw' => ?_) ?_; rotate_left; focus (skip; go_simp; first | done | with_reducible rfl)); (simp only [Act.put, List.setIfInBounds_toArray, List.set])
            (refine xtakeV 9 (v := ?_) (by simp only [List.getElem?_toArray, List.getElem?_cons, reduceIte]; rfl) (by kernel_rfl) (by rfl) (fun w' hw' => ?_) ?_; rotate_left; focus (skip; go_simp; first | done | with_reducible rfl)); (simp only [Act.put, List.setIfInBounds_toArray, List.set])
            (refine xtakeV 10 (v := ?_) (by simp only [List.getElem?_toArray, List.getElem?_cons, reduceIte]; rfl) (by kernel_rfl) (by rfl) (fun w' hw' => ?_) ?_; rotate_left; focus (skip; go_simp; first | done | with_reducible rfl)); (simp only [Act.put, List.setIfInBounds_toArray, List.set])
            (refine xtakeV 11 (v := ?_) (by simp only [List.getElem?_toArray, List.getElem?_cons, reduceIte]; rfl) (by kernel_rfl) (by rfl) (fun w' hw' => ?_) ?_; rotate_left; focus (skip; go_simp; first | done | with_reducible rfl)); (simp only [Act.put, List.setIfInBounds_toArray, List.set])
            (refine xtakeV 12 (v := ?_) (by simp only [List.getElem?_toArray, List.getElem?_cons, reduceIte]; rfl) (by kernel_rfl) (by rfl) (fun w' hw' => ?_) ?_; rotate_left; focus (obtain ⟨z0, z1, z2, z3, z4, z5, z6, z7, z8⟩ := hw'; go_simp; first | done | with_reducible rfl)); (simp only [Act.put, List.setIfInBounds_toArray, List.set])
            (refine xone 6 (by kernel_rfl) (HAT.out _ N3.out.ex) (RunX.of 6 (by simp only [List.getElem?_toArray, List.getElem?_cons, reduceIte]; rfl) (by rfl) ?_))
            go_simp
            refine (cS.out _ _ _ N3.out.one).mono ?_
            rintro ev w5 ⟨F5, rfl, n, o, g⟩
            have N5 := Lib.hid (N3.out.step n o g)
            clear n o g
            dsimp only
            (try (simp only [Act.put, List.setIfInBounds_toArray, List.set]))
            (refine xone 13 (by kernel_rfl) (HAT.out _ N5.out.ex) (RunX.of 13 (by simp only [List.getElem?_toArray, List.getElem?_cons, reduceIte]; rfl) (by rfl) ?_))
            go_simp
            refine (cS.out _ _ _ N5.out.two).mono ?_
            rintro ev w6 ⟨G6, rfl, n, o, g⟩
            have N6 := Lib.hid (N5.out.swap.step n o g).swap
            clear n o g
            dsimp only
            (try (simp only [Act.put, List.setIfInBounds_toArray, List.set]))
            (refine xone 14 (by kernel_rfl) (HAT.out _ N6.out.ex) (RunX.of 14 (by simp only [List.getElem?_toArray, List.getElem?_cons, reduceIte]; rfl) (by rfl) ?_))
            go_simp
            (try (simp only [Act.put, List.setIfInBounds_toArray, List.set]))
            (refine xdone (by kernel_rfl) (HAT.out _ N6.out.ex) ?_)
            go_wp2_with fail
            refine (pNumbers N6.out.one).mono ?_
            rintro ev w7 ⟨F7, rfl, n, o, g⟩
            have N7 := Lib.hid (N6.out.step n o g)
            clear n o g
            go_wp2_with fail
            refine (pNumbers N7.out.two).mono ?_
            rintro ev w8 ⟨G8, rfl, n, o, g⟩
            have N8 := Lib.hid (N7.out.swap.step n o g).swap
            clear n o g
            go_wp2_with fail
            refine (pWaiting N8.out.one).mono ?_
            rintro ev w9 ⟨F9, rfl, n, o, g⟩
            have N9 := Lib.hid (N8.out.step n o g)
            clear n o g
            go_wp2_with fail
            refine (pWaiting N9.out.two).mono ?_
            rintro ev w10 ⟨G10, rfl, n, o, g⟩
            have N10 := Lib.hid (N9.out.swap.step n o g).swap
            clear n o g
            go_wp2
            exact ⟨⟨k + 1, S', F9, G10, hlt, by go_num, N10, hKe⟩, by simp [intOf]; omega⟩
          · have t0 : (yk == 0) = false := beq_eq_false_iff_ne.2 h0
            by_cases h1 : yk = 1
            · subst h1
              have hKe := Lib.hid (HK.out.outS)
              obtain ⟨S', hS'⟩ : ∃ S', S' = S.outS := ⟨_, rfl⟩
              have cS := Lib.hid (fun (W : World) (r : Nat) (H : Nat → Prop) (h9 : EAt W r S H) => pOut h9)
              rw [← hS'] at cS hKe
              clear hS' h0
              go_wp2_with fail
              refine (cS.out _ _ _ N2.out.one).mono ?_
              rintro ev w5 ⟨oo, on, oc, F5, rfl, hl, hb, n, o, g⟩
              have N5 := Lib.hid (N2.out.step n o g)
              have L5 := Lib.hid (Sa.fresh hl hb N2.out.two.low)
              clear n o g hl hb
              go_wp2_with fail
              refine (cS.out _ _ _ N5.out.two).mono ?_
              rintro ev w6 ⟨oo2, on2, oc2, G6, rfl, hl, hb, n, o, g⟩
              have N6 := Lib.hid (N5.out.swap.step n o g).swap
              have L6 := Lib.hid (L5.out.right o g)
              have M6 := Lib.hid hl
              clear n o g hl hb
              go_wp2_with fail
              refine (refSame_any _ _ _ _ _ L6.out.1 M6.out).mono ?_
              rintro ev w7 ⟨rfl, x7⟩
              rw [decide_eq_true rfl]
              have N6a := Lib.hid (N6.out.ext x7)
              clear x7
              go_wp2_with fail
              refine (pNumbers N6a.out.one).mono ?_
              rintro ev w7 ⟨F7, rfl, n, o, g⟩
              have N7 := Lib.hid (N6a.out.step n o g)
              clear n o g
              go_wp2_with fail
              refine (pNumbers N7.out.two).mono ?_
              rintro ev w8 ⟨G8, rfl, n, o, g⟩
              have N8 := Lib.hid (N7.out.swap.step n o g).swap
              clear n o g
              go_wp2_with fail
              refine (pWaiting N8.out.one).mono ?_
              rintro ev w9 ⟨F9, rfl, n, o, g⟩
              have N9 := Lib.hid (N8.out.step n o g)
              clear n o g
              go_wp2_with fail
              refine (pWaiting N9.out.two).mono ?_
              rintro ev w10 ⟨G10, rfl, n, o, g⟩
              have N10 := Lib.hid (N9.out.swap.step n o g).swap
              clear n o g
              go_wp2
              exact ⟨⟨k + 1, S', F9, G10, hlt, by go_num, N10, hKe⟩, by simp [intOf]; omega⟩
            · have t1 : (yk == 1) = false := beq_eq_false_iff_ne.2 h1
              by_cases h2 : yk = 2
              · subst h2
                have hKe := Lib.hid (HK.out.tick)
                obtain ⟨S', hS'⟩ : ∃ S', S' = S.tick := ⟨_, rfl⟩
                have cS := Lib.hid (fun (W : World) (r : Nat) (H : Nat → Prop) (h9 : EAt W r S H) => pTick h9)
                rw [← hS'] at cS hKe
                clear hS' h0 h1
                go_wp2_with fail
                refine (cS.out _ _ _ N2.out.one).mono ?_
                rintro ev w5 ⟨F5, rfl, n, o, g⟩
                have N5 := Lib.hid (N2.out.step n o g)
                clear n o g
                go_wp2_with fail
                refine (cS.out _ _ _ N5.out.two).mono ?_
                rintro ev w6 ⟨G6, rfl, n, o, g⟩
                have N6 := Lib.hid (N5.out.swap.step n o g).swap
                clear n o g
                go_wp2_with fail
                refine (pNumbers N6.out.one).mono ?_
                rintro ev w7 ⟨F7, rfl, n, o, g⟩
                have N7 := Lib.hid (N6.out.step n o g)
                clear n o g
                go_wp2_with fail
                refine (pNumbers N7.out.two).mono ?_
                rintro ev w8 ⟨G8, rfl, n, o, g⟩
                have N8 := Lib.hid (N7.out.swap.step n o g).swap
                clear n o g
                go_wp2_with fail
                refine (pWaiting N8.out.one).mono ?_
                rintro ev w9 ⟨F9, rfl, n, o, g⟩
                have N9 := Lib.hid (N8.out.step n o g)
                clear n o g
                go_wp2_with fail
                refine (pWaiting N9.out.two).mono ?_
                rintro ev w10 ⟨G10, rfl, n, o, g⟩
                have N10 := Lib.hid (N9.out.swap.step n o g).swap
                clear n o g
                go_wp2
                exact ⟨⟨k + 1, S', F9, G10, hlt, by go_num, N10, hKe⟩, by simp [intOf]; omega⟩
              · have t2 : (yk == 2) = false := beq_eq_false_iff_ne.2 h2
                clear h0 h1 h2
                have hKe := Lib.hid (HK.out.take ⟨gk, ge, gq, ga, gb⟩)
                obtain ⟨S', hS'⟩ : ∃ S', S' = S.take ⟨gk, ge, gq, ga, gb⟩ := ⟨_, rfl⟩
                obtain ⟨TB, hTB⟩ : ∃ TB, TB = S.body ⟨gk, ge, gq, ga, gb⟩ := ⟨_, rfl⟩
                obtain ⟨TT, hTT⟩ : ∃ TT, TT = S.told ⟨gk, ge, gq, ga, gb⟩ := ⟨_, rfl⟩
                have cS := Lib.hid (fun (W : World) (r : Nat) (H : Nat → Prop) (hW : Std W) (h9 : EAt W r S H) => pTake hW h9 ⟨gk, ge, gq, ga, gb⟩ hi2.2 hi2.1 (by dsimp only; omega))
                rw [← hS', ← hTB, ← hTT] at cS
                rw [← hS'] at hKe
                have hb1 : (TB.toList == TB.toList) = true := beq_self_eq_true _
                have hb2 : (TT != TT) = false := by cases TT <;> rfl
                clear hS' hTB hTT
                go_wp2_with fail
                refine (cS.out _ _ _ (HST.out.ext N2.out.ex) N2.out.one).mono ?_
                rintro ev w5 ⟨F5, rfl, n, o, g⟩
                have N5 := Lib.hid (N2.out.step n o g)
                have b5 := o.blk B2.out HF2.out
                obtain ⟨y0, y1, y2, y3, y4⟩ := (cells5 b5).1
                clear n o g b5
                go_wp2_with fail
                refine (cS.out _ _ _ (HST.out.ext N5.out.ex) N5.out.two).mono ?_
                rintro ev w6 ⟨G6, rfl, n, o, g⟩
                have N6 := Lib.hid (N5.out.swap.step n o g).swap
                clear n o g
                go_wp2_with fail
                refine (pNumbers N6.out.one).mono ?_
                rintro ev w7 ⟨F7, rfl, n, o, g⟩
                have N7 := Lib.hid (N6.out.step n o g)
                clear n o g
                go_wp2_with fail
                refine (pNumbers N7.out.two).mono ?_
                rintro ev w8 ⟨G8, rfl, n, o, g⟩
                have N8 := Lib.hid (N7.out.swap.step n o g).swap
                clear n o g
                go_wp2_with fail
                refine (pWaiting N8.out.one).mono ?_
                rintro ev w9 ⟨F9, rfl, n, o, g⟩
                have N9 := Lib.hid (N8.out.step n o g)
                clear n o g
                go_wp2_with fail
                refine (pWaiting N9.out.two).mono ?_
                rintro ev w10 ⟨G10, rfl, n, o, g⟩
                have N10 := Lib.hid (N9.out.swap.step n o g).swap
                clear n o g
                go_wp2
                exact ⟨⟨k + 1, S', F9, G10, hlt, by go_num, N10, hKe⟩, by simp [intOf]; omega⟩
        · have t9 : (ge != e) = true := bne_iff_ne.2 hge
          have t8 : (ge == e) = false := beq_eq_false_iff_ne.2 hge
          obtain ⟨j1, j2, j3⟩ := other_epoch (S := S) (f := ⟨gk, ge, gq, ga, gb⟩) (by rw [hke]; exact hge)
          have cT := Lib.hid (fun (W : World) (H : Nat → Prop) (hW : Std W) (h9 : EAt W p S H) => pTake hW h9 ⟨gk, ge, gq, ga, gb⟩ hi2.2 hi2.1 (by dsimp only; omega))
          rw [j1, j2, j3] at cT
          clear j1 j2 j3 hge hke
          go_wp2_with fail
          refine (cT.out _ _ (HST.out.ext (Ext.alloc HN.out.ex _)) ((HN.out.ext ((Ext.refl wr).alloc (.cells #[.int .i64 gk, .int .i64 ge, .int .u64 (gq : Int), .int .u64 (ga : Int), .string gb] 34))).one)).mono ?_
          rintro ev w3 ⟨F3, rfl, n, o, g⟩
          have N2 := Lib.hid ((HN.out.ext ((Ext.refl wr).alloc (.cells #[.int .i64 gk, .int .i64 ge, .int .u64 (gq : Int), .int .u64 (ga : Int), .string gb] 34))).step n o g)
          have b2 := o.blk (get_alloc_new wr (.cells #[.int .i64 gk, .int .i64 ge, .int .u64 (gq : Int), .int .u64 (ga : Int), .string gb] 34)) (fun h9 => Nat.lt_irrefl _ (HN.out.one.low _ h9))
          obtain ⟨y0, y1, y2, y3, y4⟩ := (cells5 b2).1
          clear c0 c1 c2 c3 c4 c5 c6 c7 c8
          obtain ⟨c0, c1, c2, c3, c4, c5, c6, c7, c8⟩ := HAT.out _ N2.out.ex
          dsimp only at c0 c1 c2 c3 c4 c5 c6 c7 c8
          clear n o g b2
          by_cases h0 : yk = 0
          · subst h0
            have hKe := Lib.hid (HK.out.send yt)
            obtain ⟨S', hS'⟩ : ∃ S', S' = S.send yt := ⟨_, rfl⟩
            have cS := Lib.hid (fun (W : World) (r : Nat) (H : Nat → Prop) (h9 : EAt W r S H) => pSend h9 yt (by omega))
            rw [← hS'] at cS hKe
            clear hS'
            go_wp2_with fail
            (refine wp_region_X_lit (K := fun W => ActAt W b (off + k * 9) ⟨0, yn, ys, yt, ⟨gk, ge, gq, ga, gb⟩⟩) (by kernel_rfl) (fun w1 hw1 => ?_))
            have N3 := Lib.hid (N2.out.ext hw1)
            clear hw1
            (refine xtakeV 0 (v := ?_) (by simp only [List.getElem?_toArray, List.getElem?_cons, reduceIte]; rfl) (by kernel_rfl) (by rfl) (fun w' hw' => ?_) ?_; rotate_left; focus (skip; go_simp; first | done | with_reducible rfl)); (simp only [Act.put, List.setIfInBounds_toArray, List.set])
            (refine xtakeV 1 (v := ?_) (by simp only [List.getElem?_toArray, List.getElem?_cons, reduceIte]; rfl) (by kernel_rfl) (by rfl) (fun w' hw' => ?_) ?_; rotate_left; focus (skip; go_simp; first | done | with_reducible rfl)); (simp only [Act.put, List.setIfInBounds_toArray, List.set])
            (refine xtakeV 2 (v := ?_) (by simp only [List.getElem?_toArray, List.getElem?_cons, reduceIte]; rfl) (by kernel_rfl) (by rfl) (fun w' hw' => ?_) ?_; rotate_left; focus (skip; go_simp; first | done | with_reducible rfl)); (simp only [Act.put, List.setIfInBounds_toArray, List.set])
            (refine xtakeV 3 (v := ?_) (by simp only [List.getElem?_toArray, List.getElem?_cons, reduceIte]; rfl) (by kernel_rfl) (by rfl) (fun w' hw' => ?_) ?_; rotate_left; focus (skip; go_simp; first | done | with_reducible rfl)); (simp only [Act.put, List.setIfInBounds_toArray, List.set])
            (refine xtakeV 4 (v := ?_) (by simp only [List.getElem?_toArray, List.getElem?_cons, reduceIte]; rfl) (by kernel_rfl) (by rfl) (fun w' hw' => ?_) ?_; rotate_left; focus (skip; go_simp; first | done | with_reducible rfl)); (simp only [Act.put, List.setIfInBounds_toArray, List.set])
            (refine xtakeV 5 (v := ?_) (by simp only [List.getElem?_toArray, List.getElem?_cons, reduceIte]; rfl) (by kernel_rfl) (by rfl) (fun w' hw' => ?_) ?_; rotate_left; focus (obtain ⟨z0, z1, z2, z3, z4, z5, z6, z7, z8⟩ := hw'; go_simp; first | done | with_reducible rfl)); (simp only [Act.put, List.setIfInBounds_toArray, List.set])
            (refine xtakeV 7 (v := ?_) (by simp only [List.getElem?_toArray, List.getElem?_cons, reduceIte]; rfl) (by kernel_rfl) (by rfl) (fun w' hw' => ?_) ?_; rotate_left; focus (skip; go_simp; first | done | with_reducible rfl)); (simp only [Act.put, List.setIfInBounds_toArray, List.set])
            (refine xtakeV 8 (v := ?_) (by simp only [List.getElem?_toArray, List.getElem?_cons, reduceIte]; rfl) (by kernel_rfl) (by rfl) (fun w' hw' => ?_) ?_; rotate_left; focus (skip; go_simp; first | done | with_reducible rfl)); (simp only [Act.put, List.setIfInBounds_toArray, List.set])
            (refine xtakeV 9 (v := ?_) (by simp only [List.getElem?_toArray, List.getElem?_cons, reduceIte]; rfl) (by kernel_rfl) (by rfl) (fun w' hw' => ?_) ?_; rotate_left; focus (skip; go_simp; first | done | with_reducible rfl)); (simp only [Act.put, List.setIfInBounds_toArray, List.set])
            (refine xtakeV 10 (v := ?_) (by simp only [List.getElem?_toArray, List.getElem?_cons, reduceIte]; rfl) (by kernel_rfl) (by rfl) (fun w' hw' => ?_) ?_; rotate_left; focus (skip; go_simp; first | done | with_reducible rfl)); (simp only [Act.put, List.setIfInBounds_toArray, List.set])
            (refine xtakeV 11 (v := ?_) (by simp only [List.getElem?_toArray, List.getElem?_cons, reduceIte]; rfl) (by kernel_rfl) (by rfl) (fun w' hw' => ?_) ?_; rotate_left; focus (skip; go_simp; first | done | with_reducible rfl)); (simp only [Act.put, List.setIfInBounds_toArray, List.set])
            (refine xtakeV 12 (v := ?_) (by simp only [List.getElem?_toArray, List.getElem?_cons, reduceIte]; rfl) (by kernel_rfl) (by rfl) (fun w' hw' => ?_) ?_; rotate_left; focus (obtain ⟨z0, z1, z2, z3, z4, z5, z6, z7, z8⟩ := hw'; go_simp; first | done | with_reducible rfl)); (simp only [Act.put, List.setIfInBounds_toArray, List.set])
            (refine xone 6 (by kernel_rfl) (HAT.out _ N3.out.ex) (RunX.of 6 (by simp only [List.getElem?_toArray, List.getElem?_cons, reduceIte]; rfl) (by rfl) ?_))
            go_simp
            refine (cS.out _ _ _ N3.out.one).mono ?_
            rintro ev w5 ⟨F5, rfl, n, o, g⟩
            have N5 := Lib.hid (N3.out.step n o g)
            clear n o g
            dsimp only
            (try (simp only [Act.put, List.setIfInBounds_toArray, List.set]))
            (refine xone 13 (by kernel_rfl) (HAT.out _ N5.out.ex) (RunX.of 13 (by simp only [List.getElem?_toArray, List.getElem?_cons, reduceIte]; rfl) (by rfl) ?_))
            go_simp
            refine (cS.out _ _ _ N5.out.two).mono ?_
            rintro ev w6 ⟨G6, rfl, n, o, g⟩
            have N6 := Lib.hid (N5.out.swap.step n o g).swap
            clear n o g
            dsimp only
            (try (simp only [Act.put, List.setIfInBounds_toArray, List.set]))
            (refine xone 14 (by kernel_rfl) (HAT.out _ N6.out.ex) (RunX.of 14 (by simp only [List.getElem?_toArray, List.getElem?_cons, reduceIte]; rfl) (by rfl) ?_))
            go_simp
            (try (simp only [Act.put, List.setIfInBounds_toArray, List.set]))
            (refine xdone (by kernel_rfl) (HAT.out _ N6.out.ex) ?_)
            go_wp2_with fail
            refine (pNumbers N6.out.one).mono ?_
            rintro ev w7 ⟨F7, rfl, n, o, g⟩
            have N7 := Lib.hid (N6.out.step n o g)
            clear n o g
            go_wp2_with fail
            refine (pNumbers N7.out.two).mono ?_
            rintro ev w8 ⟨G8, rfl, n, o, g⟩
            have N8 := Lib.hid (N7.out.swap.step n o g).swap
            clear n o g
            go_wp2_with fail
            refine (pWaiting N8.out.one).mono ?_
            rintro ev w9 ⟨F9, rfl, n, o, g⟩
            have N9 := Lib.hid (N8.out.step n o g)
            clear n o g
            go_wp2_with fail
            refine (pWaiting N9.out.two).mono ?_
            rintro ev w10 ⟨G10, rfl, n, o, g⟩
            have N10 := Lib.hid (N9.out.swap.step n o g).swap
            clear n o g
            go_wp2
            exact ⟨⟨k + 1, S', F9, G10, hlt, by go_num, N10, hKe⟩, by simp [intOf]; omega⟩
          · have t0 : (yk == 0) = false := beq_eq_false_iff_ne.2 h0
            by_cases h1 : yk = 1
            · subst h1
              have hKe := Lib.hid (HK.out.outS)
              obtain ⟨S', hS'⟩ : ∃ S', S' = S.outS := ⟨_, rfl⟩
              have cS := Lib.hid (fun (W : World) (r : Nat) (H : Nat → Prop) (h9 : EAt W r S H) => pOut h9)
              rw [← hS'] at cS hKe
              clear hS' h0
              go_wp2_with fail
              refine (cS.out _ _ _ N2.out.one).mono ?_
              rintro ev w5 ⟨oo, on, oc, F5, rfl, hl, hb, n, o, g⟩
              have N5 := Lib.hid (N2.out.step n o g)
              have L5 := Lib.hid (Sa.fresh hl hb N2.out.two.low)
              clear n o g hl hb
              go_wp2_with fail
              refine (cS.out _ _ _ N5.out.two).mono ?_
              rintro ev w6 ⟨oo2, on2, oc2, G6, rfl, hl, hb, n, o, g⟩
              have N6 := Lib.hid (N5.out.swap.step n o g).swap
              have L6 := Lib.hid (L5.out.right o g)
              have M6 := Lib.hid hl
              clear n o g hl hb
              go_wp2_with fail
              refine (refSame_any _ _ _ _ _ L6.out.1 M6.out).mono ?_
              rintro ev w7 ⟨rfl, x7⟩
              rw [decide_eq_true rfl]
              have N6a := Lib.hid (N6.out.ext x7)
              clear x7
              go_wp2_with fail
              refine (pNumbers N6a.out.one).mono ?_
              rintro ev w7 ⟨F7, rfl, n, o, g⟩
              have N7 := Lib.hid (N6a.out.step n o g)
              clear n o g
              go_wp2_with fail
              refine (pNumbers N7.out.two).mono ?_
              rintro ev w8 ⟨G8, rfl, n, o, g⟩
              have N8 := Lib.hid (N7.out.swap.step n o g).swap
              clear n o g
              go_wp2_with fail
              refine (pWaiting N8.out.one).mono ?_
              rintro ev w9 ⟨F9, rfl, n, o, g⟩
              have N9 := Lib.hid (N8.out.step n o g)
              clear n o g
              go_wp2_with fail
              refine (pWaiting N9.out.two).mono ?_
              rintro ev w10 ⟨G10, rfl, n, o, g⟩
              have N10 := Lib.hid (N9.out.swap.step n o g).swap
              clear n o g
              go_wp2
              exact ⟨⟨k + 1, S', F9, G10, hlt, by go_num, N10, hKe⟩, by simp [intOf]; omega⟩
            · have t1 : (yk == 1) = false := beq_eq_false_iff_ne.2 h1
              by_cases h2 : yk = 2
              · subst h2
                have hKe := Lib.hid (HK.out.tick)
                obtain ⟨S', hS'⟩ : ∃ S', S' = S.tick := ⟨_, rfl⟩
                have cS := Lib.hid (fun (W : World) (r : Nat) (H : Nat → Prop) (h9 : EAt W r S H) => pTick h9)
                rw [← hS'] at cS hKe
                clear hS' h0 h1
                go_wp2_with fail
                refine (cS.out _ _ _ N2.out.one).mono ?_
                rintro ev w5 ⟨F5, rfl, n, o, g⟩
                have N5 := Lib.hid (N2.out.step n o g)
                clear n o g
                go_wp2_with fail
                refine (cS.out _ _ _ N5.out.two).mono ?_
                rintro ev w6 ⟨G6, rfl, n, o, g⟩
                have N6 := Lib.hid (N5.out.swap.step n o g).swap
                clear n o g
                go_wp2_with fail
                refine (pNumbers N6.out.one).mono ?_
                rintro ev w7 ⟨F7, rfl, n, o, g⟩
                have N7 := Lib.hid (N6.out.step n o g)
                clear n o g
                go_wp2_with fail
                refine (pNumbers N7.out.two).mono ?_
                rintro ev w8 ⟨G8, rfl, n, o, g⟩
                have N8 := Lib.hid (N7.out.swap.step n o g).swap
                clear n o g
                go_wp2_with fail
                refine (pWaiting N8.out.one).mono ?_
                rintro ev w9 ⟨F9, rfl, n, o, g⟩
                have N9 := Lib.hid (N8.out.step n o g)
                clear n o g
                go_wp2_with fail
                refine (pWaiting N9.out.two).mono ?_
                rintro ev w10 ⟨G10, rfl, n, o, g⟩
                have N10 := Lib.hid (N9.out.swap.step n o g).swap
                clear n o g
                go_wp2
                exact ⟨⟨k + 1, S', F9, G10, hlt, by go_num, N10, hKe⟩, by simp [intOf]; omega⟩
              · have t2 : (yk == 2) = false := beq_eq_false_iff_ne.2 h2
                clear h0 h1 h2
                have hKe := HK
                obtain ⟨S', hS'⟩ : ∃ S', S' = S := ⟨_, rfl⟩
                rw [← hS'] at hKe N2
                clear hS'
                go_wp2_with fail
                refine (pNumbers N2.out.one).mono ?_
                rintro ev w7 ⟨F7, rfl, n, o, g⟩
                have N7 := Lib.hid (N2.out.step n o g)
                clear n o g
                go_wp2_with fail
                refine (pNumbers N7.out.two).mono ?_
                rintro ev w8 ⟨G8, rfl, n, o, g⟩
                have N8 := Lib.hid (N7.out.swap.step n o g).swap
                clear n o g
                go_wp2_with fail
                refine (pWaiting N8.out.one).mono ?_
                rintro ev w9 ⟨F9, rfl, n, o, g⟩
                have N9 := Lib.hid (N8.out.step n o g)
                clear n o g
                go_wp2_with fail
                refine (pWaiting N9.out.two).mono ?_
                rintro ev w10 ⟨G10, rfl, n, o, g⟩
                have N10 := Lib.hid (N9.out.swap.step n o g).swap
                clear n o g
                go_wp2
                exact ⟨⟨k + 1, S', F9, G10, hlt, by go_num, N10, hKe⟩, by simp [intOf]; omega⟩
      · go_wp2
        go_ret
        exact ⟨rfl, HN.out.ex⟩
  · have hgo2 : r = false ∨ (r = true ∧ (70 : Int) < (fb.size : Int)) := by
      cases r
      · exact .inl rfl
      · by_cases h9 : (70 : Int) < (fb.size : Int)
        · exact .inr ⟨rfl, h9⟩
        · exact absurd ⟨rfl, h9⟩ hgo
    clear hr hgo
    rcases hgo2 with rfl | ⟨rfl, h70⟩
    all_goals
      go_wp2_with (first
        | (go_at_call 10; refine (awake_any w2 (HST.out.ext N1.out.ex)).mono ?_; rintro ev w4 ⟨rfl, x4⟩; have X4 := Lib.hid (Ext.trans N1.out.ex x4); clear x4))
      go_ret
      exact ⟨rfl, X4.out⟩
end Go.Proofs.Ytefkjclkondmeaa
