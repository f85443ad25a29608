/- An act of two ends, of side 0. -/
import Derived.Test.YtefkjclkondmeaaKU
namespace Go.Proofs.Ytefkjclkondmeaa
open Go.RowKit

set_option linter.unusedVariables false

set_option maxRecDepth 20000 in
set_option maxHeartbeats 8000000 in
theorem play0_tick (w0 w : World) (hs : Std w0) (fn K : Nat) (p q : Nat) (oa oa' sa sa' ga ga' : Option Addr) (on on' sn sn' gn gn' oc oc' sc sc' gc gc' : Nat) {X Y : EndS} {s g s' g' : List ByteArray} {O O' : List Fr} {F : Nat → Nat → Prop} (h : Game w0 w fn K (⟨p, q, ⟨oa, on, oc⟩, ⟨oa', on', oc'⟩, ⟨sa, sn, sc⟩, ⟨sa', sn', sc'⟩, ⟨ga, gn, gc⟩, ⟨ga', gn', gc'⟩⟩ : TV) X Y s g O s' g' O' F) (hK : K ≤ 900)
    (ak an : Int) (ax : ByteArray) (fk fe : Int) (fq fa : Nat) (fb : ByteArray) :
    Calls Try.prog 24 #[.agg #[.pointer (some ⟨p, 0, none⟩), .pointer (some ⟨q, 0, none⟩), .slice oa on oc, .slice oa' on' oc', .slice sa sn sc, .slice sa' sn' sc', .slice ga gn gc, .slice ga' gn' gc'], .agg #[.int .i64 2, .int .i64 an, .bool false, .string ax, .int .i64 fk, .int .i64 fe, .int .u64 (fq : Int), .int .u64 (fa : Int), .string fb]] w (PlayR w0 fn (K + 1) (⟨p, q, ⟨oa, on, oc⟩, ⟨oa', on', oc'⟩, ⟨sa, sn, sc⟩, ⟨sa', sn', sc'⟩, ⟨ga, gn, gc⟩, ⟨ga', gn', gc'⟩⟩ : TV)) := by
  have H := Lib.hid h
  have HST := Lib.hid hs
  have cP := Lib.hid (fun W (x : Ext w W) => pTick (h.st.more x).e)
  have HF : Hid (∀ j i, ¬ F i (w.heap.size + j)) := Lib.hid (fun j i hk => by have := (h.st.low i _ hk).2; omega)
  have HW0 : Hid (w0.heap.size ≤ w.heap.size + 2) := Lib.hid (by have := h.st.ext.size; omega)
  clear h hs
  go_enter Try.func24, Try.ntmps24
  go_wp2_with (first
    | (go_at_call 33; refine (side_any _ _ _ _ _ _ _ _ _ _).mono ?_; rintro e wa ⟨rfl, xa⟩; have HB := Lib.hid (b3_new w #[.pointer (some ⟨p, 0, none⟩), .pointer (some ⟨q, 0, none⟩), .slice oa on oc, .slice oa' on' oc', .slice sa sn sc, .slice sa' sn' sc', .slice ga gn gc, .slice ga' gn' gc'] #[.int .i64 2, .int .i64 an, .bool false, .string ax, .int .i64 fk, .int .i64 fe, .int .u64 (fq : Int), .int .u64 (fa : Int), .string fb] #[.pointer none, .pointer none, .slice none 0 0, .slice none 0 0, .slice none 0 0, .slice none 0 0, .slice none 0 0, .slice none 0 0] xa); have HX := Lib.hid (Ext.trans ((((Ext.refl w).alloc _).alloc _).alloc _) xa); have hc := cells9t HB.out.2.1; obtain ⟨⟨c0, c1, _⟩, _⟩ := hc; have hd := cells8t HB.out.1; obtain ⟨⟨d0, d1, d2, d3, d4, d5, d6, d7⟩, _⟩ := hd; clear xa))
  have S1 := Lib.hid (H.out.st.more HX.out)
  refine (pTick S1.out.e).mono ?_
  rintro e w3 ⟨F3, rfl, n3, o3, g3⟩
  clear d0 d1 d2 d3 d4 d5 d6 d7 cP
  have hb3 := Lib.hid (HB.out.off o3 (HF.out 0 0) (HF.out 1 0) (HF.out 2 0))
  have S3 := Lib.hid (S1.out.moves n3 o3 g3)
  have HN := Lib.hid (nb_upd (HF.out 2) HB.out.lt g3)
  clear n3 o3 g3
  have hc8 := (cells8t hb3.out.1).1
  obtain ⟨d0, d1, d2, d3, d4, d5, d6, d7⟩ := hc8
  have hz8 := cells8t hb3.out.2.2
  obtain ⟨⟨z0, z1, z2, z3, z4, z5, z6, z7⟩, y0, y1, y2, y3, y4, y5, y6, y7⟩ := hz8
  go_wp2
  clear z0 z1 z2 z3 z4 z5 z6 z7
  have hz := set8_blk hb3.out.2.2 (.pointer (some ⟨p, 0, none⟩)) (.pointer (some ⟨q, 0, none⟩)) (.slice oa on oc) (.slice oa' on' oc') (.slice sa sn sc) (.slice sa' sn' sc') (.slice ga gn gc) (.slice ga' gn' gc')
  obtain ⟨z0, z1, z2, z3, z4, z5, z6, z7⟩ := (cells8t hz).1
  simp only [set8] at z0 z1 z2 z3 z4 z5 z6 z7
  refine bodyPost_ret (v := .agg #[.pointer (some ⟨p, 0, none⟩), .pointer (some ⟨q, 0, none⟩), .slice oa on oc, .slice oa' on' oc', .slice sa sn sc, .slice sa' sn' sc', .slice ga gn gc, .slice ga' gn' gc']) (by simp [results, Try.results24, go_sem, z0, z1, z2, z3, z4, z5, z6, z7]) rfl ?_
  have hfin := (S3.out).box (off_set8 w3 (w.heap.size + 2) (.pointer (some ⟨p, 0, none⟩)) (.pointer (some ⟨q, 0, none⟩)) (.slice oa on oc) (.slice oa' on' oc') (.slice sa sn sc) (.slice sa' sn' sc') (.slice ga gn gc) (.slice ga' gn' gc')) HN.out HW0.out
  exact ⟨(⟨p, q, ⟨oa, on, oc⟩, ⟨oa', on', oc'⟩, ⟨sa, sn, sc⟩, ⟨sa', sn', sc'⟩, ⟨ga, gn, gc⟩, ⟨ga', gn', gc'⟩⟩ : TV), rfl, GameX.id ⟨_, _, _, _, _, _, _, _, _, ⟨hfin, H.out.pair.tick, H.out.fit, H.out.fit', Nat.le_succ_of_le H.out.bs, Nat.le_succ_of_le H.out.bs', Nat.le_trans H.out.bo (by omega), Nat.le_trans H.out.bo' (by omega), ((EndS.tick_e _).1).trans H.out.one, H.out.one'⟩⟩, rfl, rfl⟩

set_option maxRecDepth 20000 in
set_option maxHeartbeats 8000000 in
theorem play0_full (w0 w : World) (hs : Std w0) (fn K : Nat) (p q : Nat) (oa oa' sa sa' ga ga' : Option Addr) (on on' sn sn' gn gn' oc oc' sc sc' gc gc' : Nat) {X Y : EndS} {s g s' g' : List ByteArray} {O O' : List Fr} {F : Nat → Nat → Prop} (h : Game w0 w fn K (⟨p, q, ⟨oa, on, oc⟩, ⟨oa', on', oc'⟩, ⟨sa, sn, sc⟩, ⟨sa', sn', sc'⟩, ⟨ga, gn, gc⟩, ⟨ga', gn', gc'⟩⟩ : TV) X Y s g O s' g' O' F) (hK : K ≤ 900)
    (ak an : Int) (ax : ByteArray) (fk fe : Int) (fq fa : Nat) (fb : ByteArray) (hb : ax.size ≤ 1000) (hE : X.sendE ax ≠ 0) :
    Calls Try.prog 24 #[.agg #[.pointer (some ⟨p, 0, none⟩), .pointer (some ⟨q, 0, none⟩), .slice oa on oc, .slice oa' on' oc', .slice sa sn sc, .slice sa' sn' sc', .slice ga gn gc, .slice ga' gn' gc'], .agg #[.int .i64 0, .int .i64 an, .bool false, .string ax, .int .i64 fk, .int .i64 fe, .int .u64 (fq : Int), .int .u64 (fa : Int), .string fb]] w (PlayR w0 fn (K + 1) (⟨p, q, ⟨oa, on, oc⟩, ⟨oa', on', oc'⟩, ⟨sa, sn, sc⟩, ⟨sa', sn', sc'⟩, ⟨ga, gn, gc⟩, ⟨ga', gn', gc'⟩⟩ : TV)) := by
  have H := Lib.hid h
  have HST := Lib.hid hs
  have hE2 : (((X.sendE ax : Nat) : Int) == 0) = false := by simpa using hE
  have HE := Lib.hid hE
  have HF : Hid (∀ j i, ¬ F i (w.heap.size + j)) := Lib.hid (fun j i hk => by have := (h.st.low i _ hk).2; omega)
  have HW0 : Hid (w0.heap.size ≤ w.heap.size + 2) := Lib.hid (by have := h.st.ext.size; omega)
  clear h hs hE
  go_enter Try.func24, Try.ntmps24
  go_wp2_with (first
    | (go_at_call 33; refine (side_any _ _ _ _ _ _ _ _ _ _).mono ?_; rintro e wa ⟨rfl, xa⟩; have HB := Lib.hid (b3_new w #[.pointer (some ⟨p, 0, none⟩), .pointer (some ⟨q, 0, none⟩), .slice oa on oc, .slice oa' on' oc', .slice sa sn sc, .slice sa' sn' sc', .slice ga gn gc, .slice ga' gn' gc'] #[.int .i64 0, .int .i64 an, .bool false, .string ax, .int .i64 fk, .int .i64 fe, .int .u64 (fq : Int), .int .u64 (fa : Int), .string fb] #[.pointer none, .pointer none, .slice none 0 0, .slice none 0 0, .slice none 0 0, .slice none 0 0, .slice none 0 0, .slice none 0 0] xa); have HX := Lib.hid (Ext.trans ((((Ext.refl w).alloc _).alloc _).alloc _) xa); have hc := cells9t HB.out.2.1; obtain ⟨⟨c0, c1, _⟩, _⟩ := hc; have hd := cells8t HB.out.1; obtain ⟨⟨d0, d1, d2, d3, d4, d5, d6, d7⟩, _⟩ := hd; clear xa))
  (refine wp_region_X_lit (K := fun W => W.cell? ⟨w.heap.size, 0, none⟩ = some (.pointer (some ⟨p, 0, none⟩)) ∧ W.cell? ⟨w.heap.size + 1, 3, none⟩ = some (.string ax)) (by kernel_rfl) (fun w1 hw1 => ?_))
  have hb1 := HB.out.ext hw1
  have k1 := And.intro (cells8t hb1.1).1.1 (cells9t hb1.2.1).1.2.2.2.1
  have S1 := Lib.hid (H.out.st.more (Ext.trans HX.out hw1))
  clear hw1
  (refine xtakeV 0 (v := ?_) (by simp only [List.getElem?_toArray, List.getElem?_cons, reduceIte]; rfl) (by kernel_rfl) (by rfl) (fun w' hw' => ?_) ?_; rotate_left; focus (skip; go_simp; first | done | with_reducible rfl)); (simp only [Act.put, List.setIfInBounds_toArray, List.set])
  (refine xtakeV 1 (v := ?_) (by simp only [List.getElem?_toArray, List.getElem?_cons, reduceIte]; rfl) (by kernel_rfl) (by rfl) (fun w' hw' => ?_) ?_; rotate_left; focus (skip; go_simp; first | done | with_reducible rfl)); (simp only [Act.put, List.setIfInBounds_toArray, List.set])
  (refine xtakeV 2 (v := ?_) (by simp only [List.getElem?_toArray, List.getElem?_cons, reduceIte]; rfl) (by kernel_rfl) (by rfl) (fun w' hw' => ?_) ?_; rotate_left; focus (skip; go_simp; first | done | with_reducible rfl)); (simp only [Act.put, List.setIfInBounds_toArray, List.set])
  (refine xtakeV 3 (v := ?_) (by simp only [List.getElem?_toArray, List.getElem?_cons, reduceIte]; rfl) (by kernel_rfl) (by rfl) (fun w' hw' => ?_) ?_; rotate_left; focus (have hc := hw'.1; go_simp; first | done | with_reducible rfl)); (simp only [Act.put, List.setIfInBounds_toArray, List.set])
  (refine xtakeV 4 (v := ?_) (by simp only [List.getElem?_toArray, List.getElem?_cons, reduceIte]; rfl) (by kernel_rfl) (by rfl) (fun w' hw' => ?_) ?_; rotate_left; focus (skip; go_simp; first | done | with_reducible rfl)); (simp only [Act.put, List.setIfInBounds_toArray, List.set])
  (refine xtakeV 5 (v := ?_) (by simp only [List.getElem?_toArray, List.getElem?_cons, reduceIte]; rfl) (by kernel_rfl) (by rfl) (fun w' hw' => ?_) ?_; rotate_left; focus (have hc := hw'.2; go_simp; first | done | with_reducible rfl)); (simp only [Act.put, List.setIfInBounds_toArray, List.set])
  (refine xone 6 (by kernel_rfl) (k1) (RunX.of 6 (by simp only [List.getElem?_toArray, List.getElem?_cons, reduceIte]; rfl) (by rfl) ?_))
  go_simp
  refine (pSend S1.out.e ax hb).mono ?_
  rintro e w3 ⟨F3, rfl, n3, o3, g3⟩
  have hb3 := hb1.off o3 (HF.out 0 0) (HF.out 1 0) (HF.out 2 0)
  have k3 := And.intro (cells8t hb3.1).1.1 (cells9t hb3.2.1).1.2.2.2.1
  have S3 := Lib.hid (S1.out.moves n3 o3 g3)
  have HN3 : Hid (∀ i j, i ≤ 2 → ¬ upd F 0 F3 j (w.heap.size + i)) := Lib.hid (fun i j hi => nb_upd (HF.out i) (by have := hb1.lt; omega) g3 j)
  clear n3 o3 g3
  dsimp only
  (try (simp only [Act.put, List.setIfInBounds_toArray, List.set]))
  (refine xtakeV 7 (v := ?_) (by simp only [List.getElem?_toArray, List.getElem?_cons, reduceIte]; rfl) (by kernel_rfl) (by rfl) (fun w' hw' => ?_) ?_; rotate_left; focus (skip; go_simp; first | done | with_reducible rfl)); (simp only [Act.put, List.setIfInBounds_toArray, List.set])
  (refine xdone (by kernel_rfl) (k3) ?_)
  have HB3 := Lib.hid hb3
  clear hb3 hb1 k1 k3 c0 c1 d0 d1 d2 d3 d4 d5 d6 d7
  have HN : Hid (∀ j, ¬ upd F 0 F3 j (w.heap.size + 2)) := Lib.hid (fun j => HN3.out 2 j (Nat.le_refl _))
  have hc8 := (cells8t HB3.out.1).1
  obtain ⟨d0, d1, d2, d3, d4, d5, d6, d7⟩ := hc8
  have hz8 := cells8t HB3.out.2.2
  obtain ⟨⟨z0, z1, z2, z3, z4, z5, z6, z7⟩, y0, y1, y2, y3, y4, y5, y6, y7⟩ := hz8
  go_wp2
  clear z0 z1 z2 z3 z4 z5 z6 z7
  have hz := set8_blk HB3.out.2.2 (.pointer (some ⟨p, 0, none⟩)) (.pointer (some ⟨q, 0, none⟩)) (.slice oa on oc) (.slice oa' on' oc') (.slice sa sn sc) (.slice sa' sn' sc') (.slice ga gn gc) (.slice ga' gn' gc')
  obtain ⟨z0, z1, z2, z3, z4, z5, z6, z7⟩ := (cells8t hz).1
  simp only [set8] at z0 z1 z2 z3 z4 z5 z6 z7
  refine bodyPost_ret (v := .agg #[.pointer (some ⟨p, 0, none⟩), .pointer (some ⟨q, 0, none⟩), .slice oa on oc, .slice oa' on' oc', .slice sa sn sc, .slice sa' sn' sc', .slice ga gn gc, .slice ga' gn' gc']) (by simp [results, Try.results24, go_sem, z0, z1, z2, z3, z4, z5, z6, z7]) rfl ?_
  have hfin := (S3.out).box (off_set8 w3 (w.heap.size + 2) (.pointer (some ⟨p, 0, none⟩)) (.pointer (some ⟨q, 0, none⟩)) (.slice oa on oc) (.slice oa' on' oc') (.slice sa sn sc) (.slice sa' sn' sc') (.slice ga gn gc) (.slice ga' gn' gc')) HN.out HW0.out
  exact ⟨(⟨p, q, ⟨oa, on, oc⟩, ⟨oa', on', oc'⟩, ⟨sa, sn, sc⟩, ⟨sa', sn', sc'⟩, ⟨ga, gn, gc⟩, ⟨ga', gn', gc'⟩⟩ : TV), rfl, GameX.id ⟨_, _, _, _, _, _, _, _, _, ⟨hfin, H.out.pair.refused ax HE.out, H.out.fit, H.out.fit', Nat.le_succ_of_le H.out.bs, Nat.le_succ_of_le H.out.bs', Nat.le_trans H.out.bo (by omega), Nat.le_trans H.out.bo' (by omega), ((EndS.send_e _ _).1).trans H.out.one, H.out.one'⟩⟩, rfl, rfl⟩

set_option maxRecDepth 20000 in
set_option maxHeartbeats 8000000 in
theorem play0_send (w0 w : World) (hs : Std w0) (fn K : Nat) (p q : Nat) (oa oa' sa sa' ga ga' : Option Addr) (on on' sn sn' gn gn' oc oc' sc sc' gc gc' : Nat) {X Y : EndS} {s g s' g' : List ByteArray} {O O' : List Fr} {F : Nat → Nat → Prop} (h : Game w0 w fn K (⟨p, q, ⟨oa, on, oc⟩, ⟨oa', on', oc'⟩, ⟨sa, sn, sc⟩, ⟨sa', sn', sc'⟩, ⟨ga, gn, gc⟩, ⟨ga', gn', gc'⟩⟩ : TV) X Y s g O s' g' O' F) (hK : K ≤ 900)
    (ak an : Int) (ax : ByteArray) (fk fe : Int) (fq fa : Nat) (fb : ByteArray) (hb : ax.size ≤ 1000) (hE : X.sendE ax = 0) :
    Calls Try.prog 24 #[.agg #[.pointer (some ⟨p, 0, none⟩), .pointer (some ⟨q, 0, none⟩), .slice oa on oc, .slice oa' on' oc', .slice sa sn sc, .slice sa' sn' sc', .slice ga gn gc, .slice ga' gn' gc'], .agg #[.int .i64 0, .int .i64 an, .bool false, .string ax, .int .i64 fk, .int .i64 fe, .int .u64 (fq : Int), .int .u64 (fa : Int), .string fb]] w (PlayR w0 fn (K + 1) (⟨p, q, ⟨oa, on, oc⟩, ⟨oa', on', oc'⟩, ⟨sa, sn, sc⟩, ⟨sa', sn', sc'⟩, ⟨ga, gn, gc⟩, ⟨ga', gn', gc'⟩⟩ : TV)) := by
  have H := Lib.hid h
  have HST := Lib.hid hs
  have HE := Lib.hid hE
  have HF : Hid (∀ j i, ¬ F i (w.heap.size + j)) := Lib.hid (fun j i hk => by have := (h.st.low i _ hk).2; omega)
  have HW0 : Hid (w0.heap.size ≤ w.heap.size + 2) := Lib.hid (by have := h.st.ext.size; omega)
  clear h hs
  go_enter Try.func24, Try.ntmps24
  go_wp2_with (first
    | (go_at_call 33; refine (side_any _ _ _ _ _ _ _ _ _ _).mono ?_; rintro e wa ⟨rfl, xa⟩; have HB := Lib.hid (b3_new w #[.pointer (some ⟨p, 0, none⟩), .pointer (some ⟨q, 0, none⟩), .slice oa on oc, .slice oa' on' oc', .slice sa sn sc, .slice sa' sn' sc', .slice ga gn gc, .slice ga' gn' gc'] #[.int .i64 0, .int .i64 an, .bool false, .string ax, .int .i64 fk, .int .i64 fe, .int .u64 (fq : Int), .int .u64 (fa : Int), .string fb] #[.pointer none, .pointer none, .slice none 0 0, .slice none 0 0, .slice none 0 0, .slice none 0 0, .slice none 0 0, .slice none 0 0] xa); have HX := Lib.hid (Ext.trans ((((Ext.refl w).alloc _).alloc _).alloc _) xa); have hc := cells9t HB.out.2.1; obtain ⟨⟨c0, c1, _⟩, _⟩ := hc; have hd := cells8t HB.out.1; obtain ⟨⟨d0, d1, d2, d3, d4, d5, d6, d7⟩, _⟩ := hd; clear xa))
  (refine wp_region_X_lit (K := fun W => W.cell? ⟨w.heap.size, 0, none⟩ = some (.pointer (some ⟨p, 0, none⟩)) ∧ W.cell? ⟨w.heap.size + 1, 3, none⟩ = some (.string ax)) (by kernel_rfl) (fun w1 hw1 => ?_))
  have hb1 := HB.out.ext hw1
  have k1 := And.intro (cells8t hb1.1).1.1 (cells9t hb1.2.1).1.2.2.2.1
  have S1 := Lib.hid (H.out.st.more (Ext.trans HX.out hw1))
  clear hw1
  (refine xtakeV 0 (v := ?_) (by simp only [List.getElem?_toArray, List.getElem?_cons, reduceIte]; rfl) (by kernel_rfl) (by rfl) (fun w' hw' => ?_) ?_; rotate_left; focus (skip; go_simp; first | done | with_reducible rfl)); (simp only [Act.put, List.setIfInBounds_toArray, List.set])
  (refine xtakeV 1 (v := ?_) (by simp only [List.getElem?_toArray, List.getElem?_cons, reduceIte]; rfl) (by kernel_rfl) (by rfl) (fun w' hw' => ?_) ?_; rotate_left; focus (skip; go_simp; first | done | with_reducible rfl)); (simp only [Act.put, List.setIfInBounds_toArray, List.set])
  (refine xtakeV 2 (v := ?_) (by simp only [List.getElem?_toArray, List.getElem?_cons, reduceIte]; rfl) (by kernel_rfl) (by rfl) (fun w' hw' => ?_) ?_; rotate_left; focus (skip; go_simp; first | done | with_reducible rfl)); (simp only [Act.put, List.setIfInBounds_toArray, List.set])
  (refine xtakeV 3 (v := ?_) (by simp only [List.getElem?_toArray, List.getElem?_cons, reduceIte]; rfl) (by kernel_rfl) (by rfl) (fun w' hw' => ?_) ?_; rotate_left; focus (have hc := hw'.1; go_simp; first | done | with_reducible rfl)); (simp only [Act.put, List.setIfInBounds_toArray, List.set])
  (refine xtakeV 4 (v := ?_) (by simp only [List.getElem?_toArray, List.getElem?_cons, reduceIte]; rfl) (by kernel_rfl) (by rfl) (fun w' hw' => ?_) ?_; rotate_left; focus (skip; go_simp; first | done | with_reducible rfl)); (simp only [Act.put, List.setIfInBounds_toArray, List.set])
  (refine xtakeV 5 (v := ?_) (by simp only [List.getElem?_toArray, List.getElem?_cons, reduceIte]; rfl) (by kernel_rfl) (by rfl) (fun w' hw' => ?_) ?_; rotate_left; focus (have hc := hw'.2; go_simp; first | done | with_reducible rfl)); (simp only [Act.put, List.setIfInBounds_toArray, List.set])
  (refine xone 6 (by kernel_rfl) (k1) (RunX.of 6 (by simp only [List.getElem?_toArray, List.getElem?_cons, reduceIte]; rfl) (by rfl) ?_))
  go_simp
  have cS := pSend S1.out.e ax hb
  rw [HE.out] at cS
  refine cS.mono ?_
  rintro e w3 ⟨F3, rfl, n3, o3, g3⟩
  have hb3 := hb1.off o3 (HF.out 0 0) (HF.out 1 0) (HF.out 2 0)
  have k3 := And.intro (cells8t hb3.1).1.1 (cells9t hb3.2.1).1.2.2.2.1
  have S3 := Lib.hid (S1.out.moves n3 o3 g3)
  have HN3 : Hid (∀ i j, i ≤ 2 → ¬ upd F 0 F3 j (w.heap.size + i)) := Lib.hid (fun i j hi => nb_upd (HF.out i) (by have := hb1.lt; omega) g3 j)
  clear n3 o3 g3
  dsimp only
  (try (simp only [Act.put, List.setIfInBounds_toArray, List.set]))
  (refine xtakeV 7 (v := ?_) (by simp only [List.getElem?_toArray, List.getElem?_cons, reduceIte]; rfl) (by kernel_rfl) (by rfl) (fun w' hw' => ?_) ?_; rotate_left; focus (skip; go_simp; first | done | with_reducible rfl)); (simp only [Act.put, List.setIfInBounds_toArray, List.set])
  (refine xdone (by kernel_rfl) (k3) ?_)
  have HB3 := Lib.hid hb3
  clear hb3 hb1 k1 k3 c0 c1 d0 d1 d2 d3 d4 d5 d6 d7
  clear hE
  go_wp2_with fail
  (refine wp_region_X_lit (K := fun W => W.cell? ⟨w.heap.size + 1, 3, none⟩ = some (.string ax)) (by kernel_rfl) (fun w1 hw1 => ?_))
  have hb4 := HB3.out.ext hw1
  have S4 := Lib.hid (S3.out.more hw1)
  have k4 := (cells9t hb4.2.1).1.2.2.2.1
  clear hw1
  have HB4 := Lib.hid hb4
  obtain ⟨⟨d0, d1, d2, d3, d4, d5, d6, d7⟩, _⟩ := cells8t hb4.1
  (refine xtakeV 0 (v := ?_) (by simp only [List.getElem?_toArray, List.getElem?_cons, reduceIte]; rfl) (by kernel_rfl) (by rfl) (fun w' hw' => ?_) ?_; rotate_left; focus (skip; go_simp; first | done | with_reducible rfl)); (simp only [Act.put, List.setIfInBounds_toArray, List.set])
  (refine xtakeV 1 (v := ?_) (by simp only [List.getElem?_toArray, List.getElem?_cons, reduceIte]; rfl) (by kernel_rfl) (by rfl) (fun w' hw' => ?_) ?_; rotate_left; focus (skip; go_simp; first | done | with_reducible rfl)); (simp only [Act.put, List.setIfInBounds_toArray, List.set])
  (refine xtakeV 2 (v := ?_) (by simp only [List.getElem?_toArray, List.getElem?_cons, reduceIte]; rfl) (by kernel_rfl) (by rfl) (fun w' hw' => ?_) ?_; rotate_left; focus (skip; go_simp; first | done | with_reducible rfl)); (simp only [Act.put, List.setIfInBounds_toArray, List.set])
  (refine xtakeV 3 (v := ?_) (by simp only [List.getElem?_toArray, List.getElem?_cons, reduceIte]; rfl) (by kernel_rfl) (by rfl) (fun w' hw' => ?_) ?_; rotate_left; focus (skip; go_simp; first | done | with_reducible rfl)); (simp only [Act.put, List.setIfInBounds_toArray, List.set])
  (refine xtakeV 5 (v := ?_) (by simp only [List.getElem?_toArray, List.getElem?_cons, reduceIte]; rfl) (by kernel_rfl) (by rfl) (fun w' hw' => ?_) ?_; rotate_left; focus (skip; go_simp; first | done | with_reducible rfl)); (simp only [Act.put, List.setIfInBounds_toArray, List.set])
  (refine xtakeV 6 (v := ?_) (by simp only [List.getElem?_toArray, List.getElem?_cons, reduceIte]; rfl) (by kernel_rfl) (by rfl) (fun w' hw' => ?_) ?_; rotate_left; focus (have hc := hw'; go_simp; first | done | with_reducible rfl)); (simp only [Act.put, List.setIfInBounds_toArray, List.set])
  (refine xtakeV 9 (v := ?_) (by simp only [List.getElem?_toArray, List.getElem?_cons, reduceIte]; rfl) (by kernel_rfl) (by rfl) (fun w' hw' => ?_) ?_; rotate_left; focus (skip; go_simp; first | done | with_reducible rfl)); (simp only [Act.put, List.setIfInBounds_toArray, List.set])
  (refine xtwo 4 7 (by kernel_rfl) (k4) (RunX.of 4 (by simp only [List.getElem?_toArray, List.getElem?_cons, reduceIte]; rfl) (by rfl) ?_) (RunX.of 7 (by simp only [List.getElem?_toArray, List.getElem?_cons, reduceIte]; rfl) (by rfl) ?_))
  · go_simp
    (try (simp only [Act.put, List.setIfInBounds_toArray, List.set]))
    (refine xone 7 (by kernel_rfl) (k4) (RunX.of 7 (by simp only [List.getElem?_toArray, List.getElem?_cons, reduceIte]; rfl) (by rfl) ?_))
    go_simp
    (try (simp only [Act.put, List.setIfInBounds_toArray, List.set]))
    have hb5 := Lib.hid (hb4.ext ((Ext.refl w1).alloc (.cells #[.string ax] 9)))
    have k5 := (cells9t hb5.out.2.1).1.2.2.2.1
    clear hb4
    have hbs := H.out.bs
    (refine xone 8 (by kernel_rfl) (k5) (RunX.of 8 (by simp only [List.getElem?_toArray, List.getElem?_cons, reduceIte]; rfl) (by rfl) ?_))
    (refine wp_append_sl (α := ByteArray) (.tmp 66) (.tmp 69) rfl w0.heap.size (.slice sa sn sc) s rfl ?_ (.slice (some ⟨w1.heap.size, 0, none⟩) 1 1) [ax] rfl ?_ ?_ ?_ ?_; exact (S4.out.cs.1.alloc _); exact (Sl.litAt w1 _ rfl [ax] (show (1 : Nat) ≤ 1000000 by decide)); (first | omega | (simp; omega)); (have := S4.out.ext.size; rw [size_alloc]; omega); intro v2 W2 ho2 ha2; have S5 := Lib.hid (S4.out.more ((Ext.refl w1).alloc (.cells #[.string ax] 9))))
    obtain ⟨ya, yn, yc, rfl⟩ := ho2.sh
    have h6 := hb5.out.off (off_apd (x := ⟨sa, sn, sc⟩) (G := upd F 0 F3 4) ha2 (fun b hb => S4.out.cs.2 b hb)) (HN3.out 0 4 (by omega)) (HN3.out 1 4 (by omega)) (HN3.out 2 4 (by omega))
    have S6 := Lib.hid (S5.out.sent (y := ⟨ya, yn, yc⟩) ho2 ha2)
    have HG6 := Lib.hid (grows_apd (x := ⟨sa, sn, sc⟩) (y := ⟨ya, yn, yc⟩) (G := upd F 0 F3 4) ha2 (fun b hb => S4.out.cs.2 b hb))
    have k6 := (cells9t h6.2.1).1.2.2.2.1
    have e6 := cells8t h6.1
    obtain ⟨⟨x0, x1, x2, x3, x4, x5, x6, x7⟩, y0, y1, y2, y3, y4, y5, y6, y7⟩ := e6
    clear ho2 ha2 hbs
    (try (simp only [Act.put, List.setIfInBounds_toArray, List.set]))
    (refine xone 10 (by kernel_rfl) (k6) (RunX.of 10 (by simp only [List.getElem?_toArray, List.getElem?_cons, reduceIte]; rfl) (by rfl) ?_))
    go_simp
    (try (simp only [Act.put, List.setIfInBounds_toArray, List.set]))
    (refine xone 11 (by kernel_rfl) (k6) (RunX.of 11 (by simp only [List.getElem?_toArray, List.getElem?_cons, reduceIte]; rfl) (by rfl) ?_))
    go_simp
    (try (simp only [Act.put, List.setIfInBounds_toArray, List.set]))
    have h7 := h6.set 4 (.slice ya yn yc)
    simp only [List.setIfInBounds_toArray, List.set_cons_succ, List.set_cons_zero] at h7
    have k7 := (cells9t h7.2.1).1.2.2.2.1
    (refine xdone (by kernel_rfl) (k7) ?_)
    have HB7 := Lib.hid h7
    have HN : Hid (∀ j, ¬ upd (upd F 0 F3) 4 (ob ⟨ya, yn, yc⟩) j (w.heap.size + 2)) := Lib.hid (nb_upd (fun j => HN3.out 2 j (Nat.le_refl _)) (by rw [size_alloc]; have := HB4.out.lt; omega) HG6.out)
    have S7 := Lib.hid (S6.out.box (off_set W2 ⟨w.heap.size, 4, none⟩ (.slice ya yn yc)) (nb_upd (b := w.heap.size) (fun j => HN3.out 0 j (by omega)) (by rw [size_alloc]; have := HB4.out.lt; omega) HG6.out) (by have := H.out.st.ext.size; omega))
    clear h6 h7 k6 k7 x0 x1 x2 x3 x4 x5 x6 x7 y0 y1 y2 y3 y4 y5 y6 y7 d0 d1 d2 d3 d4 d5 d6 d7 k4 k5
    have hc8 := (cells8t HB7.out.1).1
    obtain ⟨d0, d1, d2, d3, d4, d5, d6, d7⟩ := hc8
    have hz8 := cells8t HB7.out.2.2
    obtain ⟨⟨z0, z1, z2, z3, z4, z5, z6, z7⟩, y0, y1, y2, y3, y4, y5, y6, y7⟩ := hz8
    go_wp2
    clear z0 z1 z2 z3 z4 z5 z6 z7
    have hz := set8_blk HB7.out.2.2 (.pointer (some ⟨p, 0, none⟩)) (.pointer (some ⟨q, 0, none⟩)) (.slice oa on oc) (.slice oa' on' oc') (.slice ya yn yc) (.slice sa' sn' sc') (.slice ga gn gc) (.slice ga' gn' gc')
    obtain ⟨z0, z1, z2, z3, z4, z5, z6, z7⟩ := (cells8t hz).1
    simp only [set8] at z0 z1 z2 z3 z4 z5 z6 z7
    refine bodyPost_ret (v := .agg #[.pointer (some ⟨p, 0, none⟩), .pointer (some ⟨q, 0, none⟩), .slice oa on oc, .slice oa' on' oc', .slice ya yn yc, .slice sa' sn' sc', .slice ga gn gc, .slice ga' gn' gc']) (by simp [results, Try.results24, go_sem, z0, z1, z2, z3, z4, z5, z6, z7]) rfl ?_
    have hfin := (S7.out).box (off_set8 (W2.setCell ⟨w.heap.size, 4, none⟩ (.slice ya yn yc)) (w.heap.size + 2) (.pointer (some ⟨p, 0, none⟩)) (.pointer (some ⟨q, 0, none⟩)) (.slice oa on oc) (.slice oa' on' oc') (.slice ya yn yc) (.slice sa' sn' sc') (.slice ga gn gc) (.slice ga' gn' gc')) HN.out HW0.out
    exact ⟨(⟨p, q, ⟨oa, on, oc⟩, ⟨oa', on', oc'⟩, ⟨ya, yn, yc⟩, ⟨sa', sn', sc'⟩, ⟨ga, gn, gc⟩, ⟨ga', gn', gc'⟩⟩ : TV), rfl, GameX.id ⟨_, _, _, _, _, _, _, _, _, ⟨hfin, H.out.pair.send ax HE.out (by have := H.out.bs; omega), H.out.fit, H.out.fit', by have := H.out.bs; simp; omega, Nat.le_succ_of_le H.out.bs', Nat.le_trans H.out.bo (by omega), Nat.le_trans H.out.bo' (by omega), ((EndS.send_e _ _).1).trans H.out.one, H.out.one'⟩⟩, rfl, rfl⟩
  · go_simp
    (try (simp only [Act.put, List.setIfInBounds_toArray, List.set]))
    have hb5 := Lib.hid (hb4.ext ((Ext.refl w1).alloc (.cells #[.string ax] 9)))
    have k5 := (cells9t hb5.out.2.1).1.2.2.2.1
    have k5b := (cells8t hb5.out.1).1.2.2.2.2.1
    clear hb4
    (refine xone 4 (by kernel_rfl) (k5) (RunX.of 4 (by simp only [List.getElem?_toArray, List.getElem?_cons, reduceIte]; rfl) (by rfl) ?_))
    go_simp
    (try (simp only [Act.put, List.setIfInBounds_toArray, List.set]))
    clear k5b
    have hbs := H.out.bs
    (refine xone 8 (by kernel_rfl) (k5) (RunX.of 8 (by simp only [List.getElem?_toArray, List.getElem?_cons, reduceIte]; rfl) (by rfl) ?_))
    (refine wp_append_sl (α := ByteArray) (.tmp 66) (.tmp 69) rfl w0.heap.size (.slice sa sn sc) s rfl ?_ (.slice (some ⟨w1.heap.size, 0, none⟩) 1 1) [ax] rfl ?_ ?_ ?_ ?_; exact (S4.out.cs.1.alloc _); exact (Sl.litAt w1 _ rfl [ax] (show (1 : Nat) ≤ 1000000 by decide)); (first | omega | (simp; omega)); (have := S4.out.ext.size; rw [size_alloc]; omega); intro v2 W2 ho2 ha2; have S5 := Lib.hid (S4.out.more ((Ext.refl w1).alloc (.cells #[.string ax] 9))))
    obtain ⟨ya, yn, yc, rfl⟩ := ho2.sh
    have h6 := hb5.out.off (off_apd (x := ⟨sa, sn, sc⟩) (G := upd F 0 F3 4) ha2 (fun b hb => S4.out.cs.2 b hb)) (HN3.out 0 4 (by omega)) (HN3.out 1 4 (by omega)) (HN3.out 2 4 (by omega))
    have S6 := Lib.hid (S5.out.sent (y := ⟨ya, yn, yc⟩) ho2 ha2)
    have HG6 := Lib.hid (grows_apd (x := ⟨sa, sn, sc⟩) (y := ⟨ya, yn, yc⟩) (G := upd F 0 F3 4) ha2 (fun b hb => S4.out.cs.2 b hb))
    have k6 := (cells9t h6.2.1).1.2.2.2.1
    have e6 := cells8t h6.1
    obtain ⟨⟨x0, x1, x2, x3, x4, x5, x6, x7⟩, y0, y1, y2, y3, y4, y5, y6, y7⟩ := e6
    clear ho2 ha2 hbs
    (try (simp only [Act.put, List.setIfInBounds_toArray, List.set]))
    (refine xone 10 (by kernel_rfl) (k6) (RunX.of 10 (by simp only [List.getElem?_toArray, List.getElem?_cons, reduceIte]; rfl) (by rfl) ?_))
    go_simp
    (try (simp only [Act.put, List.setIfInBounds_toArray, List.set]))
    (refine xone 11 (by kernel_rfl) (k6) (RunX.of 11 (by simp only [List.getElem?_toArray, List.getElem?_cons, reduceIte]; rfl) (by rfl) ?_))
    go_simp
    (try (simp only [Act.put, List.setIfInBounds_toArray, List.set]))
    have h7 := h6.set 4 (.slice ya yn yc)
    simp only [List.setIfInBounds_toArray, List.set_cons_succ, List.set_cons_zero] at h7
    have k7 := (cells9t h7.2.1).1.2.2.2.1
    (refine xdone (by kernel_rfl) (k7) ?_)
    have HB7 := Lib.hid h7
    have HN : Hid (∀ j, ¬ upd (upd F 0 F3) 4 (ob ⟨ya, yn, yc⟩) j (w.heap.size + 2)) := Lib.hid (nb_upd (fun j => HN3.out 2 j (Nat.le_refl _)) (by rw [size_alloc]; have := HB4.out.lt; omega) HG6.out)
    have S7 := Lib.hid (S6.out.box (off_set W2 ⟨w.heap.size, 4, none⟩ (.slice ya yn yc)) (nb_upd (b := w.heap.size) (fun j => HN3.out 0 j (by omega)) (by rw [size_alloc]; have := HB4.out.lt; omega) HG6.out) (by have := H.out.st.ext.size; omega))
    clear h6 h7 k6 k7 x0 x1 x2 x3 x4 x5 x6 x7 y0 y1 y2 y3 y4 y5 y6 y7 d0 d1 d2 d3 d4 d5 d6 d7 k4 k5
    have hc8 := (cells8t HB7.out.1).1
    obtain ⟨d0, d1, d2, d3, d4, d5, d6, d7⟩ := hc8
    have hz8 := cells8t HB7.out.2.2
    obtain ⟨⟨z0, z1, z2, z3, z4, z5, z6, z7⟩, y0, y1, y2, y3, y4, y5, y6, y7⟩ := hz8
    go_wp2
    clear z0 z1 z2 z3 z4 z5 z6 z7
    have hz := set8_blk HB7.out.2.2 (.pointer (some ⟨p, 0, none⟩)) (.pointer (some ⟨q, 0, none⟩)) (.slice oa on oc) (.slice oa' on' oc') (.slice ya yn yc) (.slice sa' sn' sc') (.slice ga gn gc) (.slice ga' gn' gc')
    obtain ⟨z0, z1, z2, z3, z4, z5, z6, z7⟩ := (cells8t hz).1
    simp only [set8] at z0 z1 z2 z3 z4 z5 z6 z7
    refine bodyPost_ret (v := .agg #[.pointer (some ⟨p, 0, none⟩), .pointer (some ⟨q, 0, none⟩), .slice oa on oc, .slice oa' on' oc', .slice ya yn yc, .slice sa' sn' sc', .slice ga gn gc, .slice ga' gn' gc']) (by simp [results, Try.results24, go_sem, z0, z1, z2, z3, z4, z5, z6, z7]) rfl ?_
    have hfin := (S7.out).box (off_set8 (W2.setCell ⟨w.heap.size, 4, none⟩ (.slice ya yn yc)) (w.heap.size + 2) (.pointer (some ⟨p, 0, none⟩)) (.pointer (some ⟨q, 0, none⟩)) (.slice oa on oc) (.slice oa' on' oc') (.slice ya yn yc) (.slice sa' sn' sc') (.slice ga gn gc) (.slice ga' gn' gc')) HN.out HW0.out
    exact ⟨(⟨p, q, ⟨oa, on, oc⟩, ⟨oa', on', oc'⟩, ⟨ya, yn, yc⟩, ⟨sa', sn', sc'⟩, ⟨ga, gn, gc⟩, ⟨ga', gn', gc'⟩⟩ : TV), rfl, GameX.id ⟨_, _, _, _, _, _, _, _, _, ⟨hfin, H.out.pair.send ax HE.out (by have := H.out.bs; omega), H.out.fit, H.out.fit', by have := H.out.bs; simp; omega, Nat.le_succ_of_le H.out.bs', Nat.le_trans H.out.bo (by omega), Nat.le_trans H.out.bo' (by omega), ((EndS.send_e _ _).1).trans H.out.one, H.out.one'⟩⟩, rfl, rfl⟩

set_option maxRecDepth 20000 in
set_option maxHeartbeats 8000000 in
theorem play0_out (w0 w : World) (hs : Std w0) (fn K : Nat) (p q : Nat) (oa oa' sa sa' ga ga' : Option Addr) (on on' sn sn' gn gn' oc oc' sc sc' gc gc' : Nat) {X Y : EndS} {s g s' g' : List ByteArray} {O O' : List Fr} {F : Nat → Nat → Prop} (h : Game w0 w fn K (⟨p, q, ⟨oa, on, oc⟩, ⟨oa', on', oc'⟩, ⟨sa, sn, sc⟩, ⟨sa', sn', sc'⟩, ⟨ga, gn, gc⟩, ⟨ga', gn', gc'⟩⟩ : TV) X Y s g O s' g' O' F) (hK : K ≤ 900)
    (ak an : Int) (ax : ByteArray) (fk fe : Int) (fq fa : Nat) (fb : ByteArray) :
    Calls Try.prog 24 #[.agg #[.pointer (some ⟨p, 0, none⟩), .pointer (some ⟨q, 0, none⟩), .slice oa on oc, .slice oa' on' oc', .slice sa sn sc, .slice sa' sn' sc', .slice ga gn gc, .slice ga' gn' gc'], .agg #[.int .i64 1, .int .i64 an, .bool false, .string ax, .int .i64 fk, .int .i64 fe, .int .u64 (fq : Int), .int .u64 (fa : Int), .string fb]] w (PlayR w0 fn (K + 1) (⟨p, q, ⟨oa, on, oc⟩, ⟨oa', on', oc'⟩, ⟨sa, sn, sc⟩, ⟨sa', sn', sc'⟩, ⟨ga, gn, gc⟩, ⟨ga', gn', gc'⟩⟩ : TV)) := by
  have H := Lib.hid h
  have HST := Lib.hid hs

  have HF : Hid (∀ j i, ¬ F i (w.heap.size + j)) := Lib.hid (fun j i hk => by have := (h.st.low i _ hk).2; omega)
  have HW0 : Hid (w0.heap.size ≤ w.heap.size + 2) := Lib.hid (by have := h.st.ext.size; omega)
  clear h hs
  go_enter Try.func24, Try.ntmps24
  go_wp2_with (first
    | (go_at_call 33; refine (side_any _ _ _ _ _ _ _ _ _ _).mono ?_; rintro e wa ⟨rfl, xa⟩; have HB := Lib.hid (b3_new w #[.pointer (some ⟨p, 0, none⟩), .pointer (some ⟨q, 0, none⟩), .slice oa on oc, .slice oa' on' oc', .slice sa sn sc, .slice sa' sn' sc', .slice ga gn gc, .slice ga' gn' gc'] #[.int .i64 1, .int .i64 an, .bool false, .string ax, .int .i64 fk, .int .i64 fe, .int .u64 (fq : Int), .int .u64 (fa : Int), .string fb] #[.pointer none, .pointer none, .slice none 0 0, .slice none 0 0, .slice none 0 0, .slice none 0 0, .slice none 0 0, .slice none 0 0] xa); have HX := Lib.hid (Ext.trans ((((Ext.refl w).alloc _).alloc _).alloc _) xa); have hc := cells9t HB.out.2.1; obtain ⟨⟨c0, c1, _⟩, _⟩ := hc; have hd := cells8t HB.out.1; obtain ⟨⟨d0, d1, d2, d3, d4, d5, d6, d7⟩, _⟩ := hd; clear xa))
  (refine wp_region_X_lit (K := fun W => W.cell? ⟨w.heap.size, 0, none⟩ = some (.pointer (some ⟨p, 0, none⟩))) (by kernel_rfl) (fun w1 hw1 => ?_))
  have hb1 := HB.out.ext hw1
  have k1 := (cells8t hb1.1).1.1
  have S1 := Lib.hid (H.out.st.more (Ext.trans HX.out hw1))
  clear hw1
  have HB1 := Lib.hid hb1
  (refine xtakeV 0 (v := ?_) (by simp only [List.getElem?_toArray, List.getElem?_cons, reduceIte]; rfl) (by kernel_rfl) (by rfl) (fun w' hw' => ?_) ?_; rotate_left; focus (skip; go_simp; first | done | with_reducible rfl)); (simp only [Act.put, List.setIfInBounds_toArray, List.set])
  (refine xtakeV 1 (v := ?_) (by simp only [List.getElem?_toArray, List.getElem?_cons, reduceIte]; rfl) (by kernel_rfl) (by rfl) (fun w' hw' => ?_) ?_; rotate_left; focus (skip; go_simp; first | done | with_reducible rfl)); (simp only [Act.put, List.setIfInBounds_toArray, List.set])
  (refine xtakeV 2 (v := ?_) (by simp only [List.getElem?_toArray, List.getElem?_cons, reduceIte]; rfl) (by kernel_rfl) (by rfl) (fun w' hw' => ?_) ?_; rotate_left; focus (skip; go_simp; first | done | with_reducible rfl)); (simp only [Act.put, List.setIfInBounds_toArray, List.set])
  (refine xtakeV 3 (v := ?_) (by simp only [List.getElem?_toArray, List.getElem?_cons, reduceIte]; rfl) (by kernel_rfl) (by rfl) (fun w' hw' => ?_) ?_; rotate_left; focus (skip; go_simp; first | done | with_reducible rfl)); (simp only [Act.put, List.setIfInBounds_toArray, List.set])
  (refine xtakeV 5 (v := ?_) (by simp only [List.getElem?_toArray, List.getElem?_cons, reduceIte]; rfl) (by kernel_rfl) (by rfl) (fun w' hw' => ?_) ?_; rotate_left; focus (skip; go_simp; first | done | with_reducible rfl)); (simp only [Act.put, List.setIfInBounds_toArray, List.set])
  (refine xtakeV 6 (v := ?_) (by simp only [List.getElem?_toArray, List.getElem?_cons, reduceIte]; rfl) (by kernel_rfl) (by rfl) (fun w' hw' => ?_) ?_; rotate_left; focus (skip; go_simp; first | done | with_reducible rfl)); (simp only [Act.put, List.setIfInBounds_toArray, List.set])
  (refine xtakeV 7 (v := ?_) (by simp only [List.getElem?_toArray, List.getElem?_cons, reduceIte]; rfl) (by kernel_rfl) (by rfl) (fun w' hw' => ?_) ?_; rotate_left; focus (skip; go_simp; first | done | with_reducible rfl)); (simp only [Act.put, List.setIfInBounds_toArray, List.set])
  (refine xtakeV 8 (v := ?_) (by simp only [List.getElem?_toArray, List.getElem?_cons, reduceIte]; rfl) (by kernel_rfl) (by rfl) (fun w' hw' => ?_) ?_; rotate_left; focus (have hc := hw'; go_simp; first | done | with_reducible rfl)); (simp only [Act.put, List.setIfInBounds_toArray, List.set])
  (refine xtakeV 11 (v := ?_) (by simp only [List.getElem?_toArray, List.getElem?_cons, reduceIte]; rfl) (by kernel_rfl) (by rfl) (fun w' hw' => ?_) ?_; rotate_left; focus (skip; go_simp; first | done | with_reducible rfl)); (simp only [Act.put, List.setIfInBounds_toArray, List.set])
  (refine xtwo 4 9 (by kernel_rfl) (k1) (RunX.of 4 (by simp only [List.getElem?_toArray, List.getElem?_cons, reduceIte]; rfl) (by rfl) ?_) (RunX.of 9 (by simp only [List.getElem?_toArray, List.getElem?_cons, reduceIte]; rfl) (by rfl) ?_))
  · have kO := (cells8t hb1.1).1.2.2.1
    clear hb1
    go_simp
    (try (simp only [Act.put, List.setIfInBounds_toArray, List.set]))
    (refine xone 9 (by kernel_rfl) (k1) (RunX.of 9 (by simp only [List.getElem?_toArray, List.getElem?_cons, reduceIte]; rfl) (by rfl) ?_))
    go_simp
    refine (pOut S1.out.e).mono ?_
    rintro e w3 ⟨a3, n3, c3, F3, rfl, r3, _, t3, o3, g3⟩
    have hb3 := HB1.out.off o3 (HF.out 0 0) (HF.out 1 0) (HF.out 2 0)
    have k3 := (cells8t hb3.1).1.1
    have S3 := Lib.hid (S1.out.moves t3 o3 g3)
    have HN3 : Hid (∀ i j, i ≤ 2 → ¬ upd F 0 F3 j (w.heap.size + i)) := Lib.hid (fun i j hi => nb_upd (HF.out i) (by have := HB1.out.lt; omega) g3 j)
    have HR3 := Lib.hid r3
    have HB3 := Lib.hid hb3
    clear t3 o3 g3 r3 hb3
    dsimp only
    (try (simp only [Act.put, List.setIfInBounds_toArray, List.set]))
    clear kO
    have hbo := H.out.bo
    have hfl := EndS.frames_le H.out.pair.okX
    (refine xone 10 (by kernel_rfl) (k3) (RunX.of 10 (by simp only [List.getElem?_toArray, List.getElem?_cons, reduceIte]; rfl) (by rfl) ?_))
    (refine wp_append_sl (α := Fr) (.tmp 79) (.tmp 84) rfl w0.heap.size (.slice oa on oc) O rfl ?_ (.slice a3 n3 c3) X.frames rfl ?_ ?_ ?_ ?_; exact S3.out.co.1; exact HR3.out; (first | omega | (simp; omega)); exact S3.out.ext.size; intro v2 W2 ho2 ha2)
    obtain ⟨ya, yn, yc, rfl⟩ := ho2.sh
    have h6 := HB3.out.off (off_apd (x := ⟨oa, on, oc⟩) (G := upd F 0 F3 2) ha2 (fun b hb => S3.out.co.2 b hb)) (HN3.out 0 2 (by omega)) (HN3.out 1 2 (by omega)) (HN3.out 2 2 (by omega))
    have S6 := Lib.hid (S3.out.put (y := ⟨ya, yn, yc⟩) ho2 ha2)
    have HG6 := Lib.hid (grows_apd (x := ⟨oa, on, oc⟩) (y := ⟨ya, yn, yc⟩) (G := upd F 0 F3 2) ha2 (fun b hb => S3.out.co.2 b hb))
    have k6 := (cells8t h6.1).1.1
    have e6 := cells8t h6.1
    obtain ⟨⟨x0, x1, x2, x3, x4, x5, x6, x7⟩, y0, y1, y2, y3, y4, y5, y6, y7⟩ := e6
    have HFL := Lib.hid hfl
    clear ho2 ha2 hbo hfl
    (try (simp only [Act.put, List.setIfInBounds_toArray, List.set]))
    (refine xone 12 (by kernel_rfl) (k6) (RunX.of 12 (by simp only [List.getElem?_toArray, List.getElem?_cons, reduceIte]; rfl) (by rfl) ?_))
    go_simp
    (try (simp only [Act.put, List.setIfInBounds_toArray, List.set]))
    (refine xone 13 (by kernel_rfl) (k6) (RunX.of 13 (by simp only [List.getElem?_toArray, List.getElem?_cons, reduceIte]; rfl) (by rfl) ?_))
    go_simp
    (try (simp only [Act.put, List.setIfInBounds_toArray, List.set]))
    have h7 := h6.set 2 (.slice ya yn yc)
    simp only [List.setIfInBounds_toArray, List.set_cons_succ, List.set_cons_zero] at h7
    have k7 := (cells8t h7.1).1.1
    (refine xdone (by kernel_rfl) (k7) ?_)
    have HB7 := Lib.hid h7
    have HN : Hid (∀ j, ¬ upd (upd F 0 F3) 2 (ob ⟨ya, yn, yc⟩) j (w.heap.size + 2)) := Lib.hid (nb_upd (fun j => HN3.out 2 j (Nat.le_refl _)) (by have := HB3.out.lt; omega) HG6.out)
    have S7 := Lib.hid (S6.out.box (off_set W2 ⟨w.heap.size, 2, none⟩ (.slice ya yn yc)) (nb_upd (b := w.heap.size) (fun j => HN3.out 0 j (by omega)) (by have := HB3.out.lt; omega) HG6.out) (by have := H.out.st.ext.size; omega))
    clear h6 h7 k6 k7 x0 x1 x2 x3 x4 x5 x6 x7 y0 y1 y2 y3 y4 y5 y6 y7 k1 k3 d0 d1 d2 d3 d4 d5 d6 d7 c0 c1
    have hc8 := (cells8t HB7.out.1).1
    obtain ⟨d0, d1, d2, d3, d4, d5, d6, d7⟩ := hc8
    have hz8 := cells8t HB7.out.2.2
    obtain ⟨⟨z0, z1, z2, z3, z4, z5, z6, z7⟩, y0, y1, y2, y3, y4, y5, y6, y7⟩ := hz8
    go_wp2
    clear z0 z1 z2 z3 z4 z5 z6 z7
    have hz := set8_blk HB7.out.2.2 (.pointer (some ⟨p, 0, none⟩)) (.pointer (some ⟨q, 0, none⟩)) (.slice ya yn yc) (.slice oa' on' oc') (.slice sa sn sc) (.slice sa' sn' sc') (.slice ga gn gc) (.slice ga' gn' gc')
    obtain ⟨z0, z1, z2, z3, z4, z5, z6, z7⟩ := (cells8t hz).1
    simp only [set8] at z0 z1 z2 z3 z4 z5 z6 z7
    refine bodyPost_ret (v := .agg #[.pointer (some ⟨p, 0, none⟩), .pointer (some ⟨q, 0, none⟩), .slice ya yn yc, .slice oa' on' oc', .slice sa sn sc, .slice sa' sn' sc', .slice ga gn gc, .slice ga' gn' gc']) (by simp [results, Try.results24, go_sem, z0, z1, z2, z3, z4, z5, z6, z7]) rfl ?_
    have hfin := (S7.out).box (off_set8 (W2.setCell ⟨w.heap.size, 2, none⟩ (.slice ya yn yc)) (w.heap.size + 2) (.pointer (some ⟨p, 0, none⟩)) (.pointer (some ⟨q, 0, none⟩)) (.slice ya yn yc) (.slice oa' on' oc') (.slice sa sn sc) (.slice sa' sn' sc') (.slice ga gn gc) (.slice ga' gn' gc')) HN.out HW0.out
    exact ⟨(⟨p, q, ⟨ya, yn, yc⟩, ⟨oa', on', oc'⟩, ⟨sa, sn, sc⟩, ⟨sa', sn', sc'⟩, ⟨ga, gn, gc⟩, ⟨ga', gn', gc'⟩⟩ : TV), rfl, GameX.id ⟨_, _, _, _, _, _, _, _, _, ⟨hfin, H.out.pair.out, H.out.fit.app (FitO.frames H.out.pair.okX), H.out.fit', Nat.le_succ_of_le H.out.bs, Nat.le_succ_of_le H.out.bs', by have := H.out.bo; have := HFL.out; rw [List.length_append]; omega, Nat.le_trans H.out.bo' (by omega), H.out.one, H.out.one'⟩⟩, rfl, rfl⟩
  · clear hb1
    go_simp
    refine (pOut S1.out.e).mono ?_
    rintro e w3 ⟨a3, n3, c3, F3, rfl, r3, _, t3, o3, g3⟩
    have hb3 := HB1.out.off o3 (HF.out 0 0) (HF.out 1 0) (HF.out 2 0)
    have k3 := (cells8t hb3.1).1.1
    have S3 := Lib.hid (S1.out.moves t3 o3 g3)
    have HN3 : Hid (∀ i j, i ≤ 2 → ¬ upd F 0 F3 j (w.heap.size + i)) := Lib.hid (fun i j hi => nb_upd (HF.out i) (by have := HB1.out.lt; omega) g3 j)
    have HR3 := Lib.hid r3
    have HB3 := Lib.hid hb3
    clear t3 o3 g3 r3 hb3
    dsimp only
    (try (simp only [Act.put, List.setIfInBounds_toArray, List.set]))
    have kO := (cells8t HB3.out.1).1.2.2.1
    (refine xone 4 (by kernel_rfl) (k3) (RunX.of 4 (by simp only [List.getElem?_toArray, List.getElem?_cons, reduceIte]; rfl) (by rfl) ?_))
    go_simp
    (try (simp only [Act.put, List.setIfInBounds_toArray, List.set]))
    clear kO
    have hbo := H.out.bo
    have hfl := EndS.frames_le H.out.pair.okX
    (refine xone 10 (by kernel_rfl) (k3) (RunX.of 10 (by simp only [List.getElem?_toArray, List.getElem?_cons, reduceIte]; rfl) (by rfl) ?_))
    (refine wp_append_sl (α := Fr) (.tmp 79) (.tmp 84) rfl w0.heap.size (.slice oa on oc) O rfl ?_ (.slice a3 n3 c3) X.frames rfl ?_ ?_ ?_ ?_; exact S3.out.co.1; exact HR3.out; (first | omega | (simp; omega)); exact S3.out.ext.size; intro v2 W2 ho2 ha2)
    obtain ⟨ya, yn, yc, rfl⟩ := ho2.sh
    have h6 := HB3.out.off (off_apd (x := ⟨oa, on, oc⟩) (G := upd F 0 F3 2) ha2 (fun b hb => S3.out.co.2 b hb)) (HN3.out 0 2 (by omega)) (HN3.out 1 2 (by omega)) (HN3.out 2 2 (by omega))
    have S6 := Lib.hid (S3.out.put (y := ⟨ya, yn, yc⟩) ho2 ha2)
    have HG6 := Lib.hid (grows_apd (x := ⟨oa, on, oc⟩) (y := ⟨ya, yn, yc⟩) (G := upd F 0 F3 2) ha2 (fun b hb => S3.out.co.2 b hb))
    have k6 := (cells8t h6.1).1.1
    have e6 := cells8t h6.1
    obtain ⟨⟨x0, x1, x2, x3, x4, x5, x6, x7⟩, y0, y1, y2, y3, y4, y5, y6, y7⟩ := e6
    have HFL := Lib.hid hfl
    clear ho2 ha2 hbo hfl
    (try (simp only [Act.put, List.setIfInBounds_toArray, List.set]))
    (refine xone 12 (by kernel_rfl) (k6) (RunX.of 12 (by simp only [List.getElem?_toArray, List.getElem?_cons, reduceIte]; rfl) (by rfl) ?_))
    go_simp
    (try (simp only [Act.put, List.setIfInBounds_toArray, List.set]))
    (refine xone 13 (by kernel_rfl) (k6) (RunX.of 13 (by simp only [List.getElem?_toArray, List.getElem?_cons, reduceIte]; rfl) (by rfl) ?_))
    go_simp
    (try (simp only [Act.put, List.setIfInBounds_toArray, List.set]))
    have h7 := h6.set 2 (.slice ya yn yc)
    simp only [List.setIfInBounds_toArray, List.set_cons_succ, List.set_cons_zero] at h7
    have k7 := (cells8t h7.1).1.1
    (refine xdone (by kernel_rfl) (k7) ?_)
    have HB7 := Lib.hid h7
    have HN : Hid (∀ j, ¬ upd (upd F 0 F3) 2 (ob ⟨ya, yn, yc⟩) j (w.heap.size + 2)) := Lib.hid (nb_upd (fun j => HN3.out 2 j (Nat.le_refl _)) (by have := HB3.out.lt; omega) HG6.out)
    have S7 := Lib.hid (S6.out.box (off_set W2 ⟨w.heap.size, 2, none⟩ (.slice ya yn yc)) (nb_upd (b := w.heap.size) (fun j => HN3.out 0 j (by omega)) (by have := HB3.out.lt; omega) HG6.out) (by have := H.out.st.ext.size; omega))
    clear h6 h7 k6 k7 x0 x1 x2 x3 x4 x5 x6 x7 y0 y1 y2 y3 y4 y5 y6 y7 k1 k3 d0 d1 d2 d3 d4 d5 d6 d7 c0 c1
    have hc8 := (cells8t HB7.out.1).1
    obtain ⟨d0, d1, d2, d3, d4, d5, d6, d7⟩ := hc8
    have hz8 := cells8t HB7.out.2.2
    obtain ⟨⟨z0, z1, z2, z3, z4, z5, z6, z7⟩, y0, y1, y2, y3, y4, y5, y6, y7⟩ := hz8
    go_wp2
    clear z0 z1 z2 z3 z4 z5 z6 z7
    have hz := set8_blk HB7.out.2.2 (.pointer (some ⟨p, 0, none⟩)) (.pointer (some ⟨q, 0, none⟩)) (.slice ya yn yc) (.slice oa' on' oc') (.slice sa sn sc) (.slice sa' sn' sc') (.slice ga gn gc) (.slice ga' gn' gc')
    obtain ⟨z0, z1, z2, z3, z4, z5, z6, z7⟩ := (cells8t hz).1
    simp only [set8] at z0 z1 z2 z3 z4 z5 z6 z7
    refine bodyPost_ret (v := .agg #[.pointer (some ⟨p, 0, none⟩), .pointer (some ⟨q, 0, none⟩), .slice ya yn yc, .slice oa' on' oc', .slice sa sn sc, .slice sa' sn' sc', .slice ga gn gc, .slice ga' gn' gc']) (by simp [results, Try.results24, go_sem, z0, z1, z2, z3, z4, z5, z6, z7]) rfl ?_
    have hfin := (S7.out).box (off_set8 (W2.setCell ⟨w.heap.size, 2, none⟩ (.slice ya yn yc)) (w.heap.size + 2) (.pointer (some ⟨p, 0, none⟩)) (.pointer (some ⟨q, 0, none⟩)) (.slice ya yn yc) (.slice oa' on' oc') (.slice sa sn sc) (.slice sa' sn' sc') (.slice ga gn gc) (.slice ga' gn' gc')) HN.out HW0.out
    exact ⟨(⟨p, q, ⟨ya, yn, yc⟩, ⟨oa', on', oc'⟩, ⟨sa, sn, sc⟩, ⟨sa', sn', sc'⟩, ⟨ga, gn, gc⟩, ⟨ga', gn', gc'⟩⟩ : TV), rfl, GameX.id ⟨_, _, _, _, _, _, _, _, _, ⟨hfin, H.out.pair.out, H.out.fit.app (FitO.frames H.out.pair.okX), H.out.fit', Nat.le_succ_of_le H.out.bs, Nat.le_succ_of_le H.out.bs', by have := H.out.bo; have := HFL.out; rw [List.length_append]; omega, Nat.le_trans H.out.bo' (by omega), H.out.one, H.out.one'⟩⟩, rfl, rfl⟩

set_option maxRecDepth 20000 in
set_option maxHeartbeats 8000000 in
theorem play0_neg (w0 w : World) (hs : Std w0) (fn K : Nat) (p q : Nat) (oa oa' sa sa' ga ga' : Option Addr) (on on' sn sn' gn gn' oc oc' sc sc' gc gc' : Nat) {X Y : EndS} {s g s' g' : List ByteArray} {O O' : List Fr} {F : Nat → Nat → Prop} (h : Game w0 w fn K (⟨p, q, ⟨oa, on, oc⟩, ⟨oa', on', oc'⟩, ⟨sa, sn, sc⟩, ⟨sa', sn', sc'⟩, ⟨ga, gn, gc⟩, ⟨ga', gn', gc'⟩⟩ : TV) X Y s g O s' g' O' F) (hK : K ≤ 900)
    (ak an : Int) (ax : ByteArray) (fk fe : Int) (fq fa : Nat) (fb : ByteArray) (h0 : ak ≠ 0) (h1 : ak ≠ 1) (h2 : ak ≠ 2) (hn : an < 0) :
    Calls Try.prog 24 #[.agg #[.pointer (some ⟨p, 0, none⟩), .pointer (some ⟨q, 0, none⟩), .slice oa on oc, .slice oa' on' oc', .slice sa sn sc, .slice sa' sn' sc', .slice ga gn gc, .slice ga' gn' gc'], .agg #[.int .i64 ak, .int .i64 an, .bool false, .string ax, .int .i64 fk, .int .i64 fe, .int .u64 (fq : Int), .int .u64 (fa : Int), .string fb]] w (PlayR w0 fn (K + 1) (⟨p, q, ⟨oa, on, oc⟩, ⟨oa', on', oc'⟩, ⟨sa, sn, sc⟩, ⟨sa', sn', sc'⟩, ⟨ga, gn, gc⟩, ⟨ga', gn', gc'⟩⟩ : TV)) := by
  have H := Lib.hid h
  have HST := Lib.hid hs
  have t0 : (ak == 0) = false := by simpa using h0
  have t1 : (ak == 1) = false := by simpa using h1
  have t2 : (ak == 2) = false := by simpa using h2
  have u1 : ¬ 0 ≤ an := by omega
  have HF : Hid (∀ j i, ¬ F i (w.heap.size + j)) := Lib.hid (fun j i hk => by have := (h.st.low i _ hk).2; omega)
  have HW0 : Hid (w0.heap.size ≤ w.heap.size + 2) := Lib.hid (by have := h.st.ext.size; omega)
  clear h hs
  go_enter Try.func24, Try.ntmps24
  go_wp2_with (first
    | (go_at_call 33; refine (side_any _ _ _ _ _ _ _ _ _ _).mono ?_; rintro e wa ⟨rfl, xa⟩; have HB := Lib.hid (b3_new w #[.pointer (some ⟨p, 0, none⟩), .pointer (some ⟨q, 0, none⟩), .slice oa on oc, .slice oa' on' oc', .slice sa sn sc, .slice sa' sn' sc', .slice ga gn gc, .slice ga' gn' gc'] #[.int .i64 ak, .int .i64 an, .bool false, .string ax, .int .i64 fk, .int .i64 fe, .int .u64 (fq : Int), .int .u64 (fa : Int), .string fb] #[.pointer none, .pointer none, .slice none 0 0, .slice none 0 0, .slice none 0 0, .slice none 0 0, .slice none 0 0, .slice none 0 0] xa); have HX := Lib.hid (Ext.trans ((((Ext.refl w).alloc _).alloc _).alloc _) xa); have hc := cells9t HB.out.2.1; obtain ⟨⟨c0, c1, _⟩, _⟩ := hc; have hd := cells8t HB.out.1; obtain ⟨⟨d0, d1, d2, d3, d4, d5, d6, d7⟩, _⟩ := hd; have hz8 := cells8t HB.out.2.2; obtain ⟨⟨z0, z1, z2, z3, z4, z5, z6, z7⟩, y0, y1, y2, y3, y4, y5, y6, y7⟩ := hz8; clear xa))
  have S1 := Lib.hid (H.out.st.more HX.out)
  have HN : Hid (∀ j, ¬ F j (w.heap.size + 2)) := Lib.hid (HF.out 2)
  clear d0 d1 d2 d3 d4 d5 d6 d7 z0 z1 z2 z3 z4 z5 z6 z7
  have hz := set8_blk HB.out.2.2 (.pointer (some ⟨p, 0, none⟩)) (.pointer (some ⟨q, 0, none⟩)) (.slice oa on oc) (.slice oa' on' oc') (.slice sa sn sc) (.slice sa' sn' sc') (.slice ga gn gc) (.slice ga' gn' gc')
  obtain ⟨z0, z1, z2, z3, z4, z5, z6, z7⟩ := (cells8t hz).1
  simp only [set8] at z0 z1 z2 z3 z4 z5 z6 z7
  refine bodyPost_ret (v := .agg #[.pointer (some ⟨p, 0, none⟩), .pointer (some ⟨q, 0, none⟩), .slice oa on oc, .slice oa' on' oc', .slice sa sn sc, .slice sa' sn' sc', .slice ga gn gc, .slice ga' gn' gc']) (by simp [results, Try.results24, go_sem, z0, z1, z2, z3, z4, z5, z6, z7]) rfl ?_
  have hfin := (S1.out).box (off_set8 wa (w.heap.size + 2) (.pointer (some ⟨p, 0, none⟩)) (.pointer (some ⟨q, 0, none⟩)) (.slice oa on oc) (.slice oa' on' oc') (.slice sa sn sc) (.slice sa' sn' sc') (.slice ga gn gc) (.slice ga' gn' gc')) HN.out HW0.out
  exact ⟨(⟨p, q, ⟨oa, on, oc⟩, ⟨oa', on', oc'⟩, ⟨sa, sn, sc⟩, ⟨sa', sn', sc'⟩, ⟨ga, gn, gc⟩, ⟨ga', gn', gc'⟩⟩ : TV), rfl, GameX.id ⟨_, _, _, _, _, _, _, _, _, ⟨hfin, H.out.pair, H.out.fit, H.out.fit', Nat.le_succ_of_le H.out.bs, Nat.le_succ_of_le H.out.bs', Nat.le_trans H.out.bo (by omega), Nat.le_trans H.out.bo' (by omega), H.out.one, H.out.one'⟩⟩, rfl, rfl⟩

set_option maxRecDepth 20000 in
set_option maxHeartbeats 8000000 in
theorem play0_far (w0 w : World) (hs : Std w0) (fn K : Nat) (p q : Nat) (oa oa' sa sa' ga ga' : Option Addr) (on on' sn sn' gn gn' oc oc' sc sc' gc gc' : Nat) {X Y : EndS} {s g s' g' : List ByteArray} {O O' : List Fr} {F : Nat → Nat → Prop} (h : Game w0 w fn K (⟨p, q, ⟨oa, on, oc⟩, ⟨oa', on', oc'⟩, ⟨sa, sn, sc⟩, ⟨sa', sn', sc'⟩, ⟨ga, gn, gc⟩, ⟨ga', gn', gc'⟩⟩ : TV) X Y s g O s' g' O' F) (hK : K ≤ 900)
    (ak an : Int) (ax : ByteArray) (fk fe : Int) (fq fa : Nat) (fb : ByteArray) (h0 : ak ≠ 0) (h1 : ak ≠ 1) (h2 : ak ≠ 2) (hn : 0 ≤ an) (hm : (on' : Int) ≤ an) :
    Calls Try.prog 24 #[.agg #[.pointer (some ⟨p, 0, none⟩), .pointer (some ⟨q, 0, none⟩), .slice oa on oc, .slice oa' on' oc', .slice sa sn sc, .slice sa' sn' sc', .slice ga gn gc, .slice ga' gn' gc'], .agg #[.int .i64 ak, .int .i64 an, .bool false, .string ax, .int .i64 fk, .int .i64 fe, .int .u64 (fq : Int), .int .u64 (fa : Int), .string fb]] w (PlayR w0 fn (K + 1) (⟨p, q, ⟨oa, on, oc⟩, ⟨oa', on', oc'⟩, ⟨sa, sn, sc⟩, ⟨sa', sn', sc'⟩, ⟨ga, gn, gc⟩, ⟨ga', gn', gc'⟩⟩ : TV)) := by
  have H := Lib.hid h
  have HST := Lib.hid hs
  have t0 : (ak == 0) = false := by simpa using h0
  have t1 : (ak == 1) = false := by simpa using h1
  have t2 : (ak == 2) = false := by simpa using h2
  have u1 : ¬ an < (on' : Int) := by omega
  have HF : Hid (∀ j i, ¬ F i (w.heap.size + j)) := Lib.hid (fun j i hk => by have := (h.st.low i _ hk).2; omega)
  have HW0 : Hid (w0.heap.size ≤ w.heap.size + 2) := Lib.hid (by have := h.st.ext.size; omega)
  clear h hs
  go_enter Try.func24, Try.ntmps24
  go_wp2_with (first
    | (go_at_call 33; refine (side_any _ _ _ _ _ _ _ _ _ _).mono ?_; rintro e wa ⟨rfl, xa⟩; have HB := Lib.hid (b3_new w #[.pointer (some ⟨p, 0, none⟩), .pointer (some ⟨q, 0, none⟩), .slice oa on oc, .slice oa' on' oc', .slice sa sn sc, .slice sa' sn' sc', .slice ga gn gc, .slice ga' gn' gc'] #[.int .i64 ak, .int .i64 an, .bool false, .string ax, .int .i64 fk, .int .i64 fe, .int .u64 (fq : Int), .int .u64 (fa : Int), .string fb] #[.pointer none, .pointer none, .slice none 0 0, .slice none 0 0, .slice none 0 0, .slice none 0 0, .slice none 0 0, .slice none 0 0] xa); have HX := Lib.hid (Ext.trans ((((Ext.refl w).alloc _).alloc _).alloc _) xa); have hc := cells9t HB.out.2.1; obtain ⟨⟨c0, c1, _⟩, _⟩ := hc; have hd := cells8t HB.out.1; obtain ⟨⟨d0, d1, d2, d3, d4, d5, d6, d7⟩, _⟩ := hd; have hz8 := cells8t HB.out.2.2; obtain ⟨⟨z0, z1, z2, z3, z4, z5, z6, z7⟩, y0, y1, y2, y3, y4, y5, y6, y7⟩ := hz8; clear xa))
  have S1 := Lib.hid (H.out.st.more HX.out)
  have HN : Hid (∀ j, ¬ F j (w.heap.size + 2)) := Lib.hid (HF.out 2)
  clear d0 d1 d2 d3 d4 d5 d6 d7 z0 z1 z2 z3 z4 z5 z6 z7
  have hz := set8_blk HB.out.2.2 (.pointer (some ⟨p, 0, none⟩)) (.pointer (some ⟨q, 0, none⟩)) (.slice oa on oc) (.slice oa' on' oc') (.slice sa sn sc) (.slice sa' sn' sc') (.slice ga gn gc) (.slice ga' gn' gc')
  obtain ⟨z0, z1, z2, z3, z4, z5, z6, z7⟩ := (cells8t hz).1
  simp only [set8] at z0 z1 z2 z3 z4 z5 z6 z7
  refine bodyPost_ret (v := .agg #[.pointer (some ⟨p, 0, none⟩), .pointer (some ⟨q, 0, none⟩), .slice oa on oc, .slice oa' on' oc', .slice sa sn sc, .slice sa' sn' sc', .slice ga gn gc, .slice ga' gn' gc']) (by simp [results, Try.results24, go_sem, z0, z1, z2, z3, z4, z5, z6, z7]) rfl ?_
  have hfin := (S1.out).box (off_set8 wa (w.heap.size + 2) (.pointer (some ⟨p, 0, none⟩)) (.pointer (some ⟨q, 0, none⟩)) (.slice oa on oc) (.slice oa' on' oc') (.slice sa sn sc) (.slice sa' sn' sc') (.slice ga gn gc) (.slice ga' gn' gc')) HN.out HW0.out
  exact ⟨(⟨p, q, ⟨oa, on, oc⟩, ⟨oa', on', oc'⟩, ⟨sa, sn, sc⟩, ⟨sa', sn', sc'⟩, ⟨ga, gn, gc⟩, ⟨ga', gn', gc'⟩⟩ : TV), rfl, GameX.id ⟨_, _, _, _, _, _, _, _, _, ⟨hfin, H.out.pair, H.out.fit, H.out.fit', Nat.le_succ_of_le H.out.bs, Nat.le_succ_of_le H.out.bs', Nat.le_trans H.out.bo (by omega), Nat.le_trans H.out.bo' (by omega), H.out.one, H.out.one'⟩⟩, rfl, rfl⟩

set_option maxRecDepth 20000 in
set_option maxHeartbeats 8000000 in
theorem play0_told (w0 w : World) (hs : Std w0) (fn K : Nat) (p q : Nat) (oa oa' sa sa' ga ga' : Option Addr) (on on' sn sn' gn gn' oc oc' sc sc' gc gc' : Nat) {X Y : EndS} {s g s' g' : List ByteArray} {O O' : List Fr} {F : Nat → Nat → Prop} (h : Game w0 w fn K (⟨p, q, ⟨oa, on, oc⟩, ⟨oa', on', oc'⟩, ⟨sa, sn, sc⟩, ⟨sa', sn', sc'⟩, ⟨ga, gn, gc⟩, ⟨ga', gn', gc'⟩⟩ : TV) X Y s g O s' g' O' F) (hK : K ≤ 900)
    (ak : Int) (ax : ByteArray) (fk fe : Int) (fq fa : Nat) (fb : ByteArray) (h0 : ak ≠ 0) (h1 : ak ≠ 1) (h2 : ak ≠ 2) (i : Nat) (hi : i < O'.length) (hT : X.told (O'.getD i Fr.zero) = true) :
    Calls Try.prog 24 #[.agg #[.pointer (some ⟨p, 0, none⟩), .pointer (some ⟨q, 0, none⟩), .slice oa on oc, .slice oa' on' oc', .slice sa sn sc, .slice sa' sn' sc', .slice ga gn gc, .slice ga' gn' gc'], .agg #[.int .i64 ak, .int .i64 (i : Int), .bool false, .string ax, .int .i64 fk, .int .i64 fe, .int .u64 (fq : Int), .int .u64 (fa : Int), .string fb]] w (PlayR w0 fn (K + 1) (⟨p, q, ⟨oa, on, oc⟩, ⟨oa', on', oc'⟩, ⟨sa, sn, sc⟩, ⟨sa', sn', sc'⟩, ⟨ga, gn, gc⟩, ⟨ga', gn', gc'⟩⟩ : TV)) := by
  have H := Lib.hid h
  have HST := Lib.hid hs
  have t0 : (ak == 0) = false := by simpa using h0
  have t1 : (ak == 1) = false := by simpa using h1
  have t2 : (ak == 2) = false := by simpa using h2
  have hon : on' = O'.length := by
    obtain ⟨a9, c9, h9⟩ := h.st.co'.1.sl.len
    unfold SV.v at h9
    simp only [Value.slice.injEq] at h9
    exact h9.2.1
  subst hon
  obtain ⟨b9, off9, hoa, _, hoc, hb9, hfr⟩ := Sl.frs_some (ao := oa') (n := O'.length) (c := oc') h.st.co'.1.sl (by omega)
  have hfi := h.fit' (O'.getD i Fr.zero) (by simp [hi])
  have HIN : Hid (O'.getD i Fr.zero ∈ O') := Lib.hid (by simp [hi])
  subst hoa
  have HFR := Lib.hid (hfr i hi)
  have HB9 : Hid (b9 < w.heap.size ∧ F 3 b9) := Lib.hid ⟨hb9, h.st.co'.2 b9 rfl⟩
  have hic : (i : Int) < (O'.length : Int) := by omega
  clear hfr hb9
  obtain ⟨f, hf⟩ : ∃ f, f = O'.getD i Fr.zero := ⟨_, rfl⟩
  rw [← hf] at hT hfi HIN HFR
  have hbody : X.body f = f.b := by unfold EndS.body; rw [hT]; rfl
  clear hf
  have HF : Hid (∀ j i, ¬ F i (w.heap.size + j)) := Lib.hid (fun j i hk => by have := (h.st.low i _ hk).2; omega)
  have HW0 : Hid (w0.heap.size ≤ w.heap.size + 2) := Lib.hid (by have := h.st.ext.size; omega)
  clear h hs
  go_enter Try.func24, Try.ntmps24
  go_wp2_with (first
    | (go_at_call 33; refine (side_any _ _ _ _ _ _ _ _ _ _).mono ?_; rintro e wa ⟨rfl, xa⟩; have HB := Lib.hid (b3_new w #[.pointer (some ⟨p, 0, none⟩), .pointer (some ⟨q, 0, none⟩), .slice oa on oc, .slice (some ⟨b9, off9, none⟩) O'.length oc', .slice sa sn sc, .slice sa' sn' sc', .slice ga gn gc, .slice ga' gn' gc'] #[.int .i64 ak, .int .i64 (i : Int), .bool false, .string ax, .int .i64 fk, .int .i64 fe, .int .u64 (fq : Int), .int .u64 (fa : Int), .string fb] #[.pointer none, .pointer none, .slice none 0 0, .slice none 0 0, .slice none 0 0, .slice none 0 0, .slice none 0 0, .slice none 0 0] xa); have HX := Lib.hid (Ext.trans ((((Ext.refl w).alloc _).alloc _).alloc _) xa); have hc := cells9t HB.out.2.1; obtain ⟨⟨c0, c1, _⟩, _⟩ := hc; have hd := cells8t HB.out.1; obtain ⟨⟨d0, d1, d2, d3, d4, d5, d6, d7⟩, _⟩ := hd; clear xa))
  (refine wp_region_X_lit (K := fun W => W.cell? ⟨w.heap.size, 0, none⟩ = some (.pointer (some ⟨p, 0, none⟩)) ∧ W.cell? ⟨w.heap.size + 1, 1, none⟩ = some (.int .i64 (i : Int)) ∧ FrAt W b9 (off9 + i * 5) f) (by kernel_rfl) (fun w1 hw1 => ?_))
  have hb1 := HB.out.ext hw1
  have x1 := Ext.trans HX.out hw1
  have k1 := And.intro (cells8t hb1.1).1.1 (And.intro (cells9t hb1.2.1).1.2.1 (HFR.out.ext (x1.mono HB9.out.1)))
  have S1 := Lib.hid (H.out.st.more x1)
  have hst := HST.out.ext S1.out.ext
  clear hw1 x1
  (refine xtakeV 0 (v := ?_) (by simp only [List.getElem?_toArray, List.getElem?_cons, reduceIte]; rfl) (by kernel_rfl) (by rfl) (fun w' hw' => ?_) ?_; rotate_left; focus (skip; go_simp; first | done | with_reducible rfl)); (simp only [Act.put, List.setIfInBounds_toArray, List.set])
  (refine xtakeV 1 (v := ?_) (by simp only [List.getElem?_toArray, List.getElem?_cons, reduceIte]; rfl) (by kernel_rfl) (by rfl) (fun w' hw' => ?_) ?_; rotate_left; focus (skip; go_simp; first | done | with_reducible rfl)); (simp only [Act.put, List.setIfInBounds_toArray, List.set])
  (refine xtakeV 2 (v := ?_) (by simp only [List.getElem?_toArray, List.getElem?_cons, reduceIte]; rfl) (by kernel_rfl) (by rfl) (fun w' hw' => ?_) ?_; rotate_left; focus (skip; go_simp; first | done | with_reducible rfl)); (simp only [Act.put, List.setIfInBounds_toArray, List.set])
  (refine xtakeV 3 (v := ?_) (by simp only [List.getElem?_toArray, List.getElem?_cons, reduceIte]; rfl) (by kernel_rfl) (by rfl) (fun w' hw' => ?_) ?_; rotate_left; focus (have hc := hw'.1; go_simp; first | done | with_reducible rfl)); (simp only [Act.put, List.setIfInBounds_toArray, List.set])
  (refine xtakeV 4 (v := ?_) (by simp only [List.getElem?_toArray, List.getElem?_cons, reduceIte]; rfl) (by kernel_rfl) (by rfl) (fun w' hw' => ?_) ?_; rotate_left; focus (skip; go_simp; first | done | with_reducible rfl)); (simp only [Act.put, List.setIfInBounds_toArray, List.set])
  (refine xtakeV 5 (v := ?_) (by simp only [List.getElem?_toArray, List.getElem?_cons, reduceIte]; rfl) (by kernel_rfl) (by rfl) (fun w' hw' => ?_) ?_; rotate_left; focus (skip; go_simp; first | done | with_reducible rfl)); (simp only [Act.put, List.setIfInBounds_toArray, List.set])
  (refine xtakeV 6 (v := ?_) (by simp only [List.getElem?_toArray, List.getElem?_cons, reduceIte]; rfl) (by kernel_rfl) (by rfl) (fun w' hw' => ?_) ?_; rotate_left; focus (have hc := hw'.2.1; go_simp; first | done | with_reducible rfl)); (simp only [Act.put, List.setIfInBounds_toArray, List.set])
  (refine xtakeV 7 (v := ?_) (by simp only [List.getElem?_toArray, List.getElem?_cons, reduceIte]; rfl) (by kernel_rfl) (by rfl) (fun w' hw' => ?_) ?_; rotate_left; focus (skip; go_simp; first | done | with_reducible rfl)); (simp only [Act.put, List.setIfInBounds_toArray, List.set])
  (refine xtakeV 8 (v := ?_) (by simp only [List.getElem?_toArray, List.getElem?_cons, reduceIte]; rfl) (by kernel_rfl) (by rfl) (fun w' hw' => ?_) ?_; rotate_left; focus (obtain ⟨q0, q1, q2, q3, q4⟩ := hw'.2.2; go_simp; first | done | with_reducible rfl)); (simp only [Act.put, List.setIfInBounds_toArray, List.set])
  (refine xone 9 (by kernel_rfl) (k1) (RunX.of 9 (by simp only [List.getElem?_toArray, List.getElem?_cons, reduceIte]; rfl) (by rfl) ?_))
  go_simp
  have cT := pTake hst S1.out.e f hfi.1 hfi.2.1 hfi.2.2
  rw [hT, hbody] at cT
  refine cT.mono ?_
  rintro e w3 ⟨F3, rfl, n3, o3, g3⟩
  have hb3 := hb1.off o3 (HF.out 0 0) (HF.out 1 0) (HF.out 2 0)
  have hfr3 : FrAt w3 b9 (off9 + i * 5) f := by
    have hq := o3.block b9 (by have := HB9.out.1; have := hb1.lt; omega) (fun h => by have := H.out.st.dis _ _ b9 h HB9.out.2; omega)
    obtain ⟨q0, q1, q2, q3, q4⟩ := k1.2.2
    exact ⟨(World.cell?_of_block (a := ⟨b9, _, none⟩) hq).trans q0, (World.cell?_of_block (a := ⟨b9, _, none⟩) hq).trans q1, (World.cell?_of_block (a := ⟨b9, _, none⟩) hq).trans q2, (World.cell?_of_block (a := ⟨b9, _, none⟩) hq).trans q3, (World.cell?_of_block (a := ⟨b9, _, none⟩) hq).trans q4⟩
  have k3 := And.intro (cells8t hb3.1).1.1 (And.intro (cells9t hb3.2.1).1.2.1 hfr3)
  have S3 := Lib.hid (S1.out.moves n3 o3 g3)
  have HN3 : Hid (∀ i j, i ≤ 2 → ¬ upd F 0 F3 j (w.heap.size + i)) := Lib.hid (fun i j hi => nb_upd (HF.out i) (by have := hb1.lt; omega) g3 j)
  clear n3 o3 g3 cT
  dsimp only
  (try (simp only [Act.put, List.setIfInBounds_toArray, List.set]))
  (refine xtakeV 10 (v := ?_) (by simp only [List.getElem?_toArray, List.getElem?_cons, reduceIte]; rfl) (by kernel_rfl) (by rfl) (fun w' hw' => ?_) ?_; rotate_left; focus (skip; go_simp; first | done | with_reducible rfl)); (simp only [Act.put, List.setIfInBounds_toArray, List.set])
  (refine xtakeV 11 (v := ?_) (by simp only [List.getElem?_toArray, List.getElem?_cons, reduceIte]; rfl) (by kernel_rfl) (by rfl) (fun w' hw' => ?_) ?_; rotate_left; focus (skip; go_simp; first | done | with_reducible rfl)); (simp only [Act.put, List.setIfInBounds_toArray, List.set])
  (refine xtakeV 12 (v := ?_) (by simp only [List.getElem?_toArray, List.getElem?_cons, reduceIte]; rfl) (by kernel_rfl) (by rfl) (fun w' hw' => ?_) ?_; rotate_left; focus (skip; go_simp; first | done | with_reducible rfl)); (simp only [Act.put, List.setIfInBounds_toArray, List.set])
  (refine xtakeV 13 (v := ?_) (by simp only [List.getElem?_toArray, List.getElem?_cons, reduceIte]; rfl) (by kernel_rfl) (by rfl) (fun w' hw' => ?_) ?_; rotate_left; focus (skip; go_simp; first | done | with_reducible rfl)); (simp only [Act.put, List.setIfInBounds_toArray, List.set])
  (refine xtakeV 14 (v := ?_) (by simp only [List.getElem?_toArray, List.getElem?_cons, reduceIte]; rfl) (by kernel_rfl) (by rfl) (fun w' hw' => ?_) ?_; rotate_left; focus (skip; go_simp; first | done | with_reducible rfl)); (simp only [Act.put, List.setIfInBounds_toArray, List.set])
  (refine xdone (by kernel_rfl) (k3) ?_)
  have HB3 := Lib.hid hb3
  have HT := Lib.hid hT
  clear hb3 hb1 k1 k3 hfr3 c0 c1 d0 d1 d2 d3 d4 d5 d6 d7 hT hbody hst hfi
  have hgl := H.out.pair.two.gle
  have hgs := H.out.bs'
  obtain ⟨⟨d0, d1, d2, d3, d4, d5, d6, d7⟩, _⟩ := cells8t HB3.out.1
  go_wp2_with (first
    | (at_builtin; go_loud (refine wpList_append_sl (α := ByteArray) rfl (.tmp 46) (.tmp 48) rfl w0.heap.size (.slice ga gn gc) g' rfl ?_ (.slice (some ⟨w3.heap.size, 0, none⟩) 1 1) [f.b] rfl ?_ ?_ ?_ ?_; exact (S3.out.cg.1.alloc _); exact (Sl.litAt w3 _ rfl [f.b] (show (1 : Nat) ≤ 1000000 by decide)); (first | omega | (simp; omega)); (have := S3.out.ext.size; rw [size_alloc]; omega); intro v2 W2 ho2 ha2; have S5 := Lib.hid (S3.out.more ((Ext.refl w3).alloc (.cells #[.string f.b] 9))); have hb5 := Lib.hid (HB3.out.ext ((Ext.refl w3).alloc (.cells #[.string f.b] 9))); obtain ⟨ya, yn, yc, rfl⟩ := ho2.sh; have h6 := hb5.out.off (off_apd (x := ⟨ga, gn, gc⟩) (G := upd F 0 F3 6) ha2 (fun b hb => S3.out.cg.2 b hb)) (HN3.out 0 6 (by omega)) (HN3.out 1 6 (by omega)) (HN3.out 2 6 (by omega)); have S6 := Lib.hid (S5.out.got (y := ⟨ya, yn, yc⟩) ho2 ha2); have HG6 := Lib.hid (grows_apd (x := ⟨ga, gn, gc⟩) (y := ⟨ya, yn, yc⟩) (G := upd F 0 F3 6) ha2 (fun b hb => S3.out.cg.2 b hb)); have HB6 := Lib.hid h6; have e6 := cells8t h6.1; obtain ⟨⟨x0, x1, x2, x3, x4, x5, x6, x7⟩, y0, y1, y2, y3, y4, y5, y6, y7⟩ := e6; have h7 := h6.set 6 (.slice ya yn yc); simp only [List.setIfInBounds_toArray, List.set_cons_succ, List.set_cons_zero] at h7; have HB7 := Lib.hid h7; obtain ⟨⟨s0, s1, s2, s3, s4, s5, s6, s7⟩, _⟩ := cells8t h7.1; obtain ⟨⟨z0, z1, z2, z3, z4, z5, z6, z7⟩, v0, v1, v2, v3, v4, v5, v6, v7⟩ := cells8t h7.2.2; clear ho2 ha2 h6 h7)))
  have HN : Hid (∀ j, ¬ upd (upd F 0 F3) 6 (ob ⟨ya, yn, yc⟩) j (w.heap.size + 2)) := Lib.hid (nb_upd (fun j => HN3.out 2 j (Nat.le_refl _)) (by rw [size_alloc]; have := HB3.out.lt; omega) HG6.out)
  have S7 := Lib.hid (S6.out.box (off_set W2 ⟨w.heap.size, 6, none⟩ (.slice ya yn yc)) (nb_upd (b := w.heap.size) (fun j => HN3.out 0 j (by omega)) (by rw [size_alloc]; have := HB3.out.lt; omega) HG6.out) (by have := H.out.st.ext.size; omega))
  have hP := (H.out.pair.swap.take HIN.out).swap
  rw [HT.out, if_pos rfl] at hP
  replace hP := Lib.hid hP
  clear s0 s1 s2 s3 s4 s5 s6 s7 z0 z1 z2 z3 z4 z5 z6 z7 x0 x1 x2 x3 x4 x5 x6 x7 y0 y1 y2 y3 y4 y5 y6 y7 d0 d1 d2 d3 d4 d5 d6 d7
  have hz := set8_blk HB7.out.2.2 (.pointer (some ⟨p, 0, none⟩)) (.pointer (some ⟨q, 0, none⟩)) (.slice oa on oc) (.slice (some ⟨b9, off9, none⟩) O'.length oc') (.slice sa sn sc) (.slice sa' sn' sc') (.slice ya yn yc) (.slice ga' gn' gc')
  obtain ⟨z0, z1, z2, z3, z4, z5, z6, z7⟩ := (cells8t hz).1
  simp only [set8] at z0 z1 z2 z3 z4 z5 z6 z7
  refine bodyPost_ret (v := .agg #[.pointer (some ⟨p, 0, none⟩), .pointer (some ⟨q, 0, none⟩), .slice oa on oc, .slice (some ⟨b9, off9, none⟩) O'.length oc', .slice sa sn sc, .slice sa' sn' sc', .slice ya yn yc, .slice ga' gn' gc']) (by simp [results, Try.results24, go_sem, z0, z1, z2, z3, z4, z5, z6, z7]) rfl ?_
  have hfin := (S7.out).box (off_set8 (W2.setCell ⟨w.heap.size, 6, none⟩ (.slice ya yn yc)) (w.heap.size + 2) (.pointer (some ⟨p, 0, none⟩)) (.pointer (some ⟨q, 0, none⟩)) (.slice oa on oc) (.slice (some ⟨b9, off9, none⟩) O'.length oc') (.slice sa sn sc) (.slice sa' sn' sc') (.slice ya yn yc) (.slice ga' gn' gc')) HN.out HW0.out
  exact ⟨(⟨p, q, ⟨oa, on, oc⟩, ⟨some ⟨b9, off9, none⟩, O'.length, oc'⟩, ⟨sa, sn, sc⟩, ⟨sa', sn', sc'⟩, ⟨ya, yn, yc⟩, ⟨ga', gn', gc'⟩⟩ : TV), rfl, GameX.id ⟨_, _, _, _, _, _, _, _, _, ⟨hfin, hP.out, H.out.fit, H.out.fit', Nat.le_succ_of_le H.out.bs, Nat.le_succ_of_le H.out.bs', Nat.le_trans H.out.bo (by omega), Nat.le_trans H.out.bo' (by omega), ((EndS.take_e _ _).1).trans H.out.one, H.out.one'⟩⟩, rfl, rfl⟩

set_option maxRecDepth 20000 in
set_option maxHeartbeats 8000000 in
theorem play0_old (w0 w : World) (hs : Std w0) (fn K : Nat) (p q : Nat) (oa oa' sa sa' ga ga' : Option Addr) (on on' sn sn' gn gn' oc oc' sc sc' gc gc' : Nat) {X Y : EndS} {s g s' g' : List ByteArray} {O O' : List Fr} {F : Nat → Nat → Prop} (h : Game w0 w fn K (⟨p, q, ⟨oa, on, oc⟩, ⟨oa', on', oc'⟩, ⟨sa, sn, sc⟩, ⟨sa', sn', sc'⟩, ⟨ga, gn, gc⟩, ⟨ga', gn', gc'⟩⟩ : TV) X Y s g O s' g' O' F) (hK : K ≤ 900)
    (ak : Int) (ax : ByteArray) (fk fe : Int) (fq fa : Nat) (fb : ByteArray) (h0 : ak ≠ 0) (h1 : ak ≠ 1) (h2 : ak ≠ 2) (i : Nat) (hi : i < O'.length) (hT : X.told (O'.getD i Fr.zero) = false) :
    Calls Try.prog 24 #[.agg #[.pointer (some ⟨p, 0, none⟩), .pointer (some ⟨q, 0, none⟩), .slice oa on oc, .slice oa' on' oc', .slice sa sn sc, .slice sa' sn' sc', .slice ga gn gc, .slice ga' gn' gc'], .agg #[.int .i64 ak, .int .i64 (i : Int), .bool false, .string ax, .int .i64 fk, .int .i64 fe, .int .u64 (fq : Int), .int .u64 (fa : Int), .string fb]] w (PlayR w0 fn (K + 1) (⟨p, q, ⟨oa, on, oc⟩, ⟨oa', on', oc'⟩, ⟨sa, sn, sc⟩, ⟨sa', sn', sc'⟩, ⟨ga, gn, gc⟩, ⟨ga', gn', gc'⟩⟩ : TV)) := by
  have H := Lib.hid h
  have HST := Lib.hid hs
  have t0 : (ak == 0) = false := by simpa using h0
  have t1 : (ak == 1) = false := by simpa using h1
  have t2 : (ak == 2) = false := by simpa using h2
  have hon : on' = O'.length := by
    obtain ⟨a9, c9, h9⟩ := h.st.co'.1.sl.len
    unfold SV.v at h9
    simp only [Value.slice.injEq] at h9
    exact h9.2.1
  subst hon
  obtain ⟨b9, off9, hoa, _, hoc, hb9, hfr⟩ := Sl.frs_some (ao := oa') (n := O'.length) (c := oc') h.st.co'.1.sl (by omega)
  have hfi := h.fit' (O'.getD i Fr.zero) (by simp [hi])
  have HIN : Hid (O'.getD i Fr.zero ∈ O') := Lib.hid (by simp [hi])
  subst hoa
  have HFR := Lib.hid (hfr i hi)
  have HB9 : Hid (b9 < w.heap.size ∧ F 3 b9) := Lib.hid ⟨hb9, h.st.co'.2 b9 rfl⟩
  have hic : (i : Int) < (O'.length : Int) := by omega
  clear hfr hb9
  obtain ⟨f, hf⟩ : ∃ f, f = O'.getD i Fr.zero := ⟨_, rfl⟩
  rw [← hf] at hT hfi HIN HFR
  have hbody : X.body f = ⟨#[]⟩ := by unfold EndS.body; rw [hT]; rfl
  clear hf
  have HF : Hid (∀ j i, ¬ F i (w.heap.size + j)) := Lib.hid (fun j i hk => by have := (h.st.low i _ hk).2; omega)
  have HW0 : Hid (w0.heap.size ≤ w.heap.size + 2) := Lib.hid (by have := h.st.ext.size; omega)
  clear h hs
  go_enter Try.func24, Try.ntmps24
  go_wp2_with (first
    | (go_at_call 33; refine (side_any _ _ _ _ _ _ _ _ _ _).mono ?_; rintro e wa ⟨rfl, xa⟩; have HB := Lib.hid (b3_new w #[.pointer (some ⟨p, 0, none⟩), .pointer (some ⟨q, 0, none⟩), .slice oa on oc, .slice (some ⟨b9, off9, none⟩) O'.length oc', .slice sa sn sc, .slice sa' sn' sc', .slice ga gn gc, .slice ga' gn' gc'] #[.int .i64 ak, .int .i64 (i : Int), .bool false, .string ax, .int .i64 fk, .int .i64 fe, .int .u64 (fq : Int), .int .u64 (fa : Int), .string fb] #[.pointer none, .pointer none, .slice none 0 0, .slice none 0 0, .slice none 0 0, .slice none 0 0, .slice none 0 0, .slice none 0 0] xa); have HX := Lib.hid (Ext.trans ((((Ext.refl w).alloc _).alloc _).alloc _) xa); have hc := cells9t HB.out.2.1; obtain ⟨⟨c0, c1, _⟩, _⟩ := hc; have hd := cells8t HB.out.1; obtain ⟨⟨d0, d1, d2, d3, d4, d5, d6, d7⟩, _⟩ := hd; clear xa))
  (refine wp_region_X_lit (K := fun W => W.cell? ⟨w.heap.size, 0, none⟩ = some (.pointer (some ⟨p, 0, none⟩)) ∧ W.cell? ⟨w.heap.size + 1, 1, none⟩ = some (.int .i64 (i : Int)) ∧ FrAt W b9 (off9 + i * 5) f) (by kernel_rfl) (fun w1 hw1 => ?_))
  have hb1 := HB.out.ext hw1
  have x1 := Ext.trans HX.out hw1
  have k1 := And.intro (cells8t hb1.1).1.1 (And.intro (cells9t hb1.2.1).1.2.1 (HFR.out.ext (x1.mono HB9.out.1)))
  have S1 := Lib.hid (H.out.st.more x1)
  have hst := HST.out.ext S1.out.ext
  clear hw1 x1
  (refine xtakeV 0 (v := ?_) (by simp only [List.getElem?_toArray, List.getElem?_cons, reduceIte]; rfl) (by kernel_rfl) (by rfl) (fun w' hw' => ?_) ?_; rotate_left; focus (skip; go_simp; first | done | with_reducible rfl)); (simp only [Act.put, List.setIfInBounds_toArray, List.set])
  (refine xtakeV 1 (v := ?_) (by simp only [List.getElem?_toArray, List.getElem?_cons, reduceIte]; rfl) (by kernel_rfl) (by rfl) (fun w' hw' => ?_) ?_; rotate_left; focus (skip; go_simp; first | done | with_reducible rfl)); (simp only [Act.put, List.setIfInBounds_toArray, List.set])
  (refine xtakeV 2 (v := ?_) (by simp only [List.getElem?_toArray, List.getElem?_cons, reduceIte]; rfl) (by kernel_rfl) (by rfl) (fun w' hw' => ?_) ?_; rotate_left; focus (skip; go_simp; first | done | with_reducible rfl)); (simp only [Act.put, List.setIfInBounds_toArray, List.set])
  (refine xtakeV 3 (v := ?_) (by simp only [List.getElem?_toArray, List.getElem?_cons, reduceIte]; rfl) (by kernel_rfl) (by rfl) (fun w' hw' => ?_) ?_; rotate_left; focus (have hc := hw'.1; go_simp; first | done | with_reducible rfl)); (simp only [Act.put, List.setIfInBounds_toArray, List.set])
  (refine xtakeV 4 (v := ?_) (by simp only [List.getElem?_toArray, List.getElem?_cons, reduceIte]; rfl) (by kernel_rfl) (by rfl) (fun w' hw' => ?_) ?_; rotate_left; focus (skip; go_simp; first | done | with_reducible rfl)); (simp only [Act.put, List.setIfInBounds_toArray, List.set])
  (refine xtakeV 5 (v := ?_) (by simp only [List.getElem?_toArray, List.getElem?_cons, reduceIte]; rfl) (by kernel_rfl) (by rfl) (fun w' hw' => ?_) ?_; rotate_left; focus (skip; go_simp; first | done | with_reducible rfl)); (simp only [Act.put, List.setIfInBounds_toArray, List.set])
  (refine xtakeV 6 (v := ?_) (by simp only [List.getElem?_toArray, List.getElem?_cons, reduceIte]; rfl) (by kernel_rfl) (by rfl) (fun w' hw' => ?_) ?_; rotate_left; focus (have hc := hw'.2.1; go_simp; first | done | with_reducible rfl)); (simp only [Act.put, List.setIfInBounds_toArray, List.set])
  (refine xtakeV 7 (v := ?_) (by simp only [List.getElem?_toArray, List.getElem?_cons, reduceIte]; rfl) (by kernel_rfl) (by rfl) (fun w' hw' => ?_) ?_; rotate_left; focus (skip; go_simp; first | done | with_reducible rfl)); (simp only [Act.put, List.setIfInBounds_toArray, List.set])
  (refine xtakeV 8 (v := ?_) (by simp only [List.getElem?_toArray, List.getElem?_cons, reduceIte]; rfl) (by kernel_rfl) (by rfl) (fun w' hw' => ?_) ?_; rotate_left; focus (obtain ⟨q0, q1, q2, q3, q4⟩ := hw'.2.2; go_simp; first | done | with_reducible rfl)); (simp only [Act.put, List.setIfInBounds_toArray, List.set])
  (refine xone 9 (by kernel_rfl) (k1) (RunX.of 9 (by simp only [List.getElem?_toArray, List.getElem?_cons, reduceIte]; rfl) (by rfl) ?_))
  go_simp
  have cT := pTake hst S1.out.e f hfi.1 hfi.2.1 hfi.2.2
  rw [hT, hbody] at cT
  refine cT.mono ?_
  rintro e w3 ⟨F3, rfl, n3, o3, g3⟩
  have hb3 := hb1.off o3 (HF.out 0 0) (HF.out 1 0) (HF.out 2 0)
  have hfr3 : FrAt w3 b9 (off9 + i * 5) f := by
    have hq := o3.block b9 (by have := HB9.out.1; have := hb1.lt; omega) (fun h => by have := H.out.st.dis _ _ b9 h HB9.out.2; omega)
    obtain ⟨q0, q1, q2, q3, q4⟩ := k1.2.2
    exact ⟨(World.cell?_of_block (a := ⟨b9, _, none⟩) hq).trans q0, (World.cell?_of_block (a := ⟨b9, _, none⟩) hq).trans q1, (World.cell?_of_block (a := ⟨b9, _, none⟩) hq).trans q2, (World.cell?_of_block (a := ⟨b9, _, none⟩) hq).trans q3, (World.cell?_of_block (a := ⟨b9, _, none⟩) hq).trans q4⟩
  have k3 := And.intro (cells8t hb3.1).1.1 (And.intro (cells9t hb3.2.1).1.2.1 hfr3)
  have S3 := Lib.hid (S1.out.moves n3 o3 g3)
  have HN3 : Hid (∀ i j, i ≤ 2 → ¬ upd F 0 F3 j (w.heap.size + i)) := Lib.hid (fun i j hi => nb_upd (HF.out i) (by have := hb1.lt; omega) g3 j)
  clear n3 o3 g3 cT
  dsimp only
  (try (simp only [Act.put, List.setIfInBounds_toArray, List.set]))
  (refine xtakeV 10 (v := ?_) (by simp only [List.getElem?_toArray, List.getElem?_cons, reduceIte]; rfl) (by kernel_rfl) (by rfl) (fun w' hw' => ?_) ?_; rotate_left; focus (skip; go_simp; first | done | with_reducible rfl)); (simp only [Act.put, List.setIfInBounds_toArray, List.set])
  (refine xtakeV 11 (v := ?_) (by simp only [List.getElem?_toArray, List.getElem?_cons, reduceIte]; rfl) (by kernel_rfl) (by rfl) (fun w' hw' => ?_) ?_; rotate_left; focus (skip; go_simp; first | done | with_reducible rfl)); (simp only [Act.put, List.setIfInBounds_toArray, List.set])
  (refine xtakeV 12 (v := ?_) (by simp only [List.getElem?_toArray, List.getElem?_cons, reduceIte]; rfl) (by kernel_rfl) (by rfl) (fun w' hw' => ?_) ?_; rotate_left; focus (skip; go_simp; first | done | with_reducible rfl)); (simp only [Act.put, List.setIfInBounds_toArray, List.set])
  (refine xtakeV 13 (v := ?_) (by simp only [List.getElem?_toArray, List.getElem?_cons, reduceIte]; rfl) (by kernel_rfl) (by rfl) (fun w' hw' => ?_) ?_; rotate_left; focus (skip; go_simp; first | done | with_reducible rfl)); (simp only [Act.put, List.setIfInBounds_toArray, List.set])
  (refine xtakeV 14 (v := ?_) (by simp only [List.getElem?_toArray, List.getElem?_cons, reduceIte]; rfl) (by kernel_rfl) (by rfl) (fun w' hw' => ?_) ?_; rotate_left; focus (skip; go_simp; first | done | with_reducible rfl)); (simp only [Act.put, List.setIfInBounds_toArray, List.set])
  (refine xdone (by kernel_rfl) (k3) ?_)
  have HB3 := Lib.hid hb3
  have HT := Lib.hid hT
  clear hb3 hb1 k1 k3 hfr3 c0 c1 d0 d1 d2 d3 d4 d5 d6 d7 hT hbody hst hfi
  have HN : Hid (∀ j, ¬ upd F 0 F3 j (w.heap.size + 2)) := Lib.hid (fun j => HN3.out 2 j (Nat.le_refl _))
  have hP := (H.out.pair.swap.take HIN.out).swap
  rw [HT.out, if_neg (by decide)] at hP
  replace hP := Lib.hid hP
  have hc8 := (cells8t HB3.out.1).1
  obtain ⟨d0, d1, d2, d3, d4, d5, d6, d7⟩ := hc8
  have hz8 := cells8t HB3.out.2.2
  obtain ⟨⟨z0, z1, z2, z3, z4, z5, z6, z7⟩, y0, y1, y2, y3, y4, y5, y6, y7⟩ := hz8
  go_wp2
  clear z0 z1 z2 z3 z4 z5 z6 z7
  have hz := set8_blk HB3.out.2.2 (.pointer (some ⟨p, 0, none⟩)) (.pointer (some ⟨q, 0, none⟩)) (.slice oa on oc) (.slice (some ⟨b9, off9, none⟩) O'.length oc') (.slice sa sn sc) (.slice sa' sn' sc') (.slice ga gn gc) (.slice ga' gn' gc')
  obtain ⟨z0, z1, z2, z3, z4, z5, z6, z7⟩ := (cells8t hz).1
  simp only [set8] at z0 z1 z2 z3 z4 z5 z6 z7
  refine bodyPost_ret (v := .agg #[.pointer (some ⟨p, 0, none⟩), .pointer (some ⟨q, 0, none⟩), .slice oa on oc, .slice (some ⟨b9, off9, none⟩) O'.length oc', .slice sa sn sc, .slice sa' sn' sc', .slice ga gn gc, .slice ga' gn' gc']) (by simp [results, Try.results24, go_sem, z0, z1, z2, z3, z4, z5, z6, z7]) rfl ?_
  have hfin := (S3.out).box (off_set8 w3 (w.heap.size + 2) (.pointer (some ⟨p, 0, none⟩)) (.pointer (some ⟨q, 0, none⟩)) (.slice oa on oc) (.slice (some ⟨b9, off9, none⟩) O'.length oc') (.slice sa sn sc) (.slice sa' sn' sc') (.slice ga gn gc) (.slice ga' gn' gc')) HN.out HW0.out
  exact ⟨(⟨p, q, ⟨oa, on, oc⟩, ⟨some ⟨b9, off9, none⟩, O'.length, oc'⟩, ⟨sa, sn, sc⟩, ⟨sa', sn', sc'⟩, ⟨ga, gn, gc⟩, ⟨ga', gn', gc'⟩⟩ : TV), rfl, GameX.id ⟨_, _, _, _, _, _, _, _, _, ⟨hfin, hP.out, H.out.fit, H.out.fit', Nat.le_succ_of_le H.out.bs, Nat.le_succ_of_le H.out.bs', Nat.le_trans H.out.bo (by omega), Nat.le_trans H.out.bo' (by omega), ((EndS.take_e _ _).1).trans H.out.one, H.out.one'⟩⟩, rfl, rfl⟩
end Go.Proofs.Ytefkjclkondmeaa
