/- Links: the document's Take, whatever the frame; Same, Texts. -/
import Derived.Test.YtefkjclkondmeaaK7
import Derived.Test.YtefkjclkondmeaaFE
namespace Go.Proofs.Ytefkjclkondmeaa
open Go.RowKit

theorem refTake_any (F : Nat → Prop) (w : World) (v : Value) (S : EndS) (ok : S.Ok) (h : REnd F w v S) (f : Fr) (ha : f.a < 18446744073709551616) :
    Calls Try.prog 21 #[v, .agg #[.int .i64 f.k, .int .i64 f.e, .int .u64 (f.q : Int), .int .u64 (f.a : Int), .string f.b]] w (TakesR F S f w) := by
  cases hg : S.good f
  · exact refTake_bad F w v S h f hg
  · by_cases hk : S.gone f.a = 0
    · exact refTake_zero F w v S ok h f ha hg hk
    · exact refTake_some F w v S ok h f ha hg (by omega)

theorem tl_beq (a b : ByteArray) : (a.toList == b.toList) = decide (a = b) := tl_eq a b

set_option maxHeartbeats 1600000 in
theorem refTexts_any (w : World) (va vb : Value) (xs ys : List ByteArray) (hx : Sl w va xs) (hy : Sl w vb ys) :
    Calls Try.prog 26 #[va, vb] w fun ev w' => ev = .returned (.bool (decide (xs = ys))) ∧ Ext w w' := by
  have hlx := hx.length_le
  have hly := hy.length_le
  obtain ⟨ao, c, rfl⟩ := hx.len
  obtain ⟨bo, d, rfl⟩ := hy.len
  by_cases hl : xs.length = ys.length
  · have hb : ((xs.length : Int) != (ys.length : Int)) = false := by rw [bne_eq_false_iff_eq]; omega
    have HX := Lib.hid hx
    have HY := Lib.hid hy
    have HL := Lib.hid hl
    clear hx hy hl
    go_enter Try.func26, Try.ntmps26
    go_wp2
    go_loopw [5] (fun i wr => ∃ k : Nat, i = .int .i64 (k : Int) ∧ k ≤ xs.length ∧ Hid (xs.take k = ys.take k) ∧ Hid (Ext w wr)) (fun i _ => xs.length - (intOf i).toNat)
    case atStart => exact ⟨0, rfl, Nat.zero_le _, Lib.hid rfl, Lib.hid (Ext.refl _)⟩
    case round =>
      obtain ⟨k, rfl, hk, HT, HW⟩ := hrel
      by_cases hlt : k < xs.length
      · have hlt2 : k < ys.length := by have := HL.out; omega
        rcases (HX.out.ext HW.out).texts with ⟨h0, _⟩ | ⟨b1, o1, c1, hv, q1, q2, q3, q4, q5⟩
        · rw [h0] at hlt; simp at hlt
        rcases (HY.out.ext HW.out).texts with ⟨h0, _⟩ | ⟨b2, o2, c2, hv2, p1, p2, p3, p4, p5⟩
        · rw [h0] at hlt2; simp at hlt2
        simp only [Value.slice.injEq] at hv hv2
        obtain ⟨rfl, _, rfl⟩ := hv
        obtain ⟨rfl, _, rfl⟩ := hv2
        have k1 := q5 k hlt
        have k2 := p5 k hlt2
        have t1 : xs.take (k + 1) = xs.take k ++ [xs.getD k ⟨#[]⟩] := by rw [List.take_succ_eq_append_getElem hlt]; simp [hlt]
        have t2 : ys.take (k + 1) = ys.take k ++ [ys.getD k ⟨#[]⟩] := by rw [List.take_succ_eq_append_getElem hlt2]; simp [hlt2]
        have g1 : xs[k]? = some (xs.getD k ⟨#[]⟩) := by simp [hlt]
        have g2 : ys[k]? = some (ys.getD k ⟨#[]⟩) := by simp [hlt2]
        obtain ⟨X, hX⟩ : ∃ X, X = xs.getD k ⟨#[]⟩ := ⟨_, rfl⟩
        obtain ⟨Y, hY⟩ : ∃ Y, Y = ys.getD k ⟨#[]⟩ := ⟨_, rfl⟩
        rw [← hX] at k1 t1 g1
        rw [← hY] at k2 t2 g2
        have T1 := Lib.hid t1
        have T2 := Lib.hid t2
        have G1 := Lib.hid g1
        have G2 := Lib.hid g2
        clear q5 p5 hX hY t1 t2 g1 g2
        have hkc : (k : Int) < (xs.length : Int) := by omega
        have hkd : (k : Int) < (ys.length : Int) := by omega
        have hn1 : IntKind.i64.wrap ((k : Int) + 1) = (k : Int) + 1 := wrapN _ (by omega) (by omega)
        have hy := HW.out
        have HK : Hid (∀ W, Ext wr W → W.cell? ⟨b1, o1 + k, none⟩ = some (.string X) ∧ W.cell? ⟨b2, o2 + k, none⟩ = some (.string Y)) := Lib.hid (fun W x => ⟨(x.cell (p := ⟨b1, o1 + k, none⟩) q3).trans k1, (x.cell (p := ⟨b2, o2 + k, none⟩) p3).trans k2⟩)
        clear k1 k2 q3 p3
        by_cases he : X = Y
        · subst he
          have hT2 : Hid (xs.take (k + 1) = ys.take (k + 1)) := Lib.hid (by rw [T1.out, T2.out, HT.out])
          have hne : (X.toList == X.toList) = true := beq_self_eq_true _
          go_wp2_with fail
          refine wp_region_M_lit (by kernel_rfl) ?_
          (refine takeV 0 (v := ?_) (by simp only [List.getElem?_toArray, List.getElem?_cons, reduceIte]; rfl) (by kernel_rfl) (by rfl) (fun w' hw' => ?_) ?_; rotate_left; focus (skip; go_simp; first | done | with_reducible rfl)); (simp only [Act.put, List.setIfInBounds_toArray, List.set])
          (refine takeV 1 (v := ?_) (by simp only [List.getElem?_toArray, List.getElem?_cons, reduceIte]; rfl) (by kernel_rfl) (by rfl) (fun w' hw' => ?_) ?_; rotate_left; focus (skip; go_simp; first | done | with_reducible rfl)); (simp only [Act.put, List.setIfInBounds_toArray, List.set])
          (refine takeV 2 (v := ?_) (by simp only [List.getElem?_toArray, List.getElem?_cons, reduceIte]; rfl) (by kernel_rfl) (by rfl) (fun w' hw' => ?_) ?_; rotate_left; focus (skip; go_simp; first | done | with_reducible rfl)); (simp only [Act.put, List.setIfInBounds_toArray, List.set])
          (refine takeV 3 (v := ?_) (by simp only [List.getElem?_toArray, List.getElem?_cons, reduceIte]; rfl) (by kernel_rfl) (by rfl) (fun w' hw' => ?_) ?_; rotate_left; focus (have hc := HK.out w' hw'; go_simp; first | done | with_reducible rfl)); (simp only [Act.put, List.setIfInBounds_toArray, List.set])
          (refine takeV 4 (v := ?_) (by simp only [List.getElem?_toArray, List.getElem?_cons, reduceIte]; rfl) (by kernel_rfl) (by rfl) (fun w' hw' => ?_) ?_; rotate_left; focus (skip; go_simp; first | done | with_reducible rfl)); (simp only [Act.put, List.setIfInBounds_toArray, List.set])
          (refine takeV 5 (v := ?_) (by simp only [List.getElem?_toArray, List.getElem?_cons, reduceIte]; rfl) (by kernel_rfl) (by rfl) (fun w' hw' => ?_) ?_; rotate_left; focus (skip; go_simp; first | done | with_reducible rfl)); (simp only [Act.put, List.setIfInBounds_toArray, List.set])
          (refine takeV 6 (v := ?_) (by simp only [List.getElem?_toArray, List.getElem?_cons, reduceIte]; rfl) (by kernel_rfl) (by rfl) (fun w' hw' => ?_) ?_; rotate_left; focus (skip; go_simp; first | done | with_reducible rfl)); (simp only [Act.put, List.setIfInBounds_toArray, List.set])
          (refine takeV 7 (v := ?_) (by simp only [List.getElem?_toArray, List.getElem?_cons, reduceIte]; rfl) (by kernel_rfl) (by rfl) (fun w' hw' => ?_) ?_; rotate_left; focus (have hc := HK.out w' hw'; go_simp; first | done | with_reducible rfl)); (simp only [Act.put, List.setIfInBounds_toArray, List.set])
          (refine takeV 8 (v := ?_) (by simp only [List.getElem?_toArray, List.getElem?_cons, reduceIte]; rfl) (by kernel_rfl) (by rfl) (fun w' hw' => ?_) ?_; rotate_left; focus (skip; go_simp; first | done | with_reducible rfl)); (simp only [Act.put, List.setIfInBounds_toArray, List.set])
          (refine doneM (by kernel_rfl) ?_; intro w' hw'; show _)
          have hy2 := Ext.trans hy hw'
          clear hw'
          go_wp2
          all_goals exact ⟨⟨k + 1, by go_num, hlt, hT2, Lib.hid hy2⟩, by simp [intOf]; omega⟩
        · have hne : (X.toList == Y.toList) = false := by rw [tl_eq]; exact decide_eq_false he
          have HNE := Lib.hid (show decide (xs = ys) = false from decide_eq_false (fun e => by
            have h1 := G1.out
            rw [e, G2.out, Option.some.injEq] at h1
            exact he h1.symm))
          clear he
          go_wp2_with fail
          refine wp_region_M_lit (by kernel_rfl) ?_
          (refine takeV 0 (v := ?_) (by simp only [List.getElem?_toArray, List.getElem?_cons, reduceIte]; rfl) (by kernel_rfl) (by rfl) (fun w' hw' => ?_) ?_; rotate_left; focus (skip; go_simp; first | done | with_reducible rfl)); (simp only [Act.put, List.setIfInBounds_toArray, List.set])
          (refine takeV 1 (v := ?_) (by simp only [List.getElem?_toArray, List.getElem?_cons, reduceIte]; rfl) (by kernel_rfl) (by rfl) (fun w' hw' => ?_) ?_; rotate_left; focus (skip; go_simp; first | done | with_reducible rfl)); (simp only [Act.put, List.setIfInBounds_toArray, List.set])
          (refine takeV 2 (v := ?_) (by simp only [List.getElem?_toArray, List.getElem?_cons, reduceIte]; rfl) (by kernel_rfl) (by rfl) (fun w' hw' => ?_) ?_; rotate_left; focus (skip; go_simp; first | done | with_reducible rfl)); (simp only [Act.put, List.setIfInBounds_toArray, List.set])
          (refine takeV 3 (v := ?_) (by simp only [List.getElem?_toArray, List.getElem?_cons, reduceIte]; rfl) (by kernel_rfl) (by rfl) (fun w' hw' => ?_) ?_; rotate_left; focus (have hc := HK.out w' hw'; go_simp; first | done | with_reducible rfl)); (simp only [Act.put, List.setIfInBounds_toArray, List.set])
          (refine takeV 4 (v := ?_) (by simp only [List.getElem?_toArray, List.getElem?_cons, reduceIte]; rfl) (by kernel_rfl) (by rfl) (fun w' hw' => ?_) ?_; rotate_left; focus (skip; go_simp; first | done | with_reducible rfl)); (simp only [Act.put, List.setIfInBounds_toArray, List.set])
          (refine takeV 5 (v := ?_) (by simp only [List.getElem?_toArray, List.getElem?_cons, reduceIte]; rfl) (by kernel_rfl) (by rfl) (fun w' hw' => ?_) ?_; rotate_left; focus (skip; go_simp; first | done | with_reducible rfl)); (simp only [Act.put, List.setIfInBounds_toArray, List.set])
          (refine takeV 6 (v := ?_) (by simp only [List.getElem?_toArray, List.getElem?_cons, reduceIte]; rfl) (by kernel_rfl) (by rfl) (fun w' hw' => ?_) ?_; rotate_left; focus (skip; go_simp; first | done | with_reducible rfl)); (simp only [Act.put, List.setIfInBounds_toArray, List.set])
          (refine takeV 7 (v := ?_) (by simp only [List.getElem?_toArray, List.getElem?_cons, reduceIte]; rfl) (by kernel_rfl) (by rfl) (fun w' hw' => ?_) ?_; rotate_left; focus (have hc := HK.out w' hw'; go_simp; first | done | with_reducible rfl)); (simp only [Act.put, List.setIfInBounds_toArray, List.set])
          (refine takeV 8 (v := ?_) (by simp only [List.getElem?_toArray, List.getElem?_cons, reduceIte]; rfl) (by kernel_rfl) (by rfl) (fun w' hw' => ?_) ?_; rotate_left; focus (skip; go_simp; first | done | with_reducible rfl)); (simp only [Act.put, List.setIfInBounds_toArray, List.set])
          (refine doneM (by kernel_rfl) ?_; intro w' hw'; show _)
          have hy2 := Ext.trans hy hw'
          clear hw'
          go_wp2
          all_goals go_ret
          all_goals exact ⟨by rw [HNE.out]; rfl, hy2⟩
      · have hkk : k = xs.length := by omega
        have hD := Lib.hid (show decide (xs = ys) = true from decide_eq_true (by
          have h1 := HT.out
          rw [hkk, List.take_length, HL.out, List.take_length] at h1
          exact h1))
        have hy := HW.out
        go_wp2
        go_ret
        exact ⟨by rw [hD.out]; rfl, hy⟩
  · have hb : ((xs.length : Int) != (ys.length : Int)) = true := bne_iff_ne.2 (by omega)
    have hD := Lib.hid (show decide (xs = ys) = false from decide_eq_false (fun e => hl (by rw [e])))
    clear hx hy hl
    go_enter Try.func26, Try.ntmps26
    go_wp2
    go_ret
    exact ⟨by rw [hD.out]; rfl, (by repeat (first | exact Ext.refl _ | assumption | refine Ext.alloc ?_ _ | refine Ext.drew ?_ | refine Ext.drewN ?_ _))⟩

theorem FrAt.ext {w w' : World} {b off : Nat} {f : Fr} (h : FrAt w b off f) (x : Below (b + 1) w w') : FrAt w' b off f := by
  obtain ⟨h0, h1, h2, h3, h4⟩ := h
  exact ⟨(x.cell (Nat.lt_succ_self _)).trans h0, (x.cell (Nat.lt_succ_self _)).trans h1, (x.cell (Nat.lt_succ_self _)).trans h2, (x.cell (Nat.lt_succ_self _)).trans h3, (x.cell (Nat.lt_succ_self _)).trans h4⟩

set_option maxHeartbeats 1600000 in
theorem refSame_any (w : World) (va vb : Value) (xs ys : List Fr) (hx : Sl w va xs) (hy : Sl w vb ys) :
    Calls Try.prog 17 #[va, vb] w fun ev w' => ev = .returned (.bool (decide (xs = ys))) ∧ Ext w w' := by
  have hlx := hx.length_le
  have hly := hy.length_le
  obtain ⟨ao, c, rfl⟩ := hx.len
  obtain ⟨bo, d, rfl⟩ := hy.len
  by_cases hl : xs.length = ys.length
  · have hb : ((xs.length : Int) != (ys.length : Int)) = false := by rw [bne_eq_false_iff_eq]; omega
    have HX := Lib.hid hx
    have HY := Lib.hid hy
    have HL := Lib.hid hl
    clear hx hy hl
    go_enter Try.func17, Try.ntmps17
    go_wp2
    go_loopw [5] (fun i wr => ∃ k : Nat, i = .int .i64 (k : Int) ∧ k ≤ xs.length ∧ Hid (xs.take k = ys.take k) ∧ Hid (Ext w wr)) (fun i _ => xs.length - (intOf i).toNat)
    case atStart => exact ⟨0, rfl, Nat.zero_le _, Lib.hid rfl, Lib.hid (Ext.refl _)⟩
    case round =>
      obtain ⟨k, rfl, hk, HT, HW⟩ := hrel
      by_cases hlt : k < xs.length
      · have hlt2 : k < ys.length := by have := HL.out; omega
        rcases (HX.out.ext HW.out).frs with ⟨h0, _⟩ | ⟨b1, o1, c1, hv, q1, q2, q3, q4, q5⟩
        · rw [h0] at hlt; simp at hlt
        rcases (HY.out.ext HW.out).frs with ⟨h0, _⟩ | ⟨b2, o2, c2, hv2, p1, p2, p3, p4, p5⟩
        · rw [h0] at hlt2; simp at hlt2
        simp only [Value.slice.injEq] at hv hv2
        obtain ⟨rfl, _, rfl⟩ := hv
        obtain ⟨rfl, _, rfl⟩ := hv2
        have k1 := q5 k hlt
        have k2 := p5 k hlt2
        have t1 : xs.take (k + 1) = xs.take k ++ [xs.getD k Fr.zero] := by rw [List.take_succ_eq_append_getElem hlt]; simp [hlt]
        have t2 : ys.take (k + 1) = ys.take k ++ [ys.getD k Fr.zero] := by rw [List.take_succ_eq_append_getElem hlt2]; simp [hlt2]
        have g1 : xs[k]? = some (xs.getD k Fr.zero) := by simp [hlt]
        have g2 : ys[k]? = some (ys.getD k Fr.zero) := by simp [hlt2]
        obtain ⟨X, hX⟩ : ∃ X, X = xs.getD k Fr.zero := ⟨_, rfl⟩
        obtain ⟨Y, hY⟩ : ∃ Y, Y = ys.getD k Fr.zero := ⟨_, rfl⟩
        rw [← hX] at k1 t1 g1
        rw [← hY] at k2 t2 g2
        have T1 := Lib.hid t1
        have T2 := Lib.hid t2
        have G1 := Lib.hid g1
        have G2 := Lib.hid g2
        clear q5 p5 hX hY t1 t2 g1 g2
        have hkc : (k : Int) < (xs.length : Int) := by omega
        have hkd : (k : Int) < (ys.length : Int) := by omega
        have hn1 : IntKind.i64.wrap ((k : Int) + 1) = (k : Int) + 1 := wrapN _ (by omega) (by omega)
        have hy := HW.out
        have HK : Hid (∀ W, Ext wr W → FrAt W b1 (o1 + k * 5) X ∧ FrAt W b2 (o2 + k * 5) Y) := Lib.hid (fun W x => ⟨k1.ext (x.mono q3), k2.ext (x.mono p3)⟩)
        clear k1 k2 q3 p3
        by_cases he : X = Y
        · subst he
          have hT2 : Hid (xs.take (k + 1) = ys.take (k + 1)) := Lib.hid (by rw [T1.out, T2.out, HT.out])
          have HE := Lib.hid (neq_f X X true (decide_eq_true rfl))
          go_wp2_with fail
          refine wp_region_M_lit (by kernel_rfl) ?_
          (refine takeV 0 (v := ?_) (by simp only [List.getElem?_toArray, List.getElem?_cons, reduceIte]; rfl) (by kernel_rfl) (by rfl) (fun w' hw' => ?_) ?_; rotate_left; focus (skip; go_simp; first | done | with_reducible rfl)); (simp only [Act.put, List.setIfInBounds_toArray, List.set])
          (refine takeV 1 (v := ?_) (by simp only [List.getElem?_toArray, List.getElem?_cons, reduceIte]; rfl) (by kernel_rfl) (by rfl) (fun w' hw' => ?_) ?_; rotate_left; focus (skip; go_simp; first | done | with_reducible rfl)); (simp only [Act.put, List.setIfInBounds_toArray, List.set])
          (refine takeV 2 (v := ?_) (by simp only [List.getElem?_toArray, List.getElem?_cons, reduceIte]; rfl) (by kernel_rfl) (by rfl) (fun w' hw' => ?_) ?_; rotate_left; focus (skip; go_simp; first | done | with_reducible rfl)); (simp only [Act.put, List.setIfInBounds_toArray, List.set])
          (refine takeV 3 (v := ?_) (by simp only [List.getElem?_toArray, List.getElem?_cons, reduceIte]; rfl) (by kernel_rfl) (by rfl) (fun w' hw' => ?_) ?_; rotate_left; focus (obtain ⟨⟨c0, c1', c2', c3', c4'⟩, ⟨d0, d1, d2, d3, d4⟩⟩ := HK.out w' hw'; go_simp; first | done | with_reducible rfl)); (simp only [Act.put, List.setIfInBounds_toArray, List.set])
          (refine takeV 4 (v := ?_) (by simp only [List.getElem?_toArray, List.getElem?_cons, reduceIte]; rfl) (by kernel_rfl) (by rfl) (fun w' hw' => ?_) ?_; rotate_left; focus (skip; go_simp; first | done | with_reducible rfl)); (simp only [Act.put, List.setIfInBounds_toArray, List.set])
          (refine takeV 5 (v := ?_) (by simp only [List.getElem?_toArray, List.getElem?_cons, reduceIte]; rfl) (by kernel_rfl) (by rfl) (fun w' hw' => ?_) ?_; rotate_left; focus (skip; go_simp; first | done | with_reducible rfl)); (simp only [Act.put, List.setIfInBounds_toArray, List.set])
          (refine takeV 6 (v := ?_) (by simp only [List.getElem?_toArray, List.getElem?_cons, reduceIte]; rfl) (by kernel_rfl) (by rfl) (fun w' hw' => ?_) ?_; rotate_left; focus (skip; go_simp; first | done | with_reducible rfl)); (simp only [Act.put, List.setIfInBounds_toArray, List.set])
          (refine takeV 7 (v := ?_) (by simp only [List.getElem?_toArray, List.getElem?_cons, reduceIte]; rfl) (by kernel_rfl) (by rfl) (fun w' hw' => ?_) ?_; rotate_left; focus (obtain ⟨⟨c0, c1', c2', c3', c4'⟩, ⟨d0, d1, d2, d3, d4⟩⟩ := HK.out w' hw'; go_simp; first | done | with_reducible rfl)); (simp only [Act.put, List.setIfInBounds_toArray, List.set])
          (refine takeV 8 (v := ?_) (by simp only [List.getElem?_toArray, List.getElem?_cons, reduceIte]; rfl) (by kernel_rfl) (by rfl) (fun w' hw' => ?_) ?_; rotate_left; focus (have hc := HE.out.1; have hc2 := HE.out.2; go_simp; first | done | with_reducible rfl)); (simp only [Act.put, List.setIfInBounds_toArray, List.set])
          (refine doneM (by kernel_rfl) ?_; intro w' hw'; show _)
          have hy2 := Ext.trans hy hw'
          clear hw'
          go_wp2
          all_goals exact ⟨⟨k + 1, by go_num, hlt, hT2, Lib.hid hy2⟩, by simp [intOf]; omega⟩
        · have HE := Lib.hid (neq_f X Y false (decide_eq_false he))
          have HNE := Lib.hid (show decide (xs = ys) = false from decide_eq_false (fun e => by
            have h1 := G1.out
            rw [e, G2.out, Option.some.injEq] at h1
            exact he h1.symm))
          clear he
          go_wp2_with fail
          refine wp_region_M_lit (by kernel_rfl) ?_
          (refine takeV 0 (v := ?_) (by simp only [List.getElem?_toArray, List.getElem?_cons, reduceIte]; rfl) (by kernel_rfl) (by rfl) (fun w' hw' => ?_) ?_; rotate_left; focus (skip; go_simp; first | done | with_reducible rfl)); (simp only [Act.put, List.setIfInBounds_toArray, List.set])
          (refine takeV 1 (v := ?_) (by simp only [List.getElem?_toArray, List.getElem?_cons, reduceIte]; rfl) (by kernel_rfl) (by rfl) (fun w' hw' => ?_) ?_; rotate_left; focus (skip; go_simp; first | done | with_reducible rfl)); (simp only [Act.put, List.setIfInBounds_toArray, List.set])
          (refine takeV 2 (v := ?_) (by simp only [List.getElem?_toArray, List.getElem?_cons, reduceIte]; rfl) (by kernel_rfl) (by rfl) (fun w' hw' => ?_) ?_; rotate_left; focus (skip; go_simp; first | done | with_reducible rfl)); (simp only [Act.put, List.setIfInBounds_toArray, List.set])
          (refine takeV 3 (v := ?_) (by simp only [List.getElem?_toArray, List.getElem?_cons, reduceIte]; rfl) (by kernel_rfl) (by rfl) (fun w' hw' => ?_) ?_; rotate_left; focus (obtain ⟨⟨c0, c1', c2', c3', c4'⟩, ⟨d0, d1, d2, d3, d4⟩⟩ := HK.out w' hw'; go_simp; first | done | with_reducible rfl)); (simp only [Act.put, List.setIfInBounds_toArray, List.set])
          (refine takeV 4 (v := ?_) (by simp only [List.getElem?_toArray, List.getElem?_cons, reduceIte]; rfl) (by kernel_rfl) (by rfl) (fun w' hw' => ?_) ?_; rotate_left; focus (skip; go_simp; first | done | with_reducible rfl)); (simp only [Act.put, List.setIfInBounds_toArray, List.set])
          (refine takeV 5 (v := ?_) (by simp only [List.getElem?_toArray, List.getElem?_cons, reduceIte]; rfl) (by kernel_rfl) (by rfl) (fun w' hw' => ?_) ?_; rotate_left; focus (skip; go_simp; first | done | with_reducible rfl)); (simp only [Act.put, List.setIfInBounds_toArray, List.set])
          (refine takeV 6 (v := ?_) (by simp only [List.getElem?_toArray, List.getElem?_cons, reduceIte]; rfl) (by kernel_rfl) (by rfl) (fun w' hw' => ?_) ?_; rotate_left; focus (skip; go_simp; first | done | with_reducible rfl)); (simp only [Act.put, List.setIfInBounds_toArray, List.set])
          (refine takeV 7 (v := ?_) (by simp only [List.getElem?_toArray, List.getElem?_cons, reduceIte]; rfl) (by kernel_rfl) (by rfl) (fun w' hw' => ?_) ?_; rotate_left; focus (obtain ⟨⟨c0, c1', c2', c3', c4'⟩, ⟨d0, d1, d2, d3, d4⟩⟩ := HK.out w' hw'; go_simp; first | done | with_reducible rfl)); (simp only [Act.put, List.setIfInBounds_toArray, List.set])
          (refine takeV 8 (v := ?_) (by simp only [List.getElem?_toArray, List.getElem?_cons, reduceIte]; rfl) (by kernel_rfl) (by rfl) (fun w' hw' => ?_) ?_; rotate_left; focus (have hc := HE.out.1; have hc2 := HE.out.2; go_simp; first | done | with_reducible rfl)); (simp only [Act.put, List.setIfInBounds_toArray, List.set])
          (refine doneM (by kernel_rfl) ?_; intro w' hw'; show _)
          have hy2 := Ext.trans hy hw'
          clear hw'
          go_wp2
          all_goals go_ret
          all_goals exact ⟨by rw [HNE.out]; rfl, hy2⟩
      · have hkk : k = xs.length := by omega
        have hD := Lib.hid (show decide (xs = ys) = true from decide_eq_true (by
          have h1 := HT.out
          rw [hkk, List.take_length, HL.out, List.take_length] at h1
          exact h1))
        have hy := HW.out
        go_wp2
        go_ret
        exact ⟨by rw [hD.out]; rfl, hy⟩
  · have hb : ((xs.length : Int) != (ys.length : Int)) = true := bne_iff_ne.2 (by omega)
    have hD := Lib.hid (show decide (xs = ys) = false from decide_eq_false (fun e => hl (by rw [e])))
    clear hx hy hl
    go_enter Try.func17, Try.ntmps17
    go_wp2
    go_ret
    exact ⟨by rw [hD.out]; rfl, (by repeat (first | exact Ext.refl _ | assumption | refine Ext.alloc ?_ _ | refine Ext.drew ?_ | refine Ext.drewN ?_ _))⟩
end Go.Proofs.Ytefkjclkondmeaa
