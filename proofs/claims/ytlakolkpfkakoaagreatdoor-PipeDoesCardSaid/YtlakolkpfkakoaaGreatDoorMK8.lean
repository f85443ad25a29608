/- Links: the document's Take, whatever the frame; Same, Texts. -/
import Derived.Test.YtlakolkpfkakoaaGreatDoorMK2
import Derived.Test.YtlakolkpfkakoaaGreatDoorMKX
import Derived.Test.YtlakolkpfkakoaaGreatDoorMFE
namespace Go.Proofs.YtlakolkpfkakoaaGreatDoor
open Go.RowKit

theorem refTake_any (F : Nat → Prop) (w : World) (v : Value) (S : EndS) (ok : S.Ok) (h : REnd F w v S) (f : Fr) (ha : f.a < 18446744073709551616) :
    Calls Tryz.prog 54 #[v, .agg #[.int .i64 f.k, .int .i64 f.e, .int .u64 f.q, .int .u64 f.a, .string f.b]] w (TakesR F S f w) := by
  cases hg : S.good f
  · exact refTake_bad F w v S h f hg
  · by_cases hk : S.gone f.a = 0
    · exact refTake_zero F w v S ok h f ha hg hk
    · exact refTake_some F w v S ok h f ha hg (by omega)

set_option maxHeartbeats 1600000 in
theorem refTexts_any (w : World) (va vb : Value) (xs ys : List ByteArray) (hx : Sl w va xs) (hy : Sl w vb ys) :
    Calls Tryz.prog 22 #[va, vb] w fun ev w' => ev = .returned (.bool (decide (xs = ys))) ∧ Ext w w' := by
  have hlx := hx.length_le
  have hly := hy.length_le
  obtain ⟨ao, c, rfl⟩ := hx.len
  obtain ⟨bo, d, rfl⟩ := hy.len
  by_cases hl : xs.length = ys.length
  · have hb : ((xs.length : Int) != (ys.length : Int)) = false := by rw [bne_eq_false_iff_eq]; omega
    have HX := Lib.hid hx
    have HY := Lib.hid hy
    have HL := Lib.hid hl
    clear hx hy hl
    go_enter Tryz.func22, Tryz.ntmps22
    go_wp2
    go_loopw [5] (fun i wr => ∃ k : Nat, i = .int .i64 k ∧ k ≤ xs.length ∧ Hid (xs.take k = ys.take k) ∧ Hid (Ext w wr)) (fun i _ => xs.length - (intOf i).toNat)
    case atStart => exact ⟨0, rfl, Nat.zero_le _, Lib.hid rfl, Lib.hid (Ext.refl _)⟩
    case round =>
      obtain ⟨k, rfl, hk, HT, HW⟩ := hrel
      by_cases hlt : k < xs.length
      · have hlt2 : k < ys.length := by have := HL.out; omega
        rcases (HX.out.ext HW.out).texts with ⟨h0, _⟩ | ⟨b1, o1, c1, hv, q1, q2, q3, q4, q5⟩
        · rw [h0] at hlt; simp at hlt
        rcases (HY.out.ext HW.out).texts with ⟨h0, _⟩ | ⟨b2, o2, c2, hv2, p1, p2, p3, p4, p5⟩
        · rw [h0] at hlt2; simp at hlt2
        simp only [Value.slice.injEq] at hv hv2
        obtain ⟨rfl, _, rfl⟩ := hv
        obtain ⟨rfl, _, rfl⟩ := hv2
        have k1 := q5 k hlt
        have k2 := p5 k hlt2
        have t1 : xs.take (k + 1) = xs.take k ++ [xs.getD k ⟨#[]⟩] := by rw [List.take_succ_eq_append_getElem hlt]; simp [hlt]
        have t2 : ys.take (k + 1) = ys.take k ++ [ys.getD k ⟨#[]⟩] := by rw [List.take_succ_eq_append_getElem hlt2]; simp [hlt2]
        have g1 : xs[k]? = some (xs.getD k ⟨#[]⟩) := by simp [hlt]
        have g2 : ys[k]? = some (ys.getD k ⟨#[]⟩) := by simp [hlt2]
        obtain ⟨X, hX⟩ : ∃ X, X = xs.getD k ⟨#[]⟩ := ⟨_, rfl⟩
        obtain ⟨Y, hY⟩ : ∃ Y, Y = ys.getD k ⟨#[]⟩ := ⟨_, rfl⟩
        rw [← hX] at k1 t1 g1
        rw [← hY] at k2 t2 g2
        have T1 := Lib.hid t1
        have T2 := Lib.hid t2
        have G1 := Lib.hid g1
        have G2 := Lib.hid g2
        clear q5 p5 hX hY t1 t2 g1 g2
        have hkc : (k : Int) < (xs.length : Int) := by omega
        have hkd : (k : Int) < (ys.length : Int) := by omega
        have hn1 : IntKind.i64.wrap ((k : Int) + 1) = (k : Int) + 1 := wrapN _ (by omega) (by omega)
        have hy := HW.out
        have HK : Hid (∀ W, Ext wr W → W.cell? ⟨b1, o1 + k, none⟩ = some (.string X) ∧ W.cell? ⟨b2, o2 + k, none⟩ = some (.string Y)) := Lib.hid (fun W x => ⟨(x.cell (p := ⟨b1, o1 + k, none⟩) q3).trans k1, (x.cell (p := ⟨b2, o2 + k, none⟩) p3).trans k2⟩)
        clear k1 k2 q3 p3
        by_cases he : X = Y
        · subst he
          have hT2 : Hid (xs.take (k + 1) = ys.take (k + 1)) := Lib.hid (by rw [T1.out, T2.out, HT.out])
          have hne : (X.toList == X.toList) = true := beq_self_eq_true _
          go_wp2_with fail
          refine wp_region_M_lit (by kernel_rfl) ?_
          refine tv 0 (h := ?_)
          refine tv 1 (h := ?_)
          refine tv 2 (h := ?_)
          refine tv 3 (hv := by intro w' hw'; have hc := HK.out w' hw'; go_simp; first | done | with_reducible rfl) (h := ?_)
          refine tv 4 (h := ?_)
          refine tv 5 (h := ?_)
          refine tv 6 (h := ?_)
          refine tv 7 (hv := by intro w' hw'; have hc := HK.out w' hw'; go_simp; first | done | with_reducible rfl) (h := ?_)
          refine tv 8 (h := ?_)
          (refine doneM (by kernel_rfl) ?_; intro w' hw'; show _)
          have hy2 := Ext.trans hy hw'
          clear hw'
          go_wp2
          all_goals exact ⟨⟨k + 1, by go_num, hlt, hT2, Lib.hid hy2⟩, by simp [intOf]; omega⟩
        · have hne : (X.toList == Y.toList) = false := by rw [tl_eq]; exact decide_eq_false he
          have HNE := Lib.hid (show decide (xs = ys) = false from decide_eq_false (fun e => by
            have h1 := G1.out
            rw [e, G2.out, Option.some.injEq] at h1
            exact he h1.symm))
          clear he
          go_wp2_with fail
          refine wp_region_M_lit (by kernel_rfl) ?_
          refine tv 0 (h := ?_)
          refine tv 1 (h := ?_)
          refine tv 2 (h := ?_)
          refine tv 3 (hv := by intro w' hw'; have hc := HK.out w' hw'; go_simp; first | done | with_reducible rfl) (h := ?_)
          refine tv 4 (h := ?_)
          refine tv 5 (h := ?_)
          refine tv 6 (h := ?_)
          refine tv 7 (hv := by intro w' hw'; have hc := HK.out w' hw'; go_simp; first | done | with_reducible rfl) (h := ?_)
          refine tv 8 (h := ?_)
          (refine doneM (by kernel_rfl) ?_; intro w' hw'; show _)
          have hy2 := Ext.trans hy hw'
          clear hw'
          go_wp2
          all_goals go_ret
          all_goals exact ⟨by rw [HNE.out]; rfl, hy2⟩
      · have hkk : k = xs.length := by omega
        have hD := Lib.hid (show decide (xs = ys) = true from decide_eq_true (by
          have h1 := HT.out
          rw [hkk, List.take_length, HL.out, List.take_length] at h1
          exact h1))
        have hy := HW.out
        go_wp2
        go_ret
        exact ⟨by rw [hD.out]; rfl, hy⟩
  · have hb : ((xs.length : Int) != (ys.length : Int)) = true := bne_iff_ne.2 (by omega)
    have hD := Lib.hid (show decide (xs = ys) = false from decide_eq_false (fun e => hl (by rw [e])))
    clear hx hy hl
    go_enter Tryz.func22, Tryz.ntmps22
    go_wp2
    go_ret
    exact ⟨by rw [hD.out]; rfl, (by repeat (first | exact Ext.refl _ | assumption | refine Ext.alloc ?_ _ | refine Ext.drew ?_ | refine Ext.drewN ?_ _))⟩

end Go.Proofs.YtlakolkpfkakoaaGreatDoor
