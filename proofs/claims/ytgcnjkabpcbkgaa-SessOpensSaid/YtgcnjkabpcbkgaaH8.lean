/- Layer 17, the document's answers: Grant. -/
import Derived.Test.YtgcnjkabpcbkgaaH7
import Derived.Test.YtgcnjkabpcbkgaaWR
namespace Go.Proofs.Ytgcnjkabpcbkgaa
open Go.RowKit

theorem set0 {α : Type} (a b : α) (l : List α) : (a :: l).set 0 b = b :: l := rfl
/-- a call's own row that isn't empty: its block, its first element's cells, and what a store to one of these makes -/
theorem Ow.first {w : World} {B : Nat} {ao : Option Addr} {m c : Nat} {xs : List HV} {x : HV} (h : Ow w B (.slice ao m c) xs) (hx : xs[0]? = some x) :
    ∃ g, ao = some ⟨g, 0, none⟩ ∧ B ≤ g ∧ g < w.heap.size ∧ m = xs.length ∧ 0 < m ∧ m ≤ c ∧ c ≤ 9223372036854775807 ∧ (∀ i u, (Elem.enc x)[i]? = some u → w.cell? ⟨g, i, none⟩ = some u) ∧ (∀ i, i < 4 → w.frozen? ⟨g, i, none⟩ = false) ∧
      ∀ i u (x' : HV), i < 4 → Elem.enc x' = (Elem.enc x).set i u → Ow (w.setCell ⟨g, i, none⟩ u) B (.slice ao m c) (xs.set 0 x') := by
  have hk := (List.getElem?_eq_some_iff.1 hx).1
  rcases h.sl.parts with ⟨e, _⟩ | ⟨b, off, c', hv, h1, h2, h3, h4, h5⟩
  · rw [e] at hk; exact absurd hk (Nat.not_lt_zero _)
  · simp only [Value.slice.injEq] at hv
    obtain ⟨rfl, rfl, rfl⟩ := hv
    have q : ∀ i (u : Value) (x' : HV), i < 4 → Elem.enc x' = (Elem.enc x).set i u → _ := fun i u x' hi he => h.setCell1 (k := 0) (i := i) (x := x) (x' := x') (u := u) hx hi he
    have hoff : off = 0 := (q 0 (.int .i64 x.id) x (by decide) rfl).1
    subst hoff
    have hlow := h.low b rfl
    refine ⟨b, rfl, hlow.1, hlow.2, rfl, hk, h1, h2, fun i u hu => ?_, fun i hi => ?_, fun i u x' hi he => ?_⟩
    · have := h5 0 x hx i u hu
      rwa [show 0 + (0 * Elem.k HV + i) = i from by omega] at this
    · have hu : ∃ u, (Elem.enc x).set i u = Elem.enc x := ⟨(Elem.enc x).getD i undef, by
        rcases (show i = 0 ∨ i = 1 ∨ i = 2 ∨ i = 3 by omega) with rfl | rfl | rfl | rfl <;> rfl⟩
      obtain ⟨u, hu⟩ := hu
      have := (q i u x hi hu.symm).2.2.1
      rwa [show 0 + 0 * Elem.k HV + i = i from by omega] at this
    · have := (q i u x' hi he).2.2.2
      rwa [show 0 + 0 * Elem.k HV + i = i from by omega] at this

set_option maxRecDepth 100000 in
set_option maxHeartbeats 8000000 in
theorem refGrant_any (F : Nat → Prop) (w : World) (n : Int) (v : Value) (L : List Se) (h : Ns HV F w v L) (hl : L.length ≤ 1000) (hF : ∀ b, F b → b < w.heap.size) :
    Calls Try.prog 30 #[.agg #[.int .i64 n, v]] w (GivesBkN F w (grantH (n, L))) := by
  obtain ⟨ao, c, rfl⟩ := h.len
  obtain ⟨W0, hW0⟩ : ∃ W0, W0 = (w.alloc (.cells #[.int .i64 n, .slice ao L.length c] 24)).alloc (.cells #[.int .i64 0, .slice none 0 0] 24) := ⟨_, rfl⟩
  have X0 : Hid (Ext w W0) := Lib.hid (hW0 ▸ ((Ext.refl w).alloc _).alloc _)
  have B0 : Hid (W0.heap[w.heap.size]? = some (.cells #[.int .i64 n, .slice ao L.length c] 24 (0, 0))) := Lib.hid (hW0 ▸ old1 (at0 w _) _)
  have R0 : Hid (W0.heap[w.heap.size + 1]? = some (.cells #[.int .i64 0, .slice none 0 0] 24 (0, 0))) := Lib.hid (hW0 ▸ at1 w _ _)
  have HZ0 : Hid (W0.heap.size = w.heap.size + 2) := Lib.hid (by rw [hW0, size_alloc, size_alloc])
  have HW0 := Lib.hid hW0
  have HS := Lib.hid ((ns_orB h 2).ext X0.out)
  have HFB : Hid (∀ V, Ext W0 V → ∀ b, OrB F w 2 b → b < V.heap.size) := Lib.hid fun V hV b hb => by
    have h1 := Below.size hV
    have h2 := HZ0.out
    rcases hb with hb | hb
    · have := hF b hb; omega
    · have := hb.2; omega
  have HK : Hid (∀ V, Ext W0 V → V.cell? ⟨w.heap.size, 0, none⟩ = some (.int .i64 n) ∧ V.cell? ⟨w.heap.size, 1, none⟩ = some (.slice ao L.length c)) := Lib.hid fun V hV => ⟨blk_cell (keepU B0.out hV) 0 rfl, blk_cell (keepU B0.out hV) 1 rfl⟩
  have RK : Hid (∀ V, Ext W0 V → V.heap[w.heap.size + 1]? = some (.cells #[.int .i64 0, .slice none 0 0] 24 (0, 0))) := Lib.hid fun V hV => keepU R0.out hV
  clear hW0
  obtain ⟨t, ht⟩ : ∃ t, chkH (n, L) = t := ⟨_, rfl⟩
  have HCK : Hid (Calls Try.prog 17 #[.agg #[.int .i64 n, .slice ao L.length c]] W0 fun e w' => e = .returned (.bool t) ∧ Ext W0 w') := Lib.hid (refBkCheck_any _ W0 n _ L HS.out t ht)
  have hcell := HK.out W0 (Ext.refl _)
  obtain ⟨k0, k1⟩ := hcell
  clear h
  cases t
  · have HR : Hid (grantH (n, L) = (noH, 0, 170)) := Lib.hid (by unfold grantH; rw [if_neg (by rw [ht]; exact Bool.false_ne_true)])
    clear ht
    go_enter Try.func30, Try.ntmps30
    go_upto_region 1 with (fail)
    rw [← HW0.out]
    go_wp2_with (first
      | (go_at_call 17; refine (HCK.out).mono ?_; rintro e w2 ⟨rfl, x2⟩; have X2 : Hid (Ext W0 w2) := Lib.hid x2; clear x2 k0 k1; obtain ⟨d0, d1⟩ := HK.out w2 X2.out)
      | refine haltst 24 ?_)
    refine .inl ?_
    refine st_l 24 (.tmp 2) (.tmp 9) (w.heap.size + 1) 0 24 _ #[.int .i64 0, .slice none 0 0] _ rfl rfl (RK.out _ X2.out) (by kernel_rfl) (by simp) rfl rfl ?_
    intro W9 hW9 o9
    simp only [Act.put]
    go_wp2
    exact bodyPost_ret (v := .tuple #[.agg #[.int .i64 0, .slice none 0 0], .int .i64 0, .int .i64 170]) (res_ctt 3 4 rfl rfl hW9 uBook (by kernel_rfl)) rfl (givesBkN_no HR.out (ext_off (X0.out.trans X2.out) o9 (fun b hb => by omega)))
  by_cases hL : L = []
  · have HR : Hid (grantH (n, L) = (noH, 0, 175)) := Lib.hid (by unfold grantH; rw [if_pos ht]; dsimp only; rw [hL])
    have hd : ((L.length : Int) == 0) = true := by rw [hL]; rfl
    clear ht hL
    go_enter Try.func30, Try.ntmps30
    go_upto_region 1 with (fail)
    rw [← HW0.out]
    go_wp2_with (first
      | (go_at_call 17; refine (HCK.out).mono ?_; rintro e w2 ⟨rfl, x2⟩; have X2 : Hid (Ext W0 w2) := Lib.hid x2; clear x2 k0 k1; obtain ⟨d0, d1⟩ := HK.out w2 X2.out)
      | refine haltst 24 ?_)
    refine .inl ?_
    refine st_l 24 (.tmp 2) (.tmp 18) (w.heap.size + 1) 0 24 _ #[.int .i64 0, .slice none 0 0] _ rfl rfl (RK.out _ X2.out) (by kernel_rfl) (by simp) rfl rfl ?_
    intro W9 hW9 o9
    simp only [Act.put]
    go_wp2
    exact bodyPost_ret (v := .tuple #[.agg #[.int .i64 0, .slice none 0 0], .int .i64 0, .int .i64 175]) (res_ctt 3 4 rfl rfl hW9 uBook (by kernel_rfl)) rfl (givesBkN_no HR.out (ext_off (X0.out.trans X2.out) o9 (fun b hb => by omega)))
  obtain ⟨s, l, hsl⟩ : ∃ s l, L = s :: l := by
    cases L with
    | nil => exact absurd rfl hL
    | cons s l => exact ⟨s, l, rfl⟩
  have hd : ((L.length : Int) == 0) = false := by rw [hsl]; simp only [List.length_cons, beq_eq_false_iff_ne]; omega
  clear hL
  have HSL := Lib.hid hsl
  obtain ⟨g, hg⟩ : ∃ g, grantedH L = g := ⟨_, rfl⟩
  have HGR := Lib.hid hg
  rw [hsl] at hg
  cases g
  rotate_left
  · have HR : Hid (grantH (n, L) = (noH, 0, 175)) := Lib.hid (by unfold grantH; rw [if_pos ht]; dsimp only; rw [hsl]; dsimp only; rw [if_pos (of_decide_eq_true hg)])
    clear ht hg hsl
    go_enter Try.func30, Try.ntmps30
    go_upto_region 1 with (fail)
    rw [← HW0.out]
    go_wp2_with (first
      | (go_at_call 17; refine (HCK.out).mono ?_; rintro e w2 ⟨rfl, x2⟩; have X2 : Hid (Ext W0 w2) := Lib.hid x2; clear x2 k0 k1; obtain ⟨d0, d1⟩ := HK.out w2 X2.out)
      | (go_at_call 51; refine (refGranted_any _ w2 n _ L (HS.out.ext X2.out) _ HGR.out).mono ?_; rintro e w3 ⟨rfl, x3⟩; have X3 : Hid (Ext W0 w3) := Lib.hid (X2.out.trans x3); clear x3 d0 d1; obtain ⟨d0, d1⟩ := HK.out w3 X3.out; have e1 : (w3.alloc (.cells #[] 41)).cell? ⟨w.heap.size, 1, none⟩ = some (.slice ao L.length c) := blk_cell (old1 (keepU B0.out X3.out) _) 1 rfl)
      | refine haltst 24 ?_)
    refine .inl ?_
    refine st_l 24 (.tmp 2) (.tmp 18) (w.heap.size + 1) 0 24 _ #[.int .i64 0, .slice none 0 0] _ rfl rfl (RK.out _ X3.out) (by kernel_rfl) (by simp) rfl rfl ?_
    intro W9 hW9 o9
    simp only [Act.put]
    go_wp2
    exact bodyPost_ret (v := .tuple #[.agg #[.int .i64 0, .slice none 0 0], .int .i64 0, .int .i64 175]) (res_ctt 3 4 rfl rfl hW9 uBook (by kernel_rfl)) rfl (givesBkN_no HR.out (ext_off (X0.out.trans X3.out) o9 (fun b hb => by omega)))
  have HR : Hid (grantH (n, L) = ((n, L.set 0 ⟨s.id, s.need, 1, s.age⟩), s.id, 0)) := Lib.hid (by unfold grantH; rw [if_pos ht]; dsimp only; rw [hsl]; dsimp only; rw [if_neg (of_decide_eq_false hg)]; rfl)
  obtain ⟨xs, hs, he⟩ := HS.out.ea
  have hxl : xs.length ≤ 1000 := by rw [he.len]; omega
  obtain ⟨x, hx⟩ : ∃ x, xs[0]? = some x := ⟨_, List.getElem?_eq_getElem (by rw [he.len, hsl]; simp)⟩
  have hrd : RdH (OrB F w 2) W0 x s := he.at_ 0 x s hx (by rw [hsl]; rfl)
  obtain ⟨x0, xa, xn, xc, x2, x3⟩ := x
  obtain ⟨s0, s1, s2, s3⟩ := s
  obtain ⟨q0, q1, q2, q3⟩ := hrd
  dsimp only at q0 q1 q2 q3 HR
  subst q0 q2 q3
  have HXS := Lib.hid hs.sl
  have HE : Hid (Ea (OrB F w 2) W0 (xs.set 0 (⟨x0, xa, xn, xc, 1, x3⟩ : HV)) (L.set 0 (⟨x0, s1, 1, x3⟩ : Se))) := Lib.hid (he.set 0 (⟨rfl, q1, rfl, rfl⟩ : RdH _ _ _ _))
  have HX := Lib.hid hx
  clear ht hg hs he hx hsl q1
  go_enter Try.func30, Try.ntmps30
  go_upto_region 1 with (fail)
  rw [← HW0.out]
  go_upto_region 6 with (first
    | (go_at_call 17; refine (HCK.out).mono ?_; rintro e w2 ⟨rfl, x2⟩; have X2 : Hid (Ext W0 w2) := Lib.hid x2; clear x2 k0 k1; obtain ⟨d0, d1⟩ := HK.out w2 X2.out)
    | (go_at_call 51; refine (refGranted_any _ w2 n _ L (HS.out.ext X2.out) _ HGR.out).mono ?_; rintro e w3 ⟨rfl, x3⟩; have X3 : Hid (Ext W0 w3) := Lib.hid (X2.out.trans x3); clear x3 d0 d1; obtain ⟨d0, d1⟩ := HK.out w3 X3.out; have e1 : (w3.alloc (.cells #[] 41)).cell? ⟨w.heap.size, 1, none⟩ = some (.slice ao L.length c) := blk_cell (old1 (keepU B0.out X3.out) _) 1 rfl)
    | (at_builtin; refine wpList_append_sl (α := HV) rfl (.tmp 19) (.tmp 21) rfl w3.heap.size (.slice (some ⟨_, 0, none⟩) 0 0) [] rfl ?_ _ xs rfl ?_ ?_ ?_ ?_; exact (Ow.litAt w3 _ _ rfl (Nat.le_refl _) [] (by simp)); exact ((HXS.out.ext X3.out).alloc _); (first | omega | (simp; omega)); exact (by rw [size_alloc]; omega); intro v7 W7 ho7 ha7; obtain ⟨a7, n7, c7, rfl⟩ := ho7.sh; have O7 : Hid (Ow W7 w3.heap.size (.slice a7 n7 c7) xs) := Lib.hid ho7; have X7 : Hid (Ext W0 W7) := Lib.hid (X3.out.trans (Below.trans (Ext.alloc (Ext.refl w3) _) ha7.below)); clear ho7 ha7))
  obtain ⟨g7, rfl, hg7, hg8, hn7, hn0, hnc7, hc73, hcell7, hfr7, hset7⟩ := O7.out.first HX.out
  have hz3 : w.heap.size + 2 ≤ w3.heap.size := by have := Below.size X3.out; have := HZ0.out; omega
  have i2 : W7.cell? ⟨g7, 2, none⟩ = some (.int .i64 x2) := hcell7 2 _ rfl
  have f2 := hfr7 2 (by decide)
  have HO := Lib.hid (hset7 2 (.int .i64 1) ⟨x0, xa, xn, xc, 1, x3⟩ (by decide) rfl)
  have HI0 : Hid (W7.cell? ⟨g7, 0, none⟩ = some (.int .i64 x0)) := Lib.hid (hcell7 0 _ rfl)
  have HG7 : Hid (w.heap.size + 2 ≤ g7 ∧ g7 < W7.heap.size) := Lib.hid ⟨by omega, hg8⟩
  have hn1 : (0 : Int) < (n7 : Int) := by omega
  clear hcell7 hfr7 hset7 hn7 d0 d1 e1 hg7 hg8 hz3
  go_upto_region 7 with (fail)
  obtain ⟨WB, hWB⟩ : ∃ q, q = W7.setCell ⟨g7, 2, none⟩ (.int .i64 1) := ⟨_, rfl⟩
  have oB : Off (fun k => k = g7) W7 WB := hWB ▸ off_set W7 ⟨g7, 2, none⟩ _
  have OB : Hid (Ow WB w3.heap.size (.slice (some ⟨g7, 0, none⟩) n7 c7) (xs.set 0 (⟨x0, xa, xn, xc, 1, x3⟩ : HV))) := Lib.hid (hWB ▸ HO.out)
  have BB : Hid (WB.heap[w.heap.size]? = some (.cells #[.int .i64 n, .slice ao L.length c] 24 (0, 0))) := Lib.hid (oB.blk (keepU B0.out X7.out) (by have := HG7.out; omega))
  have RB : Hid (WB.heap[w.heap.size + 1]? = some (.cells #[.int .i64 0, .slice none 0 0] 24 (0, 0))) := Lib.hid (oB.blk (RK.out _ X7.out) (by have := HG7.out; omega))
  have XB : Hid (Ext W0 WB) := Lib.hid (ext_off X7.out oB (fun b hb => by have := HG7.out; have := HZ0.out; omega))
  have EB : Hid (Ea (OrB F w 2) WB (xs.set 0 (⟨x0, xa, xn, xc, 1, x3⟩ : HV)) (L.set 0 (⟨x0, s1, 1, x3⟩ : Se))) := Lib.hid (HE.out.ext XB.out)
  have I0 : Hid (WB.cell? ⟨g7, 0, none⟩ = some (.int .i64 x0)) := Lib.hid (by
    obtain ⟨g', e', _, _, _, _, _, _, hc', _, _⟩ := OB.out.first (x := ⟨x0, xa, xn, xc, 1, x3⟩) (by rw [List.getElem?_set]; rw [if_pos rfl, if_pos (List.getElem?_eq_some_iff.1 HX.out).1])
    simp only [Option.some.injEq, Addr.mk.injEq] at e'
    obtain ⟨rfl, _⟩ := e'
    exact hc' 0 _ rfl)
  have HLT := Lib.hid (Below.size XB.out)
  rw [← hWB]
  clear hWB oB i2 f2 HI0 HO
  (refine wp_region_X_lit (K := fun V => V.cell? ⟨w.heap.size, 0, none⟩ = some (.int .i64 n) ∧ V.cell? ⟨g7, 0, none⟩ = some (.int .i64 x0)) (by kernel_rfl) (fun w1 hw1 => ?_))
  have Z1 : Hid (Ext WB w1) := Lib.hid hw1
  have K1 : Hid (w1.cell? ⟨w.heap.size, 0, none⟩ = some (.int .i64 n) ∧ w1.cell? ⟨g7, 0, none⟩ = some (.int .i64 x0)) := Lib.hid ⟨blk_cell (keepU BB.out hw1) 0 rfl, (hw1.cell (p := ⟨g7, 0, none⟩) (OB.out.low g7 rfl).2).trans I0.out⟩
  clear hw1
  refine xtv 0 (h := ?_)
  refine xtv 1 (hv := by intro w' hw'; obtain ⟨c0, c1⟩ := hw'; go_simp; first | done | with_reducible rfl) (h := ?_)
  refine xtv 2 (h := ?_)
  refine xtv 3 (h := ?_)
  refine xtv 4 (h := ?_)
  refine xtv 5 (h := ?_)
  refine xtv 6 (h := ?_)
  refine xtv 7 (hv := by intro w' hw'; obtain ⟨c0, c1⟩ := hw'; go_simp; first | done | with_reducible rfl) (h := ?_)
  refine xone 8 (hk := K1.out) (h := RunX.of 8 (h := ?_))
  refine wp_st 24 (.tmp 2) (.tmp 29) rfl (w.heap.size + 1) 0 24 _ #[.int .i64 n, .slice (some ⟨g7, 0, none⟩) n7 c7] _ rfl rfl (keepU RB.out Z1.out) (by kernel_rfl) (by simp) rfl rfl ?_
  intro W9 hW9 o9
  simp only [Act.put]
  have K9 : Hid (W9.cell? ⟨w.heap.size, 0, none⟩ = some (.int .i64 n) ∧ W9.cell? ⟨g7, 0, none⟩ = some (.int .i64 x0)) := Lib.hid ⟨blk_cell (o9.blk (keepU BB.out Z1.out) (by omega)) 0 rfl, by
    have q := K1.out.2
    unfold World.cell? at q ⊢
    have e9 : W9.heap[g7]? = w1.heap[g7]? := o9.block g7 (by have := (OB.out.low g7 rfl).2; have := Below.size Z1.out; omega) (by have := HG7.out; omega)
    dsimp only at q ⊢
    rw [e9]; exact q⟩
  refine xtv 9 (h := ?_)
  refine xtv 10 (h := ?_)
  (refine xdone (by kernel_rfl) (K9.out) ?_)
  go_wp2
  exact bodyPost_ret (v := .tuple #[.agg #[.int .i64 n, .slice (some ⟨g7, 0, none⟩) n7 c7], .int .i64 x0, .int .i64 0]) (res_ctt 3 4 rfl rfl hW9 uBook (by kernel_rfl)) rfl (by rw [HR.out]; exact ⟨_, _, _, rfl, ns_orB' (((EB.out.ext Z1.out).ns (Sa.new (OB.out.ext Z1.out) (fun b hb => HFB.out w3 X3.out b hb))).off (o9.mono fun b hb => .inr ⟨by omega, by omega⟩) (Grows.refl _ _)), ext_off (X0.out.trans (XB.out.trans Z1.out)) o9 (fun b hb => by omega)⟩)

end Go.Proofs.Ytgcnjkabpcbkgaa
