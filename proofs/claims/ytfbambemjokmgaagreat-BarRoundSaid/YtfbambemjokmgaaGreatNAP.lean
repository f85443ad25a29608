/- Texts of this seat. -/
import Derived.Test.YtfbambemjokmgaaGreatNAJ
import Derived.Test.YtfbambemjokmgaaGreatNAN
namespace Go.Proofs.YtfbambemjokmgaaGreat
open Go.RowKit
theorem keepP {w W : World} {g : Nat} {o : Obj} (h : w.heap[g]? = some o) (e : Ext w W) : W.heap[g]? = some o := (e.block _ (blk_lt h)).trans h
theorem uArc : ∃ fs, Tryz.prog.underlying 117 = some (.struct fs) := ⟨_, Tryz.underlying117⟩
def aheadB (xf xd yf yd m : Bool) : Bool := if xf = true then !xd else if yf = true then yd else m
theorem goesB_mem (l : List Ml) (f t e : Int) : goesB l f t e = decide ((⟨f, t, 1, e, 0⟩ : Ml) ∈ l) := by
  unfold goesB
  rw [Bool.eq_iff_iff, List.any_eq_true, decide_eq_true_iff]
  constructor
  · rintro ⟨⟨y0, y1, y2, y3, y4⟩, h1, h2⟩
    simp [hitM] at h2
    obtain ⟨⟨⟨⟨rfl, rfl⟩, rfl⟩, rfl⟩, rfl⟩ := h2
    exact h1
  · intro h
    exact ⟨_, h, by simp [hitM]⟩
theorem first_ahead (xf xd yf yd tf to_ : Bool) : firstI xf xd yf yd tf to_ = if aheadB xf xd yf yd tf = true then 1 else if aheadB yf yd xf xd to_ = true then 2 else 0 := by
  cases xf <;> cases xd <;> cases yf <;> cases yd <;> cases tf <;> cases to_ <;> rfl
def betw (m : List Ml) (a b : Dn) : Arc × Bool :=
  let x := sideR a.sides b.id
  let y := sideR b.sides a.id
  if (x.2 && y.2 && decide (x.1.epoch = y.1.epoch)) = true then
    (if aheadB x.1.fork x.1.dirty y.1.fork y.1.dirty (decide ((⟨b.id, a.id, 1, x.1.epoch, 0⟩ : Ml) ∈ m)) = true then (⟨a.id, b.id⟩, true)
     else if aheadB y.1.fork y.1.dirty x.1.fork x.1.dirty (decide ((⟨a.id, b.id, 1, x.1.epoch, 0⟩ : Ml) ∈ m)) = true then (⟨b.id, a.id⟩, true) else (⟨0, 0⟩, false))
  else (⟨0, 0⟩, false)
theorem arc2_betw (m : List Ml) (a b : Dn) : arc2 m a b = if (betw m a b).2 = true then [(betw m a b).1] else [] := by
  unfold arc2 betw
  simp only [first_ahead, goesB_mem]
  repeat' split
  all_goals simp_all
set_option maxRecDepth 100000 in
set_option maxHeartbeats 2000000 in
theorem pAhead_any (w : World) (x y : Sd) (z : Ml) (vm : Value) (m : List Ml) (hm : Sl w vm m) (r : Bool) (hr : aheadB x.fork x.dirty y.fork y.dirty (decide (z ∈ m)) = r) :
    Calls Tryz.prog 119 #[.agg x.cs, .agg y.cs, .agg #[.int .i64 z.from_, .int .i64 z.to_, .int .i64 z.kind, .int .i64 z.epoch, .int .i64 z.num], vm] w fun e w' => e = .returned (.bool r) ∧ Ext w w' := by
  have HM := Lib.hid hm
  have HR := Lib.hid hr
  obtain ⟨mo, mc, rfl⟩ := hm.len
  clear hm hr
  obtain ⟨x0, x1, x2, xf, xd, x5, x6, x7⟩ := x
  obtain ⟨y0, y1, y2, yf, yd, y5, y6, y7⟩ := y
  obtain ⟨z0, z1, z2, z3, z4⟩ := z
  unfold Sd.cs
  dsimp only
  cases xf
  · cases yf
    · obtain ⟨t, ht⟩ : ∃ t, decide ((⟨z0, z1, z2, z3, z4⟩ : Ml) ∈ m) = t := ⟨_, rfl⟩
      have HT := Lib.hid ht
      have HE : Hid (t = r) := Lib.hid (by rw [← HR.out, ← ht]; rfl)
      clear ht
      have HX0 : Hid (Ext w (((w.alloc (.cells #[.int .i64 x0, .int .i64 x1, .int .i64 x2, .bool false, .bool xd, .bool x5, .bool x6, .bool x7] 66)).alloc (.cells #[.int .i64 y0, .int .i64 y1, .int .i64 y2, .bool false, .bool yd, .bool y5, .bool y6, .bool y7] 66)).alloc (.cells #[.int .i64 z0, .int .i64 z1, .int .i64 z2, .int .i64 z3, .int .i64 z4] 95))) := Lib.hid ((((Ext.refl w).alloc _).alloc _).alloc _)
      go_enter Tryz.func119, Tryz.ntmps119
      go_wp2_with (go_at_call 148; refine (contains_ml _ _ m ⟨z0, z1, z2, z3, z4⟩ (HM.out.ext HX0.out) _ HT.out).mono ?_; rintro e w1 ⟨rfl, hx⟩; have HX := Lib.hid (HX0.out.trans hx); clear hx)
      go_ret
      exact ⟨ret_bool HE.out, HX.out⟩
    · have HE : Hid (yd = r) := Lib.hid (by rw [← HR.out]; rfl)
      go_enter Tryz.func119, Tryz.ntmps119
      go_wp2
      go_ret
      exact ⟨ret_bool HE.out, ((((Ext.refl w).alloc _).alloc _).alloc _)⟩
  · have HE : Hid ((!xd) = r) := Lib.hid (by rw [← HR.out]; rfl)
    go_enter Tryz.func119, Tryz.ntmps119
    go_wp2
    go_ret
    exact ⟨ret_bool HE.out, ((((Ext.refl w).alloc _).alloc _).alloc _)⟩
set_option maxRecDepth 100000 in
set_option maxHeartbeats 4000000 in
theorem pBetween_any (w : World) (a b : Dn) (va vb vm : Value) (m : List Ml) (ha : Sl w va a.sides) (hb : Sl w vb b.sides) (hm : Sl w vm m) (r : Arc) (t : Bool) (hr : betw m a b = (r, t)) :
    Calls Tryz.prog 75 #[.agg #[.int .i64 a.id, .int .i64 a.phase, va], .agg #[.int .i64 b.id, .int .i64 b.phase, vb], vm] w fun e w' => e = .returned (.tuple #[.agg #[.int .i64 r.a, .int .i64 r.b], .bool t]) ∧ Ext w w' := by
  obtain ⟨ao, ac, rfl⟩ := ha.len
  obtain ⟨bo, bc, rfl⟩ := hb.len
  obtain ⟨mo, mc, rfl⟩ := hm.len
  have HA := Lib.hid ha
  have HB := Lib.hid hb
  have HM := Lib.hid hm
  have HR := Lib.hid hr
  clear ha hb hm hr
  obtain ⟨a0, a1, a2⟩ := a
  obtain ⟨b0, b1, b2⟩ := b
  dsimp only at HA HB
  dsimp only
  have HX0 : Hid (Ext w (((w.alloc (.cells #[.int .i64 a0, .int .i64 a1, .slice ao a2.length ac] 61)).alloc (.cells #[.int .i64 b0, .int .i64 b1, .slice bo b2.length bc] 61)).alloc (.cells #[.int .i64 0, .int .i64 0] 117))) := Lib.hid ((((Ext.refl w).alloc _).alloc _).alloc _)
  have HAB : Hid (∀ V, Ext (((w.alloc (.cells #[.int .i64 a0, .int .i64 a1, .slice ao a2.length ac] 61)).alloc (.cells #[.int .i64 b0, .int .i64 b1, .slice bo b2.length bc] 61)).alloc (.cells #[.int .i64 0, .int .i64 0] 117)) V → ((V.cell? ⟨w.heap.size, 0, none⟩ = some (.int .i64 a0) ∧ V.cell? ⟨w.heap.size, 1, none⟩ = some (.int .i64 a1) ∧ V.cell? ⟨w.heap.size, 2, none⟩ = some (.slice ao a2.length ac)) ∧ V.cell? ⟨w.heap.size + 1, 0, none⟩ = some (.int .i64 b0) ∧ V.cell? ⟨w.heap.size + 1, 1, none⟩ = some (.int .i64 b1) ∧ V.cell? ⟨w.heap.size + 1, 2, none⟩ = some (.slice bo b2.length bc)) ∧ V.heap[w.heap.size + 2]? = some (.cells #[.int .i64 0, .int .i64 0] 117 (0, 0))) := Lib.hid fun V hV => by
    have q1 := keepP (old1 (old1 (at0 w (.cells #[.int .i64 a0, .int .i64 a1, .slice ao a2.length ac] 61)) _) _) hV
    have q2 := keepP (old1 (at1 w (.cells #[.int .i64 a0, .int .i64 a1, .slice ao a2.length ac] 61) (.cells #[.int .i64 b0, .int .i64 b1, .slice bo b2.length bc] 61)) _) hV
    have q3 := keepP (at2 w (.cells #[.int .i64 a0, .int .i64 a1, .slice ao a2.length ac] 61) (.cells #[.int .i64 b0, .int .i64 b1, .slice bo b2.length bc] 61) (.cells #[.int .i64 0, .int .i64 0] 117)) hV
    exact ⟨⟨⟨blk_cell q1 0 rfl, blk_cell q1 1 rfl, blk_cell q1 2 rfl⟩, blk_cell q2 0 rfl, blk_cell q2 1 rfl, blk_cell q2 2 rfl⟩, q3⟩
  obtain ⟨⟨x, xb⟩, hxs⟩ : ∃ p, sideR a2 b0 = p := ⟨_, rfl⟩
  obtain ⟨⟨y, yb⟩, hys⟩ : ∃ p, sideR b2 a0 = p := ⟨_, rfl⟩
  have HXS := Lib.hid hxs
  have HYS := Lib.hid hys
  have HR2 : Hid ((if (xb && yb && decide (x.epoch = y.epoch)) = true then
    (if aheadB x.fork x.dirty y.fork y.dirty (decide ((⟨b0, a0, 1, x.epoch, 0⟩ : Ml) ∈ m)) = true then ((⟨a0, b0⟩ : Arc), true)
     else if aheadB y.fork y.dirty x.fork x.dirty (decide ((⟨a0, b0, 1, x.epoch, 0⟩ : Ml) ∈ m)) = true then (⟨b0, a0⟩, true) else (⟨0, 0⟩, false))
  else (⟨0, 0⟩, false)) = (r, t)) := Lib.hid (by rw [← HR.out]; unfold betw; simp only [hxs, hys])
  obtain ⟨x0, x1, x2, x3, x4, x5, x6, x7⟩ := x
  obtain ⟨y0, y1, y2, y3, y4, y5, y6, y7⟩ := y
  dsimp only at HR2
  clear hxs hys
  obtain ⟨⟨⟨k0, k1, k2⟩, k3, k4, k5⟩, _⟩ := HAB.out (((w.alloc (.cells #[.int .i64 a0, .int .i64 a1, .slice ao a2.length ac] 61)).alloc (.cells #[.int .i64 b0, .int .i64 b1, .slice bo b2.length bc] 61)).alloc (.cells #[.int .i64 0, .int .i64 0] 117)) (Ext.refl _)
  go_enter Tryz.func75, Tryz.ntmps75
  go_upto_region 3 with (first
    | (go_at_call 116; have hgd := X1; refine (pSide_any _ b0 b1 _ b2 a0 (HB.out.ext (HX0.out.trans X1.out)) _ _ HYS.out).mono ?_; rintro e w2 ⟨rfl, hx⟩; dsimp only [Sd.cs]; have X2 := Lib.hid (Ext.trans X1.out hx); have D1 := Lib.hid (old1 (keepP (at0 w1 (.cells #[.int .i64 x0, .int .i64 x1, .int .i64 x2, .bool x3, .bool x4, .bool x5, .bool x6, .bool x7] 66)) hx) (.cells #[.int .i64 y0, .int .i64 y1, .int .i64 y2, .bool y3, .bool y4, .bool y5, .bool y6, .bool y7] 66)); obtain ⟨⟨⟨m0, m1, m2⟩, m3, m4, m5⟩, _⟩ := HAB.out w2 X2.out; clear hx hgd)
    | (go_at_call 116; refine (pSide_any _ a0 a1 _ a2 b0 (HA.out.ext HX0.out) _ _ HXS.out).mono ?_; rintro e w1 ⟨rfl, hx⟩; dsimp only [Sd.cs]; have X1 : Hid (Ext (((w.alloc (.cells #[.int .i64 a0, .int .i64 a1, .slice ao a2.length ac] 61)).alloc (.cells #[.int .i64 b0, .int .i64 b1, .slice bo b2.length bc] 61)).alloc (.cells #[.int .i64 0, .int .i64 0] 117)) (w1.alloc (.cells #[.int .i64 x0, .int .i64 x1, .int .i64 x2, .bool x3, .bool x4, .bool x5, .bool x6, .bool x7] 66))) := Lib.hid (hx.alloc _); obtain ⟨⟨⟨n0, n1, n2⟩, n3, n4, n5⟩, _⟩ := HAB.out (w1.alloc (.cells #[.int .i64 x0, .int .i64 x1, .int .i64 x2, .bool x3, .bool x4, .bool x5, .bool x6, .bool x7] 66)) X1.out; clear hx))
  obtain ⟨W2, hW2⟩ : ∃ W2, W2 = w2.alloc (.cells #[.int .i64 y0, .int .i64 y1, .int .i64 y2, .bool y3, .bool y4, .bool y5, .bool y6, .bool y7] 66) := ⟨_, rfl⟩
  have X3 : Hid (Ext (((w.alloc (.cells #[.int .i64 a0, .int .i64 a1, .slice ao a2.length ac] 61)).alloc (.cells #[.int .i64 b0, .int .i64 b1, .slice bo b2.length bc] 61)).alloc (.cells #[.int .i64 0, .int .i64 0] 117)) W2) := Lib.hid (hW2 ▸ X2.out.alloc _)
  have D2 : Hid (W2.heap[w2.heap.size]? = some (.cells #[.int .i64 y0, .int .i64 y1, .int .i64 y2, .bool y3, .bool y4, .bool y5, .bool y6, .bool y7] 66 (0, 0))) := Lib.hid (hW2 ▸ at0 w2 _)
  rw [← hW2] at D1 ⊢
  clear hW2 X2
  obtain ⟨G1, hG1⟩ : ∃ g, w1.heap.size = g := ⟨_, rfl⟩
  obtain ⟨G2, hG2⟩ : ∃ g, w2.heap.size = g := ⟨_, rfl⟩
  rw [hG2] at D2 ⊢
  rw [hG1] at D1 ⊢
  clear hG1 hG2
  have HRS : Hid (∀ V, Ext W2 V → V.heap[w.heap.size + 2]? = some (.cells #[.int .i64 0, .int .i64 0] 117 (0, 0))) := Lib.hid fun V hV => (HAB.out V (X3.out.trans hV)).2
  have HD : Hid (∀ V, Ext W2 V → (((V.cell? ⟨w.heap.size, 0, none⟩ = some (.int .i64 a0) ∧ V.cell? ⟨w.heap.size, 1, none⟩ = some (.int .i64 a1) ∧ V.cell? ⟨w.heap.size, 2, none⟩ = some (.slice ao a2.length ac)) ∧ V.cell? ⟨w.heap.size + 1, 0, none⟩ = some (.int .i64 b0) ∧ V.cell? ⟨w.heap.size + 1, 1, none⟩ = some (.int .i64 b1) ∧ V.cell? ⟨w.heap.size + 1, 2, none⟩ = some (.slice bo b2.length bc))) ∧ V.heap[G1]? = some (.cells #[.int .i64 x0, .int .i64 x1, .int .i64 x2, .bool x3, .bool x4, .bool x5, .bool x6, .bool x7] 66 (0, 0)) ∧ V.heap[G2]? = some (.cells #[.int .i64 y0, .int .i64 y1, .int .i64 y2, .bool y3, .bool y4, .bool y5, .bool y6, .bool y7] 66 (0, 0))) := Lib.hid fun V hV => ⟨(HAB.out V (X3.out.trans hV)).1, keepP D1.out hV, keepP D2.out hV⟩
  obtain ⟨⟨⟨⟨r0, r1⟩, r2, r3⟩, ⟨r4, r5⟩, r6, r7⟩, ⟨⟨s0, s1⟩, s2, s3⟩, ⟨s4, s5⟩, s6, s7⟩ := And.intro (cells8P D1.out) (cells8P D2.out)
  have HXW := Lib.hid (HX0.out.trans X3.out)
  clear D1 D2 X1 X3
  cases xb
  · have HZ : Hid ((r, t) = ((⟨0, 0⟩ : Arc), false)) := Lib.hid (HR2.out.symm.trans (by simp))
    go_wp2_with (first | refine haltst 117 ?_)
    refine .inl ?_
    refine st_l 117 (.tmp 6) (.tmp 40) (w.heap.size + 2) 0 117 #[.int .i64 0, .int .i64 0] #[.int .i64 0, .int .i64 0] #[.int .i64 0, .int .i64 0] rfl rfl (HRS.out W2 (Ext.refl _)) (by kernel_rfl) (by simp) rfl rfl ?_
    intro W hW oW
    simp only [Act.put]
    go_wp2
    obtain ⟨rfl, rfl⟩ : r = ⟨_, _⟩ ∧ t = false := by have := HZ.out; simpa only [Prod.mk.injEq] using this
    exact bodyPost_ret (v := .tuple #[.agg #[.int .i64 0, .int .i64 0], .bool false]) (res_ct 7 rfl rfl hW uArc (by kernel_rfl)) rfl ⟨rfl, ext_off (HXW.out.trans (Ext.refl _)) oW (fun k hk => by omega)⟩
  cases yb
  · have HZ : Hid ((r, t) = ((⟨0, 0⟩ : Arc), false)) := Lib.hid (HR2.out.symm.trans (by simp))
    go_wp2_with (first | refine haltst 117 ?_)
    refine .inl ?_
    refine st_l 117 (.tmp 6) (.tmp 40) (w.heap.size + 2) 0 117 #[.int .i64 0, .int .i64 0] #[.int .i64 0, .int .i64 0] #[.int .i64 0, .int .i64 0] rfl rfl (HRS.out W2 (Ext.refl _)) (by kernel_rfl) (by simp) rfl rfl ?_
    intro W hW oW
    simp only [Act.put]
    go_wp2
    obtain ⟨rfl, rfl⟩ : r = ⟨_, _⟩ ∧ t = false := by have := HZ.out; simpa only [Prod.mk.injEq] using this
    exact bodyPost_ret (v := .tuple #[.agg #[.int .i64 0, .int .i64 0], .bool false]) (res_ct 7 rfl rfl hW uArc (by kernel_rfl)) rfl ⟨rfl, ext_off (HXW.out.trans (Ext.refl _)) oW (fun k hk => by omega)⟩
  by_cases hep : x1 = y1
  · subst hep
    have HR3 : Hid ((if aheadB x3 x4 y3 y4 (decide ((⟨b0, a0, 1, x1, 0⟩ : Ml) ∈ m)) = true then ((⟨a0, b0⟩ : Arc), true)
     else if aheadB y3 y4 x3 x4 (decide ((⟨a0, b0, 1, x1, 0⟩ : Ml) ∈ m)) = true then (⟨b0, a0⟩, true) else (⟨0, 0⟩, false)) = (r, t)) := Lib.hid (by have := HR2.out; simpa using this)
    clear HR2
    go_upto_region 6 with (fail)
    obtain ⟨W3, hW3⟩ : ∃ W3, W3 = W2.alloc (.cells #[.int .i64 1, .int .i64 x1, .int .i64 0] 93) := ⟨_, rfl⟩
    have Y3 : Hid (Ext W2 W3) := Lib.hid (hW3 ▸ (Ext.refl _).alloc _)
    have HFK : Hid (∀ V, Ext W3 V → V.cell? ⟨W2.heap.size, 0, none⟩ = some (.int .i64 1) ∧ V.cell? ⟨W2.heap.size, 1, none⟩ = some (.int .i64 x1) ∧ V.cell? ⟨W2.heap.size, 2, none⟩ = some (.int .i64 0)) := Lib.hid fun V hV => by
      have q : W3.heap[W2.heap.size]? = some (.cells #[.int .i64 1, .int .i64 x1, .int .i64 0] 93 (0, 0)) := hW3 ▸ at0 W2 _
      have q := keepP q hV
      exact ⟨blk_cell q 0 rfl, blk_cell q 1 rfl, blk_cell q 2 rfl⟩
    rw [← hW3]
    clear hW3 r0 r1 r2 r3 r4 r5 r6 r7 s0 s1 s2 s3 s4 s5 s6 s7
    obtain ⟨⟨⟨e0, e1, e2⟩, e3, e4, e5⟩, d1, d2⟩ := HD.out W3 Y3.out
    obtain ⟨⟨⟨⟨r0, r1⟩, r2, r3⟩, ⟨r4, r5⟩, r6, r7⟩, ⟨⟨s0, s1⟩, s2, s3⟩, ⟨s4, s5⟩, s6, s7⟩ := And.intro (cells8P d1) (cells8P d2)
    obtain ⟨f0, f1, f2⟩ := HFK.out W3 (Ext.refl _)
    clear d1 d2
    obtain ⟨p, hp⟩ : ∃ p, aheadB x3 x4 y3 y4 (decide ((⟨b0, a0, 1, x1, 0⟩ : Ml) ∈ m)) = p := ⟨_, rfl⟩
    have HP := Lib.hid hp
    rw [hp] at HR3
    clear hp
    cases p
    · go_upto_region 8 with (go_at_call 119; refine (pAhead_any _ ⟨x0, x1, x2, x3, x4, x5, x6, x7⟩ ⟨y0, x1, y2, y3, y4, y5, y6, y7⟩ ⟨b0, a0, 1, x1, 0⟩ _ m (HM.out.ext (HXW.out.trans Y3.out)) _ HP.out).mono ?_; rintro e w4 ⟨rfl, hx⟩; have Y4 := Lib.hid hx; clear hx)
      clear r0 r1 r2 r3 r4 r5 r6 r7 s0 s1 s2 s3 s4 s5 s6 s7 f0 f1 f2 e0 e1 e2 e3 e4 e5
      obtain ⟨⟨⟨e0, e1, e2⟩, e3, e4, e5⟩, d1, d2⟩ := HD.out w4 (Y3.out.trans Y4.out)
      obtain ⟨⟨⟨⟨r0, r1⟩, r2, r3⟩, ⟨r4, r5⟩, r6, r7⟩, ⟨⟨s0, s1⟩, s2, s3⟩, ⟨s4, s5⟩, s6, s7⟩ := And.intro (cells8P d1) (cells8P d2)
      obtain ⟨f0, f1, f2⟩ := HFK.out w4 Y4.out
      clear d1 d2
      obtain ⟨q, hq⟩ : ∃ q, aheadB y3 y4 x3 x4 (decide ((⟨a0, b0, 1, x1, 0⟩ : Ml) ∈ m)) = q := ⟨_, rfl⟩
      have HQ := Lib.hid hq
      rw [hq] at HR3
      clear hq
      cases q
      · have HZ : Hid ((r, t) = ((⟨0, 0⟩ : Arc), false)) := Lib.hid (HR3.out.symm.trans (by simp))
        go_wp2_with (first | (go_at_call 119; refine (pAhead_any _ ⟨y0, x1, y2, y3, y4, y5, y6, y7⟩ ⟨x0, x1, x2, x3, x4, x5, x6, x7⟩ ⟨a0, b0, 1, x1, 0⟩ _ m (HM.out.ext (HXW.out.trans (Y3.out.trans Y4.out))) _ HQ.out).mono ?_; rintro e w5 ⟨rfl, hx⟩; have Y5 := Lib.hid (Y4.out.trans hx); clear hx e0 e1 e2 e3 e4 e5; obtain ⟨⟨⟨i0, i1, i2⟩, i3, i4, i5⟩, _, _⟩ := HD.out w5 (Y3.out.trans Y5.out)) | refine haltst 117 ?_)
        refine .inl ?_
        refine st_l 117 (.tmp 6) (.tmp 74) (w.heap.size + 2) 0 117 #[.int .i64 0, .int .i64 0] #[.int .i64 0, .int .i64 0] #[.int .i64 0, .int .i64 0] rfl rfl (HRS.out w5 (Y3.out.trans Y5.out)) (by kernel_rfl) (by simp) rfl rfl ?_
        intro W hW oW
        simp only [Act.put]
        go_wp2
        obtain ⟨rfl, rfl⟩ : r = ⟨_, _⟩ ∧ t = false := by have := HZ.out; simpa only [Prod.mk.injEq] using this
        exact bodyPost_ret (v := .tuple #[.agg #[.int .i64 0, .int .i64 0], .bool false]) (res_ct 7 rfl rfl hW uArc (by kernel_rfl)) rfl ⟨rfl, ext_off (HXW.out.trans (Y3.out.trans Y5.out)) oW (fun k hk => by omega)⟩
      · have HZ : Hid ((r, t) = ((⟨b0, a0⟩ : Arc), true)) := Lib.hid (HR3.out.symm.trans (by simp))
        go_wp2_with (first | (go_at_call 119; refine (pAhead_any _ ⟨y0, x1, y2, y3, y4, y5, y6, y7⟩ ⟨x0, x1, x2, x3, x4, x5, x6, x7⟩ ⟨a0, b0, 1, x1, 0⟩ _ m (HM.out.ext (HXW.out.trans (Y3.out.trans Y4.out))) _ HQ.out).mono ?_; rintro e w5 ⟨rfl, hx⟩; have Y5 := Lib.hid (Y4.out.trans hx); clear hx e0 e1 e2 e3 e4 e5; obtain ⟨⟨⟨i0, i1, i2⟩, i3, i4, i5⟩, _, _⟩ := HD.out w5 (Y3.out.trans Y5.out)) | refine haltst 117 ?_)
        refine .inl ?_
        refine st_l 117 (.tmp 6) (.tmp 73) (w.heap.size + 2) 0 117 #[.int .i64 0, .int .i64 0] #[.int .i64 b0, .int .i64 a0] #[.int .i64 b0, .int .i64 a0] rfl rfl (HRS.out w5 (Y3.out.trans Y5.out)) (by kernel_rfl) (by simp) rfl rfl ?_
        intro W hW oW
        simp only [Act.put]
        go_wp2
        obtain ⟨rfl, rfl⟩ : r = ⟨_, _⟩ ∧ t = true := by have := HZ.out; simpa only [Prod.mk.injEq] using this
        exact bodyPost_ret (v := .tuple #[.agg #[.int .i64 b0, .int .i64 a0], .bool true]) (res_ct 7 rfl rfl hW uArc (by kernel_rfl)) rfl ⟨rfl, ext_off (HXW.out.trans (Y3.out.trans Y5.out)) oW (fun k hk => by omega)⟩
    · have HZ : Hid ((r, t) = ((⟨a0, b0⟩ : Arc), true)) := Lib.hid (HR3.out.symm.trans (by simp))
      go_upto_region 7 with (go_at_call 119; refine (pAhead_any _ ⟨x0, x1, x2, x3, x4, x5, x6, x7⟩ ⟨y0, x1, y2, y3, y4, y5, y6, y7⟩ ⟨b0, a0, 1, x1, 0⟩ _ m (HM.out.ext (HXW.out.trans Y3.out)) _ HP.out).mono ?_; rintro e w4 ⟨rfl, hx⟩; have Y4 := Lib.hid hx; clear hx)
      obtain ⟨⟨⟨i0, i1, i2⟩, i3, i4, i5⟩, _, _⟩ := HD.out w4 (Y3.out.trans Y4.out)
      go_wp2_with (first | refine haltst 117 ?_)
      refine .inl ?_
      refine st_l 117 (.tmp 6) (.tmp 58) (w.heap.size + 2) 0 117 #[.int .i64 0, .int .i64 0] #[.int .i64 a0, .int .i64 b0] #[.int .i64 a0, .int .i64 b0] rfl rfl (HRS.out w4 (Y3.out.trans Y4.out)) (by kernel_rfl) (by simp) rfl rfl ?_
      intro W hW oW
      simp only [Act.put]
      go_wp2
      obtain ⟨rfl, rfl⟩ : r = ⟨_, _⟩ ∧ t = true := by have := HZ.out; simpa only [Prod.mk.injEq] using this
      exact bodyPost_ret (v := .tuple #[.agg #[.int .i64 a0, .int .i64 b0], .bool true]) (res_ct 7 rfl rfl hW uArc (by kernel_rfl)) rfl ⟨rfl, ext_off (HXW.out.trans (Y3.out.trans Y4.out)) oW (fun k hk => by omega)⟩
  · have hne : (x1 != y1) = true := by simp [hep]
    have HZ : Hid ((r, t) = ((⟨0, 0⟩ : Arc), false)) := Lib.hid (HR2.out.symm.trans (by simp [hep]))
    clear hep
    go_wp2_with (first | refine haltst 117 ?_)
    refine .inl ?_
    refine st_l 117 (.tmp 6) (.tmp 40) (w.heap.size + 2) 0 117 #[.int .i64 0, .int .i64 0] #[.int .i64 0, .int .i64 0] #[.int .i64 0, .int .i64 0] rfl rfl (HRS.out W2 (Ext.refl _)) (by kernel_rfl) (by simp) rfl rfl ?_
    intro W hW oW
    simp only [Act.put]
    go_wp2
    obtain ⟨rfl, rfl⟩ : r = ⟨_, _⟩ ∧ t = false := by have := HZ.out; simpa only [Prod.mk.injEq] using this
    exact bodyPost_ret (v := .tuple #[.agg #[.int .i64 0, .int .i64 0], .bool false]) (res_ct 7 rfl rfl hW uArc (by kernel_rfl)) rfl ⟨rfl, ext_off (HXW.out.trans (Ext.refl _)) oW (fun k hk => by omega)⟩
end Go.Proofs.YtfbambemjokmgaaGreat
namespace Go.Proofs.YtfbambemjokmgaaGreat
open Go.RowKit
theorem arc2_nil (m : List Ml) (a0 a1 : Int) (b : Dn) : arc2 m ⟨a0, a1, []⟩ b = [] := by unfold arc2 sideR; simp
theorem flat_nil (m : List Ml) (a0 a1 : Int) : ∀ l : List Dn, l.flatMap (arc2 m ⟨a0, a1, []⟩) = []
  | [] => rfl
  | b :: l => by rw [List.flatMap_cons, arc2_nil, flat_nil m a0 a1 l]; rfl
theorem apd_notp {B : Nat} {v v' : Value} {w w' : World} {p : Nat} (a : Apd B v v' w w') (hp : v.ownBlock ≠ some p) (hpw : p < w.heap.size) : v'.ownBlock ≠ some p := by
  rcases a.block with hb | hb
  · rw [hb]; exact hp
  · intro e; have := hb p e; omega
theorem apd_keep {B : Nat} {v v' : Value} {w w' : World} {p : Nat} {o : Obj} (a : Apd B v v' w w') (hp : v.ownBlock ≠ some p) (h : w.heap[p]? = some o) : w'.heap[p]? = some o :=
  (a.grown.block p (blk_lt h) (fun e => hp e.symm)).trans h
set_option maxRecDepth 100000 in
set_option maxHeartbeats 4000000 in
theorem pArcs_any (w : World) (v vm : Value) (L : List Dn) (m : List Ml) (h : Ns DV Non w v L) (hm : Sl w vm m) (hl : L.length ≤ 100) :
    Calls Tryz.prog 35 #[.agg #[v, vm]] w (GivesA w (arcsOf m L)) := by
  obtain ⟨ao, c, rfl⟩ := h.len
  obtain ⟨mo, mc, rfl⟩ := hm.len
  have HS := Lib.hid h
  have HM := Lib.hid hm
  have hml := hm.length_le
  have HK : Hid (∀ V, Ext (w.alloc (.cells #[.slice ao L.length c, .slice mo m.length mc] 48)) V → V.cell? ⟨w.heap.size, 0, none⟩ = some (.slice ao L.length c) ∧ V.cell? ⟨w.heap.size, 1, none⟩ = some (.slice mo m.length mc)) := Lib.hid fun V hV => ⟨cell_atD V hV rfl, cell_atD V hV rfl⟩
  rw [← arcsTo_all]
  clear h hm
  go_enter Tryz.func35, Tryz.ntmps35
  go_wp2
  go_loopw [3, 13] (fun q i wr => ∃ k : Nat, k ≤ L.length ∧ i = .int .i64 k ∧ Hid (Ow wr (w.heap.size + 1) q (arcsTo m L k)) ∧ Hid (Ext (w.alloc (.cells #[.slice ao L.length c, .slice mo m.length mc] 48)) wr)) (fun _ i _ => L.length - (intOf i).toNat)
  case atStart => exact ⟨0, Nat.zero_le _, rfl, Lib.hid (by exact Ow.nil _ _), Lib.hid (Ext.refl _)⟩
  case round =>
    obtain ⟨k, hk, rfl, HQ, HX⟩ := hrel
    obtain ⟨g0, g1⟩ := HK.out wr HX.out
    have hwr := Below.size HX.out
    rw [size_alloc] at hwr
    by_cases hlt : k < L.length
    · obtain ⟨b1, o1, so, sc, d, hyk, rfl, hn, hnc, hc63, hb, hsl, hcell⟩ := HS.out.dinerAt hlt
      have XW := Lib.hid (Ext.trans ((Ext.refl w).alloc _) HX.out)
      obtain ⟨a0, a1, a2⟩ := hcell wr XW.out
      have hw1 : IntKind.i64.wrap ((k : Int) + 1) = ((k + 1 : Nat) : Int) := by rw [wrapN _ (by omega) (by omega)]; omega
      have HNA := Lib.hid (arcsTo_next (m := m) hyk)
      have HTL := Lib.hid (arcsTo_len m L k)
      obtain ⟨P, hP⟩ : ∃ P, P = arcsTo m L k := ⟨_, rfl⟩
      have hPl : P.length ≤ 10000 := by rw [hP]; have := HTL.out; have := Nat.mul_le_mul hk hl; have := Nat.mul_le_mul_right 100 hl; omega
      rw [← hP] at HQ HNA
      obtain ⟨R, hR⟩ : ∃ R, R = L.drop (k + 1) := ⟨_, rfl⟩
      have HRL : Hid (R.length = L.length - (k + 1)) := Lib.hid (by rw [hR]; simp)
      have HRD : Hid (∀ j b, L[k + 1 + j]? = some b → R[j]? = some b) := Lib.hid fun j b hb => by rw [hR, List.getElem?_drop]; exact hb
      rw [← hR] at HNA
      obtain ⟨d0, d1, d2⟩ := d
      dsimp only at a0 a1 a2 hsl
      obtain ⟨W1, hW1⟩ : ∃ W1, W1 = wr.alloc (.cells #[.int .i64 d0, .int .i64 d1, .slice so d2.length sc] 61) := ⟨_, rfl⟩
      have X1 : Hid (Ext wr W1) := Lib.hid (hW1 ▸ (Ext.refl _).alloc _)
      have D1 : Hid (W1.heap[wr.heap.size]? = some (.cells #[.int .i64 d0, .int .i64 d1, .slice so d2.length sc] 61 (0, 0))) := Lib.hid (hW1 ▸ at0 wr _)
      have HQ1 := Lib.hid (HQ.out.ext X1.out)
      have XX := Lib.hid (HX.out.trans X1.out)
      have HSD := Lib.hid (hsl.sl)
      have HW1 := Lib.hid hW1
      obtain ⟨g0', g1'⟩ := HK.out W1 XX.out
      have q2 := blk_cell D1.out 2 rfl
      clear hW1 hR hP hcell hyk hn hsl HTL
      go_upto_region 5 with (fail)
      rw [← HW1.out]
      have HOG : Hid (u3.ownBlock ≠ some wr.heap.size) := Lib.hid fun e => by have := (HQ.out.low _ e).2; omega
      have hGl := blk_lt D1.out
      obtain ⟨G, hG⟩ : ∃ G, wr.heap.size = G := ⟨_, rfl⟩
      rw [hG] at D1 q2 HOG hGl hwr ⊢
      clear hG a0 a1 a2 g0 g1
      by_cases hz : d2 = []
      · subst hz
        have HE : Hid (P ++ R.flatMap (arc2 m ⟨d0, d1, []⟩) = P) := Lib.hid (by rw [flat_nil, List.append_nil])
        simp only [List.length_nil] at q2
        go_wp2
        go_roundw
        case rel => exact ⟨k + 1, by omega, by go_num, Lib.hid (by rw [HNA.out, HE.out]; exact HQ1.out), XX⟩
        case measure => simp [intOf]; omega
      have hz' : ((d2.length : Int) == 0) = false := by simpa using hz
      clear hz
      by_cases hck : c = k + 1
      · subst hck
        have hz0 : L.length - (k + 1) = 0 := by omega
        have HE : Hid (P ++ R.flatMap (arc2 m ⟨d0, d1, d2⟩) = P) := Lib.hid (by
          have : R = [] := List.length_eq_zero_iff.1 (by have := HRL.out; omega)
          rw [this]; simp)
        go_wp2
        refine wp_loop_rounds 1 ?_
        rw [rounds_succ]
        go_wp2
        go_roundw
        case rel => exact ⟨k + 1, by omega, by go_num, Lib.hid (by rw [HNA.out, HE.out]; exact HQ1.out), XX⟩
        case measure => simp [intOf]; omega
      · obtain ⟨n, hn⟩ : ∃ n, n = L.length - (k + 1) := ⟨_, rfl⟩
        have hRn : Hid (R.length = n) := Lib.hid (HRL.out.trans hn.symm)
        have hn3 : k + 1 + n = L.length := by omega
        have HN := Lib.hid hn
        clear hn
        go_upto_region 7 with (fail)
        rw [← HN.out]
        go_loopw [3, 28] (fun q i wr => ∃ j : Nat, j ≤ n ∧ i = .int .i64 (j : Int) ∧ Hid (Ow wr (w.heap.size + 1) q (P ++ (R.take j).flatMap (arc2 m ⟨d0, d1, d2⟩))) ∧ Hid (Ext (w.alloc (.cells #[.slice (some ⟨b1, o1, none⟩) L.length c, .slice mo m.length mc] 48)) wr) ∧ Hid (wr.heap[G]? = some (.cells #[.int .i64 d0, .int .i64 d1, .slice so d2.length sc] 61 (0, 0)) ∧ q.ownBlock ≠ some G)) (fun _ i _ => n - (intOf i).toNat)
        case atStart => exact ⟨0, Nat.zero_le _, by go_num, Lib.hid (by rw [List.take_zero, List.flatMap_nil, List.append_nil]; exact HQ1.out), XX, Lib.hid ⟨D1.out, HOG.out⟩⟩
        case round =>
          obtain ⟨j, hj, rfl, HQ2, HX2, HDG⟩ := hrel
          by_cases hj2 : j < n
          · obtain ⟨b2, o2, so2, sc2, f, hfk, hao, hn', hnc', hc63', hb', hsl', hcell'⟩ := HS.out.dinerAt (k := k + 1 + j) (by omega)
            simp only [Option.some.injEq, Addr.mk.injEq, and_true] at hao
            obtain ⟨rfl, rfl⟩ := hao
            have XV := Lib.hid (Ext.trans ((Ext.refl w).alloc _) HX2.out)
            have hgr := blk_lt HDG.out.1
            have HFN := Lib.hid (flat_next (m := m) (a := ⟨d0, d1, d2⟩) (HRD.out j f hfk))
            have hFl := flat_len m ⟨d0, d1, d2⟩ (R.take j)
            have hPF : ((R.take j).flatMap (arc2 m ⟨d0, d1, d2⟩)).length ≤ 200 := by rw [List.length_take] at hFl; have := hRn.out; omega
            obtain ⟨Z, hZ⟩ : ∃ Z, Z = P ++ (R.take j).flatMap (arc2 m ⟨d0, d1, d2⟩) := ⟨_, rfl⟩
            have hZl : Z.length ≤ 20000 := by rw [hZ, List.length_append]; omega
            rw [← hZ] at HQ2
            have HZ : Hid (P ++ (R.take (j + 1)).flatMap (arc2 m ⟨d0, d1, d2⟩) = Z ++ arc2 m ⟨d0, d1, d2⟩ f) := Lib.hid (by rw [HFN.out, hZ, List.append_assoc])
            obtain ⟨⟨r, t⟩, hbt⟩ : ∃ p, betw m ⟨d0, d1, d2⟩ f = p := ⟨_, rfl⟩
            have HA2 : Hid (arc2 m ⟨d0, d1, d2⟩ f = if t = true then [r] else []) := Lib.hid (by rw [arc2_betw, hbt])
            have HBT := Lib.hid hbt
            obtain ⟨f0, f1, f2⟩ := f
            dsimp only at hsl' hcell'
            obtain ⟨c0, c1, c2⟩ := hcell' wr XV.out
            rw [show o1 + (k + 1 + j) * 3 = o1 + (k + 1) * 3 + j * 3 by omega] at c0 c1 c2
            obtain ⟨W2, hW2⟩ : ∃ W2, W2 = wr.alloc (.cells #[.int .i64 f0, .int .i64 f1, .slice so2 f2.length sc2] 61) := ⟨_, rfl⟩
            have X2 : Hid (Ext wr W2) := Lib.hid (hW2 ▸ (Ext.refl _).alloc _)
            have D2 : Hid (W2.heap[wr.heap.size]? = some (.cells #[.int .i64 f0, .int .i64 f1, .slice so2 f2.length sc2] 61 (0, 0))) := Lib.hid (hW2 ▸ at0 wr _)
            have HW2 := Lib.hid hW2
            clear hW2 hZ HFN hFl hPF hbt hfk hn' hcell'
            go_upto_region 9 with (fail)
            rw [← HW2.out]
            clear c0 c1 c2
            have XT := Lib.hid (XV.out.trans X2.out)
            have HT1 := Lib.hid (HSD.out.ext XT.out)
            have HT2 := Lib.hid (hsl'.sl.ext XT.out)
            have HTM := Lib.hid (HM.out.ext XT.out)
            have HQ3 := Lib.hid (HQ2.out.ext X2.out)
            have hs2 := Below.size (HX2.out.trans X2.out)
            rw [size_alloc] at hs2
            obtain ⟨s0, s1⟩ := HK.out W2 (HX2.out.trans X2.out)
            have D3 := Lib.hid (keepP HDG.out.1 X2.out)
            have HNG := Lib.hid HDG.out.2
            have i0 := blk_cell D2.out 0 rfl
            have i1 := blk_cell D2.out 1 rfl
            have i2 := blk_cell D2.out 2 rfl
            have j0 := blk_cell D3.out 0 rfl
            have j1 := blk_cell D3.out 1 rfl
            have j2 := blk_cell D3.out 2 rfl
            clear hsl' HW2
            obtain ⟨ra, rb⟩ := r
            cases t
            · have HE : Hid (arc2 m ⟨d0, d1, d2⟩ ⟨f0, f1, f2⟩ = []) := Lib.hid (by rw [HA2.out]; rfl)
              go_wp2_with (first
                | (go_at_call 75; refine (pBetween_any _ ⟨d0, d1, d2⟩ ⟨f0, f1, f2⟩ _ _ _ m HT1.out HT2.out HTM.out ⟨ra, rb⟩ _ HBT.out).mono ?_; rintro e w3 ⟨rfl, hx⟩; dsimp only; have X3 := Lib.hid hx; clear hx))
              go_roundw
              case rel => exact ⟨j + 1, by omega, by go_num, Lib.hid (by rw [HZ.out, HE.out, List.append_nil]; exact (HQ3.out.ext (X3.out.alloc _))), Lib.hid (HX2.out.trans (X2.out.trans (X3.out.alloc _))), Lib.hid ⟨keepP D3.out (X3.out.alloc _), HNG.out⟩⟩
              case measure => simp [intOf]; omega
            · have HE : Hid (arc2 m ⟨d0, d1, d2⟩ ⟨f0, f1, f2⟩ = [⟨ra, rb⟩]) := Lib.hid (by rw [HA2.out]; rfl)
              go_wp2_with (first
                | (go_at_call 75; refine (pBetween_any _ ⟨d0, d1, d2⟩ ⟨f0, f1, f2⟩ _ _ _ m HT1.out HT2.out HTM.out ⟨ra, rb⟩ _ HBT.out).mono ?_; rintro e w3 ⟨rfl, hx⟩; dsimp only; have X3 := Lib.hid hx; have D4 := at0 w3 (.cells #[.int .i64 ra, .int .i64 rb] 117); have k0 := blk_cell D4 0 rfl; have k1 := blk_cell D4 1 rfl; clear hx D4)
                | (at_builtin; refine wpList_append_sl (α := Arc) rfl (.tmp 41) (.tmp 43) rfl (w.heap.size + 1) _ Z rfl ?_ (.slice (some ⟨_, 0, none⟩) 1 1) [(⟨ra, rb⟩ : Arc)] rfl ?_ ?_ ?_ ?_; exact ((HQ3.out.ext (X3.out.alloc _)).alloc _); exact (Sl.litAt _ _ (by simp) [(⟨ra, rb⟩ : Arc)] (show (1 : Nat) ≤ 1000000 by decide)); (first | omega | (simp; omega)); exact (by rw [size_alloc, size_alloc]; have h1 := Below.size X3.out; omega); intro v5 W5 ho5 ha5; have O5 := Lib.hid ho5; have X5 := Lib.hid (Below.trans (Ext.alloc (Ext.alloc (Ext.trans HX2.out (Ext.trans X2.out X3.out)) _) _) (Below.mono ha5.below (by rw [size_alloc]; omega))); have D5 := Lib.hid (apd_keep ha5 HNG.out (keepP D3.out (Ext.alloc (X3.out.alloc (.cells #[.int .i64 ra, .int .i64 rb] 117)) _))); have N5 := Lib.hid (apd_notp ha5 HNG.out (by have q := blk_lt (keepP D3.out (Ext.alloc (X3.out.alloc (.cells #[.int .i64 ra, .int .i64 rb] 117)) (.cells (cellsOf [(⟨ra, rb⟩ : Arc)]).toArray 117))); exact q)); clear ho5 ha5))
              go_roundw
              case rel => exact ⟨j + 1, by omega, by go_num, Lib.hid (by rw [HZ.out, HE.out]; exact O5.out), X5, Lib.hid ⟨D5.out, N5.out⟩⟩
              case measure => simp [intOf]; omega
          · have hje : j = n := by omega
            have hq := HQ2.out
            rw [hje, List.take_of_length_le (by have := hRn.out; omega), ← HNA.out] at hq
            have HQ3 := Lib.hid hq
            clear hq HQ2 hje
            go_wp2
            go_roundw
            case rel => exact ⟨k + 1, by omega, by go_num, HQ3, HX2⟩
            case measure => simp [intOf]; omega
    · have hkl : k = L.length := by omega
      rw [hkl] at HQ
      have HQ' := HQ
      clear HQ hkl
      go_wp2
      go_ret
      exact ⟨_, rfl, HQ'.out.sl, Ext.trans ((Ext.refl w).alloc _) HX.out⟩
end Go.Proofs.YtfbambemjokmgaaGreat
