/- Layer 12, the program: who goes ahead of whom. -/
import Derived.Test.YtdfleocknaackaaGreatMPS
import Derived.Test.YtdfleocknaackaaGreatMDR4
namespace Go.Proofs.YtdfleocknaackaaGreat
open Go.RowKit

theorem keepP {w W : World} {g : Nat} {o : Obj} (h : w.heap[g]? = some o) (e : Ext w W) : W.heap[g]? = some o := (e.block _ (blk_lt h)).trans h
theorem uArc : ∃ fs, Tryz.prog.underlying 86 = some (.struct fs) := ⟨_, Tryz.underlying86⟩
def aheadB (xf xd yf yd m : Bool) : Bool := if xf = true then !xd else if yf = true then yd else m
theorem goesB_mem (l : List Ml) (f t e : Int) : goesB l f t e = decide ((⟨f, t, 1, e, 0⟩ : Ml) ∈ l) := by
  unfold goesB
  rw [Bool.eq_iff_iff, List.any_eq_true, decide_eq_true_iff]
  constructor
  · rintro ⟨⟨y0, y1, y2, y3, y4⟩, h1, h2⟩
    simp [hitM] at h2
    obtain ⟨⟨⟨⟨rfl, rfl⟩, rfl⟩, rfl⟩, rfl⟩ := h2
    exact h1
  · intro h
    exact ⟨_, h, by simp [hitM]⟩
theorem first_ahead (xf xd yf yd tf to_ : Bool) : firstI xf xd yf yd tf to_ = if aheadB xf xd yf yd tf = true then 1 else if aheadB yf yd xf xd to_ = true then 2 else 0 := by
  cases xf <;> cases xd <;> cases yf <;> cases yd <;> cases tf <;> cases to_ <;> rfl
def betw (m : List Ml) (a b : Dn) : Arc × Bool :=
  let x := sideR a.sides b.id
  let y := sideR b.sides a.id
  if (x.2 && y.2 && decide (x.1.epoch = y.1.epoch)) = true then
    (if aheadB x.1.fork x.1.dirty y.1.fork y.1.dirty (decide ((⟨b.id, a.id, 1, x.1.epoch, 0⟩ : Ml) ∈ m)) = true then (⟨a.id, b.id⟩, true)
     else if aheadB y.1.fork y.1.dirty x.1.fork x.1.dirty (decide ((⟨a.id, b.id, 1, x.1.epoch, 0⟩ : Ml) ∈ m)) = true then (⟨b.id, a.id⟩, true) else (⟨0, 0⟩, false))
  else (⟨0, 0⟩, false)
theorem arc2_betw (m : List Ml) (a b : Dn) : arc2 m a b = if (betw m a b).2 = true then [(betw m a b).1] else [] := by
  unfold arc2 betw
  simp only [first_ahead, goesB_mem]
  repeat' split
  all_goals simp_all

set_option maxRecDepth 100000 in
set_option maxHeartbeats 2000000 in
theorem pAhead_any (w : World) (x y : Sd) (z : Ml) (vm : Value) (m : List Ml) (hm : Sl w vm m) (r : Bool) (hr : aheadB x.fork x.dirty y.fork y.dirty (decide (z ∈ m)) = r) :
    Calls Tryz.prog 78 #[.agg x.cs, .agg y.cs, .agg #[.int .i64 z.from_, .int .i64 z.to_, .int .i64 z.kind, .int .i64 z.epoch, .int .i64 z.num], vm] w fun e w' => e = .returned (.bool r) ∧ Ext w w' := by
  have HM := Lib.hid hm
  have HR := Lib.hid hr
  obtain ⟨mo, mc, rfl⟩ := hm.len
  clear hm hr
  obtain ⟨x0, x1, x2, xf, xd, x5, x6, x7⟩ := x
  obtain ⟨y0, y1, y2, yf, yd, y5, y6, y7⟩ := y
  obtain ⟨z0, z1, z2, z3, z4⟩ := z
  unfold Sd.cs
  dsimp only
  cases xf
  · cases yf
    · obtain ⟨t, ht⟩ : ∃ t, decide ((⟨z0, z1, z2, z3, z4⟩ : Ml) ∈ m) = t := ⟨_, rfl⟩
      have HT := Lib.hid ht
      have HE : Hid (t = r) := Lib.hid (by rw [← HR.out, ← ht]; rfl)
      clear ht
      have HX0 : Hid (Ext w (((w.alloc (.cells #[.int .i64 x0, .int .i64 x1, .int .i64 x2, .bool false, .bool xd, .bool x5, .bool x6, .bool x7] 52)).alloc (.cells #[.int .i64 y0, .int .i64 y1, .int .i64 y2, .bool false, .bool yd, .bool y5, .bool y6, .bool y7] 52)).alloc (.cells #[.int .i64 z0, .int .i64 z1, .int .i64 z2, .int .i64 z3, .int .i64 z4] 82))) := Lib.hid ((((Ext.refl w).alloc _).alloc _).alloc _)
      go_enter Tryz.func78, Tryz.ntmps78
      go_wp2_with (go_at_call 108; refine (contains_ml _ _ m ⟨z0, z1, z2, z3, z4⟩ (HM.out.ext HX0.out) _ HT.out).mono ?_; rintro e w1 ⟨rfl, hx⟩; have HX := Lib.hid (HX0.out.trans hx); clear hx)
      go_ret
      exact ⟨ret_bool HE.out, HX.out⟩
    · have HE : Hid (yd = r) := Lib.hid (by rw [← HR.out]; rfl)
      go_enter Tryz.func78, Tryz.ntmps78
      go_wp2
      go_ret
      exact ⟨ret_bool HE.out, ((((Ext.refl w).alloc _).alloc _).alloc _)⟩
  · have HE : Hid ((!xd) = r) := Lib.hid (by rw [← HR.out]; rfl)
    go_enter Tryz.func78, Tryz.ntmps78
    go_wp2
    go_ret
    exact ⟨ret_bool HE.out, ((((Ext.refl w).alloc _).alloc _).alloc _)⟩

set_option maxRecDepth 100000 in
set_option maxHeartbeats 4000000 in
theorem pBetween_any (w : World) (a b : Dn) (va vb vm : Value) (m : List Ml) (ha : Sl w va a.sides) (hb : Sl w vb b.sides) (hm : Sl w vm m) (r : Arc) (t : Bool) (hr : betw m a b = (r, t)) :
    Calls Tryz.prog 44 #[.agg #[.int .i64 a.id, .int .i64 a.phase, va], .agg #[.int .i64 b.id, .int .i64 b.phase, vb], vm] w fun e w' => e = .returned (.tuple #[.agg #[.int .i64 r.a, .int .i64 r.b], .bool t]) ∧ Ext w w' := by
  obtain ⟨ao, ac, rfl⟩ := ha.len
  obtain ⟨bo, bc, rfl⟩ := hb.len
  obtain ⟨mo, mc, rfl⟩ := hm.len
  have HA := Lib.hid ha
  have HB := Lib.hid hb
  have HM := Lib.hid hm
  have HR := Lib.hid hr
  clear ha hb hm hr
  obtain ⟨a0, a1, a2⟩ := a
  obtain ⟨b0, b1, b2⟩ := b
  dsimp only at HA HB
  dsimp only
  have HX0 : Hid (Ext w (((w.alloc (.cells #[.int .i64 a0, .int .i64 a1, .slice ao a2.length ac] 49)).alloc (.cells #[.int .i64 b0, .int .i64 b1, .slice bo b2.length bc] 49)).alloc (.cells #[.int .i64 0, .int .i64 0] 86))) := Lib.hid ((((Ext.refl w).alloc _).alloc _).alloc _)
  have HAB : Hid (∀ V, Ext (((w.alloc (.cells #[.int .i64 a0, .int .i64 a1, .slice ao a2.length ac] 49)).alloc (.cells #[.int .i64 b0, .int .i64 b1, .slice bo b2.length bc] 49)).alloc (.cells #[.int .i64 0, .int .i64 0] 86)) V → ((V.cell? ⟨w.heap.size, 0, none⟩ = some (.int .i64 a0) ∧ V.cell? ⟨w.heap.size, 1, none⟩ = some (.int .i64 a1) ∧ V.cell? ⟨w.heap.size, 2, none⟩ = some (.slice ao a2.length ac)) ∧ V.cell? ⟨w.heap.size + 1, 0, none⟩ = some (.int .i64 b0) ∧ V.cell? ⟨w.heap.size + 1, 1, none⟩ = some (.int .i64 b1) ∧ V.cell? ⟨w.heap.size + 1, 2, none⟩ = some (.slice bo b2.length bc)) ∧ V.heap[w.heap.size + 2]? = some (.cells #[.int .i64 0, .int .i64 0] 86 (0, 0))) := Lib.hid fun V hV => by
    have q1 := keepP (old1 (old1 (at0 w (.cells #[.int .i64 a0, .int .i64 a1, .slice ao a2.length ac] 49)) _) _) hV
    have q2 := keepP (old1 (at1 w (.cells #[.int .i64 a0, .int .i64 a1, .slice ao a2.length ac] 49) (.cells #[.int .i64 b0, .int .i64 b1, .slice bo b2.length bc] 49)) _) hV
    have q3 := keepP (at2 w (.cells #[.int .i64 a0, .int .i64 a1, .slice ao a2.length ac] 49) (.cells #[.int .i64 b0, .int .i64 b1, .slice bo b2.length bc] 49) (.cells #[.int .i64 0, .int .i64 0] 86)) hV
    exact ⟨⟨⟨blk_cell q1 0 rfl, blk_cell q1 1 rfl, blk_cell q1 2 rfl⟩, blk_cell q2 0 rfl, blk_cell q2 1 rfl, blk_cell q2 2 rfl⟩, q3⟩
  obtain ⟨⟨x, xb⟩, hxs⟩ : ∃ p, sideR a2 b0 = p := ⟨_, rfl⟩
  obtain ⟨⟨y, yb⟩, hys⟩ : ∃ p, sideR b2 a0 = p := ⟨_, rfl⟩
  have HXS := Lib.hid hxs
  have HYS := Lib.hid hys
  have HR2 : Hid ((if (xb && yb && decide (x.epoch = y.epoch)) = true then
    (if aheadB x.fork x.dirty y.fork y.dirty (decide ((⟨b0, a0, 1, x.epoch, 0⟩ : Ml) ∈ m)) = true then ((⟨a0, b0⟩ : Arc), true)
     else if aheadB y.fork y.dirty x.fork x.dirty (decide ((⟨a0, b0, 1, x.epoch, 0⟩ : Ml) ∈ m)) = true then (⟨b0, a0⟩, true) else (⟨0, 0⟩, false))
  else (⟨0, 0⟩, false)) = (r, t)) := Lib.hid (by rw [← HR.out]; unfold betw; simp only [hxs, hys])
  obtain ⟨x0, x1, x2, x3, x4, x5, x6, x7⟩ := x
  obtain ⟨y0, y1, y2, y3, y4, y5, y6, y7⟩ := y
  dsimp only at HR2
  clear hxs hys
  obtain ⟨⟨⟨k0, k1, k2⟩, k3, k4, k5⟩, _⟩ := HAB.out (((w.alloc (.cells #[.int .i64 a0, .int .i64 a1, .slice ao a2.length ac] 49)).alloc (.cells #[.int .i64 b0, .int .i64 b1, .slice bo b2.length bc] 49)).alloc (.cells #[.int .i64 0, .int .i64 0] 86)) (Ext.refl _)
  go_enter Tryz.func44, Tryz.ntmps44
  go_upto_region 3 with (first
    | (go_at_call 37; have hgd := X1; refine (pSide_any _ b0 b1 _ b2 a0 (HB.out.ext (HX0.out.trans X1.out)) _ _ HYS.out).mono ?_; rintro e w2 ⟨rfl, hx⟩; dsimp only [Sd.cs]; have X2 := Lib.hid (Ext.trans X1.out hx); have D1 := Lib.hid (old1 (keepP (at0 w1 (.cells #[.int .i64 x0, .int .i64 x1, .int .i64 x2, .bool x3, .bool x4, .bool x5, .bool x6, .bool x7] 52)) hx) (.cells #[.int .i64 y0, .int .i64 y1, .int .i64 y2, .bool y3, .bool y4, .bool y5, .bool y6, .bool y7] 52)); obtain ⟨⟨⟨m0, m1, m2⟩, m3, m4, m5⟩, _⟩ := HAB.out w2 X2.out; clear hx hgd)
    | (go_at_call 37; refine (pSide_any _ a0 a1 _ a2 b0 (HA.out.ext HX0.out) _ _ HXS.out).mono ?_; rintro e w1 ⟨rfl, hx⟩; dsimp only [Sd.cs]; have X1 : Hid (Ext (((w.alloc (.cells #[.int .i64 a0, .int .i64 a1, .slice ao a2.length ac] 49)).alloc (.cells #[.int .i64 b0, .int .i64 b1, .slice bo b2.length bc] 49)).alloc (.cells #[.int .i64 0, .int .i64 0] 86)) (w1.alloc (.cells #[.int .i64 x0, .int .i64 x1, .int .i64 x2, .bool x3, .bool x4, .bool x5, .bool x6, .bool x7] 52))) := Lib.hid (hx.alloc _); obtain ⟨⟨⟨n0, n1, n2⟩, n3, n4, n5⟩, _⟩ := HAB.out (w1.alloc (.cells #[.int .i64 x0, .int .i64 x1, .int .i64 x2, .bool x3, .bool x4, .bool x5, .bool x6, .bool x7] 52)) X1.out; clear hx))
  obtain ⟨W2, hW2⟩ : ∃ W2, W2 = w2.alloc (.cells #[.int .i64 y0, .int .i64 y1, .int .i64 y2, .bool y3, .bool y4, .bool y5, .bool y6, .bool y7] 52) := ⟨_, rfl⟩
  have X3 : Hid (Ext (((w.alloc (.cells #[.int .i64 a0, .int .i64 a1, .slice ao a2.length ac] 49)).alloc (.cells #[.int .i64 b0, .int .i64 b1, .slice bo b2.length bc] 49)).alloc (.cells #[.int .i64 0, .int .i64 0] 86)) W2) := Lib.hid (hW2 ▸ X2.out.alloc _)
  have D2 : Hid (W2.heap[w2.heap.size]? = some (.cells #[.int .i64 y0, .int .i64 y1, .int .i64 y2, .bool y3, .bool y4, .bool y5, .bool y6, .bool y7] 52 (0, 0))) := Lib.hid (hW2 ▸ at0 w2 _)
  rw [← hW2] at D1 ⊢
  clear hW2 X2
  obtain ⟨G1, hG1⟩ : ∃ g, w1.heap.size = g := ⟨_, rfl⟩
  obtain ⟨G2, hG2⟩ : ∃ g, w2.heap.size = g := ⟨_, rfl⟩
  rw [hG2] at D2 ⊢
  rw [hG1] at D1 ⊢
  clear hG1 hG2
  have HRS : Hid (∀ V, Ext W2 V → V.heap[w.heap.size + 2]? = some (.cells #[.int .i64 0, .int .i64 0] 86 (0, 0))) := Lib.hid fun V hV => (HAB.out V (X3.out.trans hV)).2
  have HD : Hid (∀ V, Ext W2 V → (((V.cell? ⟨w.heap.size, 0, none⟩ = some (.int .i64 a0) ∧ V.cell? ⟨w.heap.size, 1, none⟩ = some (.int .i64 a1) ∧ V.cell? ⟨w.heap.size, 2, none⟩ = some (.slice ao a2.length ac)) ∧ V.cell? ⟨w.heap.size + 1, 0, none⟩ = some (.int .i64 b0) ∧ V.cell? ⟨w.heap.size + 1, 1, none⟩ = some (.int .i64 b1) ∧ V.cell? ⟨w.heap.size + 1, 2, none⟩ = some (.slice bo b2.length bc))) ∧ V.heap[G1]? = some (.cells #[.int .i64 x0, .int .i64 x1, .int .i64 x2, .bool x3, .bool x4, .bool x5, .bool x6, .bool x7] 52 (0, 0)) ∧ V.heap[G2]? = some (.cells #[.int .i64 y0, .int .i64 y1, .int .i64 y2, .bool y3, .bool y4, .bool y5, .bool y6, .bool y7] 52 (0, 0))) := Lib.hid fun V hV => ⟨(HAB.out V (X3.out.trans hV)).1, keepP D1.out hV, keepP D2.out hV⟩
  obtain ⟨⟨⟨⟨r0, r1⟩, r2, r3⟩, ⟨r4, r5⟩, r6, r7⟩, ⟨⟨s0, s1⟩, s2, s3⟩, ⟨s4, s5⟩, s6, s7⟩ := And.intro (cells8P D1.out) (cells8P D2.out)
  have HXW := Lib.hid (HX0.out.trans X3.out)
  clear D1 D2 X1 X3
  cases xb
  · have HZ : Hid ((r, t) = ((⟨0, 0⟩ : Arc), false)) := Lib.hid (HR2.out.symm.trans (by simp))
    go_wp2_with (first | refine haltst 86 ?_)
    refine .inl ?_
    refine st_l 86 (.tmp 6) (.tmp 40) (w.heap.size + 2) 0 86 #[.int .i64 0, .int .i64 0] #[.int .i64 0, .int .i64 0] #[.int .i64 0, .int .i64 0] rfl rfl (HRS.out W2 (Ext.refl _)) (by kernel_rfl) (by simp) rfl rfl ?_
    intro W hW oW
    simp only [Act.put]
    go_wp2
    obtain ⟨rfl, rfl⟩ : r = ⟨_, _⟩ ∧ t = false := by have := HZ.out; simpa only [Prod.mk.injEq] using this
    exact bodyPost_ret (v := .tuple #[.agg #[.int .i64 0, .int .i64 0], .bool false]) (res_ct 7 rfl rfl hW uArc (by kernel_rfl)) rfl ⟨rfl, ext_off (HXW.out.trans (Ext.refl _)) oW (fun k hk => by omega)⟩
  cases yb
  · have HZ : Hid ((r, t) = ((⟨0, 0⟩ : Arc), false)) := Lib.hid (HR2.out.symm.trans (by simp))
    go_wp2_with (first | refine haltst 86 ?_)
    refine .inl ?_
    refine st_l 86 (.tmp 6) (.tmp 40) (w.heap.size + 2) 0 86 #[.int .i64 0, .int .i64 0] #[.int .i64 0, .int .i64 0] #[.int .i64 0, .int .i64 0] rfl rfl (HRS.out W2 (Ext.refl _)) (by kernel_rfl) (by simp) rfl rfl ?_
    intro W hW oW
    simp only [Act.put]
    go_wp2
    obtain ⟨rfl, rfl⟩ : r = ⟨_, _⟩ ∧ t = false := by have := HZ.out; simpa only [Prod.mk.injEq] using this
    exact bodyPost_ret (v := .tuple #[.agg #[.int .i64 0, .int .i64 0], .bool false]) (res_ct 7 rfl rfl hW uArc (by kernel_rfl)) rfl ⟨rfl, ext_off (HXW.out.trans (Ext.refl _)) oW (fun k hk => by omega)⟩
  by_cases hep : x1 = y1
  · subst hep
    have HR3 : Hid ((if aheadB x3 x4 y3 y4 (decide ((⟨b0, a0, 1, x1, 0⟩ : Ml) ∈ m)) = true then ((⟨a0, b0⟩ : Arc), true)
     else if aheadB y3 y4 x3 x4 (decide ((⟨a0, b0, 1, x1, 0⟩ : Ml) ∈ m)) = true then (⟨b0, a0⟩, true) else (⟨0, 0⟩, false)) = (r, t)) := Lib.hid (by have := HR2.out; simpa using this)
    clear HR2
    go_upto_region 6 with (fail)
    obtain ⟨W3, hW3⟩ : ∃ W3, W3 = W2.alloc (.cells #[.int .i64 1, .int .i64 x1, .int .i64 0] 80) := ⟨_, rfl⟩
    have Y3 : Hid (Ext W2 W3) := Lib.hid (hW3 ▸ (Ext.refl _).alloc _)
    have HFK : Hid (∀ V, Ext W3 V → V.cell? ⟨W2.heap.size, 0, none⟩ = some (.int .i64 1) ∧ V.cell? ⟨W2.heap.size, 1, none⟩ = some (.int .i64 x1) ∧ V.cell? ⟨W2.heap.size, 2, none⟩ = some (.int .i64 0)) := Lib.hid fun V hV => by
      have q : W3.heap[W2.heap.size]? = some (.cells #[.int .i64 1, .int .i64 x1, .int .i64 0] 80 (0, 0)) := hW3 ▸ at0 W2 _
      have q := keepP q hV
      exact ⟨blk_cell q 0 rfl, blk_cell q 1 rfl, blk_cell q 2 rfl⟩
    rw [← hW3]
    clear hW3 r0 r1 r2 r3 r4 r5 r6 r7 s0 s1 s2 s3 s4 s5 s6 s7
    obtain ⟨⟨⟨e0, e1, e2⟩, e3, e4, e5⟩, d1, d2⟩ := HD.out W3 Y3.out
    obtain ⟨⟨⟨⟨r0, r1⟩, r2, r3⟩, ⟨r4, r5⟩, r6, r7⟩, ⟨⟨s0, s1⟩, s2, s3⟩, ⟨s4, s5⟩, s6, s7⟩ := And.intro (cells8P d1) (cells8P d2)
    obtain ⟨f0, f1, f2⟩ := HFK.out W3 (Ext.refl _)
    clear d1 d2
    obtain ⟨p, hp⟩ : ∃ p, aheadB x3 x4 y3 y4 (decide ((⟨b0, a0, 1, x1, 0⟩ : Ml) ∈ m)) = p := ⟨_, rfl⟩
    have HP := Lib.hid hp
    rw [hp] at HR3
    clear hp
    cases p
    · go_upto_region 8 with (go_at_call 78; refine (pAhead_any _ ⟨x0, x1, x2, x3, x4, x5, x6, x7⟩ ⟨y0, x1, y2, y3, y4, y5, y6, y7⟩ ⟨b0, a0, 1, x1, 0⟩ _ m (HM.out.ext (HXW.out.trans Y3.out)) _ HP.out).mono ?_; rintro e w4 ⟨rfl, hx⟩; have Y4 := Lib.hid hx; clear hx)
      clear r0 r1 r2 r3 r4 r5 r6 r7 s0 s1 s2 s3 s4 s5 s6 s7 f0 f1 f2 e0 e1 e2 e3 e4 e5
      obtain ⟨⟨⟨e0, e1, e2⟩, e3, e4, e5⟩, d1, d2⟩ := HD.out w4 (Y3.out.trans Y4.out)
      obtain ⟨⟨⟨⟨r0, r1⟩, r2, r3⟩, ⟨r4, r5⟩, r6, r7⟩, ⟨⟨s0, s1⟩, s2, s3⟩, ⟨s4, s5⟩, s6, s7⟩ := And.intro (cells8P d1) (cells8P d2)
      obtain ⟨f0, f1, f2⟩ := HFK.out w4 Y4.out
      clear d1 d2
      obtain ⟨q, hq⟩ : ∃ q, aheadB y3 y4 x3 x4 (decide ((⟨a0, b0, 1, x1, 0⟩ : Ml) ∈ m)) = q := ⟨_, rfl⟩
      have HQ := Lib.hid hq
      rw [hq] at HR3
      clear hq
      cases q
      · have HZ : Hid ((r, t) = ((⟨0, 0⟩ : Arc), false)) := Lib.hid (HR3.out.symm.trans (by simp))
        go_wp2_with (first | (go_at_call 78; refine (pAhead_any _ ⟨y0, x1, y2, y3, y4, y5, y6, y7⟩ ⟨x0, x1, x2, x3, x4, x5, x6, x7⟩ ⟨a0, b0, 1, x1, 0⟩ _ m (HM.out.ext (HXW.out.trans (Y3.out.trans Y4.out))) _ HQ.out).mono ?_; rintro e w5 ⟨rfl, hx⟩; have Y5 := Lib.hid (Y4.out.trans hx); clear hx e0 e1 e2 e3 e4 e5; obtain ⟨⟨⟨i0, i1, i2⟩, i3, i4, i5⟩, _, _⟩ := HD.out w5 (Y3.out.trans Y5.out)) | refine haltst 86 ?_)
        refine .inl ?_
        refine st_l 86 (.tmp 6) (.tmp 74) (w.heap.size + 2) 0 86 #[.int .i64 0, .int .i64 0] #[.int .i64 0, .int .i64 0] #[.int .i64 0, .int .i64 0] rfl rfl (HRS.out w5 (Y3.out.trans Y5.out)) (by kernel_rfl) (by simp) rfl rfl ?_
        intro W hW oW
        simp only [Act.put]
        go_wp2
        obtain ⟨rfl, rfl⟩ : r = ⟨_, _⟩ ∧ t = false := by have := HZ.out; simpa only [Prod.mk.injEq] using this
        exact bodyPost_ret (v := .tuple #[.agg #[.int .i64 0, .int .i64 0], .bool false]) (res_ct 7 rfl rfl hW uArc (by kernel_rfl)) rfl ⟨rfl, ext_off (HXW.out.trans (Y3.out.trans Y5.out)) oW (fun k hk => by omega)⟩
      · have HZ : Hid ((r, t) = ((⟨b0, a0⟩ : Arc), true)) := Lib.hid (HR3.out.symm.trans (by simp))
        go_wp2_with (first | (go_at_call 78; refine (pAhead_any _ ⟨y0, x1, y2, y3, y4, y5, y6, y7⟩ ⟨x0, x1, x2, x3, x4, x5, x6, x7⟩ ⟨a0, b0, 1, x1, 0⟩ _ m (HM.out.ext (HXW.out.trans (Y3.out.trans Y4.out))) _ HQ.out).mono ?_; rintro e w5 ⟨rfl, hx⟩; have Y5 := Lib.hid (Y4.out.trans hx); clear hx e0 e1 e2 e3 e4 e5; obtain ⟨⟨⟨i0, i1, i2⟩, i3, i4, i5⟩, _, _⟩ := HD.out w5 (Y3.out.trans Y5.out)) | refine haltst 86 ?_)
        refine .inl ?_
        refine st_l 86 (.tmp 6) (.tmp 73) (w.heap.size + 2) 0 86 #[.int .i64 0, .int .i64 0] #[.int .i64 b0, .int .i64 a0] #[.int .i64 b0, .int .i64 a0] rfl rfl (HRS.out w5 (Y3.out.trans Y5.out)) (by kernel_rfl) (by simp) rfl rfl ?_
        intro W hW oW
        simp only [Act.put]
        go_wp2
        obtain ⟨rfl, rfl⟩ : r = ⟨_, _⟩ ∧ t = true := by have := HZ.out; simpa only [Prod.mk.injEq] using this
        exact bodyPost_ret (v := .tuple #[.agg #[.int .i64 b0, .int .i64 a0], .bool true]) (res_ct 7 rfl rfl hW uArc (by kernel_rfl)) rfl ⟨rfl, ext_off (HXW.out.trans (Y3.out.trans Y5.out)) oW (fun k hk => by omega)⟩
    · have HZ : Hid ((r, t) = ((⟨a0, b0⟩ : Arc), true)) := Lib.hid (HR3.out.symm.trans (by simp))
      go_upto_region 7 with (go_at_call 78; refine (pAhead_any _ ⟨x0, x1, x2, x3, x4, x5, x6, x7⟩ ⟨y0, x1, y2, y3, y4, y5, y6, y7⟩ ⟨b0, a0, 1, x1, 0⟩ _ m (HM.out.ext (HXW.out.trans Y3.out)) _ HP.out).mono ?_; rintro e w4 ⟨rfl, hx⟩; have Y4 := Lib.hid hx; clear hx)
      obtain ⟨⟨⟨i0, i1, i2⟩, i3, i4, i5⟩, _, _⟩ := HD.out w4 (Y3.out.trans Y4.out)
      go_wp2_with (first | refine haltst 86 ?_)
      refine .inl ?_
      refine st_l 86 (.tmp 6) (.tmp 58) (w.heap.size + 2) 0 86 #[.int .i64 0, .int .i64 0] #[.int .i64 a0, .int .i64 b0] #[.int .i64 a0, .int .i64 b0] rfl rfl (HRS.out w4 (Y3.out.trans Y4.out)) (by kernel_rfl) (by simp) rfl rfl ?_
      intro W hW oW
      simp only [Act.put]
      go_wp2
      obtain ⟨rfl, rfl⟩ : r = ⟨_, _⟩ ∧ t = true := by have := HZ.out; simpa only [Prod.mk.injEq] using this
      exact bodyPost_ret (v := .tuple #[.agg #[.int .i64 a0, .int .i64 b0], .bool true]) (res_ct 7 rfl rfl hW uArc (by kernel_rfl)) rfl ⟨rfl, ext_off (HXW.out.trans (Y3.out.trans Y4.out)) oW (fun k hk => by omega)⟩
  · have hne : (x1 != y1) = true := by simp [hep]
    have HZ : Hid ((r, t) = ((⟨0, 0⟩ : Arc), false)) := Lib.hid (HR2.out.symm.trans (by simp [hep]))
    clear hep
    go_wp2_with (first | refine haltst 86 ?_)
    refine .inl ?_
    refine st_l 86 (.tmp 6) (.tmp 40) (w.heap.size + 2) 0 86 #[.int .i64 0, .int .i64 0] #[.int .i64 0, .int .i64 0] #[.int .i64 0, .int .i64 0] rfl rfl (HRS.out W2 (Ext.refl _)) (by kernel_rfl) (by simp) rfl rfl ?_
    intro W hW oW
    simp only [Act.put]
    go_wp2
    obtain ⟨rfl, rfl⟩ : r = ⟨_, _⟩ ∧ t = false := by have := HZ.out; simpa only [Prod.mk.injEq] using this
    exact bodyPost_ret (v := .tuple #[.agg #[.int .i64 0, .int .i64 0], .bool false]) (res_ct 7 rfl rfl hW uArc (by kernel_rfl)) rfl ⟨rfl, ext_off (HXW.out.trans (Ext.refl _)) oW (fun k hk => by omega)⟩

end Go.Proofs.YtdfleocknaackaaGreat
