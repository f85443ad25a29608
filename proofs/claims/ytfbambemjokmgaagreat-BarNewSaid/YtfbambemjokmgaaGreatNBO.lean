/- Texts of this seat. -/
import Derived.Test.YtfbambemjokmgaaGreatNBC
import Derived.Test.YtfbambemjokmgaaGreatNBD
import Derived.Test.YtfbambemjokmgaaGreatNBI
import Derived.Test.YtfbambemjokmgaaGreatNBL
namespace Go.Proofs.YtfbambemjokmgaaGreat
open Go.RowKit
set_option maxRecDepth 100000 in
set_option maxHeartbeats 16000000 in
theorem awakeB_any (w : World) : Calls Tryz.prog 11 #[] w fun e w' => e = .returned (.bool true) ∧ Ext w w' := by
  go_enter Tryz.func11, Tryz.ntmps11
  go_wp2_with (first
    | (go_at_call 43; refine (bw_new ▸ bNew_ok _ 2 _ awE (Sl.litAt w _ rfl [(⟨0, 1⟩ : Edge)] (by simp)) aw_ok 2 aw_ends).mono ?_; rintro e u1 ⟨vd, vm, rfl, sv, hx⟩; dsimp only at sv ⊢; obtain ⟨a1, n1, c1, b1, m1, d1, rfl, rfl⟩ := sv.sh; have U1 := Lib.hid sv; have Y1 : Hid (Ext w u1) := Lib.hid (Ext.trans ((Ext.refl w).alloc _) hx); clear sv hx)
    | refine haltst 25 ?_)
  refine .inl ?_
  obtain ⟨g1, hg1⟩ : ∃ g, g = u1.heap.size := ⟨_, rfl⟩
  have hgw1 : w.heap.size ≤ g1 := hg1 ▸ Below.size Y1.out
  have G1 := Lib.hid (at0 u1 (.cells #[.slice none 0 0, .slice none 0 0] 25))
  rw [← hg1] at G1 ⊢
  replace hg1 := Lib.hid hg1
  refine st_l 25 (.tmp 1) (.tmp 17) g1 0 25 _ #[.slice a1 n1 c1, .slice b1 m1 d1] _ rfl rfl G1.out (by kernel_rfl) (by simp) rfl rfl ?_
  intro W1 hW1 o1
  simp only [Act.put]
  have Z1 : Hid (Ext w W1) := Lib.hid (ext_off (Y1.out.alloc _) o1 (fun b hb => by omega))
  have T1 := Lib.hid ((U1.out.ext ((Ext.refl _).alloc _)).off G1.out o1)
  have C1 := Lib.hid hW1
  clear hW1 o1 U1 G1
  obtain ⟨k0, k1⟩ := cells2S C1.out
  go_wp2_with (first
    | (go_at_call 41; refine (bw_1 ▸ bOpen_any W1 _ _ bw0 [] T1.out bw_s0 0 0 _ [] (slNoneU _) (by simp)).mono ?_; rintro e u2 ⟨vd, vm, rfl, sv, hx⟩; dsimp only at sv ⊢; obtain ⟨a2, n2, c2, b2, m2, d2, rfl, rfl⟩ := sv.sh; have U2 := Lib.hid sv; have Y2 := Lib.hid hx; clear sv hx)
    | refine haltst 25 ?_)
  refine .inl ?_
  obtain ⟨g2, hg2⟩ : ∃ g, g = u2.heap.size := ⟨_, rfl⟩
  have hgw2 : W1.heap.size ≤ g2 := hg2 ▸ Below.size Y2.out
  have G2 := Lib.hid (at0 u2 (.cells #[.slice none 0 0, .slice none 0 0] 25))
  rw [← hg2] at G2 ⊢
  replace hg2 := Lib.hid hg2
  refine st_l 25 (.tmp 3) (.tmp 22) g2 0 25 _ #[.slice a2 n2 c2, .slice b2 m2 d2] _ rfl rfl G2.out (by kernel_rfl) (by simp) rfl rfl ?_
  intro W2 hW2 o2
  simp only [Act.put]
  have Z2 : Hid (Ext W1 W2) := Lib.hid (ext_off (Y2.out.alloc _) o2 (fun b hb => by omega))
  have T2 := Lib.hid ((U2.out.ext ((Ext.refl _).alloc _)).off G2.out o2)
  have C2 := Lib.hid hW2
  clear hW2 o2 U2 G2 k0 k1
  obtain ⟨k0, k1⟩ := cells2S C2.out
  go_wp2_with (first
    | (go_at_call 41; refine (bw_2 ▸ bOpen_any W2 _ _ bw1.1 bw1.2 T2.out bw_s1 1 0 _ [] (slNoneU _) (by simp)).mono ?_; rintro e u3 ⟨vd, vm, rfl, sv, hx⟩; dsimp only at sv ⊢; obtain ⟨a3, n3, c3, b3, m3, d3, rfl, rfl⟩ := sv.sh; have U3 := Lib.hid sv; have Y3 := Lib.hid hx; clear sv hx)
    | refine haltst 25 ?_)
  refine .inl ?_
  refine st_l 25 (.tmp 3) (.tmp 27) g2 0 25 _ #[.slice a3 n3 c3, .slice b3 m3 d3] _ rfl rfl (keepU C2.out Y3.out) (by kernel_rfl) (by simp) rfl rfl ?_
  intro W3 hW3 o3
  simp only [Act.put]
  have hg21 : W1.heap.size ≤ g2 := hgw2
  have hg12 : g1 < W1.heap.size := blk_lt C1.out
  have Z3 : Hid (Ext W1 W3) := Lib.hid (ext_off (Z2.out.trans Y3.out) o3 (fun b hb => by omega))
  have T3 := Lib.hid (U3.out.off (keepU C2.out Y3.out) o3)
  have C3 := Lib.hid hW3
  have P3 := Lib.hid (keepU C1.out Z3.out)
  have V3 := Lib.hid (T1.out.ext Z3.out)
  clear hW3 o3 U3 k0 k1
  obtain ⟨k0, k1⟩ := cells2S P3.out
  go_wp2_with (first
    | (go_at_call 41; refine (bw_3 ▸ bOpen_any (W3.alloc (.cells #[.int .i64 1] 3)) _ _ bw0 [] (V3.out.ext ((Ext.refl _).alloc _)) bw_s0 0 0 _ [1] (Sl.litAt W3 _ rfl [(1 : Int)] (by simp)) (by simp)).mono ?_; rintro e u6 ⟨vd, vm, rfl, sv, hx⟩; dsimp only at sv ⊢; obtain ⟨a6, n6, c6, b6, m6, d6, rfl, rfl⟩ := sv.sh; have U6 := Lib.hid sv; have Y6 : Hid (Ext W3 u6) := Lib.hid (Ext.trans ((Ext.refl _).alloc _) hx); clear sv hx)
    | refine haltst 25 ?_)
  refine .inl ?_
  obtain ⟨g6, hg6⟩ : ∃ g, g = u6.heap.size := ⟨_, rfl⟩
  have hgw6 : W3.heap.size ≤ g6 := hg6 ▸ Below.size Y6.out
  have G6 := Lib.hid (at0 u6 (.cells #[.slice none 0 0, .slice none 0 0] 25))
  rw [← hg6] at G6 ⊢
  replace hg6 := Lib.hid hg6
  refine st_l 25 (.tmp 6) (.tmp 43) g6 0 25 _ #[.slice a6 n6 c6, .slice b6 m6 d6] _ rfl rfl G6.out (by kernel_rfl) (by simp) rfl rfl ?_
  intro W6 hW6 o6
  simp only [Act.put]
  have Z6 : Hid (Ext W3 W6) := Lib.hid (ext_off (Y6.out.alloc _) o6 (fun b hb => by omega))
  have T6 := Lib.hid ((U6.out.ext ((Ext.refl _).alloc _)).off G6.out o6)
  have C6 := Lib.hid hW6
  have C36 := Lib.hid (keepU C3.out Z6.out)
  have T36 := Lib.hid (T3.out.ext Z6.out)
  clear hW6 o6 U6 G6 k0 k1
  obtain ⟨k0, k1⟩ := cells2S C36.out
  go_wp2_with (first
    | (go_at_call 39; refine (bw_4 ▸ bClose_any W6 _ _ bw2.1 bw2.2 T36.out bw_s2 0 0).mono ?_; rintro e u8 ⟨vd, vm, rfl, sv, hx⟩; dsimp only at sv ⊢; obtain ⟨a8, n8, c8, b8, m8, d8, rfl, rfl⟩ := sv.sh; have U8 := Lib.hid sv; have Y8 := Lib.hid hx; clear sv hx)
    | refine haltst 25 ?_)
  refine .inl ?_
  obtain ⟨g8, hg8⟩ : ∃ g, g = u8.heap.size := ⟨_, rfl⟩
  have hgw8 : W6.heap.size ≤ g8 := hg8 ▸ Below.size Y8.out
  have G8 := Lib.hid (at0 u8 (.cells #[.slice none 0 0, .slice none 0 0] 25))
  rw [← hg8] at G8 ⊢
  replace hg8 := Lib.hid hg8
  refine st_l 25 (.tmp 8) (.tmp 48) g8 0 25 _ #[.slice a8 n8 c8, .slice b8 m8 d8] _ rfl rfl G8.out (by kernel_rfl) (by simp) rfl rfl ?_
  intro W8 hW8 o8
  simp only [Act.put]
  have Z8 : Hid (Ext W6 W8) := Lib.hid (ext_off (Y8.out.alloc _) o8 (fun b hb => by omega))
  have T8 := Lib.hid ((U8.out.ext ((Ext.refl _).alloc _)).off G8.out o8)
  have C8 := Lib.hid hW8
  have P8 := Lib.hid (keepU P3.out (Z6.out.trans Z8.out))
  have V8 := Lib.hid (V3.out.ext (Z6.out.trans Z8.out))
  clear hW8 o8 U8 G8 k0 k1
  obtain ⟨k0, k1⟩ := cells2S P8.out
  go_wp2_with (first
    | (go_at_call 48; refine (bw_5 ▸ bDeliver_any W8 _ _ bw0 [] V8.out bw_s0 0 1).mono ?_; rintro e u9 ⟨vd, vm, rfl, sv, hx⟩; dsimp only [noB] at sv ⊢; obtain ⟨a9, n9, c9, b9, m9, d9, rfl, rfl⟩ := sv.sh; have Y9 := Lib.hid hx; clear sv hx)
    | refine haltst 25 ?_)
  refine .inl ?_
  obtain ⟨g9, hg9⟩ : ∃ g, g = u9.heap.size := ⟨_, rfl⟩
  have hgw9 : W8.heap.size ≤ g9 := hg9 ▸ Below.size Y9.out
  have G9 := Lib.hid (at0 u9 (.cells #[.slice none 0 0, .slice none 0 0] 25))
  rw [← hg9] at G9 ⊢
  replace hg9 := Lib.hid hg9
  refine st_l 25 (.tmp 10) (.tmp 53) g9 0 25 _ #[.slice a9 n9 c9, .slice b9 m9 d9] _ rfl rfl G9.out (by kernel_rfl) (by simp) rfl rfl ?_
  intro W9 hW9 o9
  simp only [Act.put]
  have Z9 : Hid (Ext W8 W9) := Lib.hid (ext_off (Y9.out.alloc _) o9 (fun b hb => by omega))
  have C9 := Lib.hid hW9
  have Z39 : Hid (Ext W3 W9) := Lib.hid (Z6.out.trans (Z8.out.trans Z9.out))
  have HS : Hid (∀ V, Ext W9 V → V.cell? ⟨g1, 0, none⟩ = some (.slice a1 n1 c1) ∧ V.cell? ⟨g1, 1, none⟩ = some (.slice b1 m1 d1)) := Lib.hid fun V hV => cells2S (keepU P3.out (Z39.out.trans hV))
  have HX : Hid (∀ V, Ext W9 V → V.cell? ⟨g2, 0, none⟩ = some (.slice a3 n3 c3) ∧ V.cell? ⟨g2, 1, none⟩ = some (.slice b3 m3 d3)) := Lib.hid fun V hV => cells2S (keepU C3.out (Z39.out.trans hV))
  have HY : Hid (∀ V, Ext W9 V → V.cell? ⟨g6, 0, none⟩ = some (.slice a6 n6 c6) ∧ V.cell? ⟨g6, 1, none⟩ = some (.slice b6 m6 d6)) := Lib.hid fun V hV => cells2S (keepU C6.out (Z8.out.trans (Z9.out.trans hV)))
  have HZ : Hid (∀ V, Ext W9 V → V.cell? ⟨g8, 0, none⟩ = some (.slice a8 n8 c8) ∧ V.cell? ⟨g8, 1, none⟩ = some (.slice b8 m8 d8)) := Lib.hid fun V hV => cells2S (keepU C8.out (Z9.out.trans hV))
  have VS := Lib.hid (V3.out.ext Z39.out)
  have VX := Lib.hid (T3.out.ext Z39.out)
  have VY := Lib.hid (T6.out.ext (Z8.out.trans Z9.out))
  have VZ := Lib.hid (T8.out.ext Z9.out)
  have XW : Hid (Ext w W9) := Lib.hid (Z1.out.trans (Z3.out.trans Z39.out))
  clear hW9 o9 G9 k0 k1 P3 C3 C6 C8 T3 T6 T8 V3 C36 T36 P8 V8 C9 C1 C2 T1 T2
  obtain ⟨k0, k1⟩ := HX.out W9 (Ext.refl _)
  have hfs := fun (a : Option Addr) (n c : Nat) (u : Value) (w : World) => field_scene a n c u w
  go_wp2_with (first
    | (have hgd := Xf; go_at_call 26; refine (sceneB_any wf _ _ bw0 [] (VS.out.ext Xf.out) bw_s0).mono ?_; rintro e wg ⟨vd, vm, rfl, sv, hx⟩; obtain ⟨sa, sc, sb, sd, e1, e2⟩ := sv.len; rw [show (sceneK bw0).length = 2 from rfl] at e1; subst e1 e2; have Xg := Lib.hid (Xf.out.trans hx); clear sv hx)
    | (have hgd := Xe; go_at_call 24; refine (bSame_any we _ _ _ _ bw0 bw2.1 [] bw2.2 (VS.out.ext Xe.out) (VX.out.ext Xe.out) false bw_s).mono ?_; rintro e wf ⟨rfl, hx⟩; have Xf := Lib.hid (Xe.out.trans hx); obtain ⟨f0, f1⟩ := HS.out wf Xf.out; clear hx)
    | (have hgd := Xd; go_at_call 24; refine (bSame_any wd _ _ _ _ bw0 bw0 [] [] (VS.out.ext Xd.out) (VS.out.ext Xd.out) true (by simp)).mono ?_; rintro e we ⟨rfl, hx⟩; have Xe := Lib.hid (Xd.out.trans hx); obtain ⟨e0, e1⟩ := HS.out we Xe.out; obtain ⟨e2, e3⟩ := HX.out we Xe.out; clear hx)
    | (have hgd := Xc'; go_at_call 19; refine (bw_c ▸ countB3_any wc' _ _ bw0 [] (VS.out.ext Xc'.out) (by decide) 0 1 0 0 0 1 0 0 _ _ [] [] rfl rfl (by decide) _ _ rfl rfl rfl).mono ?_; rintro e wd ⟨rfl, hx⟩; have Xd := Lib.hid (Xc'.out.trans hx); obtain ⟨d0', d1'⟩ := HS.out wd Xd.out; clear hx)
    | (have hgd := Xc; go_at_call 17; refine (bCheck_any wc _ _ bw0 [] (VS.out.ext Xc.out) bw_s0 true bw_k).mono ?_; rintro e wc' ⟨rfl, hx⟩; dsimp only [cond]; have Xc' := Lib.hid (Xc.out.trans hx); obtain ⟨c0', c1'⟩ := HS.out wc' Xc'.out; clear hx)
    | (have hgd := Xb; go_at_call 22; refine (bw_w4 ▸ whoB_any wb _ _ bw4.1 bw4.2 (VZ.out.ext Xb.out) (by have := bw_s4.n; omega) 2).mono ?_; rintro e wc ⟨vp, rfl, op, hx⟩; obtain ⟨pa, pc, e1⟩ := op.sl.len; rw [show ([1] : List Int).length = 1 from rfl] at e1; subst e1; have Xc : Hid (Ext W9 wc) := Lib.hid (Xb.out.trans hx); obtain ⟨c0, c1_⟩ := HS.out wc Xc.out; clear op hx)
    | (have hgd := Xa; go_at_call 22; refine (bw_w3 ▸ whoB_any wa _ _ bw3.1 bw3.2 (VY.out.ext Xa.out) (by have := bw_s3.n; omega) 0).mono ?_; rintro e wb ⟨vp, rfl, op, hx⟩; obtain ⟨pa, pc, e1⟩ := op.sl.len; rw [show ([1] : List Int).length = 1 from rfl] at e1; subst e1; have Xb : Hid (Ext W9 wb) := Lib.hid (Xa.out.trans hx); obtain ⟨b0, b1_⟩ := HZ.out wb Xb.out; clear op hx)
    | (go_at_call 22; refine (bw_w2 ▸ whoB_any W9 _ _ bw2.1 bw2.2 VX.out (by have := bw_s2.n; omega) 2).mono ?_; rintro e wa ⟨vp, rfl, op, hx⟩; obtain ⟨pa, pc, e1⟩ := op.sl.len; rw [show ([0, 1] : List Int).length = 2 from rfl] at e1; subst e1; have Xa : Hid (Ext W9 wa) := Lib.hid hx; obtain ⟨a0, a1_⟩ := HY.out wa Xa.out; clear op hx))
  go_ret
  exact ⟨rfl, XW.out.trans Xg.out⟩
end Go.Proofs.YtfbambemjokmgaaGreat
