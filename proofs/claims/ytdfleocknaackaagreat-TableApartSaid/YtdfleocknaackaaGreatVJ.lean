/- Layer 14, the law: no two neighbours eat at once; who eats has all forks, dirty. -/
import Derived.Test.YtdfleocknaackaaGreatVH
namespace Go.Proofs.YtdfleocknaackaaGreat
open Go.RowKit

set_option maxRecDepth 100000 in
set_option maxHeartbeats 16000000 in
theorem isApart_any (W : World) (gb : Nat) (N : Int) (gv : Value) (E : List Edge) (ok : OkG N E) (hg : W.heap[gb]? = some (.cells #[.int .i64 N, gv] 24 (0, 0))) (hE : Sl W gv E) (vd vm : Value) (ds : List Dn) (ms : List Ml) (h : SV W vd vm ds ms) (hgd : GoodE N E ds ms) :
    Calls Tryz.prog 16 #[.agg #[vd, vm], .pointer (some ⟨gb, 0, none⟩)] W fun e W' => e = .returned (.bool true) ∧ Ext W W' := by
  obtain ⟨vo, vc, rfl⟩ := hE.len
  obtain ⟨ao, c, bo, d, rfl, rfl⟩ := h.len
  obtain ⟨W0, hW0⟩ : ∃ W0, W0 = W.alloc (.cells #[.slice ao ds.length c, .slice bo ms.length d] 31) := ⟨_, rfl⟩
  have X0 : Hid (Ext W W0) := Lib.hid (hW0 ▸ (Ext.refl W).alloc _)
  have B0 : Hid (W0.heap[W.heap.size]? = some (.cells #[.slice ao ds.length c, .slice bo ms.length d] 31 (0, 0))) := Lib.hid (hW0 ▸ at0 W _)
  have HW0 := Lib.hid hW0
  have HV := Lib.hid (h.ext X0.out)
  have HE := Lib.hid (hE.ext X0.out)
  have HGB := Lib.hid (keepU hg X0.out)
  have HGD := Lib.hid hgd
  have HSM := Lib.hid (hgd.sm ok)
  have hlen : ds.length = N.toNat := hgd.len
  have hN0 := ok.n0
  have hN64 := ok.n64
  have HSC : Hid (∀ V, Ext W0 V → V.cell? ⟨W.heap.size, 0, none⟩ = some (.slice ao ds.length c) ∧ V.cell? ⟨W.heap.size, 1, none⟩ = some (.slice bo ms.length d)) := Lib.hid fun V hV => cells2S (keepU B0.out hV)
  have HGC : Hid (∀ V, Ext W0 V → V.cell? ⟨gb, 0, none⟩ = some (.int .i64 N) ∧ V.cell? ⟨gb, 1, none⟩ = some (.slice vo E.length vc)) := Lib.hid fun V hV => cells2S (keepU HGB.out hV)
  have HAP : Hid (∀ a b : Int, a ∈ phs ds 2 → b ∈ phs ds 2 → decide (btw a b ∈ E) = false) := Lib.hid fun a b ha hb => decide_eq_false (hgd.apart ha hb)
  have HHA : Hid (∀ a : Int, a ∈ phs ds 2 → ∃ A : Nat, a = A ∧ A < ds.length ∧ ∀ s ∈ (ds.getD A ⟨0, 0, []⟩).sides, s.fork = true ∧ s.dirty = true) := Lib.hid fun a ha => by
    obtain ⟨h1, h2, h3⟩ := hgd.hasAll ha
    exact ⟨a.toNat, by omega, by omega, h3⟩
  have HPH := Lib.hid (phases_any W0 _ _ ds ms HV.out (by have := HSM.out.n; omega) 2)
  have hpl : (phs ds 2).length ≤ 100 := by
    unfold phs
    rw [List.length_map]
    exact Nat.le_trans (List.length_filter_le _ _) (by have := HSM.out.n; omega)
  obtain ⟨P, hP⟩ : ∃ P, P = phs ds 2 := ⟨_, rfl⟩
  rw [← hP] at HAP HHA HPH hpl
  obtain ⟨k0, k1⟩ := HSC.out W0 (Ext.refl _)
  clear h hW0 ok hg hE hgd hP hlen hN0 hN64
  go_enter Tryz.func16, Tryz.ntmps16
  go_upto_region 1 with (fail)
  rw [← HW0.out]
  go_wp2_with (go_at_call 17; refine HPH.out.mono ?_; rintro e w1 ⟨vp, rfl, op, hx⟩; obtain ⟨pa, pc, rfl⟩ := op.sl.len; have HP := Lib.hid op.sl; have X1 : Hid (Ext W0 w1) := Lib.hid hx; clear op hx)
  clear k0 k1
  go_loopw [5] (fun i wr => ∃ k : Nat, k ≤ P.length ∧ i = .int .i64 k ∧ Hid (Ext w1 wr)) (fun i _ => P.length - (intOf i).toNat)
  case atStart => exact ⟨0, Nat.zero_le _, rfl, Lib.hid (Ext.refl _)⟩
  case round =>
    obtain ⟨k, hk, rfl, HX⟩ := hrel
    by_cases hlt : k < P.length
    · have hki : (k : Int) < (P.length : Int) := by omega
      obtain ⟨pb, po, pv, hpv, hpk, hpa, hn1, hnc1, hc631, hcellP⟩ : ∃ b off, ∃ y : Int, y = P.getD k 0 ∧ P[k]? = some y ∧ pa = some ⟨b, off, none⟩ ∧ True ∧ P.length ≤ pc ∧ pc ≤ 9223372036854775807 ∧ ∀ j (hj : j < P.length) V, Ext w1 V → V.cell? ⟨b, off + j, none⟩ = some (.int .i64 (P.getD j 0)) := by
        rcases HP.out.parts with ⟨h, _⟩ | ⟨b, off, c', hv, h1, h2, h3, _, h4⟩
        · rw [h] at hlt; simp at hlt
        · simp only [Value.slice.injEq] at hv
          obtain ⟨rfl, _, rfl⟩ := hv
          refine ⟨b, off, _, rfl, by simp [hlt], rfl, trivial, h1, h2, fun j hj V hV => ?_⟩
          have := h4 j (P.getD j 0) (by simp [hj]) 0 _ rfl
          rw [show off + (j * Elem.k Int + 0) = off + j from by show off + (j * 1 + 0) = _; omega] at this
          exact (hV.cell (p := ⟨b, off + j, none⟩) h3).trans this
      subst hpa
      have HCP := Lib.hid hcellP
      have HPK : Hid (pv ∈ P) := Lib.hid (List.mem_of_getElem? hpk)
      have HPV := Lib.hid hpv
      obtain ⟨W5, hW5⟩ : ∃ W5, W5 = wr := ⟨_, rfl⟩
      rw [← hW5] at HX ⊢
      clear hcellP hpk hpv hn1 hW5
      go_wp2
      go_loopw [6] (fun i wr => ∃ j : Nat, j ≤ k ∧ i = .int .i64 j ∧ Hid (Ext W5 wr)) (fun i _ => k - (intOf i).toNat)
      case atStart => exact ⟨0, Nat.zero_le _, rfl, Lib.hid (Ext.refl _)⟩
      case round =>
        obtain ⟨j, hj, rfl, HX2⟩ := hrel
        by_cases hlt2 : j < k
        · have hji : (j : Int) < (P.length : Int) := by omega
          have HH : Hid (∀ V, Ext W0 V → _) := Lib.hid fun V hV => refHas_val V N _ E pv (P.getD j 0) (HE.out.ext hV) false (HAP.out _ _ HPK.out (by rw [List.getD_eq_getElem?_getD, List.getElem?_eq_getElem (by omega)]; exact List.getElem_mem _))
          have HXX : Hid (Ext w1 wr) := Lib.hid (HX.out.trans HX2.out)
          have HJC : Hid (∀ V, Ext w1 V → V.cell? ⟨pb, po + j, none⟩ = some (.int .i64 (P.getD j 0))) := Lib.hid fun V hV => HCP.out j (by omega) V hV
          have HKC : Hid (∀ V, Ext w1 V → V.cell? ⟨pb, po + k, none⟩ = some (.int .i64 pv)) := Lib.hid fun V hV => by rw [HPV.out]; exact HCP.out k (by omega) V hV
          obtain ⟨qj, hqj⟩ : ∃ q, q = P.getD j 0 := ⟨_, rfl⟩
          rw [← hqj] at HH HJC
          clear hqj
          go_upto_region 8 with (fail)
          go_wp2_with fail
          refine wp_region_M_lit (by kernel_rfl) ?_
          refine tv 0 (hv := by intro w' hw'; obtain ⟨c0, c1⟩ := HGC.out w' (X1.out.trans (HXX.out.trans hw')); go_simp; first | done | with_reducible rfl) (h := ?_)
          refine tv 1 (h := ?_)
          refine tv 2 (h := ?_)
          refine tv 3 (hv := by intro w' hw'; have hz := hki; go_simp; first | done | with_reducible rfl) (h := ?_)
          refine tv 4 (hv := by intro w' hw'; have hz := HKC.out w' (HXX.out.trans hw'); go_simp; first | done | with_reducible rfl) (h := ?_)
          refine tv 5 (h := ?_)
          refine tv 6 (h := ?_)
          refine tv 7 (hv := by intro w' hw'; have hz := hji; go_simp; first | done | with_reducible rfl) (h := ?_)
          refine tv 8 (hv := by intro w' hw'; have hz := HJC.out w' (HXX.out.trans hw'); go_simp; first | done | with_reducible rfl) (h := ?_)
          (refine takeG 9 (v := ?_) (hv := fun w' hw' => ?_) (h := ?_); rotate_left; focus (go_simp; refine ⟨Ext.refl _, ?_⟩; (exact HH.out w' (X1.out.trans (HXX.out.trans hw'))))); (simp only [Act.put, List.setIfInBounds_toArray, List.set])
          (refine doneM (by kernel_rfl) ?_; intro w' hw'; show _)
          have HX3 := Lib.hid (HX2.out.trans hw')
          clear hw'
          go_wp2
          go_roundw
          case rel => exact ⟨j + 1, by omega, by go_num, HX3⟩
          case measure => simp [intOf]; omega
        · obtain ⟨A, hpA, hAL, hAS⟩ := HHA.out pv HPK.out
          subst hpA
          obtain ⟨b3, o3, so, sc, dd, hyk, hao, hn3, hnc3, hc633, hb3, hsl, hcell⟩ := HV.out.ds.dinerAt hAL
          subst hao
          have hdd : ds.getD A ⟨0, 0, []⟩ = dd := by rw [List.getD_eq_getElem?_getD, hyk]; rfl
          rw [hdd] at hAS
          have HAS := Lib.hid hAS
          have HDC := Lib.hid hcell
          have HSL := Lib.hid hsl.sl
          have hAi : (A : Int) < (ds.length : Int) := by omega
          have HXX : Hid (Ext w1 wr) := Lib.hid (HX.out.trans HX2.out)
          have HKC : Hid (∀ V, Ext w1 V → V.cell? ⟨pb, po + k, none⟩ = some (.int .i64 (A : Int))) := Lib.hid fun V hV => by rw [HPV.out]; exact HCP.out k (by omega) V hV
          obtain ⟨e0, e1, e2⟩ := dd
          dsimp only at HAS HDC HSL
          clear hyk hn3 hsl hcell hAS hdd
          go_upto_region 10 with (fail)
          go_wp2_with fail
          refine wp_region_M_lit (by kernel_rfl) ?_
          refine tv 0 (h := ?_)
          refine tv 1 (hv := by intro w' hw'; obtain ⟨c0, c1⟩ := HSC.out w' (X1.out.trans (HXX.out.trans hw')); go_simp; first | done | with_reducible rfl) (h := ?_)
          refine tv 2 (h := ?_)
          refine tv 3 (h := ?_)
          refine tv 4 (hv := by intro w' hw'; have hz := hki; go_simp; first | done | with_reducible rfl) (h := ?_)
          refine tv 5 (hv := by intro w' hw'; have hz := HKC.out w' (HXX.out.trans hw'); go_simp; first | done | with_reducible rfl) (h := ?_)
          refine tv 6 (hv := by intro w' hw'; have hz := hAi; go_simp; first | done | with_reducible rfl) (h := ?_)
          refine tv 7 (hv := by intro w' hw'; obtain ⟨c0, c1, c2⟩ := HDC.out w' (X1.out.trans (HXX.out.trans hw')); go_simp; first | done | with_reducible rfl) (h := ?_)
          (refine runOne 8 (h := ?_); intro w' hw'; go_simp; refine ⟨Ext.alloc (Ext.refl _) _, ?_⟩; try (simp only [Act.put, List.setIfInBounds_toArray, List.set]))
          obtain ⟨gd, hgd⟩ : ∃ g, g = w'.heap.size := ⟨_, rfl⟩
          have GD := Lib.hid (at0 w' (.cells #[.int .i64 0, .int .i64 0, .slice none 0 0] 49))
          have HXW : Hid (Ext wr (w'.alloc (.cells #[.int .i64 0, .int .i64 0, .slice none 0 0] 49))) := Lib.hid (hw'.alloc _)
          have hgw : wr.heap.size ≤ gd := hgd ▸ Below.size hw'
          rw [← hgd] at GD ⊢
          replace hgd := Lib.hid hgd
          clear hw'
          refine runLate 9 (h := ?_)
          intro wq hq
          refine wp_st 49 (.tmp 7) (.tmp 39) rfl gd 0 49 _ #[.int .i64 e0, .int .i64 e1, .slice so e2.length sc] _ rfl rfl (keepU GD.out hq) (by kernel_rfl) (by simp) rfl rfl ?_
          intro W7 hW7 o7
          simp only [Act.put]
          (try (simp only [Act.put, List.setIfInBounds_toArray, List.set]))
          (refine lateDone (by kernel_rfl) ?_)
          have X7 : Hid (Ext wr W7) := Lib.hid (ext_off (HXW.out.trans hq) o7 (fun b hb => by omega))
          have D7 := Lib.hid hW7
          clear hW7 o7 hq
          have HX7 : Hid (Ext W0 W7) := Lib.hid (X1.out.trans (HXX.out.trans X7.out))
          have HS7 : Hid (Sl W7 (.slice so e2.length sc) e2) := Lib.hid (HSL.out.ext HX7.out)
          go_wp2
          go_loopw [8] (fun i wq => ∃ q : Nat, q ≤ e2.length ∧ i = .int .i64 q ∧ Hid (Ext W7 wq)) (fun i _ => e2.length - (intOf i).toNat)
          case atStart => exact ⟨0, Nat.zero_le _, rfl, Lib.hid (Ext.refl _)⟩
          case round =>
            obtain ⟨q, hq, rfl, HX8⟩ := hrel
            obtain ⟨i0, i1, i2⟩ := cells3U (keepU D7.out HX8.out)
            by_cases hlt3 : q < e2.length
            · obtain ⟨b5, o5, y, _, hyk, hso, hn5, hnc5, hc635, hb5, hcell⟩ := HS7.out.sidesAt hlt3
              subst hso
              obtain ⟨⟨⟨a0, a1⟩, a2, a3⟩, ⟨a4, a5⟩, a6, a7⟩ := hcell _ HX8.out
              obtain ⟨f1, f2⟩ := HAS.out y (List.mem_of_getElem? hyk)
              rw [f1] at a3
              rw [f2] at a4
              clear hcell hyk hn5 f1 f2 a0 a1 a2 a5 a6 a7
              go_wp2
              go_roundw
              case rel => exact ⟨q + 1, by omega, by go_num, HX8⟩
              case measure => simp [intOf]; omega
            · go_wp2
              go_roundw
              case rel => exact ⟨k + 1, by omega, by go_num, Lib.hid (HXX.out.trans (X7.out.trans HX8.out))⟩
              case measure => simp [intOf]; omega
    · go_wp2
      go_ret
      exact ⟨rfl, X0.out.trans (X1.out.trans HX.out)⟩
end Go.Proofs.YtdfleocknaackaaGreat
