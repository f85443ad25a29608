/- Texts of this seat. -/
import Derived.Test.YtfbambemjokmgaaGreatNBT
import Derived.Test.YtfbambemjokmgaaGreatNBW
namespace Go.Proofs.YtfbambemjokmgaaGreat
open Go.RowKit
set_option maxRecDepth 100000 in
set_option maxHeartbeats 8000000 in
theorem isOneB_any (W : World) (gb : Nat) (N : Int) (gv : Value) (E : List Edge) (ok : OkG N E) (hN10 : N ≤ 10) (hg : W.heap[gb]? = some (.cells #[.int .i64 N, gv] 53 (0, 0))) (hE : Sl W gv E) (vd vm : Value) (ds : List Dk) (ms : List Ml) (h : BV W vd vm ds ms) (hgd : GoodBE N E ds ms) :
    Calls Tryz.prog 30 #[.agg #[vd, vm], .pointer (some ⟨gb, 0, none⟩)] W fun e W' => e = .returned (.bool true) ∧ Ext W W' := by
  obtain ⟨vo, vc, rfl⟩ := hE.len
  obtain ⟨ao, c, bo, d, rfl, rfl⟩ := h.len
  obtain ⟨W0, hW0⟩ : ∃ W0, W0 = W.alloc (.cells #[.slice ao ds.length c, .slice bo ms.length d] 25) := ⟨_, rfl⟩
  have X0 : Hid (Ext W W0) := Lib.hid (hW0 ▸ (Ext.refl W).alloc _)
  have B0 : Hid (W0.heap[W.heap.size]? = some (.cells #[.slice ao ds.length c, .slice bo ms.length d] 25 (0, 0))) := Lib.hid (hW0 ▸ at0 W _)
  have HW0 := Lib.hid hW0
  have HV := Lib.hid (h.ext X0.out)
  have HE := Lib.hid (hE.ext X0.out)
  have HGB := Lib.hid (keepU hg X0.out)
  have HGD := Lib.hid hgd
  have HOK := Lib.hid ok
  have HSM := Lib.hid (hgd.sm ok hN10)
  have HSC : Hid (∀ V, Ext W0 V → V.cell? ⟨W.heap.size, 0, none⟩ = some (.slice ao ds.length c) ∧ V.cell? ⟨W.heap.size, 1, none⟩ = some (.slice bo ms.length d)) := Lib.hid fun V hV => cells2S (keepU B0.out hV)
  have HGC : Hid (∀ V, Ext W0 V → V.cell? ⟨gb, 0, none⟩ = some (.int .i64 N) ∧ V.cell? ⟨gb, 1, none⟩ = some (.slice vo E.length vc)) := Lib.hid fun V hV => cells2S (keepU HGB.out hV)
  have hel := hE.length_le
  have HCK := Lib.hid (hgd.chk ok)
  clear h hW0 ok hg hE hgd hN10
  go_enter Tryz.func30, Tryz.ntmps30
  go_upto_region 1 with (fail)
  rw [← HW0.out]
  go_wp2
  go_loopw [4] (fun i wr => ∃ k : Nat, k ≤ E.length ∧ i = .int .i64 k ∧ Hid (Ext W0 wr)) (fun i _ => E.length - (intOf i).toNat)
  case atStart => exact ⟨0, Nat.zero_le _, rfl, Lib.hid (Ext.refl _)⟩
  case round =>
    obtain ⟨k, hk, rfl, HX⟩ := hrel
    obtain ⟨k2, k3⟩ := HGC.out wr HX.out
    by_cases hlt : k < E.length
    · have hki : (k : Int) < (E.length : Int) := by omega
      obtain ⟨eb, eo, hvo, hnc, hb, hcell⟩ : ∃ b off, vo = some ⟨b, off, none⟩ ∧ E.length ≤ vc ∧ vc ≤ 9223372036854775807 ∧ ∀ V, Ext W0 V → V.cell? ⟨b, off + k * 2, none⟩ = some (.int .i64 (E.getD k ⟨0, 0⟩).a) ∧ V.cell? ⟨b, off + k * 2 + 1, none⟩ = some (.int .i64 (E.getD k ⟨0, 0⟩).b) := by
        have hE := HE.out
        rcases hE.parts with ⟨rfl, _⟩ | ⟨b, off, c', hv, h1, h2, h3, _, h4⟩
        · simp at hlt
        · simp only [Value.slice.injEq] at hv
          obtain ⟨rfl, _, rfl⟩ := hv
          have e : E[k]? = some (E.getD k ⟨0, 0⟩) := by simp [hlt]
          refine ⟨b, off, rfl, h1, h2, fun V hV => ?_⟩
          have g : ∀ i u, (Elem.enc (E.getD k ⟨0, 0⟩))[i]? = some u → V.cell? ⟨b, off + k * 2 + i, none⟩ = some u := fun i u hu => by
            have := h4 k _ e i u hu
            rw [show off + (k * Elem.k Edge + i) = off + k * 2 + i from by show off + (k * 2 + i) = _; omega] at this
            exact (hV.cell (p := ⟨b, off + k * 2 + i, none⟩) h3).trans this
          exact ⟨g 0 _ rfl, g 1 _ rfl⟩
      subst hvo
      have HC := Lib.hid hcell
      have hmem : E.getD k ⟨0, 0⟩ ∈ E := by rw [List.getD_eq_getElem?_getD, List.getElem?_eq_getElem hlt]; exact List.getElem_mem hlt
      obtain ⟨A, B, iA, pA, tA, iB, pB, tB, SA, SB', NA, NB', x, y, he, hA, hB, hne, hx, hy, hep, hone⟩ := HGD.out.edge HOK.out hmem
      rw [he] at HC
      dsimp only at HC
      have HCQ : Hid (∀ (V : World) (q : Int), Ext W0 V → 1 ≤ q → q ≤ 4 → Calls Tryz.prog 19 #[.agg #[.slice ao ds.length c, .slice bo ms.length d], .agg #[.int .i64 A, .int .i64 B], .int .i64 q] V fun e w' => e = .returned (.int .i64 1) ∧ Ext V w') := Lib.hid fun V q hV h1 h4 => by
        have hl : ds.length ≤ 1000 := by have := HSM.out.n; omega
        have hq : q = 1 ∨ q = 2 ∨ q = 3 ∨ q = 4 := by omega
        have hc := hone q hq
        rcases hq with rfl | rfl | rfl | rfl
        · have := countB1_any V _ _ ds ms (HV.out.ext hV) HSM.out.m hl A B iA pA tA iB pB tB SA SB' NA NB' hA hB hne x y hx hy hep
          rwa [(cntS_cntB x y ms A B).1, hc] at this
        · have := countB2_any V _ _ ds ms (HV.out.ext hV) HSM.out.m hl A B iA pA tA iB pB tB SA SB' NA NB' hA hB hne x y hx hy hep
          rwa [(cntS_cntB x y ms A B).2, hc] at this
        · have := countB3_any V _ _ ds ms (HV.out.ext hV) HSM.out.m A B iA pA tA iB pB tB SA SB' NA NB' hA hB hne x y hx hy hep
          rwa [hc] at this
        · have := countB4_any V _ _ ds ms (HV.out.ext hV) HSM.out.m A B iA pA tA iB pB tB SA SB' NA NB' hA hB hne x y hx hy hep
          rwa [hc] at this
      obtain ⟨W5, hW5⟩ : ∃ W5, W5 = wr := ⟨_, rfl⟩
      rw [← hW5] at HX k2 k3 ⊢
      clear hcell hmem he hA hB hne hx hy hep hone hW5
      go_wp2
      go_loopw [5] (fun i wq => ∃ q : Int, 1 ≤ q ∧ q ≤ 5 ∧ i = .int .i64 q ∧ Hid (Ext W5 wq)) (fun i _ => 5 - (intOf i).toNat)
      case atStart => exact ⟨1, by omega, by omega, rfl, Lib.hid (Ext.refl _)⟩
      case round =>
        obtain ⟨q, hq1, hq5, rfl, HX2⟩ := hrel
        by_cases hq4 : q ≤ 4
        · have hw : IntKind.i64.wrap (q + 1) = q + 1 := wrapN _ (by omega) (by omega)
          have HXX : Hid (Ext W0 wr) := Lib.hid (HX.out.trans HX2.out)
          have HCC : Hid (∀ V, Ext W0 V → _) := Lib.hid fun V hV => HCQ.out V q hV hq1 hq4
          clear k2 k3
          go_upto_region 7 with (fail)
          go_wp2_with fail
          refine wp_region_M_lit (by kernel_rfl) ?_
          refine tv 0 (hv := by intro w' hw'; obtain ⟨c0, c1⟩ := HSC.out w' (HXX.out.trans hw'); go_simp; first | done | with_reducible rfl) (h := ?_)
          refine tv 1 (h := ?_)
          refine tv 2 (hv := by intro w' hw'; obtain ⟨c0, c1⟩ := HGC.out w' (HXX.out.trans hw'); go_simp; first | done | with_reducible rfl) (h := ?_)
          refine tv 3 (h := ?_)
          refine tv 4 (hv := by intro w' hw'; have hz := hki; go_simp; first | done | with_reducible rfl) (h := ?_)
          refine tv 5 (hv := by intro w' hw'; obtain ⟨c0, c1⟩ := HC.out w' (HXX.out.trans hw'); go_simp; first | done | with_reducible rfl) (h := ?_)
          refine tv 6 (h := ?_)
          (refine takeG 7 (v := ?_) (hv := fun w' hw' => ?_) (h := ?_); rotate_left; focus (go_simp; refine ⟨Ext.refl _, ?_⟩; (exact HCC.out w' (HXX.out.trans hw')))); (simp only [Act.put, List.setIfInBounds_toArray, List.set])
          refine tv 8 (h := ?_)
          (refine doneM (by kernel_rfl) ?_; intro w' hw'; show _)
          have HX3 := Lib.hid (HX2.out.trans hw')
          clear hw'
          go_wp2
          go_roundw
          case rel => exact ⟨q + 1, by omega, by omega, by first | (simp; done) | (rw [hw]), HX3⟩
          case measure => simp [intOf]; omega
        · go_wp2
          go_roundw
          case rel => exact ⟨k + 1, by omega, by go_num, Lib.hid (HX.out.trans HX2.out)⟩
          case measure => simp [intOf]; omega
    · obtain ⟨k0, k1⟩ := HSC.out wr HX.out
      have HC := Lib.hid (bCheck_any wr _ _ ds ms (HV.out.ext HX.out) HSM.out true HCK.out)
      go_wp2_with (go_at_call 17; refine HC.out.mono ?_; rintro e w1 ⟨rfl, hx⟩; dsimp only [cond]; have X1 := Lib.hid (HX.out.trans hx); clear hx)
      go_ret
      exact ⟨rfl, X0.out.trans X1.out⟩
end Go.Proofs.YtfbambemjokmgaaGreat
namespace Go.Proofs.YtfbambemjokmgaaGreat
open Go.RowKit
set_option maxRecDepth 100000 in
set_option maxHeartbeats 8000000 in
theorem barOne_any (w : World) (N : Int) (o0 : Option Addr) (c0 : Nat) (E : List Edge) (o1 : Option Addr) (c1 : Nat) (l : List Akt) (h : Sl w (.slice o0 E.length c0) E) (hl : Ns AV Non w (.slice o1 l.length c1) l) :
    Calls Tryz.prog 4 #[.agg #[.int .i64 N, .slice o0 E.length c0], .slice o1 l.length c1] w fun e w' => e = .returned (.bool true) ∧ Below w.heap.size w w' := by
  have hmf : ∀ (fn : Fn) (first cap : Array Value) (w : World), (Instr.makeFunc fn first cap).run Tryz.prog w = .ok (.func fn first cap) w := fun _ _ _ _ => rfl
  obtain ⟨W0, hW0⟩ : ∃ W0, W0 = w.alloc (.cells #[.int .i64 N, .slice o0 E.length c0] 53) := ⟨_, rfl⟩
  have X0 : Hid (Ext w W0) := Lib.hid (hW0 ▸ (Ext.refl w).alloc _)
  have B0 : Hid (W0.heap[w.heap.size]? = some (.cells #[.int .i64 N, .slice o0 E.length c0] 53 (0, 0))) := Lib.hid (hW0 ▸ at0 w _)
  have HW0 := Lib.hid hW0
  have HE := Lib.hid (h.ext X0.out)
  have HL := Lib.hid (hl.ext X0.out)
  have HGC : Hid (∀ V, Ext W0 V → V.cell? ⟨w.heap.size, 0, none⟩ = some (.int .i64 N) ∧ V.cell? ⟨w.heap.size, 1, none⟩ = some (.slice o0 E.length c0)) := Lib.hid fun V hV => cells2S (keepU B0.out hV)
  obtain ⟨t, ht⟩ : ∃ t, fewR N E l = t := ⟨_, rfl⟩
  have HT := Lib.hid ht
  clear h hl hW0 ht
  go_enter Tryz.func4, Tryz.ntmps4
  go_upto_region 1 with (fail)
  rw [← HW0.out]
  cases t
  · go_wp2_with (first
      | (have hgd := X2; go_at_call 11; refine (awakeB_any _).mono ?_; rintro e w3 ⟨rfl, hx⟩; have X3 := Lib.hid (X2.out.trans hx); clear hx)
      | (go_at_call 11; refine (awakeB_any _).mono ?_; rintro e w1 ⟨rfl, hx⟩; have X1 := Lib.hid hx; obtain ⟨k0, k1⟩ := HGC.out w1 hx; clear hx)
      | (go_at_call 28; refine (fewB_any w1 N _ _ E l (HE.out.ext X1.out) (HL.out.ext X1.out) false HT.out).mono ?_; rintro e w2 ⟨rfl, hx⟩; have X2 := Lib.hid (X1.out.trans hx); clear hx))
    go_ret
    exact ⟨rfl, X0.out.trans X3.out⟩
  · have HOK : Hid (OkG N E ∧ N ≤ 10 ∧ l.length ≤ 80 ∧ ∀ x ∈ l, x.2.2.2.length ≤ 20) := Lib.hid (fewR_yes HT.out)
    go_wp2_with (first
      | (go_at_call 11; refine (awakeB_any _).mono ?_; rintro e w1 ⟨rfl, hx⟩; have X1 := Lib.hid hx; obtain ⟨k0, k1⟩ := HGC.out w1 hx; clear hx)
      | (go_at_call 28; refine (fewB_any w1 N _ _ E l (HE.out.ext X1.out) (HL.out.ext X1.out) true HT.out).mono ?_; rintro e w2 ⟨rfl, hx⟩; have X2 := Lib.hid (X1.out.trans hx); obtain ⟨j0, j1⟩ := HGC.out w2 X2.out; clear hx)
      | (go_at_call 29; refine (runB_any w2 N _ _ E l (HE.out.ext X2.out) (HL.out.ext X2.out) HOK.out.1 HOK.out.2.1 HOK.out.2.2.2 30 #[.pointer (some ⟨w.heap.size, 0, none⟩)] (enters_of Tryz.func30 (by kernel_rfl) rfl) (fun V vd vm ds ms hV hsv hgd => isOneB_any V w.heap.size N _ E HOK.out.1 HOK.out.2.1 (keepU B0.out (X2.out.trans hV)) (HE.out.ext (X2.out.trans hV)) vd vm ds ms hsv hgd)).mono ?_; rintro e w3 ⟨vd, vm, ds, ms, rfl, sv, _, hx⟩; obtain ⟨a1, n1, c1', a2, n2, c2, rfl, rfl⟩ := sv.sh; have X3 := Lib.hid (X2.out.trans hx); clear hx))
    go_ret
    exact ⟨rfl, X0.out.trans (X3.out.alloc _)⟩
end Go.Proofs.YtfbambemjokmgaaGreat
