/- Layer 14, the law: of each edge one fork, and one token. -/
import Derived.Test.YtdfleocknaackaaGreatVH
import Derived.Test.YtdfleocknaackaaGreatG11
namespace Go.Proofs.YtdfleocknaackaaGreat
open Go.RowKit

set_option maxRecDepth 100000 in
set_option maxHeartbeats 8000000 in
theorem isOne_any (W : World) (gb : Nat) (N : Int) (gv : Value) (E : List Edge) (ok : OkG N E) (hg : W.heap[gb]? = some (.cells #[.int .i64 N, gv] 24 (0, 0))) (hE : Sl W gv E) (vd vm : Value) (ds : List Dn) (ms : List Ml) (h : SV W vd vm ds ms) (hgd : GoodE N E ds ms) :
    Calls Tryz.prog 12 #[.agg #[vd, vm], .pointer (some ⟨gb, 0, none⟩)] W fun e W' => e = .returned (.bool true) ∧ Ext W W' := by
  obtain ⟨vo, vc, rfl⟩ := hE.len
  obtain ⟨ao, c, bo, d, rfl, rfl⟩ := h.len
  obtain ⟨W0, hW0⟩ : ∃ W0, W0 = W.alloc (.cells #[.slice ao ds.length c, .slice bo ms.length d] 31) := ⟨_, rfl⟩
  have X0 : Hid (Ext W W0) := Lib.hid (hW0 ▸ (Ext.refl W).alloc _)
  have B0 : Hid (W0.heap[W.heap.size]? = some (.cells #[.slice ao ds.length c, .slice bo ms.length d] 31 (0, 0))) := Lib.hid (hW0 ▸ at0 W _)
  have HW0 := Lib.hid hW0
  have HV := Lib.hid (h.ext X0.out)
  have HE := Lib.hid (hE.ext X0.out)
  have HGB := Lib.hid (keepU hg X0.out)
  have HGD := Lib.hid hgd
  have HOK := Lib.hid ok
  have HSM := Lib.hid (hgd.sm ok)
  have HSC : Hid (∀ V, Ext W0 V → V.cell? ⟨W.heap.size, 0, none⟩ = some (.slice ao ds.length c) ∧ V.cell? ⟨W.heap.size, 1, none⟩ = some (.slice bo ms.length d)) := Lib.hid fun V hV => cells2S (keepU B0.out hV)
  have HGC : Hid (∀ V, Ext W0 V → V.cell? ⟨gb, 0, none⟩ = some (.int .i64 N) ∧ V.cell? ⟨gb, 1, none⟩ = some (.slice vo E.length vc)) := Lib.hid fun V hV => cells2S (keepU HGB.out hV)
  have hel := hE.length_le
  clear h hW0 ok hg hE hgd
  go_enter Tryz.func12, Tryz.ntmps12
  go_upto_region 1 with (fail)
  rw [← HW0.out]
  go_wp2
  go_loopw [4] (fun i wr => ∃ k : Nat, k ≤ E.length ∧ i = .int .i64 k ∧ Hid (Ext W0 wr)) (fun i _ => E.length - (intOf i).toNat)
  case atStart => exact ⟨0, Nat.zero_le _, rfl, Lib.hid (Ext.refl _)⟩
  case round =>
    obtain ⟨k, hk, rfl, HX⟩ := hrel
    obtain ⟨k2, k3⟩ := HGC.out wr HX.out
    by_cases hlt : k < E.length
    · obtain ⟨eb, eo, hvo, hnc, hb, hcell⟩ : ∃ b off, vo = some ⟨b, off, none⟩ ∧ E.length ≤ vc ∧ vc ≤ 9223372036854775807 ∧ ∀ V, Ext W0 V → V.cell? ⟨b, off + k * 2, none⟩ = some (.int .i64 (E.getD k ⟨0, 0⟩).a) ∧ V.cell? ⟨b, off + k * 2 + 1, none⟩ = some (.int .i64 (E.getD k ⟨0, 0⟩).b) := by
        have hE := HE.out
        rcases hE.parts with ⟨rfl, _⟩ | ⟨b, off, c', hv, h1, h2, h3, _, h4⟩
        · simp at hlt
        · simp only [Value.slice.injEq] at hv
          obtain ⟨rfl, _, rfl⟩ := hv
          have e : E[k]? = some (E.getD k ⟨0, 0⟩) := by simp [hlt]
          refine ⟨b, off, rfl, h1, h2, fun V hV => ?_⟩
          have g : ∀ i u, (Elem.enc (E.getD k ⟨0, 0⟩))[i]? = some u → V.cell? ⟨b, off + k * 2 + i, none⟩ = some u := fun i u hu => by
            have := h4 k _ e i u hu
            rw [show off + (k * Elem.k Edge + i) = off + k * 2 + i from by show off + (k * 2 + i) = _; omega] at this
            exact (hV.cell (p := ⟨b, off + k * 2 + i, none⟩) h3).trans this
          exact ⟨g 0 _ rfl, g 1 _ rfl⟩
      subst hvo
      have HC := Lib.hid hcell
      have hmem : E.getD k ⟨0, 0⟩ ∈ E := by rw [List.getD_eq_getElem?_getD, List.getElem?_eq_getElem hlt]; exact List.getElem_mem hlt
      obtain ⟨A, B, iA, pA, iB, pB, SA, SB', x, y, he, hA, hB, hne, hx, hy, hep, c1, c2⟩ := HGD.out.edge HOK.out hmem
      rw [he] at HC
      dsimp only at HC
      have HC1 : Hid (∀ V, Ext W0 V → Calls Tryz.prog 13 #[.agg #[.slice ao ds.length c, .slice bo ms.length d], .agg #[.int .i64 A, .int .i64 B], .int .i64 1] V fun e w' => e = .returned (.int .i64 1) ∧ Ext V w') := Lib.hid fun V hV => by
        have := count1_any V _ _ ds ms (HV.out.ext hV) HSM.out.m A B iA pA iB pB SA SB' hA hB hne x y hx hy hep
        rwa [c1] at this
      have HC2 : Hid (∀ V, Ext W0 V → Calls Tryz.prog 13 #[.agg #[.slice ao ds.length c, .slice bo ms.length d], .agg #[.int .i64 A, .int .i64 B], .int .i64 2] V fun e w' => e = .returned (.int .i64 1) ∧ Ext V w') := Lib.hid fun V hV => by
        have := count2_any V _ _ ds ms (HV.out.ext hV) HSM.out.m A B iA pA iB pB SA SB' hA hB hne x y hx hy hep
        rwa [c2] at this
      have hki : (k : Int) < (E.length : Int) := by omega
      clear hcell hmem he hA hB hne hx hy hep c1 c2
      go_upto_region 4 with (fail)
      go_wp2_with fail
      refine wp_region_M_lit (by kernel_rfl) ?_
      refine tv 0 (hv := by intro w' hw'; obtain ⟨c0, c1⟩ := HSC.out w' (HX.out.trans hw'); go_simp; first | done | with_reducible rfl) (h := ?_)
      refine tv 1 (h := ?_)
      refine tv 2 (hv := by intro w' hw'; obtain ⟨c0, c1⟩ := HGC.out w' (HX.out.trans hw'); go_simp; first | done | with_reducible rfl) (h := ?_)
      refine tv 3 (h := ?_)
      refine tv 4 (hv := by intro w' hw'; have hz := hki; go_simp; first | done | with_reducible rfl) (h := ?_)
      refine tv 5 (hv := by intro w' hw'; obtain ⟨c0, c1⟩ := HC.out w' (HX.out.trans hw'); go_simp; first | done | with_reducible rfl) (h := ?_)
      (refine takeG 6 (v := ?_) (hv := fun w' hw' => ?_) (h := ?_); rotate_left; focus (go_simp; refine ⟨Ext.refl _, ?_⟩; (exact HC1.out w' (HX.out.trans hw')))); (simp only [Act.put, List.setIfInBounds_toArray, List.set])
      refine tv 7 (h := ?_)
      refine tv 8 (h := ?_)
      refine tv 9 (hv := by intro w' hw'; obtain ⟨c0, c1⟩ := HSC.out w' (HX.out.trans hw'); go_simp; first | done | with_reducible rfl) (h := ?_)
      refine tv 10 (h := ?_)
      refine tv 11 (hv := by intro w' hw'; obtain ⟨c0, c1⟩ := HGC.out w' (HX.out.trans hw'); go_simp; first | done | with_reducible rfl) (h := ?_)
      refine tv 12 (h := ?_)
      refine tv 13 (hv := by intro w' hw'; have hz := hki; go_simp; first | done | with_reducible rfl) (h := ?_)
      refine tv 14 (hv := by intro w' hw'; obtain ⟨c0, c1⟩ := HC.out w' (HX.out.trans hw'); go_simp; first | done | with_reducible rfl) (h := ?_)
      (refine takeG 15 (v := ?_) (hv := fun w' hw' => ?_) (h := ?_); rotate_left; focus (go_simp; refine ⟨Ext.refl _, ?_⟩; (exact HC2.out w' (HX.out.trans hw')))); (simp only [Act.put, List.setIfInBounds_toArray, List.set])
      refine tv 16 (h := ?_)
      refine tv 17 (h := ?_)
      (refine doneM (by kernel_rfl) ?_; intro w' hw'; show _)
      have HX2 := Lib.hid (HX.out.trans hw')
      clear hw'
      go_wp2
      go_roundw
      case rel => exact ⟨k + 1, by omega, by go_num, HX2⟩
      case measure => simp [intOf]; omega
    · have HGR := Lib.hid (HGD.out.graph HOK.out)
      obtain ⟨k0, k1⟩ := HSC.out wr HX.out
      go_wp2_with (first
        | (go_at_call 14; refine (pGraph_any wr _ ds (HV.out.ds.ext HX.out) HSM.out.n HSM.out.s N E true HGR.out).mono ?_; rintro e w1 ⟨hv, rfl, hs, hx⟩; obtain ⟨ga, gc, rfl⟩ := hs.len; have S1 := Lib.hid hs; have X1 := Lib.hid hx; obtain ⟨j2, j3⟩ := HGC.out w1 (HX.out.trans hx); obtain ⟨i0, i1⟩ := cells2S (at0 w1 (.cells #[.int .i64 N, .slice ga E.length gc] 24)); have i2 := (HGC.out (w1.alloc (.cells #[.int .i64 N, .slice ga E.length gc] 24)) ((HX.out.trans hx).alloc _)); obtain ⟨i2, i3⟩ := i2; clear hs hx)
        | (go_at_call 15; refine (refSameG_val _ N N _ _ E E (HE.out.ext ((HX.out.trans X1.out).alloc _)) (S1.out.alloc _) true (by simp)).mono ?_; rintro e w2 ⟨rfl, hx⟩; have X2 := Lib.hid ((HX.out.trans X1.out).alloc _ |>.trans hx); clear hx))
      go_ret
      exact ⟨rfl, X0.out.trans X2.out⟩
end Go.Proofs.YtdfleocknaackaaGreat
