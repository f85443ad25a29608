/- Layer 14, the law: on each edge one goes ahead, and they don't lead round. -/
import Derived.Test.YtdfleocknaackaaGreatVH
import Derived.Test.YtdfleocknaackaaGreatPPr
import Derived.Test.YtdfleocknaackaaGreatMD5
namespace Go.Proofs.YtdfleocknaackaaGreat
open Go.RowKit

set_option maxRecDepth 100000 in
set_option maxHeartbeats 16000000 in
theorem isRound_any (W : World) (gb : Nat) (N : Int) (gv : Value) (E : List Edge) (ok : OkG N E) (hg : W.heap[gb]? = some (.cells #[.int .i64 N, gv] 24 (0, 0))) (hE : Sl W gv E) (vd vm : Value) (ds : List Dn) (ms : List Ml) (h : SV W vd vm ds ms) (hgd : GoodE N E ds ms) :
    Calls Tryz.prog 19 #[.agg #[vd, vm], .pointer (some ⟨gb, 0, none⟩)] W fun e W' => e = .returned (.bool true) ∧ Ext W W' := by
  obtain ⟨vo, vc, rfl⟩ := hE.len
  obtain ⟨ao, c, bo, d, rfl, rfl⟩ := h.len
  obtain ⟨W0, hW0⟩ : ∃ W0, W0 = W.alloc (.cells #[.slice ao ds.length c, .slice bo ms.length d] 31) := ⟨_, rfl⟩
  have X0 : Hid (Ext W W0) := Lib.hid (hW0 ▸ (Ext.refl W).alloc _)
  have B0 : Hid (W0.heap[W.heap.size]? = some (.cells #[.slice ao ds.length c, .slice bo ms.length d] 31 (0, 0))) := Lib.hid (hW0 ▸ at0 W _)
  have HW0 := Lib.hid hW0
  have HV := Lib.hid (h.ext X0.out)
  have HGB := Lib.hid (keepU hg X0.out)
  have HSM := Lib.hid (hgd.sm ok)
  obtain ⟨hokd, hrk, hal, heat⟩ := hgd.arcs ok
  have HSC : Hid (∀ V, Ext W0 V → V.cell? ⟨W.heap.size, 0, none⟩ = some (.slice ao ds.length c) ∧ V.cell? ⟨W.heap.size, 1, none⟩ = some (.slice bo ms.length d)) := Lib.hid fun V hV => cells2S (keepU B0.out hV)
  have HGC : Hid (∀ V, Ext W0 V → V.cell? ⟨gb, 0, none⟩ = some (.int .i64 N) ∧ V.cell? ⟨gb, 1, none⟩ = some (.slice vo E.length vc)) := Lib.hid fun V hV => cells2S (keepU HGB.out hV)
  have hpl : (phs ds 2).length ≤ 100 := by
    unfold phs
    rw [List.length_map]
    exact Nat.le_trans (List.length_filter_le _ _) (by have := HSM.out.n; omega)
  obtain ⟨A, hA⟩ : ∃ A, A = arcsOf ms ds := ⟨_, rfl⟩
  obtain ⟨P, hP⟩ : ∃ P, P = phs ds 2 := ⟨_, rfl⟩
  have HAC := Lib.hid (hA ▸ pArcs_any W0 _ _ ds ms HV.out.ds HV.out.ms (by have := HSM.out.n; omega))
  have HPH : Hid (∀ V, Ext W0 V → _) := Lib.hid fun V hV => hP ▸ phases_any V _ _ ds ms (HV.out.ext hV) (by have := HSM.out.n; omega) 2
  rw [← hP] at hpl heat
  rw [← hA] at hokd hrk hal heat
  have HOB : Hid (ordB N A = true) := Lib.hid (ordB_iff.2 ⟨hokd, (peeled_iff hokd).2 hrk⟩)
  have HSI : Hid (∀ a ∈ P, decide (a ∈ sinksL N A) = true) := Lib.hid fun a ha => by
    obtain ⟨⟨h1, h2⟩, h3⟩ := heat a ha
    refine decide_eq_true ?_
    unfold sinksL
    rw [if_pos (okD_iff.2 hokd), List.mem_filter]
    refine ⟨mem_upto.2 (by omega), ?_⟩
    unfold isSink
    rw [h3]; rfl
  have HAL : Hid (((A.length : Int) == (E.length : Int)) = true) := Lib.hid (by rw [hal]; simp)
  obtain ⟨k0, k1⟩ := HSC.out W0 (Ext.refl _)
  clear h hW0 ok hg hE hgd hP hA hokd hrk hal heat
  go_enter Tryz.func19, Tryz.ntmps19
  go_upto_region 1 with (fail)
  rw [← HW0.out]
  go_upto_region 3 with (first
    | (go_at_call 20; refine HAC.out.mono ?_; rintro e u1 ⟨va, rfl, oa, hx⟩; obtain ⟨aa, ac, rfl⟩ := oa.len; have HA1 := Lib.hid oa; have X1 : Hid (Ext W0 u1) := Lib.hid hx; obtain ⟨j0, j1⟩ := HGC.out u1 hx; clear oa hx)
    | (go_at_call 21; refine (orderA_any u1 N _ A HA1.out _ true rfl HOB.out).mono ?_; rintro e w2 ⟨vr, rfl, ow, hx⟩; obtain ⟨ra, rn, rc, rfl⟩ := ow.sh; have X2 : Hid (Ext W0 w2) := Lib.hid (X1.out.trans hx); have HA2 := Lib.hid (HA1.out.ext hx); clear ow hx))
  go_wp2_with fail
  (refine wp_region_X_lit (K := fun V => Ext W0 V) (by kernel_rfl) (fun w1 hw1 => ?_))
  have Z3 : Hid (Ext W0 w1) := Lib.hid (X2.out.trans hw1)
  have Y3 : Hid (Ext w2 w1) := Lib.hid hw1
  clear hw1 k0 k1
  refine xtv 0 (h := ?_)
  refine xtv 1 (hv := by intro w' hw'; obtain ⟨c0, c1⟩ := HGC.out w' hw'; go_simp; first | done | with_reducible rfl) (h := ?_)
  refine xtv 2 (h := ?_)
  refine xtv 4 (hv := by intro w' hw'; obtain ⟨c0, c1⟩ := HSC.out w' hw'; go_simp; first | done | with_reducible rfl) (h := ?_)
  refine xone 3 (hk := Z3.out) (h := RunX.of 3 (h := ?_))
  go_simp
  refine (sinks_any w1 N _ A (HA2.out.ext Y3.out)).mono ?_
  rintro e4 w4 ⟨v4, rfl, o4, x4⟩
  obtain ⟨sa, sc, rfl⟩ := o4.sl.len
  have S4 := Lib.hid o4.sl
  have Z4 : Hid (Ext W0 w4) := Lib.hid (Z3.out.trans x4)
  have Y4 : Hid (Ext w2 w4) := Lib.hid (Y3.out.trans x4)
  clear o4 x4
  dsimp only
  (try (simp only [Act.put, List.setIfInBounds_toArray, List.set]))
  refine xone 5 (hk := Z4.out) (h := RunX.of 5 (h := ?_))
  go_simp
  refine (HPH.out w4 Z4.out).mono ?_
  rintro e5 w5 ⟨v5, rfl, o5, x5⟩
  obtain ⟨pa, pc, rfl⟩ := o5.sl.len
  have HP := Lib.hid o5.sl
  have Z5 : Hid (Ext W0 w5) := Lib.hid (Z4.out.trans x5)
  have S5 := Lib.hid (S4.out.ext x5)
  have Y5 : Hid (Ext w2 w5) := Lib.hid (Y4.out.trans x5)
  clear o5 x5
  dsimp only
  (try (simp only [Act.put, List.setIfInBounds_toArray, List.set]))
  refine xtv 6 (h := ?_)
  refine xtv 7 (h := ?_)
  (refine xdone (by kernel_rfl) (Z5.out) ?_)
  go_wp2
  go_loopw [9] (fun i wr => ∃ k : Nat, k ≤ P.length ∧ i = .int .i64 k ∧ Hid (Ext w5 wr)) (fun i _ => P.length - (intOf i).toNat)
  case atStart => exact ⟨0, Nat.zero_le _, rfl, Lib.hid (Ext.refl _)⟩
  case round =>
    obtain ⟨k, hk, rfl, HX⟩ := hrel
    by_cases hlt : k < P.length
    · obtain ⟨b, off, hpa, hn, hnc, hc63, hb, hcell⟩ := HP.out.intsAt hlt
      subst hpa
      have hq := (HX.out.cell (p := ⟨b, off + k, none⟩) hb).trans hcell
      have hmem : P.getD k 0 ∈ P := by rw [List.getD_eq_getElem?_getD, List.getElem?_eq_getElem hlt]; exact List.getElem_mem hlt
      have HH := Lib.hid (refHasI_val wr _ (sinksL N A) (P.getD k 0) (S5.out.ext HX.out) true (HSI.out _ hmem))
      obtain ⟨qk, hqk⟩ : ∃ q, q = P.getD k 0 := ⟨_, rfl⟩
      rw [← hqk] at hq HH
      clear hcell hmem hqk hn
      go_wp2_with (go_at_call 23; refine HH.out.mono ?_; rintro e w6 ⟨rfl, rfl⟩)
      go_roundw
      case rel => exact ⟨k + 1, by omega, by go_num, HX⟩
      case measure => simp [intOf]; omega
    · obtain ⟨j0, j1⟩ := HGC.out wr (Z5.out.trans HX.out)
      have hal := HAL.out
      go_wp2
      go_ret
      exact ⟨rfl, X0.out.trans (Z5.out.trans HX.out)⟩
end Go.Proofs.YtdfleocknaackaaGreat
