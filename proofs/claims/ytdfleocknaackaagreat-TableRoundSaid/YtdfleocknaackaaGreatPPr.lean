/- Layer 12, the program: who goes ahead of whom, of all nodes. -/
import Derived.Test.YtdfleocknaackaaGreatPPa
import Derived.Test.YtdfleocknaackaaGreatMPG
namespace Go.Proofs.YtdfleocknaackaaGreat
open Go.RowKit

theorem arc2_nil (m : List Ml) (a0 a1 : Int) (b : Dn) : arc2 m ⟨a0, a1, []⟩ b = [] := by unfold arc2 sideR; simp
theorem flat_nil (m : List Ml) (a0 a1 : Int) : ∀ l : List Dn, l.flatMap (arc2 m ⟨a0, a1, []⟩) = []
  | [] => rfl
  | b :: l => by rw [List.flatMap_cons, arc2_nil, flat_nil m a0 a1 l]; rfl

theorem apd_notp {B : Nat} {v v' : Value} {w w' : World} {p : Nat} (a : Apd B v v' w w') (hp : v.ownBlock ≠ some p) (hpw : p < w.heap.size) : v'.ownBlock ≠ some p := by
  rcases a.block with hb | hb
  · rw [hb]; exact hp
  · intro e; have := hb p e; omega
theorem apd_keep {B : Nat} {v v' : Value} {w w' : World} {p : Nat} {o : Obj} (a : Apd B v v' w w') (hp : v.ownBlock ≠ some p) (h : w.heap[p]? = some o) : w'.heap[p]? = some o :=
  (a.grown.block p (blk_lt h) (fun e => hp e.symm)).trans h

set_option maxRecDepth 100000 in
set_option maxHeartbeats 4000000 in
theorem pArcs_any (w : World) (v vm : Value) (L : List Dn) (m : List Ml) (h : Ns DV Non w v L) (hm : Sl w vm m) (hl : L.length ≤ 100) :
    Calls Tryz.prog 20 #[.agg #[v, vm]] w (GivesA w (arcsOf m L)) := by
  obtain ⟨ao, c, rfl⟩ := h.len
  obtain ⟨mo, mc, rfl⟩ := hm.len
  have HS := Lib.hid h
  have HM := Lib.hid hm
  have hml := hm.length_le
  have HK : Hid (∀ V, Ext (w.alloc (.cells #[.slice ao L.length c, .slice mo m.length mc] 31)) V → V.cell? ⟨w.heap.size, 0, none⟩ = some (.slice ao L.length c) ∧ V.cell? ⟨w.heap.size, 1, none⟩ = some (.slice mo m.length mc)) := Lib.hid fun V hV => ⟨cell_atD V hV rfl, cell_atD V hV rfl⟩
  rw [← arcsTo_all]
  clear h hm
  go_enter Tryz.func20, Tryz.ntmps20
  go_wp2
  go_loopw [3, 13] (fun q i wr => ∃ k : Nat, k ≤ L.length ∧ i = .int .i64 k ∧ Hid (Ow wr (w.heap.size + 1) q (arcsTo m L k)) ∧ Hid (Ext (w.alloc (.cells #[.slice ao L.length c, .slice mo m.length mc] 31)) wr)) (fun _ i _ => L.length - (intOf i).toNat)
  case atStart => exact ⟨0, Nat.zero_le _, rfl, Lib.hid (by exact Ow.nil _ _), Lib.hid (Ext.refl _)⟩
  case round =>
    obtain ⟨k, hk, rfl, HQ, HX⟩ := hrel
    obtain ⟨g0, g1⟩ := HK.out wr HX.out
    have hwr := Below.size HX.out
    rw [size_alloc] at hwr
    by_cases hlt : k < L.length
    · obtain ⟨b1, o1, so, sc, d, hyk, rfl, hn, hnc, hc63, hb, hsl, hcell⟩ := HS.out.dinerAt hlt
      have XW := Lib.hid (Ext.trans ((Ext.refl w).alloc _) HX.out)
      obtain ⟨a0, a1, a2⟩ := hcell wr XW.out
      have hw1 : IntKind.i64.wrap ((k : Int) + 1) = ((k + 1 : Nat) : Int) := by rw [wrapN _ (by omega) (by omega)]; omega
      have HNA := Lib.hid (arcsTo_next (m := m) hyk)
      have HTL := Lib.hid (arcsTo_len m L k)
      obtain ⟨P, hP⟩ : ∃ P, P = arcsTo m L k := ⟨_, rfl⟩
      have hPl : P.length ≤ 10000 := by rw [hP]; have := HTL.out; have := Nat.mul_le_mul hk hl; have := Nat.mul_le_mul_right 100 hl; omega
      rw [← hP] at HQ HNA
      obtain ⟨R, hR⟩ : ∃ R, R = L.drop (k + 1) := ⟨_, rfl⟩
      have HRL : Hid (R.length = L.length - (k + 1)) := Lib.hid (by rw [hR]; simp)
      have HRD : Hid (∀ j b, L[k + 1 + j]? = some b → R[j]? = some b) := Lib.hid fun j b hb => by rw [hR, List.getElem?_drop]; exact hb
      rw [← hR] at HNA
      obtain ⟨d0, d1, d2⟩ := d
      dsimp only at a0 a1 a2 hsl
      obtain ⟨W1, hW1⟩ : ∃ W1, W1 = wr.alloc (.cells #[.int .i64 d0, .int .i64 d1, .slice so d2.length sc] 49) := ⟨_, rfl⟩
      have X1 : Hid (Ext wr W1) := Lib.hid (hW1 ▸ (Ext.refl _).alloc _)
      have D1 : Hid (W1.heap[wr.heap.size]? = some (.cells #[.int .i64 d0, .int .i64 d1, .slice so d2.length sc] 49 (0, 0))) := Lib.hid (hW1 ▸ at0 wr _)
      have HQ1 := Lib.hid (HQ.out.ext X1.out)
      have XX := Lib.hid (HX.out.trans X1.out)
      have HSD := Lib.hid (hsl.sl)
      have HW1 := Lib.hid hW1
      obtain ⟨g0', g1'⟩ := HK.out W1 XX.out
      have q2 := blk_cell D1.out 2 rfl
      clear hW1 hR hP hcell hyk hn hsl HTL
      go_upto_region 5 with (fail)
      rw [← HW1.out]
      have HOG : Hid (u3.ownBlock ≠ some wr.heap.size) := Lib.hid fun e => by have := (HQ.out.low _ e).2; omega
      have hGl := blk_lt D1.out
      obtain ⟨G, hG⟩ : ∃ G, wr.heap.size = G := ⟨_, rfl⟩
      rw [hG] at D1 q2 HOG hGl hwr ⊢
      clear hG a0 a1 a2 g0 g1
      by_cases hz : d2 = []
      · subst hz
        have HE : Hid (P ++ R.flatMap (arc2 m ⟨d0, d1, []⟩) = P) := Lib.hid (by rw [flat_nil, List.append_nil])
        simp only [List.length_nil] at q2
        go_wp2
        go_roundw
        case rel => exact ⟨k + 1, by omega, by go_num, Lib.hid (by rw [HNA.out, HE.out]; exact HQ1.out), XX⟩
        case measure => simp [intOf]; omega
      have hz' : ((d2.length : Int) == 0) = false := by simpa using hz
      clear hz
      by_cases hck : c = k + 1
      · subst hck
        have hz0 : L.length - (k + 1) = 0 := by omega
        have HE : Hid (P ++ R.flatMap (arc2 m ⟨d0, d1, d2⟩) = P) := Lib.hid (by
          have : R = [] := List.length_eq_zero_iff.1 (by have := HRL.out; omega)
          rw [this]; simp)
        go_wp2
        refine wp_loop_rounds 1 ?_
        rw [rounds_succ]
        go_wp2
        go_roundw
        case rel => exact ⟨k + 1, by omega, by go_num, Lib.hid (by rw [HNA.out, HE.out]; exact HQ1.out), XX⟩
        case measure => simp [intOf]; omega
      · obtain ⟨n, hn⟩ : ∃ n, n = L.length - (k + 1) := ⟨_, rfl⟩
        have hRn : Hid (R.length = n) := Lib.hid (HRL.out.trans hn.symm)
        have hn3 : k + 1 + n = L.length := by omega
        have HN := Lib.hid hn
        clear hn
        go_upto_region 7 with (fail)
        rw [← HN.out]
        go_loopw [3, 28] (fun q i wr => ∃ j : Nat, j ≤ n ∧ i = .int .i64 (j : Int) ∧ Hid (Ow wr (w.heap.size + 1) q (P ++ (R.take j).flatMap (arc2 m ⟨d0, d1, d2⟩))) ∧ Hid (Ext (w.alloc (.cells #[.slice (some ⟨b1, o1, none⟩) L.length c, .slice mo m.length mc] 31)) wr) ∧ Hid (wr.heap[G]? = some (.cells #[.int .i64 d0, .int .i64 d1, .slice so d2.length sc] 49 (0, 0)) ∧ q.ownBlock ≠ some G)) (fun _ i _ => n - (intOf i).toNat)
        case atStart => exact ⟨0, Nat.zero_le _, by go_num, Lib.hid (by rw [List.take_zero, List.flatMap_nil, List.append_nil]; exact HQ1.out), XX, Lib.hid ⟨D1.out, HOG.out⟩⟩
        case round =>
          obtain ⟨j, hj, rfl, HQ2, HX2, HDG⟩ := hrel
          by_cases hj2 : j < n
          · obtain ⟨b2, o2, so2, sc2, f, hfk, hao, hn', hnc', hc63', hb', hsl', hcell'⟩ := HS.out.dinerAt (k := k + 1 + j) (by omega)
            simp only [Option.some.injEq, Addr.mk.injEq, and_true] at hao
            obtain ⟨rfl, rfl⟩ := hao
            have XV := Lib.hid (Ext.trans ((Ext.refl w).alloc _) HX2.out)
            have hgr := blk_lt HDG.out.1
            have HFN := Lib.hid (flat_next (m := m) (a := ⟨d0, d1, d2⟩) (HRD.out j f hfk))
            have hFl := flat_len m ⟨d0, d1, d2⟩ (R.take j)
            have hPF : ((R.take j).flatMap (arc2 m ⟨d0, d1, d2⟩)).length ≤ 200 := by rw [List.length_take] at hFl; have := hRn.out; omega
            obtain ⟨Z, hZ⟩ : ∃ Z, Z = P ++ (R.take j).flatMap (arc2 m ⟨d0, d1, d2⟩) := ⟨_, rfl⟩
            have hZl : Z.length ≤ 20000 := by rw [hZ, List.length_append]; omega
            rw [← hZ] at HQ2
            have HZ : Hid (P ++ (R.take (j + 1)).flatMap (arc2 m ⟨d0, d1, d2⟩) = Z ++ arc2 m ⟨d0, d1, d2⟩ f) := Lib.hid (by rw [HFN.out, hZ, List.append_assoc])
            obtain ⟨⟨r, t⟩, hbt⟩ : ∃ p, betw m ⟨d0, d1, d2⟩ f = p := ⟨_, rfl⟩
            have HA2 : Hid (arc2 m ⟨d0, d1, d2⟩ f = if t = true then [r] else []) := Lib.hid (by rw [arc2_betw, hbt])
            have HBT := Lib.hid hbt
            obtain ⟨f0, f1, f2⟩ := f
            dsimp only at hsl' hcell'
            obtain ⟨c0, c1, c2⟩ := hcell' wr XV.out
            rw [show o1 + (k + 1 + j) * 3 = o1 + (k + 1) * 3 + j * 3 by omega] at c0 c1 c2
            obtain ⟨W2, hW2⟩ : ∃ W2, W2 = wr.alloc (.cells #[.int .i64 f0, .int .i64 f1, .slice so2 f2.length sc2] 49) := ⟨_, rfl⟩
            have X2 : Hid (Ext wr W2) := Lib.hid (hW2 ▸ (Ext.refl _).alloc _)
            have D2 : Hid (W2.heap[wr.heap.size]? = some (.cells #[.int .i64 f0, .int .i64 f1, .slice so2 f2.length sc2] 49 (0, 0))) := Lib.hid (hW2 ▸ at0 wr _)
            have HW2 := Lib.hid hW2
            clear hW2 hZ HFN hFl hPF hbt hfk hn' hcell'
            go_upto_region 9 with (fail)
            rw [← HW2.out]
            clear c0 c1 c2
            have XT := Lib.hid (XV.out.trans X2.out)
            have HT1 := Lib.hid (HSD.out.ext XT.out)
            have HT2 := Lib.hid (hsl'.sl.ext XT.out)
            have HTM := Lib.hid (HM.out.ext XT.out)
            have HQ3 := Lib.hid (HQ2.out.ext X2.out)
            have hs2 := Below.size (HX2.out.trans X2.out)
            rw [size_alloc] at hs2
            obtain ⟨s0, s1⟩ := HK.out W2 (HX2.out.trans X2.out)
            have D3 := Lib.hid (keepP HDG.out.1 X2.out)
            have HNG := Lib.hid HDG.out.2
            have i0 := blk_cell D2.out 0 rfl
            have i1 := blk_cell D2.out 1 rfl
            have i2 := blk_cell D2.out 2 rfl
            have j0 := blk_cell D3.out 0 rfl
            have j1 := blk_cell D3.out 1 rfl
            have j2 := blk_cell D3.out 2 rfl
            clear hsl' HW2
            obtain ⟨ra, rb⟩ := r
            cases t
            · have HE : Hid (arc2 m ⟨d0, d1, d2⟩ ⟨f0, f1, f2⟩ = []) := Lib.hid (by rw [HA2.out]; rfl)
              go_wp2_with (first
                | (go_at_call 44; refine (pBetween_any _ ⟨d0, d1, d2⟩ ⟨f0, f1, f2⟩ _ _ _ m HT1.out HT2.out HTM.out ⟨ra, rb⟩ _ HBT.out).mono ?_; rintro e w3 ⟨rfl, hx⟩; dsimp only; have X3 := Lib.hid hx; clear hx))
              go_roundw
              case rel => exact ⟨j + 1, by omega, by go_num, Lib.hid (by rw [HZ.out, HE.out, List.append_nil]; exact (HQ3.out.ext (X3.out.alloc _))), Lib.hid (HX2.out.trans (X2.out.trans (X3.out.alloc _))), Lib.hid ⟨keepP D3.out (X3.out.alloc _), HNG.out⟩⟩
              case measure => simp [intOf]; omega
            · have HE : Hid (arc2 m ⟨d0, d1, d2⟩ ⟨f0, f1, f2⟩ = [⟨ra, rb⟩]) := Lib.hid (by rw [HA2.out]; rfl)
              go_wp2_with (first
                | (go_at_call 44; refine (pBetween_any _ ⟨d0, d1, d2⟩ ⟨f0, f1, f2⟩ _ _ _ m HT1.out HT2.out HTM.out ⟨ra, rb⟩ _ HBT.out).mono ?_; rintro e w3 ⟨rfl, hx⟩; dsimp only; have X3 := Lib.hid hx; have D4 := at0 w3 (.cells #[.int .i64 ra, .int .i64 rb] 86); have k0 := blk_cell D4 0 rfl; have k1 := blk_cell D4 1 rfl; clear hx D4)
                | (at_builtin; refine wpList_append_sl (α := Arc) rfl (.tmp 41) (.tmp 43) rfl (w.heap.size + 1) _ Z rfl ?_ (.slice (some ⟨_, 0, none⟩) 1 1) [(⟨ra, rb⟩ : Arc)] rfl ?_ ?_ ?_ ?_; exact ((HQ3.out.ext (X3.out.alloc _)).alloc _); exact (Sl.litAt _ _ (by simp) [(⟨ra, rb⟩ : Arc)] (show (1 : Nat) ≤ 1000000 by decide)); (first | omega | (simp; omega)); exact (by rw [size_alloc, size_alloc]; have h1 := Below.size X3.out; omega); intro v5 W5 ho5 ha5; have O5 := Lib.hid ho5; have X5 := Lib.hid (Below.trans (Ext.alloc (Ext.alloc (Ext.trans HX2.out (Ext.trans X2.out X3.out)) _) _) (Below.mono ha5.below (by rw [size_alloc]; omega))); have D5 := Lib.hid (apd_keep ha5 HNG.out (keepP D3.out (Ext.alloc (X3.out.alloc (.cells #[.int .i64 ra, .int .i64 rb] 86)) _))); have N5 := Lib.hid (apd_notp ha5 HNG.out (by have q := blk_lt (keepP D3.out (Ext.alloc (X3.out.alloc (.cells #[.int .i64 ra, .int .i64 rb] 86)) (.cells (cellsOf [(⟨ra, rb⟩ : Arc)]).toArray 86))); exact q)); clear ho5 ha5))
              go_roundw
              case rel => exact ⟨j + 1, by omega, by go_num, Lib.hid (by rw [HZ.out, HE.out]; exact O5.out), X5, Lib.hid ⟨D5.out, N5.out⟩⟩
              case measure => simp [intOf]; omega
          · have hje : j = n := by omega
            have hq := HQ2.out
            rw [hje, List.take_of_length_le (by have := hRn.out; omega), ← HNA.out] at hq
            have HQ3 := Lib.hid hq
            clear hq HQ2 hje
            go_wp2
            go_roundw
            case rel => exact ⟨k + 1, by omega, by go_num, HQ3, HX2⟩
            case measure => simp [intOf]; omega
    · have hkl : k = L.length := by omega
      rw [hkl] at HQ
      have HQ' := HQ
      clear HQ hkl
      go_wp2
      go_ret
      exact ⟨_, rfl, HQ'.out.sl, Ext.trans ((Ext.refl w).alloc _) HX.out⟩

end Go.Proofs.YtdfleocknaackaaGreat
