/- Layer 12, the document's answers: who goes ahead of whom. -/
import Derived.Test.YtpnnnbjjoimalaaDR4
import Derived.Test.YtpnnnbjjoimalaaElem4V
import Derived.Deep.DeepCutAuto
import Derived.Deep.CutBlock
import Derived.Test.YtpnnnbjjoimalaaME
namespace Go.Proofs.Ytpnnnbjjoimalaa
open Go.RowKit

theorem cells8 {w : World} {g : Nat} {u0 u1 u2 u3 u4 u5 u6 u7 : Value} {t : TypeId} (h : w.heap[g]? = some (.cells #[u0, u1, u2, u3, u4, u5, u6, u7] t (0, 0))) :
    ((w.cell? ⟨g, 0, none⟩ = some u0 ∧ w.cell? ⟨g, 1, none⟩ = some u1) ∧ w.cell? ⟨g, 2, none⟩ = some u2 ∧ w.cell? ⟨g, 3, none⟩ = some u3) ∧ (w.cell? ⟨g, 4, none⟩ = some u4 ∧ w.cell? ⟨g, 5, none⟩ = some u5) ∧ w.cell? ⟨g, 6, none⟩ = some u6 ∧ w.cell? ⟨g, 7, none⟩ = some u7 :=
  ⟨⟨⟨blk_cell h 0 rfl, blk_cell h 1 rfl⟩, blk_cell h 2 rfl, blk_cell h 3 rfl⟩, ⟨blk_cell h 4 rfl, blk_cell h 5 rfl⟩, blk_cell h 6 rfl, blk_cell h 7 rfl⟩

/-- what two nodes give: an arc, or none -/
def arc2 (m : List Ml) (a b : Dn) : List Arc :=
  let x := sideR a.sides b.id
  let y := sideR b.sides a.id
  if (x.2 && y.2 && decide (x.1.epoch = y.1.epoch)) = true then
    (let n := firstI x.1.fork x.1.dirty y.1.fork y.1.dirty (goesB m b.id a.id x.1.epoch) (goesB m a.id b.id x.1.epoch)
     if n = 1 then [⟨a.id, b.id⟩] else if n = 2 then [⟨b.id, a.id⟩] else [])
  else []
def arcsOf (m : List Ml) : List Dn → List Arc
  | [] => []
  | a :: l => l.flatMap (arc2 m a) ++ arcsOf m l
/-- .. of those up to k, and of k with those up to j -/
def arcsTo (m : List Ml) (L : List Dn) (k : Nat) : List Arc := (List.range k).flatMap fun i => match L[i]? with
  | some a => (L.drop (i + 1)).flatMap (arc2 m a)
  | none => []
theorem arcsTo_all (m : List Ml) : ∀ L : List Dn, arcsTo m L L.length = arcsOf m L
  | [] => rfl
  | a :: l => by
    have ih := arcsTo_all m l
    unfold arcsTo at ih ⊢
    rw [List.length_cons, List.range_succ_eq_map, List.flatMap_cons, List.flatMap_map]
    show _ ++ _ = l.flatMap (arc2 m a) ++ arcsOf m l
    rw [← ih]
    rfl
theorem arcsTo_next {m : List Ml} {L : List Dn} {k : Nat} {a : Dn} (h : L[k]? = some a) : arcsTo m L (k + 1) = arcsTo m L k ++ (L.drop (k + 1)).flatMap (arc2 m a) := by
  unfold arcsTo
  rw [List.range_succ, List.flatMap_append]
  simp [h]
theorem arc2_len (m : List Ml) (a b : Dn) : (arc2 m a b).length ≤ 1 := by
  unfold arc2
  simp only
  repeat' split
  all_goals simp
theorem flat_len (m : List Ml) (a : Dn) : ∀ l : List Dn, (l.flatMap (arc2 m a)).length ≤ l.length
  | [] => by simp
  | b :: l => by
    rw [List.flatMap_cons, List.length_append, List.length_cons]
    have := arc2_len m a b
    have := flat_len m a l
    omega
theorem arcsTo_len (m : List Ml) (L : List Dn) : ∀ k, (arcsTo m L k).length ≤ k * L.length
  | 0 => by simp [arcsTo]
  | k + 1 => by
    have ih := arcsTo_len m L k
    rw [Nat.succ_mul]
    cases h : L[k]? with
    | none =>
      have e : arcsTo m L (k + 1) = arcsTo m L k := by unfold arcsTo; rw [List.range_succ, List.flatMap_append]; simp [h]
      rw [e]; omega
    | some a =>
      rw [arcsTo_next h, List.length_append]
      have h2 := flat_len m a (L.drop (k + 1))
      rw [List.length_drop] at h2
      omega
theorem flat_next {m : List Ml} {a : Dn} {l : List Dn} {j : Nat} {b : Dn} (h : l[j]? = some b) : (l.take (j + 1)).flatMap (arc2 m a) = (l.take j).flatMap (arc2 m a) ++ arc2 m a b := by
  have hj := (List.getElem?_eq_some_iff.1 h).1
  rw [List.take_succ_eq_append_getElem hj, List.flatMap_append]
  simp [(List.getElem?_eq_some_iff.1 h).2]

set_option maxRecDepth 100000 in
set_option maxHeartbeats 4000000 in
theorem refArcs_any (F : Nat → Prop) (w : World) (v vm : Value) (L : List Dn) (m : List Ml) (h : Ns DV F w v L) (hm : Sl w vm m) (hl : L.length ≤ 100) :
    Calls Try.prog 26 #[.agg #[v, vm]] w (GivesOw w (arcsOf m L)) := by
  obtain ⟨ao, c, rfl⟩ := h.len
  obtain ⟨mo, mc, rfl⟩ := hm.len
  have HS := Lib.hid h
  have HM := Lib.hid hm
  have hml := hm.length_le
  have HK : Hid (∀ V, Ext (w.alloc (.cells #[.slice ao L.length c, .slice mo m.length mc] 43)) V → V.cell? ⟨w.heap.size, 0, none⟩ = some (.slice ao L.length c) ∧ V.cell? ⟨w.heap.size, 1, none⟩ = some (.slice mo m.length mc)) := Lib.hid fun V hV => ⟨cell_atD V hV rfl, cell_atD V hV rfl⟩
  rw [← arcsTo_all]
  clear h hm
  go_enter Try.func26, Try.ntmps26
  go_wp2
  go_loopw [3, 4] (fun q i wr => ∃ k : Nat, k ≤ L.length ∧ i = .int .i64 k ∧ Hid (Ow wr (w.heap.size + 1) q (arcsTo m L k)) ∧ Hid (Ext (w.alloc (.cells #[.slice ao L.length c, .slice mo m.length mc] 43)) wr)) (fun _ i _ => L.length - (intOf i).toNat)
  case atStart => exact ⟨0, Nat.zero_le _, rfl, Lib.hid (Ow.litAt (w.alloc (.cells #[.slice ao L.length c, .slice mo m.length mc] 43)) _ _ (by simp) (by simp) [] (by simp)), Lib.hid ((Ext.refl _).alloc _)⟩
  case round =>
    obtain ⟨k, hk, rfl, HQ, HX⟩ := hrel
    obtain ⟨g0, g1⟩ := HK.out wr HX.out
    by_cases hlt : k < L.length
    · obtain ⟨a, ha⟩ : ∃ a, L[k]? = some a := ⟨_, List.getElem?_eq_getElem hlt⟩
      have HA := Lib.hid ha
      have HN := Lib.hid (arcsTo_next (m := m) ha)
      have HTL := Lib.hid (arcsTo_len m L k)
      obtain ⟨P, hP⟩ : ∃ P, P = arcsTo m L k := ⟨_, rfl⟩
      have hPl : P.length ≤ 10000 := by rw [hP]; have := HTL.out; have := Nat.mul_le_mul hk hl; have := Nat.mul_le_mul_right 100 hl; omega
      rw [← hP] at HQ HN
      obtain ⟨R, hR⟩ : ∃ R, R = L.drop (k + 1) := ⟨_, rfl⟩
      have hRl : R.length = L.length - (k + 1) := by rw [hR]; simp
      have HRD : Hid (∀ j b, R[j]? = some b → L[k + 1 + j]? = some b) := Lib.hid fun j b hb => by rw [hR, List.getElem?_drop] at hb; exact hb
      rw [← hR] at HN
      have hw1 : IntKind.i64.wrap ((k : Int) + 1) = ((k + 1 : Nat) : Int) := by rw [wrapN _ (by omega) (by omega)]; omega
      have HRL := Lib.hid hRl
      obtain ⟨W0, hW0⟩ : ∃ W0, W0 = wr := ⟨_, rfl⟩
      have HW0 := Lib.hid hW0
      have HX' := Lib.hid (hW0 ▸ HX.out)
      have HQ0 := HQ
      rw [← hW0] at HQ0
      clear ha hP hR hW0 HTL hRl
      go_wp2
      go_loopw [3, 5] (fun q i wr => ∃ i2 : Nat, k + 1 ≤ i2 ∧ i2 ≤ L.length ∧ i = .int .i64 (i2 : Int) ∧ Hid (Ow wr (w.heap.size + 1) q (P ++ (R.take (i2 - (k + 1))).flatMap (arc2 m a))) ∧ Hid (Ext (w.alloc (.cells #[.slice ao L.length c, .slice mo m.length mc] 43)) wr)) (fun _ i _ => L.length - (intOf i).toNat)
      case atStart => exact ⟨k + 1, Nat.le_refl _, by omega, by go_num, Lib.hid (by rw [Nat.sub_self, List.take_zero, List.flatMap_nil, List.append_nil]; exact HQ.out), HX⟩
      case round =>
        obtain ⟨i2, hi1, hi2, rfl, HQ2, HX2⟩ := hrel
        obtain ⟨g0', g1'⟩ := HK.out wr HX2.out
        by_cases hidx : i2 < L.length
        · obtain ⟨j, hj⟩ : ∃ j, j = i2 - (k + 1) := ⟨_, rfl⟩
          have hj2 : j < R.length := by have := HRL.out; omega
          rw [← hj] at HQ2
          have hj3 : i2 + 1 - (k + 1) = j + 1 := by omega
          have HJ3 := Lib.hid hj3
          have hki : k + 1 + j = i2 := by omega
          obtain ⟨b1, o1, so1, sc1, d, hdk, rfl, hn, hnc, hc63, hb, hsl, hcell⟩ := HS.out.dinerAt hlt
          obtain ⟨b2, o2, so2, sc2, f, hfk, hao, hn', hnc', hc63', hb', hsl', hcell'⟩ := HS.out.dinerAt hidx
          simp only [Option.some.injEq, Addr.mk.injEq, and_true] at hao
          obtain ⟨rfl, rfl⟩ := hao
          obtain rfl : a = d := by have := HA.out.symm.trans hdk; simpa using this
          have hRj : R[j]? = some f := by
            obtain ⟨f', hf'⟩ : ∃ f', R[j]? = some f' := ⟨_, List.getElem?_eq_getElem hj2⟩
            have h5 := HRD.out j f' hf'
            rw [hki] at h5
            have := h5.symm.trans hfk
            rw [hf']; simpa using this
          have HFN := Lib.hid (flat_next (m := m) (a := a) hRj)
          have hFl := flat_len m a (R.take j)
          have XW := Ext.trans ((Ext.refl w).alloc _) HX2.out
          have HS1 := Lib.hid (hsl.sl.ext XW)
          have HS2 := Lib.hid (hsl'.sl.ext XW)
          have HM1 := Lib.hid (HM.out.ext XW)
          have HC1 : Hid (∀ V, Ext wr V → V.cell? ⟨b1, o1 + k * 3, none⟩ = some (.int .i64 a.id) ∧ V.cell? ⟨b1, o1 + k * 3 + 1, none⟩ = some (.int .i64 a.phase) ∧ V.cell? ⟨b1, o1 + k * 3 + 2, none⟩ = some (.slice so1 a.sides.length sc1)) := Lib.hid fun V hV => hcell V (Ext.trans XW hV)
          have HC2 : Hid (∀ V, Ext wr V → V.cell? ⟨b1, o1 + i2 * 3, none⟩ = some (.int .i64 f.id) ∧ V.cell? ⟨b1, o1 + i2 * 3 + 1, none⟩ = some (.int .i64 f.phase) ∧ V.cell? ⟨b1, o1 + i2 * 3 + 2, none⟩ = some (.slice so2 f.sides.length sc2)) := Lib.hid fun V hV => hcell' V (Ext.trans XW hV)
          have HG8 : Hid (∀ V, Ext wr V → V.cell? ⟨w.heap.size, 0, none⟩ = some (.slice (some ⟨b1, o1, none⟩) L.length c) ∧ V.cell? ⟨w.heap.size, 1, none⟩ = some (.slice mo m.length mc)) := Lib.hid fun V hV => HK.out V (Ext.trans HX2.out hV)
          have hPF : ((R.take j).flatMap (arc2 m a)).length ≤ 200 := by rw [List.length_take] at hFl; have := HRL.out; omega
          have HAG := Lib.hid (show arc2 m a f = arc2 m a f from rfl)
          clear hcell hcell' hdk hfk hn hn' hsl hsl' hRj hFl XW
          obtain ⟨Z, hZ⟩ : ∃ Z, Z = P ++ (R.take j).flatMap (arc2 m a) := ⟨_, rfl⟩
          have hZl : Z.length ≤ 20000 := by rw [hZ, List.length_append]; omega
          rw [← hZ] at HQ2
          have HZ : Hid (P ++ (R.take (j + 1)).flatMap (arc2 m a) = Z ++ arc2 m a f) := Lib.hid (by rw [HFN.out, hZ, List.append_assoc])
          clear hZ HFN hPF
          obtain ⟨a0, a1, a2⟩ := a
          obtain ⟨f0, f1, f2⟩ := f
          dsimp only at HC1 HC2 HS1 HS2
          clear hj hj3 hki
          go_upto_region 8 with (fail)
          go_cut [6, 7] (fun s6 s7 wx => ∃ B6 B7, s6 = .pointer (some ⟨B6, 0, none⟩) ∧ s7 = .pointer (some ⟨B7, 0, none⟩) ∧ Hid (Ext wr wx ∧ wx.heap[B6]? = some (.cells #[.int .i64 a0, .int .i64 a1, .slice so1 a2.length sc1] 39 (0, 0)) ∧ wx.heap[B7]? = some (.cells #[.int .i64 f0, .int .i64 f1, .slice so2 f2.length sc2] 39 (0, 0))))
          case first =>
            (refine wp_region_X_lit (K := fun W => Ext wr W) (by kernel_rfl) (fun w1 hw1 => ?_))
            have HW1 := Lib.hid hw1
            clear hw1
            refine xtv 0 (h := ?_)
            refine xtv 1 (hv := by intro w' hw'; have hc := (HG8.out w' hw').1; go_simp; first | done | with_reducible rfl) (h := ?_)
            refine xtv 2 (h := ?_)
            refine xtv 3 (h := ?_)
            refine xtv 4 (hv := by intro w' hw'; obtain ⟨c0, c1, c2⟩ := HC1.out w' hw'; go_simp; first | done | with_reducible rfl) (h := ?_)
            refine xtv 5 (h := ?_)
            refine xtv 6 (hv := by intro w' hw'; have hc := (HG8.out w' hw').1; go_simp; first | done | with_reducible rfl) (h := ?_)
            refine xtv 7 (h := ?_)
            refine xtv 8 (h := ?_)
            refine xtv 9 (hv := by intro w' hw'; obtain ⟨c0, c1, c2⟩ := HC2.out w' hw'; go_simp; first | done | with_reducible rfl) (h := ?_)
            refine xtwo 10 11 (hk := HW1.out) (h := RunX.of 10 (h := ?_)) (h' := RunX.of 11 (h := ?_))
            · go_simp
              (try (simp only [Act.put, List.setIfInBounds_toArray, List.set]))
              refine xone 11 (hk := (HW1.out.alloc _)) (h := RunX.of 11 (h := ?_))
              go_simp
              (try (simp only [Act.put, List.setIfInBounds_toArray, List.set]))
              have HW2 : Hid (Ext wr ((w1.alloc (.cells #[.int .i64 0, .int .i64 0, .slice none 0 0] 39)).alloc (.cells #[.int .i64 0, .int .i64 0, .slice none 0 0] 39))) := Lib.hid ((HW1.out.alloc _).alloc _)
              have hsw := Below.size HW1.out
              refine xone 12 (hk := HW2.out) (h := RunX.of 12 (h := ?_))
              refine wp_st 39 (.tmp 6) (.tmp 34) rfl (w1.heap.size) 0 39 #[.int .i64 0, .int .i64 0, .slice none 0 0] #[.int .i64 a0, .int .i64 a1, .slice so1 a2.length sc1] #[.int .i64 a0, .int .i64 a1, .slice so1 a2.length sc1] rfl rfl (old1 (at0 w1 _) _) (by kernel_rfl) (by simp) rfl rfl ?_
              intro W3 hb3 o3
              simp only [Act.put]
              have HW3 := Lib.hid (ext_off HW2.out o3 (fun k hk => by omega))
              have k7 := (o3.block (w1.heap.size + 1) (by rw [size_alloc, size_alloc]; omega) (by omega)).trans (at1 w1 _ _)
              refine xone 13 (hk := HW3.out) (h := RunX.of 13 (h := ?_))
              refine wp_st 39 (.tmp 7) (.tmp 39) rfl (w1.heap.size + 1) 0 39 #[.int .i64 0, .int .i64 0, .slice none 0 0] #[.int .i64 f0, .int .i64 f1, .slice so2 f2.length sc2] #[.int .i64 f0, .int .i64 f1, .slice so2 f2.length sc2] rfl rfl k7 (by kernel_rfl) (by simp) rfl rfl ?_
              intro W4 hb4 o4
              simp only [Act.put]
              have HW4 := Lib.hid (ext_off HW3.out o4 (fun k hk => by omega))
              have HB6 := Lib.hid ((o4.block (w1.heap.size) (blk_lt hb3) (by omega)).trans hb3)
              have HB7 := Lib.hid hb4
              clear hb3 o3 hb4 o4 k7
              (refine xdone (by kernel_rfl) (HW4.out) ?_)
              go_wp2_with fail
              go_meet
              exact ⟨_, _, rfl, rfl, Lib.hid ⟨HW4.out, HB6.out, HB7.out⟩⟩
            · go_simp
              (try (simp only [Act.put, List.setIfInBounds_toArray, List.set]))
              refine xone 10 (hk := (HW1.out.alloc _)) (h := RunX.of 10 (h := ?_))
              go_simp
              (try (simp only [Act.put, List.setIfInBounds_toArray, List.set]))
              have HW2 : Hid (Ext wr ((w1.alloc (.cells #[.int .i64 0, .int .i64 0, .slice none 0 0] 39)).alloc (.cells #[.int .i64 0, .int .i64 0, .slice none 0 0] 39))) := Lib.hid ((HW1.out.alloc _).alloc _)
              have hsw := Below.size HW1.out
              refine xone 12 (hk := HW2.out) (h := RunX.of 12 (h := ?_))
              refine wp_st 39 (.tmp 6) (.tmp 34) rfl (w1.heap.size + 1) 0 39 #[.int .i64 0, .int .i64 0, .slice none 0 0] #[.int .i64 a0, .int .i64 a1, .slice so1 a2.length sc1] #[.int .i64 a0, .int .i64 a1, .slice so1 a2.length sc1] rfl rfl (at1 w1 _ _) (by kernel_rfl) (by simp) rfl rfl ?_
              intro W3 hb3 o3
              simp only [Act.put]
              have HW3 := Lib.hid (ext_off HW2.out o3 (fun k hk => by omega))
              have k7 := (o3.block (w1.heap.size) (by rw [size_alloc, size_alloc]; omega) (by omega)).trans (old1 (at0 w1 _) _)
              refine xone 13 (hk := HW3.out) (h := RunX.of 13 (h := ?_))
              refine wp_st 39 (.tmp 7) (.tmp 39) rfl (w1.heap.size) 0 39 #[.int .i64 0, .int .i64 0, .slice none 0 0] #[.int .i64 f0, .int .i64 f1, .slice so2 f2.length sc2] #[.int .i64 f0, .int .i64 f1, .slice so2 f2.length sc2] rfl rfl k7 (by kernel_rfl) (by simp) rfl rfl ?_
              intro W4 hb4 o4
              simp only [Act.put]
              have HW4 := Lib.hid (ext_off HW3.out o4 (fun k hk => by omega))
              have HB6 := Lib.hid ((o4.block (w1.heap.size + 1) (blk_lt hb3) (by omega)).trans hb3)
              have HB7 := Lib.hid hb4
              clear hb3 o3 hb4 o4 k7
              (refine xdone (by kernel_rfl) (HW4.out) ?_)
              go_wp2_with fail
              go_meet
              exact ⟨_, _, rfl, rfl, Lib.hid ⟨HW4.out, HB6.out, HB7.out⟩⟩
          case rest =>
            obtain ⟨B6, B7, rfl, rfl, HCUT⟩ := hcut
            have HD6 : Hid (∀ V, Ext wc V → (V.cell? ⟨B6, 0, none⟩ = some (.int .i64 a0) ∧ V.cell? ⟨B6, 1, none⟩ = some (.int .i64 a1) ∧ V.cell? ⟨B6, 2, none⟩ = some (.slice so1 a2.length sc1)) ∧ V.cell? ⟨B7, 0, none⟩ = some (.int .i64 f0) ∧ V.cell? ⟨B7, 1, none⟩ = some (.int .i64 f1) ∧ V.cell? ⟨B7, 2, none⟩ = some (.slice so2 f2.length sc2)) := Lib.hid fun V hV => by
              have q6 := (hV.block _ (blk_lt HCUT.out.2.1)).trans HCUT.out.2.1
              have q7 := (hV.block _ (blk_lt HCUT.out.2.2)).trans HCUT.out.2.2
              exact ⟨⟨blk_cell q6 0 rfl, blk_cell q6 1 rfl, blk_cell q6 2 rfl⟩, blk_cell q7 0 rfl, blk_cell q7 1 rfl, blk_cell q7 2 rfl⟩
            obtain ⟨⟨i0, i1, i2c⟩, j0, j1, j2c⟩ := HD6.out wc (Ext.refl _)
            obtain ⟨⟨x, xb⟩, hxs⟩ : ∃ p, sideR a2 f0 = p := ⟨_, rfl⟩
            obtain ⟨⟨y, yb⟩, hys⟩ : ∃ p, sideR f2 a0 = p := ⟨_, rfl⟩
            have HXS := Lib.hid hxs
            have HYS := Lib.hid hys
            have HT1 := Lib.hid (HS1.out.ext HCUT.out.1)
            have HT2 := Lib.hid (HS2.out.ext HCUT.out.1)
            have HMW := Lib.hid (HM1.out.ext HCUT.out.1)
            have HZW := Lib.hid (HQ2.out.ext HCUT.out.1)
            have HGW : Hid (∀ V, Ext wc V → V.cell? ⟨w.heap.size, 0, none⟩ = some (.slice (some ⟨b1, o1, none⟩) L.length c) ∧ V.cell? ⟨w.heap.size, 1, none⟩ = some (.slice mo m.length mc)) := Lib.hid fun V hV => HG8.out V (HCUT.out.1.trans hV)
            obtain ⟨x0, x1, x2, x3, x4, x5, x6, x7⟩ := x
            obtain ⟨y0, y1, y2, y3, y4, y5, y6, y7⟩ := y
            clear hxs hys
            go_upto_region 11 with (first
              | (go_at_call 21; have hgd := X9; refine (refSide_any _ f0 f1 _ f2 a0 (HT2.out.ext (X9.out.alloc _)) _ _ HYS.out).mono ?_; rintro e w10 ⟨rfl, hx⟩; dsimp only [Sd.cs]; have X10 := Lib.hid (Ext.trans (X9.out.alloc (.cells #[.int .i64 x0, .int .i64 x1, .int .i64 x2, .bool x3, .bool x4, .bool x5, .bool x6, .bool x7] 49)) hx); have hb8 := box1 (hx.mono (by rw [size_alloc]; omega)); have HB8 := Lib.hid hb8; obtain ⟨⟨m0, m1, m2⟩, n0, n1, n2⟩ := HD6.out w10 X10.out; clear hx hb8 hgd)
              | (go_at_call 21; refine (refSide_any _ a0 a1 _ a2 f0 HT1.out _ _ HXS.out).mono ?_; rintro e w9 ⟨rfl, hx⟩; dsimp only [Sd.cs]; have X9 := Lib.hid hx; obtain ⟨⟨m0, m1, m2⟩, n0, n1, n2⟩ := HD6.out (w9.alloc (.cells #[.int .i64 x0, .int .i64 x1, .int .i64 x2, .bool x3, .bool x4, .bool x5, .bool x6, .bool x7] 49)) (hx.alloc _); clear hx))
            have X11 : Hid (Ext wc (w10.alloc (.cells #[.int .i64 y0, .int .i64 y1, .int .i64 y2, .bool y3, .bool y4, .bool y5, .bool y6, .bool y7] 49))) := Lib.hid (X10.out.alloc _)
            have HC8 := Lib.hid (fun (V : World) (hV : Ext (w10.alloc (.cells #[.int .i64 y0, .int .i64 y1, .int .i64 y2, .bool y3, .bool y4, .bool y5, .bool y6, .bool y7] 49)) V) => cells8 ((hV.block _ (blk_lt (blk_alloc HB8.out (.cells #[.int .i64 y0, .int .i64 y1, .int .i64 y2, .bool y3, .bool y4, .bool y5, .bool y6, .bool y7] 49)))).trans (blk_alloc HB8.out (.cells #[.int .i64 y0, .int .i64 y1, .int .i64 y2, .bool y3, .bool y4, .bool y5, .bool y6, .bool y7] 49))))
            have HC10 := Lib.hid (fun (V : World) (hV : Ext (w10.alloc (.cells #[.int .i64 y0, .int .i64 y1, .int .i64 y2, .bool y3, .bool y4, .bool y5, .bool y6, .bool y7] 49)) V) => cells8 ((hV.block _ (blk_lt (at0 w10 (.cells #[.int .i64 y0, .int .i64 y1, .int .i64 y2, .bool y3, .bool y4, .bool y5, .bool y6, .bool y7] 49)))).trans (at0 w10 (.cells #[.int .i64 y0, .int .i64 y1, .int .i64 y2, .bool y3, .bool y4, .bool y5, .bool y6, .bool y7] 49))))
            obtain ⟨⟨⟨r0, r1⟩, r2, r3⟩, ⟨r4, r5⟩, r6, r7⟩ := HC8.out _ (Ext.refl _)
            obtain ⟨⟨⟨z0, z1⟩, z2, z3⟩, ⟨z4, z5⟩, z6, z7⟩ := HC10.out _ (Ext.refl _)
            clear r0 r2 r3 r4 r5 r6 r7 z0 z2 z3 z4 z5 z6 z7
            obtain ⟨G1, hG1⟩ : ∃ G, goesB m f0 a0 x1 = G := ⟨_, rfl⟩
            obtain ⟨G2, hG2⟩ : ∃ G, goesB m a0 f0 x1 = G := ⟨_, rfl⟩
            obtain ⟨NN, hNN⟩ : ∃ n, firstI x3 x4 y3 y4 G1 G2 = n := ⟨_, rfl⟩
            have HG1 := Lib.hid hG1
            have HG2 := Lib.hid hG2
            have HNN := Lib.hid hNN
            have HAI : Hid (arc2 m ⟨a0, a1, a2⟩ ⟨f0, f1, f2⟩ = if (xb && yb && decide (x1 = y1)) = true then (if NN = 1 then [⟨a0, f0⟩] else if NN = 2 then [⟨f0, a0⟩] else []) else []) := Lib.hid (by
              unfold arc2
              simp only [HXS.out, HYS.out, hG1, hG2, hNN])
            clear hG1 hG2 hNN
            cases xb
            · have HNIL : Hid (arc2 m ⟨a0, a1, a2⟩ ⟨f0, f1, f2⟩ = []) := Lib.hid (by rw [HAI.out]; rfl)
              go_wp2
              go_roundw
              case rel => exact ⟨i2 + 1, by omega, by omega, by go_num, Lib.hid (by rw [HJ3.out, HZ.out, HNIL.out, List.append_nil]; exact (HZW.out.ext X11.out)), Lib.hid (Ext.trans HX2.out (Ext.trans HCUT.out.1 X11.out))⟩
              case measure => simp [intOf]; omega
            cases yb
            · have HNIL : Hid (arc2 m ⟨a0, a1, a2⟩ ⟨f0, f1, f2⟩ = []) := Lib.hid (by rw [HAI.out]; rfl)
              go_wp2
              go_roundw
              case rel => exact ⟨i2 + 1, by omega, by omega, by go_num, Lib.hid (by rw [HJ3.out, HZ.out, HNIL.out, List.append_nil]; exact (HZW.out.ext X11.out)), Lib.hid (Ext.trans HX2.out (Ext.trans HCUT.out.1 X11.out))⟩
              case measure => simp [intOf]; omega
            by_cases hep : x1 = y1
            · subst hep
              have HAJ : Hid (arc2 m ⟨a0, a1, a2⟩ ⟨f0, f1, f2⟩ = if NN = 1 then [⟨a0, f0⟩] else if NN = 2 then [⟨f0, a0⟩] else []) := Lib.hid (by rw [HAI.out]; simp)
              go_upto_region 12 with (fail)
              have HX : Ext (w10.alloc (.cells #[.int .i64 y0, .int .i64 x1, .int .i64 y2, .bool y3, .bool y4, .bool y5, .bool y6, .bool y7] 49)) _ := Ext.refl _
              refine wp_region_M_lit (by kernel_rfl) ?_
              refine tv 0 (hv := by intro w' hw'; obtain ⟨⟨⟨c0, c1⟩, c2, c3⟩, ⟨c4, c5⟩, c6, c7⟩ := HC8.out w' hw'; go_simp; first | done | with_reducible rfl) (h := ?_)
              refine tv 1 (hv := by intro w' hw'; obtain ⟨⟨⟨c0, c1⟩, c2, c3⟩, ⟨c4, c5⟩, c6, c7⟩ := HC10.out w' hw'; go_simp; first | done | with_reducible rfl) (h := ?_)
              refine tv 2 (h := ?_)
              refine tv 3 (hv := by intro w' hw'; have hc := (HGW.out w' (X11.out.trans hw')).2; go_simp; first | done | with_reducible rfl) (h := ?_)
              refine tv 4 (h := ?_)
              refine tv 5 (hv := by intro w' hw'; have hc := (HD6.out w' (X11.out.trans hw')).2.1; go_simp; first | done | with_reducible rfl) (h := ?_)
              refine tv 6 (h := ?_)
              refine tv 7 (hv := by intro w' hw'; have hc := (HD6.out w' (X11.out.trans hw')).1.1; go_simp; first | done | with_reducible rfl) (h := ?_)
              refine tv 8 (h := ?_)
              refine tv 9 (hv := by intro w' hw'; obtain ⟨⟨⟨c0, c1⟩, c2, c3⟩, ⟨c4, c5⟩, c6, c7⟩ := HC8.out w' hw'; go_simp; first | done | with_reducible rfl) (h := ?_)
              (refine takeG 10 (v := ?_) (hv := fun w' hw' => ?_) (h := ?_); rotate_left; focus (go_simp; refine ⟨Ext.refl _, ?_⟩; (have hq := refGoes_any w' _ m f0 a0 x1 (HMW.out.ext (X11.out.trans hw')) G1 HG1.out; exact hq))); (simp only [Act.put, List.setIfInBounds_toArray, List.set])
              refine tv 11 (h := ?_)
              refine tv 12 (hv := by intro w' hw'; have hc := (HGW.out w' (X11.out.trans hw')).2; go_simp; first | done | with_reducible rfl) (h := ?_)
              refine tv 13 (h := ?_)
              refine tv 14 (hv := by intro w' hw'; have hc := (HD6.out w' (X11.out.trans hw')).1.1; go_simp; first | done | with_reducible rfl) (h := ?_)
              refine tv 15 (h := ?_)
              refine tv 16 (hv := by intro w' hw'; have hc := (HD6.out w' (X11.out.trans hw')).2.1; go_simp; first | done | with_reducible rfl) (h := ?_)
              refine tv 17 (h := ?_)
              refine tv 18 (hv := by intro w' hw'; obtain ⟨⟨⟨c0, c1⟩, c2, c3⟩, ⟨c4, c5⟩, c6, c7⟩ := HC8.out w' hw'; go_simp; first | done | with_reducible rfl) (h := ?_)
              (refine takeG 19 (v := ?_) (hv := fun w' hw' => ?_) (h := ?_); rotate_left; focus (go_simp; refine ⟨Ext.refl _, ?_⟩; (have hq := refGoes_any w' _ m a0 f0 x1 (HMW.out.ext (X11.out.trans hw')) G2 HG2.out; exact hq))); (simp only [Act.put, List.setIfInBounds_toArray, List.set])
              (refine takeG 20 (v := ?_) (hv := fun w' hw' => ?_) (h := ?_); rotate_left; focus (go_simp; refine ⟨Ext.refl _, ?_⟩; (have hq := refFirst_any w' ⟨x0, x1, x2, x3, x4, x5, x6, x7⟩ ⟨y0, x1, y2, y3, y4, y5, y6, y7⟩ G1 G2 NN HNN.out; exact hq))); (simp only [Act.put, List.setIfInBounds_toArray, List.set])
              refine tv 21 (h := ?_)
              (refine doneM (by kernel_rfl) ?_; intro w' hw'; show _)
              have X12 : Hid (Ext wc w') := Lib.hid (X11.out.trans hw')
              obtain ⟨⟨l0, l1, l2⟩, l3, l4, l5⟩ := HD6.out w' X12.out
              by_cases hn1 : NN = 1
              · subst hn1
                have HONE : Hid (arc2 m ⟨a0, a1, a2⟩ ⟨f0, f1, f2⟩ = [⟨a0, f0⟩]) := Lib.hid (by rw [HAJ.out]; rfl)
                go_wp2_with (first
                  | (at_builtin; refine wpList_append_sl (α := Arc) rfl (.tmp 90) (.tmp 96) rfl (w.heap.size + 1) _ Z rfl ?_ (.slice (some ⟨_, 0, none⟩) 1 1) [(⟨a0, f0⟩ : Arc)] rfl ?_ ?_ ?_ ?_; exact ((HZW.out.ext X12.out).alloc _); exact (Sl.litAt _ _ (by simp) [(⟨a0, f0⟩ : Arc)] (show (1 : Nat) ≤ 1000000 by decide)); (first | omega | (simp; omega)); exact (by rw [size_alloc]; have h1 := Below.size X12.out; have h2 := Below.size HCUT.out.1; have h3 := Below.size HX2.out; rw [size_alloc] at h3; omega); intro v5 W5 ho5 ha5; have O5 := Lib.hid ho5; have X5 := Lib.hid (Below.trans (Ext.alloc (Ext.trans HX2.out (Ext.trans HCUT.out.1 X12.out)) _) (Below.mono ha5.below (by rw [size_alloc]; omega))); clear ho5 ha5))
                go_roundw
                case rel => exact ⟨i2 + 1, by omega, by omega, by go_num, Lib.hid (by rw [HJ3.out, HZ.out, HONE.out]; exact O5.out), X5⟩
                case measure => simp [intOf]; omega
              · have e1 : (NN == 1) = false := by simp [hn1]
                by_cases hn2 : NN = 2
                · subst hn2
                  have HONE : Hid (arc2 m ⟨a0, a1, a2⟩ ⟨f0, f1, f2⟩ = [⟨f0, a0⟩]) := Lib.hid (by rw [HAJ.out]; rfl)
                  go_wp2_with (first
                    | (at_builtin; refine wpList_append_sl (α := Arc) rfl (.tmp 100) (.tmp 106) rfl (w.heap.size + 1) _ Z rfl ?_ (.slice (some ⟨_, 0, none⟩) 1 1) [(⟨f0, a0⟩ : Arc)] rfl ?_ ?_ ?_ ?_; exact ((HZW.out.ext X12.out).alloc _); exact (Sl.litAt _ _ (by simp) [(⟨f0, a0⟩ : Arc)] (show (1 : Nat) ≤ 1000000 by decide)); (first | omega | (simp; omega)); exact (by rw [size_alloc]; have h1 := Below.size X12.out; have h2 := Below.size HCUT.out.1; have h3 := Below.size HX2.out; rw [size_alloc] at h3; omega); intro v5 W5 ho5 ha5; have O5 := Lib.hid ho5; have X5 := Lib.hid (Below.trans (Ext.alloc (Ext.trans HX2.out (Ext.trans HCUT.out.1 X12.out)) _) (Below.mono ha5.below (by rw [size_alloc]; omega))); clear ho5 ha5))
                  go_roundw
                  case rel => exact ⟨i2 + 1, by omega, by omega, by go_num, Lib.hid (by rw [HJ3.out, HZ.out, HONE.out]; exact O5.out), X5⟩
                  case measure => simp [intOf]; omega
                · have e2 : (NN == 2) = false := by simp [hn2]
                  have HNIL : Hid (arc2 m ⟨a0, a1, a2⟩ ⟨f0, f1, f2⟩ = []) := Lib.hid (by rw [HAJ.out, if_neg hn1, if_neg hn2])
                  clear hn1 hn2
                  go_wp2
                  go_roundw
                  case rel => exact ⟨i2 + 1, by omega, by omega, by go_num, Lib.hid (by rw [HJ3.out, HZ.out, HNIL.out, List.append_nil]; exact (HZW.out.ext X12.out)), Lib.hid (Ext.trans HX2.out (Ext.trans HCUT.out.1 X12.out))⟩
                  case measure => simp [intOf]; omega
            · have e1 : (x1 != y1) = true := by simp [hep]
              have HNIL : Hid (arc2 m ⟨a0, a1, a2⟩ ⟨f0, f1, f2⟩ = []) := Lib.hid (by rw [HAI.out]; simp [hep])
              clear hep
              go_wp2
              go_roundw
              case rel => exact ⟨i2 + 1, by omega, by omega, by go_num, Lib.hid (by rw [HJ3.out, HZ.out, HNIL.out, List.append_nil]; exact (HZW.out.ext X11.out)), Lib.hid (Ext.trans HX2.out (Ext.trans HCUT.out.1 X11.out))⟩
              case measure => simp [intOf]; omega
        · have hie : i2 = L.length := by omega
          have hR2 : R.length ≤ i2 - (k + 1) := by have := HRL.out; omega
          have hq := HQ2.out
          rw [List.take_of_length_le hR2, ← HN.out] at hq
          have HQ3 := Lib.hid hq
          clear hq HQ2 hR2
          go_wp2
          go_roundw
          case rel => exact ⟨k + 1, by omega, by go_num, HQ3, HX2⟩
          case measure => simp [intOf]; omega
    · have hkl : k = L.length := by omega
      rw [hkl] at HQ
      have HQ' := HQ
      clear HQ hkl
      go_wp2
      go_ret
      exact ⟨_, rfl, HQ'.out.mono (by omega), Ext.trans ((Ext.refl w).alloc _) HX.out⟩

end Go.Proofs.Ytpnnnbjjoimalaa
