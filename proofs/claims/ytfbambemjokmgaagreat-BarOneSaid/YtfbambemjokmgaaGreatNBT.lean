/- Texts of this seat. -/
import Derived.Test.YtfbambemjokmgaaGreatNAX
import Derived.Test.YtfbambemjokmgaaGreatNBS
namespace Go.Proofs.YtfbambemjokmgaaGreat
open Go.RowKit
set_option maxRecDepth 100000 in
set_option maxHeartbeats 16000000 in
theorem countB4_any (w : World) (vd vm : Value) (L : List Dk) (M : List Ml) (h : BV w vd vm L M) (hm : M.length ≤ 1000) (A B : Nat) (iA pA tA iB pB tB : Int) (SA SB : List Sd) (NA NB : List Int) (hA : L[A]? = some ⟨iA, pA, SA, tA, NA⟩) (hB : L[B]? = some ⟨iB, pB, SB, tB, NB⟩) (hne : A ≠ B) (x y : Sd) (hx : sideR SA B = (x, true)) (hy : sideR SB A = (y, true)) (he : x.epoch = y.epoch) :
    Calls Tryz.prog 19 #[.agg #[vd, vm], .agg #[.int .i64 A, .int .i64 B], .int .i64 4] w fun e w' => e = .returned (.int .i64 (cntB x y M A B 4 : Nat)) ∧ Ext w w' := by
  obtain ⟨ao, c, bo, d, rfl, rfl⟩ := h.len
  obtain ⟨W0, hW0⟩ : ∃ W0, W0 = (w.alloc (.cells #[.slice ao L.length c, .slice bo M.length d] 25)).alloc (.cells #[.int .i64 A, .int .i64 B] 30) := ⟨_, rfl⟩
  have X0 : Hid (Ext w W0) := Lib.hid (hW0 ▸ ((Ext.refl w).alloc _).alloc _)
  have B0 : Hid (W0.heap[w.heap.size]? = some (.cells #[.slice ao L.length c, .slice bo M.length d] 25 (0, 0))) := Lib.hid (hW0 ▸ old1 (at0 w _) _)
  have D0 : Hid (W0.heap[w.heap.size + 1]? = some (.cells #[.int .i64 A, .int .i64 B] 30 (0, 0))) := Lib.hid (hW0 ▸ at1 w _ _)
  have HW0 := Lib.hid hW0
  have HV := Lib.hid (h.ext X0.out)
  have HC := Lib.hid (endsB_any W0 _ _ L M HV.out A B iA pA tA iB pB tB SA SB NA NB hA hB hne x y hx hy he)
  obtain ⟨cnt, hcnt⟩ : ∃ q, cntB x y M A B 4 = q := ⟨_, rfl⟩
  have HCN := Lib.hid hcnt
  rw [hcnt]
  obtain ⟨x0, x1, x2, x3, x4, x5, x6, x7⟩ := x
  obtain ⟨y0, y1, y2, y3, y4, y5, y6, y7⟩ := y
  unfold Sd.cs at HC
  dsimp only at HC
  obtain ⟨k0, k1⟩ := cells2S B0.out
  obtain ⟨k2, k3⟩ := cells2S D0.out
  clear h hW0 hA hB hx hy he hne hcnt
  go_enter Tryz.func19, Tryz.ntmps19
  go_upto_region 1 with (fail)
  rw [← HW0.out]
  go_wp2_with (first
    | (go_at_call 65; refine HC.out.mono ?_; rintro e w1 ⟨rfl, hx⟩; have X1 := Lib.hid hx; clear hx)
    | refine haltst 66 ?_)
  refine .inl ?_
  refine st_l 66 (.tmp 7) (.tmp 34) w1.heap.size 0 66 #[.int .i64 0, .int .i64 0, .int .i64 0, .bool false, .bool false, .bool false, .bool false, .bool false] #[.int .i64 x0, .int .i64 x1, .int .i64 x2, .bool x3, .bool x4, .bool x5, .bool x6, .bool x7] #[.int .i64 x0, .int .i64 x1, .int .i64 x2, .bool x3, .bool x4, .bool x5, .bool x6, .bool x7] rfl rfl (old1 (at0 w1 _) _) (by kernel_rfl) (by simp) rfl rfl ?_
  intro W3 hW3 o3
  simp only [Act.put]
  have X3 : Hid (Ext W0 W3) := Lib.hid (ext_off ((X1.out.alloc _).alloc _) o3 (fun b hb => by have := Below.size X1.out; omega))
  have E3 : Hid (W3.heap[w1.heap.size + 1]? = some (.cells #[.int .i64 0, .int .i64 0, .int .i64 0, .bool false, .bool false, .bool false, .bool false, .bool false] 66 (0, 0))) := Lib.hid (o3.blk (at1 w1 _ _) (by omega))
  have F3 := Lib.hid hW3
  have hw1 : W0.heap.size ≤ w1.heap.size := Below.size X1.out
  clear hW3 o3
  go_wp2_with (first | refine haltst 66 ?_)
  refine .inl ?_
  refine st_l 66 (.tmp 8) (.tmp 35) (w1.heap.size + 1) 0 66 #[.int .i64 0, .int .i64 0, .int .i64 0, .bool false, .bool false, .bool false, .bool false, .bool false] #[.int .i64 y0, .int .i64 y1, .int .i64 y2, .bool y3, .bool y4, .bool y5, .bool y6, .bool y7] #[.int .i64 y0, .int .i64 y1, .int .i64 y2, .bool y3, .bool y4, .bool y5, .bool y6, .bool y7] rfl rfl E3.out (by kernel_rfl) (by simp) rfl rfl ?_
  intro W4 hW4 o4
  simp only [Act.put]
  have X4 : Hid (Ext W0 W4) := Lib.hid (ext_off X3.out o4 (fun b hb => by omega))
  have F4 : Hid (W4.heap[w1.heap.size]? = some (.cells #[.int .i64 x0, .int .i64 x1, .int .i64 x2, .bool x3, .bool x4, .bool x5, .bool x6, .bool x7] 66 (0, 0))) := Lib.hid (o4.blk F3.out (by omega))
  have G4 : Hid (W4.heap[w1.heap.size + 1]? = some (.cells #[.int .i64 y0, .int .i64 y1, .int .i64 y2, .bool y3, .bool y4, .bool y5, .bool y6, .bool y7] 66 (0, 0))) := Lib.hid hW4
  clear hW4 o4 k0 k1 k2 k3
  obtain ⟨⟨⟨a0, a1⟩, a2, a3⟩, ⟨a4, a5⟩, a6, a7⟩ := cells8U F4.out
  obtain ⟨⟨⟨b0, b1⟩, b2, b3⟩, ⟨b4, b5⟩, b6, b7⟩ := cells8U G4.out
  obtain ⟨XY, hXY⟩ : ∃ XY, XY = [(⟨x0, x1, x2, x3, x4, x5, x6, x7⟩ : Sd), ⟨y0, y1, y2, y3, y4, y5, y6, y7⟩] := ⟨_, rfl⟩
  have HXY := Lib.hid hXY
  have hxl : XY.length = 2 := by rw [hXY]; rfl
  have HCN2 : Hid ((XY.map (cntKB 4)).sum + (M.countP fun m => betweenB A B m && m.kind == 4 && m.epoch == x1) = cnt) := Lib.hid (by rw [hXY, ← HCN.out]; exact cntB_is _ _ _ _ _ _)
  clear hXY HCN
  replace hxl := Lib.hid hxl
  go_upto_region 8 with (fail)
  go_loopw [10, 42] (fun q i wr => ∃ j : Nat, j ≤ 2 ∧ i = .int .i64 j ∧ ∃ n : Nat, n ≤ j ∧ q = .int .i64 n ∧ Hid (n = ((XY.take j).map (cntKB 4)).sum) ∧ Hid (Ext W4 wr)) (fun _ i _ => 2 - (intOf i).toNat)
  case atStart => exact ⟨0, by omega, rfl, 0, by omega, rfl, Lib.hid rfl, Lib.hid (Ext.refl _)⟩
  case round =>
    obtain ⟨j, hj, rfl, n, hn, rfl, HN, HX⟩ := hrel
    by_cases hlt : j < 2
    · obtain ⟨s, hsj⟩ : ∃ s, XY[j]? = some s := ⟨_, List.getElem?_eq_getElem (by rw [hxl.out]; exact hlt)⟩
      have HNX : Hid (((XY.take (j + 1)).map (cntKB 4)).sum = n + cntKB 4 s) := Lib.hid (by rw [take_nextD hsj, List.map_append, List.sum_append, HN.out]; rfl)
      have hw : IntKind.i64.wrap ((n : Int) + 1) = (n : Int) + 1 := wrapN _ (by omega) (by omega)
      have hix := index_two j ⟨x0, x1, x2, x3, x4, x5, x6, x7⟩ ⟨y0, y1, y2, y3, y4, y5, y6, y7⟩ s (by rw [← HXY.out]; exact hsj)
      have hib := fun a b => index_lies4 a b
      have hji : (j : Int) < 2 := by omega
      clear hsj HN
      obtain ⟨z0, z1, z2, z3, z4, z5, z6, z7⟩ := s
      unfold Sd.cs at hix
      dsimp only at hix
      cases z7
      · have HF : Hid (((XY.take (j + 1)).map (cntKB 4)).sum = n) := Lib.hid (by rw [HNX.out]; rfl)
        have HLI := lies_any (wr.alloc (.cells (Sd.cs ⟨z0, z1, z2, z3, z4, z5, z6, false⟩) 66)) ⟨z0, z1, z2, z3, z4, z5, z6, false⟩
        unfold Sd.cs at HLI
        dsimp only at HLI
        replace HLI := Lib.hid HLI
        go_wp2_with (go_at_call 66; refine HLI.out.mono ?_; rintro e w8 ⟨rfl, hx⟩; have X8 : Hid (Ext W4 w8) := Lib.hid (HX.out.trans (Ext.trans ((Ext.refl wr).alloc _) hx)); clear hx)
        go_roundw
        case rel => exact ⟨j + 1, by omega, by go_num, n, by omega, rfl, Lib.hid HF.out.symm, X8⟩
        case measure => simp [intOf]; omega
      · have HF : Hid (((XY.take (j + 1)).map (cntKB 4)).sum = n + 1) := Lib.hid (by rw [HNX.out]; rfl)
        have HLI := lies_any (wr.alloc (.cells (Sd.cs ⟨z0, z1, z2, z3, z4, z5, z6, true⟩) 66)) ⟨z0, z1, z2, z3, z4, z5, z6, true⟩
        unfold Sd.cs at HLI
        dsimp only at HLI
        replace HLI := Lib.hid HLI
        go_wp2_with (go_at_call 66; refine HLI.out.mono ?_; rintro e w8 ⟨rfl, hx⟩; have X8 : Hid (Ext W4 w8) := Lib.hid (HX.out.trans (Ext.trans ((Ext.refl wr).alloc _) hx)); clear hx)
        go_roundw
        case rel => exact ⟨j + 1, by omega, by go_num, n + 1, by omega, by first | (simp; done) | (rw [hw]; simp), Lib.hid HF.out.symm, X8⟩
        case measure => simp [intOf]; omega
    · have hj2 : j = 2 := by omega
      have HN2 : Hid (n = (XY.map (cntKB 4)).sum) := Lib.hid (by have := HN.out; rwa [hj2, ← hxl.out, List.take_length] at this)
      have HX2 : Hid (Ext W0 wr) := Lib.hid (X4.out.trans HX.out)
      have HX4 : Hid (Ext W4 wr) := HX
      obtain ⟨k0, k1⟩ := cells2S (keepU B0.out HX2.out)
      obtain ⟨W6, hW6⟩ : ∃ W6, W6 = wr := ⟨_, rfl⟩
      rw [← hW6] at HX2 HX4 k0 k1 ⊢
      clear hW6 HN HX hj2
      go_wp2
      go_loopw [10, 56] (fun q i wr => ∃ j : Nat, j ≤ M.length ∧ i = .int .i64 j ∧ ∃ n2 : Nat, n2 ≤ n + j ∧ q = .int .i64 n2 ∧ Hid (n2 = n + (M.take j).countP fun m => betweenB A B m && m.kind == 4 && m.epoch == x1) ∧ Hid (Ext W6 wr)) (fun _ i _ => M.length - (intOf i).toNat)
      case atStart => exact ⟨0, by omega, rfl, n, by omega, rfl, Lib.hid (by simp), Lib.hid (Ext.refl _)⟩
      case round =>
        obtain ⟨j, hj, rfl, n2, hn2, rfl, HN3, HX⟩ := hrel
        by_cases hlt : j < M.length
        · obtain ⟨b, off, m, _, hmj, rfl, _, hnc, hc63, hb, hcell⟩ := HV.out.ms.mailAt hlt
          obtain ⟨⟨a0, a1⟩, a2, a3, a4⟩ := hcell wr (HX2.out.trans HX.out)
          have HNX : Hid (((M.take (j + 1)).countP fun m => betweenB A B m && m.kind == 4 && m.epoch == x1) + n = n2 + cond (betweenB A B m && m.kind == 4 && m.epoch == x1) 1 0) := Lib.hid (by
            rw [take_nextD hmj, List.countP_append, HN3.out, List.countP_cons, List.countP_nil]
            cases hq : (betweenB A B m && m.kind == 4 && m.epoch == x1) <;> simp <;> omega)
          have hw : IntKind.i64.wrap ((n2 : Int) + 1) = (n2 : Int) + 1 := wrapN _ (by omega) (by omega)
          clear hcell hmj HN3
          obtain ⟨m0, m1, m2, m3, m4⟩ := m
          dsimp only at a0 a1 a2 a3 a4 HNX
          unfold betweenB at HNX
          dsimp only at HNX
          obtain ⟨W7, hW7⟩ : ∃ W7, W7 = wr.alloc (.cells #[.int .i64 m0, .int .i64 m1, .int .i64 m2, .int .i64 m3, .int .i64 m4] 95) := ⟨_, rfl⟩
          have Y7 : Hid (Ext W6 W7) := Lib.hid (hW7 ▸ HX.out.alloc _)
          have B7 : Hid (W7.heap[wr.heap.size]? = some (.cells #[.int .i64 m0, .int .i64 m1, .int .i64 m2, .int .i64 m3, .int .i64 m4] 95 (0, 0))) := Lib.hid (hW7 ▸ at0 wr _)
          have HW7 := Lib.hid hW7
          have q7 := B7.out
          have c0 := blk_cell q7 0 rfl
          have c1 := blk_cell q7 1 rfl
          have c2 := blk_cell q7 2 rfl
          have c3 := blk_cell q7 3 rfl
          obtain ⟨e0, e1⟩ := cells2S (keepU D0.out (HX2.out.trans Y7.out))
          have f1 := blk_cell (keepU F4.out (HX4.out.trans Y7.out)) 1 rfl
          clear hW7 q7
          go_upto_region 16 with (fail)
          rw [← HW7.out]
          clear a0 a1 a2 a3 a4
          obtain ⟨q1, hq1⟩ : ∃ q, (m0 == (A : Int)) = q := ⟨_, rfl⟩
          obtain ⟨q2, hq2⟩ : ∃ q, (m1 == (B : Int)) = q := ⟨_, rfl⟩
          obtain ⟨q3, hq3⟩ : ∃ q, (m0 == (B : Int)) = q := ⟨_, rfl⟩
          obtain ⟨q4, hq4⟩ : ∃ q, (m1 == (A : Int)) = q := ⟨_, rfl⟩
          obtain ⟨q5, hq5⟩ : ∃ q, (m2 == 4) = q := ⟨_, rfl⟩
          obtain ⟨q6, hq6⟩ : ∃ q, (m3 == x1) = q := ⟨_, rfl⟩
          rw [hq1, hq2, hq3, hq4, hq5, hq6] at HNX
          go_cut [15] (fun s15 wx => s15 = .bool ((q1 && q2) || (q3 && q4)) ∧ wx = W7)
          case first =>
            cases q1 <;> cases q2 <;> cases q3 <;> cases q4
            all_goals
              go_wp2_with fail
              go_meet
              exact ⟨rfl, rfl⟩
          case rest =>
            obtain ⟨rfl, rfl⟩ := hcut
            obtain ⟨qb, hqb⟩ : ∃ q, ((q1 && q2) || (q3 && q4)) = q := ⟨_, rfl⟩
            rw [hqb] at HNX ⊢
            clear hqb hq1 hq2 hq3 hq4
            cases qb
            · have HF : Hid (n2 = n + (M.take (j + 1)).countP fun m => betweenB A B m && m.kind == 4 && m.epoch == x1) := Lib.hid (by have := HNX.out; simp only [betweenB]; simp at this; omega)
              go_wp2
              go_roundw
              case rel => exact ⟨j + 1, by omega, by go_num, n2, by omega, rfl, HF, Y7⟩
              case measure => simp [intOf]; omega
            cases q5
            · have HF : Hid (n2 = n + (M.take (j + 1)).countP fun m => betweenB A B m && m.kind == 4 && m.epoch == x1) := Lib.hid (by have := HNX.out; simp only [betweenB]; simp at this; omega)
              go_wp2
              go_roundw
              case rel => exact ⟨j + 1, by omega, by go_num, n2, by omega, rfl, HF, Y7⟩
              case measure => simp [intOf]; omega
            cases q6
            · have HF : Hid (n2 = n + (M.take (j + 1)).countP fun m => betweenB A B m && m.kind == 4 && m.epoch == x1) := Lib.hid (by have := HNX.out; simp only [betweenB]; simp at this; omega)
              go_wp2
              go_roundw
              case rel => exact ⟨j + 1, by omega, by go_num, n2, by omega, rfl, HF, Y7⟩
              case measure => simp [intOf]; omega
            · have HF : Hid (n2 + 1 = n + (M.take (j + 1)).countP fun m => betweenB A B m && m.kind == 4 && m.epoch == x1) := Lib.hid (by have := HNX.out; simp only [betweenB]; simp at this; omega)
              go_wp2
              go_roundw
              case rel => exact ⟨j + 1, by omega, by go_num, n2 + 1, by omega, by first | (simp; done) | (rw [hw]; simp), HF, Y7⟩
              case measure => simp [intOf]; omega
        · have hjl : j = M.length := by omega
          have HF : Hid ((n2 : Int) = ((cnt : Nat) : Int)) := Lib.hid (by
            have h1 := HN3.out
            have h2 := HCN2.out
            have h3 := HN2.out
            rw [hjl, List.take_length] at h1
            omega)
          clear hjl
          go_wp2
          go_ret
          exact ⟨ret_int HF.out, X0.out.trans (HX2.out.trans HX.out)⟩
set_option maxRecDepth 100000 in
set_option maxHeartbeats 4000000 in
theorem countB1_any (w : World) (vd vm : Value) (L : List Dk) (M : List Ml) (h : BV w vd vm L M) (hm : M.length ≤ 1000) (hl : L.length ≤ 1000) (A B : Nat) (iA pA tA iB pB tB : Int) (SA SB : List Sd) (NA NB : List Int) (hA : L[A]? = some ⟨iA, pA, SA, tA, NA⟩) (hB : L[B]? = some ⟨iB, pB, SB, tB, NB⟩) (hne : A ≠ B) (x y : Sd) (hx : sideR SA B = (x, true)) (hy : sideR SB A = (y, true)) (he : x.epoch = y.epoch) :
    Calls Tryz.prog 19 #[.agg #[vd, vm], .agg #[.int .i64 A, .int .i64 B], .int .i64 1] w fun e w' => e = .returned (.int .i64 (cntS x y M A B 1 : Nat)) ∧ Ext w w' := by
  obtain ⟨ao, c, bo, d, rfl, rfl⟩ := h.len
  obtain ⟨W0, hW0⟩ : ∃ W0, W0 = (w.alloc (.cells #[.slice ao L.length c, .slice bo M.length d] 25)).alloc (.cells #[.int .i64 A, .int .i64 B] 30) := ⟨_, rfl⟩
  have X0 : Hid (Ext w W0) := Lib.hid (hW0 ▸ ((Ext.refl w).alloc _).alloc _)
  have B0 : Hid (W0.heap[w.heap.size]? = some (.cells #[.slice ao L.length c, .slice bo M.length d] 25 (0, 0))) := Lib.hid (hW0 ▸ old1 (at0 w _) _)
  have D0 : Hid (W0.heap[w.heap.size + 1]? = some (.cells #[.int .i64 A, .int .i64 B] 30 (0, 0))) := Lib.hid (hW0 ▸ at1 w _ _)
  have HK : Hid (∀ V, Ext W0 V → V.cell? ⟨w.heap.size, 0, none⟩ = some (.slice ao L.length c) ∧ V.cell? ⟨w.heap.size, 1, none⟩ = some (.slice bo M.length d)) := Lib.hid fun V hV => cells2S (keepU B0.out hV)
  have HE : Hid (∀ V, Ext W0 V → V.cell? ⟨w.heap.size + 1, 0, none⟩ = some (.int .i64 A) ∧ V.cell? ⟨w.heap.size + 1, 1, none⟩ = some (.int .i64 B)) := Lib.hid fun V hV => cells2S (keepU D0.out hV)
  have HW0 := Lib.hid hW0
  have HV := Lib.hid (h.ext X0.out)
  have gA : (L.map Dk.dn)[A]? = some ⟨iA, pA, SA⟩ := by rw [List.getElem?_map, hA]; rfl
  have gB : (L.map Dk.dn)[B]? = some ⟨iB, pB, SB⟩ := by rw [List.getElem?_map, hB]; rfl
  obtain ⟨cnt, hcnt⟩ : ∃ q, cntS x y M A B 1 = q := ⟨_, rfl⟩
  have HCT : Hid (∀ V vd', SV V vd' (.slice bo M.length d) (L.map Dk.dn) M → Calls Tryz.prog 64 #[.agg #[vd', .slice bo M.length d], .agg #[.int .i64 A, .int .i64 B], .int .i64 1] V fun e w' => e = .returned (.int .i64 (cnt : Nat)) ∧ Ext V w') := Lib.hid fun V vd' hsv => hcnt ▸ count1_any V _ _ _ M hsv hm A B iA pA iB pB SA SB gA gB hne x y hx hy he
  rw [hcnt]
  clear h hW0 hA hB hx hy he hne hcnt gA gB
  go_enter Tryz.func19, Tryz.ntmps19
  go_upto_region 1 with (fail)
  rw [← HW0.out]
  go_upto_region 2 with (fail)
  refine wp_region_M_lit (by kernel_rfl) ?_
  refine tv 0 (hv := by intro w' hw'; have hc := HK.out w' hw'; go_simp; first | done | with_reducible rfl) (h := ?_)
  refine tv 2 (h := ?_)
  refine tv 3 (hv := by intro w' hw'; have hc := HK.out w' hw'; go_simp; first | done | with_reducible rfl) (h := ?_)
  refine tv 5 (hv := by intro w' hw'; have hc := HE.out w' hw'; go_simp; first | done | with_reducible rfl) (h := ?_)
  refine tv 6 (h := ?_)
  refine runOne 1 (h := ?_)
  intro w5 hw5
  go_simp
  refine (diners_any w5 _ _ L M (HV.out.ext hw5) hl).mono ?_
  rintro e6 w6 ⟨a6, c6, rfl, o6, x6⟩
  have X6 : Hid (Ext W0 w6) := Lib.hid (hw5.trans x6)
  have S6 : Hid (SV w6 (.slice a6 L.length c6) (.slice bo M.length d) (L.map Dk.dn) M) := Lib.hid ⟨o6.ns (fun k hk => hk.elim) (fun k hk => hk.elim), (HV.out.ext X6.out).ms⟩
  refine ⟨x6, ?_⟩
  clear o6 x6 hw5
  (try (simp only [Act.put, List.setIfInBounds_toArray, List.set]))
  refine tv 4 (h := ?_)
  (refine takeG 7 (v := ?_) (hv := fun w' hw' => ?_) (h := ?_); rotate_left; focus (go_simp; refine ⟨Ext.refl _, ?_⟩; (exact HCT.out w' _ (S6.out.ext hw')))); (simp only [Act.put, List.setIfInBounds_toArray, List.set])
  refine tv 8 (h := ?_)
  (refine doneM (by kernel_rfl) ?_; intro w' hw'; show _)
  have XL : Hid (Ext W0 w') := Lib.hid (X6.out.trans hw')
  clear hw'
  go_wp2
  go_ret
  exact ⟨rfl, X0.out.trans XL.out⟩
set_option maxRecDepth 100000 in
set_option maxHeartbeats 4000000 in
theorem countB2_any (w : World) (vd vm : Value) (L : List Dk) (M : List Ml) (h : BV w vd vm L M) (hm : M.length ≤ 1000) (hl : L.length ≤ 1000) (A B : Nat) (iA pA tA iB pB tB : Int) (SA SB : List Sd) (NA NB : List Int) (hA : L[A]? = some ⟨iA, pA, SA, tA, NA⟩) (hB : L[B]? = some ⟨iB, pB, SB, tB, NB⟩) (hne : A ≠ B) (x y : Sd) (hx : sideR SA B = (x, true)) (hy : sideR SB A = (y, true)) (he : x.epoch = y.epoch) :
    Calls Tryz.prog 19 #[.agg #[vd, vm], .agg #[.int .i64 A, .int .i64 B], .int .i64 2] w fun e w' => e = .returned (.int .i64 (cntS x y M A B 2 : Nat)) ∧ Ext w w' := by
  obtain ⟨ao, c, bo, d, rfl, rfl⟩ := h.len
  obtain ⟨W0, hW0⟩ : ∃ W0, W0 = (w.alloc (.cells #[.slice ao L.length c, .slice bo M.length d] 25)).alloc (.cells #[.int .i64 A, .int .i64 B] 30) := ⟨_, rfl⟩
  have X0 : Hid (Ext w W0) := Lib.hid (hW0 ▸ ((Ext.refl w).alloc _).alloc _)
  have B0 : Hid (W0.heap[w.heap.size]? = some (.cells #[.slice ao L.length c, .slice bo M.length d] 25 (0, 0))) := Lib.hid (hW0 ▸ old1 (at0 w _) _)
  have D0 : Hid (W0.heap[w.heap.size + 1]? = some (.cells #[.int .i64 A, .int .i64 B] 30 (0, 0))) := Lib.hid (hW0 ▸ at1 w _ _)
  have HK : Hid (∀ V, Ext W0 V → V.cell? ⟨w.heap.size, 0, none⟩ = some (.slice ao L.length c) ∧ V.cell? ⟨w.heap.size, 1, none⟩ = some (.slice bo M.length d)) := Lib.hid fun V hV => cells2S (keepU B0.out hV)
  have HE : Hid (∀ V, Ext W0 V → V.cell? ⟨w.heap.size + 1, 0, none⟩ = some (.int .i64 A) ∧ V.cell? ⟨w.heap.size + 1, 1, none⟩ = some (.int .i64 B)) := Lib.hid fun V hV => cells2S (keepU D0.out hV)
  have HW0 := Lib.hid hW0
  have HV := Lib.hid (h.ext X0.out)
  have gA : (L.map Dk.dn)[A]? = some ⟨iA, pA, SA⟩ := by rw [List.getElem?_map, hA]; rfl
  have gB : (L.map Dk.dn)[B]? = some ⟨iB, pB, SB⟩ := by rw [List.getElem?_map, hB]; rfl
  obtain ⟨cnt, hcnt⟩ : ∃ q, cntS x y M A B 2 = q := ⟨_, rfl⟩
  have HCT : Hid (∀ V vd', SV V vd' (.slice bo M.length d) (L.map Dk.dn) M → Calls Tryz.prog 64 #[.agg #[vd', .slice bo M.length d], .agg #[.int .i64 A, .int .i64 B], .int .i64 2] V fun e w' => e = .returned (.int .i64 (cnt : Nat)) ∧ Ext V w') := Lib.hid fun V vd' hsv => hcnt ▸ count2_any V _ _ _ M hsv hm A B iA pA iB pB SA SB gA gB hne x y hx hy he
  rw [hcnt]
  clear h hW0 hA hB hx hy he hne hcnt gA gB
  go_enter Tryz.func19, Tryz.ntmps19
  go_upto_region 1 with (fail)
  rw [← HW0.out]
  go_upto_region 2 with (fail)
  refine wp_region_M_lit (by kernel_rfl) ?_
  refine tv 0 (hv := by intro w' hw'; have hc := HK.out w' hw'; go_simp; first | done | with_reducible rfl) (h := ?_)
  refine tv 2 (h := ?_)
  refine tv 3 (hv := by intro w' hw'; have hc := HK.out w' hw'; go_simp; first | done | with_reducible rfl) (h := ?_)
  refine tv 5 (hv := by intro w' hw'; have hc := HE.out w' hw'; go_simp; first | done | with_reducible rfl) (h := ?_)
  refine tv 6 (h := ?_)
  refine runOne 1 (h := ?_)
  intro w5 hw5
  go_simp
  refine (diners_any w5 _ _ L M (HV.out.ext hw5) hl).mono ?_
  rintro e6 w6 ⟨a6, c6, rfl, o6, x6⟩
  have X6 : Hid (Ext W0 w6) := Lib.hid (hw5.trans x6)
  have S6 : Hid (SV w6 (.slice a6 L.length c6) (.slice bo M.length d) (L.map Dk.dn) M) := Lib.hid ⟨o6.ns (fun k hk => hk.elim) (fun k hk => hk.elim), (HV.out.ext X6.out).ms⟩
  refine ⟨x6, ?_⟩
  clear o6 x6 hw5
  (try (simp only [Act.put, List.setIfInBounds_toArray, List.set]))
  refine tv 4 (h := ?_)
  (refine takeG 7 (v := ?_) (hv := fun w' hw' => ?_) (h := ?_); rotate_left; focus (go_simp; refine ⟨Ext.refl _, ?_⟩; (exact HCT.out w' _ (S6.out.ext hw')))); (simp only [Act.put, List.setIfInBounds_toArray, List.set])
  refine tv 8 (h := ?_)
  (refine doneM (by kernel_rfl) ?_; intro w' hw'; show _)
  have XL : Hid (Ext W0 w') := Lib.hid (X6.out.trans hw')
  clear hw'
  go_wp2
  go_ret
  exact ⟨rfl, X0.out.trans XL.out⟩
end Go.Proofs.YtfbambemjokmgaaGreat
