/- Texts of this seat. -/
import Derived.Test.YtfbambemjokmgaaGreatNBQ
import Derived.Test.YtfbambemjokmgaaGreatNBR
namespace Go.Proofs.YtfbambemjokmgaaGreat
open Go.RowKit
def cntKB (q : Int) (s : Sd) : Nat := cond (hasS s q) 1 0
theorem cntB_is (x y : Sd) (M : List Ml) (A B q : Int) : (([x, y].map (cntKB q)).sum + (M.countP fun m => betweenB A B m && m.kind == q && m.epoch == x.epoch)) = cntB x y M A B q := by
  unfold cntB cntKB
  have h : (fun m : Ml => betweenB A B m && m.kind == q && m.epoch == x.epoch) = fun m => betweenB A B m && (m.kind == q && m.epoch == x.epoch) := funext fun m => Bool.and_assoc _ _ _
  rw [h]
  simp
theorem res_a {P : Program} {fn : Func} {tmps : Array Value} {w : World} {t : Tmp} {ty tt : TypeId} {g : Nat} {cs : Array Value} (h : fn.results = #[.cell t ty]) (ht : tmps.getD t undef = .pointer (some ⟨g, 0, none⟩)) (hg : w.heap[g]? = some (.cells cs tt (0, 0))) (hu : ∃ n e, P.underlying ty = some (.array n e)) (hi : (P.info? ty).map (·.size) = some cs.size) :
    (results fn tmps).run P w = .ok (.agg cs) w := by
  obtain ⟨n, e, hu⟩ := hu
  have ht2 : tmps[t]?.getD undef = .pointer (some ⟨g, 0, none⟩) := by simpa using ht
  simp [results, h, ht2, asAddr, run_loadVar_row w g tt ty cs (0, 0) _ hg hu rfl hi]
theorem index_two (j : Nat) (x y s : Sd) (h : [x, y][j]? = some s) (w : World) : (Instr.index 108 (.agg #[.int .i64 x.peer, .int .i64 x.epoch, .int .i64 x.state, .bool x.fork, .bool x.dirty, .bool x.token, .bool x.bottle, .bool x.ask, .int .i64 y.peer, .int .i64 y.epoch, .int .i64 y.state, .bool y.fork, .bool y.dirty, .bool y.token, .bool y.bottle, .bool y.ask]) (.int .i64 j)).run Tryz.prog w = .ok (.agg s.cs) w := by
  rcases j with _ | _ | j
  · simp at h; subst h; kernel_rfl
  · simp at h; subst h; kernel_rfl
  · simp at h
theorem index_lies3 (a b : Bool) (w : World) : (Instr.index 109 (.agg #[.bool a, .bool b]) (.int .i64 0)).run Tryz.prog w = .ok (.bool a) w := by kernel_rfl
theorem index_lies4 (a b : Bool) (w : World) : (Instr.index 109 (.agg #[.bool a, .bool b]) (.int .i64 1)).run Tryz.prog w = .ok (.bool b) w := by kernel_rfl
set_option maxRecDepth 100000 in
set_option maxHeartbeats 1000000 in
theorem lies_any (w : World) (x : Sd) : Calls Tryz.prog 66 #[.agg x.cs] w fun e w' => e = .returned (.agg #[.bool x.bottle, .bool x.ask]) ∧ Ext w w' := by
  obtain ⟨x0, x1, x2, x3, x4, x5, x6, x7⟩ := x
  unfold Sd.cs
  dsimp only
  have X0 : Hid (Ext w (w.alloc (.cells #[.int .i64 x0, .int .i64 x1, .int .i64 x2, .bool x3, .bool x4, .bool x5, .bool x6, .bool x7] 66))) := Lib.hid ((Ext.refl w).alloc _)
  obtain ⟨⟨⟨a0, a1⟩, a2, a3⟩, ⟨a4, a5⟩, a6, a7⟩ := cells8U (at0 w (.cells #[.int .i64 x0, .int .i64 x1, .int .i64 x2, .bool x3, .bool x4, .bool x5, .bool x6, .bool x7] 66))
  go_enter Tryz.func66, Tryz.ntmps66
  go_wp2_with (first | refine haltst 109 ?_)
  refine .inl ?_
  refine st_l 109 (.tmp 2) (.tmp 7) (w.heap.size + 1) 0 109 #[.bool false, .bool false] #[.bool x6, .bool x7] _ rfl rfl (at1 w _ _) (by kernel_rfl) (by simp) rfl rfl ?_
  intro W9 hW9 o9
  simp only [Act.put]
  go_wp2
  exact bodyPost_ret (v := .agg #[.bool x6, .bool x7]) (res_a rfl rfl hW9 ⟨_, _, Tryz.underlying109⟩ (by kernel_rfl)) rfl ⟨rfl, ext_off (X0.out.alloc _) o9 (fun b hb => by omega)⟩
set_option maxRecDepth 100000 in
set_option maxHeartbeats 16000000 in
theorem countB3_any (w : World) (vd vm : Value) (L : List Dk) (M : List Ml) (h : BV w vd vm L M) (hm : M.length ≤ 1000) (A B : Nat) (iA pA tA iB pB tB : Int) (SA SB : List Sd) (NA NB : List Int) (hA : L[A]? = some ⟨iA, pA, SA, tA, NA⟩) (hB : L[B]? = some ⟨iB, pB, SB, tB, NB⟩) (hne : A ≠ B) (x y : Sd) (hx : sideR SA B = (x, true)) (hy : sideR SB A = (y, true)) (he : x.epoch = y.epoch) :
    Calls Tryz.prog 19 #[.agg #[vd, vm], .agg #[.int .i64 A, .int .i64 B], .int .i64 3] w fun e w' => e = .returned (.int .i64 (cntB x y M A B 3 : Nat)) ∧ Ext w w' := by
  obtain ⟨ao, c, bo, d, rfl, rfl⟩ := h.len
  obtain ⟨W0, hW0⟩ : ∃ W0, W0 = (w.alloc (.cells #[.slice ao L.length c, .slice bo M.length d] 25)).alloc (.cells #[.int .i64 A, .int .i64 B] 30) := ⟨_, rfl⟩
  have X0 : Hid (Ext w W0) := Lib.hid (hW0 ▸ ((Ext.refl w).alloc _).alloc _)
  have B0 : Hid (W0.heap[w.heap.size]? = some (.cells #[.slice ao L.length c, .slice bo M.length d] 25 (0, 0))) := Lib.hid (hW0 ▸ old1 (at0 w _) _)
  have D0 : Hid (W0.heap[w.heap.size + 1]? = some (.cells #[.int .i64 A, .int .i64 B] 30 (0, 0))) := Lib.hid (hW0 ▸ at1 w _ _)
  have HW0 := Lib.hid hW0
  have HV := Lib.hid (h.ext X0.out)
  have HC := Lib.hid (endsB_any W0 _ _ L M HV.out A B iA pA tA iB pB tB SA SB NA NB hA hB hne x y hx hy he)
  obtain ⟨cnt, hcnt⟩ : ∃ q, cntB x y M A B 3 = q := ⟨_, rfl⟩
  have HCN := Lib.hid hcnt
  rw [hcnt]
  obtain ⟨x0, x1, x2, x3, x4, x5, x6, x7⟩ := x
  obtain ⟨y0, y1, y2, y3, y4, y5, y6, y7⟩ := y
  unfold Sd.cs at HC
  dsimp only at HC
  obtain ⟨k0, k1⟩ := cells2S B0.out
  obtain ⟨k2, k3⟩ := cells2S D0.out
  clear h hW0 hA hB hx hy he hne hcnt
  go_enter Tryz.func19, Tryz.ntmps19
  go_upto_region 1 with (fail)
  rw [← HW0.out]
  go_wp2_with (first
    | (go_at_call 65; refine HC.out.mono ?_; rintro e w1 ⟨rfl, hx⟩; have X1 := Lib.hid hx; clear hx)
    | refine haltst 66 ?_)
  refine .inl ?_
  refine st_l 66 (.tmp 7) (.tmp 34) w1.heap.size 0 66 #[.int .i64 0, .int .i64 0, .int .i64 0, .bool false, .bool false, .bool false, .bool false, .bool false] #[.int .i64 x0, .int .i64 x1, .int .i64 x2, .bool x3, .bool x4, .bool x5, .bool x6, .bool x7] #[.int .i64 x0, .int .i64 x1, .int .i64 x2, .bool x3, .bool x4, .bool x5, .bool x6, .bool x7] rfl rfl (old1 (at0 w1 _) _) (by kernel_rfl) (by simp) rfl rfl ?_
  intro W3 hW3 o3
  simp only [Act.put]
  have X3 : Hid (Ext W0 W3) := Lib.hid (ext_off ((X1.out.alloc _).alloc _) o3 (fun b hb => by have := Below.size X1.out; omega))
  have E3 : Hid (W3.heap[w1.heap.size + 1]? = some (.cells #[.int .i64 0, .int .i64 0, .int .i64 0, .bool false, .bool false, .bool false, .bool false, .bool false] 66 (0, 0))) := Lib.hid (o3.blk (at1 w1 _ _) (by omega))
  have F3 := Lib.hid hW3
  have hw1 : W0.heap.size ≤ w1.heap.size := Below.size X1.out
  clear hW3 o3
  go_wp2_with (first | refine haltst 66 ?_)
  refine .inl ?_
  refine st_l 66 (.tmp 8) (.tmp 35) (w1.heap.size + 1) 0 66 #[.int .i64 0, .int .i64 0, .int .i64 0, .bool false, .bool false, .bool false, .bool false, .bool false] #[.int .i64 y0, .int .i64 y1, .int .i64 y2, .bool y3, .bool y4, .bool y5, .bool y6, .bool y7] #[.int .i64 y0, .int .i64 y1, .int .i64 y2, .bool y3, .bool y4, .bool y5, .bool y6, .bool y7] rfl rfl E3.out (by kernel_rfl) (by simp) rfl rfl ?_
  intro W4 hW4 o4
  simp only [Act.put]
  have X4 : Hid (Ext W0 W4) := Lib.hid (ext_off X3.out o4 (fun b hb => by omega))
  have F4 : Hid (W4.heap[w1.heap.size]? = some (.cells #[.int .i64 x0, .int .i64 x1, .int .i64 x2, .bool x3, .bool x4, .bool x5, .bool x6, .bool x7] 66 (0, 0))) := Lib.hid (o4.blk F3.out (by omega))
  have G4 : Hid (W4.heap[w1.heap.size + 1]? = some (.cells #[.int .i64 y0, .int .i64 y1, .int .i64 y2, .bool y3, .bool y4, .bool y5, .bool y6, .bool y7] 66 (0, 0))) := Lib.hid hW4
  clear hW4 o4 k0 k1 k2 k3
  obtain ⟨⟨⟨a0, a1⟩, a2, a3⟩, ⟨a4, a5⟩, a6, a7⟩ := cells8U F4.out
  obtain ⟨⟨⟨b0, b1⟩, b2, b3⟩, ⟨b4, b5⟩, b6, b7⟩ := cells8U G4.out
  obtain ⟨XY, hXY⟩ : ∃ XY, XY = [(⟨x0, x1, x2, x3, x4, x5, x6, x7⟩ : Sd), ⟨y0, y1, y2, y3, y4, y5, y6, y7⟩] := ⟨_, rfl⟩
  have HXY := Lib.hid hXY
  have hxl : XY.length = 2 := by rw [hXY]; rfl
  have HCN2 : Hid ((XY.map (cntKB 3)).sum + (M.countP fun m => betweenB A B m && m.kind == 3 && m.epoch == x1) = cnt) := Lib.hid (by rw [hXY, ← HCN.out]; exact cntB_is _ _ _ _ _ _)
  clear hXY HCN
  replace hxl := Lib.hid hxl
  go_upto_region 8 with (fail)
  go_loopw [10, 42] (fun q i wr => ∃ j : Nat, j ≤ 2 ∧ i = .int .i64 j ∧ ∃ n : Nat, n ≤ j ∧ q = .int .i64 n ∧ Hid (n = ((XY.take j).map (cntKB 3)).sum) ∧ Hid (Ext W4 wr)) (fun _ i _ => 2 - (intOf i).toNat)
  case atStart => exact ⟨0, by omega, rfl, 0, by omega, rfl, Lib.hid rfl, Lib.hid (Ext.refl _)⟩
  case round =>
    obtain ⟨j, hj, rfl, n, hn, rfl, HN, HX⟩ := hrel
    by_cases hlt : j < 2
    · obtain ⟨s, hsj⟩ : ∃ s, XY[j]? = some s := ⟨_, List.getElem?_eq_getElem (by rw [hxl.out]; exact hlt)⟩
      have HNX : Hid (((XY.take (j + 1)).map (cntKB 3)).sum = n + cntKB 3 s) := Lib.hid (by rw [take_nextD hsj, List.map_append, List.sum_append, HN.out]; rfl)
      have hw : IntKind.i64.wrap ((n : Int) + 1) = (n : Int) + 1 := wrapN _ (by omega) (by omega)
      have hix := index_two j ⟨x0, x1, x2, x3, x4, x5, x6, x7⟩ ⟨y0, y1, y2, y3, y4, y5, y6, y7⟩ s (by rw [← HXY.out]; exact hsj)
      have hib := fun a b => index_lies3 a b
      have hji : (j : Int) < 2 := by omega
      clear hsj HN
      obtain ⟨z0, z1, z2, z3, z4, z5, z6, z7⟩ := s
      unfold Sd.cs at hix
      dsimp only at hix
      cases z6
      · have HF : Hid (((XY.take (j + 1)).map (cntKB 3)).sum = n) := Lib.hid (by rw [HNX.out]; rfl)
        have HLI := lies_any (wr.alloc (.cells (Sd.cs ⟨z0, z1, z2, z3, z4, z5, false, z7⟩) 66)) ⟨z0, z1, z2, z3, z4, z5, false, z7⟩
        unfold Sd.cs at HLI
        dsimp only at HLI
        replace HLI := Lib.hid HLI
        go_wp2_with (go_at_call 66; refine HLI.out.mono ?_; rintro e w8 ⟨rfl, hx⟩; have X8 : Hid (Ext W4 w8) := Lib.hid (HX.out.trans (Ext.trans ((Ext.refl wr).alloc _) hx)); clear hx)
        go_roundw
        case rel => exact ⟨j + 1, by omega, by go_num, n, by omega, rfl, Lib.hid HF.out.symm, X8⟩
        case measure => simp [intOf]; omega
      · have HF : Hid (((XY.take (j + 1)).map (cntKB 3)).sum = n + 1) := Lib.hid (by rw [HNX.out]; rfl)
        have HLI := lies_any (wr.alloc (.cells (Sd.cs ⟨z0, z1, z2, z3, z4, z5, true, z7⟩) 66)) ⟨z0, z1, z2, z3, z4, z5, true, z7⟩
        unfold Sd.cs at HLI
        dsimp only at HLI
        replace HLI := Lib.hid HLI
        go_wp2_with (go_at_call 66; refine HLI.out.mono ?_; rintro e w8 ⟨rfl, hx⟩; have X8 : Hid (Ext W4 w8) := Lib.hid (HX.out.trans (Ext.trans ((Ext.refl wr).alloc _) hx)); clear hx)
        go_roundw
        case rel => exact ⟨j + 1, by omega, by go_num, n + 1, by omega, by first | (simp; done) | (rw [hw]; simp), Lib.hid HF.out.symm, X8⟩
        case measure => simp [intOf]; omega
    · have hj2 : j = 2 := by omega
      have HN2 : Hid (n = (XY.map (cntKB 3)).sum) := Lib.hid (by have := HN.out; rwa [hj2, ← hxl.out, List.take_length] at this)
      have HX2 : Hid (Ext W0 wr) := Lib.hid (X4.out.trans HX.out)
      have HX4 : Hid (Ext W4 wr) := HX
      obtain ⟨k0, k1⟩ := cells2S (keepU B0.out HX2.out)
      obtain ⟨W6, hW6⟩ : ∃ W6, W6 = wr := ⟨_, rfl⟩
      rw [← hW6] at HX2 HX4 k0 k1 ⊢
      clear hW6 HN HX hj2
      go_wp2
      go_loopw [10, 56] (fun q i wr => ∃ j : Nat, j ≤ M.length ∧ i = .int .i64 j ∧ ∃ n2 : Nat, n2 ≤ n + j ∧ q = .int .i64 n2 ∧ Hid (n2 = n + (M.take j).countP fun m => betweenB A B m && m.kind == 3 && m.epoch == x1) ∧ Hid (Ext W6 wr)) (fun _ i _ => M.length - (intOf i).toNat)
      case atStart => exact ⟨0, by omega, rfl, n, by omega, rfl, Lib.hid (by simp), Lib.hid (Ext.refl _)⟩
      case round =>
        obtain ⟨j, hj, rfl, n2, hn2, rfl, HN3, HX⟩ := hrel
        by_cases hlt : j < M.length
        · obtain ⟨b, off, m, _, hmj, rfl, _, hnc, hc63, hb, hcell⟩ := HV.out.ms.mailAt hlt
          obtain ⟨⟨a0, a1⟩, a2, a3, a4⟩ := hcell wr (HX2.out.trans HX.out)
          have HNX : Hid (((M.take (j + 1)).countP fun m => betweenB A B m && m.kind == 3 && m.epoch == x1) + n = n2 + cond (betweenB A B m && m.kind == 3 && m.epoch == x1) 1 0) := Lib.hid (by
            rw [take_nextD hmj, List.countP_append, HN3.out, List.countP_cons, List.countP_nil]
            cases hq : (betweenB A B m && m.kind == 3 && m.epoch == x1) <;> simp <;> omega)
          have hw : IntKind.i64.wrap ((n2 : Int) + 1) = (n2 : Int) + 1 := wrapN _ (by omega) (by omega)
          clear hcell hmj HN3
          obtain ⟨m0, m1, m2, m3, m4⟩ := m
          dsimp only at a0 a1 a2 a3 a4 HNX
          unfold betweenB at HNX
          dsimp only at HNX
          obtain ⟨W7, hW7⟩ : ∃ W7, W7 = wr.alloc (.cells #[.int .i64 m0, .int .i64 m1, .int .i64 m2, .int .i64 m3, .int .i64 m4] 95) := ⟨_, rfl⟩
          have Y7 : Hid (Ext W6 W7) := Lib.hid (hW7 ▸ HX.out.alloc _)
          have B7 : Hid (W7.heap[wr.heap.size]? = some (.cells #[.int .i64 m0, .int .i64 m1, .int .i64 m2, .int .i64 m3, .int .i64 m4] 95 (0, 0))) := Lib.hid (hW7 ▸ at0 wr _)
          have HW7 := Lib.hid hW7
          have q7 := B7.out
          have c0 := blk_cell q7 0 rfl
          have c1 := blk_cell q7 1 rfl
          have c2 := blk_cell q7 2 rfl
          have c3 := blk_cell q7 3 rfl
          obtain ⟨e0, e1⟩ := cells2S (keepU D0.out (HX2.out.trans Y7.out))
          have f1 := blk_cell (keepU F4.out (HX4.out.trans Y7.out)) 1 rfl
          clear hW7 q7
          go_upto_region 16 with (fail)
          rw [← HW7.out]
          clear a0 a1 a2 a3 a4
          obtain ⟨q1, hq1⟩ : ∃ q, (m0 == (A : Int)) = q := ⟨_, rfl⟩
          obtain ⟨q2, hq2⟩ : ∃ q, (m1 == (B : Int)) = q := ⟨_, rfl⟩
          obtain ⟨q3, hq3⟩ : ∃ q, (m0 == (B : Int)) = q := ⟨_, rfl⟩
          obtain ⟨q4, hq4⟩ : ∃ q, (m1 == (A : Int)) = q := ⟨_, rfl⟩
          obtain ⟨q5, hq5⟩ : ∃ q, (m2 == 3) = q := ⟨_, rfl⟩
          obtain ⟨q6, hq6⟩ : ∃ q, (m3 == x1) = q := ⟨_, rfl⟩
          rw [hq1, hq2, hq3, hq4, hq5, hq6] at HNX
          go_cut [15] (fun s15 wx => s15 = .bool ((q1 && q2) || (q3 && q4)) ∧ wx = W7)
          case first =>
            cases q1 <;> cases q2 <;> cases q3 <;> cases q4
            all_goals
              go_wp2_with fail
              go_meet
              exact ⟨rfl, rfl⟩
          case rest =>
            obtain ⟨rfl, rfl⟩ := hcut
            obtain ⟨qb, hqb⟩ : ∃ q, ((q1 && q2) || (q3 && q4)) = q := ⟨_, rfl⟩
            rw [hqb] at HNX ⊢
            clear hqb hq1 hq2 hq3 hq4
            cases qb
            · have HF : Hid (n2 = n + (M.take (j + 1)).countP fun m => betweenB A B m && m.kind == 3 && m.epoch == x1) := Lib.hid (by have := HNX.out; simp only [betweenB]; simp at this; omega)
              go_wp2
              go_roundw
              case rel => exact ⟨j + 1, by omega, by go_num, n2, by omega, rfl, HF, Y7⟩
              case measure => simp [intOf]; omega
            cases q5
            · have HF : Hid (n2 = n + (M.take (j + 1)).countP fun m => betweenB A B m && m.kind == 3 && m.epoch == x1) := Lib.hid (by have := HNX.out; simp only [betweenB]; simp at this; omega)
              go_wp2
              go_roundw
              case rel => exact ⟨j + 1, by omega, by go_num, n2, by omega, rfl, HF, Y7⟩
              case measure => simp [intOf]; omega
            cases q6
            · have HF : Hid (n2 = n + (M.take (j + 1)).countP fun m => betweenB A B m && m.kind == 3 && m.epoch == x1) := Lib.hid (by have := HNX.out; simp only [betweenB]; simp at this; omega)
              go_wp2
              go_roundw
              case rel => exact ⟨j + 1, by omega, by go_num, n2, by omega, rfl, HF, Y7⟩
              case measure => simp [intOf]; omega
            · have HF : Hid (n2 + 1 = n + (M.take (j + 1)).countP fun m => betweenB A B m && m.kind == 3 && m.epoch == x1) := Lib.hid (by have := HNX.out; simp only [betweenB]; simp at this; omega)
              go_wp2
              go_roundw
              case rel => exact ⟨j + 1, by omega, by go_num, n2 + 1, by omega, by first | (simp; done) | (rw [hw]; simp), HF, Y7⟩
              case measure => simp [intOf]; omega
        · have hjl : j = M.length := by omega
          have HF : Hid ((n2 : Int) = ((cnt : Nat) : Int)) := Lib.hid (by
            have h1 := HN3.out
            have h2 := HCN2.out
            have h3 := HN2.out
            rw [hjl, List.take_length] at h1
            omega)
          clear hjl
          go_wp2
          go_ret
          exact ⟨ret_int HF.out, X0.out.trans (HX2.out.trans HX.out)⟩
end Go.Proofs.YtfbambemjokmgaaGreat
namespace Go.Proofs.YtfbambemjokmgaaGreat
open Go.RowKit
set_option maxRecDepth 100000 in
set_option maxHeartbeats 16000000 in
theorem awakeB_any (w : World) : Calls Tryz.prog 11 #[] w fun e w' => e = .returned (.bool true) ∧ Ext w w' := by
  go_enter Tryz.func11, Tryz.ntmps11
  go_wp2_with (first
    | (go_at_call 43; refine (bw_new ▸ bNew_ok _ 2 _ awE (Sl.litAt w _ rfl [(⟨0, 1⟩ : Edge)] (by simp)) aw_ok 2 aw_ends).mono ?_; rintro e u1 ⟨vd, vm, rfl, sv, hx⟩; dsimp only at sv ⊢; obtain ⟨a1, n1, c1, b1, m1, d1, rfl, rfl⟩ := sv.sh; have U1 := Lib.hid sv; have Y1 : Hid (Ext w u1) := Lib.hid (Ext.trans ((Ext.refl w).alloc _) hx); clear sv hx)
    | refine haltst 25 ?_)
  refine .inl ?_
  obtain ⟨g1, hg1⟩ : ∃ g, g = u1.heap.size := ⟨_, rfl⟩
  have hgw1 : w.heap.size ≤ g1 := hg1 ▸ Below.size Y1.out
  have G1 := Lib.hid (at0 u1 (.cells #[.slice none 0 0, .slice none 0 0] 25))
  rw [← hg1] at G1 ⊢
  replace hg1 := Lib.hid hg1
  refine st_l 25 (.tmp 1) (.tmp 17) g1 0 25 _ #[.slice a1 n1 c1, .slice b1 m1 d1] _ rfl rfl G1.out (by kernel_rfl) (by simp) rfl rfl ?_
  intro W1 hW1 o1
  simp only [Act.put]
  have Z1 : Hid (Ext w W1) := Lib.hid (ext_off (Y1.out.alloc _) o1 (fun b hb => by omega))
  have T1 := Lib.hid ((U1.out.ext ((Ext.refl _).alloc _)).off G1.out o1)
  have C1 := Lib.hid hW1
  clear hW1 o1 U1 G1
  obtain ⟨k0, k1⟩ := cells2S C1.out
  go_wp2_with (first
    | (go_at_call 41; refine (bw_1 ▸ bOpen_any W1 _ _ bw0 [] T1.out bw_s0 0 0 _ [] (slNoneU _) (by simp)).mono ?_; rintro e u2 ⟨vd, vm, rfl, sv, hx⟩; dsimp only at sv ⊢; obtain ⟨a2, n2, c2, b2, m2, d2, rfl, rfl⟩ := sv.sh; have U2 := Lib.hid sv; have Y2 := Lib.hid hx; clear sv hx)
    | refine haltst 25 ?_)
  refine .inl ?_
  obtain ⟨g2, hg2⟩ : ∃ g, g = u2.heap.size := ⟨_, rfl⟩
  have hgw2 : W1.heap.size ≤ g2 := hg2 ▸ Below.size Y2.out
  have G2 := Lib.hid (at0 u2 (.cells #[.slice none 0 0, .slice none 0 0] 25))
  rw [← hg2] at G2 ⊢
  replace hg2 := Lib.hid hg2
  refine st_l 25 (.tmp 3) (.tmp 22) g2 0 25 _ #[.slice a2 n2 c2, .slice b2 m2 d2] _ rfl rfl G2.out (by kernel_rfl) (by simp) rfl rfl ?_
  intro W2 hW2 o2
  simp only [Act.put]
  have Z2 : Hid (Ext W1 W2) := Lib.hid (ext_off (Y2.out.alloc _) o2 (fun b hb => by omega))
  have T2 := Lib.hid ((U2.out.ext ((Ext.refl _).alloc _)).off G2.out o2)
  have C2 := Lib.hid hW2
  clear hW2 o2 U2 G2 k0 k1
  obtain ⟨k0, k1⟩ := cells2S C2.out
  go_wp2_with (first
    | (go_at_call 41; refine (bw_2 ▸ bOpen_any W2 _ _ bw1.1 bw1.2 T2.out bw_s1 1 0 _ [] (slNoneU _) (by simp)).mono ?_; rintro e u3 ⟨vd, vm, rfl, sv, hx⟩; dsimp only at sv ⊢; obtain ⟨a3, n3, c3, b3, m3, d3, rfl, rfl⟩ := sv.sh; have U3 := Lib.hid sv; have Y3 := Lib.hid hx; clear sv hx)
    | refine haltst 25 ?_)
  refine .inl ?_
  refine st_l 25 (.tmp 3) (.tmp 27) g2 0 25 _ #[.slice a3 n3 c3, .slice b3 m3 d3] _ rfl rfl (keepU C2.out Y3.out) (by kernel_rfl) (by simp) rfl rfl ?_
  intro W3 hW3 o3
  simp only [Act.put]
  have hg21 : W1.heap.size ≤ g2 := hgw2
  have hg12 : g1 < W1.heap.size := blk_lt C1.out
  have Z3 : Hid (Ext W1 W3) := Lib.hid (ext_off (Z2.out.trans Y3.out) o3 (fun b hb => by omega))
  have T3 := Lib.hid (U3.out.off (keepU C2.out Y3.out) o3)
  have C3 := Lib.hid hW3
  have P3 := Lib.hid (keepU C1.out Z3.out)
  have V3 := Lib.hid (T1.out.ext Z3.out)
  clear hW3 o3 U3 k0 k1
  obtain ⟨k0, k1⟩ := cells2S P3.out
  go_wp2_with (first
    | (go_at_call 41; refine (bw_3 ▸ bOpen_any (W3.alloc (.cells #[.int .i64 1] 3)) _ _ bw0 [] (V3.out.ext ((Ext.refl _).alloc _)) bw_s0 0 0 _ [1] (Sl.litAt W3 _ rfl [(1 : Int)] (by simp)) (by simp)).mono ?_; rintro e u6 ⟨vd, vm, rfl, sv, hx⟩; dsimp only at sv ⊢; obtain ⟨a6, n6, c6, b6, m6, d6, rfl, rfl⟩ := sv.sh; have U6 := Lib.hid sv; have Y6 : Hid (Ext W3 u6) := Lib.hid (Ext.trans ((Ext.refl _).alloc _) hx); clear sv hx)
    | refine haltst 25 ?_)
  refine .inl ?_
  obtain ⟨g6, hg6⟩ : ∃ g, g = u6.heap.size := ⟨_, rfl⟩
  have hgw6 : W3.heap.size ≤ g6 := hg6 ▸ Below.size Y6.out
  have G6 := Lib.hid (at0 u6 (.cells #[.slice none 0 0, .slice none 0 0] 25))
  rw [← hg6] at G6 ⊢
  replace hg6 := Lib.hid hg6
  refine st_l 25 (.tmp 6) (.tmp 43) g6 0 25 _ #[.slice a6 n6 c6, .slice b6 m6 d6] _ rfl rfl G6.out (by kernel_rfl) (by simp) rfl rfl ?_
  intro W6 hW6 o6
  simp only [Act.put]
  have Z6 : Hid (Ext W3 W6) := Lib.hid (ext_off (Y6.out.alloc _) o6 (fun b hb => by omega))
  have T6 := Lib.hid ((U6.out.ext ((Ext.refl _).alloc _)).off G6.out o6)
  have C6 := Lib.hid hW6
  have C36 := Lib.hid (keepU C3.out Z6.out)
  have T36 := Lib.hid (T3.out.ext Z6.out)
  clear hW6 o6 U6 G6 k0 k1
  obtain ⟨k0, k1⟩ := cells2S C36.out
  go_wp2_with (first
    | (go_at_call 39; refine (bw_4 ▸ bClose_any W6 _ _ bw2.1 bw2.2 T36.out bw_s2 0 0).mono ?_; rintro e u8 ⟨vd, vm, rfl, sv, hx⟩; dsimp only at sv ⊢; obtain ⟨a8, n8, c8, b8, m8, d8, rfl, rfl⟩ := sv.sh; have U8 := Lib.hid sv; have Y8 := Lib.hid hx; clear sv hx)
    | refine haltst 25 ?_)
  refine .inl ?_
  obtain ⟨g8, hg8⟩ : ∃ g, g = u8.heap.size := ⟨_, rfl⟩
  have hgw8 : W6.heap.size ≤ g8 := hg8 ▸ Below.size Y8.out
  have G8 := Lib.hid (at0 u8 (.cells #[.slice none 0 0, .slice none 0 0] 25))
  rw [← hg8] at G8 ⊢
  replace hg8 := Lib.hid hg8
  refine st_l 25 (.tmp 8) (.tmp 48) g8 0 25 _ #[.slice a8 n8 c8, .slice b8 m8 d8] _ rfl rfl G8.out (by kernel_rfl) (by simp) rfl rfl ?_
  intro W8 hW8 o8
  simp only [Act.put]
  have Z8 : Hid (Ext W6 W8) := Lib.hid (ext_off (Y8.out.alloc _) o8 (fun b hb => by omega))
  have T8 := Lib.hid ((U8.out.ext ((Ext.refl _).alloc _)).off G8.out o8)
  have C8 := Lib.hid hW8
  have P8 := Lib.hid (keepU P3.out (Z6.out.trans Z8.out))
  have V8 := Lib.hid (V3.out.ext (Z6.out.trans Z8.out))
  clear hW8 o8 U8 G8 k0 k1
  obtain ⟨k0, k1⟩ := cells2S P8.out
  go_wp2_with (first
    | (go_at_call 48; refine (bw_5 ▸ bDeliver_any W8 _ _ bw0 [] V8.out bw_s0 0 1).mono ?_; rintro e u9 ⟨vd, vm, rfl, sv, hx⟩; dsimp only [noB] at sv ⊢; obtain ⟨a9, n9, c9, b9, m9, d9, rfl, rfl⟩ := sv.sh; have Y9 := Lib.hid hx; clear sv hx)
    | refine haltst 25 ?_)
  refine .inl ?_
  obtain ⟨g9, hg9⟩ : ∃ g, g = u9.heap.size := ⟨_, rfl⟩
  have hgw9 : W8.heap.size ≤ g9 := hg9 ▸ Below.size Y9.out
  have G9 := Lib.hid (at0 u9 (.cells #[.slice none 0 0, .slice none 0 0] 25))
  rw [← hg9] at G9 ⊢
  replace hg9 := Lib.hid hg9
  refine st_l 25 (.tmp 10) (.tmp 53) g9 0 25 _ #[.slice a9 n9 c9, .slice b9 m9 d9] _ rfl rfl G9.out (by kernel_rfl) (by simp) rfl rfl ?_
  intro W9 hW9 o9
  simp only [Act.put]
  have Z9 : Hid (Ext W8 W9) := Lib.hid (ext_off (Y9.out.alloc _) o9 (fun b hb => by omega))
  have C9 := Lib.hid hW9
  have Z39 : Hid (Ext W3 W9) := Lib.hid (Z6.out.trans (Z8.out.trans Z9.out))
  have HS : Hid (∀ V, Ext W9 V → V.cell? ⟨g1, 0, none⟩ = some (.slice a1 n1 c1) ∧ V.cell? ⟨g1, 1, none⟩ = some (.slice b1 m1 d1)) := Lib.hid fun V hV => cells2S (keepU P3.out (Z39.out.trans hV))
  have HX : Hid (∀ V, Ext W9 V → V.cell? ⟨g2, 0, none⟩ = some (.slice a3 n3 c3) ∧ V.cell? ⟨g2, 1, none⟩ = some (.slice b3 m3 d3)) := Lib.hid fun V hV => cells2S (keepU C3.out (Z39.out.trans hV))
  have HY : Hid (∀ V, Ext W9 V → V.cell? ⟨g6, 0, none⟩ = some (.slice a6 n6 c6) ∧ V.cell? ⟨g6, 1, none⟩ = some (.slice b6 m6 d6)) := Lib.hid fun V hV => cells2S (keepU C6.out (Z8.out.trans (Z9.out.trans hV)))
  have HZ : Hid (∀ V, Ext W9 V → V.cell? ⟨g8, 0, none⟩ = some (.slice a8 n8 c8) ∧ V.cell? ⟨g8, 1, none⟩ = some (.slice b8 m8 d8)) := Lib.hid fun V hV => cells2S (keepU C8.out (Z9.out.trans hV))
  have VS := Lib.hid (V3.out.ext Z39.out)
  have VX := Lib.hid (T3.out.ext Z39.out)
  have VY := Lib.hid (T6.out.ext (Z8.out.trans Z9.out))
  have VZ := Lib.hid (T8.out.ext Z9.out)
  have XW : Hid (Ext w W9) := Lib.hid (Z1.out.trans (Z3.out.trans Z39.out))
  clear hW9 o9 G9 k0 k1 P3 C3 C6 C8 T3 T6 T8 V3 C36 T36 P8 V8 C9 C1 C2 T1 T2
  obtain ⟨k0, k1⟩ := HX.out W9 (Ext.refl _)
  have hfs := fun (a : Option Addr) (n c : Nat) (u : Value) (w : World) => field_scene a n c u w
  go_wp2_with (first
    | (have hgd := Xf; go_at_call 26; refine (sceneB_any wf _ _ bw0 [] (VS.out.ext Xf.out) bw_s0).mono ?_; rintro e wg ⟨vd, vm, rfl, sv, hx⟩; obtain ⟨sa, sc, sb, sd, e1, e2⟩ := sv.len; rw [show (sceneK bw0).length = 2 from rfl] at e1; subst e1 e2; have Xg := Lib.hid (Xf.out.trans hx); clear sv hx)
    | (have hgd := Xe; go_at_call 24; refine (bSame_any we _ _ _ _ bw0 bw2.1 [] bw2.2 (VS.out.ext Xe.out) (VX.out.ext Xe.out) false bw_s).mono ?_; rintro e wf ⟨rfl, hx⟩; have Xf := Lib.hid (Xe.out.trans hx); obtain ⟨f0, f1⟩ := HS.out wf Xf.out; clear hx)
    | (have hgd := Xd; go_at_call 24; refine (bSame_any wd _ _ _ _ bw0 bw0 [] [] (VS.out.ext Xd.out) (VS.out.ext Xd.out) true (by simp)).mono ?_; rintro e we ⟨rfl, hx⟩; have Xe := Lib.hid (Xd.out.trans hx); obtain ⟨e0, e1⟩ := HS.out we Xe.out; obtain ⟨e2, e3⟩ := HX.out we Xe.out; clear hx)
    | (have hgd := Xc'; go_at_call 19; refine (bw_c ▸ countB3_any wc' _ _ bw0 [] (VS.out.ext Xc'.out) (by decide) 0 1 0 0 0 1 0 0 _ _ [] [] rfl rfl (by decide) _ _ rfl rfl rfl).mono ?_; rintro e wd ⟨rfl, hx⟩; have Xd := Lib.hid (Xc'.out.trans hx); obtain ⟨d0', d1'⟩ := HS.out wd Xd.out; clear hx)
    | (have hgd := Xc; go_at_call 17; refine (bCheck_any wc _ _ bw0 [] (VS.out.ext Xc.out) bw_s0 true bw_k).mono ?_; rintro e wc' ⟨rfl, hx⟩; dsimp only [cond]; have Xc' := Lib.hid (Xc.out.trans hx); obtain ⟨c0', c1'⟩ := HS.out wc' Xc'.out; clear hx)
    | (have hgd := Xb; go_at_call 22; refine (bw_w4 ▸ whoB_any wb _ _ bw4.1 bw4.2 (VZ.out.ext Xb.out) (by have := bw_s4.n; omega) 2).mono ?_; rintro e wc ⟨vp, rfl, op, hx⟩; obtain ⟨pa, pc, e1⟩ := op.sl.len; rw [show ([1] : List Int).length = 1 from rfl] at e1; subst e1; have Xc : Hid (Ext W9 wc) := Lib.hid (Xb.out.trans hx); obtain ⟨c0, c1_⟩ := HS.out wc Xc.out; clear op hx)
    | (have hgd := Xa; go_at_call 22; refine (bw_w3 ▸ whoB_any wa _ _ bw3.1 bw3.2 (VY.out.ext Xa.out) (by have := bw_s3.n; omega) 0).mono ?_; rintro e wb ⟨vp, rfl, op, hx⟩; obtain ⟨pa, pc, e1⟩ := op.sl.len; rw [show ([1] : List Int).length = 1 from rfl] at e1; subst e1; have Xb : Hid (Ext W9 wb) := Lib.hid (Xa.out.trans hx); obtain ⟨b0, b1_⟩ := HZ.out wb Xb.out; clear op hx)
    | (go_at_call 22; refine (bw_w2 ▸ whoB_any W9 _ _ bw2.1 bw2.2 VX.out (by have := bw_s2.n; omega) 2).mono ?_; rintro e wa ⟨vp, rfl, op, hx⟩; obtain ⟨pa, pc, e1⟩ := op.sl.len; rw [show ([0, 1] : List Int).length = 2 from rfl] at e1; subst e1; have Xa : Hid (Ext W9 wa) := Lib.hid hx; obtain ⟨a0, a1_⟩ := HY.out wa Xa.out; clear op hx))
  go_ret
  exact ⟨rfl, XW.out.trans Xg.out⟩
end Go.Proofs.YtfbambemjokmgaaGreat
