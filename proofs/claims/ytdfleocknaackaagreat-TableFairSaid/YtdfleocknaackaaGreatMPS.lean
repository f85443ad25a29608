/- Layer 12, the program: a node's side to a peer; a side as it is laid at first. -/
import Derived.Test.YtdfleocknaackaaGreatDR1
import Derived.Deep.DeepCutAuto
import Derived.Deep.CutBlock
import Derived.Test.YtdfleocknaackaaGreatME
import Derived.Test.YtdfleocknaackaaGreatMDR
import Derived.Laws.StructEq
namespace Go.Proofs.YtdfleocknaackaaGreat
open Go.RowKit

theorem cells8P {w : World} {g : Nat} {u0 u1 u2 u3 u4 u5 u6 u7 : Value} {t : TypeId} (h : w.heap[g]? = some (.cells #[u0, u1, u2, u3, u4, u5, u6, u7] t (0, 0))) :
    ((w.cell? ⟨g, 0, none⟩ = some u0 ∧ w.cell? ⟨g, 1, none⟩ = some u1) ∧ w.cell? ⟨g, 2, none⟩ = some u2 ∧ w.cell? ⟨g, 3, none⟩ = some u3) ∧ (w.cell? ⟨g, 4, none⟩ = some u4 ∧ w.cell? ⟨g, 5, none⟩ = some u5) ∧ w.cell? ⟨g, 6, none⟩ = some u6 ∧ w.cell? ⟨g, 7, none⟩ = some u7 :=
  ⟨⟨⟨blk_cell h 0 rfl, blk_cell h 1 rfl⟩, blk_cell h 2 rfl, blk_cell h 3 rfl⟩, ⟨blk_cell h 4 rfl, blk_cell h 5 rfl⟩, blk_cell h 6 rfl, blk_cell h 7 rfl⟩

set_option maxRecDepth 100000 in
set_option maxHeartbeats 2000000 in
theorem pSide_any (w : World) (id phase : Int) (v : Value) (L : List Sd) (p : Int) (h : Sl w v L) (s : Sd) (b : Bool) (hr : sideR L p = (s, b)) :
    Calls Tryz.prog 37 #[.agg #[.int .i64 id, .int .i64 phase, v], .int .i64 p] w fun e w' => e = .returned (.tuple #[.agg s.cs, .bool b]) ∧ Ext w w' := by
  obtain ⟨ao, c, rfl⟩ := h.len
  have HS := Lib.hid h
  have hlen := h.length_le
  have HR := Lib.hid hr
  have HK : Hid (∀ V, Ext ((w.alloc (.cells #[.int .i64 id, .int .i64 phase, .slice ao L.length c] 49)).alloc (.cells Sd.zero.cs 52)) V → (V.cell? ⟨w.heap.size, 2, none⟩ = some (.slice ao L.length c)) ∧ V.heap[w.heap.size + 1]? = some (.cells Sd.zero.cs 52 (0, 0))) := Lib.hid fun V hV => by
    obtain ⟨hA, hB⟩ := box2 (hV.mono (by rw [size_alloc, size_alloc]; omega))
    exact ⟨blk_cell hA 2 rfl, hB⟩
  have X0 : Ext w ((w.alloc (.cells #[.int .i64 id, .int .i64 phase, .slice ao L.length c] 49)).alloc (.cells Sd.zero.cs 52)) := ((Ext.refl w).alloc _).alloc _
  have HX0 := Lib.hid X0
  clear h hr X0
  go_enter Tryz.func37, Tryz.ntmps37
  go_wp2
  go_loopw [11] (fun i wr => ∃ k : Nat, k ≤ L.length ∧ i = .int .i64 k ∧ Hid ((L.take k).any (fun s => s.peer == p) = false) ∧ Hid (Ext ((w.alloc (.cells #[.int .i64 id, .int .i64 phase, .slice ao L.length c] 49)).alloc (.cells Sd.zero.cs 52)) wr)) (fun i _ => L.length - (intOf i).toNat)
  case atStart => exact ⟨0, Nat.zero_le _, rfl, Lib.hid rfl, Lib.hid (Ext.refl _)⟩
  case round =>
    obtain ⟨k, hk, rfl, HT, HX⟩ := hrel
    obtain ⟨kd, kb⟩ := HK.out wr HX.out
    have HB := Lib.hid kb
    clear kb kd
    by_cases hlt : k < L.length
    · obtain ⟨b1, off, y, hy, hyk, rfl, hn, hnc, hc63, hb, hcell⟩ := HS.out.sidesAt hlt
      obtain ⟨⟨⟨h0, h1⟩, h2, h3⟩, ⟨h4, h5⟩, h6, h7⟩ := hcell wr (HX0.out.trans HX.out)
      have HN := Lib.hid (any_nextD (fun s : Sd => s.peer == p) hyk)
      have HYK := Lib.hid hyk
      have HA : Hid (Ext ((w.alloc (.cells #[.int .i64 id, .int .i64 phase, .slice (some ⟨b1, off, none⟩) L.length c] 49)).alloc (.cells Sd.zero.cs 52)) (wr.alloc (.cells y.cs 52))) := Lib.hid (HX.out.alloc _)
      have HBX := Lib.hid (at0 wr (.cells y.cs 52))
      have HB2 := Lib.hid (blk_alloc HB.out (.cells y.cs 52))
      obtain ⟨y0, y1, y2, y3, y4, y5, y6, y7⟩ := y
      dsimp only at h0 h1 h2 h3 h4 h5 h6 h7
      dsimp only [Sd.cs] at HA HBX
      clear hcell hy hyk hn
      go_upto_region 4 with (fail)
      obtain ⟨⟨⟨q0, q1⟩, q2, q3⟩, ⟨q4, q5⟩, q6, q7⟩ := cells8P HBX.out
      cases ht : (y0 == p)
      · have HF : Hid ((L.take (k + 1)).any (fun s => s.peer == p) = false) := Lib.hid (HN.out.trans (by rw [HT.out]; exact ht))
        go_wp2
        go_roundw
        case rel => exact ⟨k + 1, by omega, by go_num, HF, HA⟩
        case measure => simp [intOf]; omega
      · have HE := Lib.hid (HR.out.symm.trans (sideR_at HT.out HYK.out ht))
        go_wp2_with (first | refine haltst 52 ?_)
        refine .inl ?_
        refine st_l 52 (.tmp 4) (.tmp 19) (w.heap.size + 1) 0 52 Sd.zero.cs (Sd.cs ⟨y0, y1, y2, y3, y4, y5, y6, y7⟩) (Sd.cs ⟨y0, y1, y2, y3, y4, y5, y6, y7⟩) rfl rfl HB2.out (by kernel_rfl) (by simp [Sd.cs, Sd.zero]) rfl rfl ?_
        intro W hW oW
        simp only [Act.put]
        go_wp2
        refine bodyPost_ret (v := .tuple #[.agg (Sd.cs ⟨y0, y1, y2, y3, y4, y5, y6, y7⟩), .bool true]) (res_ct 5 rfl rfl hW uSide (by kernel_rfl)) rfl ⟨?_, ?_⟩
        · have := HE.out
          simp only [Prod.mk.injEq] at this
          rw [this.1, this.2]
        · exact ext_off (HX0.out.trans HA.out) oW (fun k hk => by omega)
    · have hkl : k = L.length := by omega
      have HE : Hid ((s, b) = (Sd.zero, false)) := Lib.hid (HR.out.symm.trans (sideR_none (by have := HT.out; rwa [hkl, List.take_length] at this)))
      go_wp2_with (first | refine haltst 52 ?_)
      refine .inl ?_
      refine st_l 52 (.tmp 4) (.tmp 21) (w.heap.size + 1) 0 52 Sd.zero.cs Sd.zero.cs Sd.zero.cs rfl rfl HB.out (by kernel_rfl) (by simp [Sd.cs, Sd.zero]) rfl rfl ?_
      intro W hW oW
      simp only [Act.put]
      go_wp2
      refine bodyPost_ret (v := .tuple #[.agg Sd.zero.cs, .bool false]) (res_ct 5 rfl rfl hW uSide (by kernel_rfl)) rfl ⟨?_, ?_⟩
      · have := HE.out
        simp only [Prod.mk.injEq] at this
        rw [this.1, this.2]
      · exact ext_off (HX0.out.trans HX.out) oW (fun k hk => by omega)

end Go.Proofs.YtdfleocknaackaaGreat

/- Layer 12, the program: whether a piece of mail is among others; whether two rows of sides are the same. -/
namespace Go.Proofs.YtdfleocknaackaaGreat
open Go.RowKit

def Ml.val (y : Ml) : Value := .agg #[.int .i64 y.from_, .int .i64 y.to_, .int .i64 y.kind, .int .i64 y.epoch, .int .i64 y.num]
theorem eq_Ml (y0 y1 y2 y3 y4 z0 z1 z2 z3 z4 : Int) (s : Bool) (hs : decide ((⟨y0, y1, y2, y3, y4⟩ : Ml) = ⟨z0, z1, z2, z3, z4⟩) = s) :
    (∀ w : World, (binOp .eql 82 (.agg #[.int .i64 y0, .int .i64 y1, .int .i64 y2, .int .i64 y3, .int .i64 y4]) (.agg #[.int .i64 z0, .int .i64 z1, .int .i64 z2, .int .i64 z3, .int .i64 z4])).run Tryz.prog w = .ok (.bool s) w) ∧ ∀ (a b : Operand) (w : World), (eqGuard .eql 82 a b (.agg #[.int .i64 y0, .int .i64 y1, .int .i64 y2, .int .i64 y3, .int .i64 y4]) (.agg #[.int .i64 z0, .int .i64 z1, .int .i64 z2, .int .i64 z3, .int .i64 z4])).run Tryz.prog w = .ok () w := by
  refine ⟨fun w => ?_, fun a b w => run_eqGuard_agg w _ _ a b _ _ (by kernel_rfl)⟩
  have u3 := Tryz.underlying3
  have a3 := Tryz.isAgg3
  have z3' := Tryz.sizeOf3
  have uK := Tryz.underlying37
  have aK := Tryz.isAgg37
  have zK := Tryz.sizeOf37
  have aM := Tryz.isAgg80
  have zM := Tryz.sizeOf80
  have hS : Tryz.prog.underlying 82 = some (.struct (Tryz.prog.fieldsOf 82)) := by kernel_rfl
  have hp : Tryz.prog.stoodInHeld 82 = false := by kernel_rfl
  have hS2 : Tryz.prog.underlying 80 = some (.struct (Tryz.prog.fieldsOf 80)) := by kernel_rfl
  have hp2 : Tryz.prog.stoodInHeld 80 = false := by kernel_rfl
  have hq : ∀ (w : World) (b0 b1 b2 c0 c1 c2 : Int), (Op.equalIn 9999 80 (.agg #[.int .i64 b0, .int .i64 b1, .int .i64 b2]) (.agg #[.int .i64 c0, .int .i64 c1, .int .i64 c2])).run Tryz.prog w = .ok (decide (b0 = c0) && decide (b1 = c1) && decide (b2 = c2)) w := by
    intro w b0 b1 b2 c0 c1 c2
    rw [show (9999 : Nat) = 9998 + 1 from rfl, run_equalIn_agg w 9998 80 _ _ hS2 hp2]
    simp only [Program.fieldsOf, Tryz.underlying80]
    go_simp
    by_cases h0 : b0 = c0 <;> by_cases h1 : b1 = c1 <;> by_cases h2 : b2 = c2 <;> simp [h0, h1, h2]
  rw [run_eql_struct, show (10000 : Nat) = 9999 + 1 from rfl, run_equalIn_agg w 9999 82 _ _ hS hp]
  simp only [Program.fieldsOf, Tryz.underlying82]
  go_simp
  subst hs
  by_cases h0 : y0 = z0 <;> by_cases h1 : y1 = z1 <;> simp [h0, h1]
  by_cases h2 : y2 = z2 <;> by_cases h3 : y3 = z3 <;> by_cases h4 : y4 = z4 <;> simp [h2, h3, h4]

theorem take_nextD {α : Type} {xs : List α} {k : Nat} {y : α} (h : xs[k]? = some y) : xs.take (k + 1) = xs.take k ++ [y] := by
  have hk := (List.getElem?_eq_some_iff.1 h).1
  rw [List.take_succ_eq_append_getElem hk, (List.getElem?_eq_some_iff.1 h).2]

set_option maxRecDepth 100000 in
set_option maxHeartbeats 2000000 in
theorem index_ml (w : World) (v : Value) (L : List Ml) (x : Ml) (h : Sl w v L) : Calls Tryz.prog 129 #[v, .agg #[.int .i64 x.from_, .int .i64 x.to_, .int .i64 x.kind, .int .i64 x.epoch, .int .i64 x.num]] w fun e w' => ∃ r : Int, e = .returned (.int .i64 r) ∧ decide (0 ≤ r) = decide (x ∈ L) ∧ Ext w w' := by
  obtain ⟨ao, c, rfl⟩ := h.len
  have HS := Lib.hid h
  have hlen := h.length_le
  obtain ⟨x0, x1, x2, x3, x4⟩ := x
  have HK : Hid (∀ V, Ext (w.alloc (.cells #[.int .i64 x0, .int .i64 x1, .int .i64 x2, .int .i64 x3, .int .i64 x4] 82)) V → V.cell? ⟨w.heap.size, 0, none⟩ = some (.int .i64 x0) ∧ V.cell? ⟨w.heap.size, 1, none⟩ = some (.int .i64 x1) ∧ V.cell? ⟨w.heap.size, 2, none⟩ = some (.int .i64 x2) ∧ V.cell? ⟨w.heap.size, 3, none⟩ = some (.int .i64 x3) ∧ V.cell? ⟨w.heap.size, 4, none⟩ = some (.int .i64 x4)) := Lib.hid fun V hV => ⟨cell_atD V hV rfl, cell_atD V hV rfl, cell_atD V hV rfl, cell_atD V hV rfl, cell_atD V hV rfl⟩
  have HX0 : Hid (Ext w (w.alloc (.cells #[.int .i64 x0, .int .i64 x1, .int .i64 x2, .int .i64 x3, .int .i64 x4] 82))) := Lib.hid ((Ext.refl w).alloc _)
  clear h
  go_enter Tryz.func129, Tryz.ntmps129
  go_wp2
  go_loopw [8] (fun i wr => ∃ k : Nat, k ≤ L.length ∧ i = .int .i64 k ∧ Hid ((⟨x0, x1, x2, x3, x4⟩ : Ml) ∉ L.take k) ∧ Hid (Ext (w.alloc (.cells #[.int .i64 x0, .int .i64 x1, .int .i64 x2, .int .i64 x3, .int .i64 x4] 82)) wr)) (fun i _ => L.length - (intOf i).toNat)
  case atStart => exact ⟨0, Nat.zero_le _, rfl, Lib.hid (by simp), Lib.hid (Ext.refl _)⟩
  case round =>
    obtain ⟨k, hk, rfl, HT, HX⟩ := hrel
    by_cases hlt : k < L.length
    · obtain ⟨b, off, y, _, hyk, rfl, hn, hnc, hc63, hb, hcell⟩ := HS.out.mailAt hlt
      have HCY : Hid (∀ V, Ext wr V → (V.cell? ⟨b, off + k * 5, none⟩ = some (.int .i64 y.from_) ∧ V.cell? ⟨b, off + k * 5 + 1, none⟩ = some (.int .i64 y.to_)) ∧ V.cell? ⟨b, off + k * 5 + 2, none⟩ = some (.int .i64 y.kind) ∧ V.cell? ⟨b, off + k * 5 + 3, none⟩ = some (.int .i64 y.epoch) ∧ V.cell? ⟨b, off + k * 5 + 4, none⟩ = some (.int .i64 y.num)) := Lib.hid fun V hV => hcell V (HX0.out.trans (HX.out.trans hV))
      have HBX := Lib.hid (fun (V : World) (hV : Ext wr V) => HK.out V (HX.out.trans hV))
      have HN := Lib.hid (take_nextD hyk)
      have HM : Hid (y ∈ L) := Lib.hid (List.mem_of_getElem? hyk)
      obtain ⟨y0, y1, y2, y3, y4⟩ := y
      obtain ⟨s, hs⟩ : ∃ s, decide ((⟨x0, x1, x2, x3, x4⟩ : Ml) = ⟨y0, y1, y2, y3, y4⟩) = s := ⟨_, rfl⟩
      have HNQ := Lib.hid (eq_Ml x0 x1 x2 x3 x4 y0 y1 y2 y3 y4 s hs)
      have HYZ := Lib.hid hs
      dsimp only at HCY
      clear hcell hyk hn hs
      cases s
      all_goals
        go_wp2_with fail
        (refine wp_region_X_lit (K := fun W => Ext wr W) (by kernel_rfl) (fun w1 hw1 => ?_))
        have HX1 := Lib.hid (HX.out.trans hw1)
        have HW1 := Lib.hid hw1
        clear hw1
        refine xtv 0 (hv := by intro w' hw'; obtain ⟨a0, a1, a2, a3, a4⟩ := HBX.out w' hw'; go_simp; first | done | with_reducible rfl) (h := ?_)
        refine xtv 1 (h := ?_)
        refine xtv 2 (h := ?_)
        refine xtv 3 (h := ?_)
        refine xtv 4 (hv := by intro w' hw'; obtain ⟨⟨a0, a1⟩, a2, a3, a4⟩ := HCY.out w' hw'; go_simp; first | done | with_reducible rfl) (h := ?_)
        refine xtv 5 (hv := by intro w' hw'; obtain ⟨q1, q2⟩ := HNQ.out; go_simp; first | done | with_reducible rfl) (h := ?_)
        (refine xdone (by kernel_rfl) (HW1.out) ?_)
      · go_wp2
        go_roundw
        case rel => exact ⟨k + 1, by omega, by go_num, Lib.hid (by rw [HN.out]; simp only [List.mem_append, List.mem_singleton]; exact fun e => e.elim HT.out (of_decide_eq_false HYZ.out)), HX1⟩
        case measure => simp [intOf]; omega
      · go_wp2
        go_ret
        exact ⟨_, rfl, by rw [of_decide_eq_true HYZ.out, decide_eq_true HM.out]; simp, HX0.out.trans HX1.out⟩
    · have hkl : k = L.length := by omega
      have HF : Hid ((⟨x0, x1, x2, x3, x4⟩ : Ml) ∉ L) := Lib.hid (by have := HT.out; rwa [hkl, List.take_length] at this)
      go_wp2
      go_ret
      exact ⟨_, rfl, by rw [decide_eq_false HF.out]; rfl, HX0.out.trans HX.out⟩

set_option maxRecDepth 100000 in
theorem contains_ml (w : World) (v : Value) (L : List Ml) (x : Ml) (h : Sl w v L) (r : Bool) (hr : decide (x ∈ L) = r) : Calls Tryz.prog 108 #[v, .agg #[.int .i64 x.from_, .int .i64 x.to_, .int .i64 x.kind, .int .i64 x.epoch, .int .i64 x.num]] w fun e w' => e = .returned (.bool r) ∧ Ext w w' := by
  have HR := Lib.hid hr
  have HS := Lib.hid h
  clear h hr
  obtain ⟨x0, x1, x2, x3, x4⟩ := x
  have HX0 : Hid (Ext w (w.alloc (.cells #[.int .i64 x0, .int .i64 x1, .int .i64 x2, .int .i64 x3, .int .i64 x4] 82))) := Lib.hid ((Ext.refl w).alloc _)
  go_enter Tryz.func108, Tryz.ntmps108
  go_wp2_with (go_at_call 129; refine (index_ml _ _ L ⟨x0, x1, x2, x3, x4⟩ (HS.out.ext HX0.out)).mono ?_; rintro e w1 ⟨r1, rfl, hr1, hx⟩; have HR1 := Lib.hid hr1; have HX := Lib.hid (HX0.out.trans hx); clear hr1 hx)
  go_ret
  exact ⟨ret_bool (HR1.out.trans HR.out), HX.out⟩

set_option maxRecDepth 100000 in
set_option maxHeartbeats 2000000 in
theorem equal_sd (w : World) (v1 v2 : Value) (L M : List Sd) (h : Sl w v1 L) (g : Sl w v2 M) (t : Bool) (ht : decide (L = M) = t) :
    Calls Tryz.prog 105 #[v1, v2] w fun e w' => e = .returned (.bool t) ∧ Ext w w' := by
  obtain ⟨ao1, c1, rfl⟩ := h.len
  obtain ⟨ao2, c2, rfl⟩ := g.len
  have l1 := h.length_le
  have l2 := g.length_le
  have HS := Lib.hid h
  have HM := Lib.hid g
  have HE := Lib.hid ht
  clear h g ht
  by_cases e3 : L.length = M.length
  · have q3 : ((L.length : Int) != (M.length : Int)) = false := by simp [e3]
    have HL3 := Lib.hid e3
    clear e3
    go_enter Tryz.func105, Tryz.ntmps105
    go_wp2
    go_loopw [13] (fun i wr => ∃ k : Nat, k ≤ L.length ∧ i = .int .i64 k ∧ Hid (L.take k = M.take k) ∧ Hid (Ext w wr)) (fun i _ => L.length - (intOf i).toNat)
    case atStart => exact ⟨0, Nat.zero_le _, rfl, Lib.hid rfl, Lib.hid (Ext.refl _)⟩
    case round =>
      obtain ⟨k, hk, rfl, HQ, HX⟩ := hrel
      by_cases hlt : k < L.length
      · have hltM : k < M.length := by have := HL3.out; omega
        obtain ⟨b1, o1, y, _, hyk, rfl, hn, hnc, hc63, hb, hcell⟩ := HS.out.sidesAt hlt
        obtain ⟨b2, o2, z, _, hzk, rfl, hn', hnc', hc63', hb', hcell'⟩ := HM.out.sidesAt hltM
        have HCY : Hid (∀ V, Ext wr V → _) := Lib.hid fun V hV => hcell V (HX.out.trans hV)
        have HCZ : Hid (∀ V, Ext wr V → _) := Lib.hid fun V hV => hcell' V (HX.out.trans hV)
        have HN := Lib.hid (take_eqD hyk hzk)
        obtain ⟨s, hs⟩ : ∃ s, decide (y = z) = s := ⟨_, rfl⟩
        have HNQ := Lib.hid (neq_Sd y z s hs)
        have HYZ := Lib.hid hs
        clear hcell hcell' hyk hzk hn hn' hs
        obtain ⟨y0, y1, y2, y3, y4, y5, y6, y7⟩ := y
        obtain ⟨z0, z1, z2, z3, z4, z5, z6, z7⟩ := z
        dsimp only at HCY HCZ
        cases s
        all_goals
          go_wp2_with fail
          (refine wp_region_X_lit (K := fun W => Ext wr W) (by kernel_rfl) (fun w1 hw1 => ?_))
          have HX1 := Lib.hid (HX.out.trans hw1)
          have HW1 := Lib.hid hw1
          clear hw1
          refine xtv 0 (h := ?_)
          refine xtv 1 (h := ?_)
          refine xtv 2 (h := ?_)
          refine xtv 3 (hv := by intro w' hw'; obtain ⟨⟨⟨a0, a1⟩, a2, a3⟩, ⟨a4, a5⟩, a6, a7⟩ := HCY.out w' hw'; go_simp; first | done | with_reducible rfl) (h := ?_)
          refine xtv 4 (h := ?_)
          refine xtv 5 (h := ?_)
          refine xtv 6 (h := ?_)
          refine xtv 7 (hv := by intro w' hw'; obtain ⟨⟨⟨a0, a1⟩, a2, a3⟩, ⟨a4, a5⟩, a6, a7⟩ := HCZ.out w' hw'; go_simp; first | done | with_reducible rfl) (h := ?_)
          refine xtv 8 (hv := by intro w' hw'; obtain ⟨q1, q2⟩ := HNQ.out; go_simp; first | done | with_reducible rfl) (h := ?_)
          (refine xdone (by kernel_rfl) (HW1.out) ?_)
        · go_wp2
          go_ret
          exact ⟨ret_bool (by
            rw [← HE.out]
            exact (decide_eq_false fun e => of_decide_eq_false HYZ.out ((HN.out.1 (by rw [e])).2)).symm), HX1.out⟩
        · go_wp2
          go_roundw
          case rel => exact ⟨k + 1, by omega, by go_num, Lib.hid (HN.out.2 ⟨HQ.out, of_decide_eq_true HYZ.out⟩), HX1⟩
          case measure => simp [intOf]; omega
      · have hkl : k = L.length := by omega
        have HF : Hid (true = t) := Lib.hid (by
          have hq := HQ.out
          rw [hkl, List.take_length, HL3.out, List.take_length] at hq
          rw [← HE.out, decide_eq_true hq])
        go_wp2
        go_ret
        exact ⟨ret_bool HF.out, HX.out⟩
  · have q3 : ((L.length : Int) != (M.length : Int)) = true := by simp; omega
    have HF : Hid (false = t) := Lib.hid (by rw [← HE.out, decide_eq_false fun e => e3 (by rw [e])])
    clear e3
    go_enter Tryz.func105, Tryz.ntmps105
    go_wp2
    go_ret
    exact ⟨ret_bool HF.out, Ext.refl _⟩

end Go.Proofs.YtdfleocknaackaaGreat
