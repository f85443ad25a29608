/- Texts of this seat. -/
import Derived.Test.YtfbambemjokmgaaGreatNAF
namespace Go.Proofs.YtfbambemjokmgaaGreat
open Go.RowKit
def Ml.val (y : Ml) : Value := .agg #[.int .i64 y.from_, .int .i64 y.to_, .int .i64 y.kind, .int .i64 y.epoch, .int .i64 y.num]
theorem eq_Ml (y0 y1 y2 y3 y4 z0 z1 z2 z3 z4 : Int) (s : Bool) (hs : decide ((⟨y0, y1, y2, y3, y4⟩ : Ml) = ⟨z0, z1, z2, z3, z4⟩) = s) :
    (∀ w : World, (binOp .eql 95 (.agg #[.int .i64 y0, .int .i64 y1, .int .i64 y2, .int .i64 y3, .int .i64 y4]) (.agg #[.int .i64 z0, .int .i64 z1, .int .i64 z2, .int .i64 z3, .int .i64 z4])).run Tryz.prog w = .ok (.bool s) w) ∧ ∀ (a b : Operand) (w : World), (eqGuard .eql 95 a b (.agg #[.int .i64 y0, .int .i64 y1, .int .i64 y2, .int .i64 y3, .int .i64 y4]) (.agg #[.int .i64 z0, .int .i64 z1, .int .i64 z2, .int .i64 z3, .int .i64 z4])).run Tryz.prog w = .ok () w := by
  refine ⟨fun w => ?_, fun a b w => run_eqGuard_agg w _ _ a b _ _ (by kernel_rfl)⟩
  have u3 := Tryz.underlying3
  have a3 := Tryz.isAgg3
  have z3' := Tryz.sizeOf3
  have uK := Tryz.underlying31
  have aK := Tryz.isAgg31
  have zK := Tryz.sizeOf31
  have aM := Tryz.isAgg93
  have zM := Tryz.sizeOf93
  have hS : Tryz.prog.underlying 95 = some (.struct (Tryz.prog.fieldsOf 95)) := by kernel_rfl
  have hp : Tryz.prog.stoodInHeld 95 = false := by kernel_rfl
  have hS2 : Tryz.prog.underlying 93 = some (.struct (Tryz.prog.fieldsOf 93)) := by kernel_rfl
  have hp2 : Tryz.prog.stoodInHeld 93 = false := by kernel_rfl
  have hq : ∀ (w : World) (b0 b1 b2 c0 c1 c2 : Int), (Op.equalIn 9999 93 (.agg #[.int .i64 b0, .int .i64 b1, .int .i64 b2]) (.agg #[.int .i64 c0, .int .i64 c1, .int .i64 c2])).run Tryz.prog w = .ok (decide (b0 = c0) && decide (b1 = c1) && decide (b2 = c2)) w := by
    intro w b0 b1 b2 c0 c1 c2
    rw [show (9999 : Nat) = 9998 + 1 from rfl, run_equalIn_agg w 9998 93 _ _ hS2 hp2]
    simp only [Program.fieldsOf, Tryz.underlying93]
    go_simp
    by_cases h0 : b0 = c0 <;> by_cases h1 : b1 = c1 <;> by_cases h2 : b2 = c2 <;> simp [h0, h1, h2]
  rw [run_eql_struct, show (10000 : Nat) = 9999 + 1 from rfl, run_equalIn_agg w 9999 95 _ _ hS hp]
  simp only [Program.fieldsOf, Tryz.underlying95]
  go_simp
  subst hs
  by_cases h0 : y0 = z0 <;> by_cases h1 : y1 = z1 <;> simp [h0, h1]
  by_cases h2 : y2 = z2 <;> by_cases h3 : y3 = z3 <;> by_cases h4 : y4 = z4 <;> simp [h2, h3, h4]
theorem take_nextD {α : Type} {xs : List α} {k : Nat} {y : α} (h : xs[k]? = some y) : xs.take (k + 1) = xs.take k ++ [y] := by
  have hk := (List.getElem?_eq_some_iff.1 h).1
  rw [List.take_succ_eq_append_getElem hk, (List.getElem?_eq_some_iff.1 h).2]
set_option maxRecDepth 100000 in
set_option maxHeartbeats 2000000 in
theorem index_ml (w : World) (v : Value) (L : List Ml) (x : Ml) (h : Sl w v L) : Calls Tryz.prog 173 #[v, .agg #[.int .i64 x.from_, .int .i64 x.to_, .int .i64 x.kind, .int .i64 x.epoch, .int .i64 x.num]] w fun e w' => ∃ r : Int, e = .returned (.int .i64 r) ∧ decide (0 ≤ r) = decide (x ∈ L) ∧ Ext w w' := by
  obtain ⟨ao, c, rfl⟩ := h.len
  have HS := Lib.hid h
  have hlen := h.length_le
  obtain ⟨x0, x1, x2, x3, x4⟩ := x
  have HK : Hid (∀ V, Ext (w.alloc (.cells #[.int .i64 x0, .int .i64 x1, .int .i64 x2, .int .i64 x3, .int .i64 x4] 95)) V → V.cell? ⟨w.heap.size, 0, none⟩ = some (.int .i64 x0) ∧ V.cell? ⟨w.heap.size, 1, none⟩ = some (.int .i64 x1) ∧ V.cell? ⟨w.heap.size, 2, none⟩ = some (.int .i64 x2) ∧ V.cell? ⟨w.heap.size, 3, none⟩ = some (.int .i64 x3) ∧ V.cell? ⟨w.heap.size, 4, none⟩ = some (.int .i64 x4)) := Lib.hid fun V hV => ⟨cell_atD V hV rfl, cell_atD V hV rfl, cell_atD V hV rfl, cell_atD V hV rfl, cell_atD V hV rfl⟩
  have HX0 : Hid (Ext w (w.alloc (.cells #[.int .i64 x0, .int .i64 x1, .int .i64 x2, .int .i64 x3, .int .i64 x4] 95))) := Lib.hid ((Ext.refl w).alloc _)
  clear h
  go_enter Tryz.func173, Tryz.ntmps173
  go_wp2
  go_loopw [8] (fun i wr => ∃ k : Nat, k ≤ L.length ∧ i = .int .i64 k ∧ Hid ((⟨x0, x1, x2, x3, x4⟩ : Ml) ∉ L.take k) ∧ Hid (Ext (w.alloc (.cells #[.int .i64 x0, .int .i64 x1, .int .i64 x2, .int .i64 x3, .int .i64 x4] 95)) wr)) (fun i _ => L.length - (intOf i).toNat)
  case atStart => exact ⟨0, Nat.zero_le _, rfl, Lib.hid (by simp), Lib.hid (Ext.refl _)⟩
  case round =>
    obtain ⟨k, hk, rfl, HT, HX⟩ := hrel
    by_cases hlt : k < L.length
    · obtain ⟨b, off, y, _, hyk, rfl, hn, hnc, hc63, hb, hcell⟩ := HS.out.mailAt hlt
      have HCY : Hid (∀ V, Ext wr V → (V.cell? ⟨b, off + k * 5, none⟩ = some (.int .i64 y.from_) ∧ V.cell? ⟨b, off + k * 5 + 1, none⟩ = some (.int .i64 y.to_)) ∧ V.cell? ⟨b, off + k * 5 + 2, none⟩ = some (.int .i64 y.kind) ∧ V.cell? ⟨b, off + k * 5 + 3, none⟩ = some (.int .i64 y.epoch) ∧ V.cell? ⟨b, off + k * 5 + 4, none⟩ = some (.int .i64 y.num)) := Lib.hid fun V hV => hcell V (HX0.out.trans (HX.out.trans hV))
      have HBX := Lib.hid (fun (V : World) (hV : Ext wr V) => HK.out V (HX.out.trans hV))
      have HN := Lib.hid (take_nextD hyk)
      have HM : Hid (y ∈ L) := Lib.hid (List.mem_of_getElem? hyk)
      obtain ⟨y0, y1, y2, y3, y4⟩ := y
      obtain ⟨s, hs⟩ : ∃ s, decide ((⟨x0, x1, x2, x3, x4⟩ : Ml) = ⟨y0, y1, y2, y3, y4⟩) = s := ⟨_, rfl⟩
      have HNQ := Lib.hid (eq_Ml x0 x1 x2 x3 x4 y0 y1 y2 y3 y4 s hs)
      have HYZ := Lib.hid hs
      dsimp only at HCY
      clear hcell hyk hn hs
      cases s
      all_goals
        go_wp2_with fail
        (refine wp_region_X_lit (K := fun W => Ext wr W) (by kernel_rfl) (fun w1 hw1 => ?_))
        have HX1 := Lib.hid (HX.out.trans hw1)
        have HW1 := Lib.hid hw1
        clear hw1
        refine xtv 0 (hv := by intro w' hw'; obtain ⟨a0, a1, a2, a3, a4⟩ := HBX.out w' hw'; go_simp; first | done | with_reducible rfl) (h := ?_)
        refine xtv 1 (h := ?_)
        refine xtv 2 (h := ?_)
        refine xtv 3 (h := ?_)
        refine xtv 4 (hv := by intro w' hw'; obtain ⟨⟨a0, a1⟩, a2, a3, a4⟩ := HCY.out w' hw'; go_simp; first | done | with_reducible rfl) (h := ?_)
        refine xtv 5 (hv := by intro w' hw'; obtain ⟨q1, q2⟩ := HNQ.out; go_simp; first | done | with_reducible rfl) (h := ?_)
        (refine xdone (by kernel_rfl) (HW1.out) ?_)
      · go_wp2
        go_roundw
        case rel => exact ⟨k + 1, by omega, by go_num, Lib.hid (by rw [HN.out]; simp only [List.mem_append, List.mem_singleton]; exact fun e => e.elim HT.out (of_decide_eq_false HYZ.out)), HX1⟩
        case measure => simp [intOf]; omega
      · go_wp2
        go_ret
        exact ⟨_, rfl, by rw [of_decide_eq_true HYZ.out, decide_eq_true HM.out]; simp, HX0.out.trans HX1.out⟩
    · have hkl : k = L.length := by omega
      have HF : Hid ((⟨x0, x1, x2, x3, x4⟩ : Ml) ∉ L) := Lib.hid (by have := HT.out; rwa [hkl, List.take_length] at this)
      go_wp2
      go_ret
      exact ⟨_, rfl, by rw [decide_eq_false HF.out]; rfl, HX0.out.trans HX.out⟩
set_option maxRecDepth 100000 in
theorem contains_ml (w : World) (v : Value) (L : List Ml) (x : Ml) (h : Sl w v L) (r : Bool) (hr : decide (x ∈ L) = r) : Calls Tryz.prog 148 #[v, .agg #[.int .i64 x.from_, .int .i64 x.to_, .int .i64 x.kind, .int .i64 x.epoch, .int .i64 x.num]] w fun e w' => e = .returned (.bool r) ∧ Ext w w' := by
  have HR := Lib.hid hr
  have HS := Lib.hid h
  clear h hr
  obtain ⟨x0, x1, x2, x3, x4⟩ := x
  have HX0 : Hid (Ext w (w.alloc (.cells #[.int .i64 x0, .int .i64 x1, .int .i64 x2, .int .i64 x3, .int .i64 x4] 95))) := Lib.hid ((Ext.refl w).alloc _)
  go_enter Tryz.func148, Tryz.ntmps148
  go_wp2_with (go_at_call 173; refine (index_ml _ _ L ⟨x0, x1, x2, x3, x4⟩ (HS.out.ext HX0.out)).mono ?_; rintro e w1 ⟨r1, rfl, hr1, hx⟩; have HR1 := Lib.hid hr1; have HX := Lib.hid (HX0.out.trans hx); clear hr1 hx)
  go_ret
  exact ⟨ret_bool (HR1.out.trans HR.out), HX.out⟩
set_option maxRecDepth 100000 in
set_option maxHeartbeats 2000000 in
theorem equal_sd (w : World) (v1 v2 : Value) (L M : List Sd) (h : Sl w v1 L) (g : Sl w v2 M) (t : Bool) (ht : decide (L = M) = t) :
    Calls Tryz.prog 147 #[v1, v2] w fun e w' => e = .returned (.bool t) ∧ Ext w w' := by
  obtain ⟨ao1, c1, rfl⟩ := h.len
  obtain ⟨ao2, c2, rfl⟩ := g.len
  have l1 := h.length_le
  have l2 := g.length_le
  have HS := Lib.hid h
  have HM := Lib.hid g
  have HE := Lib.hid ht
  clear h g ht
  by_cases e3 : L.length = M.length
  · have q3 : ((L.length : Int) != (M.length : Int)) = false := by simp [e3]
    have HL3 := Lib.hid e3
    clear e3
    go_enter Tryz.func147, Tryz.ntmps147
    go_wp2
    go_loopw [13] (fun i wr => ∃ k : Nat, k ≤ L.length ∧ i = .int .i64 k ∧ Hid (L.take k = M.take k) ∧ Hid (Ext w wr)) (fun i _ => L.length - (intOf i).toNat)
    case atStart => exact ⟨0, Nat.zero_le _, rfl, Lib.hid rfl, Lib.hid (Ext.refl _)⟩
    case round =>
      obtain ⟨k, hk, rfl, HQ, HX⟩ := hrel
      by_cases hlt : k < L.length
      · have hltM : k < M.length := by have := HL3.out; omega
        obtain ⟨b1, o1, y, _, hyk, rfl, hn, hnc, hc63, hb, hcell⟩ := HS.out.sidesAt hlt
        obtain ⟨b2, o2, z, _, hzk, rfl, hn', hnc', hc63', hb', hcell'⟩ := HM.out.sidesAt hltM
        have HCY : Hid (∀ V, Ext wr V → _) := Lib.hid fun V hV => hcell V (HX.out.trans hV)
        have HCZ : Hid (∀ V, Ext wr V → _) := Lib.hid fun V hV => hcell' V (HX.out.trans hV)
        have HN := Lib.hid (take_eqD hyk hzk)
        obtain ⟨s, hs⟩ : ∃ s, decide (y = z) = s := ⟨_, rfl⟩
        have HNQ := Lib.hid (neq_Sd y z s hs)
        have HYZ := Lib.hid hs
        clear hcell hcell' hyk hzk hn hn' hs
        obtain ⟨y0, y1, y2, y3, y4, y5, y6, y7⟩ := y
        obtain ⟨z0, z1, z2, z3, z4, z5, z6, z7⟩ := z
        dsimp only at HCY HCZ
        cases s
        all_goals
          go_wp2_with fail
          (refine wp_region_X_lit (K := fun W => Ext wr W) (by kernel_rfl) (fun w1 hw1 => ?_))
          have HX1 := Lib.hid (HX.out.trans hw1)
          have HW1 := Lib.hid hw1
          clear hw1
          refine xtv 0 (h := ?_)
          refine xtv 1 (h := ?_)
          refine xtv 2 (h := ?_)
          refine xtv 3 (hv := by intro w' hw'; obtain ⟨⟨⟨a0, a1⟩, a2, a3⟩, ⟨a4, a5⟩, a6, a7⟩ := HCY.out w' hw'; go_simp; first | done | with_reducible rfl) (h := ?_)
          refine xtv 4 (h := ?_)
          refine xtv 5 (h := ?_)
          refine xtv 6 (h := ?_)
          refine xtv 7 (hv := by intro w' hw'; obtain ⟨⟨⟨a0, a1⟩, a2, a3⟩, ⟨a4, a5⟩, a6, a7⟩ := HCZ.out w' hw'; go_simp; first | done | with_reducible rfl) (h := ?_)
          refine xtv 8 (hv := by intro w' hw'; obtain ⟨q1, q2⟩ := HNQ.out; go_simp; first | done | with_reducible rfl) (h := ?_)
          (refine xdone (by kernel_rfl) (HW1.out) ?_)
        · go_wp2
          go_ret
          exact ⟨ret_bool (by
            rw [← HE.out]
            exact (decide_eq_false fun e => of_decide_eq_false HYZ.out ((HN.out.1 (by rw [e])).2)).symm), HX1.out⟩
        · go_wp2
          go_roundw
          case rel => exact ⟨k + 1, by omega, by go_num, Lib.hid (HN.out.2 ⟨HQ.out, of_decide_eq_true HYZ.out⟩), HX1⟩
          case measure => simp [intOf]; omega
      · have hkl : k = L.length := by omega
        have HF : Hid (true = t) := Lib.hid (by
          have hq := HQ.out
          rw [hkl, List.take_length, HL3.out, List.take_length] at hq
          rw [← HE.out, decide_eq_true hq])
        go_wp2
        go_ret
        exact ⟨ret_bool HF.out, HX.out⟩
  · have q3 : ((L.length : Int) != (M.length : Int)) = true := by simp; omega
    have HF : Hid (false = t) := Lib.hid (by rw [← HE.out, decide_eq_false fun e => e3 (by rw [e])])
    clear e3
    go_enter Tryz.func147, Tryz.ntmps147
    go_wp2
    go_ret
    exact ⟨ret_bool HF.out, Ext.refl _⟩
end Go.Proofs.YtfbambemjokmgaaGreat
namespace Go.Proofs.YtfbambemjokmgaaGreat
open Go.RowKit
theorem neq_Ml (y0 y1 y2 y3 y4 z0 z1 z2 z3 z4 : Int) (s : Bool) (hs : decide ((⟨y0, y1, y2, y3, y4⟩ : Ml) = ⟨z0, z1, z2, z3, z4⟩) = s) :
    (∀ w : World, (binOp .neq 95 (.agg #[.int .i64 y0, .int .i64 y1, .int .i64 y2, .int .i64 y3, .int .i64 y4]) (.agg #[.int .i64 z0, .int .i64 z1, .int .i64 z2, .int .i64 z3, .int .i64 z4])).run Tryz.prog w = .ok (.bool (!s)) w) ∧ ∀ (a b : Operand) (w : World), (eqGuard .neq 95 a b (.agg #[.int .i64 y0, .int .i64 y1, .int .i64 y2, .int .i64 y3, .int .i64 y4]) (.agg #[.int .i64 z0, .int .i64 z1, .int .i64 z2, .int .i64 z3, .int .i64 z4])).run Tryz.prog w = .ok () w := by
  refine ⟨fun w => ?_, fun a b w => run_eqGuard_agg w _ _ a b _ _ (by kernel_rfl)⟩
  have u3 := Tryz.underlying3
  have a3 := Tryz.isAgg3
  have z3' := Tryz.sizeOf3
  have uK := Tryz.underlying31
  have aK := Tryz.isAgg31
  have zK := Tryz.sizeOf31
  have aM := Tryz.isAgg93
  have zM := Tryz.sizeOf93
  have hS : Tryz.prog.underlying 95 = some (.struct (Tryz.prog.fieldsOf 95)) := by kernel_rfl
  have hp : Tryz.prog.stoodInHeld 95 = false := by kernel_rfl
  have hS2 : Tryz.prog.underlying 93 = some (.struct (Tryz.prog.fieldsOf 93)) := by kernel_rfl
  have hp2 : Tryz.prog.stoodInHeld 93 = false := by kernel_rfl
  have hq : ∀ (w : World) (b0 b1 b2 c0 c1 c2 : Int), (Op.equalIn 9999 93 (.agg #[.int .i64 b0, .int .i64 b1, .int .i64 b2]) (.agg #[.int .i64 c0, .int .i64 c1, .int .i64 c2])).run Tryz.prog w = .ok (decide (b0 = c0) && decide (b1 = c1) && decide (b2 = c2)) w := by
    intro w b0 b1 b2 c0 c1 c2
    rw [show (9999 : Nat) = 9998 + 1 from rfl, run_equalIn_agg w 9998 93 _ _ hS2 hp2]
    simp only [Program.fieldsOf, Tryz.underlying93]
    go_simp
    by_cases h0 : b0 = c0 <;> by_cases h1 : b1 = c1 <;> by_cases h2 : b2 = c2 <;> simp [h0, h1, h2]
  rw [run_neq_struct, show (10000 : Nat) = 9999 + 1 from rfl, run_equalIn_agg w 9999 95 _ _ hS hp]
  simp only [Program.fieldsOf, Tryz.underlying95]
  go_simp
  subst hs
  by_cases h0 : y0 = z0 <;> by_cases h1 : y1 = z1 <;> simp [h0, h1]
  by_cases h2 : y2 = z2 <;> by_cases h3 : y3 = z3 <;> by_cases h4 : y4 = z4 <;> simp [h2, h3, h4]
set_option maxRecDepth 100000 in
set_option maxHeartbeats 2000000 in
theorem refSameMail_any (w : World) (v1 v2 : Value) (L M : List Ml) (h : Sl w v1 L) (g : Sl w v2 M) (t : Bool) (ht : decide (L = M) = t) :
    Calls Tryz.prog 56 #[v1, v2] w fun e w' => e = .returned (.bool t) ∧ Ext w w' := by
  obtain ⟨ao1, c1, rfl⟩ := h.len
  obtain ⟨ao2, c2, rfl⟩ := g.len
  have l1 := h.length_le
  have l2 := g.length_le
  have HS := Lib.hid h
  have HM := Lib.hid g
  have HE := Lib.hid ht
  clear h g ht
  by_cases e3 : L.length = M.length
  · have q3 : ((L.length : Int) != (M.length : Int)) = false := by simp [e3]
    have HL3 := Lib.hid e3
    clear e3
    go_enter Tryz.func56, Tryz.ntmps56
    go_wp2
    go_loopw [5] (fun i wr => ∃ k : Nat, k ≤ L.length ∧ i = .int .i64 k ∧ Hid (L.take k = M.take k) ∧ Hid (Ext w wr)) (fun i _ => L.length - (intOf i).toNat)
    case atStart => exact ⟨0, Nat.zero_le _, rfl, Lib.hid rfl, Lib.hid (Ext.refl _)⟩
    case round =>
      obtain ⟨k, hk, rfl, HQ, HX⟩ := hrel
      by_cases hlt : k < L.length
      · have hltM : k < M.length := by have := HL3.out; omega
        obtain ⟨b1, o1, y, _, hyk, rfl, hn, hnc, hc63, hb, hcell⟩ := HS.out.mailAt hlt
        obtain ⟨b2, o2, z, _, hzk, rfl, hn', hnc', hc63', hb', hcell'⟩ := HM.out.mailAt hltM
        have HCY : Hid (∀ V, Ext wr V → _) := Lib.hid fun V hV => hcell V (HX.out.trans hV)
        have HCZ : Hid (∀ V, Ext wr V → _) := Lib.hid fun V hV => hcell' V (HX.out.trans hV)
        have HN := Lib.hid (take_eqD hyk hzk)
        obtain ⟨s, hs⟩ : ∃ s, decide (y = z) = s := ⟨_, rfl⟩
        have HYZ := Lib.hid hs
        obtain ⟨y0, y1, y2, y3, y4⟩ := y
        obtain ⟨z0, z1, z2, z3, z4⟩ := z
        have HNQ := Lib.hid (neq_Ml y0 y1 y2 y3 y4 z0 z1 z2 z3 z4 s hs)
        clear hcell hcell' hyk hzk hn hn' hs
        dsimp only at HCY HCZ
        cases s
        all_goals
          go_wp2_with fail
          (refine wp_region_X_lit (K := fun W => Ext wr W) (by kernel_rfl) (fun w1 hw1 => ?_))
          have HX1 := Lib.hid (HX.out.trans hw1)
          have HW1 := Lib.hid hw1
          clear hw1
          refine xtv 0 (h := ?_)
          refine xtv 1 (h := ?_)
          refine xtv 2 (h := ?_)
          refine xtv 3 (hv := by intro w' hw'; obtain ⟨⟨a0, a1⟩, a2, a3, a4⟩ := HCY.out w' hw'; go_simp; first | done | with_reducible rfl) (h := ?_)
          refine xtv 4 (h := ?_)
          refine xtv 5 (h := ?_)
          refine xtv 6 (h := ?_)
          refine xtv 7 (hv := by intro w' hw'; obtain ⟨⟨a0, a1⟩, a2, a3, a4⟩ := HCZ.out w' hw'; go_simp; first | done | with_reducible rfl) (h := ?_)
          refine xtv 8 (hv := by intro w' hw'; obtain ⟨q1, q2⟩ := HNQ.out; go_simp; first | done | with_reducible rfl) (h := ?_)
          (refine xdone (by kernel_rfl) (HW1.out) ?_)
        · go_wp2
          go_ret
          exact ⟨ret_bool (by
            rw [← HE.out]
            exact (decide_eq_false fun e => of_decide_eq_false HYZ.out ((HN.out.1 (by rw [e])).2)).symm), HX1.out⟩
        · go_wp2
          go_roundw
          case rel => exact ⟨k + 1, by omega, by go_num, Lib.hid (HN.out.2 ⟨HQ.out, of_decide_eq_true HYZ.out⟩), HX1⟩
          case measure => simp [intOf]; omega
      · have hkl : k = L.length := by omega
        have HF : Hid (true = t) := Lib.hid (by
          have hq := HQ.out
          rw [hkl, List.take_length, HL3.out, List.take_length] at hq
          rw [← HE.out, decide_eq_true hq])
        go_wp2
        go_ret
        exact ⟨ret_bool HF.out, HX.out⟩
  · have q3 : ((L.length : Int) != (M.length : Int)) = true := by simp; omega
    have HF : Hid (false = t) := Lib.hid (by rw [← HE.out, decide_eq_false fun e => e3 (by rw [e])])
    clear e3
    go_enter Tryz.func56, Tryz.ntmps56
    go_wp2
    go_ret
    exact ⟨ret_bool HF.out, Ext.refl _⟩
theorem cells8U {w : World} {g : Nat} {u0 u1 u2 u3 u4 u5 u6 u7 : Value} {t : TypeId} (h : w.heap[g]? = some (.cells #[u0, u1, u2, u3, u4, u5, u6, u7] t (0, 0))) :
    ((w.cell? ⟨g, 0, none⟩ = some u0 ∧ w.cell? ⟨g, 1, none⟩ = some u1) ∧ w.cell? ⟨g, 2, none⟩ = some u2 ∧ w.cell? ⟨g, 3, none⟩ = some u3) ∧ (w.cell? ⟨g, 4, none⟩ = some u4 ∧ w.cell? ⟨g, 5, none⟩ = some u5) ∧ w.cell? ⟨g, 6, none⟩ = some u6 ∧ w.cell? ⟨g, 7, none⟩ = some u7 :=
  ⟨⟨⟨blk_cell h 0 rfl, blk_cell h 1 rfl⟩, blk_cell h 2 rfl, blk_cell h 3 rfl⟩, ⟨blk_cell h 4 rfl, blk_cell h 5 rfl⟩, blk_cell h 6 rfl, blk_cell h 7 rfl⟩
theorem keepU {w W : World} {g : Nat} {o : Obj} (h : w.heap[g]? = some o) (e : Ext w W) : W.heap[g]? = some o := (e.block _ (blk_lt h)).trans h
theorem owU {α : Type} [Elem α] {w w' : World} {B : Nat} {v : Value} {xs : List α} (h : Ow w B v xs) (hq : ∀ b, v.ownBlock = some b → w'.heap[b]? = w.heap[b]?) : Ow w' B v xs := by
  refine ⟨h.1, ?_⟩
  rcases h.2 with h2 | ⟨g, cap, cur, rfl, hg, hh, r⟩
  · exact .inl h2
  · exact .inr ⟨g, cap, cur, rfl, hg, (hq g rfl).trans hh, r⟩
theorem uDiner : ∃ fs, Tryz.prog.underlying 61 = some (.struct fs) := ⟨_, Tryz.underlying61⟩
theorem cellsOf_set {α : Type} [Elem α] : ∀ (xs : List α) (k : Nat) (x : α), k < xs.length → cellsOf (xs.set k x) = (cellsOf xs).take (k * Elem.k α) ++ Elem.enc x ++ (cellsOf xs).drop (k * Elem.k α + Elem.k α) := by
  intro xs k x hk
  rw [List.set_eq_take_append_cons_drop, if_pos hk, cellsOf_append, ← cellsOf_take, List.append_assoc]
  congr 1
  show Elem.enc x ++ cellsOf (xs.drop (k + 1)) = _
  rw [cellsOf_drop, Nat.succ_mul]
theorem Ow.setAt {α : Type} [Elem α] {w : World} {B : Nat} {ao : Option Addr} {n c k : Nat} {xs : List α} (h : Ow w B (.slice ao n c) xs) (hk : k < xs.length) (x : α) :
    ∃ g cur, ao = some ⟨g, 0, none⟩ ∧ B ≤ g ∧ n = xs.length ∧ n ≤ c ∧ c ≤ 9223372036854775807 ∧ w.heap[g]? = some (.cells cur (Elem.e α) (0, 0)) ∧ k * Elem.k α + Elem.k α ≤ cur.size ∧
      ∀ W, W.heap[g]? = some (.cells (cur.toList.take (k * Elem.k α) ++ Elem.enc x ++ cur.toList.drop (k * Elem.k α + Elem.k α)).toArray (Elem.e α) (0, 0)) → Ow W B (.slice ao n c) (xs.set k x) := by
  obtain ⟨h1, h2⟩ := h
  rcases h2 with ⟨h2, h3⟩ | ⟨g, cap, cur, hv, hg, hh, hnc, hc63, hsz, htk⟩
  · rw [h3] at hk; omega
  · simp only [Value.slice.injEq] at hv
    obtain ⟨rfl, rfl, rfl⟩ := hv
    have hpos : (k + 1) * Elem.k α ≤ xs.length * Elem.k α := Nat.mul_le_mul_right _ hk
    have hcap : xs.length * Elem.k α ≤ c * Elem.k α := Nat.mul_le_mul_right _ hnc
    have hk1 : (k + 1) * Elem.k α = k * Elem.k α + Elem.k α := Nat.succ_mul _ _
    have hle : (Elem.enc x).length = Elem.k α := Elem.len x
    have hcl : cur.toList.length = c * Elem.k α := by rw [Array.length_toList]; exact hsz
    have e1 : List.take (k * Elem.k α) (List.take (xs.length * Elem.k α) cur.toList) = List.take (k * Elem.k α) cur.toList := by rw [List.take_take, Nat.min_eq_left (by omega)]
    have e2 : List.drop (k * Elem.k α + Elem.k α) (List.take (xs.length * Elem.k α) cur.toList) = List.take (xs.length * Elem.k α - (k * Elem.k α + Elem.k α)) (List.drop (k * Elem.k α + Elem.k α) cur.toList) := List.drop_take ..
    have e3 : (List.take (k * Elem.k α) cur.toList ++ Elem.enc x).length = k * Elem.k α + Elem.k α := by rw [List.length_append, List.length_take, hle, hcl, Nat.min_eq_left (by omega)]
    refine ⟨g, cur, rfl, hg, rfl, hnc, hc63, hh, by omega, fun W hW => ⟨?_, .inr ⟨g, c, _, ?_, hg, hW, ?_, hc63, ?_, ?_⟩⟩⟩
    · rw [cellsOf_length, List.length_set]
    · rw [List.length_set]
    · rw [List.length_set]; exact hnc
    · rw [List.size_toArray, List.length_append, e3, List.length_drop, hcl]
      omega
    · rw [cellsOf_set xs k x hk, ← htk, List.length_set, e1, e2]
      show List.take _ (_ ++ List.drop _ _) = _
      rw [List.take_append, e3, List.take_of_length_le (by rw [e3]; omega)]
end Go.Proofs.YtfbambemjokmgaaGreat
namespace Go.Proofs.YtfbambemjokmgaaGreat
open Go.RowKit
theorem side_bits (id last : Int) (s : Sd) : sideD id last s = ((decide (last < s.peer) && (s.peer != id)) && ((decide (0 ≤ s.epoch) && decide (s.epoch ≤ 65535)) && (decide (0 ≤ s.state) && decide (s.state ≤ 3))) && !(s.dirty && !s.fork)) := by
  unfold sideD
  by_cases h : s.peer = id
  · simp [h]
  · have h2 : (s.peer != id) = true := by simp [h]
    rw [h2, decide_eq_true (show s.peer ≠ id from h)]
    simp only [Bool.true_and, Bool.and_true, Bool.and_assoc]
set_option maxRecDepth 100000 in
set_option maxHeartbeats 4000000 in
theorem faults_one (W : World) (g1 g2 : Nat) (la id : Int) (s : Sd) (h1 : W.heap[g1]? = some (.cells #[.int .i64 la] 3 (0, 0))) (h2 : W.heap[g2]? = some (.cells #[.int .i64 id] 3 (0, 0))) (t : Bool) (ht : sideD id la s = t) :
    Calls Tryz.prog 169 #[.agg s.cs, .pointer (some ⟨g1, 0, none⟩), .pointer (some ⟨g2, 0, none⟩)] W fun e W' => e = .returned (.bool (!t)) ∧ Off (fun k => k = g1) W W' ∧ W'.heap[g1]? = some (.cells #[.int .i64 s.peer] 3 (0, 0)) := by
  rw [side_bits] at ht
  obtain ⟨y0, y1, y2, y3, y4, y5, y6, y7⟩ := s
  unfold Sd.cs
  dsimp only at ht ⊢
  have HT := Lib.hid ht
  have HG1 := Lib.hid h1
  have HG2 := Lib.hid h2
  have hl1 := blk_lt h1
  have hl2 := blk_lt h2
  obtain ⟨W1, hW1⟩ : ∃ W1, W1 = W.alloc (.cells #[.int .i64 y0, .int .i64 y1, .int .i64 y2, .bool y3, .bool y4, .bool y5, .bool y6, .bool y7] 66) := ⟨_, rfl⟩
  have X1 : Hid (Ext W W1) := Lib.hid (hW1 ▸ (Ext.refl W).alloc _)
  have D1 : Hid (W1.heap[W.heap.size]? = some (.cells #[.int .i64 y0, .int .i64 y1, .int .i64 y2, .bool y3, .bool y4, .bool y5, .bool y6, .bool y7] 66 (0, 0))) := Lib.hid (hW1 ▸ at0 W _)
  have HW1 := Lib.hid hW1
  clear ht h1 h2 hW1
  go_enter Tryz.func169, Tryz.ntmps169
  go_upto_region 1 with (fail)
  rw [← HW1.out]
  obtain ⟨⟨⟨x0, x1⟩, x2, x3⟩, ⟨x4, x5⟩, x6, x7⟩ := cells8U D1.out
  have k1 := blk_cell (keepU HG1.out X1.out) 0 rfl
  have k2 := blk_cell (keepU HG2.out X1.out) 0 rfl
  go_cut [5] (fun s5 wx => ∃ b, s5 = .bool b ∧ W1 = wx ∧ Hid (b = (decide (la < y0) && (y0 != id))))
  case first =>
    by_cases e1 : la < y0
    · by_cases e2 : y0 = id
      · have t2 : (y0 != id) = false := by simp [e2]
        have HB : Hid (false = (decide (la < y0) && (y0 != id))) := Lib.hid (by rw [t2, Bool.and_false])
        clear e2
        go_wp2_with fail
        go_meet
        exact ⟨_, rfl, rfl, HB⟩
      · have t2 : (y0 != id) = true := by simp [e2]
        have HB : Hid (true = (decide (la < y0) && (y0 != id))) := Lib.hid (by rw [t2, decide_eq_true e1]; rfl)
        clear e2
        go_wp2_with fail
        go_meet
        exact ⟨_, rfl, rfl, HB⟩
    · have HB : Hid (false = (decide (la < y0) && (y0 != id))) := Lib.hid (by rw [decide_eq_false e1]; rfl)
      go_wp2_with fail
      go_meet
      exact ⟨_, rfl, rfl, HB⟩
  case rest =>
    obtain ⟨b5, rfl, rfl, HB5⟩ := hcut
    have fr := blk_free (keepU HG1.out X1.out) 0
    go_upto_region 3 with (fail)
    obtain ⟨W2, hW2⟩ : ∃ W2, W2 = W1.setCell ⟨g1, 0, none⟩ (.int .i64 y0) := ⟨_, rfl⟩
    rw [← hW2]
    have d2 : W2.heap[W.heap.size]? = some (.cells #[.int .i64 y0, .int .i64 y1, .int .i64 y2, .bool y3, .bool y4, .bool y5, .bool y6, .bool y7] 66 (0, 0)) := by rw [hW2, set_other _ _ _ _ (by show W.heap.size ≠ g1; omega)]; exact D1.out
    have G2 : Hid (W2.heap[g1]? = some (.cells #[.int .i64 y0] 3 (0, 0))) := Lib.hid (by rw [hW2, blk_set (keepU HG1.out X1.out)]; rfl)
    have O2 : Hid (Off (fun k => k = g1) W W2) := Lib.hid (hW2 ▸ (Off.of_ext X1.out).trans (off_set W1 ⟨g1, 0, none⟩ _) (Grows.refl _ _))
    clear hW2 x0 x1 x2 x3 x4 x5 x6 x7 k1 k2 fr
    obtain ⟨⟨⟨x0, x1⟩, x2, x3⟩, ⟨x4, x5⟩, x6, x7⟩ := cells8U d2
    clear d2
    go_cut [6] (fun s6 wx => ∃ b, s6 = .bool b ∧ W2 = wx ∧ Hid (b = ((decide (0 ≤ y1) && decide (y1 ≤ 65535)) && (decide (0 ≤ y2) && decide (y2 ≤ 3)))))
    case first =>
      by_cases e1 : 0 ≤ y1
      · by_cases e2 : y1 ≤ 65535
        · by_cases e3 : 0 ≤ y2
          · by_cases e4 : y2 ≤ 3
            · have HB : Hid (true = ((decide (0 ≤ y1) && decide (y1 ≤ 65535)) && (decide (0 ≤ y2) && decide (y2 ≤ 3)))) := Lib.hid (by rw [decide_eq_true e1, decide_eq_true e2, decide_eq_true e3, decide_eq_true e4]; rfl)
              go_wp2_with fail
              go_meet
              exact ⟨_, rfl, rfl, HB⟩
            · have HB : Hid (false = ((decide (0 ≤ y1) && decide (y1 ≤ 65535)) && (decide (0 ≤ y2) && decide (y2 ≤ 3)))) := Lib.hid (by rw [decide_eq_false e4]; simp)
              go_wp2_with fail
              go_meet
              exact ⟨_, rfl, rfl, HB⟩
          · have HB : Hid (false = ((decide (0 ≤ y1) && decide (y1 ≤ 65535)) && (decide (0 ≤ y2) && decide (y2 ≤ 3)))) := Lib.hid (by rw [decide_eq_false e3]; simp)
            go_wp2_with fail
            go_meet
            exact ⟨_, rfl, rfl, HB⟩
        · have HB : Hid (false = ((decide (0 ≤ y1) && decide (y1 ≤ 65535)) && (decide (0 ≤ y2) && decide (y2 ≤ 3)))) := Lib.hid (by rw [decide_eq_false e2]; simp)
          go_wp2_with fail
          go_meet
          exact ⟨_, rfl, rfl, HB⟩
      · have HB : Hid (false = ((decide (0 ≤ y1) && decide (y1 ≤ 65535)) && (decide (0 ≤ y2) && decide (y2 ≤ 3)))) := Lib.hid (by rw [decide_eq_false e1]; simp)
        go_wp2_with fail
        go_meet
        exact ⟨_, rfl, rfl, HB⟩
    case rest =>
      obtain ⟨b6, rfl, rfl, HB6⟩ := hcut
      have HF : Hid (t = (b5 && b6 && !(y4 && !y3))) := Lib.hid (by rw [← HT.out, HB5.out, HB6.out])
      clear HT HB5 HB6
      cases b5
      · go_wp2
        go_ret
        exact ⟨ret_bool (by rw [HF.out]; rfl), O2.out, G2.out⟩
      cases b6
      · go_wp2
        go_ret
        exact ⟨ret_bool (by rw [HF.out]; rfl), O2.out, G2.out⟩
      cases y4
      · go_wp2
        go_ret
        exact ⟨ret_bool (by rw [HF.out]; rfl), O2.out, G2.out⟩
      cases y3
      · go_wp2
        go_ret
        exact ⟨ret_bool (by rw [HF.out]; rfl), O2.out, G2.out⟩
      · go_wp2
        go_ret
        exact ⟨ret_bool (by rw [HF.out]; rfl), O2.out, G2.out⟩
set_option maxHeartbeats 1000000 in
theorem faults_any (W : World) (id : Int) : Calls Tryz.prog 143 #[.int .i64 id] W fun e W' => ∃ g1 g2, e = .returned (.func (.func 169) #[] #[.pointer (some ⟨g1, 0, none⟩), .pointer (some ⟨g2, 0, none⟩)]) ∧ W'.heap[g1]? = some (.cells #[.int .i64 (-1)] 3 (0, 0)) ∧ W'.heap[g2]? = some (.cells #[.int .i64 id] 3 (0, 0)) ∧ g1 ≠ g2 ∧ W.heap.size ≤ g1 ∧ Ext W W' := by
  have hmf : ∀ (fn : Fn) (first cap : Array Value) (w : World), (Instr.makeFunc fn first cap).run Tryz.prog w = .ok (.func fn first cap) w := fun _ _ _ _ => rfl
  have q2 := at1 W (.cells #[.int .i64 id] 3) (.cells #[.int .i64 0] 3)
  have f2 := blk_free q2 0
  clear q2
  go_enter Tryz.func143, Tryz.ntmps143
  go_wp2
  go_ret
  exact ⟨_, _, rfl, at1 W _ _, old1 (at0 W _) _, by omega, by omega, ((Ext.refl W).alloc _).alloc _⟩
def FirstAt (p : Nat → Sd → Bool) (L : List Sd) (r : Int) : Prop := (r = -1 ∧ ∀ k s, L[k]? = some s → p k s = false) ∨ ∃ (k : Nat) (s : Sd), r = (k : Int) ∧ L[k]? = some s ∧ p k s = true ∧ ∀ (j : Nat) (u : Sd), j < k → L[j]? = some u → p j u = false
set_option maxHeartbeats 1000000 in
theorem indexFunc_sd (w : World) (v : Value) (L : List Sd) (g : FuncId) (lb : Array Value) (I : Nat → World → Prop) (p : Nat → Sd → Bool) (eg : ∀ args w, (callFunc g args).run Tryz.prog w = .ok (.enter g args) w)
    (hI : ∀ k W, I k W → Sl W v L) (hs : ∀ k s W, L[k]? = some s → I k W → Calls Tryz.prog g (#[.agg s.cs] ++ lb) W fun e W' => e = .returned (.bool (p k s)) ∧ I (k + 1) W') (h0 : I 0 w) :
    Calls Tryz.prog 162 #[v, .func (.func g) #[] lb] w fun e w' => ∃ r : Int, e = .returned (.int .i64 r) ∧ FirstAt p L r ∧ ∃ k, I k w' := by
  obtain ⟨ao, c, rfl⟩ := (hI 0 w h0).len
  have hlen := (hI 0 w h0).length_le
  have HI := Lib.hid hI
  have HS := Lib.hid hs
  have H0 := Lib.hid h0
  clear hI hs h0
  go_enter Tryz.func162, Tryz.ntmps162
  go_wp2
  go_loopw [8] (fun i wr => ∃ k : Nat, k ≤ L.length ∧ i = .int .i64 k ∧ Hid (∀ (j : Nat) (u : Sd), j < k → L[j]? = some u → p j u = false) ∧ Hid (I k wr)) (fun i _ => L.length - (intOf i).toNat)
  case atStart => exact ⟨0, Nat.zero_le _, rfl, Lib.hid (fun j u hj => by omega), H0⟩
  case round =>
    obtain ⟨k, hk, rfl, HT, HX⟩ := hrel
    by_cases hlt : k < L.length
    · obtain ⟨b, off, y, _, hyk, rfl, hn, hnc, hc63, hb, hcell⟩ := (HI.out k wr HX.out).sidesAt hlt
      obtain ⟨⟨⟨x0, x1⟩, x2, x3⟩, ⟨x4, x5⟩, x6, x7⟩ := hcell wr (Ext.refl _)
      have HY := Lib.hid hyk
      obtain ⟨s, hs⟩ : ∃ s, p k y = s := ⟨_, rfl⟩
      have HH := Lib.hid (hs ▸ HS.out k y wr hyk HX.out)
      have HP := Lib.hid hs
      clear hs hcell hyk hn
      obtain ⟨y0, y1, y2, y3, y4, y5, y6, y7⟩ := y
      unfold Sd.cs at HH
      dsimp only at HH x0 x1 x2 x3 x4 x5 x6 x7
      cases s
      · go_wp2_with (go_at_fn g; refine HH.out.mono ?_; rintro e w1 ⟨rfl, hx⟩; have HX1 := Lib.hid hx; clear hx)
        go_roundw
        case rel => exact ⟨k + 1, by omega, by go_num, Lib.hid (fun j u hj hu => by
          rcases Nat.lt_or_ge j k with h | h
          · exact HT.out j u h hu
          · obtain rfl : j = k := by omega
            have := HY.out.symm.trans hu
            simp only [Option.some.injEq] at this
            rw [← this]; exact HP.out), HX1⟩
        case measure => simp [intOf]; omega
      · go_wp2_with (go_at_fn g; refine HH.out.mono ?_; rintro e w1 ⟨rfl, hx⟩; have HX1 := Lib.hid hx; clear hx)
        go_ret
        exact ⟨_, rfl, .inr ⟨k, _, rfl, HY.out, HP.out, HT.out⟩, k + 1, HX1.out⟩
    · have hkl : k = L.length := by omega
      go_wp2
      go_ret
      exact ⟨_, rfl, .inl ⟨rfl, fun j u hu => HT.out j u (by have := (List.getElem?_eq_some_iff.1 hu).1; omega) hu⟩, k, HX.out⟩
set_option maxHeartbeats 1000000 in
theorem containsFunc_sd (w : World) (v : Value) (L : List Sd) (g : FuncId) (lb : Array Value) (I : Nat → World → Prop) (p : Nat → Sd → Bool) (eg : ∀ args w, (callFunc g args).run Tryz.prog w = .ok (.enter g args) w)
    (hI : ∀ k W, I k W → Sl W v L) (hs : ∀ k s W, L[k]? = some s → I k W → Calls Tryz.prog g (#[.agg s.cs] ++ lb) W fun e W' => e = .returned (.bool (p k s)) ∧ I (k + 1) W') (h0 : I 0 w)
    (t : Bool) (h1 : (∀ k s, L[k]? = some s → p k s = false) → t = false) (h2 : ∀ (k : Nat) (s : Sd), L[k]? = some s → p k s = true → (∀ (j : Nat) (u : Sd), j < k → L[j]? = some u → p j u = false) → t = true) :
    Calls Tryz.prog 142 #[v, .func (.func g) #[] lb] w fun e w' => e = .returned (.bool t) ∧ ∃ k, I k w' := by
  have HC := Lib.hid (indexFunc_sd w v L g lb I p eg hI hs h0)
  have H1 := Lib.hid h1
  have H2 := Lib.hid h2
  clear hI hs h0 h1 h2 eg
  go_enter Tryz.func142, Tryz.ntmps142
  go_wp2_with (go_at_call 162; refine HC.out.mono ?_; rintro e w1 ⟨r, rfl, hr, hx⟩; have HR := Lib.hid hr; have HX := Lib.hid hx; clear hr hx)
  go_ret
  refine ⟨ret_bool ?_, HX.out⟩
  rcases HR.out with ⟨e, h⟩ | ⟨k, s, e, ha, hb, hc⟩
  · rw [H1.out h, e]; rfl
  · rw [H2.out k s ha hb hc, e]; simp
end Go.Proofs.YtfbambemjokmgaaGreat
namespace Go.Proofs.YtfbambemjokmgaaGreat
def fk (a b ep : Int) : Ml := ⟨a, b, 1, ep, 0⟩
def tk (a b ep : Int) : Ml := ⟨a, b, 2, ep, 0⟩
inductive E1 (a b ep : Int) (x y : Sd) (mab mba : List Ml) (pa pb : Int) : Prop
  | f1 (xf : x.fork = true) (xt : x.token = false) (yt : y.token = true) (m : mab = []) (n : mba = []) (hb : pb = 0)
  | f2 (xf : x.fork = true) (xt : x.token = true) (yt : y.token = false) (m : mab = []) (n : mba = []) (hb : pb = 1) (hc : x.dirty = true → pa = 2)
  | f3 (xf : x.fork = true) (xt : x.token = false) (yt : y.token = false) (m : mab = []) (n : mba = [tk b a ep]) (hb : pb = 1)
  | f4 (xf : x.fork = false) (xt : x.token = true) (yt : y.token = false) (m : mab = [fk a b ep]) (n : mba = []) (hb : pb = 1) (ha : pa = 0)
  | f5 (xf : x.fork = false) (xt : x.token = false) (yt : y.token = false) (m : mab = [fk a b ep, tk a b ep]) (n : mba = []) (hb : pb = 1) (ha : pa = 1)
inductive E1A (a b ep : Int) (x y : Sd) (mab mba : List Ml) (pa pb : Int) : Prop
  | f1 (xf : x.fork = true) (xt : x.token = false) (yt : y.token = true) (m : mab = []) (n : mba = []) (hb : pb = 0)
  | f2 (xf : x.fork = true) (xt : x.token = true) (yt : y.token = false) (m : mab = []) (n : mba = []) (hb : pb = 1)
  | f3 (xf : x.fork = true) (xt : x.token = false) (yt : y.token = false) (m : mab = []) (n : mba = [tk b a ep]) (hb : pb = 1)
  | f4 (xf : x.fork = false) (xt : x.token = true) (yt : y.token = false) (m : mab = [fk a b ep]) (n : mba = []) (hb : pb = 1) (ha : pa = 0 ∨ pa = 1)
  | f5 (xf : x.fork = false) (xt : x.token = false) (yt : y.token = false) (m : mab = [fk a b ep, tk a b ep]) (n : mba = []) (hb : pb = 1) (ha : pa = 1)
inductive E1B (a b ep : Int) (x y : Sd) (mab mba : List Ml) (pa pb : Int) : Prop
  | f1 (xf : x.fork = true) (xt : x.token = false) (yt : y.token = true) (m : mab = []) (n : mba = []) (hb : pb = 0 ∨ pb = 1)
  | f2 (xf : x.fork = true) (xt : x.token = true) (yt : y.token = false) (m : mab = []) (n : mba = []) (hb : pb = 1) (hc : x.dirty = true → pa = 2)
  | f3 (xf : x.fork = true) (xt : x.token = false) (yt : y.token = false) (m : mab = []) (n : mba = [tk b a ep]) (hb : pb = 1)
  | f4 (xf : x.fork = false) (xt : x.token = true) (yt : y.token = false) (m : mab = [fk a b ep]) (n : mba = []) (hb : pb = 1) (ha : pa = 0)
  | f5 (xf : x.fork = false) (xt : x.token = false) (yt : y.token = false) (m : mab = [fk a b ep, tk a b ep]) (n : mba = []) (hb : pb = 1) (ha : pa = 1)
structure Cl (x y : Sd) (pa : Int) : Prop where
  yf : y.fork = false
  yd : y.dirty = false
  xd : x.fork = false → x.dirty = false
  cl : x.fork = true → x.dirty = false → pa = 1
  ea : pa = 2 → x.fork = true ∧ x.dirty = true
structure EA (a b ep : Int) (x y : Sd) (mab mba : List Ml) (pa pb : Int) : Prop where
  st : E1 a b ep x y mab mba pa pb
  c : Cl x y pa
def EO (a b ep : Int) (x y : Sd) (mab mba : List Ml) (pa pb : Int) : Prop := EA a b ep x y mab mba pa pb ∨ EA b a ep y x mba mab pb pa
section
variable {a b ep : Int} {x y : Sd} {mab mba : List Ml} {pa pb : Int}
end
end Go.Proofs.YtfbambemjokmgaaGreat
namespace Go.Proofs.YtfbambemjokmgaaGreat
def WA (a b ep : Int) (x y : Sd) (mab mba : List Ml) (pa pb : Int) : Prop := (E1A a b ep x y mab mba pa pb ∧ Cl x y pa) ∨ (E1B b a ep y x mba mab pb pa ∧ Cl y x pb)
section
variable {a b ep : Int} {x y : Sd} {mab mba : List Ml} {pa pb : Int}
def ahd (x y : Sd) (mba : List Ml) : Bool := (x.fork && !x.dirty) || (y.fork && y.dirty) || (!x.fork && !y.fork && mba.any fun m => m.kind == 1)
def cnt (k : Int) (l : List Ml) : Nat := l.countP fun m => m.kind == k
end
end Go.Proofs.YtfbambemjokmgaaGreat
namespace Go.Proofs.YtfbambemjokmgaaGreat
def chan (l : List Ml) (i k : Int) : List Ml := l.filter fun m => m.from_ == i && m.to_ == k
theorem chan_app (l m : List Ml) (i k : Int) : chan (l ++ m) i k = chan l i k ++ chan m i k := List.filter_append ..
structure NB (n : Nat) (nb : Nat → List Nat) : Prop where
  up : ∀ i, (nb i).Pairwise (· < ·)
  back : ∀ i k, i < n → k ∈ nb i → k < n ∧ k ≠ i ∧ i ∈ nb k
def dsOf (n : Nat) (nb : Nat → List Nat) (X : Nat → Nat → Sd) (P : Nat → Int) : List Dn := (List.range n).map fun i : Nat => (⟨(i : Int), P i, (nb i).map (X i)⟩ : Dn)
structure TB (n : Nat) (nb : Nat → List Nat) (ep : Int) (X : Nat → Nat → Sd) (P : Nat → Int) (ms : List Ml) : Prop where
  pr : ∀ i k, i < n → k ∈ nb i → (X i k).peer = k ∧ (X i k).epoch = ep
  lv : ∀ i k, i < n → k ∈ nb i → (X i k).state = 0
  ph : ∀ i, i < n → P i = 0 ∨ P i = 1 ∨ P i = 2
  edge : ∀ i k, i < n → k ∈ nb i → EO i k ep (X i k) (X k i) (chan ms i k) (chan ms k i) (P i) (P k)
  calm : ∀ i, i < n → eats (P i) ((nb i).map (X i)) = false
  mail : ∀ m ∈ ms, ∃ i k : Nat, i < n ∧ k ∈ nb i ∧ m.from_ = i ∧ m.to_ = k
end Go.Proofs.YtfbambemjokmgaaGreat
namespace Go.Proofs.YtfbambemjokmgaaGreat
def updP (P : Nat → Int) (i : Nat) (p : Int) : Nat → Int := fun a => if a = i then p else P a
def updX (X : Nat → Nat → Sd) (i k : Nat) (s : Sd) : Nat → Nat → Sd := fun a b => if a = i ∧ b = k then s else X a b
section
variable {n : Nat} {nb : Nat → List Nat} {ep : Int} {X : Nat → Nat → Sd} {P : Nat → Int} {ms : List Ml} {i : Nat}
theorem chan_cut {l1 l2 : List Ml} {m : Ml} {a b : Int} (h : ¬ (m.from_ = a ∧ m.to_ = b)) : chan (l1 ++ m :: l2) a b = chan (l1 ++ l2) a b := by
  unfold chan
  rw [List.filter_append, List.filter_append, List.filter_cons, if_neg]
  intro e
  simp only [Bool.and_eq_true, beq_iff_eq] at e
  exact h e
theorem chan_first {l1 l2 : List Ml} {m : Ml} {a b : Int} (h : m.from_ = a ∧ m.to_ = b) (hno : ∀ x ∈ l1, ¬ (x.from_ = a ∧ x.to_ = b)) : chan (l1 ++ m :: l2) a b = m :: chan (l1 ++ l2) a b := by
  have e1 : l1.filter (fun m => m.from_ == a && m.to_ == b) = [] := by
    rw [List.filter_eq_nil_iff]
    intro x hx e
    simp only [Bool.and_eq_true, beq_iff_eq] at e
    exact hno x hx e
  unfold chan
  rw [List.filter_append, List.filter_append, List.filter_cons, e1, if_pos (by simp [h.1, h.2]), List.nil_append, List.nil_append]
def ah (X : Nat → Nat → Sd) (ms : List Ml) (i k : Nat) : Bool := ahd (X i k) (X k i) (chan ms k i)
def NoRound (n : Nat) (nb : Nat → List Nat) (X : Nat → Nat → Sd) (ms : List Ml) : Prop := ∃ r : Nat → Nat, ∀ a k, a < n → k ∈ nb a → ah X ms a k = true → r a < r k
theorem top_of (r : Nat → Nat) : ∀ n, ∃ t, ∀ a, a < n → r a < t
  | 0 => ⟨0, fun a h => by omega⟩
  | n + 1 => by
    obtain ⟨t, ht⟩ := top_of r n
    refine ⟨max t (r n + 1), fun a h => ?_⟩
    by_cases e : a = n
    · subst e; omega
    · have := ht a (by omega); omega
end
end Go.Proofs.YtfbambemjokmgaaGreat
namespace Go.Proofs.YtfbambemjokmgaaGreat
def pick (a b : Int) : List Ml → Option (List Ml × Ml × List Ml)
  | [] => none
  | m :: l => if m.from_ = a ∧ m.to_ = b then some ([], m, l) else (pick a b l).map fun x => (m :: x.1, x.2.1, x.2.2)
theorem pick_some {a b : Int} : ∀ {ms : List Ml} {l1 : List Ml} {m : Ml} {l2 : List Ml}, pick a b ms = some (l1, m, l2) → ms = l1 ++ m :: l2 ∧ (m.from_ = a ∧ m.to_ = b) ∧ ∀ x ∈ l1, ¬ (x.from_ = a ∧ x.to_ = b)
  | [], _, _, _, h => by cases h
  | y :: l, l1, m, l2, h => by
    unfold pick at h
    by_cases e : y.from_ = a ∧ y.to_ = b
    · rw [if_pos e] at h
      cases h
      exact ⟨rfl, e, fun x hx => by cases hx⟩
    · rw [if_neg e] at h
      cases hp : pick a b l with
      | none => rw [hp] at h; cases h
      | some t =>
        obtain ⟨u1, v, u2⟩ := t
        rw [hp] at h
        cases h
        obtain ⟨q1, q2, q3⟩ := pick_some hp
        refine ⟨by rw [q1]; rfl, q2, fun x hx => ?_⟩
        rcases List.mem_cons.1 hx with rfl | hx
        · exact e
        · exact q3 x hx
def noS : List Dn × List Ml := ([], [])
section
variable {n : Nat} {nb : Nat → List Nat} {ep : Int} {X : Nat → Nat → Sd} {P : Nat → Int} {ms : List Ml} {i : Nat}
theorem dsOf_len : (dsOf n nb X P).length = n := by unfold dsOf; rw [List.length_map, List.length_range]
def Good (n : Nat) (nb : Nat → List Nat) (ep : Int) (ds : List Dn) (ms : List Ml) : Prop := ∃ (X : Nat → Nat → Sd) (P : Nat → Int), ds = dsOf n nb X P ∧ TB n nb ep X P ms ∧ NoRound n nb X ms
def phN (n : Nat) (P : Nat → Int) (p : Int) : List Nat := (List.range n).filter fun i => P i == p
theorem mem_phN {p : Int} : i ∈ phN n P p ↔ i < n ∧ P i = p := by
  unfold phN
  rw [List.mem_filter, List.mem_range]
  simp
theorem phN_nodup (n : Nat) (P : Nat → Int) (p : Int) : (phN n P p).Nodup := List.Nodup.sublist List.filter_sublist List.nodup_range
end
end Go.Proofs.YtfbambemjokmgaaGreat
