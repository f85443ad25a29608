/- Layer 12, the program: whether a piece of mail is among others; whether two rows of sides are the same. -/
import Derived.Test.YtpnnnbjjoimalaaPPs
import Derived.Test.YtpnnnbjjoimalaaME
import Derived.Test.YtpnnnbjjoimalaaMDR
import Derived.Laws.StructEq
namespace Go.Proofs.Ytpnnnbjjoimalaa
open Go.RowKit

def Ml.val (y : Ml) : Value := .agg #[.int .i64 y.from_, .int .i64 y.to_, .int .i64 y.kind, .int .i64 y.epoch, .int .i64 y.num]
theorem eq_Ml (y0 y1 y2 y3 y4 z0 z1 z2 z3 z4 : Int) (s : Bool) (hs : decide ((⟨y0, y1, y2, y3, y4⟩ : Ml) = ⟨z0, z1, z2, z3, z4⟩) = s) :
    (∀ w : World, (binOp .eql 96 (.agg #[.int .i64 y0, .int .i64 y1, .int .i64 y2, .int .i64 y3, .int .i64 y4]) (.agg #[.int .i64 z0, .int .i64 z1, .int .i64 z2, .int .i64 z3, .int .i64 z4])).run Try.prog w = .ok (.bool s) w) ∧ ∀ (a b : Operand) (w : World), (eqGuard .eql 96 a b (.agg #[.int .i64 y0, .int .i64 y1, .int .i64 y2, .int .i64 y3, .int .i64 y4]) (.agg #[.int .i64 z0, .int .i64 z1, .int .i64 z2, .int .i64 z3, .int .i64 z4])).run Try.prog w = .ok () w := by
  refine ⟨fun w => ?_, fun a b w => run_eqGuard_agg w _ _ a b _ _ (by kernel_rfl)⟩
  have u3 := Try.underlying3
  have a3 := Try.isAgg3
  have z3' := Try.sizeOf3
  have uK := Try.underlying91
  have aK := Try.isAgg91
  have zK := Try.sizeOf91
  have aM := Try.isAgg93
  have zM := Try.sizeOf93
  have hS : Try.prog.underlying 96 = some (.struct (Try.prog.fieldsOf 96)) := by kernel_rfl
  have hp : Try.prog.stoodInHeld 96 = false := by kernel_rfl
  have hS2 : Try.prog.underlying 93 = some (.struct (Try.prog.fieldsOf 93)) := by kernel_rfl
  have hp2 : Try.prog.stoodInHeld 93 = false := by kernel_rfl
  have hq : ∀ (w : World) (b0 b1 b2 c0 c1 c2 : Int), (Op.equalIn 9999 93 (.agg #[.int .i64 b0, .int .i64 b1, .int .i64 b2]) (.agg #[.int .i64 c0, .int .i64 c1, .int .i64 c2])).run Try.prog w = .ok (decide (b0 = c0) && decide (b1 = c1) && decide (b2 = c2)) w := by
    intro w b0 b1 b2 c0 c1 c2
    rw [show (9999 : Nat) = 9998 + 1 from rfl, run_equalIn_agg w 9998 93 _ _ hS2 hp2]
    simp only [Program.fieldsOf, Try.underlying93]
    go_simp
    by_cases h0 : b0 = c0 <;> by_cases h1 : b1 = c1 <;> by_cases h2 : b2 = c2 <;> simp [h0, h1, h2]
  rw [run_eql_struct, show (10000 : Nat) = 9999 + 1 from rfl, run_equalIn_agg w 9999 96 _ _ hS hp]
  simp only [Program.fieldsOf, Try.underlying96]
  go_simp
  subst hs
  by_cases h0 : y0 = z0 <;> by_cases h1 : y1 = z1 <;> simp [h0, h1]
  by_cases h2 : y2 = z2 <;> by_cases h3 : y3 = z3 <;> by_cases h4 : y4 = z4 <;> simp [h2, h3, h4]

theorem take_nextD {α : Type} {xs : List α} {k : Nat} {y : α} (h : xs[k]? = some y) : xs.take (k + 1) = xs.take k ++ [y] := by
  have hk := (List.getElem?_eq_some_iff.1 h).1
  rw [List.take_succ_eq_append_getElem hk, (List.getElem?_eq_some_iff.1 h).2]

set_option maxRecDepth 100000 in
set_option maxHeartbeats 2000000 in
theorem index_ml (w : World) (v : Value) (L : List Ml) (x : Ml) (h : Sl w v L) : Calls Try.prog 82 #[v, .agg #[.int .i64 x.from_, .int .i64 x.to_, .int .i64 x.kind, .int .i64 x.epoch, .int .i64 x.num]] w fun e w' => ∃ r : Int, e = .returned (.int .i64 r) ∧ decide (0 ≤ r) = decide (x ∈ L) ∧ Ext w w' := by
  obtain ⟨ao, c, rfl⟩ := h.len
  have HS := Lib.hid h
  have hlen := h.length_le
  obtain ⟨x0, x1, x2, x3, x4⟩ := x
  have HK : Hid (∀ V, Ext (w.alloc (.cells #[.int .i64 x0, .int .i64 x1, .int .i64 x2, .int .i64 x3, .int .i64 x4] 96)) V → V.cell? ⟨w.heap.size, 0, none⟩ = some (.int .i64 x0) ∧ V.cell? ⟨w.heap.size, 1, none⟩ = some (.int .i64 x1) ∧ V.cell? ⟨w.heap.size, 2, none⟩ = some (.int .i64 x2) ∧ V.cell? ⟨w.heap.size, 3, none⟩ = some (.int .i64 x3) ∧ V.cell? ⟨w.heap.size, 4, none⟩ = some (.int .i64 x4)) := Lib.hid fun V hV => ⟨cell_atD V hV rfl, cell_atD V hV rfl, cell_atD V hV rfl, cell_atD V hV rfl, cell_atD V hV rfl⟩
  have HX0 : Hid (Ext w (w.alloc (.cells #[.int .i64 x0, .int .i64 x1, .int .i64 x2, .int .i64 x3, .int .i64 x4] 96))) := Lib.hid ((Ext.refl w).alloc _)
  clear h
  go_enter Try.func82, Try.ntmps82
  go_wp2
  go_loopw [8] (fun i wr => ∃ k : Nat, k ≤ L.length ∧ i = .int .i64 k ∧ Hid ((⟨x0, x1, x2, x3, x4⟩ : Ml) ∉ L.take k) ∧ Hid (Ext (w.alloc (.cells #[.int .i64 x0, .int .i64 x1, .int .i64 x2, .int .i64 x3, .int .i64 x4] 96)) wr)) (fun i _ => L.length - (intOf i).toNat)
  case atStart => exact ⟨0, Nat.zero_le _, rfl, Lib.hid (by simp), Lib.hid (Ext.refl _)⟩
  case round =>
    obtain ⟨k, hk, rfl, HT, HX⟩ := hrel
    by_cases hlt : k < L.length
    · obtain ⟨b, off, y, _, hyk, rfl, hn, hnc, hc63, hb, hcell⟩ := HS.out.mailAt hlt
      have HCY : Hid (∀ V, Ext wr V → (V.cell? ⟨b, off + k * 5, none⟩ = some (.int .i64 y.from_) ∧ V.cell? ⟨b, off + k * 5 + 1, none⟩ = some (.int .i64 y.to_)) ∧ V.cell? ⟨b, off + k * 5 + 2, none⟩ = some (.int .i64 y.kind) ∧ V.cell? ⟨b, off + k * 5 + 3, none⟩ = some (.int .i64 y.epoch) ∧ V.cell? ⟨b, off + k * 5 + 4, none⟩ = some (.int .i64 y.num)) := Lib.hid fun V hV => hcell V (HX0.out.trans (HX.out.trans hV))
      have HBX := Lib.hid (fun (V : World) (hV : Ext wr V) => HK.out V (HX.out.trans hV))
      have HN := Lib.hid (take_nextD hyk)
      have HM : Hid (y ∈ L) := Lib.hid (List.mem_of_getElem? hyk)
      obtain ⟨y0, y1, y2, y3, y4⟩ := y
      obtain ⟨s, hs⟩ : ∃ s, decide ((⟨x0, x1, x2, x3, x4⟩ : Ml) = ⟨y0, y1, y2, y3, y4⟩) = s := ⟨_, rfl⟩
      have HNQ := Lib.hid (eq_Ml x0 x1 x2 x3 x4 y0 y1 y2 y3 y4 s hs)
      have HYZ := Lib.hid hs
      dsimp only at HCY
      clear hcell hyk hn hs
      cases s
      all_goals
        go_wp2_with fail
        (refine wp_region_X_lit (K := fun W => Ext wr W) (by kernel_rfl) (fun w1 hw1 => ?_))
        have HX1 := Lib.hid (HX.out.trans hw1)
        have HW1 := Lib.hid hw1
        clear hw1
        refine xtv 0 (hv := by intro w' hw'; obtain ⟨a0, a1, a2, a3, a4⟩ := HBX.out w' hw'; go_simp; first | done | with_reducible rfl) (h := ?_)
        refine xtv 1 (h := ?_)
        refine xtv 2 (h := ?_)
        refine xtv 3 (h := ?_)
        refine xtv 4 (hv := by intro w' hw'; obtain ⟨⟨a0, a1⟩, a2, a3, a4⟩ := HCY.out w' hw'; go_simp; first | done | with_reducible rfl) (h := ?_)
        refine xtv 5 (hv := by intro w' hw'; obtain ⟨q1, q2⟩ := HNQ.out; go_simp; first | done | with_reducible rfl) (h := ?_)
        (refine xdone (by kernel_rfl) (HW1.out) ?_)
      · go_wp2
        go_roundw
        case rel => exact ⟨k + 1, by omega, by go_num, Lib.hid (by rw [HN.out]; simp only [List.mem_append, List.mem_singleton]; exact fun e => e.elim HT.out (of_decide_eq_false HYZ.out)), HX1⟩
        case measure => simp [intOf]; omega
      · go_wp2
        go_ret
        exact ⟨_, rfl, by rw [of_decide_eq_true HYZ.out, decide_eq_true HM.out]; simp, HX0.out.trans HX1.out⟩
    · have hkl : k = L.length := by omega
      have HF : Hid ((⟨x0, x1, x2, x3, x4⟩ : Ml) ∉ L) := Lib.hid (by have := HT.out; rwa [hkl, List.take_length] at this)
      go_wp2
      go_ret
      exact ⟨_, rfl, by rw [decide_eq_false HF.out]; rfl, HX0.out.trans HX.out⟩

set_option maxRecDepth 100000 in
theorem contains_ml (w : World) (v : Value) (L : List Ml) (x : Ml) (h : Sl w v L) (r : Bool) (hr : decide (x ∈ L) = r) : Calls Try.prog 73 #[v, .agg #[.int .i64 x.from_, .int .i64 x.to_, .int .i64 x.kind, .int .i64 x.epoch, .int .i64 x.num]] w fun e w' => e = .returned (.bool r) ∧ Ext w w' := by
  have HR := Lib.hid hr
  have HS := Lib.hid h
  clear h hr
  obtain ⟨x0, x1, x2, x3, x4⟩ := x
  have HX0 : Hid (Ext w (w.alloc (.cells #[.int .i64 x0, .int .i64 x1, .int .i64 x2, .int .i64 x3, .int .i64 x4] 96))) := Lib.hid ((Ext.refl w).alloc _)
  go_enter Try.func73, Try.ntmps73
  go_wp2_with (go_at_call 82; refine (index_ml _ _ L ⟨x0, x1, x2, x3, x4⟩ (HS.out.ext HX0.out)).mono ?_; rintro e w1 ⟨r1, rfl, hr1, hx⟩; have HR1 := Lib.hid hr1; have HX := Lib.hid (HX0.out.trans hx); clear hr1 hx)
  go_ret
  exact ⟨ret_bool (HR1.out.trans HR.out), HX.out⟩

set_option maxRecDepth 100000 in
set_option maxHeartbeats 2000000 in
theorem equal_sd (w : World) (v1 v2 : Value) (L M : List Sd) (h : Sl w v1 L) (g : Sl w v2 M) (t : Bool) (ht : decide (L = M) = t) :
    Calls Try.prog 42 #[v1, v2] w fun e w' => e = .returned (.bool t) ∧ Ext w w' := by
  obtain ⟨ao1, c1, rfl⟩ := h.len
  obtain ⟨ao2, c2, rfl⟩ := g.len
  have l1 := h.length_le
  have l2 := g.length_le
  have HS := Lib.hid h
  have HM := Lib.hid g
  have HE := Lib.hid ht
  clear h g ht
  by_cases e3 : L.length = M.length
  · have q3 : ((L.length : Int) != (M.length : Int)) = false := by simp [e3]
    have HL3 := Lib.hid e3
    clear e3
    go_enter Try.func42, Try.ntmps42
    go_wp2
    go_loopw [13] (fun i wr => ∃ k : Nat, k ≤ L.length ∧ i = .int .i64 k ∧ Hid (L.take k = M.take k) ∧ Hid (Ext w wr)) (fun i _ => L.length - (intOf i).toNat)
    case atStart => exact ⟨0, Nat.zero_le _, rfl, Lib.hid rfl, Lib.hid (Ext.refl _)⟩
    case round =>
      obtain ⟨k, hk, rfl, HQ, HX⟩ := hrel
      by_cases hlt : k < L.length
      · have hltM : k < M.length := by have := HL3.out; omega
        obtain ⟨b1, o1, y, _, hyk, rfl, hn, hnc, hc63, hb, hcell⟩ := HS.out.sidesAt hlt
        obtain ⟨b2, o2, z, _, hzk, rfl, hn', hnc', hc63', hb', hcell'⟩ := HM.out.sidesAt hltM
        have HCY : Hid (∀ V, Ext wr V → _) := Lib.hid fun V hV => hcell V (HX.out.trans hV)
        have HCZ : Hid (∀ V, Ext wr V → _) := Lib.hid fun V hV => hcell' V (HX.out.trans hV)
        have HN := Lib.hid (take_eqD hyk hzk)
        obtain ⟨s, hs⟩ : ∃ s, decide (y = z) = s := ⟨_, rfl⟩
        have HNQ := Lib.hid (neq_Sd y z s hs)
        have HYZ := Lib.hid hs
        clear hcell hcell' hyk hzk hn hn' hs
        obtain ⟨y0, y1, y2, y3, y4, y5, y6, y7⟩ := y
        obtain ⟨z0, z1, z2, z3, z4, z5, z6, z7⟩ := z
        dsimp only at HCY HCZ
        cases s
        all_goals
          go_wp2_with fail
          (refine wp_region_X_lit (K := fun W => Ext wr W) (by kernel_rfl) (fun w1 hw1 => ?_))
          have HX1 := Lib.hid (HX.out.trans hw1)
          have HW1 := Lib.hid hw1
          clear hw1
          refine xtv 0 (h := ?_)
          refine xtv 1 (h := ?_)
          refine xtv 2 (h := ?_)
          refine xtv 3 (hv := by intro w' hw'; obtain ⟨⟨⟨a0, a1⟩, a2, a3⟩, ⟨a4, a5⟩, a6, a7⟩ := HCY.out w' hw'; go_simp; first | done | with_reducible rfl) (h := ?_)
          refine xtv 4 (h := ?_)
          refine xtv 5 (h := ?_)
          refine xtv 6 (h := ?_)
          refine xtv 7 (hv := by intro w' hw'; obtain ⟨⟨⟨a0, a1⟩, a2, a3⟩, ⟨a4, a5⟩, a6, a7⟩ := HCZ.out w' hw'; go_simp; first | done | with_reducible rfl) (h := ?_)
          refine xtv 8 (hv := by intro w' hw'; obtain ⟨q1, q2⟩ := HNQ.out; go_simp; first | done | with_reducible rfl) (h := ?_)
          (refine xdone (by kernel_rfl) (HW1.out) ?_)
        · go_wp2
          go_ret
          exact ⟨ret_bool (by
            rw [← HE.out]
            exact (decide_eq_false fun e => of_decide_eq_false HYZ.out ((HN.out.1 (by rw [e])).2)).symm), HX1.out⟩
        · go_wp2
          go_roundw
          case rel => exact ⟨k + 1, by omega, by go_num, Lib.hid (HN.out.2 ⟨HQ.out, of_decide_eq_true HYZ.out⟩), HX1⟩
          case measure => simp [intOf]; omega
      · have hkl : k = L.length := by omega
        have HF : Hid (true = t) := Lib.hid (by
          have hq := HQ.out
          rw [hkl, List.take_length, HL3.out, List.take_length] at hq
          rw [← HE.out, decide_eq_true hq])
        go_wp2
        go_ret
        exact ⟨ret_bool HF.out, HX.out⟩
  · have q3 : ((L.length : Int) != (M.length : Int)) = true := by simp; omega
    have HF : Hid (false = t) := Lib.hid (by rw [← HE.out, decide_eq_false fun e => e3 (by rw [e])])
    clear e3
    go_enter Try.func42, Try.ntmps42
    go_wp2
    go_ret
    exact ⟨ret_bool HF.out, Ext.refl _⟩

end Go.Proofs.Ytpnnnbjjoimalaa
