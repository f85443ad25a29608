/- What is told of arcs; whether an arc is among others. -/
import Derived.Test.YtpnnnbjjoimalaaElem4V
import Derived.Test.YtpnnnbjjoimalaaP4
import Derived.Test.YtpnnnbjjoimalaaYR
import Derived.Shelf.Abstract
import Derived.Deep.RegionHeld3
import Derived.IntWalk
namespace Go.Proofs.Ytpnnnbjjoimalaa
open Go.RowKit

theorem Sl.arcsAt {w : World} {ao : Option Addr} {n c : Nat} {E : List Arc} (h : Sl w (.slice ao n c) E) {k : Nat} (hk : k < E.length) :
    ∃ b off, ao = some ⟨b, off, none⟩ ∧ n = E.length ∧ n ≤ c ∧ c ≤ 9223372036854775807 ∧ b < w.heap.size ∧ w.cell? ⟨b, off + k * 2, none⟩ = some (.int .i64 (E.getD k ⟨0, 0⟩).a) ∧ w.cell? ⟨b, off + k * 2 + 1, none⟩ = some (.int .i64 (E.getD k ⟨0, 0⟩).b) := by
  rcases h.arcs with ⟨rfl, _⟩ | ⟨b, off, c', hv, h1, h2, h3, _, h4⟩
  · simp at hk
  · simp only [Value.slice.injEq] at hv
    obtain ⟨rfl, rfl, rfl⟩ := hv
    exact ⟨b, off, rfl, rfl, h1, h2, h3, (h4 k hk).1, (h4 k hk).2⟩
theorem eq_a (ya yb za zb : Int) (s : Bool) (hs : decide ((⟨ya, yb⟩ : Arc) = ⟨za, zb⟩) = s) :
    (∀ w : World, (binOp .eql 60 (.agg #[.int .i64 ya, .int .i64 yb]) (.agg #[.int .i64 za, .int .i64 zb])).run Try.prog w = .ok (.bool (s)) w) ∧ ∀ (a b : Operand) (w : World), (eqGuard .eql 60 a b (.agg #[.int .i64 ya, .int .i64 yb]) (.agg #[.int .i64 za, .int .i64 zb])).run Try.prog w = .ok () w := by
  refine ⟨fun w => ?_, fun a b w => run_eqGuard_agg w _ _ a b _ _ (by kernel_rfl)⟩
  have u3 := Try.underlying3
  have a3 := Try.isAgg3
  have z3 := Try.sizeOf3
  have hS : Try.prog.underlying 60 = some (.struct (Try.prog.fieldsOf 60)) := by kernel_rfl
  have hp : Try.prog.stoodInHeld 60 = false := by kernel_rfl
  rw [run_eql_struct, show (10000 : Nat) = 9999 + 1 from rfl, run_equalIn_agg w 9999 60 _ _ hS hp]
  simp only [Program.fieldsOf, Try.underlying60]
  go_simp
  subst hs
  by_cases h0 : ya = za <;> by_cases h1 : yb = zb <;> simp [h0, h1]

theorem neq_a (ya yb za zb : Int) (s : Bool) (hs : decide ((⟨ya, yb⟩ : Arc) = ⟨za, zb⟩) = s) :
    (∀ w : World, (binOp .neq 60 (.agg #[.int .i64 ya, .int .i64 yb]) (.agg #[.int .i64 za, .int .i64 zb])).run Try.prog w = .ok (.bool (!s)) w) ∧ ∀ (a b : Operand) (w : World), (eqGuard .neq 60 a b (.agg #[.int .i64 ya, .int .i64 yb]) (.agg #[.int .i64 za, .int .i64 zb])).run Try.prog w = .ok () w := by
  refine ⟨fun w => ?_, fun a b w => run_eqGuard_agg w _ _ a b _ _ (by kernel_rfl)⟩
  have u3 := Try.underlying3
  have a3 := Try.isAgg3
  have z3 := Try.sizeOf3
  have hS : Try.prog.underlying 60 = some (.struct (Try.prog.fieldsOf 60)) := by kernel_rfl
  have hp : Try.prog.stoodInHeld 60 = false := by kernel_rfl
  rw [run_neq_struct, show (10000 : Nat) = 9999 + 1 from rfl, run_equalIn_agg w 9999 60 _ _ hS hp]
  simp only [Program.fieldsOf, Try.underlying60]
  go_simp
  subst hs
  by_cases h0 : ya = za <;> by_cases h1 : yb = zb <;> simp [h0, h1]

set_option maxHeartbeats 1000000 in
theorem index_a (w : World) (v : Value) (E : List Arc) (xa xb : Int) (h : Sl w v E) : Calls Try.prog 83 #[v, .agg #[.int .i64 xa, .int .i64 xb]] w fun e w' => ∃ r : Int, e = .returned (.int .i64 r) ∧ decide (0 ≤ r) = decide ((⟨xa, xb⟩ : Arc) ∈ E) ∧ Ext w w' := by
  rcases Sl.arcs h with ⟨rfl, ao, c, rfl⟩ | ⟨b, off, c, rfl, hc, hc63, hb, hpos, hcell⟩
  · go_enter Try.func83, Try.ntmps83
    go_wp2
    refine wp_loop_rounds 1 ?_
    rw [rounds_succ]
    go_wp2
    go_ret
    exact ⟨_, rfl, by simp, (by repeat (first | exact Ext.refl _ | assumption | refine Ext.alloc ?_ _ | refine Ext.drew ?_ | refine Ext.drewN ?_ _))⟩
  · have HC := Lib.hid hcell
    clear hcell h
    have HG : Hid (∀ W, Ext (w.alloc (.cells #[.int .i64 xa, .int .i64 xb] 60)) W → W.cell? ⟨w.heap.size, 0, none⟩ = some (.int .i64 xa) ∧ W.cell? ⟨w.heap.size, 1, none⟩ = some (.int .i64 xb)) := Lib.hid fun W hW => ⟨cell_at W hW rfl, cell_at W hW rfl⟩
    go_enter Try.func83, Try.ntmps83
    go_wp2
    go_loopw [8] (fun i wr => ∃ k : Nat, k ≤ E.length ∧ i = .int .i64 k ∧ Hid ((⟨xa, xb⟩ : Arc) ∉ E.take k) ∧ Hid (Ext (w.alloc (.cells #[.int .i64 xa, .int .i64 xb] 60)) wr)) (fun i _ => E.length - (intOf i).toNat)
    case atStart => exact ⟨0, Nat.zero_le _, rfl, Lib.hid (by simp), Lib.hid (Ext.refl _)⟩
    case round =>
      obtain ⟨k, hk, rfl, HT, HX⟩ := hrel
      by_cases hlt : k < E.length
      · obtain ⟨⟨ya, yb⟩, hy⟩ : ∃ y, y = E.getD k ⟨0, 0⟩ := ⟨_, rfl⟩
        have HN : Hid (E.take (k + 1) = E.take k ++ [⟨ya, yb⟩]) := Lib.hid (by rw [take_next hlt ⟨0, 0⟩, ← hy])
        have HM : Hid (⟨ya, yb⟩ ∈ E) := Lib.hid (hy ▸ by rw [List.getD_eq_getElem?_getD, List.getElem?_eq_getElem hlt]; simp)
        have HK : Hid (∀ W, Ext wr W → W.cell? ⟨b, off + k * 2, none⟩ = some (.int .i64 ya) ∧ W.cell? ⟨b, off + k * 2 + 1, none⟩ = some (.int .i64 yb) ∧ W.cell? ⟨w.heap.size, 0, none⟩ = some (.int .i64 xa) ∧ W.cell? ⟨w.heap.size, 1, none⟩ = some (.int .i64 xb)) := Lib.hid fun W hW => by
          have X := ((Ext.refl w).alloc _).trans (HX.out.trans hW)
          have c1 := HC.out k hlt
          rw [← hy] at c1
          obtain ⟨ga, gb⟩ := HG.out W (HX.out.trans hW)
          exact ⟨(X.cell (p := ⟨b, off + k * 2, none⟩) hb).trans c1.1, (X.cell (p := ⟨b, off + k * 2 + 1, none⟩) hb).trans c1.2, ga, gb⟩
        clear hy
        obtain ⟨s, hs⟩ : ∃ s, decide ((⟨xa, xb⟩ : Arc) = ⟨ya, yb⟩) = s := ⟨_, rfl⟩
        have HQ := Lib.hid (eq_a xa xb ya yb s hs)
        have HB := Lib.hid hs
        clear hs
        cases s
        all_goals
          obtain ⟨hq, hq2⟩ := HQ.out
          go_wp2_with fail
          go_region_held3 (fun W => W.cell? ⟨b, off + k * 2, none⟩ = some (.int .i64 ya) ∧ W.cell? ⟨b, off + k * 2 + 1, none⟩ = some (.int .i64 yb) ∧ W.cell? ⟨w.heap.size, 0, none⟩ = some (.int .i64 xa) ∧ W.cell? ⟨w.heap.size, 1, none⟩ = some (.int .i64 xb)) (exact HK.out _ (by repeat (first | exact Ext.refl _ | assumption | refine Ext.alloc ?_ _ | refine Ext.drew ?_ | refine Ext.drewN ?_ _))) (fail)
          go_wp2
        · go_roundw
          case rel => exact ⟨k + 1, by omega, by go_num, Lib.hid (by rw [HN.out]; simp only [List.mem_append, List.mem_singleton]; exact fun e => e.elim HT.out (of_decide_eq_false HB.out)), Lib.hid (by first | exact HX.out.drew | exact HX.out.drewN _ | exact HX.out)⟩
          case measure => simp [intOf]; omega
        · go_ret
          exact ⟨_, rfl, by rw [of_decide_eq_true HB.out, decide_eq_true HM.out]; simp, Ext.trans ((Ext.refl w).alloc _) (by first | exact HX.out.drew | exact HX.out.drewN _ | exact HX.out)⟩
      · have hkl : k = E.length := by omega
        go_wp2
        go_ret
        exact ⟨_, rfl, by have := HT.out; rw [hkl, List.take_length] at this; rw [decide_eq_false this]; rfl, Ext.trans ((Ext.refl w).alloc _) HX.out⟩

theorem contains_a (w : World) (v : Value) (E : List Arc) (xa xb : Int) (h : Sl w v E) (r : Bool) (hr : decide ((⟨xa, xb⟩ : Arc) ∈ E) = r) : Calls Try.prog 76 #[v, .agg #[.int .i64 xa, .int .i64 xb]] w fun e w' => e = .returned (.bool r) ∧ Ext w w' := by
  have HR := Lib.hid hr
  have HS := Lib.hid h
  clear h hr
  go_enter Try.func76, Try.ntmps76
  go_wp2_with (go_at_call 83; refine (index_a _ _ E xa xb (HS.out.ext (by repeat (first | exact Ext.refl _ | assumption | refine Ext.alloc ?_ _ | refine Ext.drew ?_ | refine Ext.drewN ?_ _)))).mono ?_; rintro e w1 ⟨r1, rfl, hr1, hx⟩; have HR1 := Lib.hid hr1; have HX := Lib.hid (Ext.trans (by exact (by repeat (first | exact Ext.refl _ | assumption | refine Ext.alloc ?_ _ | refine Ext.drew ?_ | refine Ext.drewN ?_ _))) hx); clear hr1 hx)
  go_ret
  exact ⟨ret_bool (HR1.out.trans HR.out), Ext.trans ((Ext.refl w).alloc _) HX.out⟩

end Go.Proofs.Ytpnnnbjjoimalaa
