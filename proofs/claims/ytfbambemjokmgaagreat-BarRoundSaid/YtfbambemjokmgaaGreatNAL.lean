/- Texts of this seat. -/
import Derived.StillTailTactics
import Derived.Lib.RowBridge
import Derived.Test.YtfbambemjokmgaaGreatNAE
namespace Go.Proofs.YtfbambemjokmgaaGreat
open Go.RowKit
theorem Sl.arcsAt {w : World} {ao : Option Addr} {n c : Nat} {E : List Arc} (h : Sl w (.slice ao n c) E) {k : Nat} (hk : k < E.length) :
    ∃ b off, ao = some ⟨b, off, none⟩ ∧ n = E.length ∧ n ≤ c ∧ c ≤ 9223372036854775807 ∧ b < w.heap.size ∧ w.cell? ⟨b, off + k * 2, none⟩ = some (.int .i64 (E.getD k ⟨0, 0⟩).a) ∧ w.cell? ⟨b, off + k * 2 + 1, none⟩ = some (.int .i64 (E.getD k ⟨0, 0⟩).b) := by
  rcases h.arcs with ⟨rfl, _⟩ | ⟨b, off, c', hv, h1, h2, h3, _, h4⟩
  · simp at hk
  · simp only [Value.slice.injEq] at hv
    obtain ⟨rfl, rfl, rfl⟩ := hv
    exact ⟨b, off, rfl, rfl, h1, h2, h3, (h4 k hk).1, (h4 k hk).2⟩
theorem eq_a (ya yb za zb : Int) (s : Bool) (hs : decide ((⟨ya, yb⟩ : Arc) = ⟨za, zb⟩) = s) :
    (∀ w : World, (binOp .eql 117 (.agg #[.int .i64 ya, .int .i64 yb]) (.agg #[.int .i64 za, .int .i64 zb])).run Tryz.prog w = .ok (.bool (s)) w) ∧ ∀ (a b : Operand) (w : World), (eqGuard .eql 117 a b (.agg #[.int .i64 ya, .int .i64 yb]) (.agg #[.int .i64 za, .int .i64 zb])).run Tryz.prog w = .ok () w := by
  refine ⟨fun w => ?_, fun a b w => run_eqGuard_agg w _ _ a b _ _ (by kernel_rfl)⟩
  have u3 := Tryz.underlying3
  have a3 := Tryz.isAgg3
  have z3 := Tryz.sizeOf3
  have hS : Tryz.prog.underlying 117 = some (.struct (Tryz.prog.fieldsOf 117)) := by kernel_rfl
  have hp : Tryz.prog.stoodInHeld 117 = false := by kernel_rfl
  rw [run_eql_struct, show (10000 : Nat) = 9999 + 1 from rfl, run_equalIn_agg w 9999 117 _ _ hS hp]
  simp only [Program.fieldsOf, Tryz.underlying117]
  go_simp
  subst hs
  by_cases h0 : ya = za <;> by_cases h1 : yb = zb <;> simp [h0, h1]
set_option maxHeartbeats 1000000 in
theorem index_a (w : World) (v : Value) (E : List Arc) (xa xb : Int) (h : Sl w v E) : Calls Tryz.prog 149 #[v, .agg #[.int .i64 xa, .int .i64 xb]] w fun e w' => ∃ r : Int, e = .returned (.int .i64 r) ∧ decide (0 ≤ r) = decide ((⟨xa, xb⟩ : Arc) ∈ E) ∧ Ext w w' := by
  rcases Sl.arcs h with ⟨rfl, ao, c, rfl⟩ | ⟨b, off, c, rfl, hc, hc63, hb, hpos, hcell⟩
  · go_enter Tryz.func149, Tryz.ntmps149
    go_wp2
    refine wp_loop_rounds 1 ?_
    rw [rounds_succ]
    go_wp2
    go_ret
    exact ⟨_, rfl, by simp, (by repeat (first | exact Ext.refl _ | assumption | refine Ext.alloc ?_ _ | refine Ext.drew ?_ | refine Ext.drewN ?_ _))⟩
  · have HC := Lib.hid hcell
    clear hcell h
    have HG : Hid (∀ W, Ext (w.alloc (.cells #[.int .i64 xa, .int .i64 xb] 117)) W → W.cell? ⟨w.heap.size, 0, none⟩ = some (.int .i64 xa) ∧ W.cell? ⟨w.heap.size, 1, none⟩ = some (.int .i64 xb)) := Lib.hid fun W hW => ⟨cell_at W hW rfl, cell_at W hW rfl⟩
    go_enter Tryz.func149, Tryz.ntmps149
    go_wp2
    go_loopw [8] (fun i wr => ∃ k : Nat, k ≤ E.length ∧ i = .int .i64 k ∧ Hid ((⟨xa, xb⟩ : Arc) ∉ E.take k) ∧ Hid (Ext (w.alloc (.cells #[.int .i64 xa, .int .i64 xb] 117)) wr)) (fun i _ => E.length - (intOf i).toNat)
    case atStart => exact ⟨0, Nat.zero_le _, rfl, Lib.hid (by simp), Lib.hid (Ext.refl _)⟩
    case round =>
      obtain ⟨k, hk, rfl, HT, HX⟩ := hrel
      by_cases hlt : k < E.length
      · obtain ⟨⟨ya, yb⟩, hy⟩ : ∃ y, y = E.getD k ⟨0, 0⟩ := ⟨_, rfl⟩
        have HN : Hid (E.take (k + 1) = E.take k ++ [⟨ya, yb⟩]) := Lib.hid (by rw [take_next hlt ⟨0, 0⟩, ← hy])
        have HM : Hid (⟨ya, yb⟩ ∈ E) := Lib.hid (hy ▸ by rw [List.getD_eq_getElem?_getD, List.getElem?_eq_getElem hlt]; simp)
        have HK : Hid (∀ W, Ext wr W → W.cell? ⟨b, off + k * 2, none⟩ = some (.int .i64 ya) ∧ W.cell? ⟨b, off + k * 2 + 1, none⟩ = some (.int .i64 yb) ∧ W.cell? ⟨w.heap.size, 0, none⟩ = some (.int .i64 xa) ∧ W.cell? ⟨w.heap.size, 1, none⟩ = some (.int .i64 xb)) := Lib.hid fun W hW => by
          have X := ((Ext.refl w).alloc _).trans (HX.out.trans hW)
          have c1 := HC.out k hlt
          rw [← hy] at c1
          obtain ⟨ga, gb⟩ := HG.out W (HX.out.trans hW)
          exact ⟨(X.cell (p := ⟨b, off + k * 2, none⟩) hb).trans c1.1, (X.cell (p := ⟨b, off + k * 2 + 1, none⟩) hb).trans c1.2, ga, gb⟩
        clear hy
        obtain ⟨s, hs⟩ : ∃ s, decide ((⟨xa, xb⟩ : Arc) = ⟨ya, yb⟩) = s := ⟨_, rfl⟩
        have HQ := Lib.hid (eq_a xa xb ya yb s hs)
        have HB := Lib.hid hs
        clear hs
        cases s
        all_goals
          obtain ⟨hq, hq2⟩ := HQ.out
          go_wp2_with fail
          go_region_held3 (fun W => W.cell? ⟨b, off + k * 2, none⟩ = some (.int .i64 ya) ∧ W.cell? ⟨b, off + k * 2 + 1, none⟩ = some (.int .i64 yb) ∧ W.cell? ⟨w.heap.size, 0, none⟩ = some (.int .i64 xa) ∧ W.cell? ⟨w.heap.size, 1, none⟩ = some (.int .i64 xb)) (exact HK.out _ (by repeat (first | exact Ext.refl _ | assumption | refine Ext.alloc ?_ _ | refine Ext.drew ?_ | refine Ext.drewN ?_ _))) (fail)
          go_wp2
        · go_roundw
          case rel => exact ⟨k + 1, by omega, by go_num, Lib.hid (by rw [HN.out]; simp only [List.mem_append, List.mem_singleton]; exact fun e => e.elim HT.out (of_decide_eq_false HB.out)), Lib.hid (by first | exact HX.out.drew | exact HX.out.drewN _ | exact HX.out)⟩
          case measure => simp [intOf]; omega
        · go_ret
          exact ⟨_, rfl, by rw [of_decide_eq_true HB.out, decide_eq_true HM.out]; simp, Ext.trans ((Ext.refl w).alloc _) (by first | exact HX.out.drew | exact HX.out.drewN _ | exact HX.out)⟩
      · have hkl : k = E.length := by omega
        go_wp2
        go_ret
        exact ⟨_, rfl, by have := HT.out; rw [hkl, List.take_length] at this; rw [decide_eq_false this]; rfl, Ext.trans ((Ext.refl w).alloc _) HX.out⟩
theorem contains_a (w : World) (v : Value) (E : List Arc) (xa xb : Int) (h : Sl w v E) (r : Bool) (hr : decide ((⟨xa, xb⟩ : Arc) ∈ E) = r) : Calls Tryz.prog 121 #[v, .agg #[.int .i64 xa, .int .i64 xb]] w fun e w' => e = .returned (.bool r) ∧ Ext w w' := by
  have HR := Lib.hid hr
  have HS := Lib.hid h
  clear h hr
  go_enter Tryz.func121, Tryz.ntmps121
  go_wp2_with (go_at_call 149; refine (index_a _ _ E xa xb (HS.out.ext (by repeat (first | exact Ext.refl _ | assumption | refine Ext.alloc ?_ _ | refine Ext.drew ?_ | refine Ext.drewN ?_ _)))).mono ?_; rintro e w1 ⟨r1, rfl, hr1, hx⟩; have HR1 := Lib.hid hr1; have HX := Lib.hid (Ext.trans (by exact (by repeat (first | exact Ext.refl _ | assumption | refine Ext.alloc ?_ _ | refine Ext.drew ?_ | refine Ext.drewN ?_ _))) hx); clear hr1 hx)
  go_ret
  exact ⟨ret_bool (HR1.out.trans HR.out), Ext.trans ((Ext.refl w).alloc _) HX.out⟩
end Go.Proofs.YtfbambemjokmgaaGreat
namespace Go.Proofs.YtfbambemjokmgaaGreat
open Go.RowKit
theorem node_any (w : World) (C : Nat) (N x : Int) (r : Bool) (hr : (decide (0 ≤ x) && decide (x < N)) = r) (hc : w.cell? ⟨C, 0, none⟩ = some (.int .i64 N)) :
    Calls Tryz.prog 120 #[.int .i64 x, .pointer (some ⟨C, 0, none⟩)] w fun e w' => e = .returned (.bool r) ∧ w' = w := by
  have HR := Lib.hid hr
  clear hr
  by_cases h1 : 0 ≤ x
  · by_cases h2 : x < N
    all_goals
      go_enter Tryz.func120, Tryz.ntmps120
      go_wp2
      go_ret
      exact ⟨ret_bool (by rw [← HR.out]; simp; omega), rfl⟩
  · go_enter Tryz.func120, Tryz.ntmps120
    go_wp2
    go_ret
    exact ⟨ret_bool (by rw [← HR.out]; simp; omega), rfl⟩
theorem node_two (w : World) (C : Nat) (N x a b : Int) (r s t : Bool) (hx : (x = a ∧ t = r) ∨ (x = b ∧ t = s)) (ha : (decide (0 ≤ a) && decide (a < N)) = r) (hb : (decide (0 ≤ b) && decide (b < N)) = s) (hc : w.cell? ⟨C, 0, none⟩ = some (.int .i64 N)) :
    Calls Tryz.prog 120 #[.int .i64 x, .pointer (some ⟨C, 0, none⟩)] w fun e w' => e = .returned (.bool t) ∧ w' = w := by
  rcases hx with ⟨rfl, rfl⟩ | ⟨rfl, rfl⟩
  · exact node_any w C N x _ ha hc
  · exact node_any w C N x _ hb hc
theorem pre_ok {N : Int} {L : List Arc} {k : Nat} (h0 : 0 ≤ N) (h1 : N ≤ 64) (h2 : L.length ≤ 400) (h : ∀ x ∈ L.take k, okA N x = true) (hn : (L.take k).Nodup) (hk : L.length ≤ k) : OkD N L := by
  rw [List.take_of_length_le hk] at h hn
  exact okD_iff.1 (by simp only [okD, Bool.and_eq_true, decide_eq_true_eq, List.all_eq_true]; exact ⟨⟨⟨⟨h0, h1⟩, h2⟩, h⟩, hn⟩)
theorem okA_iff {N : Int} {x : Arc} : okA N x = true ↔ (0 ≤ x.a ∧ x.a < N) ∧ (0 ≤ x.b ∧ x.b < N) ∧ x.a ≠ x.b := by
  simp only [okA, Bool.and_eq_true, decide_eq_true_eq, Bool.not_eq_true', decide_eq_false_iff_not]
  omega
theorem bad_arc {N : Int} {L : List Arc} {k : Nat} (hk : k < L.length) (h : okA N (L.getD k ⟨0, 0⟩) = false) : ¬ OkD N L := fun o => by
  have hm : L.getD k ⟨0, 0⟩ ∈ L := by rw [getD_at hk]; exact List.getElem_mem hk
  have := o.each _ hm
  have := okA_iff.2 ⟨⟨this.1, this.2.1⟩, ⟨this.2.2.1, this.2.2.2.1⟩, this.2.2.2.2⟩
  rw [h] at this
  cases this
theorem twice_arc {N : Int} {L : List Arc} {k : Nat} (hk : k < L.length) (h : L.getD k ⟨0, 0⟩ ∈ L.take k) : ¬ OkD N L := fun o => by
  have hn : (L.take (k + 1)).Nodup := List.Nodup.sublist (List.take_sublist _ _) o.nodup
  rw [take_next hk ⟨0, 0⟩] at hn
  exact (List.nodup_append.1 hn).2.2 _ h _ (by simp) rfl
theorem pre_next {N : Int} {L : List Arc} {k : Nat} (hk : k < L.length) (h : ∀ x ∈ L.take k, okA N x = true) (hn : (L.take k).Nodup) (h1 : okA N (L.getD k ⟨0, 0⟩) = true) (h2 : L.getD k ⟨0, 0⟩ ∉ L.take k) :
    (∀ x ∈ L.take (k + 1), okA N x = true) ∧ (L.take (k + 1)).Nodup := by
  rw [take_next hk ⟨0, 0⟩]
  refine ⟨fun x hx => ?_, List.nodup_append.2 ⟨hn, by simp, fun x hx y hy => by rw [List.mem_singleton] at hy; subst hy; exact fun e => h2 (e ▸ hx)⟩⟩
  rcases List.mem_append.1 hx with hx | hx
  · exact h x hx
  · rw [List.mem_singleton] at hx; subst hx; exact h1
set_option maxHeartbeats 2000000 in
theorem checkA_any (w : World) (N : Int) (v : Value) (E : List Arc) (h : Sl w v E) (r : Int) (hr : chkD N E = r) :
    Calls Tryz.prog 76 #[.int .i64 N, v] w fun e w' => e = .returned (.int .i64 r) ∧ Ext w w' := by
  have HR := Lib.hid hr
  obtain ⟨ao, c, rfl⟩ := h.len
  have hlen := h.length_le
  have HS := Lib.hid h
  clear hr h
  by_cases h1 : N < 0
  · go_enter Tryz.func76, Tryz.ntmps76
    go_wp2
    go_ret
    exact ⟨ret_int (by rw [← HR.out, chkD_not (fun o => by have := o.n0; omega)]), (by repeat (first | exact Ext.refl _ | assumption | refine Ext.alloc ?_ _ | refine Ext.drew ?_ | refine Ext.drewN ?_ _))⟩
  by_cases h2 : 64 < N
  · go_enter Tryz.func76, Tryz.ntmps76
    go_wp2
    go_ret
    exact ⟨ret_int (by rw [← HR.out, chkD_not (fun o => by have := o.n64; omega)]), (by repeat (first | exact Ext.refl _ | assumption | refine Ext.alloc ?_ _ | refine Ext.drew ?_ | refine Ext.drewN ?_ _))⟩
  by_cases h3 : 400 < E.length
  · go_enter Tryz.func76, Tryz.ntmps76
    go_wp2
    go_ret
    exact ⟨ret_int (by rw [← HR.out, chkD_not (fun o => by have := o.few; omega)]), (by repeat (first | exact Ext.refl _ | assumption | refine Ext.alloc ?_ _ | refine Ext.drew ?_ | refine Ext.drewN ?_ _))⟩
  have hmf : ∀ (fn : Fn) (first cap : Array Value) (w : World), (Instr.makeFunc fn first cap).run Tryz.prog w = .ok (.func fn first cap) w := fun _ _ _ _ => rfl
  have HB : Hid (∀ W, Ext (w.alloc (.cells #[.int .i64 N] 3)) W → W.cell? ⟨w.heap.size, 0, none⟩ = some (.int .i64 N)) := Lib.hid fun W hW => cell_at W hW rfl
  go_enter Tryz.func76, Tryz.ntmps76
  go_wp2
  go_loopw [22] (fun i wr => ∃ k : Nat, k ≤ E.length ∧ i = .int .i64 k ∧ Hid ((∀ x ∈ E.take k, okA N x = true) ∧ (E.take k).Nodup) ∧ Hid (Ext (w.alloc (.cells #[.int .i64 N] 3)) wr)) (fun i _ => E.length - (intOf i).toNat)
  case atStart => exact ⟨0, Nat.zero_le _, rfl, Lib.hid (by simp), Lib.hid (Ext.refl _)⟩
  case round =>
    obtain ⟨k, hk, rfl, HT, HX⟩ := hrel
    by_cases hlt : k < E.length
    · obtain ⟨b, off, hao, _, hnc, hc63, hb, hya0, hyb0⟩ := HS.out.arcsAt hlt
      subst hao
      have X := Ext.trans ((Ext.refl w).alloc _) HX.out
      have hya := (X.cell (p := ⟨b, off + k * 2, none⟩) hb).trans hya0
      have hyb := (X.cell (p := ⟨b, off + k * 2 + 1, none⟩) hb).trans hyb0
      obtain ⟨⟨ya, yb⟩, hy⟩ : ∃ y, y = E.getD k ⟨0, 0⟩ := ⟨_, rfl⟩
      rw [← hy] at hya hyb
      have HY := Lib.hid hy
      have HXX := Lib.hid X
      clear hy hya0 hyb0 X
      have hN := HB.out wr HX.out
      have HT1 : Hid (Sl wr (.slice (some ⟨b, off, none⟩) k c) (E.take k)) := Lib.hid (by have := (HS.out.ext HXX.out).cut 0 k (by omega) (by omega); simpa using this)
      have HK : Hid (∀ W, Ext (wr.alloc (.cells #[.int .i64 ya, .int .i64 yb] 117)) W → W.cell? ⟨wr.heap.size, 0, none⟩ = some (.int .i64 ya) ∧ W.cell? ⟨wr.heap.size, 1, none⟩ = some (.int .i64 yb) ∧ W.cell? ⟨w.heap.size, 0, none⟩ = some (.int .i64 N)) := Lib.hid fun W hW =>
        ⟨cell_at W hW rfl, cell_at W hW rfl, HB.out W (HX.out.trans (Ext.trans ((Ext.refl wr).alloc _) hW))⟩
      have hwl : w.heap.size < wr.heap.size := by have := HX.out.size; rw [size_alloc] at this; omega
      have hwl2 : w.heap.size ≠ wr.heap.size := by omega
      have HL : Hid (w.heap.size < wr.heap.size) := Lib.hid hwl
      by_cases g1 : 0 ≤ ya ∧ ya < N
      · have G1 : Hid ((decide (0 ≤ ya) && decide (ya < N)) = true) := Lib.hid (by simp [g1])
        by_cases g2 : 0 ≤ yb ∧ yb < N
        · have G2 : Hid ((decide (0 ≤ yb) && decide (yb < N)) = true) := Lib.hid (by simp [g2])
          by_cases g3 : ya = yb
          · have q3 : (ya == yb) = true := by simp [g3]
            have G3 := Lib.hid g3
            have HZ : Hid (okA N ⟨ya, yb⟩ = false) := Lib.hid (by cases e : okA N ⟨ya, yb⟩ with
              | false => rfl
              | true => exact absurd g3 (okA_iff.1 e).2.2)
            clear g1 g2 g3
            go_wp2
            go_quiet ((go_at_call 120; exact Calls.quiet_of_same (node_any _ _ N _ true (by first | exact G1.out | exact G2.out) (HK.out _ (Ext.drewN (Ext.refl _) _)).2.2)))
            all_goals go_wp2
            all_goals go_ret
            all_goals exact ⟨ret_int (by rw [← HR.out, chkD_not (bad_arc hlt (by rw [← HY.out]; exact HZ.out))]), Ext.trans HXX.out (Ext.drewN ((Ext.refl wr).alloc _) _)⟩
          · have q3 : (ya == yb) = false := by simp [g3]
            have G3 := Lib.hid g3
            have HO : Hid (okA N ⟨ya, yb⟩ = true) := Lib.hid (okA_iff.2 ⟨g1, g2, g3⟩)
            obtain ⟨t, ht⟩ : ∃ t, decide ((⟨ya, yb⟩ : Arc) ∈ E.take k) = t := ⟨_, rfl⟩
            have HC := Lib.hid ht
            clear g1 g2 g3 ht
            have hk0 : (0 : Int) ≤ (k : Int) := by omega
            have hkc : (k : Int) ≤ (c : Int) := by omega
            have hkc2 : k ≤ c := by omega
            cases t
            all_goals
              go_wp2
              go_region_held3 (fun W => W.cell? ⟨wr.heap.size, 0, none⟩ = some (.int .i64 ya) ∧ W.cell? ⟨wr.heap.size, 1, none⟩ = some (.int .i64 yb) ∧ W.cell? ⟨w.heap.size, 0, none⟩ = some (.int .i64 N)) (exact HK.out _ (by repeat (first | exact Ext.refl _ | assumption | refine Ext.alloc ?_ _ | refine Ext.drew ?_ | refine Ext.drewN ?_ _)))
                (first
                | (go_at_call 120; refine (node_any _ _ N _ true (by first | exact G1.out | exact G2.out) (HK.out _ (by repeat (first | exact Ext.refl _ | assumption | refine Ext.alloc ?_ _ | refine Ext.drew ?_ | refine Ext.drewN ?_ _))).2.2).mono ?_; rintro e w1 ⟨rfl, rfl⟩)
                | (go_at_call 121; refine (contains_a _ _ (E.take k) ya yb (HT1.out.ext (Ext.trans ((Ext.refl wr).alloc _) (by repeat (first | exact Ext.refl _ | assumption | refine Ext.alloc ?_ _ | refine Ext.drew ?_ | refine Ext.drewN ?_ _)))) _ HC.out).mono ?_; rintro e w1 ⟨rfl, hx⟩; have y1 : Ext (wr.alloc (.cells #[.int .i64 ya, .int .i64 yb] 117)) w1 := Ext.trans (by exact (by repeat (first | exact Ext.refl _ | assumption | refine Ext.alloc ?_ _ | refine Ext.drew ?_ | refine Ext.drewN ?_ _))) hx; clear hx))
              all_goals go_wp2
            · go_roundw
              case rel => exact ⟨k + 1, by omega, by go_num, Lib.hid (pre_next hlt HT.out.1 HT.out.2 (by rw [← HY.out]; exact HO.out) (by rw [← HY.out]; exact of_decide_eq_false HC.out)), Lib.hid (HX.out.trans (Ext.trans ((Ext.refl wr).alloc _) (by first | exact y1 | exact Ext.drew y1)))⟩
              case measure => simp [intOf]; omega
            · go_ret
              exact ⟨ret_int (by rw [← HR.out, chkD_not (twice_arc hlt (by rw [← HY.out]; exact of_decide_eq_true HC.out))]), HXX.out.trans (Ext.trans ((Ext.refl wr).alloc _) (by first | exact y1 | exact Ext.drew y1))⟩
        · have G2 : Hid ((decide (0 ≤ yb) && decide (yb < N)) = false) := Lib.hid (by simp; omega)
          have HZ : Hid (okA N ⟨ya, yb⟩ = false) := Lib.hid (by cases e : okA N ⟨ya, yb⟩ with
            | false => rfl
            | true => exact absurd (okA_iff.1 e).2.1 g2)
          clear g1 g2
          go_wp2
          go_quiet ((go_at_call 120; exact Calls.quiet_of_same (node_two _ _ N _ ya yb true false _ (by first | exact .inl ⟨rfl, rfl⟩ | exact .inr ⟨rfl, rfl⟩) G1.out G2.out (HK.out _ (Ext.drewN (Ext.refl _) _)).2.2)))
          all_goals go_wp2
          all_goals go_ret
          all_goals exact ⟨ret_int (by rw [← HR.out, chkD_not (bad_arc hlt (by rw [← HY.out]; exact HZ.out))]), Ext.trans HXX.out (Ext.drewN ((Ext.refl wr).alloc _) _)⟩
      · have G1 : Hid ((decide (0 ≤ ya) && decide (ya < N)) = false) := Lib.hid (by simp; omega)
        have HZ : Hid (okA N ⟨ya, yb⟩ = false) := Lib.hid (by cases e : okA N ⟨ya, yb⟩ with
          | false => rfl
          | true => exact absurd (okA_iff.1 e).1 g1)
        clear g1
        go_wp2
        go_quiet ((go_at_call 120; exact Calls.quiet_of_same (node_any _ _ N _ false G1.out (HK.out _ (Ext.drewN (Ext.refl _) _)).2.2)))
        all_goals go_wp2
        all_goals go_ret
        all_goals exact ⟨ret_int (by rw [← HR.out, chkD_not (bad_arc hlt (by rw [← HY.out]; exact HZ.out))]), Ext.trans HXX.out (Ext.drewN ((Ext.refl wr).alloc _) _)⟩
    · have hkl : E.length ≤ k := by omega
      go_wp2
      go_ret
      exact ⟨ret_int (by rw [← HR.out, chkD_of (pre_ok (by omega) (by omega) (by omega) HT.out.1 HT.out.2 hkl)]), Ext.trans ((Ext.refl w).alloc _) HX.out⟩
end Go.Proofs.YtfbambemjokmgaaGreat
namespace Go.Proofs.YtfbambemjokmgaaGreat
open Go.RowKit
structure Leads (w : World) (fv : Value) (L : List Arc) : Prop where
  any : ∃ g lb, fv = .func (.func g) #[] lb ∧ (∀ args w, (callFunc g args).run Tryz.prog w = .ok (.enter g args) w) ∧ ∀ W (u v : Int), 0 ≤ u → u < 64 → 0 ≤ v → v < 64 → Ext w W → Calls Tryz.prog g (#[.int .i64 u, .int .i64 v] ++ lb) W fun e w' => e = .returned (.bool (decide ((⟨u, v⟩ : Arc) ∈ L))) ∧ w' = W
theorem Leads.sh {w : World} {fv : Value} {L : List Arc} (h : Leads w fv L) : ∃ g lb, fv = .func (.func g) #[] lb := by
  obtain ⟨g, lb, rfl, _⟩ := h.any
  exact ⟨g, lb, rfl⟩
def Cells (cs : Array Value) (L : List Arc) : Prop := cs.size = 4096 ∧ ∀ u v : Nat, u < 64 → v < 64 → cs[u * 64 + v]? = some (.bool (decide ((⟨(u : Int), (v : Int)⟩ : Arc) ∈ L)))
theorem asks (w : World) (g : Nat) (cs : Array Value) (L : List Arc) (fr : Nat × Nat) (u v : Nat) (hu : u < 64) (hv : v < 64) (hb : w.heap[g]? = some (.cells cs 158 fr)) (hc : Cells cs L) :
    Calls Tryz.prog 123 #[.int .i64 u, .int .i64 v, .pointer (some ⟨g, 0, none⟩)] w fun e w' => e = .returned (.bool (decide ((⟨(u : Int), (v : Int)⟩ : Arc) ∈ L))) ∧ w' = w := by
  have h1 := blk_cell hb (u * 64 + v) (hc.2 u v hu hv)
  clear hb hc
  go_enter Tryz.func123, Tryz.ntmps123
  go_wp2
  go_ret
  exact ⟨rfl, rfl⟩
theorem zero_cells : Tryz.zeroCells158 = Array.replicate 4096 (Value.bool false) := by kernel_rfl
theorem Cells.start : Cells Tryz.zeroCells158 [] := by
  rw [zero_cells]
  refine ⟨by simp, fun u v hu hv => ?_⟩
  rw [Array.getElem?_replicate, if_pos (by omega)]
  simp
theorem Cells.next {cs : Array Value} {L : List Arc} {x : Arc} {N : Int} (h : Cells cs L) (hN : N ≤ 64) (hx : okA N x = true) : Cells (cs.setIfInBounds (x.a.toNat * 64 + x.b.toNat) (.bool true)) (L ++ [x]) := by
  obtain ⟨⟨a0, a1⟩, ⟨b0, b1⟩, _⟩ := okA_iff.1 hx
  refine ⟨by simp [h.1], fun u v hu hv => ?_⟩
  rw [Array.getElem?_setIfInBounds]
  by_cases e : x.a.toNat * 64 + x.b.toNat = u * 64 + v
  · have e1 : x.a.toNat = u := by omega
    have e2 : x.b.toNat = v := by omega
    have hm : (⟨(u : Int), (v : Int)⟩ : Arc) = x := by
      obtain ⟨xa, xb⟩ := x
      simp only [Arc.mk.injEq]
      simp only at e1 e2 a0 b0
      omega
    rw [if_pos e, if_pos (by rw [h.1]; omega), hm]
    simp
  · rw [if_neg e, h.2 u v hu hv]
    have hm : (⟨(u : Int), (v : Int)⟩ : Arc) ≠ x := by
      rintro rfl
      exact e (by simp)
    congr 2
    simp [hm]
set_option maxRecDepth 100000 in
set_option maxHeartbeats 1000000 in
theorem askerA_any (w : World) (N : Int) (v : Value) (E : List Arc) (h : Sl w v E) (ok : OkD N E) :
    Calls Tryz.prog 78 #[v] w fun e w' => ∃ fv, e = .returned fv ∧ Leads w' fv E ∧ Ext w w' := by
  obtain ⟨ao, c, rfl⟩ := h.len
  have hlen := h.length_le
  have HS := Lib.hid h
  have HO := Lib.hid ok
  clear h ok
  have hmf : ∀ (fn : Fn) (first cap : Array Value) (w : World), (Instr.makeFunc fn first cap).run Tryz.prog w = .ok (.func fn first cap) w := fun _ _ _ _ => rfl
  go_enter Tryz.func78, Tryz.ntmps78
  go_wp2
  go_loopw [8] (fun i wr => ∃ k : Nat, k ≤ E.length ∧ i = .int .i64 k ∧ Hid (∃ cs, wr.heap[w.heap.size]? = some (.cells cs 158 (0, 0)) ∧ Cells cs (E.take k)) ∧ Hid (Ext w wr)) (fun i _ => E.length - (intOf i).toNat)
  case atStart => exact ⟨0, Nat.zero_le _, rfl, Lib.hid ⟨_, get_alloc_new _ _, Cells.start⟩, Lib.hid ((Ext.refl w).alloc _)⟩
  case round =>
    obtain ⟨k, hk, rfl, HT, HX⟩ := hrel
    by_cases hlt : k < E.length
    · obtain ⟨b, off, hao, _, hnc, hc63, hb, hya0, hyb0⟩ := HS.out.arcsAt hlt
      subst hao
      have hya := (HX.out.cell (p := ⟨b, off + k * 2, none⟩) hb).trans hya0
      have hyb := (HX.out.cell (p := ⟨b, off + k * 2 + 1, none⟩) hb).trans hyb0
      obtain ⟨⟨ya, yb⟩, hy⟩ : ∃ y, y = E.getD k ⟨0, 0⟩ := ⟨_, rfl⟩
      rw [← hy] at hya hyb
      have HY := Lib.hid hy
      clear hya0 hyb0
      have hok := HO.out.each (E.getD k ⟨0, 0⟩) (by rw [getD_at hlt]; exact List.getElem_mem hlt)
      rw [← hy] at hok
      have h64 := HO.out.n64
      obtain ⟨a0, a1, b0, b1, ne⟩ : 0 ≤ ya ∧ ya < N ∧ 0 ≤ yb ∧ yb < N ∧ ya ≠ yb := hok
      have HZ : Hid (okA N ⟨ya, yb⟩ = true) := Lib.hid (okA_iff.2 ⟨⟨a0, a1⟩, ⟨b0, b1⟩, ne⟩)
      have a64 : ya < 64 := by omega
      have b64 : yb < 64 := by omega
      clear hy a1 b1 ne
      obtain ⟨u, rfl⟩ := Int.eq_ofNat_of_zero_le a0
      obtain ⟨v, rfl⟩ := Int.eq_ofNat_of_zero_le b0
      obtain ⟨cs, hcs, HC⟩ := HT.out
      have HCs := Lib.hid HC
      have hgl := blk_lt hcs
      have hne : w.heap.size ≠ wr.heap.size := by omega
      have hfr := blk_free hcs (u * 64 + v)
      have hce := blk_cell hcs (u * 64 + v) (HC.2 u v (by omega) (by omega))
      have HG := Lib.hid hcs
      clear hcs HC hgl HT
      have HF : Hid (∃ W1 : World, W1 = { (wr.alloc (.cells #[.int .i64 u, .int .i64 v] 117)) with drawn := (wr.alloc (.cells #[.int .i64 u, .int .i64 v] 117)).drawn + 1 } ∧ W1.cell? ⟨wr.heap.size, 0, none⟩ = some (.int .i64 u) ∧ W1.cell? ⟨wr.heap.size, 1, none⟩ = some (.int .i64 v) ∧ W1.cell? ⟨w.heap.size, u * 64 + v, none⟩ = some (.bool (decide ((⟨(u : Int), (v : Int)⟩ : Arc) ∈ E.take k))) ∧ W1.frozen? ⟨w.heap.size, u * 64 + v, none⟩ = false ∧ W1.heap[w.heap.size]? = some (.cells cs 158 (0, 0)) ∧ Ext wr W1) := Lib.hid (by
        have h1 := (get_alloc_old (o := .cells #[.int .i64 u, .int .i64 v] 117) (blk_lt HG.out)).trans HG.out
        have h2 := get_alloc_new wr (.cells #[.int .i64 u, .int .i64 v] 117)
        exact ⟨_, rfl, blk_cell h2 0 rfl, blk_cell h2 1 rfl, blk_cell h1 _ (HCs.out.2 u v (by omega) (by omega)), blk_free h1 _, h1, ((Ext.refl wr).alloc _).drew⟩)
      clear hce hfr
      go_wp2
      refine wp_region_still_tail 6 (by kernel_rfl) (by kernel_rfl) ?_
      simp only [List.take_succ_cons, List.take_zero, List.drop_succ_cons, List.drop_zero]
      obtain ⟨W1, hW1, c0, c1, ce, fr, hb1, hx1⟩ := HF.out
      rw [← hW1]
      have HB1 := Lib.hid hb1
      have HX1 := Lib.hid (HX.out.trans hx1)
      clear hW1 hb1 hx1 hya hyb
      repeat still_step
      refine wpStill_nil ?_
      go_wp2
      go_roundw
      case rel => exact ⟨k + 1, by omega, by go_num, Lib.hid ⟨_, blk_set HB1.out _ _, by rw [take_next hlt ⟨0, 0⟩, ← HY.out]; exact HCs.out.next (x := ⟨(u : Int), (v : Int)⟩) h64 HZ.out⟩, Lib.hid (below_set HX1.out (Nat.le_refl _) _)⟩
      case measure => simp [intOf]; omega
    · have hkl : k = E.length := by omega
      have ht := HT.out
      rw [hkl, List.take_length] at ht
      have HT' := Lib.hid ht
      clear ht HT hkl
      go_wp2
      go_ret
      refine ⟨_, rfl, ?_, HX.out⟩
      obtain ⟨cs, h1, h2⟩ := HT'.out
      have hgl := blk_lt h1
      have h64 := HO.out.n64
      exact ⟨123, _, rfl, enters_of Tryz.func123 (by kernel_rfl) rfl, fun W u v u0 u1 v0 v1 hW => by
        obtain ⟨u, rfl⟩ := Int.eq_ofNat_of_zero_le u0
        obtain ⟨v, rfl⟩ := Int.eq_ofNat_of_zero_le v0
        exact asks W _ cs E _ u v (by omega) (by omega) ((hW.block _ hgl).trans h1) h2⟩
end Go.Proofs.YtfbambemjokmgaaGreat
namespace Go.Proofs.YtfbambemjokmgaaGreat
open Go.RowKit
theorem take_eraseIdx {α : Type} (xs : List α) (k : Nat) : xs.take k ++ xs.drop (k + 1) = xs.eraseIdx k := (List.eraseIdx_eq_take_drop_succ xs k).symm
theorem delete_ow_i (w : World) (B : Nat) (v : Value) (xs : List Int) (k : Nat) (h : Ow w B v xs) (hk : k < xs.length) (hl : xs.length ≤ 100000) :
    Calls Tryz.prog 122 #[v, .int .i64 k, .int .i64 (k + 1)] w fun e w' => ∃ v', e = .returned v' ∧ Ow w' B v' (xs.eraseIdx k) ∧ w.grownBy w' v.ownBlock ∧ v'.ownBlock = v.ownBlock := by
  rcases h.2 with ⟨_, hz⟩ | ⟨g, cap, cur, rfl, hg, hh, hc1, hc2, hc3, hc4⟩
  · omega
  · have hc2' : cap ≤ 9223372036854775807 := by simpa only [maxLen] using hc2
    have hH := holds_of_blockI (ss := xs) hh (by have h4 := hc4; rw [show xs.length * Elem.k Int = xs.length from Nat.mul_one _, cells_i] at h4; simpa using h4)
    have := Tryz.slices_Delete_int g 0 cap k (k + 1) xs w hH (by simpa using hc1) hc2' (by omega) (by first | omega | (simp; omega))
    try simp only [List.length_map] at this
    refine this.mono ?_
    rintro e w1 ⟨rfl, dn, rfl⟩
    have hle : (xs.eraseIdx k).length = xs.length - 1 := by rw [List.length_eraseIdx, if_pos hk]
    refine ⟨_, rfl, ?_, ?_, rfl⟩
    · have e0 : ∀ d, Sort.putRow (Value.int .i64) (Sort.ahead w dn) g 0 d = Sort.grow (Sort.putRow (Value.int .i64) (Sort.ahead w dn) g 0 d) #[] := fun d => by simp
      rw [e0]
      refine ⟨cellsOf_length _, .inr ⟨g, cap, _, ?_, hg, heap_sortedI _ hh, by rw [hle]; omega, hc2, by simp [Sort.putCells, hc3], ?_⟩⟩
      · rw [hle]; simp
      · have ht := take_putCellsI cur ((xs).take k ++ (xs).drop (k + 1) ++ List.replicate (k + 1 - k) 0) (by simp; rw [hc3]; show _ ≤ cap * 1; omega)
        have ht2 := congrArg (List.take (xs.eraseIdx k).length) ht
        have hll : ((xs).take k ++ (xs).drop (k + 1) ++ List.replicate (k + 1 - k) 0).length = xs.length := by simp; omega
        rw [List.take_take, hll, Nat.min_eq_left (by rw [hle]; omega)] at ht2
        have hk1 : (xs.eraseIdx k).length * Elem.k Int = (xs.eraseIdx k).length := Nat.mul_one _
        rw [hk1, ht2, ← List.map_take, cells_i, List.take_left' (by rw [hle]; simp; omega)]
        rw [← take_eraseIdx]
        try simp
    · have e0 : ∀ d, Sort.putRow (Value.int .i64) (Sort.ahead w dn) g 0 d = Sort.grow (Sort.putRow (Value.int .i64) (Sort.ahead w dn) g 0 d) #[] := fun d => by simp
      rw [e0]
      exact grownBy_sortedI _
end Go.Proofs.YtfbambemjokmgaaGreat
namespace Go.Proofs.YtfbambemjokmgaaGreat
open Go.RowKit
def Ap (a b : Option Nat) : Prop := ∀ k, a = some k → b ≠ some k
theorem Ap.symm {a b : Option Nat} (h : Ap a b) : Ap b a := fun k e e' => h k e' e
section
variable {α β : Type} [Elem α] [Elem β] {w w' : World} {B : Nat} {xs : List α} {ys : List β} {v v' u : Value}
theorem Ow.keep (h : Ow w B u ys) (hk : ∀ b, u.ownBlock = some b → w'.heap[b]? = w.heap[b]?) : Ow w' B u ys := by
  refine ⟨h.1, ?_⟩
  rcases h.2 with hn | ⟨g, cap, cur, rfl, hg, hh, r⟩
  · exact .inl hn
  · exact .inr ⟨g, cap, cur, rfl, hg, by rw [hk g rfl]; exact hh, r⟩
theorem Ow.grownAp (h : Ow w B u ys) {row : Option Nat} (hg : w.grownBy w' row) (hu : Ap u.ownBlock row) : Ow w' B u ys :=
  h.keep fun b e => hg.block b (h.low b e).2 (fun e' => hu b e e'.symm)
theorem Apd.other {B' : Nat} (a : Apd B' v v' w w') (h : Ow w B u ys) (hu : Ap u.ownBlock v.ownBlock) : Ow w' B u ys := h.grownAp a.grown hu
theorem Apd.apart {B' : Nat} (a : Apd B' v v' w w') (h : Ow w B u ys) (hu : Ap u.ownBlock v.ownBlock) : Ap u.ownBlock v'.ownBlock := by
  rcases a.block with h' | h'
  · rw [h']; exact hu
  · intro k e e'; have := h' k e'; have := (h.low k e).2; omega
structure Two (w wr : World) (v u : Value) (xs : List α) (ys : List β) : Prop where
  one : Ow wr w.heap.size v xs
  two : Ow wr w.heap.size u ys
  ap : Ap u.ownBlock v.ownBlock
  ext : Ext w wr
theorem Two.more {wr W : World} (h : Two w wr v u xs ys) (e : Ext wr W) : Two w W v u xs ys := ⟨h.one.ext e, h.two.ext e, h.ap, h.ext.trans e⟩
theorem Two.swap {wr : World} (h : Two w wr v u xs ys) : Two w wr u v ys xs := ⟨h.two, h.one, h.ap.symm, h.ext⟩
theorem Two.push {wr W : World} {zs : List α} (h : Two w wr v u xs ys) (ho : Ow W w.heap.size v' zs) (a : Apd w.heap.size v v' wr W) : Two w W v' u zs ys :=
  ⟨ho, a.other h.two h.ap, a.apart h.two h.ap, Below.trans h.ext a.below⟩
theorem Two.turn {wr W : World} {zs : List α} (h : Two w wr v u xs ys) (ho : Ow W w.heap.size v' zs) (hb : v'.ownBlock = v.ownBlock) (hg : wr.grownBy W v.ownBlock) : Two w W v' u zs ys :=
  ⟨ho, h.two.grownAp hg h.ap, by rw [hb]; exact h.ap, h.ext.grown hg h.ext.size fun k e => (h.one.low k e).1⟩
end
end Go.Proofs.YtfbambemjokmgaaGreat
