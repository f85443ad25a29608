/- The document's answers: whether an edge is ahead; whether two are nodes; whether there is an edge; whether a graph may be; whether two are the same. -/
import Derived.Test.YtalncechmhmdcaaG8
namespace Go.Proofs.Ytalncechmhmdcaa
open Go.RowKit

theorem refAhead_val (w : World) (xa xb ya yb : Int) (r : Bool) (hr : ahead ⟨xa, xb⟩ ⟨ya, yb⟩ = r) : Calls Try.prog 31 #[.agg #[.int .i64 xa, .int .i64 xb], .agg #[.int .i64 ya, .int .i64 yb]] w fun e w' => e = .returned (.bool r) ∧ Ext w w' := by
  have HR := Lib.hid hr
  clear hr
  by_cases h1 : xa < ya
  · go_enter Try.func31, Try.ntmps31
    go_wp2
    go_ret
    exact ⟨ret_bool (by rw [← HR.out]; simp [ahead, h1]), (by repeat (first | exact Ext.refl _ | assumption | refine Ext.alloc ?_ _ | refine Ext.drew ?_ | refine Ext.drewN ?_ _))⟩
  by_cases h2 : xa = ya
  · have e2 : (xa == ya) = true := by simp [h2]
    have H2 := Lib.hid h2
    clear h2
    by_cases h3 : xb < yb
    all_goals
      go_enter Try.func31, Try.ntmps31
      go_wp2
      go_ret
      exact ⟨ret_bool (by rw [← HR.out, H2.out]; simp [ahead]; try omega), (by repeat (first | exact Ext.refl _ | assumption | refine Ext.alloc ?_ _ | refine Ext.drew ?_ | refine Ext.drewN ?_ _))⟩
  · have e2 : (xa == ya) = false := by simp [h2]
    have H2 := Lib.hid h2
    clear h2
    go_enter Try.func31, Try.ntmps31
    go_wp2
    go_ret
    exact ⟨ret_bool (by rw [← HR.out]; simp [ahead, H2.out]; try omega), (by repeat (first | exact Ext.refl _ | assumption | refine Ext.alloc ?_ _ | refine Ext.drew ?_ | refine Ext.drewN ?_ _))⟩

theorem btw_is (e : Edge) (a b : Int) : (e = btw a b) ↔ (e.a = a ∧ e.b = b ∧ a ≤ b) ∨ (e.a = b ∧ e.b = a ∧ b < a) := by
  obtain ⟨x, y⟩ := e
  simp only [btw, Edge.mk.injEq]
  omega

set_option maxHeartbeats 2000000 in
theorem refHas_val (w : World) (N : Int) (v : Value) (E : List Edge) (a b : Int) (h : Sl w v E) (r : Bool) (hr : decide (btw a b ∈ E) = r) :
    Calls Try.prog 35 #[.agg #[.int .i64 N, v], .int .i64 a, .int .i64 b] w fun e w' => e = .returned (.bool r) ∧ Ext w w' := by
  rw [← has_iff] at hr
  have hp : ∀ e, (ord e (btw a b) == 0) = decide (e = btw a b) := fun e => by rw [← ord_zero]; rfl
  simp only [hp] at hr
  clear hp
  subst hr
  rcases h.edges with ⟨rfl, ao, c, rfl⟩ | ⟨q, off, c, rfl, hc, hc63, hb, hpos, hcell⟩
  · go_enter Try.func35, Try.ntmps35
    go_wp2
    refine wp_loop_rounds 1 ?_
    rw [rounds_succ]
    go_wp2
    go_ret
    exact ⟨rfl, (by repeat (first | exact Ext.refl _ | assumption | refine Ext.alloc ?_ _ | refine Ext.drew ?_ | refine Ext.drewN ?_ _))⟩
  · have HC := Lib.hid hcell
    clear hcell h
    have HK : Hid (∀ V, Ext (w.alloc (.cells #[.int .i64 N, .slice (some ⟨q, off, none⟩) E.length c] 24)) V → V.cell? ⟨w.heap.size, 1, none⟩ = some (.slice (some ⟨q, off, none⟩) E.length c)) := Lib.hid fun V hV => cell_at V hV rfl
    go_enter Try.func35, Try.ntmps35
    go_wp2
    go_loopw [7] (fun i wr => ∃ k : Nat, k ≤ E.length ∧ i = .int .i64 k ∧ Hid ((E.take k).any (fun e => decide (e = btw a b)) = false) ∧ Hid (Ext (w.alloc (.cells #[.int .i64 N, .slice (some ⟨q, off, none⟩) E.length c] 24)) wr)) (fun i _ => E.length - (intOf i).toNat)
    case atStart => exact ⟨0, Nat.zero_le _, rfl, Lib.hid rfl, Lib.hid (Ext.refl _)⟩
    case round =>
      obtain ⟨k, hk, rfl, HT, HX⟩ := hrel
      have g1 := HK.out wr HX.out
      by_cases hlt : k < E.length
      · have X := Ext.trans ((Ext.refl w).alloc _) HX.out
        have hya := (X.cell (p := ⟨q, off + k * 2, none⟩) hb).trans (HC.out k hlt).1
        have hyb := (X.cell (p := ⟨q, off + k * 2 + 1, none⟩) hb).trans (HC.out k hlt).2
        obtain ⟨⟨ya, yb⟩, hy⟩ : ∃ y, y = E.getD k ⟨0, 0⟩ := ⟨_, rfl⟩
        rw [← hy] at hya hyb
        have HN : Hid ((E.take (k + 1)).any (fun e => decide (e = btw a b)) = ((E.take k).any (fun e => decide (e = btw a b)) || decide ((⟨ya, yb⟩ : Edge) = btw a b))) := Lib.hid (by rw [any_next _ hlt ⟨0, 0⟩, ← hy])
        clear hy X
        have HB := Lib.hid (btw_is ⟨ya, yb⟩ a b)
        by_cases h0 : (⟨ya, yb⟩ : Edge) = btw a b
        · have H0 := Lib.hid h0
          rw [btw_is] at h0
          rcases h0 with ⟨h1, h2, h3⟩ | ⟨h1, h2, h3⟩
          · have e1 : (ya == a) = true := by simpa using h1
            have e2 : (yb == b) = true := by simpa using h2
            clear h1 h2
            go_wp2
            go_ret
            exact ⟨ret_bool (by rw [any_of_take (HN.out.trans (by rw [decide_eq_true H0.out]; simp))]), Ext.trans ((Ext.refl w).alloc _) (HX.out.alloc _)⟩
          · have h1 : ya = b := h1
            have h2 : yb = a := h2
            have e1 : (ya == a) = false := by simp; omega
            have e2 : (yb == b) = false := by simp; omega
            have e3 : (ya == b) = true := by simpa using h1
            have e4 : (yb == a) = true := by simpa using h2
            clear h1 h2
            go_wp2
            go_ret
            exact ⟨ret_bool (by rw [any_of_take (HN.out.trans (by rw [decide_eq_true H0.out]; simp))]), Ext.trans ((Ext.refl w).alloc _) (HX.out.alloc _)⟩
        · have H0 := Lib.hid h0
          have hq : ¬ ((ya = a ∧ yb = b ∧ a ≤ b) ∨ (ya = b ∧ yb = a ∧ b < a)) := fun e => h0 ((btw_is ⟨ya, yb⟩ a b).2 e)
          clear h0
          rcases (show ya = a ∨ ya ≠ a by omega) with h1 | h1
          all_goals rcases (show yb = b ∨ yb ≠ b by omega) with h2 | h2
          all_goals rcases (show ya = b ∨ ya ≠ b by omega) with h3 | h3
          all_goals rcases (show yb = a ∨ yb ≠ a by omega) with h4 | h4
          all_goals rcases (show a ≤ b ∨ b < a by omega) with h5 | h5
          all_goals try (exfalso; omega)
          all_goals
            first | (have e1 : (ya == a) = true := by simp [h1]) | (have e1 : (ya == a) = false := by simp [h1])
            first | (have e2 : (yb == b) = true := by simp [h2]) | (have e2 : (yb == b) = false := by simp [h2])
            first | (have e3 : (ya == b) = true := by simp [h3]) | (have e3 : (ya == b) = false := by simp [h3])
            first | (have e4 : (yb == a) = true := by simp [h4]) | (have e4 : (yb == a) = false := by simp [h4])
            have e5 : ¬ (a ≤ b ∧ b < a) := by omega
            clear h1 h2 h3 h4 hq
            go_wp2
            go_roundw
            case rel => exact ⟨k + 1, by omega, by go_num, Lib.hid (by rw [HN.out, HT.out, decide_eq_false H0.out]; rfl), Lib.hid (HX.out.alloc _)⟩
            case measure => simp [intOf]; omega
      · have hkl : k = E.length := by omega
        go_wp2
        go_ret
        exact ⟨ret_bool (by have := HT.out; rw [hkl, List.take_length] at this; rw [this]), Ext.trans ((Ext.refl w).alloc _) HX.out⟩

end Go.Proofs.Ytalncechmhmdcaa
