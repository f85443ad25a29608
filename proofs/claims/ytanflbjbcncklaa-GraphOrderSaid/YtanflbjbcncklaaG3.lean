/- Whether a graph may be; what is told of its edges. -/
import Derived.Test.YtanflbjbcncklaaG2
namespace Go.Proofs.Ytanflbjbcncklaa
open Go.RowKit

theorem between_any (w : World) (a b : Int) : Calls Try.prog 27 #[.int .i64 a, .int .i64 b] w fun e w' => e = .returned (.agg #[.int .i64 (min a b), .int .i64 (max a b)]) ∧ Ext w w' := by
  rcases (show b < a ∨ a = b ∨ a < b by omega) with h | h | h
  · have h1 : min a b = b := by omega
    have h2 : max a b = a := by omega
    rw [h1, h2]
    clear h1 h2
    go_enter Try.func27, Try.ntmps27
    go_wp2
    exact bodyPost_ret (v := .agg #[.int .i64 b, .int .i64 a]) (by simp [results, Try.results27, go_sem]) rfl ⟨rfl, (by first | (repeat (first | exact Ext.refl _ | assumption | refine Ext.alloc ?_ _ | refine Ext.drew ?_ | refine below_set ?_ (by simp) _)))⟩
  · have h1 : min a b = a := by omega
    have h2 : max a b = b := by omega
    rw [h1, h2]
    clear h1 h2
    subst h
    go_enter Try.func27, Try.ntmps27
    go_wp2
    exact bodyPost_ret (v := .agg #[.int .i64 a, .int .i64 a]) (by simp [results, Try.results27, go_sem]) rfl ⟨rfl, (by first | (repeat (first | exact Ext.refl _ | assumption | refine Ext.alloc ?_ _ | refine Ext.drew ?_ | refine below_set ?_ (by simp) _)))⟩
  · have h1 : min a b = a := by omega
    have h2 : max a b = b := by omega
    rw [h1, h2]
    clear h1 h2
    go_enter Try.func27, Try.ntmps27
    go_wp2
    exact bodyPost_ret (v := .agg #[.int .i64 a, .int .i64 b]) (by simp [results, Try.results27, go_sem]) rfl ⟨rfl, (by first | (repeat (first | exact Ext.refl _ | assumption | refine Ext.alloc ?_ _ | refine Ext.drew ?_ | refine below_set ?_ (by simp) _)))⟩

theorem wrong_tells (w : World) (G : Nat) (N : Int) (hG : G < w.heap.size) (hc : w.cell? ⟨G, 0, none⟩ = some (.int .i64 N)) : Tells Edge.val w (.func (.func 33) #[] #[.pointer (some ⟨G, 0, none⟩)]) (fun e => !okE N e) :=
  ⟨33, _, rfl, enters_of Try.func33 (by kernel_rfl) rfl, fun W ⟨a, b⟩ hW => by
    have hc' : W.cell? ⟨G, 0, none⟩ = some (.int .i64 N) := (hW.cell (p := ⟨G, 0, none⟩) hG).trans hc
    have hG' : G < W.heap.size := Nat.lt_of_lt_of_le hG hW.size
    clear hc hG hW
    change Calls Try.prog _ #[.agg #[.int .i64 a, .int .i64 b], .pointer (some ⟨G, 0, none⟩)] W _
    by_cases h1 : a < 0
    · go_enter Try.func33, Try.ntmps33
      go_wp2
      go_ret
      exact ⟨ret_bool (by simp [okE]; try omega), (by repeat (first | exact Ext.refl _ | assumption | refine Ext.alloc ?_ _ | refine Ext.drew ?_ | refine Ext.drewN ?_ _))⟩
    · by_cases h2 : b ≤ a
      · go_enter Try.func33, Try.ntmps33
        go_wp2
        go_ret
        exact ⟨ret_bool (by simp [okE]; try omega), (by repeat (first | exact Ext.refl _ | assumption | refine Ext.alloc ?_ _ | refine Ext.drew ?_ | refine Ext.drewN ?_ _))⟩
      · by_cases h3 : N ≤ b
        · go_enter Try.func33, Try.ntmps33
          go_wp2
          go_ret
          exact ⟨ret_bool (by simp [okE]; try omega), (by repeat (first | exact Ext.refl _ | assumption | refine Ext.alloc ?_ _ | refine Ext.drew ?_ | refine Ext.drewN ?_ _))⟩
        · go_enter Try.func33, Try.ntmps33
          go_wp2
          go_ret
          exact ⟨ret_bool (by simp [okE]; try omega), (by repeat (first | exact Ext.refl _ | assumption | refine Ext.alloc ?_ _ | refine Ext.drew ?_ | refine Ext.drewN ?_ _))⟩⟩

theorem against_tells (w : World) (C D : Nat) (xa xb want : Int) (hC : C < w.heap.size) (hD : D < w.heap.size) (h0 : w.cell? ⟨C, 0, none⟩ = some (.int .i64 xa)) (h1 : w.cell? ⟨C, 1, none⟩ = some (.int .i64 xb)) (h2 : w.cell? ⟨D, 0, none⟩ = some (.int .i64 want)) :
    Tells Edge.val w (.func (.func 42) #[] #[.pointer (some ⟨C, 0, none⟩), .pointer (some ⟨D, 0, none⟩)]) (fun e => ord e ⟨xa, xb⟩ == want) :=
  ⟨42, _, rfl, enters_of Try.func42 (by kernel_rfl) rfl, fun W ⟨a, b⟩ hW => by
    have HK : Hid (∀ V, Ext (W.alloc (.cells #[.int .i64 a, .int .i64 b] 40)) V → ((V.cell? ⟨C, 0, none⟩ = some (.int .i64 xa) ∧ V.cell? ⟨C, 1, none⟩ = some (.int .i64 xb)) ∧ V.cell? ⟨D, 0, none⟩ = some (.int .i64 want)) ∧ V.cell? ⟨W.heap.size, 0, none⟩ = some (.int .i64 a) ∧ V.cell? ⟨W.heap.size, 1, none⟩ = some (.int .i64 b)) := Lib.hid fun V hV => by
      have x : Ext w V := (hW.alloc _).trans hV
      exact ⟨⟨⟨(x.cell (p := ⟨C, 0, none⟩) hC).trans h0, (x.cell (p := ⟨C, 1, none⟩) hC).trans h1⟩, (x.cell (p := ⟨D, 0, none⟩) hD).trans h2⟩, cell_at V hV rfl, cell_at V hV rfl⟩
    clear h0 h1 h2 hC hD hW
    change Calls Try.prog _ #[.agg #[.int .i64 a, .int .i64 b], .pointer (some ⟨C, 0, none⟩), .pointer (some ⟨D, 0, none⟩)] W _
    obtain ⟨r, hr⟩ : ∃ r, ord ⟨a, b⟩ ⟨xa, xb⟩ = r := ⟨_, rfl⟩
    have HR := Lib.hid hr
    clear hr
    go_enter Try.func42, Try.ntmps42
    go_wp2_with fail
    go_region_held3 (fun V => ((V.cell? ⟨C, 0, none⟩ = some (.int .i64 xa) ∧ V.cell? ⟨C, 1, none⟩ = some (.int .i64 xb)) ∧ V.cell? ⟨D, 0, none⟩ = some (.int .i64 want)) ∧ V.cell? ⟨W.heap.size, 0, none⟩ = some (.int .i64 a) ∧ V.cell? ⟨W.heap.size, 1, none⟩ = some (.int .i64 b)) (exact HK.out _ ((by repeat (first | exact Ext.refl _ | assumption | refine Ext.alloc ?_ _ | refine Ext.drew ?_ | refine Ext.drewN ?_ _))))
      (first
      | (go_at_call 43; refine (order_val _ _ _ _ _ r HR.out).mono ?_; rintro e w1 ⟨rfl, hx⟩; have y1 : Ext (W.alloc (.cells #[.int .i64 a, .int .i64 b] 40)) w1 := Ext.trans (by exact (by repeat (first | exact Ext.refl _ | assumption | refine Ext.alloc ?_ _ | refine Ext.drew ?_ | refine Ext.drewN ?_ _))) hx; clear hx))
    all_goals go_wp2
    all_goals go_ret
    all_goals exact ⟨ret_bool (by simp [HR.out]), Ext.trans ((Ext.refl W).alloc _) (by first | exact y1 | exact Ext.drew y1)⟩⟩

end Go.Proofs.Ytanflbjbcncklaa
