/- Whether a graph may be; whether it has an edge; whether two nodes may have one; those of which something is told. -/
import Derived.Test.YtalncechmhmdcaaG3
namespace Go.Proofs.Ytalncechmhmdcaa
open Go.RowKit

theorem chk_of {N : Int} {E : List Edge} (h : OkG N E) : chk N E = 0 := by unfold chk; rw [if_pos (okG_iff.2 h)]
theorem chk_not {N : Int} {E : List Edge} (h : ¬ OkG N E) : chk N E = 30 := by unfold chk; rw [if_neg (fun e => h (okG_iff.1 e))]

set_option maxHeartbeats 1000000 in
theorem check_any (w : World) (N : Int) (v : Value) (E : List Edge) (h : Sl w v E) (r : Int) (hr : chk N E = r) :
    Calls Try.prog 25 #[.agg #[.int .i64 N, v]] w fun e w' => e = .returned (.int .i64 r) ∧ Ext w w' := by
  have HR := Lib.hid hr
  obtain ⟨ao, c, rfl⟩ := h.len
  have HS := Lib.hid h
  clear hr h
  by_cases h1 : N < 0
  · go_enter Try.func25, Try.ntmps25
    go_wp2
    go_ret
    exact ⟨ret_int (by rw [← HR.out, chk_not (fun o => by have := o.n0; omega)]), (by repeat (first | exact Ext.refl _ | assumption | refine Ext.alloc ?_ _ | refine Ext.drew ?_ | refine Ext.drewN ?_ _))⟩
  by_cases h2 : 64 < N
  · go_enter Try.func25, Try.ntmps25
    go_wp2
    go_ret
    exact ⟨ret_int (by rw [← HR.out, chk_not (fun o => by have := o.n64; omega)]), (by repeat (first | exact Ext.refl _ | assumption | refine Ext.alloc ?_ _ | refine Ext.drew ?_ | refine Ext.drewN ?_ _))⟩
  by_cases h3 : 400 < E.length
  · go_enter Try.func25, Try.ntmps25
    go_wp2
    go_ret
    exact ⟨ret_int (by rw [← HR.out, chk_not (fun o => by have := o.few; omega)]), (by repeat (first | exact Ext.refl _ | assumption | refine Ext.alloc ?_ _ | refine Ext.drew ?_ | refine Ext.drewN ?_ _))⟩
  obtain ⟨t, ht⟩ : ∃ t, (E.any fun e => !okE N e) = t := ⟨_, rfl⟩
  obtain ⟨s, hs⟩ : ∃ s, rises E = s := ⟨_, rfl⟩
  have HT := Lib.hid ht
  have HU := Lib.hid hs
  have HW : Hid (Tells Edge.val (w.alloc (.cells #[.int .i64 N, .slice ao E.length c] 24)) (.func (.func 36) #[] #[.pointer (some ⟨w.heap.size, 0, none⟩)]) (fun e => !okE N e)) :=
    Lib.hid (wrong_tells _ _ N (by simp) (blk_cell (get_alloc_new _ _) 0 rfl))
  clear ht hs
  have hmf : ∀ (fn : Fn) (first cap : Array Value) (w : World), (Instr.makeFunc fn first cap).run Try.prog w = .ok (.func fn first cap) w := fun _ _ _ _ => rfl
  cases t
  · cases s
    all_goals
      go_enter Try.func25, Try.ntmps25
      go_wp2_with (first
        | (go_at_call 37; refine (containsFunc_e _ _ _ E _ (HS.out.ext (by repeat (first | exact Ext.refl _ | assumption | refine Ext.alloc ?_ _ | refine Ext.drew ?_ | refine Ext.drewN ?_ _))) (HW.out.ext (by repeat (first | exact Ext.refl _ | assumption | refine Ext.alloc ?_ _ | refine Ext.drew ?_ | refine Ext.drewN ?_ _))) _ HT.out).mono ?_; rintro e w1 ⟨rfl, hx⟩; have y1 : Ext w w1 := Ext.trans ((Ext.refl w).alloc _) hx; have g1 := blk_cell (box1 (hx.mono (by rw [size_alloc]; omega))) 1 rfl; clear hx)
        | (go_at_call 38; refine (rise_any _ _ E (HS.out.ext y1)).mono ?_; rintro e w2 ⟨rfl, hx⟩; rw [HU.out]; have y2 : Ext w w2 := y1.trans hx; clear hx))
      go_ret
    · exact ⟨ret_int (by rw [← HR.out, chk_not (fun o => by have := rises_iff.2 o.rise; rw [HU.out] at this; cases this)]), y2⟩
    · refine ⟨ret_int ?_, y2⟩
      rw [← HR.out, chk_of ⟨by omega, by omega, by omega, fun e he => ?_, rises_iff.1 HU.out⟩]
      have := List.any_eq_false.1 HT.out e he
      simp [okE] at this
      omega
  · go_enter Try.func25, Try.ntmps25
    go_wp2_with (first
      | (go_at_call 37; refine (containsFunc_e _ _ _ E _ (HS.out.ext (by repeat (first | exact Ext.refl _ | assumption | refine Ext.alloc ?_ _ | refine Ext.drew ?_ | refine Ext.drewN ?_ _))) (HW.out.ext (by repeat (first | exact Ext.refl _ | assumption | refine Ext.alloc ?_ _ | refine Ext.drew ?_ | refine Ext.drewN ?_ _))) _ HT.out).mono ?_; rintro e w1 ⟨rfl, hx⟩; have y1 : Ext w w1 := Ext.trans ((Ext.refl w).alloc _) hx; have g1 := blk_cell (box1 (hx.mono (by rw [size_alloc]; omega))) 1 rfl; clear hx))
    go_ret
    refine ⟨ret_int ?_, y1⟩
    rw [← HR.out, chk_not (fun o => ?_)]
    obtain ⟨e, he, hb⟩ := List.any_eq_true.1 HT.out
    have := o.each e he
    simp [okE] at hb
    omega

theorem has_iff (E : List Edge) (a b : Int) : (E.any fun e => ord e (btw a b) == 0) = decide (btw a b ∈ E) := by
  rw [Bool.eq_iff_iff]
  simp only [List.any_eq_true, decide_eq_true_eq]
  constructor
  · rintro ⟨e, he, h⟩
    have : decide (ord e (btw a b) = 0) = true := by simpa using h
    rw [ord_zero] at this
    rw [← of_decide_eq_true this]
    exact he
  · intro h
    refine ⟨_, h, ?_⟩
    have : decide (ord (btw a b) (btw a b) = 0) = true := by rw [ord_zero]; simp
    simpa using this

end Go.Proofs.Ytalncechmhmdcaa
