/- Texts of this seat. -/
import Derived.Test.YtfbambemjokmgaaGreatNAB
namespace Go.Proofs.YtfbambemjokmgaaGreat
open Go.RowKit
def GivesV (w : World) (N : Int) (E : List Edge) (e : Ending) (w' : World) : Prop := ∃ v, e = .returned (.agg #[.int .i64 N, v]) ∧ Sl w' v E ∧ Ext w w'
theorem own_any (w : World) (N : Int) (v : Value) (E : List Edge) (h : Sl w v E) (hlen : E.length ≤ 1000) : Calls Tryz.prog 44 #[.agg #[.int .i64 N, v]] w (GivesV w N E) := by
  obtain ⟨ao, c, rfl⟩ := h.len
  have HS := Lib.hid (h.ext (ext_two w (.cells #[.int .i64 N, .slice ao E.length c] 53) (.cells #[.int .i64 0, .slice none 0 0] 53)))
  clear h
  have HK := Lib.hid (two_graphs w N (.slice ao E.length c))
  have HK1 := Lib.hid (one_graph w N (.slice ao E.length c))
  go_enter Tryz.func44, Tryz.ntmps44
  go_wp2_with fail
  go_region_held3 (fun V => V.cell? ⟨w.heap.size, 0, none⟩ = some (.int .i64 N) ∧ V.cell? ⟨w.heap.size, 1, none⟩ = some (.slice ao E.length c)) (exact HK1.out _ (by first | exact low_two (by repeat (first | exact Ext.refl _ | assumption | exact Hid.out (by assumption) | refine Ext.alloc ?_ _ | refine Ext.drew ?_ | refine Ext.drewN ?_ _ | refine Ext.trans ?_ (by assumption))) | exact below_set (low_two (by repeat (first | exact Ext.refl _ | assumption | exact Hid.out (by assumption) | refine Ext.alloc ?_ _ | refine Ext.drew ?_ | refine Ext.drewN ?_ _ | refine Ext.trans ?_ (by assumption)))) (by simp) _ | exact below_set (below_set (low_two (by repeat (first | exact Ext.refl _ | assumption | exact Hid.out (by assumption) | refine Ext.alloc ?_ _ | refine Ext.drew ?_ | refine Ext.drewN ?_ _ | refine Ext.trans ?_ (by assumption)))) (by simp) _) (by simp) _))
    (first
    | (refine step_append_sl (α := Edge) rfl (.tmp 5) (.tmp 7) rfl (w.heap.size + 2) (.slice (some ⟨_, 0, none⟩) 0 0) [] rfl ?_ (.slice ao E.length c) E rfl ?_ ?_ ?_ ?_; (first | exact Ow.drew (Ow.litAt _ _ _ (by simp) (by simp) [] (by simp)) | exact Ow.litAt _ _ _ (by simp) (by simp) [] (by simp)); exact HS.out.ext (by repeat (first | exact Ext.refl _ | assumption | exact Hid.out (by assumption) | refine Ext.alloc ?_ _ | refine Ext.drew ?_ | refine Ext.drewN ?_ _ | refine Ext.trans ?_ (by assumption))); (simp; omega); exact (by simp); intro v1 W1 ho1 ha1; obtain ⟨ao1, n1, c1, rfl⟩ := ho1.sh; have O1 := Lib.hid ho1; have x1 : Ext ((w.alloc (.cells #[.int .i64 N, .slice ao E.length c] 53)).alloc (.cells #[.int .i64 0, .slice none 0 0] 53)) W1 := Below.trans (by exact (by repeat (first | exact Ext.refl _ | assumption | exact Hid.out (by assumption) | refine Ext.alloc ?_ _ | refine Ext.drew ?_ | refine Ext.drewN ?_ _ | refine Ext.trans ?_ (by assumption)))) (ha1.below.mono (by simp)); obtain ⟨⟨i0, i1⟩, ⟨j0, j1⟩, l0, l1⟩ := HK.out W1 x1; clear ho1 ha1))
  all_goals go_wp2
  all_goals exact bodyPost_ret (v := .agg #[.int .i64 N, .slice ao1 n1 c1]) (by simp [results, Tryz.results44, go_sem, j0, j1]) rfl ⟨_, rfl, ((O1.out.set (by simp) _).set (by simp) _).sl, below_set (below_set ((ext_two w _ _).trans x1) (by simp) _) (by simp) _⟩
end Go.Proofs.YtfbambemjokmgaaGreat
