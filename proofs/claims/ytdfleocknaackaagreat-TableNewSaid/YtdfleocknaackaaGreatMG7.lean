/- A graph with an edge, and without one. -/
import Derived.Test.YtdfleocknaackaaGreatG5
import Derived.Deep.QuietTactic
import Derived.Laws.StructEq
namespace Go.Proofs.YtdfleocknaackaaGreat
open Go.RowKit

/-- A graph and a number come out. -/
def GivesG (w : World) (N : Int) (E : List Edge) (r : Int) (e : Ending) (w' : World) : Prop := ∃ v, e = .returned (.tuple #[.agg #[.int .i64 N, v], .int .i64 r]) ∧ Sl w' v E ∧ Ext w w'

/-- The block of an argument and the one of a result. -/
theorem two_graphs (w : World) (N : Int) (v : Value) (W : World) (h : Ext ((w.alloc (.cells #[.int .i64 N, v] 24)).alloc (.cells #[.int .i64 0, .slice none 0 0] 24)) W) :
    (W.cell? ⟨w.heap.size, 0, none⟩ = some (.int .i64 N) ∧ W.cell? ⟨w.heap.size, 1, none⟩ = some v) ∧ (W.cell? ⟨w.heap.size + 1, 0, none⟩ = some (.int .i64 0) ∧ W.cell? ⟨w.heap.size + 1, 1, none⟩ = some (.slice none 0 0)) ∧
    W.frozen? ⟨w.heap.size + 1, 0, none⟩ = false ∧ W.frozen? ⟨w.heap.size + 1, 1, none⟩ = false := by
  obtain ⟨hA, hB⟩ := box2 (h.mono (by rw [size_alloc, size_alloc]; omega))
  exact ⟨⟨blk_cell hA 0 rfl, blk_cell hA 1 rfl⟩, ⟨blk_cell hB 0 rfl, blk_cell hB 1 rfl⟩, blk_free hB 0, blk_free hB 1⟩
theorem ext_two (w : World) (A B : Obj) : Ext w ((w.alloc A).alloc B) := ((Ext.refl w).alloc _).alloc _
theorem Sl.nilg (w : World) : Sl w (.slice none 0 0) ([] : List Edge) := Sl.empty _ _ _ (by omega) (fun _ => rfl)

theorem low_two {w W : World} {A B : Obj} (h : Ext ((w.alloc A).alloc B) W) : Below (w.heap.size + 1) (w.alloc A) W :=
  Below.trans (below_alloc_at (Below.refl _ _) (by rw [size_alloc]; omega) B) (h.mono (by rw [size_alloc, size_alloc]; omega))
/-- The argument's block, when stores go behind it. -/
theorem one_graph (w : World) (N : Int) (v : Value) (W : World) (h : Below (w.heap.size + 1) (w.alloc (.cells #[.int .i64 N, v] 24)) W) : W.cell? ⟨w.heap.size, 0, none⟩ = some (.int .i64 N) ∧ W.cell? ⟨w.heap.size, 1, none⟩ = some v := by
  have hA := box1 h
  exact ⟨blk_cell hA 0 rfl, blk_cell hA 1 rfl⟩

theorem parts_of {E : List Edge} (x : Edge) (h : Rises E) (hx : x ∉ E) : (E.filter fun e => ord e x == -1) ++ ([x] ++ (E.filter fun e => ord e x == 1)) = insE x E := by
  rw [← insE_parts h hx]
  have h1 : (fun e => ord e x == -1) = (fun e => ahead e x) := funext fun e => by rw [← ord_neg]; rfl
  have h2 : (fun e => ord e x == 1) = (fun e => ahead x e) := funext fun e => by rw [← ord_pos]; rfl
  rw [h1, h2]

theorem cell_new {w : World} {cs : Array Value} {t : TypeId} {i n : Nat} {u : Value} (hn : n = w.heap.size) (hu : cs[i]? = some u) : (w.alloc (.cells cs t (0, 0))).cell? ⟨n, i, none⟩ = some u := by
  subst hn
  exact blk_cell (get_alloc_new _ _) i hu

end Go.Proofs.YtdfleocknaackaaGreat

/- Whether two are the same; a graph of its own memory. -/
namespace Go.Proofs.YtdfleocknaackaaGreat
open Go.RowKit

theorem neq_e (ya yb za zb : Int) (s : Bool) (hs : decide ((⟨ya, yb⟩ : Edge) = ⟨za, zb⟩) = s) :
    (∀ w : World, (binOp .neq 36 (.agg #[.int .i64 ya, .int .i64 yb]) (.agg #[.int .i64 za, .int .i64 zb])).run Tryz.prog w = .ok (.bool (!s)) w) ∧ ∀ (a b : Operand) (w : World), (eqGuard .neq 36 a b (.agg #[.int .i64 ya, .int .i64 yb]) (.agg #[.int .i64 za, .int .i64 zb])).run Tryz.prog w = .ok () w := by
  refine ⟨fun w => ?_, fun a b w => run_eqGuard_agg w _ _ a b _ _ (by kernel_rfl)⟩
  have u3 := Tryz.underlying3
  have a3 := Tryz.isAgg3
  have z3 := Tryz.sizeOf3
  have hS : Tryz.prog.underlying 36 = some (.struct (Tryz.prog.fieldsOf 36)) := by kernel_rfl
  have hp : Tryz.prog.stoodInHeld 36 = false := by kernel_rfl
  rw [run_neq_struct, show (10000 : Nat) = 9999 + 1 from rfl, run_equalIn_agg w 9999 36 _ _ hS hp]
  simp only [Program.fieldsOf, Tryz.underlying36]
  go_simp
  subst hs
  by_cases h0 : ya = za <;> by_cases h1 : yb = zb <;> simp [h0, h1]

/-- A graph comes out. -/
def GivesV (w : World) (N : Int) (E : List Edge) (e : Ending) (w' : World) : Prop := ∃ v, e = .returned (.agg #[.int .i64 N, v]) ∧ Sl w' v E ∧ Ext w w'

theorem own_any (w : World) (N : Int) (v : Value) (E : List Edge) (h : Sl w v E) (hlen : E.length ≤ 1000) : Calls Tryz.prog 29 #[.agg #[.int .i64 N, v]] w (GivesV w N E) := by
  obtain ⟨ao, c, rfl⟩ := h.len
  have HS := Lib.hid (h.ext (ext_two w (.cells #[.int .i64 N, .slice ao E.length c] 24) (.cells #[.int .i64 0, .slice none 0 0] 24)))
  clear h
  have HK := Lib.hid (two_graphs w N (.slice ao E.length c))
  have HK1 := Lib.hid (one_graph w N (.slice ao E.length c))
  go_enter Tryz.func29, Tryz.ntmps29
  go_wp2_with fail
  go_region_held3 (fun V => V.cell? ⟨w.heap.size, 0, none⟩ = some (.int .i64 N) ∧ V.cell? ⟨w.heap.size, 1, none⟩ = some (.slice ao E.length c)) (exact HK1.out _ (by first | exact low_two (by repeat (first | exact Ext.refl _ | assumption | exact Hid.out (by assumption) | refine Ext.alloc ?_ _ | refine Ext.drew ?_ | refine Ext.drewN ?_ _ | refine Ext.trans ?_ (by assumption))) | exact below_set (low_two (by repeat (first | exact Ext.refl _ | assumption | exact Hid.out (by assumption) | refine Ext.alloc ?_ _ | refine Ext.drew ?_ | refine Ext.drewN ?_ _ | refine Ext.trans ?_ (by assumption)))) (by simp) _ | exact below_set (below_set (low_two (by repeat (first | exact Ext.refl _ | assumption | exact Hid.out (by assumption) | refine Ext.alloc ?_ _ | refine Ext.drew ?_ | refine Ext.drewN ?_ _ | refine Ext.trans ?_ (by assumption)))) (by simp) _) (by simp) _))
    (first
    | (refine step_append_sl (α := Edge) rfl (.tmp 5) (.tmp 7) rfl (w.heap.size + 2) (.slice (some ⟨_, 0, none⟩) 0 0) [] rfl ?_ (.slice ao E.length c) E rfl ?_ ?_ ?_ ?_; (first | exact Ow.drew (Ow.litAt _ _ _ (by simp) (by simp) [] (by simp)) | exact Ow.litAt _ _ _ (by simp) (by simp) [] (by simp)); exact HS.out.ext (by repeat (first | exact Ext.refl _ | assumption | exact Hid.out (by assumption) | refine Ext.alloc ?_ _ | refine Ext.drew ?_ | refine Ext.drewN ?_ _ | refine Ext.trans ?_ (by assumption))); (simp; omega); exact (by simp); intro v1 W1 ho1 ha1; obtain ⟨ao1, n1, c1, rfl⟩ := ho1.sh; have O1 := Lib.hid ho1; have x1 : Ext ((w.alloc (.cells #[.int .i64 N, .slice ao E.length c] 24)).alloc (.cells #[.int .i64 0, .slice none 0 0] 24)) W1 := Below.trans (by exact (by repeat (first | exact Ext.refl _ | assumption | exact Hid.out (by assumption) | refine Ext.alloc ?_ _ | refine Ext.drew ?_ | refine Ext.drewN ?_ _ | refine Ext.trans ?_ (by assumption)))) (ha1.below.mono (by simp)); obtain ⟨⟨i0, i1⟩, ⟨j0, j1⟩, l0, l1⟩ := HK.out W1 x1; clear ho1 ha1))
  all_goals go_wp2
  all_goals exact bodyPost_ret (v := .agg #[.int .i64 N, .slice ao1 n1 c1]) (by simp [results, Tryz.results29, go_sem, j0, j1]) rfl ⟨_, rfl, ((O1.out.set (by simp) _).set (by simp) _).sl, below_set (below_set ((ext_two w _ _).trans x1) (by simp) _) (by simp) _⟩

end Go.Proofs.YtdfleocknaackaaGreat
