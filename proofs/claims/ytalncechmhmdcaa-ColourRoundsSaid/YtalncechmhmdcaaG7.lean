/- A graph with an edge, and without one. -/
import Derived.Test.YtalncechmhmdcaaG5
namespace Go.Proofs.Ytalncechmhmdcaa
open Go.RowKit

/-- A graph and a number come out. -/
def GivesG (w : World) (N : Int) (E : List Edge) (r : Int) (e : Ending) (w' : World) : Prop := ∃ v, e = .returned (.tuple #[.agg #[.int .i64 N, v], .int .i64 r]) ∧ Sl w' v E ∧ Ext w w'

/-- The block of an argument and the one of a result. -/
theorem two_graphs (w : World) (N : Int) (v : Value) (W : World) (h : Ext ((w.alloc (.cells #[.int .i64 N, v] 24)).alloc (.cells #[.int .i64 0, .slice none 0 0] 24)) W) :
    (W.cell? ⟨w.heap.size, 0, none⟩ = some (.int .i64 N) ∧ W.cell? ⟨w.heap.size, 1, none⟩ = some v) ∧ (W.cell? ⟨w.heap.size + 1, 0, none⟩ = some (.int .i64 0) ∧ W.cell? ⟨w.heap.size + 1, 1, none⟩ = some (.slice none 0 0)) ∧
    W.frozen? ⟨w.heap.size + 1, 0, none⟩ = false ∧ W.frozen? ⟨w.heap.size + 1, 1, none⟩ = false := by
  obtain ⟨hA, hB⟩ := box2 (h.mono (by rw [size_alloc, size_alloc]; omega))
  exact ⟨⟨blk_cell hA 0 rfl, blk_cell hA 1 rfl⟩, ⟨blk_cell hB 0 rfl, blk_cell hB 1 rfl⟩, blk_free hB 0, blk_free hB 1⟩
theorem ext_two (w : World) (A B : Obj) : Ext w ((w.alloc A).alloc B) := ((Ext.refl w).alloc _).alloc _
theorem Sl.nilg (w : World) : Sl w (.slice none 0 0) ([] : List Edge) := Sl.empty _ _ _ (by omega) (fun _ => rfl)

theorem low_two {w W : World} {A B : Obj} (h : Ext ((w.alloc A).alloc B) W) : Below (w.heap.size + 1) (w.alloc A) W :=
  Below.trans (below_alloc_at (Below.refl _ _) (by rw [size_alloc]; omega) B) (h.mono (by rw [size_alloc, size_alloc]; omega))
/-- The argument's block, when stores go behind it. -/
theorem one_graph (w : World) (N : Int) (v : Value) (W : World) (h : Below (w.heap.size + 1) (w.alloc (.cells #[.int .i64 N, v] 24)) W) : W.cell? ⟨w.heap.size, 0, none⟩ = some (.int .i64 N) ∧ W.cell? ⟨w.heap.size, 1, none⟩ = some v := by
  have hA := box1 h
  exact ⟨blk_cell hA 0 rfl, blk_cell hA 1 rfl⟩

theorem parts_of {E : List Edge} (x : Edge) (h : Rises E) (hx : x ∉ E) : (E.filter fun e => ord e x == -1) ++ ([x] ++ (E.filter fun e => ord e x == 1)) = insE x E := by
  rw [← insE_parts h hx]
  have h1 : (fun e => ord e x == -1) = (fun e => ahead e x) := funext fun e => by rw [← ord_neg]; rfl
  have h2 : (fun e => ord e x == 1) = (fun e => ahead x e) := funext fun e => by rw [← ord_pos]; rfl
  rw [h1, h2]

theorem cell_new {w : World} {cs : Array Value} {t : TypeId} {i n : Nat} {u : Value} (hn : n = w.heap.size) (hu : cs[i]? = some u) : (w.alloc (.cells cs t (0, 0))).cell? ⟨n, i, none⟩ = some u := by
  subst hn
  exact blk_cell (get_alloc_new _ _) i hu

end Go.Proofs.Ytalncechmhmdcaa
