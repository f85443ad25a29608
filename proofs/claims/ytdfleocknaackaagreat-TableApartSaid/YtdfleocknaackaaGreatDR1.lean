/- Layer 12, the document's answers: a node's side to a peer. -/
import Derived.Test.YtdfleocknaackaaGreatMN
import Derived.Test.YtdfleocknaackaaGreatMK
import Derived.BigGuard
import Derived.IntWalk
namespace Go.Proofs.YtdfleocknaackaaGreat
open Go.RowKit

theorem uSide : ∃ fs, Tryz.prog.underlying 52 = some (.struct fs) := ⟨_, Tryz.underlying52⟩
def sideR (L : List Sd) (p : Int) : Sd × Bool := match L.find? (fun s => s.peer == p) with
  | some s => (s, true)
  | none => (Sd.zero, false)
theorem sideR_at {L : List Sd} {p : Int} {k : Nat} {y : Sd} (h : (L.take k).any (fun s => s.peer == p) = false) (hy : L[k]? = some y) (hp : (y.peer == p) = true) : sideR L p = (y, true) := by
  have hk := (List.getElem?_eq_some_iff.1 hy).1
  have e : L = L.take k ++ y :: L.drop (k + 1) := by
    have := (List.getElem?_eq_some_iff.1 hy).2
    rw [← this, List.getElem_cons_drop hk, List.take_append_drop]
  unfold sideR
  rw [e, List.find?_append]
  have h2 : (L.take k).find? (fun s => s.peer == p) = none := by
    rw [List.find?_eq_none]
    intro x hx
    have := List.any_eq_false.1 h x hx
    simpa using this
  rw [h2]
  simp [hp]
theorem sideR_none {L : List Sd} {p : Int} (h : L.any (fun s => s.peer == p) = false) : sideR L p = (Sd.zero, false) := by
  unfold sideR
  have h2 : L.find? (fun s => s.peer == p) = none := by
    rw [List.find?_eq_none]
    intro x hx
    have := List.any_eq_false.1 h x hx
    simpa using this
  rw [h2]
theorem any_nextD {α : Type} {xs : List α} {k : Nat} {y : α} (p : α → Bool) (h : xs[k]? = some y) : (xs.take (k + 1)).any p = ((xs.take k).any p || p y) := by
  have hk := (List.getElem?_eq_some_iff.1 h).1
  rw [List.take_succ_eq_append_getElem hk, List.any_append]
  have := (List.getElem?_eq_some_iff.1 h).2
  simp [this]

end Go.Proofs.YtdfleocknaackaaGreat
