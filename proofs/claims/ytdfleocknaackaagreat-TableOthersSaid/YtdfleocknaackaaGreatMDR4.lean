/- Layer 12, the document's answers: whether a fork is on its way; who goes ahead on an edge. -/
import Derived.Test.YtdfleocknaackaaGreatMDR
import Derived.Test.YtdfleocknaackaaGreatElem4V
import Derived.Deep.DeepCutAuto
import Derived.Deep.CutBlock
import Derived.Test.YtdfleocknaackaaGreatME
namespace Go.Proofs.YtdfleocknaackaaGreat
open Go.RowKit

def hitM (f t e : Int) (y : Ml) : Bool := (y.from_ == f) && (y.to_ == t) && (y.kind == 1) && (y.epoch == e) && (y.num == 0)
def goesB (l : List Ml) (f t e : Int) : Bool := l.any (hitM f t e)

def firstI (xf xd yf yd tf to_ : Bool) : Int :=
  if (xf && !xd) = true then 1 else if (yf && yd && !xf) = true then 1 else if (!xf && !yf && tf) = true then 1
  else if ((yf && !yd) || (xf && xd && !yf) || (!xf && !yf && to_)) = true then 2 else 0

end Go.Proofs.YtdfleocknaackaaGreat

/- Layer 12, the document's answers: who goes ahead of whom. -/
namespace Go.Proofs.YtdfleocknaackaaGreat
open Go.RowKit

theorem cells8 {w : World} {g : Nat} {u0 u1 u2 u3 u4 u5 u6 u7 : Value} {t : TypeId} (h : w.heap[g]? = some (.cells #[u0, u1, u2, u3, u4, u5, u6, u7] t (0, 0))) :
    ((w.cell? ⟨g, 0, none⟩ = some u0 ∧ w.cell? ⟨g, 1, none⟩ = some u1) ∧ w.cell? ⟨g, 2, none⟩ = some u2 ∧ w.cell? ⟨g, 3, none⟩ = some u3) ∧ (w.cell? ⟨g, 4, none⟩ = some u4 ∧ w.cell? ⟨g, 5, none⟩ = some u5) ∧ w.cell? ⟨g, 6, none⟩ = some u6 ∧ w.cell? ⟨g, 7, none⟩ = some u7 :=
  ⟨⟨⟨blk_cell h 0 rfl, blk_cell h 1 rfl⟩, blk_cell h 2 rfl, blk_cell h 3 rfl⟩, ⟨blk_cell h 4 rfl, blk_cell h 5 rfl⟩, blk_cell h 6 rfl, blk_cell h 7 rfl⟩

/-- what two nodes give: an arc, or none -/
def arc2 (m : List Ml) (a b : Dn) : List Arc :=
  let x := sideR a.sides b.id
  let y := sideR b.sides a.id
  if (x.2 && y.2 && decide (x.1.epoch = y.1.epoch)) = true then
    (let n := firstI x.1.fork x.1.dirty y.1.fork y.1.dirty (goesB m b.id a.id x.1.epoch) (goesB m a.id b.id x.1.epoch)
     if n = 1 then [⟨a.id, b.id⟩] else if n = 2 then [⟨b.id, a.id⟩] else [])
  else []
def arcsOf (m : List Ml) : List Dn → List Arc
  | [] => []
  | a :: l => l.flatMap (arc2 m a) ++ arcsOf m l
/-- .. of those up to k, and of k with those up to j -/
def arcsTo (m : List Ml) (L : List Dn) (k : Nat) : List Arc := (List.range k).flatMap fun i => match L[i]? with
  | some a => (L.drop (i + 1)).flatMap (arc2 m a)
  | none => []
theorem arcsTo_all (m : List Ml) : ∀ L : List Dn, arcsTo m L L.length = arcsOf m L
  | [] => rfl
  | a :: l => by
    have ih := arcsTo_all m l
    unfold arcsTo at ih ⊢
    rw [List.length_cons, List.range_succ_eq_map, List.flatMap_cons, List.flatMap_map]
    show _ ++ _ = l.flatMap (arc2 m a) ++ arcsOf m l
    rw [← ih]
    rfl
theorem arcsTo_next {m : List Ml} {L : List Dn} {k : Nat} {a : Dn} (h : L[k]? = some a) : arcsTo m L (k + 1) = arcsTo m L k ++ (L.drop (k + 1)).flatMap (arc2 m a) := by
  unfold arcsTo
  rw [List.range_succ, List.flatMap_append]
  simp [h]
theorem arc2_len (m : List Ml) (a b : Dn) : (arc2 m a b).length ≤ 1 := by
  unfold arc2
  simp only
  repeat' split
  all_goals simp
theorem flat_len (m : List Ml) (a : Dn) : ∀ l : List Dn, (l.flatMap (arc2 m a)).length ≤ l.length
  | [] => by simp
  | b :: l => by
    rw [List.flatMap_cons, List.length_append, List.length_cons]
    have := arc2_len m a b
    have := flat_len m a l
    omega
theorem arcsTo_len (m : List Ml) (L : List Dn) : ∀ k, (arcsTo m L k).length ≤ k * L.length
  | 0 => by simp [arcsTo]
  | k + 1 => by
    have ih := arcsTo_len m L k
    rw [Nat.succ_mul]
    cases h : L[k]? with
    | none =>
      have e : arcsTo m L (k + 1) = arcsTo m L k := by unfold arcsTo; rw [List.range_succ, List.flatMap_append]; simp [h]
      rw [e]; omega
    | some a =>
      rw [arcsTo_next h, List.length_append]
      have h2 := flat_len m a (L.drop (k + 1))
      rw [List.length_drop] at h2
      omega
theorem flat_next {m : List Ml} {a : Dn} {l : List Dn} {j : Nat} {b : Dn} (h : l[j]? = some b) : (l.take (j + 1)).flatMap (arc2 m a) = (l.take j).flatMap (arc2 m a) ++ arc2 m a b := by
  have hj := (List.getElem?_eq_some_iff.1 h).1
  rw [List.take_succ_eq_append_getElem hj, List.flatMap_append]
  simp [(List.getElem?_eq_some_iff.1 h).2]

end Go.Proofs.YtdfleocknaackaaGreat
