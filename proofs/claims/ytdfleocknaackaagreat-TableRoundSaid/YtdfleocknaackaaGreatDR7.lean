/- Layer 12, the document's answers: the graph that nodes are of. -/
import Derived.Test.YtdfleocknaackaaGreatMDR
import Derived.Test.YtdfleocknaackaaGreatMG9
import Derived.Deep.DeepCutAuto
import Derived.Deep.CutBlock
namespace Go.Proofs.YtdfleocknaackaaGreat
open Go.RowKit

/-- may a side stand there, behind last, among n nodes (back: the other one has a side to it)? -/
def sideOk (L : List Dn) (i : Nat) (last : Int) (s : Sd) : Bool :=
  decide (last < s.peer) && (decide (s.peer < L.length) && (decide (s.peer ≠ i) && (sideR (L.getD s.peer.toNat ⟨0, 0, []⟩).sides i).2))
def sidesOk (L : List Dn) (i : Nat) : Int → List Sd → Bool
  | _, [] => true
  | last, s :: l => sideOk L i last s && sidesOk L i s.peer l
def lastP : Int → List Sd → Int
  | last, [] => last
  | _, s :: l => lastP s.peer l
def edgesS (i : Nat) (l : List Sd) : List Edge := (l.filter fun s => decide ((i : Int) < s.peer)).map fun s => ⟨i, s.peer⟩
def nodesOk (L : List Dn) (k : Nat) : Bool := (List.range k).all fun i => decide ((L.getD i ⟨0, 0, []⟩).id = i) && sidesOk L i (-1) (L.getD i ⟨0, 0, []⟩).sides
def edgesD (L : List Dn) (k : Nat) : List Edge := (List.range k).flatMap fun i => edgesS i (L.getD i ⟨0, 0, []⟩).sides
def graphB (L : List Dn) : Bool := nodesOk L L.length && okG L.length (edgesD L L.length)
theorem sidesOk_app (L : List Dn) (i : Nat) : ∀ (l : List Sd) (last : Int) (s : Sd), sidesOk L i last (l ++ [s]) = (sidesOk L i last l && sideOk L i (lastP last l) s)
  | [], last, s => by simp [sidesOk, lastP]
  | t :: l, last, s => by
    show (sideOk L i last t && sidesOk L i t.peer (l ++ [s])) = (sideOk L i last t && sidesOk L i t.peer l && sideOk L i (lastP t.peer l) s)
    rw [sidesOk_app L i l t.peer s, Bool.and_assoc]
theorem sidesOk_pre (L : List Dn) (i : Nat) : ∀ (l r : List Sd) (last : Int), sidesOk L i last l = false → sidesOk L i last (l ++ r) = false
  | [], _, _, h => by simp [sidesOk] at h
  | t :: l, r, last, h => by
    show (sideOk L i last t && sidesOk L i t.peer (l ++ r)) = false
    have h : (sideOk L i last t && sidesOk L i t.peer l) = false := h
    cases e : sideOk L i last t with
    | false => rfl
    | true =>
      rw [e, Bool.true_and] at h
      rw [sidesOk_pre L i l r t.peer h]; rfl
theorem lastP_app (l : List Sd) (last : Int) (s : Sd) : lastP last (l ++ [s]) = s.peer := by
  induction l generalizing last with
  | nil => rfl
  | cons t l ih => exact ih t.peer
theorem lastP_low (L : List Dn) (i : Nat) : ∀ (l : List Sd) (last : Int), sidesOk L i last l = true → last ≤ lastP last l
  | [], _, _ => Int.le_refl _
  | s :: l, last, h => by
    have h : (sideOk L i last s && sidesOk L i s.peer l) = true := h
    rw [Bool.and_eq_true] at h
    have h1 := lastP_low L i l s.peer h.2
    have h2 := h.1
    unfold sideOk at h2
    rw [Bool.and_eq_true, decide_eq_true_eq] at h2
    show last ≤ lastP s.peer l
    omega
theorem edgesS_app (i : Nat) (l : List Sd) (s : Sd) : edgesS i (l ++ [s]) = edgesS i l ++ (if decide ((i : Int) < s.peer) = true then [⟨i, s.peer⟩] else []) := by
  unfold edgesS
  rw [List.filter_append, List.map_append, List.filter_cons]
  split <;> rfl
theorem edgesS_len (i : Nat) (l : List Sd) : (edgesS i l).length ≤ l.length := by
  unfold edgesS
  rw [List.length_map]
  exact List.length_filter_le _ _
theorem nodesOk_next (L : List Dn) (k : Nat) : nodesOk L (k + 1) = (nodesOk L k && (decide ((L.getD k ⟨0, 0, []⟩).id = k) && sidesOk L k (-1) (L.getD k ⟨0, 0, []⟩).sides)) := by
  unfold nodesOk
  rw [List.range_succ, List.all_append]
  simp
theorem nodesOk_no {L : List Dn} {k n : Nat} (hk : k < n) (h : (decide ((L.getD k ⟨0, 0, []⟩).id = k) && sidesOk L k (-1) (L.getD k ⟨0, 0, []⟩).sides) = false) : nodesOk L n = false := by
  unfold nodesOk
  rw [List.all_eq_false]
  exact ⟨k, List.mem_range.2 hk, by rw [h]; simp⟩
theorem edgesD_next (L : List Dn) (k : Nat) : edgesD L (k + 1) = edgesD L k ++ edgesS k (L.getD k ⟨0, 0, []⟩).sides := by
  unfold edgesD
  rw [List.range_succ, List.flatMap_append]
  simp

def graphR (L : List Dn) : Int × List Edge × Bool := if graphB L = true then ((L.length : Int), edgesD L L.length, true) else (0, [], false)
theorem graphR_no {L : List Dn} (h : graphB L = false) : graphR L = (0, [], false) := by unfold graphR; rw [h]; rfl
theorem graphR_yes {L : List Dn} (h : graphB L = true) : graphR L = ((L.length : Int), edgesD L L.length, true) := by unfold graphR; rw [h]; rfl
theorem three {α β γ : Type} {a x : α} {b y : β} {c z : γ} (h : (a, b, c) = (x, y, z)) : a = x ∧ b = y ∧ c = z := by simpa using h

/-- while the graph is told: the block of the answer, that of the graph, its edges -/
structure GrAt (w : World) (n : Nat) (E : List Edge) (wr : World) : Prop where
  ext : Ext w wr
  res : wr.heap[w.heap.size]? = some (.cells #[.int .i64 0, .slice none 0 0] 24 (0, 0))
  blk : ∃ eo en ec, wr.heap[w.heap.size + 1]? = some (.cells #[.int .i64 (n : Int), .slice eo en ec] 24 (0, 0)) ∧ Ow wr (w.heap.size + 2) (.slice eo en ec) E
theorem GrAt.start (w : World) (n : Nat) : GrAt w n [] ((w.alloc (.cells #[.int .i64 0, .slice none 0 0] 24)).alloc (.cells #[.int .i64 (n : Int), .slice none 0 0] 24)) :=
  ⟨((Ext.refl w).alloc _).alloc _, old1 (at0 w _) _, none, 0, 0, at1 w _ _, Ow.nil _ _⟩
theorem GrAt.more {w wr W : World} {n : Nat} {E : List Edge} (h : GrAt w n E wr) (x : Ext wr W) : GrAt w n E W := by
  obtain ⟨eo, en, ec, hb, ho⟩ := h.blk
  exact ⟨h.ext.trans x, (x.block _ (blk_lt h.res)).trans h.res, eo, en, ec, (x.block _ (blk_lt hb)).trans hb, ho.ext x⟩
theorem GrAt.step {w W W2 : World} {n : Nat} {E M : List Edge} {ao : Option Addr} {k c : Nat} (h : GrAt w n E W) (b : Below (w.heap.size + 2) W W2) (ho : Ow W2 (w.heap.size + 2) (.slice ao k c) M) :
    GrAt w n M (W2.setCell ⟨w.heap.size + 1, 1, none⟩ (.slice ao k c)) := by
  obtain ⟨eo, en, ec, hb, _⟩ := h.blk
  have hb2 := (b.block (w.heap.size + 1) (by omega)).trans hb
  have hr2 := (b.block w.heap.size (by omega)).trans h.res
  exact ⟨below_set (Below.trans h.ext (b.mono (by omega))) (by show w.heap.size ≤ w.heap.size + 1; omega) _, (set_other _ _ _ _ (by show w.heap.size ≠ w.heap.size + 1; omega)).trans hr2, ao, k, c, by rw [blk_set hb2]; rfl, ho.set (by show w.heap.size + 1 < _; omega) _⟩
theorem GrAt.cells {w wr : World} {n : Nat} {E : List Edge} (h : GrAt w n E wr) : ∃ eo en ec, (wr.cell? ⟨w.heap.size, 0, none⟩ = some (.int .i64 0) ∧ wr.cell? ⟨w.heap.size, 1, none⟩ = some (.slice none 0 0)) ∧ (wr.frozen? ⟨w.heap.size, 0, none⟩ = false ∧ wr.frozen? ⟨w.heap.size, 1, none⟩ = false) ∧
    (wr.cell? ⟨w.heap.size + 1, 0, none⟩ = some (.int .i64 (n : Int)) ∧ wr.cell? ⟨w.heap.size + 1, 1, none⟩ = some (.slice eo en ec)) ∧ wr.frozen? ⟨w.heap.size + 1, 1, none⟩ = false ∧ Ow wr (w.heap.size + 2) (.slice eo en ec) E := by
  obtain ⟨eo, en, ec, hb, ho⟩ := h.blk
  exact ⟨eo, en, ec, ⟨blk_cell h.res 0 rfl, blk_cell h.res 1 rfl⟩, ⟨blk_free h.res 0, blk_free h.res 1⟩, ⟨blk_cell hb 0 rfl, blk_cell hb 1 rfl⟩, blk_free hb 1, ho⟩

end Go.Proofs.YtdfleocknaackaaGreat
