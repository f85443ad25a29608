/- Layer 13, the document's answers: whether a diner may be. -/
import Derived.Test.YtdfleocknaackaaGreatMU1
import Derived.Deep.QuietTactic
import Derived.Test.YtdfleocknaackaaGreatSt
import Derived.Test.YtdfleocknaackaaGreatME
namespace Go.Proofs.YtdfleocknaackaaGreat
open Go.RowKit

theorem side_no {id last : Int} {s : Sd} (h : s.peer ≤ last ∨ s.peer = id ∨ s.epoch < 0 ∨ 65535 < s.epoch ∨ s.state < 0 ∨ 3 < s.state ∨ (s.dirty = true ∧ s.fork = false)) : sideD id last s = false := by
  unfold sideD
  rcases h with h | h | h | h | h | h | ⟨h, h2⟩
  · rw [decide_eq_false (by omega)]; rfl
  · rw [show decide (s.peer ≠ id) = false from decide_eq_false (by simpa using h)]; simp
  · rw [show decide (0 ≤ s.epoch) = false from decide_eq_false (by omega)]; simp
  · rw [show decide (s.epoch ≤ 65535) = false from decide_eq_false (by omega)]; simp
  · rw [show decide (0 ≤ s.state) = false from decide_eq_false (by omega)]; simp
  · rw [show decide (s.state ≤ 3) = false from decide_eq_false (by omega)]; simp
  · rw [h, h2]; simp
theorem side_yes {id last : Int} {s : Sd} (h1 : last < s.peer) (h2 : s.peer ≠ id) (h3 : 0 ≤ s.epoch) (h4 : s.epoch ≤ 65535) (h5 : 0 ≤ s.state) (h6 : s.state ≤ 3) (h7 : s.dirty = false ∨ s.fork = true) : sideD id last s = true := by
  unfold sideD
  rw [decide_eq_true h1, decide_eq_true h2, decide_eq_true h3, decide_eq_true h4, decide_eq_true h5, decide_eq_true h6]
  rcases h7 with h | h <;> rw [h] <;> simp
theorem side_eq (id last : Int) (s : Sd) : sideD id last s = !(decide (s.peer ≤ last ∨ s.peer = id) || decide (s.epoch < 0) || decide (65535 < s.epoch) || decide (s.state < 0) || decide (3 < s.state) || (s.dirty && !s.fork)) := by
  by_cases h1 : s.peer ≤ last
  · rw [side_no (.inl h1), decide_eq_true (.inl h1)]; rfl
  by_cases h2 : s.peer = id
  · rw [side_no (.inr (.inl h2)), decide_eq_true (.inr h2)]; rfl
  rw [decide_eq_false (show ¬ (s.peer ≤ last ∨ s.peer = id) by omega)]
  by_cases h3 : s.epoch < 0
  · rw [side_no (.inr (.inr (.inl h3))), decide_eq_true h3]; rfl
  by_cases h4 : 65535 < s.epoch
  · rw [side_no (.inr (.inr (.inr (.inl h4)))), decide_eq_true h4, decide_eq_false h3]; rfl
  by_cases h5 : s.state < 0
  · rw [side_no (.inr (.inr (.inr (.inr (.inl h5))))), decide_eq_true h5, decide_eq_false h3, decide_eq_false h4]; rfl
  by_cases h6 : 3 < s.state
  · rw [side_no (.inr (.inr (.inr (.inr (.inr (.inl h6)))))), decide_eq_true h6, decide_eq_false h3, decide_eq_false h4, decide_eq_false h5]; rfl
  rw [decide_eq_false h3, decide_eq_false h4, decide_eq_false h5, decide_eq_false h6]
  cases hd : s.dirty
  · rw [side_yes (by omega) h2 (by omega) (by omega) (by omega) (by omega) (.inl hd)]; rfl
  cases hf : s.fork
  · rw [side_no (.inr (.inr (.inr (.inr (.inr (.inr ⟨hd, hf⟩))))))]; rfl
  · rw [side_yes (by omega) h2 (by omega) (by omega) (by omega) (by omega) (.inr hf)]; rfl
theorem extU {w wr W : World} {o : Obj} (h : Ext w wr) (e : W = wr.alloc o) : Ext w W := e ▸ h.alloc _
theorem lastD_at : ∀ (L : List Sd) (k : Nat) (s : Sd) (last : Int), L[k]? = some s → lastD last (L.take (k + 1)) = s.peer
  | [], _, _, _, h => by simp at h
  | t :: L, 0, s, last, h => by simp at h; subst h; simp [lastD]
  | t :: L, k + 1, s, last, h => by
    rw [List.getElem?_cons_succ] at h
    show lastD t.peer (L.take (k + 1)) = s.peer
    exact lastD_at L k s _ h

end Go.Proofs.YtdfleocknaackaaGreat

/- Layer 13, the document's answers: the first rule that applies. -/
namespace Go.Proofs.YtdfleocknaackaaGreat
open Go.RowKit

theorem eatK {α : Type} (f : α → α) (L : List α) (k : Nat) (s : α) (hs : L[k]? = some s) : ((L.take k).map f ++ L.drop k).set k (f s) = (L.take (k + 1)).map f ++ L.drop (k + 1) := by
  have hk := (List.getElem?_eq_some_iff.1 hs).1
  have hl : ((L.take k).map f).length = k := by rw [List.length_map, List.length_take]; omega
  have he : L.drop k = s :: L.drop (k + 1) := by
    have := (List.getElem?_eq_some_iff.1 hs).2
    rw [← this, List.getElem_cons_drop hk]
  rw [List.take_succ_eq_append_getElem hk, (List.getElem?_eq_some_iff.1 hs).2, List.map_append, he, List.set_append_right _ _ (by omega), hl, Nat.sub_self]
  simp
theorem eatK_at {α : Type} (f : α → α) (L : List α) (k : Nat) (s : α) (hs : L[k]? = some s) : ((L.take k).map f ++ L.drop k)[k]? = some s ∧ ((L.take k).map f ++ L.drop k).length = L.length := by
  have hk := (List.getElem?_eq_some_iff.1 hs).1
  have hl : ((L.take k).map f).length = k := by rw [List.length_map, List.length_take]; omega
  refine ⟨?_, by rw [List.length_append, hl, List.length_drop]; omega⟩
  rw [List.getElem?_append_right (by omega), hl, Nat.sub_self, List.getElem?_drop, Nat.add_zero]
  exact hs
theorem all_nextU {L : List Sd} {k : Nat} {s : Sd} (p : Sd → Bool) (h : L[k]? = some s) : (L.take (k + 1)).all p = ((L.take k).all p && p s) := by
  have hk := (List.getElem?_eq_some_iff.1 h).1
  rw [List.take_succ_eq_append_getElem hk, (List.getElem?_eq_some_iff.1 h).2, List.all_append]
  simp

theorem slNoneU {α : Type} [Elem α] (w : World) : Sl w (.slice none 0 0) ([] : List α) := (Sa.nil (fun _ => False) w).sl
theorem extU2 {w wr W : World} {o : Obj} (h : Ext w wr) (e : W = wr.alloc o) : Ext w W := e ▸ h.alloc _
theorem slOffU {α : Type} [Elem α] {w w' : World} {v : Value} {xs : List α} {g n : Nat} (h : Sl w v xs) (hv : ∀ b, v.ownBlock = some b → n ≤ b) (o : Off (fun b => b = g) w w') (hg : g < n) : Sl w' v xs :=
  h.off (.inr fun b hb e => by have := hv b hb; omega) o
theorem slOffW {α : Type} [Elem α] {w w' : World} {v : Value} {xs : List α} {g : Nat} (h : Sl w v xs) (hv : xs = [] ∨ ∀ b, v.ownBlock = some b → b ≠ g) (o : Off (fun b => b = g) w w') : Sl w' v xs :=
  h.off (hv.imp id fun h b hb e => h b hb e) o

def GivesOne (w : World) (d : Dn) (v : Value) (e : Ending) (w' : World) : Prop := ∃ (d' : Dn) (l : List Ml) (b : Bool) (v' vl : Value), e = .returned (.tuple #[.agg #[.int .i64 d'.id, .int .i64 d'.phase, v'], vl, .bool b]) ∧ One d d' l b ∧ Sl w' v' d'.sides ∧ Sl w' vl l ∧ Ext w w' ∧ (v' = v ∨ ∀ b, v'.ownBlock = some b → w.heap.size ≤ b) ∧ ∀ b, vl.ownBlock = some b → w.heap.size ≤ b

end Go.Proofs.YtdfleocknaackaaGreat
