/- Blocks that stay, cells of an element that is stored: what layer 17 wants of older layers' texts. -/
import Derived.Test.YtgcnjkabpcbkgaaOff
import Derived.Test.YtgcnjkabpcbkgaaBlk
import Derived.Test.YtgcnjkabpcbkgaaJA
import Derived.Test.YtgcnjkabpcbkgaaRegX
namespace Go.Proofs.Ytgcnjkabpcbkgaa
open Go.RowKit

theorem keepU {w W : World} {g : Nat} {o : Obj} (h : w.heap[g]? = some o) (e : Ext w W) : W.heap[g]? = some o := (e.block _ (blk_lt h)).trans h
theorem owU {α : Type} [Elem α] {w w' : World} {B : Nat} {v : Value} {xs : List α} (h : Ow w B v xs) (hq : ∀ b, v.ownBlock = some b → w'.heap[b]? = w.heap[b]?) : Ow w' B v xs := by
  refine ⟨h.1, ?_⟩
  rcases h.2 with h2 | ⟨g, cap, cur, rfl, hg, hh, r⟩
  · exact .inl h2
  · exact .inr ⟨g, cap, cur, rfl, hg, (hq g rfl).trans hh, r⟩
theorem cellsOf_set {α : Type} [Elem α] : ∀ (xs : List α) (k : Nat) (x : α), k < xs.length → cellsOf (xs.set k x) = (cellsOf xs).take (k * Elem.k α) ++ Elem.enc x ++ (cellsOf xs).drop (k * Elem.k α + Elem.k α) := by
  intro xs k x hk
  rw [List.set_eq_take_append_cons_drop, if_pos hk, cellsOf_append, ← cellsOf_take, List.append_assoc]
  congr 1
  show Elem.enc x ++ cellsOf (xs.drop (k + 1)) = _
  rw [cellsOf_drop, Nat.succ_mul]
theorem Ow.setAt {α : Type} [Elem α] {w : World} {B : Nat} {ao : Option Addr} {n c k : Nat} {xs : List α} (h : Ow w B (.slice ao n c) xs) (hk : k < xs.length) (x : α) :
    ∃ g cur, ao = some ⟨g, 0, none⟩ ∧ B ≤ g ∧ n = xs.length ∧ n ≤ c ∧ c ≤ 9223372036854775807 ∧ w.heap[g]? = some (.cells cur (Elem.e α) (0, 0)) ∧ k * Elem.k α + Elem.k α ≤ cur.size ∧
      ∀ W, W.heap[g]? = some (.cells (cur.toList.take (k * Elem.k α) ++ Elem.enc x ++ cur.toList.drop (k * Elem.k α + Elem.k α)).toArray (Elem.e α) (0, 0)) → Ow W B (.slice ao n c) (xs.set k x) := by
  obtain ⟨h1, h2⟩ := h
  rcases h2 with ⟨h2, h3⟩ | ⟨g, cap, cur, hv, hg, hh, hnc, hc63, hsz, htk⟩
  · rw [h3] at hk; omega
  · simp only [Value.slice.injEq] at hv
    obtain ⟨rfl, rfl, rfl⟩ := hv
    have hpos : (k + 1) * Elem.k α ≤ xs.length * Elem.k α := Nat.mul_le_mul_right _ hk
    have hcap : xs.length * Elem.k α ≤ c * Elem.k α := Nat.mul_le_mul_right _ hnc
    have hk1 : (k + 1) * Elem.k α = k * Elem.k α + Elem.k α := Nat.succ_mul _ _
    have hle : (Elem.enc x).length = Elem.k α := Elem.len x
    have hcl : cur.toList.length = c * Elem.k α := by rw [Array.length_toList]; exact hsz
    have e1 : List.take (k * Elem.k α) (List.take (xs.length * Elem.k α) cur.toList) = List.take (k * Elem.k α) cur.toList := by rw [List.take_take, Nat.min_eq_left (by omega)]
    have e2 : List.drop (k * Elem.k α + Elem.k α) (List.take (xs.length * Elem.k α) cur.toList) = List.take (xs.length * Elem.k α - (k * Elem.k α + Elem.k α)) (List.drop (k * Elem.k α + Elem.k α) cur.toList) := List.drop_take ..
    have e3 : (List.take (k * Elem.k α) cur.toList ++ Elem.enc x).length = k * Elem.k α + Elem.k α := by rw [List.length_append, List.length_take, hle, hcl, Nat.min_eq_left (by omega)]
    refine ⟨g, cur, rfl, hg, rfl, hnc, hc63, hh, by omega, fun W hW => ⟨?_, .inr ⟨g, c, _, ?_, hg, hW, ?_, hc63, ?_, ?_⟩⟩⟩
    · rw [cellsOf_length, List.length_set]
    · rw [List.length_set]
    · rw [List.length_set]; exact hnc
    · rw [List.size_toArray, List.length_append, e3, List.length_drop, hcl]
      omega
    · rw [cellsOf_set xs k x hk, ← htk, List.length_set, e1, e2]
      show List.take _ (_ ++ List.drop _ _) = _
      rw [List.take_append, e3, List.take_of_length_le (by rw [e3]; omega)]
theorem slNoneU {α : Type} [Elem α] (w : World) : Sl w (.slice none 0 0) ([] : List α) := (Sa.nil (fun _ => False) w).sl
theorem extU2 {w wr W : World} {o : Obj} (h : Ext w wr) (e : W = wr.alloc o) : Ext w W := e ▸ h.alloc _
theorem slOffU {α : Type} [Elem α] {w w' : World} {v : Value} {xs : List α} {g n : Nat} (h : Sl w v xs) (hv : ∀ b, v.ownBlock = some b → n ≤ b) (o : Off (fun b => b = g) w w') (hg : g < n) : Sl w' v xs :=
  h.off (.inr fun b hb e => by have := hv b hb; omega) o
theorem slOffW {α : Type} [Elem α] {w w' : World} {v : Value} {xs : List α} {g : Nat} (h : Sl w v xs) (hv : xs = [] ∨ ∀ b, v.ownBlock = some b → b ≠ g) (o : Off (fun b => b = g) w w') : Sl w' v xs :=
  h.off (hv.imp id fun h b hb e => h b hb e) o
theorem all_nextD {α : Type} {xs : List α} {k : Nat} {y : α} (p : α → Bool) (h : xs[k]? = some y) : (xs.take (k + 1)).all p = ((xs.take k).all p && p y) := by
  have hk := (List.getElem?_eq_some_iff.1 h).1
  rw [List.take_succ_eq_append_getElem hk, List.all_append]
  have := (List.getElem?_eq_some_iff.1 h).2
  simp [this]
theorem all_takeD {α : Type} {xs : List α} {p : α → Bool} {k n : Nat} (hkn : k ≤ n) (h : (xs.take k).all p = false) : (xs.take n).all p = false := by
  rw [List.all_eq_false] at *
  obtain ⟨x, h1, h2⟩ := h
  refine ⟨x, ?_, h2⟩
  rw [show xs.take k = (xs.take n).take k by rw [List.take_take, Nat.min_eq_left hkn]] at h1
  exact List.mem_of_mem_take h1
theorem cell_atD {w : World} {cs : Array Value} {t : TypeId} {i : Nat} {u : Value} (W : World) (h : Ext (w.alloc (.cells cs t (0, 0))) W) (hu : cs[i]? = some u) : W.cell? ⟨w.heap.size, i, none⟩ = some u :=
  blk_cell (box1 (h.mono (by rw [size_alloc]; omega))) i hu
theorem cellsOf_set1 {α : Type} [Elem α] (i : Nat) (u : Value) (x' : α) : ∀ (xs : List α) (k : Nat) (x : α), xs[k]? = some x → i < Elem.k α → Elem.enc x' = (Elem.enc x).set i u → cellsOf (xs.set k x') = (cellsOf xs).set (k * Elem.k α + i) u
  | [], _, _, h, _, _ => by simp at h
  | y :: ys, 0, x, h, hi, he => by
    obtain rfl : y = x := by simpa using h
    show Elem.enc x' ++ cellsOf ys = (Elem.enc y ++ cellsOf ys).set (0 * Elem.k α + i) u
    rw [he, Nat.zero_mul, Nat.zero_add, List.set_append_left _ _ (by rw [Elem.len]; exact hi)]
  | y :: ys, k + 1, x, h, hi, he => by
    have ih := cellsOf_set1 i u x' ys k x (by simpa using h) hi he
    show Elem.enc y ++ cellsOf (ys.set k x') = (Elem.enc y ++ cellsOf ys).set ((k + 1) * Elem.k α + i) u
    have hl := Elem.len y
    rw [ih, Nat.succ_mul, List.set_append_right _ _ (by omega), hl, show k * Elem.k α + Elem.k α + i - Elem.k α = k * Elem.k α + i from by omega]
theorem Ow.setCell1 {α : Type} [Elem α] {w : World} {B : Nat} {b off n c k i : Nat} {xs : List α} {x x' : α} {u : Value} (h : Ow w B (.slice (some ⟨b, off, none⟩) n c) xs) (hk : xs[k]? = some x) (hi : i < Elem.k α) (he : Elem.enc x' = (Elem.enc x).set i u) :
    off = 0 ∧ B ≤ b ∧ w.frozen? ⟨b, off + k * Elem.k α + i, none⟩ = false ∧ Ow (w.setCell ⟨b, off + k * Elem.k α + i, none⟩ u) B (.slice (some ⟨b, off, none⟩) n c) (xs.set k x') := by
  obtain ⟨h1, h2⟩ := h
  have hkl := (List.getElem?_eq_some_iff.1 hk).1
  rcases h2 with ⟨h2, h3⟩ | ⟨g, cap, cur, hv, hg, hh, hnc, hc63, hsz, htk⟩
  · rw [h3] at hkl; omega
  · simp only [Value.slice.injEq, Option.some.injEq, Addr.mk.injEq] at hv
    obtain ⟨⟨rfl, rfl, _⟩, rfl, rfl⟩ := hv
    refine ⟨rfl, hg, blk_free hh _, ?_, .inr ⟨b, c, cur.setIfInBounds (k * Elem.k α + i) u, ?_, hg, ?_, ?_, hc63, ?_, ?_⟩⟩
    · rw [cellsOf_length, List.length_set]
    · rw [List.length_set]
    · rw [Nat.zero_add]; exact blk_set hh _ _
    · rw [List.length_set]; exact hnc
    · rw [Array.size_setIfInBounds]; exact hsz
    · rw [cellsOf_set1 i u x' xs k x hk hi he, ← htk, List.length_set, Array.toList_setIfInBounds, List.take_set]

end Go.Proofs.Ytgcnjkabpcbkgaa
