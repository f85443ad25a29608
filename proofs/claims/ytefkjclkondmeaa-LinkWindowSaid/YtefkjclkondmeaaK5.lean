/- Links: the document's Take. -/
import Derived.Test.YtefkjclkondmeaaK4
namespace Go.Proofs.Ytefkjclkondmeaa
open Go.RowKit

theorem gone_some {S : EndS} (h : S.Ok) {a k : Nat} (ha : a < 18446744073709551616) (hk : S.gone a = k) (h1 : 1 ≤ k) : k ≤ S.ever ∧ a = (S.first + k) % 18446744073709551616 ∧ ∀ j, 1 ≤ j → j < k → a ≠ (S.first + j) % 18446744073709551616 := by
  have hf := h.first
  have he := h.ew
  have hw := h.win8
  unfold EndS.gone at hk
  split at hk
  · next hc =>
    refine ⟨by omega, by omega, fun j j1 j2 => by omega⟩
  · omega

theorem gone_none {S : EndS} (h : S.Ok) {a : Nat} (ha : a < 18446744073709551616) (hk : S.gone a = 0) : ∀ j, 1 ≤ j → j ≤ S.ever → a ≠ (S.first + j) % 18446744073709551616 := by
  have hf := h.first
  have he := h.ew
  have hw := h.win8
  unfold EndS.gone at hk
  split at hk
  · next hc => omega
  · next hc =>
    intro j j1 j2 e
    apply hc
    omega

theorem cells5 {W : World} {g : Nat} {v0 v1 v2 v3 v4 : Value} {t : TypeId} (h : W.heap[g]? = some (.cells #[v0, v1, v2, v3, v4] t (0, 0))) :
    (W.cell? ⟨g, 0, none⟩ = some v0 ∧ W.cell? ⟨g, 1, none⟩ = some v1 ∧ W.cell? ⟨g, 2, none⟩ = some v2 ∧ W.cell? ⟨g, 3, none⟩ = some v3 ∧ W.cell? ⟨g, 4, none⟩ = some v4) ∧
    (W.frozen? ⟨g, 0, none⟩ = false ∧ W.frozen? ⟨g, 1, none⟩ = false ∧ W.frozen? ⟨g, 2, none⟩ = false ∧ W.frozen? ⟨g, 3, none⟩ = false ∧ W.frozen? ⟨g, 4, none⟩ = false) :=
  ⟨⟨blk_cell h 0 rfl, blk_cell h 1 rfl, blk_cell h 2 rfl, blk_cell h 3 rfl, blk_cell h 4 rfl⟩, blk_free h 0, blk_free h 1, blk_free h 2, blk_free h 3, blk_free h 4⟩

theorem box3 {w W : World} {A B C : Obj} (x : Ext (((w.alloc A).alloc B).alloc C) W) : W.heap[w.heap.size]? = some A ∧ W.heap[w.heap.size + 1]? = some B ∧ W.heap[w.heap.size + 1 + 1]? = some C := by
  have h1 := (x.block w.heap.size (by simp only [size_alloc]; omega)).trans (blk_alloc (blk_alloc (get_alloc_new w A) B) C)
  have h2 := (x.block (w.alloc A).heap.size (by simp only [size_alloc]; omega)).trans (blk_alloc (get_alloc_new (w.alloc A) B) C)
  have h3 := (x.block ((w.alloc A).alloc B).heap.size (by simp only [size_alloc]; omega)).trans (get_alloc_new ((w.alloc A).alloc B) C)
  rw [size_alloc] at h2
  rw [size_alloc, size_alloc] at h3
  exact ⟨h1, h2, h3⟩
theorem set11_other {W : World} {g b : Nat} (h : b ≠ g) (u0 u1 u2 u3 u4 u5 u6 u7 u8 u9 u10 : Value) : (set11 W g u0 u1 u2 u3 u4 u5 u6 u7 u8 u9 u10).heap[b]? = W.heap[b]? := by
  unfold set11
  rw [set_other _ _ _ _ h, set_other _ _ _ _ h, set_other _ _ _ _ h, set_other _ _ _ _ h, set_other _ _ _ _ h, set_other _ _ _ _ h, set_other _ _ _ _ h, set_other _ _ _ _ h, set_other _ _ _ _ h, set_other _ _ _ _ h, set_other _ _ _ _ h]
/-- what is behind the first k texts -/
theorem Sa.tailT {F : Nat → Prop} {w : World} {b off c : Nat} {l : List ByteArray} (h : Sa F w (.slice (some ⟨b, off, none⟩) l.length c) l) (k : Nat) (hk : k ≤ l.length) (hc : l.length ≤ c) :
    (k = c → Sa F w (.slice (some ⟨b, off, none⟩) 0 0) (l.drop k)) ∧ (¬ k = c → Sa F w (.slice (some ⟨b, off + k, none⟩) (l.length - k) (c - k)) (l.drop k)) := by
  have ht := h.1.tail k hk
  have hv : Av F (.slice (some ⟨b, off, none⟩) l.length c) l := h.2
  have ha : ∀ o n d, Av F (.slice (some ⟨b, o, none⟩) n d) (l.drop k) := fun o n d => by
    rcases hv with h0 | h0
    · exact .inl (by rw [h0]; simp)
    · exact .inr fun b' e => h0 b' (by cases e; rfl)
  constructor
  · intro e
    subst e
    rw [if_pos rfl, show l.length - k = 0 by omega, show k - k = 0 by omega] at ht
    exact ⟨ht, ha _ _ _⟩
  · intro e
    rw [if_neg (fun h9 => e h9.symm)] at ht
    rw [show off + k * Elem.k ByteArray = off + k by show off + k * 1 = _; omega] at ht
    exact ⟨ht, ha _ _ _⟩
end Go.Proofs.Ytefkjclkondmeaa
