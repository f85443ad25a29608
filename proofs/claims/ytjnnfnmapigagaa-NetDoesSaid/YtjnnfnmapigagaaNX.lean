/- Laws over acts: what serves them all. -/
import Derived.Test.YtjnnfnmapigagaaNM
namespace Go.Proofs.Ytjnnfnmapigagaa
open Go.RowKit

/-- what is at hand in a round over acts: the act's cells -/
theorem act_here {w wr : World} {l : List Act8} {ao : Option Addr} {n c k : Nat} (h : Sl w (.slice ao n c) l) (x : Ext w wr) (hk : k < l.length) :
    ∃ b off, ao = some ⟨b, off, none⟩ ∧ n = l.length ∧ l.length ≤ c ∧ ActAt wr b (off + k * 6) (l.getD k dA) := by
  rcases (h.ext x).acts with ⟨h0, _⟩ | ⟨b, off, c', hv, hq1, hq2, hbl, hpos, hat⟩
  · rw [h0] at hk; simp at hk
  · simp only [Value.slice.injEq] at hv
    obtain ⟨rfl, rfl, rfl⟩ := hv
    exact ⟨b, off, rfl, rfl, hq1, hat k hk⟩

/-- six cells of a block known whole -/
theorem cells6 {W : World} {g : Nat} {v0 v1 v2 v3 v4 v5 : Value} {t : TypeId} (h : W.heap[g]? = some (.cells #[v0, v1, v2, v3, v4, v5] t (0, 0))) :
    W.cell? ⟨g, 0, none⟩ = some v0 ∧ W.cell? ⟨g, 1, none⟩ = some v1 ∧ W.cell? ⟨g, 2, none⟩ = some v2 ∧ W.cell? ⟨g, 3, none⟩ = some v3 ∧ W.cell? ⟨g, 4, none⟩ = some v4 ∧ W.cell? ⟨g, 5, none⟩ = some v5 :=
  ⟨blk_cell h 0 rfl, blk_cell h 1 rfl, blk_cell h 2 rfl, blk_cell h 3 rfl, blk_cell h 4 rfl, blk_cell h 5 rfl⟩
end Go.Proofs.Ytjnnfnmapigagaa
