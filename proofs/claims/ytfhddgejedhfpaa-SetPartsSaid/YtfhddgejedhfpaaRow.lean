/- What the row's frame hands over, as what a slice reads as. -/
import Derived.Test.YtfhddgejedhfpaaLawC
import Derived.OpenShut
namespace Go.Proofs.Ytfhddgejedhfpaa
open Go.RowKit

theorem sl_of_row {w : World} {a : Option Addr} {len cap : Nat} {zs : List Int}
    (h : (a = none ∧ len = 0 ∧ cap = 0 ∧ zs = []) ∨ ∃ x, a = some x ∧ len ≤ cap ∧ cap ≤ maxLen ∧ zs.length = cap ∧ (∀ i, i < zs.length → w.cell? (x.add i) = some (.int .i64 (zs.getD i 0))) ∧ ∀ n ∈ zs, (Lit.int .i64 n).wf = true) :
    Sl w (.slice a len cap) (zs.take len) ∧ (zs.take len).length = len := by
  rcases h with ⟨rfl, rfl, rfl, rfl⟩ | ⟨x, rfl, h1, h2, h3, h4, _⟩
  · exact ⟨(Ow.nilRow w w.heap.size).sl, rfl⟩
  · have hl : (zs.take len).length = len := by simp; omega
    refine ⟨⟨by simp, some x, cap, by rw [hl], by rw [hl]; exact h1, h2, by simp, ?_⟩, hl⟩
    by_cases h0 : len = 0
    · left; rw [hl]; exact h0
    · right
      have hz : 0 < zs.length := by omega
      have hc0 := h4 0 hz
      obtain ⟨b, off, sp⟩ := x
      have hb : w.cell? ⟨b, off, sp⟩ = some (.int .i64 (zs.getD 0 0)) := hc0
      have hs : sp = none := by
        unfold World.cell? at hb
        split at hb
        · cases sp with
          | none => rfl
          | some _ => simp at hb
        · cases hb
      subst hs
      refine ⟨b, off, rfl, World.block_lt_of_cell? w _ hb, fun j u hj => ?_⟩
      rw [List.getElem?_map, List.getElem?_take] at hj
      by_cases hjn : j < len
      · rw [if_pos hjn, List.getElem?_eq_getElem (by omega)] at hj
        simp only [Option.map_some, Option.some.injEq] at hj
        have := h4 j (by omega)
        have e : (⟨b, off, none⟩ : Addr).add j = ⟨b, off + j, none⟩ := by unfold Addr.add; split <;> simp_all
        rw [e] at this
        rw [this, ← hj]
        simp [show j < zs.length by omega]
      · rw [if_neg hjn] at hj
        simp at hj

end Go.Proofs.Ytfhddgejedhfpaa
