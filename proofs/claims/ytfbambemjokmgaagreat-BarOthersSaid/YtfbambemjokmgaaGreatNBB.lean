/- Texts of this seat. -/
import Derived.Lib.SliceRun
import Derived.Deep.LoopGhost
import Derived.Laws.EntriesVeiled
import Derived.Test.YtfbambemjokmgaaGreatNAH
namespace Go.Proofs.YtfbambemjokmgaaGreat
open Go.RowKit
theorem fewT_lens {L : List Dn} {m : Nat} (h : fewB L m = true) : L.length ≤ 24 ∧ m ≤ 40 ∧ ∀ d ∈ L, d.sides.length ≤ 24 := by
  simp only [fewB, Bool.and_eq_true, decide_eq_true_eq] at h
  obtain ⟨⟨h1, h2⟩, h3⟩ := h
  refine ⟨h2, h3, fun d hd => ?_⟩
  rw [List.take_of_length_le (by omega)] at h1
  simpa using List.all_eq_true.1 h1 d hd
end Go.Proofs.YtfbambemjokmgaaGreat
