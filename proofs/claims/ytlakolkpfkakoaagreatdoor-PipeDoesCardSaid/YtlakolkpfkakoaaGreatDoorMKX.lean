/- A frame's cells lie where nothing changed them. -/
import Derived.Test.YtlakolkpfkakoaaGreatDoorMK
namespace Go.Proofs.YtlakolkpfkakoaaGreatDoor
open Go.RowKit

theorem FrAt.ext {w w' : World} {b off : Nat} {f : Fr} (h : FrAt w b off f) (x : Below (b + 1) w w') : FrAt w' b off f := by
  obtain ⟨h0, h1, h2, h3, h4⟩ := h
  exact ⟨(x.cell (Nat.lt_succ_self _)).trans h0, (x.cell (Nat.lt_succ_self _)).trans h1, (x.cell (Nat.lt_succ_self _)).trans h2, (x.cell (Nat.lt_succ_self _)).trans h3, (x.cell (Nat.lt_succ_self _)).trans h4⟩
end Go.Proofs.YtlakolkpfkakoaaGreatDoor
