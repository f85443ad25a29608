/- Layer 15: what calls answer: a drinker and an error. -/
import Derived.Test.YtpjpjchnfllcmaaX2
import Derived.Test.YtpjpjchnfllcmaaX4
namespace Go.Proofs.Ytpjpjchnfllcmaa
open Go.RowKit

def noK : Dk := ⟨0, 0, [], 0, []⟩
/-- a drinker and an error are answered; all that was there is as it was -/
def GivesD (w : World) (r : Dk × Int) (e : Ending) (w' : World) : Prop := ∃ v' nv', e = .returned (.tuple #[.agg #[.int .i64 r.1.id, .int .i64 r.1.phase, v', .int .i64 r.1.thirst, nv'], .int .i64 r.2]) ∧ Sl w' v' r.1.sides ∧ Sl w' nv' r.1.need ∧ Ext w w'
theorem givesDNo {w W : World} {r : Dk × Int} {er : Int} (h : r = (noK, er)) (x : Ext w W) : GivesD w r (.returned (.tuple #[.agg #[.int .i64 0, .int .i64 0, .slice none 0 0, .int .i64 0, .slice none 0 0], .int .i64 er])) W := by
  subst h
  exact ⟨_, _, rfl, slNoneU _, slNoneU _, x⟩
/-- .. and what is needed lies in new memory -/
def GivesDN (w : World) (r : Dk × Int) (e : Ending) (w' : World) : Prop := ∃ v' nv', e = .returned (.tuple #[.agg #[.int .i64 r.1.id, .int .i64 r.1.phase, v', .int .i64 r.1.thirst, nv'], .int .i64 r.2]) ∧ Sl w' v' r.1.sides ∧ Sl w' nv' r.1.need ∧ Ext w w' ∧ ∀ b, nv'.ownBlock = some b → w.heap.size ≤ b
theorem givesDNNo {w W : World} {r : Dk × Int} {er : Int} (h : r = (noK, er)) (x : Ext w W) : GivesDN w r (.returned (.tuple #[.agg #[.int .i64 0, .int .i64 0, .slice none 0 0, .int .i64 0, .slice none 0 0], .int .i64 er])) W := by
  subst h
  exact ⟨_, _, rfl, slNoneU _, slNoneU _, x, fun b hb => by simp [Value.ownBlock] at hb⟩
def openR (d : Dk) (Q : List Int) : Dk × Int := if chkK d = true then (if d.thirst ≠ 0 then (noK, 152) else if (Q.all fun p => decide (p ∈ peersL (fun s => decide (s.state = 0)) d.sides)) = true then (⟨d.id, d.phase, d.sides, 1, norm Q⟩, 0) else (noK, 151)) else (noK, 150)
def closeR (d : Dk) : Dk × Int := if chkK d = true then (if d.thirst = 0 then (noK, 152) else (⟨d.id, d.phase, d.sides, 0, []⟩, 0)) else (noK, 150)
def getK (d : Dk) (p k me n : Int) : Dk × Int := if chkK d = true then (match findS (fun s => s.peer == p && s.epoch == me) d.sides with
  | none => (noK, 131)
  | some (i, s) => if n = 0 ∧ k = 3 then (if s.bottle = true then (noK, 132) else (⟨d.id, d.phase, d.sides.set i { s with bottle := true }, d.thirst, d.need⟩, 0))
    else if n = 0 ∧ k = 4 then (if s.ask = true then (noK, 132) else (⟨d.id, d.phase, d.sides.set i { s with ask := true }, d.thirst, d.need⟩, 0))
    else if (withR s k n).2 = 0 then (⟨d.id, d.phase, d.sides.set i (withR s k n).1, d.thirst, d.need⟩, 0) else (noK, (withR s k n).2)) else (noK, 150)
end Go.Proofs.Ytpjpjchnfllcmaa
