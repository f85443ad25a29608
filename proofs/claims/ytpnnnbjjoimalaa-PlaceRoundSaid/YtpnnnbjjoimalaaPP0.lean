/- Layer 12: what the program's functions answer. -/
import Derived.Test.YtpnnnbjjoimalaaPM
import Derived.Test.YtpnnnbjjoimalaaRowN
namespace Go.Proofs.Ytpnnnbjjoimalaa
open Go.RowKit

def placeR (N : Int) (E : List Edge) (c : List Int) : Int := if okG N E = true then (if rightB N E c = true then 0 else 120) else 30
/-- nodes and what is wrong come out -/
def GivesN (w : World) (L : List Dn) (r : Int) (e : Ending) (w' : World) : Prop := ∃ v, e = .returned (.tuple #[v, .int .i64 r]) ∧ Ns DV Non w' v L ∧ Ext w w'
/-- a graph, and whether it is one, come out -/
def GivesGr (w : World) (N : Int) (E : List Edge) (t : Bool) (e : Ending) (w' : World) : Prop := ∃ gv, e = .returned (.tuple #[.agg #[.int .i64 N, gv], .bool t]) ∧ Sl w' gv E ∧ Ext w w'
/-- arcs come out -/
def GivesA (w : World) (A : List Arc) (e : Ending) (w' : World) : Prop := ∃ v, e = .returned v ∧ Sl w' v A ∧ Ext w w'

end Go.Proofs.Ytpnnnbjjoimalaa
