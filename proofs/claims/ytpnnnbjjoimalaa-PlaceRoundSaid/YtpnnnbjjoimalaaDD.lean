/- Depths, whatever the arcs. -/
import Derived.Test.YtpnnnbjjoimalaaMD5
namespace Go.Proofs.Ytpnnnbjjoimalaa
open Go.RowKit

theorem ord_pi {N : Int} {L : List Arc} (h : ordB N L = true) : OkD N L ∧ PI N.toNat L (peeled N L).1 [] := by
  obtain ⟨ok, he⟩ := ordB_iff.1 h
  have := (peeled_spec ok).1
  rw [he] at this
  exact ⟨ok, this⟩
/-- Depths come out, or none. -/
def IsDD (N : Int) (L : List Arc) (b : Bool) (d : List Int) : Prop := (b = true → IsDepth N.toNat L d) ∧ (b = false → d = [])
theorem IsDD.uniq {N : Int} {L : List Arc} {b : Bool} {d e : List Int} (hb : ordB N L = b) (h : IsDD N L b d) (g : IsDD N L b e) : d = e := by
  cases b with
  | false => rw [h.2 rfl, g.2 rfl]
  | true =>
    obtain ⟨ok, hp⟩ := ord_pi hb
    exact (h.1 rfl).uniq ok hp (g.1 rfl)
def GivesDD (w : World) (N : Int) (L : List Arc) (b : Bool) (e : Ending) (w' : World) : Prop := ∃ v d, e = .returned (.tuple #[v, .bool b]) ∧ Ow w' w.heap.size v d ∧ IsDD N L b d ∧ Ext w w'
theorem depths_any (w : World) (N : Int) (v : Value) (E : List Arc) (h : Sl w v E) (b : Bool) (hb : ordB N E = b) : Calls Try.prog 29 #[.int .i64 N, v] w (GivesDD w N E b) := by
  cases b with
  | false => exact (depths_no w N v E h hb).mono fun e w' ⟨v', he, ho, hx⟩ => ⟨v', [], he, ho, ⟨(fun h => by cases h), fun _ => rfl⟩, hx⟩
  | true =>
    obtain ⟨ok, he⟩ := ordB_iff.1 hb
    obtain ⟨n, rfl⟩ := Int.eq_ofNat_of_zero_le ok.n0
    exact (depths_yes w n v E h ok he).mono fun e w' ⟨v', d, he, ho, hd, hx⟩ => ⟨v', d, he, ho, ⟨fun _ => hd, (fun h => by cases h)⟩, hx⟩

end Go.Proofs.Ytpnnnbjjoimalaa
