/- Layer 13: what the laws of this layer have in common. -/
import Derived.Test.YtogbjpipkegecaaUM
import Derived.Test.YtogbjpipkegecaaUL
namespace Go.Proofs.Ytogbjpipkegecaa
open Go.RowKit

theorem givesE_spec {w : World} {r : Dn × Int} {e : Ending} {w' : World} (h : GivesE w r e w') {i p er : Int} {M : List Sd} (hr : r = (⟨i, p, M⟩, er)) : ∃ ao c, e = .returned (.tuple #[.agg #[.int .i64 i, .int .i64 p, .slice ao M.length c], .int .i64 er]) ∧ Sl w' (.slice ao M.length c) M ∧ Ext w w' := by
  subst hr
  obtain ⟨v', rfl, s, x, _⟩ := h
  obtain ⟨ao, c, rfl⟩ := s.len
  exact ⟨ao, c, rfl, s, x⟩
theorem givesE_new {w : World} {r : Dn × Int} {e : Ending} {w' : World} (h : GivesE w r e w') {i p er : Int} {M : List Sd} (hr : r = (⟨i, p, M⟩, er)) : ∃ ao c, e = .returned (.tuple #[.agg #[.int .i64 i, .int .i64 p, .slice ao M.length c], .int .i64 er]) ∧ Sl w' (.slice ao M.length c) M ∧ Ext w w' ∧ ∀ b, (Value.slice ao M.length c).ownBlock = some b → w.heap.size ≤ b := by
  subst hr
  obtain ⟨v', rfl, s, x, n⟩ := h
  obtain ⟨ao, c, rfl⟩ := s.len
  exact ⟨ao, c, rfl, s, x, n⟩
theorem givesF_spec {w : World} {r : Dn × List Ml × Int} {e : Ending} {w' : World} (h : GivesF w r e w') {i p er : Int} {M : List Sd} {l : List Ml} (hr : r = (⟨i, p, M⟩, l, er)) : ∃ ao c bo bc, e = .returned (.tuple #[.agg #[.int .i64 i, .int .i64 p, .slice ao M.length c], .slice bo l.length bc, .int .i64 er]) ∧ Sl w' (.slice ao M.length c) M ∧ Sl w' (.slice bo l.length bc) l ∧ Ext w w' := by
  subst hr
  obtain ⟨v', vl, rfl, s, sl, x, _⟩ := h
  obtain ⟨ao, c, rfl⟩ := s.len
  obtain ⟨bo, bc, rfl⟩ := sl.len
  exact ⟨ao, c, bo, bc, rfl, s, sl, x⟩
theorem ownL_any (w : World) (id ph : Int) (v : Value) (L : List Sd) (h : Sl w v L) (hl : L.length ≤ 1000) :
    Calls Try.prog 12 #[.agg #[.int .i64 id, .int .i64 ph, v]] w fun e w' => ∃ ao c, e = .returned (.agg #[.int .i64 id, .int .i64 ph, .slice ao L.length c]) ∧ Sl w' (.slice ao L.length c) L ∧ Ext w w' := by
  refine (own_any w id ph v L h hl).mono ?_
  rintro e w' ⟨v', rfl, s, x⟩
  obtain ⟨ao, c, rfl⟩ := s.len
  exact ⟨ao, c, rfl, s, x⟩

end Go.Proofs.Ytogbjpipkegecaa
