/- A variable that is an array of texts: what it holds, from what a row lists. -/
import Derived.Test.YtffgphhmkghlnaaDoorLaid
namespace Go.Proofs.YtffgphhmkghlnaaDoor
open Go.RowKit

/-- the variable holds just these texts -/
def TexIs (P : Program) (w : World) (name : String) (ls : List (List UInt8)) : Prop := w.var? P name = some (ls.map fun l => Value.string ⟨l.toArray⟩).toArray

theorem cells_of_tex {H : Type} {enc : TypeId × Value → H} {P : Program} {w : World} {base : Nat} {sp : Nat → Bool} {held : Bool} {fuel : Nat} {t e : TypeId} {n : Nat} {cs : List Value} {ls : List (List UInt8)} {p : List MemPlace}
    (ht : P.underlying t = some (.array n e)) (he : P.underlying e = some .string) (hce : P.cellsOf e = 1) (hct : P.cellsOf t = n)
    (h : DataW.trod enc P w base sp held fuel t cs = some (.agg (ls.map fun l => .lit (.string l)), p)) : cs = ls.map fun l => Value.string ⟨l.toArray⟩ := by
  cases fuel with
  | zero => simp [DataW.trod] at h
  | succ fuel =>
    simp only [DataW.trod, ht, hce, hct, Nat.mul_one] at h
    split at h
    · rename_i hl
      obtain ⟨xs, hm, hx⟩ := Option.map_eq_some_iff.1 h
      have h1 : xs.map (·.1) = ls.map fun l => (DataW.lit (.string l) : DataW H) := by
        have := congrArg Prod.fst hx
        simpa using this
      have hxl : xs.length = n := by simpa using Lib.mapM_length hm
      have hll : ls.length = n := by
        have := congrArg List.length h1
        simp at this
        omega
      refine List.ext_getElem? fun i => ?_
      rcases Nat.lt_or_ge i n with hi | hi
      · obtain ⟨b, hb, hf⟩ := Lib.mapM_at hm i i (by simp [hi])
        obtain ⟨s, hc, rfl, _⟩ := DataW.trod_string he hf
        have a1 : cs[i]? = some (.string s) := by
          have := congrArg (·[0]?) hc
          simpa [List.getElem?_take, List.getElem?_drop] using this
        have a2 : (xs.map (·.1))[i]? = some (DataW.lit (.string s.data.toList) : DataW H) := by simp [hb]
        rw [h1] at a2
        simp only [List.getElem?_map, Option.map_eq_some_iff, DataW.lit.injEq, Lit.string.injEq] at a2
        obtain ⟨l, hl2, e2⟩ := a2
        subst e2
        rw [a1, List.getElem?_map, hl2]
        rfl
      · rw [List.getElem?_eq_none (by omega), List.getElem?_eq_none (by simp; omega)]
    · cases h

theorem texIs_of_head {P : Program} {W : World} {name : String} {ls : List (List UInt8)} {rest : List (String × DataW Unit)} {g : Nat} {t e : TypeId} {n : Nat}
    (hg : P.globalNamed name = some g) (hty : (P.globals[g]?).map (·.type) = some t) (ht : P.underlying t = some (.array n e)) (he : P.underlying e = some .string) (hce : P.cellsOf e = 1) (hct : P.cellsOf t = n)
    (h : laidMet P ((name, .agg (ls.map fun l => .lit (.string l))) :: rest) W) : TexIs P W name ls := by
  obtain ⟨ps, ⟨g', t', cs, fuel, p, q, hg', ht', hvar, hd, _, _⟩, _⟩ := h
  cases Option.some.inj (hg.symm.trans hg')
  cases Option.some.inj (hty.symm.trans ht')
  unfold TexIs
  rw [hvar, ← cells_of_tex ht he hce hct hd]

theorem TexIs.cell {P : Program} {W : World} {name : String} {ls : List (List UInt8)} {g : Nat} (h : TexIs P W name ls) (hg : P.globalNamed name = some g) (i : Nat) (l : List UInt8) (hi : ls[i]? = some l) :
    W.cell? ⟨g, i, none⟩ = some (.string ⟨l.toArray⟩) := by
  rw [World.var?_cell hg h i]
  simp [hi]

theorem tex_later {P : Program} {W W' : World} {name : String} {ls : List (List UInt8)} {g : Nat} (hg : P.globalNamed name = some g) (h : TexIs P W name ls) (hlt : g < W.heap.size) (x : Ext W W') : TexIs P W' name ls := by
  unfold TexIs World.var? at *
  rw [hg] at h ⊢
  simp only [Option.bind_some] at h ⊢
  rw [x.block g hlt]
  exact h

theorem tex_lt {P : Program} {W : World} {name : String} {ls : List (List UInt8)} {g : Nat} (hg : P.globalNamed name = some g) (h : TexIs P W name ls) : g < W.heap.size := by
  unfold TexIs World.var? at h
  rw [hg] at h
  simp only [Option.bind_some] at h
  cases e : W.heap[g]? with
  | none => rw [e] at h; simp at h
  | some o => exact (Array.getElem?_eq_some_iff.1 e).1
end Go.Proofs.YtffgphhmkghlnaaDoor
