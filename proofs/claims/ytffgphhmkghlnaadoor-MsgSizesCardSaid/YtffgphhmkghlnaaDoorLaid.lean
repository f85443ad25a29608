/- What a row lists, one variable behind another. -/
import Derived.Test.YtffgphhmkghlnaaDoorBytes
import Derived.Lib.LaidTab
namespace Go.Proofs.YtffgphhmkghlnaaDoor
open Go.RowKit

theorem laid_tail {P : Program} {W : World} {x : String × DataW Unit} {l : List (String × DataW Unit)} (h : laidMet P (x :: l) W) : laidMet P l W := by
  obtain ⟨name, d⟩ := x
  obtain ⟨ps, ⟨g', t', cs, fuel, p, q, _, _, _, _, h1, h2⟩, hn, hc⟩ := h
  first
  | (subst h2
     exact ⟨q, h1, (List.nodup_append.1 hn).2.1, fun b off hm => hc b off (List.mem_append_right _ hm)⟩)
  | (subst h1
     exact ⟨q, h2, (List.nodup_append.1 hn).2.1, fun b off hm => hc b off (List.mem_append_right _ hm)⟩)

theorem tab_later {P : Program} {W W' : World} {name : String} {k : IntKind} {zs : List Int} {g : Nat} (hg : P.globalNamed name = some g) (h : Lib.TabIs P W name k zs) (hlt : g < W.heap.size) (x : Ext W W') : Lib.TabIs P W' name k zs := by
  unfold Lib.TabIs World.var? at *
  rw [hg] at h ⊢
  simp only [Option.bind_some] at h ⊢
  rw [x.block g hlt]
  exact h

theorem tab_lt {P : Program} {W : World} {name : String} {k : IntKind} {zs : List Int} {g : Nat} (hg : P.globalNamed name = some g) (h : Lib.TabIs P W name k zs) : g < W.heap.size := by
  unfold Lib.TabIs World.var? at h
  rw [hg] at h
  simp only [Option.bind_some] at h
  cases e : W.heap[g]? with
  | none => rw [e] at h; simp at h
  | some o => exact (Array.getElem?_eq_some_iff.1 e).1
end Go.Proofs.YtffgphhmkghlnaaDoor
