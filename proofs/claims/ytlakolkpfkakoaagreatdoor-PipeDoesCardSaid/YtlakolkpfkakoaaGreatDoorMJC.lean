/- PipeDoes: the program's pipe and the document's, side by side. -/
import Derived.Test.YtlakolkpfkakoaaGreatDoorMJB
import Derived.Test.YtlakolkpfkakoaaGreatDoorMJ6
import Derived.Test.YtlakolkpfkakoaaGreatDoorMJ2
import Derived.Test.YtlakolkpfkakoaaGreatDoorMJ4
import Derived.Test.YtlakolkpfkakoaaGreatDoorMQ
namespace Go.Proofs.YtlakolkpfkakoaaGreatDoor
open Go.RowKit

set_option linter.unusedVariables false
def LenG (P : PipeS) (n : Nat) : Prop := P.g0.length ≤ n ∧ P.g1.length ≤ n
theorem LenG.more {P : PipeS} {n : Nat} (h : LenG P n) : LenG P (n + 1) := ⟨Nat.le_succ_of_le h.1, Nat.le_succ_of_le h.2⟩
theorem LenG.setE {P : PipeS} {n : Nat} (h : LenG P n) (s : Int) (E : EndS) : LenG (P.setE s E) n := by
  unfold PipeS.setE
  split
  · exact h
  · split <;> exact h
theorem LenG.setG {P : PipeS} {n : Nat} (h : LenG P n) (s : Int) {l : List ByteArray} (hl : l.length ≤ n) : LenG (P.setG s l) n := by
  unfold PipeS.setG
  split
  · exact ⟨hl, h.2⟩
  · split
    · exact ⟨h.1, hl⟩
    · exact h
theorem LenG.got {P : PipeS} {n : Nat} (h : LenG P n) (s : Int) : (P.got s).length ≤ n := by
  unfold PipeS.got
  split
  · exact h.1
  · split
    · exact h.2
    · exact Nat.zero_le _
theorem LenG.go {P : PipeS} {n : Nat} (h : LenG P n) (s : Int) : LenG (P.go s) n := by
  unfold PipeS.go
  split
  · exact h.setE s _
  · exact h
theorem LenG.come {P : PipeS} {n : Nat} (h : LenG P n) (s k : Int) : LenG (P.come s k) (n + 1) := by
  unfold PipeS.come
  split
  · unfold PipeS.takeF
    refine LenG.setG (LenG.setE (show LenG (P.lose s k) (n + 1) from h.more) s _) s ?_
    have h1 := h.got s
    have e : (P.lose s k).got s = P.got s := rfl
    rw [e]
    split
    · rw [List.length_append, List.length_singleton]; omega
    · omega
  · exact h.more
structure DoP (w W : World) (p : Nat) (P Q : PipeS) (F : Nat → Prop) (g : Nat) (l0 l1 g0 g1 x : SV) (m : Nat) : Prop where
  at' : PAt W p P F
  own : ∀ k, F k → w.heap.size ≤ k
  apart : ¬ F g
  box : W.heap[g]? = some (.cells (pcs Q l0 l1 g0 g1 x) 35 (0, 0))
  rp : RP (fun k => F k ∨ k = g) W Q l0 l1 g0 g1 x m
  ext : Ext w W
  gl : w.heap.size ≤ g
section
variable {w W W' : World} {p g m m' : Nat} {P P' Q Q' : PipeS} {F F' : Nat → Prop} {l0 l1 g0 g1 x l0' l1' g0' g1' x' : SV}
theorem DoP.moves (h : DoP w W p P Q F g l0 l1 g0 g1 x m) (n : PAt W' p P' F') (o : Off F W W') (gr : Grows F F' W) : DoP w W' p P' Q F' g l0 l1 g0 g1 x m := by
  have hg := blk_lt h.box
  have hs := h.ext.size
  refine ⟨n, fun k hk => ?_, fun hf => ?_, o.blk h.box h.apart, h.rp.off (o.mono fun k hk => .inl hk) (fun k hk => ?_), ext_off h.ext o h.own, h.gl⟩
  · rcases gr k hk with h1 | h1
    · exact h.own k h1
    · omega
  · rcases gr g hf with h1 | h1
    · exact h.apart h1
    · omega
  · rcases hk with hk | hk
    · exact (gr k hk).imp .inl id
    · exact .inl (.inr hk)
theorem DoP.more (h : DoP w W p P Q F g l0 l1 g0 g1 x m) (e : Ext W W') : DoP w W' p P Q F g l0 l1 g0 g1 x m :=
  ⟨h.at'.off (Off.of_ext (F := fun _ => False) e) (fun _ _ hf => hf), h.own, h.apart, (e.block _ (blk_lt h.box)).trans h.box, h.rp.ext e, Ext.trans h.ext e, h.gl⟩
theorem DoP.store (h : DoP w W p P Q F g l0 l1 g0 g1 x m) (r : RP (fun k => F k ∨ k = g) W Q' l0' l1' g0' g1' x' m') (hb : W'.heap[g]? = some (.cells (pcs Q' l0' l1' g0' g1' x') 35 (0, 0))) (o : Off (fun k => k = g) W W') : DoP w W' p P Q' F g l0' l1' g0' g1' x' m' :=
  ⟨h.at'.off o (fun k hk e => h.apart (e ▸ hk)), h.own, h.apart, hb, r.off (o.mono fun k hk => .inr hk) (Grows.refl _ _), ext_off h.ext o (fun k hk => hk ▸ h.gl), h.gl⟩
theorem DoP.low (h : DoP w W p P Q F g l0 l1 g0 g1 x m) : ∀ k, (F k ∨ k = g) → k < W.heap.size := fun k hk => by
  rcases hk with hk | hk
  · exact h.at'.low k hk
  · rw [hk]; exact blk_lt h.box
end
def Dq (w W : World) (p : Nat) (Q : PipeS) (g m : Nat) : Prop := ∃ F l0 l1 g0 g1 x, DoP w W p Q Q F g l0 l1 g0 g1 x m
theorem Dq.more {w W W' : World} {p g m : Nat} {Q : PipeS} (h : Dq w W p Q g m) (e : Ext W W') : Dq w W' p Q g m := by
  obtain ⟨F, l0, l1, g0, g1, x, h⟩ := h
  exact ⟨F, l0, l1, g0, g1, x, h.more e⟩
theorem Dq.up {w W : World} {p g m m' : Nat} {Q : PipeS} (h : Dq w W p Q g m) (e : m ≤ m') : Dq w W p Q g m' := by
  obtain ⟨F, l0, l1, g0, g1, x, h⟩ := h
  exact ⟨F, l0, l1, g0, g1, x, { h with rp := h.rp.more e }⟩
end Go.Proofs.YtlakolkpfkakoaaGreatDoor
