/- Layer 13, the document's answers: rules, as long as one applies. -/
import Derived.Test.YtpjpjchnfllcmaaMUA
import Derived.Deep.LoopGhost
namespace Go.Proofs.Ytpjpjchnfllcmaa
open Go.RowKit

def OwF (w : World) (nx : Nat) (vo : Value) : Nat → Prop := fun k => k = w.heap.size ∨ k = w.heap.size + 1 ∨ k = nx ∨ vo.ownBlock = some k
/-- between two rules: who is, who is next, what goes out, what went out -/
structure RF (w : World) (nx : Nat) (d0 dc dn : Dn) (l M : List Ml) (ok : Bool) (vc vn vl vo : Value) (W : World) : Prop where
  ext : Ext w W
  dbox : W.heap[w.heap.size]? = some (.cells #[.int .i64 dc.id, .int .i64 dc.phase, vc] 25 (0, 0))
  rbox : W.heap[w.heap.size + 1]? = some (.cells #[.int .i64 0, .int .i64 0, .slice none 0 0] 25 (0, 0))
  nbox : W.heap[nx]? = some (.cells #[.int .i64 dn.id, .int .i64 dn.phase, vn] 25 (0, 0))
  one : One dc dn l ok
  fire : fireD dc = fireD d0 ∧ fireMl d0 = M ++ fireMl dc
  sc : Sa (OwF w nx vo) W vc dc.sides
  sn : Sa (OwF w nx vo) W vn dn.sides
  sl : Sa (OwF w nx vo) W vl l
  out : Ow W (w.heap.size + 2) vo M
  nvo : vo.ownBlock ≠ some nx
  low : w.heap.size + 2 ≤ nx
  len : dc.sides.length = d0.sides.length

theorem sa_new {α : Type} [Elem α] {F : Nat → Prop} {w : World} {v : Value} {xs : List α} (h : Sl w v xs) (hn : ∀ b, v.ownBlock = some b → ¬ F b) : Sa F w v xs := ⟨h, .inr hn⟩
/-- a row that is as it was, or new -/
theorem sa_either {F : Nat → Prop} {w w' : World} {v v' : Value} {xs ys : List Sd} (h : Sa F w v xs) (h' : Sl w' v' ys) (hl : ys.length = xs.length) (he : v' = v ∨ ∀ b, v'.ownBlock = some b → w.heap.size ≤ b) (hF : ∀ k, F k → k < w.heap.size) : Sa F w' v' ys := by
  refine ⟨h', ?_⟩
  rcases he with rfl | he
  · rcases h.2 with e | e
    · subst e
      exact .inl (List.eq_nil_of_length_eq_zero (by rw [hl]; rfl))
    · exact .inr e
  · exact .inr fun b hb hf => by have := he b hb; have := hF b hf; omega

theorem RF.low4 {w W : World} {nx : Nat} {d0 dc dn : Dn} {l M : List Ml} {ok : Bool} {vc vn vl vo : Value} (h : RF w nx d0 dc dn l M ok vc vn vl vo W) : ∀ k, OwF w nx vo k → k < W.heap.size := fun k hk => by
  rcases hk with e | e | e | e
  · have := blk_lt h.dbox; omega
  · have := blk_lt h.rbox; omega
  · have := blk_lt h.nbox; omega
  · exact (h.out.low k e).2

/-- a rule has been gone by, and the next one is told -/
theorem RF.next {w W W1 W2 w5 W6 : World} {nx : Nat} {d0 dc dn dn' : Dn} {l l' M : List Ml} {b' : Bool} {vc vn vl vo vo2 vn' vl' : Value} (h : RF w nx d0 dc dn l M true vc vn vl vo W)
    (hb1 : W1.heap[w.heap.size]? = some (.cells #[.int .i64 dn.id, .int .i64 dn.phase, vn] 25 (0, 0))) (o1 : Off (fun b => b = w.heap.size) W W1)
    (ho2 : Ow W2 (w.heap.size + 2) vo2 (M ++ l)) (ha2 : Apd (w.heap.size + 2) vo vo2 W1 W2)
    (one' : One dn dn' l' b') (hs5 : Sl w5 vn' dn'.sides) (hl5 : Sl w5 vl' l') (x5 : Ext W2 w5) (hv : vn' = vn ∨ ∀ b, vn'.ownBlock = some b → W2.heap.size ≤ b) (hvl : ∀ b, vl'.ownBlock = some b → W2.heap.size ≤ b)
    (hb6 : W6.heap[nx]? = some (.cells #[.int .i64 dn'.id, .int .i64 dn'.phase, vn'] 25 (0, 0))) (o6 : Off (fun b => b = nx) w5 W6) :
    RF w nx d0 dn dn' l' (M ++ l) b' vn vn' vl' vo2 W6 := by
  have hlow := h.low
  have z := blk_lt h.nbox
  have z1 := o1.size
  have z2 := ha2.below.size
  have z5 := x5.size
  have g1 : Grows (OwF w nx vo) (OwF w nx vo) W := Grows.refl _ _
  have o1' : Off (OwF w nx vo) W W1 := o1.mono fun k hk => .inl hk
  have o2' : Off (OwF w nx vo) W1 W2 := (off_grown ha2.grown).mono fun k hk => .inr (.inr (.inr hk))
  have g2 : Grows (OwF w nx vo) (OwF w nx vo2) W1 := fun k hk => by
    rcases hk with e | e | e | e
    · exact .inl (.inl e)
    · exact .inl (.inr (.inl e))
    · exact .inl (.inr (.inr (.inl e)))
    · rcases ha2.block with hb | hb
      · exact .inl (.inr (.inr (.inr (by rw [← hb]; exact e))))
      · exact .inr (hb k e)
  have hnx1 : W1.heap[nx]? = W.heap[nx]? := o1.block nx z (by omega)
  have nvo2 : vo2.ownBlock ≠ some nx := by
    rcases ha2.block with hb | hb
    · rw [hb]; exact h.nvo
    · intro e; have := hb nx e; omega
  have f2 : ∀ k, OwF w nx vo2 k → k < W2.heap.size := fun k hk => by
    rcases hk with e | e | e | e
    · omega
    · omega
    · omega
    · exact (ho2.low k e).2
  have sn2 : Sa (OwF w nx vo2) W2 vn dn.sides := (h.sn.off o1' g1).off o2' g2
  have sn5 := sn2.ext x5
  have o6' : Off (OwF w nx vo2) w5 W6 := o6.mono fun k hk => .inr (.inr (.inl hk))
  have g6 : Grows (OwF w nx vo2) (OwF w nx vo2) w5 := Grows.refl _ _
  obtain ⟨q1, q2, q3⟩ := h.one.fire
  refine ⟨?_, ?_, ?_, hb6, one', ⟨q1.trans h.fire.1, by rw [h.fire.2, q2, List.append_assoc]⟩, sn5.off o6' g6, ?_, ?_, owU (ho2.ext x5) (fun b hb => o6.block b (Nat.lt_of_lt_of_le (ho2.low b hb).2 z5) (fun e => nvo2 (by rw [hb, e]))), nvo2, hlow, h.one.len.2.1.trans h.len⟩
  · refine Below.trans h.ext (Below.trans (o1.below (B := w.heap.size) (fun k hk => by omega) h.ext.size) (Below.trans (ha2.below.mono (by omega)) (Below.trans (Below.mono x5 ?_) (o6.below (fun k hk => by omega) ?_))))
    · have := h.ext.size; omega
    · have := h.ext.size; omega
  · exact (o6.block _ (by omega) (by omega)).trans ((x5.block _ (by omega)).trans ((ha2.below.block _ (by omega)).trans hb1))
  · exact (o6.block _ (by omega) (by omega)).trans ((x5.block _ (by omega)).trans ((ha2.below.block _ (by omega)).trans ((o1.block _ (by omega) (by omega)).trans h.rbox)))
  · exact (sa_either sn2 hs5 one'.len.2.1 hv f2).off o6' g6
  · exact (sa_new hl5 (fun b hb hf => by have := hvl b hb; have := f2 b hf; omega)).off o6' g6

end Go.Proofs.Ytpjpjchnfllcmaa
