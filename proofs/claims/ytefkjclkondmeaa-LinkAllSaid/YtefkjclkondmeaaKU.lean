/- Boxes of two ends and of an act; which side an act is of; a game of two ends. -/
import Derived.Test.YtefkjclkondmeaaKT
namespace Go.Proofs.Ytefkjclkondmeaa
open Go.RowKit

set_option linter.unusedVariables false
def set8 (W : World) (g : Nat) (u0 u1 u2 u3 u4 u5 u6 u7 : Value) : World :=
  (((((((W.setCell ⟨g, 0, none⟩ u0).setCell ⟨g, 1, none⟩ u1).setCell ⟨g, 2, none⟩ u2).setCell ⟨g, 3, none⟩ u3).setCell ⟨g, 4, none⟩ u4).setCell ⟨g, 5, none⟩ u5).setCell ⟨g, 6, none⟩ u6).setCell ⟨g, 7, none⟩ u7
theorem set8_blk {W : World} {g : Nat} {v0 v1 v2 v3 v4 v5 v6 v7 : Value} {t : TypeId} (h : W.heap[g]? = some (.cells #[v0, v1, v2, v3, v4, v5, v6, v7] t (0, 0))) (u0 u1 u2 u3 u4 u5 u6 u7 : Value) :
    (set8 W g u0 u1 u2 u3 u4 u5 u6 u7).heap[g]? = some (.cells #[u0, u1, u2, u3, u4, u5, u6, u7] t (0, 0)) := by
  have h2 := (blk_set (blk_set (blk_set (blk_set (blk_set (blk_set (blk_set (blk_set h 0 u0) 1 u1) 2 u2) 3 u3) 4 u4) 5 u5) 6 u6) 7 u7)
  simpa [set8] using h2
theorem set8_below {B : Nat} {w W : World} {g : Nat} (x : Below B w W) (hg : B ≤ g) (u0 u1 u2 u3 u4 u5 u6 u7 : Value) : Below B w (set8 W g u0 u1 u2 u3 u4 u5 u6 u7) :=
  (below_set (below_set (below_set (below_set (below_set (below_set (below_set (below_set x hg _) hg _) hg _) hg _) hg _) hg _) hg _) hg _)
theorem off_set8 (W : World) (g : Nat) (u0 u1 u2 u3 u4 u5 u6 u7 : Value) : Off (fun k => k = g) W (set8 W g u0 u1 u2 u3 u4 u5 u6 u7) :=
  (((((((off_set W ⟨g, 0, none⟩ u0).trans (off_set _ ⟨g, 1, none⟩ u1) (Grows.refl _ _)).trans (off_set _ ⟨g, 2, none⟩ u2) (Grows.refl _ _)).trans (off_set _ ⟨g, 3, none⟩ u3) (Grows.refl _ _)).trans (off_set _ ⟨g, 4, none⟩ u4) (Grows.refl _ _)).trans (off_set _ ⟨g, 5, none⟩ u5) (Grows.refl _ _)).trans (off_set _ ⟨g, 6, none⟩ u6) (Grows.refl _ _)).trans (off_set _ ⟨g, 7, none⟩ u7) (Grows.refl _ _)
theorem cells8t {W : World} {g : Nat} {v0 v1 v2 v3 v4 v5 v6 v7 : Value} {t : TypeId} (h : W.heap[g]? = some (.cells #[v0, v1, v2, v3, v4, v5, v6, v7] t (0, 0))) :
    (W.cell? ⟨g, 0, none⟩ = some v0 ∧ W.cell? ⟨g, 1, none⟩ = some v1 ∧ W.cell? ⟨g, 2, none⟩ = some v2 ∧ W.cell? ⟨g, 3, none⟩ = some v3 ∧ W.cell? ⟨g, 4, none⟩ = some v4 ∧ W.cell? ⟨g, 5, none⟩ = some v5 ∧ W.cell? ⟨g, 6, none⟩ = some v6 ∧ W.cell? ⟨g, 7, none⟩ = some v7) ∧
    (W.frozen? ⟨g, 0, none⟩ = false ∧ W.frozen? ⟨g, 1, none⟩ = false ∧ W.frozen? ⟨g, 2, none⟩ = false ∧ W.frozen? ⟨g, 3, none⟩ = false ∧ W.frozen? ⟨g, 4, none⟩ = false ∧ W.frozen? ⟨g, 5, none⟩ = false ∧ W.frozen? ⟨g, 6, none⟩ = false ∧ W.frozen? ⟨g, 7, none⟩ = false) :=
  ⟨⟨blk_cell h 0 rfl, blk_cell h 1 rfl, blk_cell h 2 rfl, blk_cell h 3 rfl, blk_cell h 4 rfl, blk_cell h 5 rfl, blk_cell h 6 rfl, blk_cell h 7 rfl⟩, ⟨blk_free h 0, blk_free h 1, blk_free h 2, blk_free h 3, blk_free h 4, blk_free h 5, blk_free h 6, blk_free h 7⟩⟩
theorem cells9t {W : World} {g : Nat} {v0 v1 v2 v3 v4 v5 v6 v7 v8 : Value} {t : TypeId} (h : W.heap[g]? = some (.cells #[v0, v1, v2, v3, v4, v5, v6, v7, v8] t (0, 0))) :
    (W.cell? ⟨g, 0, none⟩ = some v0 ∧ W.cell? ⟨g, 1, none⟩ = some v1 ∧ W.cell? ⟨g, 2, none⟩ = some v2 ∧ W.cell? ⟨g, 3, none⟩ = some v3 ∧ W.cell? ⟨g, 4, none⟩ = some v4 ∧ W.cell? ⟨g, 5, none⟩ = some v5 ∧ W.cell? ⟨g, 6, none⟩ = some v6 ∧ W.cell? ⟨g, 7, none⟩ = some v7 ∧ W.cell? ⟨g, 8, none⟩ = some v8) ∧
    (W.frozen? ⟨g, 0, none⟩ = false ∧ W.frozen? ⟨g, 1, none⟩ = false ∧ W.frozen? ⟨g, 2, none⟩ = false ∧ W.frozen? ⟨g, 3, none⟩ = false ∧ W.frozen? ⟨g, 4, none⟩ = false ∧ W.frozen? ⟨g, 5, none⟩ = false ∧ W.frozen? ⟨g, 6, none⟩ = false ∧ W.frozen? ⟨g, 7, none⟩ = false ∧ W.frozen? ⟨g, 8, none⟩ = false) :=
  ⟨⟨blk_cell h 0 rfl, blk_cell h 1 rfl, blk_cell h 2 rfl, blk_cell h 3 rfl, blk_cell h 4 rfl, blk_cell h 5 rfl, blk_cell h 6 rfl, blk_cell h 7 rfl, blk_cell h 8 rfl⟩, ⟨blk_free h 0, blk_free h 1, blk_free h 2, blk_free h 3, blk_free h 4, blk_free h 5, blk_free h 6, blk_free h 7, blk_free h 8⟩⟩

/-- three boxes, one behind the other -/
def B3 (n : Nat) (C A Z : Array Value) (W : World) : Prop := W.heap[n]? = some (.cells C 59 (0, 0)) ∧ W.heap[n + 1]? = some (.cells A 36 (0, 0)) ∧ W.heap[n + 2]? = some (.cells Z 59 (0, 0))
section
variable {n : Nat} {C A Z : Array Value} {W W' : World}
theorem B3.ext (h : B3 n C A Z W) (x : Ext W W') : B3 n C A Z W' := ⟨blk_later h.1 x, blk_later h.2.1 x, blk_later h.2.2 x⟩
theorem B3.off {F : Nat → Prop} (h : B3 n C A Z W) (o : Off F W W') (h0 : ¬ F n) (h1 : ¬ F (n + 1)) (h2 : ¬ F (n + 2)) : B3 n C A Z W' := ⟨o.blk h.1 h0, o.blk h.2.1 h1, o.blk h.2.2 h2⟩
theorem B3.lt (h : B3 n C A Z W) : n + 2 < W.heap.size := blk_lt h.2.2
theorem B3.set (h : B3 n C A Z W) (i : Nat) (u : Value) : B3 n (C.setIfInBounds i u) A Z (W.setCell ⟨n, i, none⟩ u) :=
  ⟨blk_set h.1 i u, (set_other _ _ _ _ (by show n + 1 ≠ n; omega)).trans h.2.1, (set_other _ _ _ _ (by show n + 2 ≠ n; omega)).trans h.2.2⟩
end
theorem b3_new (w : World) (C A Z : Array Value) {W : World} (x : Ext (((w.alloc (.cells C 59 (0, 0))).alloc (.cells A 36 (0, 0))).alloc (.cells Z 59 (0, 0))) W) : B3 w.heap.size C A Z W := by
  have h1 : w.heap.size + 1 = (w.alloc (.cells C 59 (0, 0))).heap.size := (size_alloc _ _).symm
  have h2 : w.heap.size + 2 = ((w.alloc (.cells C 59 (0, 0))).alloc (.cells A 36 (0, 0))).heap.size := by rw [size_alloc, size_alloc]
  refine ⟨blk_later (blk_alloc (blk_alloc (get_alloc_new w _) _) _) x, ?_, ?_⟩
  · rw [h1]; exact blk_later (blk_alloc (get_alloc_new _ _) _) x
  · rw [h2]; exact blk_later (get_alloc_new _ _) x

def actA (k n : Int) (sd : Bool) (s : ByteArray) (fk fe : Int) (fq fa : Nat) (fb : ByteArray) : Array Value := #[.int .i64 k, .int .i64 n, .bool sd, .string s, .int .i64 fk, .int .i64 fe, .int .u64 (fq : Int), .int .u64 (fa : Int), .string fb]
theorem side_any (w : World) (k n : Int) (sd : Bool) (s : ByteArray) (fk fe : Int) (fq fa : Nat) (fb : ByteArray) :
    Calls Try.prog 33 #[.agg #[.int .i64 k, .int .i64 n, .bool sd, .string s, .int .i64 fk, .int .i64 fe, .int .u64 (fq : Int), .int .u64 (fa : Int), .string fb]] w fun e w' => e = .returned (.int .i64 (if sd = true then 1 else 0)) ∧ Ext w w' := by
  cases sd
  · go_enter Try.func33, Try.ntmps33
    go_wp2
    go_ret
    exact ⟨rfl, (Ext.refl _).alloc _⟩
  · go_enter Try.func33, Try.ntmps33
    go_wp2
    go_ret
    exact ⟨rfl, (Ext.refl _).alloc _⟩

/-- a game of two ends, after K acts -/
structure Game (w0 w : World) (fn K : Nat) (T : TV) (X Y : EndS) (s g : List ByteArray) (O : List Fr) (s' g' : List ByteArray) (O' : List Fr) (F : Nat → Nat → Prop) : Prop where
  st : St w0 w T X Y s g O s' g' O' F
  pair : Pair fn X Y s g O s' g' O'
  fit : FitO O
  fit' : FitO O'
  bs : s.length ≤ K
  bs' : s'.length ≤ K
  bo : O.length ≤ 8 * K
  bo' : O'.length ≤ 8 * K
  one : X.e = 1
  one' : Y.e = 1
def GameX (w0 w : World) (fn K : Nat) (T : TV) : Prop := ∃ X Y s g O s' g' O' F, Game w0 w fn K T X Y s g O s' g' O' F
theorem Game.swap {w0 w : World} {fn K : Nat} {T : TV} {X Y : EndS} {s g : List ByteArray} {O : List Fr} {s' g' : List ByteArray} {O' : List Fr} {F : Nat → Nat → Prop} (h : Game w0 w fn K T X Y s g O s' g' O' F) : Game w0 w fn K T.swap Y X s' g' O' s g O (fun i => F (turnI i)) :=
  ⟨h.st.swap, h.pair.swap, h.fit', h.fit, h.bs', h.bs, h.bo', h.bo, h.one', h.one⟩
theorem GameX.swap {w0 w : World} {fn K : Nat} {T : TV} (h : GameX w0 w fn K T) : GameX w0 w fn K T.swap := by
  obtain ⟨X, Y, s, g, O, s', g', O', F, h⟩ := h
  exact ⟨_, _, _, _, _, _, _, _, _, h.swap⟩
theorem GameX.id {w0 w : World} {fn K : Nat} {T : TV} (h : GameX w0 w fn K T) : GameX w0 w fn K T := h
theorem Game.more {w0 w w' : World} {fn K K' : Nat} {T : TV} {X Y : EndS} {s g : List ByteArray} {O : List Fr} {s' g' : List ByteArray} {O' : List Fr} {F : Nat → Nat → Prop} (h : Game w0 w fn K T X Y s g O s' g' O' F) (x : Ext w w') (hK : K ≤ K') : Game w0 w' fn K' T X Y s g O s' g' O' F :=
  ⟨h.st.more x, h.pair, h.fit, h.fit', Nat.le_trans h.bs hK, Nat.le_trans h.bs' hK, Nat.le_trans h.bo (Nat.mul_le_mul_left 8 hK), Nat.le_trans h.bo' (Nat.mul_le_mul_left 8 hK), h.one, h.one'⟩
theorem nb_upd {F : Nat → Nat → Prop} {G : Nat → Prop} {W : World} {b i : Nat} (h : ∀ j, ¬ F j b) (hb : b < W.heap.size) (g : Grows (F i) G W) : ∀ j, ¬ upd F i G j b := by
  intro j hj
  by_cases e : j = i
  · subst e
    rw [upd_same] at hj
    rcases g b hj with h1 | h1
    · exact h j h1
    · omega
  · rw [upd_ne F G e] at hj
    exact h j hj
def tv (T : TV) : Value := .agg #[.pointer (some ⟨T.p, 0, none⟩), .pointer (some ⟨T.p', 0, none⟩), .slice T.o.ao T.o.n T.o.c, .slice T.o'.ao T.o'.n T.o'.c, .slice T.s.ao T.s.n T.s.c, .slice T.s'.ao T.s'.n T.s'.c, .slice T.g.ao T.g.n T.g.c, .slice T.g'.ao T.g'.n T.g'.c]
/-- what an act of two ends leaves -/
def PlayR (w0 : World) (fn K : Nat) (T : TV) (e : Ending) (w' : World) : Prop := ∃ T', e = .returned (tv T') ∧ GameX w0 w' fn K T' ∧ T'.p = T.p ∧ T'.p' = T.p'
end Go.Proofs.Ytefkjclkondmeaa
