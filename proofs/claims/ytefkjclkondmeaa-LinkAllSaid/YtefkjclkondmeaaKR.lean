/- Two ends and their box, and frames at hand, as rounds go on. -/
import Derived.Test.YtefkjclkondmeaaKW
namespace Go.Proofs.Ytefkjclkondmeaa
open Go.RowKit

set_option linter.unusedVariables false
/-- frames at hand, that nobody has a part in -/
def Nob (n : Nat) (F : Nat → Nat → Prop) (w : World) (x : SV) (l : List Fr) : Prop := Sl w x.v l ∧ (l = [] ∨ ∀ b, x.v.ownBlock = some b → b ≠ n ∧ ∀ i, ¬ F i b)
theorem Nob.off {n : Nat} {F F' : Nat → Nat → Prop} {G : Nat → Prop} {w w' : World} {x : SV} {l : List Fr} (h : Nob n F w x l) (o : Off G w w') (hG : ∀ k, G k → k = n ∨ ∃ i, F i k) (hF : ∀ i k, F' i k → (∃ j, F j k) ∨ w.heap.size ≤ k) : Nob n F' w' x l := by
  refine ⟨?_, ?_⟩
  · exact Sl.off (F := G) h.1 (h.2.imp id fun h2 b hb hg => by
      rcases hG b hg with h3 | ⟨i, hi⟩
      · exact (h2 b hb).1 h3
      · exact (h2 b hb).2 i hi) o
  · by_cases hl : l = []
    · exact .inl hl
    · refine .inr fun b hb => ⟨((h.2.resolve_left hl) b hb).1, fun i hi => ?_⟩
      have hlt := h.1.block_lt hl b hb
      rcases hF i b hi with ⟨j, hj⟩ | h9
      · exact ((h.2.resolve_left hl) b hb).2 j hj
      · omega
theorem Nob.nil (n : Nat) (F : Nat → Nat → Prop) (w : World) : Nob n F w SV.nil [] := ⟨Sl.empty w none 0 (by decide) (fun _ => rfl), .inl rfl⟩
theorem grow_upd {F : Nat → Nat → Prop} {G : Nat → Prop} {w : World} {i0 : Nat} (g : Grows (F i0) G w) : ∀ i k, upd F i0 G i k → (∃ j, F j k) ∨ w.heap.size ≤ k := by
  intro i k hk
  by_cases e : i = i0
  · subst e
    rw [upd_same] at hk
    exact (g k hk).imp (fun h => ⟨_, h⟩) id
  · rw [upd_ne F G e] at hk
    exact .inl ⟨i, hk⟩
def turnF (F : Nat → Nat → Prop) : Nat → Nat → Prop := fun i => F (turnI i)
theorem grow_turn {F : Nat → Nat → Prop} {G : Nat → Prop} {w : World} (i0 : Nat) (g : Grows (F (turnI i0)) G w) : ∀ i k, turnF (upd (turnF F) i0 G) i k → (∃ j, F j k) ∨ w.heap.size ≤ k := by
  intro i k hk
  rcases grow_upd (F := turnF F) g (turnI i) k hk with ⟨j, hj⟩ | h
  · exact .inl ⟨_, hj⟩
  · exact .inr h
/-- two ends, six slices, their box, and frames at hand -/
structure Hold (w wr : World) (T : TV) (X Y : EndS) (s g : List ByteArray) (O : List Fr) (s' g' : List ByteArray) (O' : List Fr) (F : Nat → Nat → Prop) (x : SV) (l : List Fr) : Prop where
  ext : Ext w wr
  box : wr.heap[w.heap.size]? = some (.cells (tvA T) 59 (0, 0))
  st : St (Bx w T) wr T X Y s g O s' g' O' F
  nob : Nob w.heap.size F wr x l
section
variable {w wr W : World} {T : TV} {X Y X' Y' : EndS} {s g s' g' : List ByteArray} {O O' : List Fr} {F : Nat → Nat → Prop} {x : SV} {l : List Fr}
theorem Hold.free (h : Hold w wr T X Y s g O s' g' O' F x l) : ∀ i, ¬ F i w.heap.size := fun i hi => by have := (h.st.low i _ hi).1; rw [bx_size] at this; omega
theorem Hold.drop (h : Hold w wr T X Y s g O s' g' O' F x l) : Hold w wr T X Y s g O s' g' O' F SV.nil [] := ⟨h.ext, h.box, h.st, Nob.nil _ _ _⟩
theorem Hold.lay (h : Hold w wr T X Y s g O s' g' O' F x l) {y : SV} {m : List Fr} (hn : Nob w.heap.size F wr y m) : Hold w wr T X Y s g O s' g' O' F y m := ⟨h.ext, h.box, h.st, hn⟩
theorem Hold.more (h : Hold w wr T X Y s g O s' g' O' F x l) (e : Ext wr W) : Hold w W T X Y s g O s' g' O' F x l := ⟨Ext.trans h.ext e, blk_later h.box e, h.st.more e, h.nob.off (Off.of_ext (F := fun _ => False) e) (fun k hk => hk.elim) (fun i k hk => .inl ⟨i, hk⟩)⟩
theorem Hold.ext_off (h : Hold w wr T X Y s g O s' g' O' F x l) {i : Nat} (o : Off (F i) wr W) : Ext w W := Below.trans h.ext (o.below (fun j hj => by have := (h.st.low i j hj).1; rw [bx_size] at this; omega) h.ext.size)
theorem Hold.moves (h : Hold w wr T X Y s g O s' g' O' F x l) {G : Nat → Prop} (n : EAt W T.p X' G) (o : Off (F 0) wr W) (gr : Grows (F 0) G wr) : Hold w W T X' Y s g O s' g' O' (upd F 0 G) x l :=
  ⟨h.ext_off o, o.blk h.box (h.free 0), h.st.moves n o gr, h.nob.off o (fun k hk => .inr ⟨0, hk⟩) (grow_upd gr)⟩
theorem Hold.moves' (h : Hold w wr T X Y s g O s' g' O' F x l) {G : Nat → Prop} (n : EAt W T.p' Y' G) (o : Off (F 1) wr W) (gr : Grows (F 1) G wr) : Hold w W T X Y' s g O s' g' O' (turnF (upd (turnF F) 0 G)) x l :=
  ⟨h.ext_off o, o.blk h.box (h.free 1), (h.st.swap.moves (T := T.swap) n o gr).swap, h.nob.off o (fun k hk => .inr ⟨1, hk⟩) (grow_turn 0 gr)⟩
/-- what an end let out is in nobody's part -/
theorem Hold.fresh (h : Hold w wr T X Y s g O s' g' O' F x l) {G : Nat → Prop} (n : EAt W T.p X' G) (o : Off (F 0) wr W) (gr : Grows (F 0) G wr) {y : SV} {m : List Fr} (r : Sl W y.v m) (q : m = [] ∨ ∀ b, y.v.ownBlock = some b → wr.heap.size ≤ b ∧ ¬ G b) : Hold w W T X' Y s g O s' g' O' (upd F 0 G) y m := by
  refine (h.moves n o gr).lay ⟨r, q.imp id fun hq b hb => ⟨?_, fun i hi => ?_⟩⟩
  · have := (hq b hb).1; have := blk_lt h.box; omega
  · by_cases e : i = 0
    · subst e; rw [upd_same] at hi; exact (hq b hb).2 hi
    · rw [upd_ne F G e] at hi; have := (h.st.low i b hi).2; have := (hq b hb).1; omega
theorem Hold.fresh' (h : Hold w wr T X Y s g O s' g' O' F x l) {G : Nat → Prop} (n : EAt W T.p' Y' G) (o : Off (F 1) wr W) (gr : Grows (F 1) G wr) {y : SV} {m : List Fr} (r : Sl W y.v m) (q : m = [] ∨ ∀ b, y.v.ownBlock = some b → wr.heap.size ≤ b ∧ ¬ G b) : Hold w W T X Y' s g O s' g' O' (turnF (upd (turnF F) 0 G)) y m := by
  refine (h.moves' n o gr).lay ⟨r, q.imp id fun hq b hb => ⟨?_, fun i hi => ?_⟩⟩
  · have := (hq b hb).1; have := blk_lt h.box; omega
  · have hi' : upd (turnF F) 0 G (turnI i) b := hi
    by_cases e : turnI i = 0
    · rw [e, upd_same] at hi'; exact (hq b hb).2 hi'
    · rw [upd_ne (turnF F) G e] at hi'; have := (h.st.low _ b hi').2; have := (hq b hb).1; omega
theorem Hold.put_box {T2 : TV} (e : Ext w wr) (st : St (Bx w T) wr T2 X Y s g O s' g' O' F) (nb : Nob w.heap.size F wr x l) (o : Off (fun j => j = w.heap.size) wr W) (hb : W.heap[w.heap.size]? = some (.cells (tvA T2) 59 (0, 0))) : Hold w W T2 X Y s g O s' g' O' F x l := by
  have x2 : Ext w W := Below.trans e (o.below (fun j hj => by omega) e.size)
  exact ⟨x2, hb, st.rebase o (by rw [bx_size]; omega) (by rw [bx_size, bx_size]) (bx_ext x2 hb), nb.off o (fun k hk => .inl hk) (fun i k hk => .inl ⟨i, hk⟩)⟩
/-- I was told one more: its text, appended, and the slice laid into the box -/
theorem Hold.got (h : Hold w wr T X Y s g O s' g' O' F x l) {W2 : World} {ob0 : Obj} {y : SV} {m : List ByteArray} (ho : Ow W2 (w.heap.size + 1) y.v m) (a : Apd (w.heap.size + 1) T.g.v y.v (wr.alloc ob0) W2) :
    W2.heap[w.heap.size]? = some (.cells (tvA T) 59 (0, 0)) ∧ Hold w (W2.setCell ⟨w.heap.size, 6, none⟩ (.slice y.ao y.n y.c)) { T with g := y } X Y s g O s' m O' (upd F 6 (ob y)) x l := by
  have h1 := h.more ((Ext.refl wr).alloc ob0)
  rw [← bx_size w T] at ho a
  have o := off_apd (G := F 6) a h1.st.cg.2
  have gr := grows_apd (G := F 6) a h1.st.cg.2
  have hb := o.blk h1.box (h1.free 6)
  refine ⟨hb, Hold.put_box (h1.ext_off o) (h1.st.got ho a) (h1.nob.off o (fun k hk => .inr ⟨6, hk⟩) (grow_upd gr)) (off_set W2 ⟨w.heap.size, 6, none⟩ _) ?_⟩
  have := blk_set hb 6 (.slice y.ao y.n y.c)
  simpa [tvA] using this
theorem Hold.got' (h : Hold w wr T X Y s g O s' g' O' F x l) {W2 : World} {ob0 : Obj} {y : SV} {m : List ByteArray} (ho : Ow W2 (w.heap.size + 1) y.v m) (a : Apd (w.heap.size + 1) T.g'.v y.v (wr.alloc ob0) W2) :
    W2.heap[w.heap.size]? = some (.cells (tvA T) 59 (0, 0)) ∧ Hold w (W2.setCell ⟨w.heap.size, 7, none⟩ (.slice y.ao y.n y.c)) { T with g' := y } X Y s m O s' g' O' (turnF (upd (turnF F) 6 (ob y))) x l := by
  have h1 := h.more ((Ext.refl wr).alloc ob0)
  rw [← bx_size w T] at ho a
  have o := off_apd (G := F 7) a h1.st.cg'.2
  have gr := grows_apd (G := F 7) a h1.st.cg'.2
  have hb := o.blk h1.box (h1.free 7)
  have s2 : St (Bx w T) W2 { T with g' := y } X Y s m O s' g' O' (turnF (upd (turnF F) 6 (ob y))) := (h1.st.swap.got (T := T.swap) ho a).swap
  refine ⟨hb, Hold.put_box (h1.ext_off o) s2 (h1.nob.off o (fun k hk => .inr ⟨7, hk⟩) (grow_turn 6 gr)) (off_set W2 ⟨w.heap.size, 7, none⟩ _) ?_⟩
  have := blk_set hb 7 (.slice y.ao y.n y.c)
  simpa [tvA] using this
end

theorem feed_len (l : List Fr) : ∀ (Y : EndS) (g : List ByteArray), (feed Y g l).2.length ≤ g.length + l.length := by
  induction l with
  | nil => intro Y g; exact Nat.le_refl _
  | cons f l ih =>
    intro Y g
    have h := ih (Y.take f) (if Y.told f = true then g ++ [f.b] else g)
    have h2 : (if Y.told f = true then g ++ [f.b] else g).length ≤ g.length + 1 := by
      split
      · simp
      · omega
    show (feed (Y.take f) (if Y.told f = true then g ++ [f.b] else g) l).2.length ≤ _
    rw [List.length_cons]
    omega
theorem feed_snoc (l : List Fr) (f : Fr) (Y : EndS) (g : List ByteArray) : feed Y g (l ++ [f]) = ((feed Y g l).1.take f, if (feed Y g l).1.told f = true then (feed Y g l).2 ++ [f.b] else (feed Y g l).2) := by
  rw [feed_append]
  rfl
/-- so many rounds were played -/
def Rnd (w wr : World) (fn i : Nat) : Prop := ∃ T X Y s g O s' g' O' F O2 O2', Hold w wr T X Y s g O s' g' O' F SV.nil [] ∧ Pair fn X Y s g O2 s' g' O2' ∧ X.e = 1 ∧ Y.e = 1 ∧ Far i X Y s' g'
theorem Rnd.start {w wr : World} {fn k : Nat} {T : TV} (h : Play w wr fn k T) : Rnd w wr fn 0 := by
  obtain ⟨X, Y, s, g, O, s', g', O', F, hg⟩ := h.game
  have a1 := hg.pair.okX.len
  have a2 := hg.pair.okX.qn
  have b1 := hg.pair.okY.len
  have b2 := hg.pair.okY.qn
  exact ⟨T, X, Y, s, g, O, s', g', O', F, O, O', ⟨h.ext, h.box, hg.st, Nob.nil _ _ _⟩, hg.pair, hg.one, hg.one', by omega, .inl ⟨rfl, by omega⟩, fun h => by omega⟩
/-- two ends as they are, whatever their blocks and slices -/
def Are (w wi : World) (X Y : EndS) (s g : List ByteArray) (O : List Fr) (s' g' : List ByteArray) (O' : List Fr) (x : SV) (l : List Fr) : Prop := ∃ T F, Hold w wi T X Y s g O s' g' O' F x l
theorem feed_ok {l : List Fr} : ∀ {Y : EndS} (ok : Y.Ok) (g : List ByteArray), (feed Y g l).1.Ok := by
  induction l with
  | nil => intro Y ok g; exact ok
  | cons f l ih => intro Y ok g; exact ih (ok.take f) _
/-- the first k of these frames came to the other one, to me -/
def ComD (w wi : World) (A B : EndS) (s g : List ByteArray) (O : List Fr) (s' g' : List ByteArray) (O' : List Fr) (x : SV) (l : List Fr) (k : Nat) : Prop := Are w wi A (feed B g (l.take k)).1 s (feed B g (l.take k)).2 O s' g' O' x l
def ComU (w wi : World) (A B : EndS) (s g : List ByteArray) (O : List Fr) (s' g' : List ByteArray) (O' : List Fr) (x : SV) (l : List Fr) (k : Nat) : Prop := Are w wi (feed A g' (l.take k)).1 B s g O s' (feed A g' (l.take k)).2 O' x l
/-- one more -/
def Snoc (Y : EndS) (g : List ByteArray) (l : List Fr) (k : Nat) (f : Fr) (Yk : EndS) (gk : List ByteArray) : Prop := feed Y g (l.take (k + 1)) = (Yk.take f, if Yk.told f = true then gk ++ [f.b] else gk)
section
variable {w wi : World} {T : TV} {A B Yk : EndS} {s g gk s' g' : List ByteArray} {O O' l : List Fr} {F : Nat → Nat → Prop} {x : SV} {k : Nat} {f : Fr}
theorem ComD.old (hs : Snoc B g l k f Yk gk) (ht : Yk.told f = false) (h : Hold w wi T A (Yk.take f) s gk O s' g' O' F x l) : ComD w wi A B s g O s' g' O' x l (k + 1) := by
  unfold ComD
  unfold Snoc at hs
  rw [ht, if_neg (by decide)] at hs
  rw [hs]
  exact ⟨T, F, h⟩
theorem ComD.told (hs : Snoc B g l k f Yk gk) (ht : Yk.told f = true) (h : Hold w wi T A (Yk.take f) s (gk ++ [f.b]) O s' g' O' F x l) : ComD w wi A B s g O s' g' O' x l (k + 1) := by
  unfold ComD
  unfold Snoc at hs
  rw [ht, if_pos rfl] at hs
  rw [hs]
  exact ⟨T, F, h⟩
theorem ComU.old (hs : Snoc A g' l k f Yk gk) (ht : Yk.told f = false) (h : Hold w wi T (Yk.take f) B s g O s' gk O' F x l) : ComU w wi A B s g O s' g' O' x l (k + 1) := by
  unfold ComU
  unfold Snoc at hs
  rw [ht, if_neg (by decide)] at hs
  rw [hs]
  exact ⟨T, F, h⟩
theorem ComU.told (hs : Snoc A g' l k f Yk gk) (ht : Yk.told f = true) (h : Hold w wi T (Yk.take f) B s g O s' (gk ++ [f.b]) O' F x l) : ComU w wi A B s g O s' g' O' x l (k + 1) := by
  unfold ComU
  unfold Snoc at hs
  rw [ht, if_pos rfl] at hs
  rw [hs]
  exact ⟨T, F, h⟩
end
/-- what comes in a round -/
def FedB (A B : EndS) (g g' : List ByteArray) (Y1 : EndS) (g1 : List ByteArray) (X2 : EndS) (g2 : List ByteArray) : Prop := feed B g A.frames = (Y1, g1) ∧ feed A.outS g' Y1.frames = (X2, g2)
def tickAll (S : EndS) : EndS := tickN 100 S
theorem tickAll_eq (S : EndS) : tickN 100 S = tickAll S := rfl
/-- within a round -/
def Mid (w wi : World) (A B : EndS) (s g : List ByteArray) (O : List Fr) (s' g' : List ByteArray) (O' : List Fr) (Y1 : EndS) (g1 : List ByteArray) (X2 : EndS) (g2 : List ByteArray) (m : Nat) : Prop :=
  (m = 0 ∧ Are w wi A B s g O s' g' O' SV.nil []) ∨ (m = 1 ∧ Are w wi A.outS Y1 s g1 O s' g' O' SV.nil []) ∨ (m = 2 ∧ Are w wi X2 Y1.outS s g1 O s' g2 O' SV.nil [])
end Go.Proofs.Ytefkjclkondmeaa
