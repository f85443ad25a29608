/- Two ends and six slices of the call's own, none of which has a part in another one. -/
import Derived.Test.YtefkjclkondmeaaKQ
namespace Go.Proofs.Ytefkjclkondmeaa
open Go.RowKit

/-- a slice's value, by its parts -/
structure SV where
  ao : Option Addr
  n : Nat
  c : Nat
def SV.v (x : SV) : Value := .slice x.ao x.n x.c
def SV.nil : SV := ⟨none, 0, 0⟩
/-- two ends, what each let out, was sent, was told: mine, and the other one's -/
structure TV where
  p : Nat
  p' : Nat
  o : SV
  o' : SV
  s : SV
  s' : SV
  g : SV
  g' : SV
def TV.swap (T : TV) : TV := ⟨T.p', T.p, T.o', T.o, T.s', T.s, T.g', T.g⟩
/-- it owns what it reads as, within F -/
def As {α : Type} [Elem α] (w0 w : World) (F : Nat → Prop) (x : SV) (xs : List α) : Prop := Ow w w0.heap.size x.v xs ∧ ∀ b, x.v.ownBlock = some b → F b
/-- no two of these have a part in each other -/
def Dis (F : Nat → Nat → Prop) : Prop := ∀ i j k, F i k → F j k → i = j
def upd (F : Nat → Nat → Prop) (i : Nat) (G : Nat → Prop) : Nat → Nat → Prop := fun j => if j = i then G else F j
theorem upd_same (F : Nat → Nat → Prop) (i : Nat) (G : Nat → Prop) : upd F i G i = G := if_pos rfl
theorem upd_ne (F : Nat → Nat → Prop) {i j : Nat} (G : Nat → Prop) (h : j ≠ i) : upd F i G j = F j := if_neg h
def ob (x : SV) : Nat → Prop := fun b => x.v.ownBlock = some b

theorem ow_keep {α : Type} [Elem α] {w w' : World} {B : Nat} {v : Value} {xs : List α} (h : Ow w B v xs) (hq : ∀ b, v.ownBlock = some b → w'.heap[b]? = w.heap[b]?) : Ow w' B v xs := by
  refine ⟨h.1, ?_⟩
  rcases h.2 with h2 | ⟨g, cap, cur, rfl, hg, hh, r⟩
  · exact .inl h2
  · exact .inr ⟨g, cap, cur, rfl, hg, (hq g rfl).trans hh, r⟩
theorem As.off {α : Type} [Elem α] {w0 w w' : World} {F : Nat → Nat → Prop} {i j : Nat} {x : SV} {xs : List α} (h : As w0 w (F j) x xs) (hd : Dis F) (o : Off (F i) w w') (hij : i ≠ j) : As w0 w' (F j) x xs :=
  ⟨ow_keep h.1 fun b hb => o.block b (h.1.low b hb).2 fun hi => hij (hd i j b hi (h.2 b hb)), h.2⟩
theorem As.ext {α : Type} [Elem α] {w0 w w' : World} {F : Nat → Prop} {x : SV} {xs : List α} (h : As w0 w F x xs) (e : Ext w w') : As w0 w' F x xs := ⟨h.1.ext e, h.2⟩
theorem Dis.upd {F : Nat → Nat → Prop} {G : Nat → Prop} {w : World} {i : Nat} (hd : Dis F) (hl : ∀ i k, F i k → k < w.heap.size) (g : Grows (F i) G w) : Dis (upd F i G) := by
  intro a b k ha hb
  by_cases h1 : a = i
  · subst h1
    by_cases h2 : b = a
    · exact h2.symm
    · rw [upd_same] at ha
      rw [upd_ne F G h2] at hb
      rcases g k ha with h3 | h3
      · exact hd _ _ k h3 hb
      · have := hl b k hb; omega
  · rw [upd_ne F G h1] at ha
    by_cases h2 : b = i
    · subst h2
      rw [upd_same] at hb
      rcases g k hb with h3 | h3
      · exact hd _ _ k ha h3
      · have := hl a k ha; omega
    · rw [upd_ne F G h2] at hb
      exact hd _ _ k ha hb

structure St (w0 w : World) (T : TV) (X Y : EndS) (s g : List ByteArray) (O : List Fr) (s' g' : List ByteArray) (O' : List Fr) (F : Nat → Nat → Prop) : Prop where
  e : EAt w T.p X (F 0)
  e' : EAt w T.p' Y (F 1)
  co : As w0 w (F 2) T.o O
  co' : As w0 w (F 3) T.o' O'
  cs : As w0 w (F 4) T.s s
  cs' : As w0 w (F 5) T.s' s'
  cg : As w0 w (F 6) T.g g'
  cg' : As w0 w (F 7) T.g' g
  dis : Dis F
  low : ∀ i k, F i k → w0.heap.size ≤ k ∧ k < w.heap.size
  ext : Ext w0 w

def turnI (i : Nat) : Nat := if i % 2 = 0 then i + 1 else i - 1
theorem turn_turn (i : Nat) : turnI (turnI i) = i := by unfold turnI; split <;> split <;> omega
section
variable {w0 w w' : World} {T : TV} {X Y X' : EndS} {s g s' g' : List ByteArray} {O O' : List Fr} {F : Nat → Nat → Prop}
theorem St.swap (h : St w0 w T X Y s g O s' g' O' F) : St w0 w T.swap Y X s' g' O' s g O (fun i => F (turnI i)) :=
  ⟨h.e', h.e, h.co', h.co, h.cs', h.cs, h.cg', h.cg, fun i j k h1 h2 => by have := h.dis _ _ k h1 h2; rw [← turn_turn i, this, turn_turn], fun i k hk => h.low _ k hk, h.ext⟩
theorem St.more (h : St w0 w T X Y s g O s' g' O' F) (x : Ext w w') : St w0 w' T X Y s g O s' g' O' F := by
  have hE : ∀ {p S G}, EAt w p S G → EAt w' p S G := fun h => h.off (Off.of_ext (F := fun _ => False) x) (fun _ _ hf => hf)
  exact ⟨hE h.e, hE h.e', h.co.ext x, h.co'.ext x, h.cs.ext x, h.cs'.ext x, h.cg.ext x, h.cg'.ext x, h.dis, fun i k hk => ⟨(h.low i k hk).1, Nat.lt_of_lt_of_le (h.low i k hk).2 x.size⟩, Below.trans h.ext (x.mono h.ext.size)⟩
theorem low_upd {i : Nat} {G : Nat → Prop} (hl : ∀ i k, F i k → w0.heap.size ≤ k ∧ k < w.heap.size) (hx : w0.heap.size ≤ w.heap.size) (hs : w.heap.size ≤ w'.heap.size) (g : Grows (F i) G w) (hG : ∀ k, G k → k < w'.heap.size) : ∀ j k, upd F i G j k → w0.heap.size ≤ k ∧ k < w'.heap.size := by
  intro j k hk
  by_cases h : j = i
  · subst h
    rw [upd_same] at hk
    refine ⟨?_, hG k hk⟩
    rcases g k hk with h1 | h1
    · exact (hl j k h1).1
    · omega
  · rw [upd_ne F G h] at hk
    have := hl j k hk
    omega
theorem ext_upd {i : Nat} (h : Ext w0 w) (o : Off (F i) w w') (hl : ∀ k, F i k → w0.heap.size ≤ k) : Ext w0 w' := Below.trans h (o.below hl h.size)
/-- my end has changed -/
theorem St.moves (h : St w0 w T X Y s g O s' g' O' F) {G : Nat → Prop} (n : EAt w' T.p X' G) (o : Off (F 0) w w') (gr : Grows (F 0) G w) : St w0 w' T X' Y s g O s' g' O' (upd F 0 G) := by
  have hl := fun i k hk => (h.low i k hk).2
  exact ⟨n, h.e'.off o (fun k h1 h0 => by have := h.dis 0 1 k h0 h1; omega), h.co.off h.dis o (by decide), h.co'.off h.dis o (by decide), h.cs.off h.dis o (by decide), h.cs'.off h.dis o (by decide), h.cg.off h.dis o (by decide), h.cg'.off h.dis o (by decide),
    h.dis.upd hl gr, low_upd h.low h.ext.size o.size gr n.low, ext_upd h.ext o (fun k hk => (h.low 0 k hk).1)⟩
theorem off_apd {B : Nat} {x : SV} {v' : Value} {G : Nat → Prop} (a : Apd B x.v v' w w') (hx : ∀ b, x.v.ownBlock = some b → G b) : Off G w w' :=
  ⟨a.grown.os, a.grown.tape, a.grown.output, a.grown.size, fun k hk hf => a.grown.block k hk (fun e => hf (hx k e.symm))⟩
theorem grows_apd {B : Nat} {x y : SV} {G : Nat → Prop} (a : Apd B x.v y.v w w') (hx : ∀ b, x.v.ownBlock = some b → G b) : Grows G (ob y) w := fun k hk => by
  rcases a.block with h | h
  · exact .inl (hx k (h ▸ hk))
  · exact .inr (h k hk)
theorem St.put (h : St w0 w T X Y s g O s' g' O' F) {y : SV} {l : List Fr} (ho : Ow w' w0.heap.size y.v l) (a : Apd w0.heap.size T.o.v y.v w w') : St w0 w' { T with o := y } X Y s g l s' g' O' (upd F 2 (ob y)) := by
  have hl := fun i k hk => (h.low i k hk).2
  have o := off_apd (G := F 2) a h.co.2
  have gr := grows_apd (G := F 2) a h.co.2
  exact ⟨h.e.off o (fun k h1 h0 => by have := h.dis 2 0 k h0 h1; omega), h.e'.off o (fun k h1 h0 => by have := h.dis 2 1 k h0 h1; omega), ⟨ho, fun _ hb => hb⟩, h.co'.off h.dis o (by decide), h.cs.off h.dis o (by decide), h.cs'.off h.dis o (by decide), h.cg.off h.dis o (by decide), h.cg'.off h.dis o (by decide),
    h.dis.upd hl gr, low_upd h.low h.ext.size o.size gr (fun k hk => (ho.low k hk).2), ext_upd h.ext o (fun k hk => (h.low 2 k hk).1)⟩
theorem St.sent (h : St w0 w T X Y s g O s' g' O' F) {y : SV} {l : List ByteArray} (ho : Ow w' w0.heap.size y.v l) (a : Apd w0.heap.size T.s.v y.v w w') : St w0 w' { T with s := y } X Y l g O s' g' O' (upd F 4 (ob y)) := by
  have hl := fun i k hk => (h.low i k hk).2
  have o := off_apd (G := F 4) a h.cs.2
  have gr := grows_apd (G := F 4) a h.cs.2
  exact ⟨h.e.off o (fun k h1 h0 => by have := h.dis 4 0 k h0 h1; omega), h.e'.off o (fun k h1 h0 => by have := h.dis 4 1 k h0 h1; omega), h.co.off h.dis o (by decide), h.co'.off h.dis o (by decide), ⟨ho, fun _ hb => hb⟩, h.cs'.off h.dis o (by decide), h.cg.off h.dis o (by decide), h.cg'.off h.dis o (by decide),
    h.dis.upd hl gr, low_upd h.low h.ext.size o.size gr (fun k hk => (ho.low k hk).2), ext_upd h.ext o (fun k hk => (h.low 4 k hk).1)⟩
theorem St.got (h : St w0 w T X Y s g O s' g' O' F) {y : SV} {l : List ByteArray} (ho : Ow w' w0.heap.size y.v l) (a : Apd w0.heap.size T.g.v y.v w w') : St w0 w' { T with g := y } X Y s g O s' l O' (upd F 6 (ob y)) := by
  have hl := fun i k hk => (h.low i k hk).2
  have o := off_apd (G := F 6) a h.cg.2
  have gr := grows_apd (G := F 6) a h.cg.2
  exact ⟨h.e.off o (fun k h1 h0 => by have := h.dis 6 0 k h0 h1; omega), h.e'.off o (fun k h1 h0 => by have := h.dis 6 1 k h0 h1; omega), h.co.off h.dis o (by decide), h.co'.off h.dis o (by decide), h.cs.off h.dis o (by decide), h.cs'.off h.dis o (by decide), ⟨ho, fun _ hb => hb⟩, h.cg'.off h.dis o (by decide),
    h.dis.upd hl gr, low_upd h.low h.ext.size o.size gr (fun k hk => (ho.low k hk).2), ext_upd h.ext o (fun k hk => (h.low 6 k hk).1)⟩
/-- a box of the call's own is nobody's -/
theorem St.box (h : St w0 w T X Y s g O s' g' O' F) {W : World} {b : Nat} (x : Off (fun k => k = b) w W) (hb : ∀ i, ¬ F i b) (hb0 : w0.heap.size ≤ b) : St w0 W T X Y s g O s' g' O' F := by
  have hE : ∀ {p S i}, EAt w p S (F i) → EAt W p S (F i) := fun {p S i} h => h.off x (fun k hk e => hb i (e ▸ hk))
  have hA : ∀ {α : Type} [Elem α] {i : Nat} {x9 : SV} {xs : List α}, As w0 w (F i) x9 xs → As w0 W (F i) x9 xs := fun {α _ i x9 xs} h9 => ⟨ow_keep h9.1 fun c hc => x.block c (h9.1.low c hc).2 (fun e => hb i (e ▸ h9.2 c hc)), h9.2⟩
  exact ⟨hE h.e, hE h.e', hA h.co, hA h.co', hA h.cs, hA h.cs', hA h.cg, hA h.cg', h.dis, fun i k hk => ⟨(h.low i k hk).1, Nat.lt_of_lt_of_le (h.low i k hk).2 x.size⟩, Below.trans h.ext (x.below (fun k hk => by rw [hk]; exact hb0) h.ext.size)⟩
end

/-- frames that may go -/
def FitO (O : List Fr) : Prop := ∀ f ∈ O, f.a < 18446744073709551616 ∧ f.q < 18446744073709551616 ∧ f.b.size ≤ 1000
theorem FitO.frames {X : EndS} (ok : X.Ok) : FitO X.frames := by
  intro f hf
  obtain ⟨j, hj, rfl⟩ : ∃ j, j < X.frames.length ∧ f = X.frames.getD j Fr.zero := by
    obtain ⟨j, hj, e⟩ := List.getElem_of_mem hf
    exact ⟨j, hj, by simp [hj, e]⟩
  have hw := ok.want
  rcases EndS.frames_getD j hj with ⟨h3, _⟩ | ⟨h3, _⟩
  · rw [h3]
    have := EndS.data_in ok (X.out + j)
    exact ⟨hw, Nat.mod_lt _ (by decide), by omega⟩
  · rw [h3]
    exact ⟨hw, by show (0 : Nat) < _; decide, by show (⟨#[]⟩ : ByteArray).size ≤ 1000; decide⟩
theorem FitO.app {O O2 : List Fr} (h : FitO O) (h2 : FitO O2) : FitO (O ++ O2) := fun f hf => (List.mem_append.1 hf).elim (h f) (h2 f)
end Go.Proofs.Ytefkjclkondmeaa
