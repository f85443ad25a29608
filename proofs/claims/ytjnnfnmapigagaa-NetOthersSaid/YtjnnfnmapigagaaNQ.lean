/- What a net is in memory: a map of rings of bytes; what a step of one ring is to the others. -/
import Derived.Test.YtjnnfnmapigagaaN6
import Derived.Test.YtjnnfnmapigagaaNK
namespace Go.Proofs.Ytjnnfnmapigagaa
open Go.RowKit Go.Maps

theorem NetS.Ok.put {S : NetS} (h : S.Ok) {a b : Int} (h2 : S.two a b = true) {l : List ByteArray} (hl : l.length ≤ S.room) (hs : ∀ s ∈ l, s.size ≤ 1000) : (S.put a b l).Ok := by
  refine ⟨h.nodes, h.rooms, fun x y => ?_, fun x y hxy => ?_, fun x y s hm => ?_⟩
  · show (if x = a ∧ y = b then l else S.f x y).length ≤ S.room
    split
    · exact hl
    · exact h.few x y
  · show (if x = a ∧ y = b then l else S.f x y) = []
    rw [if_neg (fun e => by
      have : S.two x y = false := hxy
      rw [e.1, e.2, h2] at this
      cases this)]
    exact h.none x y hxy
  · by_cases e : x = a ∧ y = b
    · have : s ∈ l := by simpa [NetS.put, e] using hm
      exact hs s this
    · have : s ∈ S.f x y := by simpa [NetS.put, e] using hm
      exact h.short x y s this

theorem Byt.keep {w w' : World} {g : Nat} {l : List Nat} (h : Byt w g l) (hg : w'.heap[g]? = w.heap[g]?) : Byt w' g l := by
  obtain ⟨C, m, h1, h2⟩ := h
  exact ⟨C, m, hg.trans h1, h2⟩
theorem Ow.keep {α : Type} [Elem α] {w w' : World} {B : Nat} {v : Value} {xs : List α} (h : Ow w B v xs) (hq : ∀ b, v.ownBlock = some b → w'.heap[b]? = w.heap[b]?) : Ow w' B v xs := by
  refine ⟨h.1, ?_⟩
  rcases h.2 with h2 | ⟨g, cap, cur, rfl, hg, hh, r⟩
  · exact .inl h2
  · exact .inr ⟨g, cap, cur, rfl, hg, (hq g rfl).trans hh, r⟩
theorem RAt.keep {α : Type} [Elem α] {T : TypeId} {w w' : World} {B p : Nat} {q : Option Nat} {room : Nat} {xs : List α} (h : RAt T w B p q room xs) (hp : w'.heap[p]? = w.heap[p]?) (hq : ∀ b, q = some b → w'.heap[b]? = w.heap[b]?) : RAt T w' B p q room xs := by
  obtain ⟨v, hb, ho, rfl, hne⟩ := h.blk
  exact ⟨h.low, h.le, h.most, v, hp.trans hb, ho.keep hq, rfl, hne⟩

/-- an element's bytes -/
def BytAt (w : World) (own : Nat → Prop) (g : Nat) (q : Option Nat) (v : BV) (s : ByteArray) : Prop :=
  ∃ b, v.ao = some ⟨b, 0, none⟩ ∧ v.n = s.size ∧ Byt w b (bl s) ∧ own b ∧ b ≠ g ∧ q ≠ some b
/-- a ring of rows of bytes -/
structure Row (w : World) (own : Nat → Prop) (g room : Nat) (vs : List BV) (q : Option Nat) (l : List ByteArray) : Prop where
  ring : RAt 75 w 0 g q room vs
  og : own g
  oq : ∀ b, q = some b → own b
  all : All2 (BytAt w own g q) vs l
  apart : vs.Pairwise (fun x y => x.ao ≠ y.ao)
def RowAt (w : World) (own : Nat → Prop) (g room : Nat) (l : List ByteArray) : Prop := ∃ vs q, Row w own g room vs q l

theorem RowAt.to {w w' : World} {own own' : Nat → Prop} {g room : Nat} {l : List ByteArray} (h : RowAt w own g room l) (hk : ∀ k, own k → k < w.heap.size → w'.heap[k]? = w.heap[k]?) (hm : ∀ k, own k → own' k) : RowAt w' own' g room l := by
  obtain ⟨vs, q, h1, h2, h3, h4, h5⟩ := h
  refine ⟨vs, q, h1.keep (hk g h2 h1.lt) (fun b hb => hk b (h3 b hb) (h1.qlow b hb).2), hm g h2, fun b hb => hm b (h3 b hb), h4.mono ?_, h5⟩
  rintro v s ⟨b, e1, e2, e3, e4, e5, e6⟩
  exact ⟨b, e1, e2, e3.keep (hk b e4 e3.lt), hm b e4, e5, e6⟩

theorem Row.ext {w w' : World} {own : Nat → Prop} {g room : Nat} {vs : List BV} {q : Option Nat} {l : List ByteArray} (h : Row w own g room vs q l) (x : Ext w w') : Row w' own g room vs q l :=
  ⟨h.ring.ext x, h.og, h.oq, h.all.mono (fun _ _ ⟨b, e1, e2, e3, e4⟩ => ⟨b, e1, e2, e3.ext x, e4⟩), h.apart⟩
/-- elements of which one step of the ring changes nothing -/
theorem BytAt.step {w w' : World} {own own' : Nat → Prop} {g : Nat} {q q' : Option Nat} {v : BV} {s : ByteArray} (h : BytAt w own g q v s) (r : RStep g q q' w w') (hm : ∀ k, own k → own' k) : BytAt w' own' g q' v s := by
  obtain ⟨b, e1, e2, e3, e4, e5, e6⟩ := h
  refine ⟨b, e1, e2, e3.keep (r.block b e3.lt e5 e6), hm b e4, e5, fun e => ?_⟩
  rcases r.new with h1 | h1
  · exact e6 (h1 ▸ e)
  · have := h1 b e; have := e3.lt; omega

theorem All2.eraseIdx {α β : Type} {R : α → β → Prop} : ∀ {l : List α} {m : List β}, All2 R l m → ∀ k, All2 R (l.eraseIdx k) (m.eraseIdx k)
  | _, _, .nil, _ => by rw [List.eraseIdx_nil, List.eraseIdx_nil]; exact .nil
  | _, _, .cons _ h, 0 => h
  | _, _, .cons hr h, k + 1 => .cons hr (h.eraseIdx k)

theorem pairwise_push {vs : List BV} {v : BV} (h : vs.Pairwise (fun x y => x.ao ≠ y.ao)) (hv : ∀ x ∈ vs, x.ao ≠ v.ao) : (vs ++ [v]).Pairwise (fun x y => x.ao ≠ y.ao) := by
  rw [List.pairwise_append]
  exact ⟨h, List.pairwise_singleton _ _, fun x hx y hy => by rw [List.mem_singleton] at hy; subst hy; exact hv x hx⟩
theorem All2.mem {α β : Type} {R : α → β → Prop} : ∀ {l : List α} {m : List β}, All2 R l m → ∀ x ∈ l, ∃ y ∈ m, R x y
  | _, _, .cons hr h, x, hx => by
    rcases List.mem_cons.1 hx with rfl | hx
    · exact ⟨_, List.mem_cons_self .., hr⟩
    · obtain ⟨y, hy, hq⟩ := h.mem x hx
      exact ⟨y, List.mem_cons_of_mem _ hy, hq⟩

/-- what is new belongs to the ring, too -/
def Own' (own : Nat → Prop) (w w' : World) (k : Nat) : Prop := own k ∨ (w.heap.size ≤ k ∧ k < w'.heap.size)

/-- pushed: the bytes lie in a new block -/
theorem RowAt.push {w w1 w2 : World} {own : Nat → Prop} {g room n : Nat} {vs : List BV} {q q' : Option Nat} {l : List ByteArray} {s : ByteArray} {c : Nat} (h : Row w own g room vs q l) (x1 : Ext w w1) (hn : w.heap.size ≤ n) (hb : Byt w1 n (bl s)) (hq1 : RStep g q q' w1 w2)
    (hr : RAt 75 w2 0 g q' room (vs ++ [⟨some ⟨n, 0, none⟩, s.size, c⟩])) : RowAt w2 (Own' own w w2) g room (l ++ [s]) := by
  have hg := h.ring.lt
  have hn1 := hb.lt
  have hs := hq1.size
  have hold : ∀ v s, BytAt w own g q v s → BytAt w2 (Own' own w w2) g q' v s := fun v s hv => by
    obtain ⟨b, e1, e2, e3, e4, e5, e6⟩ := hv
    exact BytAt.step (own := own) ⟨b, e1, e2, e3.ext x1, e4, e5, e6⟩ hq1 (fun k hk => .inl hk)
  refine ⟨_, q', hr, .inl h.og, fun b hb => ?_, (h.all.mono hold).append (.one ⟨n, rfl, rfl, hb.keep (hq1.block n hn1 (by omega) (fun e => by have := (h.ring.qlow n e).2; omega)), .inr ⟨hn, by omega⟩, by omega, fun e => ?_⟩), pairwise_push h.apart fun x hx e => ?_⟩
  · rcases hq1.new with h1 | h1
    · exact .inl (h.oq b (h1 ▸ hb))
    · exact .inr ⟨Nat.le_trans x1.size (h1 b hb), (hr.qlow b hb).2⟩
  · rcases hq1.new with h1 | h1
    · have := (h.ring.qlow n (h1 ▸ e)).2; omega
    · have := h1 n e; omega
  · obtain ⟨y, _, b, e1, _, e3, _⟩ := h.all.mem x hx
    rw [e1] at e
    have e' : b = n := by simpa using e
    have := e3.lt
    omega

/-- cut -/
theorem RowAt.cut {w w2 : World} {own : Nat → Prop} {g room k : Nat} {vs : List BV} {q q' : Option Nat} {l : List ByteArray} (h : Row w own g room vs q l) (hq1 : RStep g q q' w w2)
    (hr : RAt 75 w2 0 g q' room (vs.eraseIdx k)) : RowAt w2 (Own' own w w2) g room (l.eraseIdx k) := by
  refine ⟨_, q', hr, .inl h.og, fun b hb => ?_, (h.all.eraseIdx k).mono (fun v s hv => hv.step hq1 (fun k hk => .inl hk)), h.apart.sublist (List.eraseIdx_sublist ..)⟩
  rcases hq1.new with h1 | h1
  · exact .inl (h.oq b (h1 ▸ hb))
  · exact .inr ⟨h1 b hb, (hr.qlow b hb).2⟩

/-- a bit turned: a cell of the bytes of one element -/
theorem RowAt.turn {w : World} {own : Nat → Prop} {g room k b j X : Nat} {vs : List BV} {q : Option Nat} {l : List ByteArray} {s : ByteArray} {v : BV} (h : Row w own g room vs q l) (hv : vs[k]? = some v) (hs : l[k]? = some s) (hb : v.ao = some ⟨b, 0, none⟩)
    (hj : j < s.size) (s' : ByteArray) (hs' : bl s' = (bl s).set j X) : RowAt (w.setCell ⟨b, j, none⟩ (.int .u8 (X : Int))) own g room (l.set k s') := by
  obtain ⟨b', e1, e2, e3, e4, e5, e6⟩ := h.all.get hv hs
  have hbb : b' = b := by rw [e1] at hb; simpa using hb
  subst hbb
  have hoth : ∀ c, c ≠ b' → (w.setCell ⟨b', j, none⟩ (.int .u8 (X : Int))).heap[c]? = w.heap[c]? := fun c hc => set_other _ _ _ _ hc
  have hnew : Byt (w.setCell ⟨b', j, none⟩ (.int .u8 (X : Int))) b' (bl s') := by rw [hs']; exact e3.set j X (by rw [bl_length]; exact hj)
  have hsz : s'.size = s.size := by
    have := congrArg List.length hs'
    rwa [List.length_set, bl_length, bl_length] at this
  refine ⟨vs, q, h.ring.keep (hoth g (Ne.symm e5)) (fun c hc => hoth c (fun e => e6 (e ▸ hc))), h.og, h.oq, ?_, h.apart⟩
  have main : ∀ {vs : List BV} {l : List ByteArray} {k : Nat}, All2 (BytAt w own g q) vs l → vs.Pairwise (fun x y => x.ao ≠ y.ao) → vs[k]? = some v → l[k]? = some s → All2 (BytAt (w.setCell ⟨b', j, none⟩ (.int .u8 (X : Int))) own g q) vs (l.set k s') := by
    intro vs l k hall
    induction hall generalizing k with
    | nil => intro _ h; simp at h
    | @cons x y xs ys hr hall ih =>
      intro hp hvk hsk
      have hp' := List.pairwise_cons.1 hp
      cases k with
      | zero =>
        simp at hvk hsk
        subst hvk hsk
        refine .cons ⟨b', e1, e2.trans hsz.symm, hnew, e4, e5, e6⟩ ?_
        have hrest : ∀ {xs : List BV} {ys : List ByteArray}, All2 (BytAt w own g q) xs ys → (∀ z ∈ xs, x.ao ≠ z.ao) → All2 (BytAt (w.setCell ⟨b', j, none⟩ (.int .u8 (X : Int))) own g q) xs ys := by
          intro xs ys hall
          induction hall with
          | nil => intro _; exact .nil
          | @cons z t _ _ hr _ ih =>
            intro hne
            refine .cons ?_ (ih fun z hz => hne z (List.mem_cons_of_mem _ hz))
            obtain ⟨c, f1, f2, f3, f4⟩ := hr
            refine ⟨c, f1, f2, f3.keep (hoth c fun e => ?_), f4⟩
            exact hne z (List.mem_cons_self ..) (by rw [e1, f1, e])
        exact hrest hall hp'.1
      | succ k =>
        simp at hvk hsk
        refine .cons ?_ (ih hp'.2 hvk hsk)
        obtain ⟨c, f1, f2, f3, f4⟩ := hr
        refine ⟨c, f1, f2, f3.keep (hoth c fun e => ?_), f4⟩
        exact hp'.1 v (List.mem_of_getElem? hvk) (by rw [e1, f1, e])
  exact main h.all h.apart hv hs

/-- the net at block p: its map's block, what the map tells, each ring's block, and whose each block is -/
structure NA (w : World) (p : Nat) (S : NetS) (F : Nat → Prop) (m : Nat) (D : DataW Unit) (G : Int → Int → Nat) (O : Nat → Option (Int × Int)) : Prop where
  ok : S.Ok
  blk : w.heap[p]? = some (.cells #[.map (some m)] 61 (0, 0))
  map : w.ownsMap Try.prog 59 rb m 5000 D
  tells : ∀ a b, In64 a → In64 b → ∀ zd, D.atKey (klit a b) zd = if S.two a b = true then .lit (.int .i64 (G a b : Int)) else zd
  fp : F p
  fm : F m
  op : ∀ a b, O p ≠ some (a, b)
  om : ∀ a b, O m ≠ some (a, b)
  own : ∀ k a b, O k = some (a, b) → F k
  low : ∀ k, F k → k < w.heap.size
  rows : ∀ a b, S.two a b = true → RowAt w (fun k => O k = some (a, b)) (G a b) S.room (S.f a b)

/-- the program's net at block p: what it means, and which blocks are its own -/
def NAt (w : World) (p : Nat) (S : NetS) (F : Nat → Prop) : Prop := ∃ m D G O, NA w p S F m D G O
theorem NAt.ok {w : World} {p : Nat} {S : NetS} {F : Nat → Prop} (h : NAt w p S F) : S.Ok := by obtain ⟨_, _, _, _, h⟩ := h; exact h.ok
theorem NAt.low {w : World} {p : Nat} {S : NetS} {F : Nat → Prop} (h : NAt w p S F) : ∀ k, F k → k < w.heap.size := by obtain ⟨_, _, _, _, h⟩ := h; exact h.low
theorem map_keep {w w' : World} {m n : Nat} {D : DataW Unit} (h : w.ownsMap Try.prog 59 rb m n D) (hb : w'.heap[m]? = w.heap[m]?) : w'.ownsMap Try.prog 59 rb m n D := by
  obtain ⟨es, clock, h1, r⟩ := h
  exact ⟨es, clock, hb.trans h1, r⟩
theorem NA.off {w w' : World} {p : Nat} {S : NetS} {F H : Nat → Prop} {m : Nat} {D : DataW Unit} {G : Int → Int → Nat} {O : Nat → Option (Int × Int)} (h : NA w p S F m D G O) (o : Off H w w') (hg : ∀ k, F k → ¬ H k) : NA w' p S F m D G O := by
  have hk : ∀ k, F k → w'.heap[k]? = w.heap[k]? := fun k hk => o.block k (h.low k hk) (hg k hk)
  exact ⟨h.ok, (hk p h.fp).trans h.blk, map_keep h.map (hk m h.fm), h.tells, h.fp, h.fm, h.op, h.om, h.own, fun k hk => Nat.lt_of_lt_of_le (h.low k hk) o.size, fun a b h2 => (h.rows a b h2).to (fun k ho _ => hk k (h.own k a b ho)) (fun _ ho => ho)⟩
theorem NAt.off {w w' : World} {p : Nat} {S : NetS} {F G : Nat → Prop} (h : NAt w p S F) (o : Off G w w') (hg : ∀ k, F k → ¬ G k) : NAt w' p S F := by
  obtain ⟨m, D, K, O, h⟩ := h
  exact ⟨m, D, K, O, h.off o hg⟩
/-- it answers r, and means S' then -/
def Moves (p : Nat) (S' : NetS) (F : Nat → Prop) (r : Value) (w : World) (e : Ending) (w' : World) : Prop := ∃ F', e = .returned r ∧ NAt w' p S' F' ∧ Off F w w' ∧ Grows F F' w

section
variable {w w' : World} {p : Nat} {S : NetS} {F : Nat → Prop} {m : Nat} {D : DataW Unit} {G : Int → Int → Nat} {O : Nat → Option (Int × Int)}
/-- nothing has changed -/
theorem NA.same (h : NA w p S F m D G O) (x : Ext w w') (r : Value) : Moves p S F r w (.returned r) w' :=
  ⟨F, rfl, ⟨m, D, G, O, h.off (Off.of_ext (F := fun _ => False) x) (fun _ _ hf => hf)⟩, Off.of_ext x, Grows.refl _ _⟩
/-- one ring has changed -/
theorem NA.put (h : NA w p S F m D G O) {a b : Int} (h2 : S.two a b = true) {l : List ByteArray} (hS : (S.put a b l).Ok) (hos : w'.os = w.os) (htape : w'.tape = w.tape) (hout : w'.output = w.output) (hsz : w.heap.size ≤ w'.heap.size)
    (hblk : ∀ k, k < w.heap.size → O k ≠ some (a, b) → w'.heap[k]? = w.heap[k]?) (row : RowAt w' (Own' (fun k => O k = some (a, b)) w w') (G a b) S.room l) (r : Value) : Moves p (S.put a b l) F r w (.returned r) w' := by
  refine ⟨Own' F w w', rfl, ⟨m, D, G, fun k => if k < w.heap.size then O k else if k < w'.heap.size then some (a, b) else none, hS, (hblk p (h.low p h.fp) (h.op a b)).trans h.blk, map_keep h.map (hblk m (h.low m h.fm) (h.om a b)), h.tells, .inl h.fp, .inl h.fm, fun x y => ?_, fun x y => ?_, fun k x y hk => ?_, fun k hk => ?_, fun x y hxy => ?_⟩, ⟨hos, htape, hout, hsz, fun k hk hf => hblk k hk fun ho => hf (h.own k a b ho)⟩, fun k hk => ?_⟩
  · rw [if_pos (h.low p h.fp)]
    exact h.op x y
  · rw [if_pos (h.low m h.fm)]
    exact h.om x y
  · split at hk
    · exact .inl (h.own k x y hk)
    · split at hk
      · exact .inr ⟨by omega, by assumption⟩
      · cases hk
  · rcases hk with hk | hk
    · exact Nat.lt_of_lt_of_le (h.low k hk) hsz
    · exact hk.2
  · by_cases e : x = a ∧ y = b
    · obtain ⟨rfl, rfl⟩ := e
      have e1 : (S.put x y l).f x y = l := by simp [NetS.put]
      rw [e1]
      refine row.to (fun k _ _ => rfl) (fun k hk => ?_)
      rcases hk with hk | hk
      · rw [if_pos (h.low k (h.own k x y hk))]
        exact hk
      · rw [if_neg (by omega), if_pos hk.2]
    · have e1 : (S.put a b l).f x y = S.f x y := by simp [NetS.put, e]
      rw [e1]
      refine (h.rows x y hxy).to (fun k hk hlt => hblk k hlt (fun e' => e ?_)) (fun k hk => ?_)
      · rw [hk] at e'
        simpa using e'
      · rw [if_pos (h.low k (h.own k x y hk))]
        exact hk
  · rcases hk with hk | hk
    · exact .inl hk
    · exact .inr hk.1
end
end Go.Proofs.Ytjnnfnmapigagaa
