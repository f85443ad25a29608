/- Slices in memory, whatever their elements: what a slice reads as (Rd, Sl), what a call's own slice holds (Ow), and append over them. -/
import Derived.Test.YtgcnjkabpcbkgaaChecked
import Derived.WalkKit
import Derived.WalkSpells
import Derived.WalkLawsBesides
import Derived.Laws.AppendOwnNone
import Derived.Deep.QuietTactic
import Derived.BigQuiet
import Derived.Lib.Hide
import Derived.OneCell
namespace Go.Proofs.Ytgcnjkabpcbkgaa
open Go.RowKit

/-- The slice value v reads as the cells L, n elements of k cells each. -/
def Rd (w : World) (k : Nat) (v : Value) (n : Nat) (L : List Value) : Prop :=
  L.length = n * k ∧ ∃ ao c, v = .slice ao n c ∧ n ≤ c ∧ c ≤ maxLen ∧ (ao = none → c = 0) ∧
    (n = 0 ∨ ∃ b off, ao = some ⟨b, off, none⟩ ∧ b < w.heap.size ∧ ∀ j u, L[j]? = some u → w.cell? ⟨b, off + j, none⟩ = some u)

theorem Rd.below {w w' : World} {k : Nat} {v : Value} {n : Nat} {L : List Value} (h : Rd w k v n L) {B : Nat} (hb : Below B w w') (hB : w.heap.size ≤ B) : Rd w' k v n L := by
  obtain ⟨h1, ao, c, hv, h2, h3, h4, h5⟩ := h
  refine ⟨h1, ao, c, hv, h2, h3, h4, ?_⟩
  rcases h5 with h5 | ⟨b, off, ha, hbl, hc⟩
  · exact .inl h5
  · exact .inr ⟨b, off, ha, by have := hb.size; omega, fun j u hj => (hb.cell (p := ⟨b, off + j, none⟩) (by show b < B; omega)).trans (hc j u hj)⟩

theorem Rd.of_own {w : World} {B e k : Nat} {v : Value} {n : Nat} {L : List Value} (h : w.ownsRow B e k v n L) : Rd w k v n L := by
  refine ⟨h.1, ?_⟩
  rcases h.2 with ⟨rfl, rfl⟩ | ⟨g, cap, cur, rfl, hg, hh, h1, h2, h3, h4⟩
  · exact ⟨none, 0, rfl, Nat.le_refl _, by unfold maxLen; omega, fun _ => rfl, .inl rfl⟩
  · refine ⟨some ⟨g, 0, none⟩, cap, rfl, h1, h2, by simp, .inr ⟨g, 0, rfl, (Array.getElem?_eq_some_iff.1 hh).1, fun j u hj => ?_⟩⟩
    have hjl : j < n * k := by rw [← h.1]; exact (List.getElem?_eq_some_iff.1 hj).1
    rw [Nat.zero_add, h.cellAt j hjl, hj]

/-- Where an append onto a slice of the call's own lies: where it did, or in a new block. -/
theorem append_block {P : Program} {w : World} (base : Nat) (t ty e : TypeId) (i : TypeInfo) (z : Value) (size bytes : Nat) (ht : P.underlying t = some (.slice e)) (hi : P.info? e = some i) (hz : i.zero = some z)
    (hsize : i.size = size) (hby : i.bytes = bytes) (hzs : z.cells.size = size) (hsz : 0 < size)
    (v : Value) (n : Nat) (xs : List Value) (hown : w.ownsRow base e size v n xs)
    (a : Addr) (m c : Nat) (news : List Value) (hl : news.length = m * size) (hnews : ∀ j u, news[j]? = some u → w.cell? (a.add j) = some u) (h1 : ∀ u ∈ news, u.oneCell' = true)
    (h63 : n + m ≤ maxLen) (hbytes : (n + m) * bytes ≤ 140737488355328) {v' : Value} {w' : World}
    (hr : (Builtin.append_ #[t, t] ty #[v, .slice (some a) m c]).run P w = .ok v' w') : v'.ownBlock = v.ownBlock ∨ ∀ b, v'.ownBlock = some b → w.heap.size ≤ b := by
  subst hsize
  subst hby
  have hsmall : n + m ≤ 9223372036854775807 := by simpa only [maxLen] using h63
  rcases hown.2 with ⟨rfl, rfl⟩ | ⟨g, cap, cur, rfl, hbg, hg, hnc, hcm, hcs, htake⟩
  · obtain ⟨v2, w2, hr2, ho2, _⟩ := run_append_own (P := P) w w.heap.size t ty e i z i.size i.bytes ht hi hz rfl rfl hzs hsz _ 0 xs ⟨hown.1, .inl ⟨rfl, rfl⟩⟩ a m c news hl hnews h1 h63 hbytes (Nat.le_refl _)
    rw [hr2] at hr
    cases hr
    exact .inr fun b hb => (ho2.lt b hb).1
  · by_cases hroom : n + m ≤ cap
    · have hfit : n * i.size + news.length ≤ cur.size := by rw [hl, hcs, ← Nat.add_mul]; exact Nat.mul_le_mul_right _ hroom
      have hr2 := run_append_room (P := P) w t ty e i ht hi g n cap cur hg a m c news hl hnews h1 hroom hfit
      rw [hr2] at hr
      cases hr
      exact .inl rfl
    · have holds : ∀ j u, xs[j]? = some u → w.cell? ((⟨g, 0, none⟩ : Addr).add j) = some u := hown.cells (g := g) rfl
      have hr2 := run_append_grow (P := P) w t ty e i z ht hi hz ⟨g, 0, none⟩ n cap xs hown.1 holds a m c news hl hnews (by omega) (by omega) (growslice_fits (by omega) hbytes)
      rw [hr2] at hr
      cases hr
      exact .inr fun b hb => by simp [Value.ownBlock] at hb; omega

/-- What an append leaves: the old blocks, but for the slice's own; where the new slice lies. -/
structure Apd (base : Nat) (v v' : Value) (w w' : World) : Prop where
  grown : w.grownBy w' v.ownBlock
  below : Below base w w'
  kept : v ≠ .slice none 0 0 → v' ≠ .slice none 0 0
  block : v'.ownBlock = v.ownBlock ∨ ∀ b, v'.ownBlock = some b → w.heap.size ≤ b

/-- Append of what a slice reads as onto a slice of the call's own. -/
theorem wp_append_rd {P : Program} {w : World} {o : Oper} {a : Act} {K : Act → World → Prop} {Q : Exit → Act → World → Prop} (s x : Operand) (t : TypeId)
    (ho : o.op = .call { callee := .builtin .append, args := #[s, x], argTypes := #[t, t] })
    (base : Nat) (e : TypeId) (i : TypeInfo) (z : Value) (size bytes : Nat) (ht : P.underlying t = some (.slice e)) (hi : P.info? e = some i) (hz : i.zero = some z)
    (hsize : i.size = size) (hby : i.bytes = bytes) (hzs : z.cells.size = size) (hsz : 0 < size)
    (v : Value) (n : Nat) (xs : List Value) (hs : a.eval s = v) (hown : w.ownsRow base e size v n xs)
    (vx : Value) (m : Nat) (news : List Value) (hx : a.eval x = vx) (hrd : Rd w size vx m news) (h1 : ∀ u ∈ news, u.oneCell' = true)
    (h63 : n + m ≤ maxLen) (hbytes : (n + m) * bytes ≤ 140737488355328) (hbase : base ≤ w.heap.size)
    (h : ∀ v' w', w'.ownsRow base e size v' (n + m) (xs ++ news) → Apd base v v' w w' → K (a.put o.dst v') w') : o.wp P a w K Q := by
  obtain ⟨hl, ao, c, rfl, hmc, hc63, hnone, hcells⟩ := hrd
  have hlt := hown.lt
  cases ao with
  | none =>
    have hc0 := hnone rfl
    subst hc0
    obtain rfl : m = 0 := by omega
    obtain rfl : news = [] := List.eq_nil_of_length_eq_zero (by simpa using hl)
    have hrun := run_append_owned_none (P := P) (w := w) base t o.type e i size ht hi v n xs hown
    unfold Oper.wp
    simp [execOp, ho, resolve, invoke, builtin, hs, hx, hrun, Result.andThen]
    exact h v w (by simpa using hown) ⟨⟨rfl, rfl, rfl, Nat.le_refl _, fun _ _ _ => rfl⟩, Below.refl _ _, fun h => h, .inl rfl⟩
  | some ad =>
    have hnews : ∀ j u, news[j]? = some u → w.cell? (ad.add j) = some u := by
      intro j u hj
      rcases hcells with h0 | ⟨b, off, ha, _, hc⟩
      · subst h0
        have : news = [] := List.eq_nil_of_length_eq_zero (by simpa using hl)
        subst this
        simp at hj
      · cases ha
        have := hc j u hj
        unfold Addr.add
        split
        · next hj0 => subst hj0; simpa using this
        · exact this
    obtain ⟨v', w', hr, g1, g2, g3⟩ := run_append_own (P := P) w base t o.type e i z size bytes ht hi hz hsize hby hzs hsz v n xs hown ad m c news hl hnews h1 h63 hbytes hbase
    have hblk := append_block (P := P) base t o.type e i z size bytes ht hi hz hsize hby hzs hsz v n xs hown ad m c news hl hnews h1 h63 hbytes hr
    unfold Oper.wp execOp
    simp only [ho, resolve, invoke, builtin, Sem.run_bind, Sem.run_pure, Result.andThen_ok, List.map_toArray, List.map_cons, List.map_nil, hs, hx, hr]
    exact h v' w' g1 ⟨g2, (Below.refl _ _).grown g2 hbase fun k hk => (hlt k hk).1, fun hv hv' => hv (g3.1 hv').1, hblk⟩

theorem Rd.grown {w w' : World} {k : Nat} {v : Value} {n : Nat} {L : List Value} (h : Rd w k v n L) {row : Option Nat} (hg : w.grownBy w' row) (hne : v.ownBlock ≠ row ∨ row = none) : Rd w' k v n L := by
  obtain ⟨h1, ao, c, rfl, h2, h3, h4, h5⟩ := h
  refine ⟨h1, ao, c, rfl, h2, h3, h4, ?_⟩
  rcases h5 with h5 | ⟨b, off, rfl, hbl, hc⟩
  · exact .inl h5
  · refine .inr ⟨b, off, rfl, Nat.lt_of_lt_of_le hbl hg.size, fun j u hj => ?_⟩
    refine (World.cell?_of_block (w := w) (a := ⟨b, off + j, none⟩) (hg.block b hbl ?_)).trans (hc j u hj)
    rcases hne with hne | rfl
    · exact hne
    · simp

/-- What a slice's elements are in memory: each of k cells. -/
class Elem (α : Type) where
  e : TypeId
  t : TypeId
  k : Nat
  bytes : Nat
  z : Value
  enc : α → List Value
  dflt : α
  len : ∀ x, (enc x).length = k
  pos : 0 < k
  one : ∀ x, ∀ u ∈ enc x, u.oneCell' = true
  row : Try.prog.underlying t = some (.slice e)
  info : (Try.prog.info? e).map (fun i => (i.zero, i.size, i.bytes)) = some (some z, k, bytes)
  zsize : z.cells.size = k
  few : bytes ≤ 1000

def cellsOf {α : Type} [Elem α] (xs : List α) : List Value := xs.flatMap Elem.enc

theorem cellsOf_length {α : Type} [Elem α] (xs : List α) : (cellsOf xs).length = xs.length * Elem.k α := by
  unfold cellsOf
  induction xs with
  | nil => simp
  | cons x xs ih => simp only [List.flatMap_cons, List.length_append, List.length_cons, Elem.len, ih, Nat.succ_mul]; omega
theorem cellsOf_append {α : Type} [Elem α] (xs ys : List α) : cellsOf (xs ++ ys) = cellsOf xs ++ cellsOf ys := by unfold cellsOf; simp
theorem cellsOf_get {α : Type} [Elem α] : ∀ (xs : List α) (j : Nat) (x : α), xs[j]? = some x → ∀ i u, (Elem.enc x)[i]? = some u → (cellsOf xs)[j * Elem.k α + i]? = some u
  | [], j, x, h, _, _, _ => by simp at h
  | y :: ys, 0, x, h, i, u, hu => by
    simp only [List.getElem?_cons_zero, Option.some.injEq] at h
    subst h
    have hi : i < (Elem.enc y).length := (List.getElem?_eq_some_iff.1 hu).1
    show (Elem.enc y ++ cellsOf ys)[0 * Elem.k α + i]? = some u
    rw [Nat.zero_mul, Nat.zero_add, List.getElem?_append_left hi, hu]
  | y :: ys, j + 1, x, h, i, u, hu => by
    have ih := cellsOf_get ys j x (by simpa using h) i u hu
    show (Elem.enc y ++ cellsOf ys)[(j + 1) * Elem.k α + i]? = some u
    have hl := Elem.len y
    rw [List.getElem?_append_right (by rw [hl, Nat.succ_mul]; omega), hl, Nat.succ_mul, show j * Elem.k α + Elem.k α + i - Elem.k α = j * Elem.k α + i from by omega, ih]
theorem cellsOf_one {α : Type} [Elem α] (xs : List α) : ∀ u ∈ cellsOf xs, u.oneCell' = true := by
  intro u hu
  obtain ⟨x, _, hx⟩ := List.mem_flatMap.1 hu
  exact Elem.one x u hx
theorem cellsOf_take {α : Type} [Elem α] : ∀ (n : Nat) (xs : List α), cellsOf (xs.take n) = (cellsOf xs).take (n * Elem.k α)
  | 0, xs => by simp [cellsOf]
  | n + 1, [] => by simp [cellsOf]
  | n + 1, x :: xs => by
    have hl := Elem.len x
    show Elem.enc x ++ cellsOf (xs.take n) = (Elem.enc x ++ cellsOf xs).take _
    rw [List.take_append, hl, Nat.succ_mul, show n * Elem.k α + Elem.k α - Elem.k α = n * Elem.k α from by omega, cellsOf_take n xs, List.take_of_length_le (l := Elem.enc x) (by omega)]
theorem cellsOf_drop {α : Type} [Elem α] : ∀ (n : Nat) (xs : List α), cellsOf (xs.drop n) = (cellsOf xs).drop (n * Elem.k α)
  | 0, xs => by simp [cellsOf]
  | n + 1, [] => by simp [cellsOf]
  | n + 1, x :: xs => by
    have hl := Elem.len x
    show cellsOf (xs.drop n) = (Elem.enc x ++ cellsOf xs).drop _
    rw [List.drop_append, hl, Nat.succ_mul, show n * Elem.k α + Elem.k α - Elem.k α = n * Elem.k α from by omega, cellsOf_drop n xs, List.drop_of_length_le (l := Elem.enc x) (by omega), List.nil_append]

/-- The slice v reads as xs. -/
def Sl {α : Type} [Elem α] (w : World) (v : Value) (xs : List α) : Prop := Rd w (Elem.k α) v xs.length (cellsOf xs)

/-- The slice v is the call's own (its block's number is at least B) and reads as xs. -/
def Ow {α : Type} [Elem α] (w : World) (B : Nat) (v : Value) (xs : List α) : Prop := w.ownsRow B (Elem.e α) (Elem.k α) v xs.length (cellsOf xs)

section
variable {α : Type} [Elem α] {w w' : World} {v : Value} {xs : List α} {B : Nat}

theorem Sl.below (h : Sl w v xs) {B : Nat} (hb : Below B w w') (hB : w.heap.size ≤ B) : Sl w' v xs := Rd.below h hb hB
theorem Ow.sl (h : Ow w B v xs) : Sl w v xs := Rd.of_own h
theorem Sl.drewN (h : Sl w v xs) (q : Nat) : Sl (w.drewN q) v xs := h
theorem Sl.drew (h : Sl w v xs) : Sl w.drew v xs := h
theorem Ow.drewN (h : Ow w B v xs) (q : Nat) : Ow (w.drewN q) B v xs := h
theorem Ow.drew (h : Ow w B v xs) : Ow w.drew B v xs := h
theorem Sl.grown (h : Sl w v xs) {row : Option Nat} (hg : w.grownBy w' row) (hne : v.ownBlock ≠ row ∨ row = none) : Sl w' v xs := Rd.grown h hg hne
theorem Sl.alloc (h : Sl w v xs) (o : Obj) : Sl (w.alloc o) v xs := h.grown (World.grownBy_alloc w o none) (.inr rfl)
theorem Ow.alloc (h : Ow w B v xs) (o : Obj) : Ow (w.alloc o) B v xs := World.ownsRow.alloc h o
theorem Ow.mono (h : Ow w B v xs) {B' : Nat} (hB : B' ≤ B) : Ow w B' v xs := by
  refine ⟨h.1, ?_⟩
  rcases h.2 with hn | ⟨g, cap, cur, hv, hg, r⟩
  · exact .inl hn
  · exact .inr ⟨g, cap, cur, hv, by omega, r⟩
theorem Ow.below (h : Ow w B v xs) {B' : Nat} (hb : Below B' w w') (hB : w.heap.size ≤ B') : Ow w' B v xs := by
  refine ⟨h.1, ?_⟩
  rcases h.2 with hn | ⟨g, cap, cur, hv, hg, hh, r⟩
  · exact .inl hn
  · have hgl := (Array.getElem?_eq_some_iff.1 hh).1
    exact .inr ⟨g, cap, cur, hv, hg, by rw [hb.block g (by omega)]; exact hh, r⟩
theorem Ow.nil (w : World) (B : Nat) : Ow w B (.slice none 0 0) ([] : List α) := World.ownsRow_nil _ _ _ _
theorem Ow.lit (w : World) (B : Nat) (hB : B ≤ w.heap.size) (xs : List α) (h : xs.length ≤ 1000000) : Ow (w.alloc (.cells (cellsOf xs).toArray (Elem.e α))) B (.slice (some ⟨w.heap.size, 0, none⟩) xs.length xs.length) xs := by
  have := World.ownsRow_lit (e := Elem.e α) (size := Elem.k α) w (cellsOf xs).toArray xs.length hB (by unfold maxLen; omega) (by simp [cellsOf_length])
  simpa [Ow] using this
theorem Ow.litAt (w : World) (B n : Nat) (hn : n = w.heap.size) (hB : B ≤ w.heap.size) (xs : List α) (h : xs.length ≤ 1000000) : Ow (w.alloc (.cells (cellsOf xs).toArray (Elem.e α))) B (.slice (some ⟨n, 0, none⟩) xs.length xs.length) xs := hn ▸ Ow.lit w B hB xs h
theorem Sl.lit (w : World) (xs : List α) (h : xs.length ≤ 1000000) : Sl (w.alloc (.cells (cellsOf xs).toArray (Elem.e α))) (.slice (some ⟨w.heap.size, 0, none⟩) xs.length xs.length) xs := (Ow.lit w w.heap.size (Nat.le_refl _) xs h).sl
theorem Sl.litAt (w : World) (n : Nat) (hn : n = w.heap.size) (xs : List α) (h : xs.length ≤ 1000000) : Sl (w.alloc (.cells (cellsOf xs).toArray (Elem.e α))) (.slice (some ⟨n, 0, none⟩) xs.length xs.length) xs := hn ▸ Sl.lit w xs h

theorem Sl.len (h : Sl w v xs) : ∃ ao c, v = .slice ao xs.length c := by
  obtain ⟨_, ao, c, rfl, _⟩ := h
  exact ⟨ao, c, rfl⟩
theorem Sl.length_le (h : Sl w v xs) : xs.length ≤ 9223372036854775807 := by
  obtain ⟨_, ao, c, rfl, hc, hc63, _⟩ := h
  have : c ≤ 9223372036854775807 := by simpa only [maxLen] using hc63
  omega

/-- The cells of a slice: each element's. -/
theorem Sl.parts (h : Sl w v xs) :
    (xs = [] ∧ ∃ ao c, v = .slice ao 0 c) ∨
    (∃ b off c, v = .slice (some ⟨b, off, none⟩) xs.length c ∧ xs.length ≤ c ∧ c ≤ 9223372036854775807 ∧ b < w.heap.size ∧ 0 < xs.length ∧
      ∀ j x, xs[j]? = some x → ∀ i u, (Elem.enc x)[i]? = some u → w.cell? ⟨b, off + (j * Elem.k α + i), none⟩ = some u) := by
  obtain ⟨_, ao, c, rfl, hc, hc63, _, h0 | ⟨b, off, rfl, hb, hcell⟩⟩ := h
  · have hx : xs = [] := List.eq_nil_of_length_eq_zero h0
    subst hx
    exact .inl ⟨rfl, ao, c, rfl⟩
  · by_cases hx : xs = []
    · subst hx; exact .inl ⟨rfl, _, _, rfl⟩
    · have hpos : 0 < xs.length := List.length_pos_iff.2 hx
      exact .inr ⟨b, off, c, rfl, hc, by simpa only [maxLen] using hc63, hb, hpos, fun j x hj i u hu => hcell _ u (cellsOf_get xs j x hj i u hu)⟩

/-- A part of what it reads as, cut out: from i on, n of them. -/
theorem Sl.cut {b off c len : Nat} (h : Sl w (.slice (some ⟨b, off, none⟩) len c) xs) (i n : Nat) (hin : i + n ≤ xs.length) (hnc : n ≤ c - i) : Sl w (.slice (some ⟨b, off + i * Elem.k α, none⟩) n (c - i)) ((xs.drop i).take n) := by
  have hl : ((xs.drop i).take n).length = n := by simp; omega
  obtain ⟨hL, ao, c', hv, hc, hc63, _, hcell⟩ := h
  simp only [Value.slice.injEq] at hv
  obtain ⟨rfl, rfl, rfl⟩ := hv
  refine ⟨cellsOf_length _, some ⟨b, off + i * Elem.k α, none⟩, c - i, by rw [hl], by rw [hl]; exact hnc, by omega, by simp, ?_⟩
  by_cases hn0 : n = 0
  · left; rw [hl]; exact hn0
  · rcases hcell with h0 | ⟨b', off', ha, hb, hcell⟩
    · omega
    · simp only [Option.some.injEq, Addr.mk.injEq, and_true] at ha
      obtain ⟨rfl, rfl⟩ := ha
      refine .inr ⟨b, off + i * Elem.k α, rfl, hb, fun j u hj => ?_⟩
      rw [cellsOf_take, cellsOf_drop] at hj
      rw [List.getElem?_take] at hj
      split at hj
      · rw [List.getElem?_drop] at hj
        rw [show off + i * Elem.k α + j = off + (i * Elem.k α + j) from by omega]
        exact hcell _ u hj
      · simp at hj

/-- What is behind the i-th, cut out (at the row's very end the address stays). -/
theorem Sl.tail {b off c len : Nat} (h : Sl w (.slice (some ⟨b, off, none⟩) len c) xs) (i : Nat) (hi : i ≤ xs.length) : Sl w (.slice (if c = i then some ⟨b, off, none⟩ else some ⟨b, off + i * Elem.k α, none⟩) (xs.length - i) (c - i)) (xs.drop i) := by
  have hlc : xs.length ≤ c := by
    obtain ⟨_, ao, c', hv, hc, _⟩ := h
    simp only [Value.slice.injEq] at hv
    obtain ⟨_, _, rfl⟩ := hv
    exact hc
  have hc63 : c ≤ maxLen := by
    obtain ⟨_, ao, c', hv, _, hc, _⟩ := h
    simp only [Value.slice.injEq] at hv
    obtain ⟨_, _, rfl⟩ := hv
    exact hc
  by_cases hci : c = i
  · rw [if_pos hci, List.drop_of_length_le (by omega), show xs.length - i = 0 by omega, show c - i = 0 by omega]
    exact ⟨by simp [cellsOf], _, _, rfl, Nat.le_refl _, by unfold maxLen; omega, by simp, .inl rfl⟩
  · rw [if_neg hci]
    have := h.cut i (xs.length - i) (by omega) (by omega)
    rwa [List.take_of_length_le (by simp)] at this
theorem Sl.empty (w : World) (ao : Option Addr) (c : Nat) (hc : c ≤ 9223372036854775807) (hn : ao = none → c = 0) : Sl w (.slice ao 0 c) ([] : List α) :=
  ⟨by simp [cellsOf], ao, c, rfl, Nat.zero_le _, by unfold maxLen; exact hc, hn, .inl rfl⟩

/-- A slice of the call's own that isn't nil. -/
theorem Ow.shape (h : Ow w B v xs) (hn : v ≠ .slice none 0 0) : ∃ g cap, v = .slice (some ⟨g, 0, none⟩) xs.length cap ∧ B ≤ g ∧ g < w.heap.size ∧ xs.length ≤ cap ∧ cap ≤ 9223372036854775807 := by
  rcases h.2 with ⟨hv, _⟩ | ⟨g, cap, cur, rfl, hg, hh, h1, h2, h3, h4⟩
  · exact absurd hv hn
  · exact ⟨g, cap, rfl, hg, (Array.getElem?_eq_some_iff.1 hh).1, h1, by simpa only [maxLen] using h2⟩
theorem Ow.sh (h : Ow w B v xs) : ∃ ao n c, v = .slice ao n c := by obtain ⟨ao, c, h⟩ := h.sl.len; exact ⟨ao, _, c, h⟩
theorem Ow.low (h : Ow w B v xs) : ∀ b, v.ownBlock = some b → B ≤ b ∧ b < w.heap.size := World.ownsRow.lt h

theorem Sl.low {ys : List α} (h : Sl w v ys) : ys = [] ∨ ∀ b, v.ownBlock = some b → b < w.heap.size := by
  obtain ⟨h1, ao, c, rfl, h2, h3, h4, h5 | ⟨b, off, rfl, hb, hc⟩⟩ := h
  · exact .inl (List.eq_nil_of_length_eq_zero h5)
  · exact .inr fun b' e => by obtain rfl : b = b' := by simpa [Value.ownBlock] using e
                              exact hb

/-- Append. -/
theorem wp_append_sl {o : Oper} {a : Act} {K : Act → World → Prop} {Q : Exit → Act → World → Prop} (s x : Operand)
    (ho : o.op = .call { callee := .builtin .append, args := #[s, x], argTypes := #[Elem.t α, Elem.t α] })
    (B : Nat) (v : Value) (ys : List α) (hs : a.eval s = v) (hown : Ow w B v ys)
    (vx : Value) (zs : List α) (hx : a.eval x = vx) (hrd : Sl w vx zs)
    (hbytes : ys.length + zs.length ≤ 100000000) (hbase : B ≤ w.heap.size)
    (h : ∀ v' w', Ow w' B v' (ys ++ zs) → Apd B v v' w w' → K (a.put o.dst v') w') : o.wp Try.prog a w K Q := by
  obtain ⟨i0, hi, hz0, hz1, hz2⟩ := info_parts (Elem.info (α := α))
  have hf := Elem.few (α := α)
  refine wp_append_rd s x (Elem.t α) ho B (Elem.e α) i0 (Elem.z α) (Elem.k α) (Elem.bytes α) (Elem.row (α := α)) hi hz0 hz1 hz2 (Elem.zsize (α := α)) (Elem.pos (α := α)) v ys.length _ hs hown vx zs.length _ hx hrd
    (cellsOf_one zs) (by unfold maxLen; omega) (by have := Nat.mul_le_mul hbytes hf; omega) hbase fun v' w' h1 h2 => h v' w' ?_ h2
  unfold Ow
  rw [List.length_append, cellsOf_append]
  exact h1

theorem wpList_append_sl {ops : Array Oper} {rest : List Oper} {o : Oper} {a : Act} {Q : Exit → Act → World → Prop} (hgd : o.guard = none) (s x : Operand)
    (ho : o.op = .call { callee := .builtin .append, args := #[s, x], argTypes := #[Elem.t α, Elem.t α] })
    (B : Nat) (v : Value) (ys : List α) (hs : a.eval s = v) (hown : Ow w B v ys)
    (vx : Value) (zs : List α) (hx : a.eval x = vx) (hrd : Sl w vx zs)
    (hbytes : ys.length + zs.length ≤ 100000000) (hbase : B ≤ w.heap.size)
    (h : ∀ v' w', Ow w' B v' (ys ++ zs) → Apd B v v' w w' → wpList Try.prog ops Q rest (a.put o.dst v') w') : wpList Try.prog ops Q (o :: rest) a w :=
  wpList_plain hgd fun _ hK => wp_append_sl s x ho B v ys hs hown vx zs hx hrd hbytes hbase fun v' w' h1 h2 => hK _ _ (h v' w' h1 h2)

/-- .. as one step of a region that draws. -/
theorem step_append_sl {ops : Array Oper} {o : Oper} {a : Act} {K : Act → World → Prop} {Q : Exit → Act → World → Prop} {E : Prop} (hgd : o.guard = none) (s x : Operand)
    (ho : o.op = .call { callee := .builtin .append, args := #[s, x], argTypes := #[Elem.t α, Elem.t α] })
    (B : Nat) (v : Value) (ys : List α) (hs : a.eval s = v) (hown : Ow w B v ys)
    (vx : Value) (zs : List α) (hx : a.eval x = vx) (hrd : Sl w vx zs)
    (hbytes : ys.length + zs.length ≤ 100000000) (hbase : B ≤ w.heap.size)
    (h : ∀ v' w', Ow w' B v' (ys ++ zs) → Apd B v v' w w' → K (a.put o.dst v') w') :
    if Region.wanted o (yielded ops a.tmps) = true then Oper.wp Try.prog o a w K Q else E := by
  have hw : Region.wanted o (yielded ops a.tmps) = true := by simp [Region.wanted, hgd]
  rw [if_pos hw]
  exact wp_append_sl s x ho B v ys hs hown vx zs hx hrd hbytes hbase h
/-- .. of a guarded one. -/
theorem step_append_slg {ops : Array Oper} {o : Oper} {a : Act} {K : Act → World → Prop} {Q : Exit → Act → World → Prop} {E : Prop} (hw : Region.wanted o (yielded ops a.tmps) = true) (s x : Operand)
    (ho : o.op = .call { callee := .builtin .append, args := #[s, x], argTypes := #[Elem.t α, Elem.t α] })
    (B : Nat) (v : Value) (ys : List α) (hs : a.eval s = v) (hown : Ow w B v ys)
    (vx : Value) (zs : List α) (hx : a.eval x = vx) (hrd : Sl w vx zs)
    (hbytes : ys.length + zs.length ≤ 100000000) (hbase : B ≤ w.heap.size)
    (h : ∀ v' w', Ow w' B v' (ys ++ zs) → Apd B v v' w w' → K (a.put o.dst v') w') :
    if Region.wanted o (yielded ops a.tmps) = true then Oper.wp Try.prog o a w K Q else E := by
  rw [if_pos hw]
  exact wp_append_sl s x ho B v ys hs hown vx zs hx hrd hbytes hbase h
end

/-- The world may have drawn. -/
def Drew (w w' : World) : Prop := ∃ q, w' = w.drewN q
theorem Drew.refl (w : World) : Drew w w := ⟨0, rfl⟩
theorem Drew.more {w w' : World} (h : Drew w w') (q : Nat) : Drew w (w'.drewN q) := by
  obtain ⟨p, rfl⟩ := h
  exact ⟨p + q, by simp [World.drewN, Nat.add_assoc]⟩
theorem Drew.cell {w w' : World} (h : Drew w w') (a : Addr) : w'.cell? a = w.cell? a := by obtain ⟨p, rfl⟩ := h; rfl
theorem Drew.size {w w' : World} (h : Drew w w') : w'.heap.size = w.heap.size := by obtain ⟨p, rfl⟩ := h; rfl
theorem Drew.below {w w' : World} (h : Drew w w') (B : Nat) : Below B w w' := by obtain ⟨p, rfl⟩ := h; exact ⟨rfl, rfl, rfl, Nat.le_refl _, fun _ _ => rfl⟩
theorem below_drewN {B : Nat} {a w : World} (h : Below B a w) (q : Nat) : Below B a (w.drewN q) := ⟨h.os, h.tape, h.output, h.size, h.block⟩

/-- All that was there is as it was. -/
def Ext (w w' : World) : Prop := Below w.heap.size w w'
theorem Ext.refl (w : World) : Ext w w := Below.refl _ _
theorem Ext.trans {a b c : World} (h : Ext a b) (k : Ext b c) : Ext a c := Below.trans h (Below.mono k h.size)
theorem Ext.alloc {a b : World} (h : Ext a b) (o : Obj) : Ext a (b.alloc o) := Below.alloc h h.size o
theorem Ext.drew {a b : World} (h : Ext a b) : Ext a b.drew := Below.drew h
theorem Ext.drewN {a b : World} (h : Ext a b) (q : Nat) : Ext a (b.drewN q) := below_drewN h q
theorem Ext.of_drew {a b : World} (h : Drew a b) : Ext a b := h.below _
theorem Sl.ext {α : Type} [Elem α] {w w' : World} {v : Value} {xs : List α} (h : Sl w v xs) (e : Ext w w') : Sl w' v xs := h.below e (Nat.le_refl _)
theorem Ow.ext {α : Type} [Elem α] {w w' : World} {B : Nat} {v : Value} {xs : List α} (h : Ow w B v xs) (e : Ext w w') : Ow w' B v xs := h.below e (Nat.le_refl _)

/-- A new slice of the call's own that reads as ys; all that was there is as it was. -/
def GivesOw {α : Type} [Elem α] (w : World) (ys : List α) (e : Ending) (w' : World) : Prop := ∃ v, e = .returned v ∧ Ow w' w.heap.size v ys ∧ Below w.heap.size w w'
/-- It answers v; all that was there is as it was. -/
def GivesB (w : World) (v : Value) (e : Ending) (w' : World) : Prop := e = .returned v ∧ Below w.heap.size w w'

theorem blk_lt {w : World} {b : Nat} {o : Obj} (h : w.heap[b]? = some o) : b < w.heap.size := (Array.getElem?_eq_some_iff.1 h).1
theorem blk_cell {w : World} {b : Nat} {cs : Array Value} {t : TypeId} {fr : Nat × Nat} (h : w.heap[b]? = some (.cells cs t fr)) (o : Nat) {u : Value} (hu : cs[o]? = some u) : w.cell? ⟨b, o, none⟩ = some u := by simp [World.cell?, h, hu]
theorem blk_free {w : World} {b : Nat} {cs : Array Value} {t : TypeId} (h : w.heap[b]? = some (.cells cs t (0, 0))) (o : Nat) : w.frozen? ⟨b, o, none⟩ = false := by simp [World.frozen?, h]
theorem blk_set {w : World} {b : Nat} {cs : Array Value} {t : TypeId} {fr : Nat × Nat} (h : w.heap[b]? = some (.cells cs t fr)) (o : Nat) (u : Value) : (w.setCell ⟨b, o, none⟩ u).heap[b]? = some (.cells (cs.setIfInBounds o u) t fr) := by
  have hlt := blk_lt h
  have h' : w.heap[b] = .cells cs t fr := by simpa [Array.getElem?_eq_getElem hlt] using h
  show (w.heap.modify b _)[b]? = _
  rw [Array.getElem?_eq_getElem (by simpa using hlt), Array.getElem_modify_self, h']
  rfl
theorem set_size (w : World) (a : Addr) (u : Value) : (w.setCell a u).heap.size = w.heap.size := by simp [World.setCell]
theorem set_other (w : World) (a : Addr) (u : Value) (b : Nat) (h : b ≠ a.block) : (w.setCell a u).heap[b]? = w.heap[b]? := Below.heap_setCell _ _ _ _ h

theorem get_alloc_old {w : World} {o : Obj} {k : Nat} (h : k < w.heap.size) : (w.alloc o).heap[k]? = w.heap[k]? := by
  unfold World.alloc; simp only [Array.getElem?_push]; rw [if_neg (by omega)]
theorem get_alloc_new (w : World) (o : Obj) : (w.alloc o).heap[w.heap.size]? = some o := by unfold World.alloc; simp
theorem size_alloc (w : World) (o : Obj) : (w.alloc o).heap.size = w.heap.size + 1 := by unfold World.alloc; simp
/-- Two blocks of the call's own, laid first, behind whatever has grown since. -/
theorem box1 {w W : World} {A : Obj} (h : Below (w.heap.size + 1) (w.alloc A) W) : W.heap[w.heap.size]? = some A := by
  rw [h.block _ (by omega), get_alloc_new]
theorem box2 {w W : World} {A B : Obj} (h : Below (w.heap.size + 2) ((w.alloc A).alloc B) W) : W.heap[w.heap.size]? = some A ∧ W.heap[w.heap.size + 1]? = some B := by
  constructor
  · rw [h.block _ (by omega), get_alloc_old (by rw [size_alloc]; omega), get_alloc_new]
  · rw [h.block _ (by omega), ← size_alloc w A, get_alloc_new]
theorem below_alloc_at {B : Nat} {a b : World} (h : Below B a b) (hB : B ≤ a.heap.size) (o : Obj) : Below B a (b.alloc o) := Below.alloc h (Nat.le_trans hB h.size) o

theorem below_set {B : Nat} {a b : World} (h : Below B a b) {d : Addr} (hd : B ≤ d.block) (v : Value) : Below B a (b.setCell d v) :=
  ⟨h.os, h.tape, h.output, by rw [set_size]; exact h.size, fun k hk => by rw [set_other _ _ _ _ (by omega)]; exact h.block k hk⟩
theorem ext_of_below {B : Nat} {w A b : World} (h : Below B A b) (hB : w.heap.size ≤ B) (hA : Ext w A) : Ext w b := Below.trans hA (h.mono hB)
theorem Ow.set {α : Type} [Elem α] {w : World} {B : Nat} {v : Value} {xs : List α} (h : Ow w B v xs) {d : Addr} (hd : d.block < B) (u : Value) : Ow (w.setCell d u) B v xs :=
  ownsRow_setCell_other h (fun e => by have := (h.low _ e).1; omega) u

theorem ret_bool {a b : Bool} (h : a = b) : Ending.returned (.bool a) = .returned (.bool b) := by rw [h]
theorem ret_int {k : IntKind} {a b : Int} (h : a = b) : Ending.returned (.int k a) = .returned (.int k b) := by rw [h]

end Go.Proofs.Ytgcnjkabpcbkgaa
