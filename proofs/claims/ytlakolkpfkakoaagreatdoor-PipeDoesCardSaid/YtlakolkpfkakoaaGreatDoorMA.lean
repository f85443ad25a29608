/- Slices in memory, whatever their elements: what a slice reads as (Rd, Sl), what a call's own slice holds (Ow), and append over them. -/
import Derived.Test.YtlakolkpfkakoaaGreatDoorChecked
import Derived.WalkKit
import Derived.WalkSpells
import Derived.WalkLawsBesides
import Derived.Laws.AppendOwnNone
import Derived.Deep.QuietTactic
import Derived.BigQuiet
import Derived.Lib.Hide
import Derived.OneCell
import Derived.Laws.BitsAll
import Derived.Laws.Concat
import Derived.Deep.RegionHeld3
namespace Go.Proofs.YtlakolkpfkakoaaGreatDoor
open Go.RowKit
def Rd (w : World) (k : Nat) (v : Value) (n : Nat) (L : List Value) : Prop :=
  L.length = n * k ∧ ∃ ao c, v = .slice ao n c ∧ n ≤ c ∧ c ≤ maxLen ∧ (ao = none → c = 0) ∧
    (n = 0 ∨ ∃ b off, ao = some ⟨b, off, none⟩ ∧ b < w.heap.size ∧ ∀ j u, L[j]? = some u → w.cell? ⟨b, off + j, none⟩ = some u)

theorem Rd.below {w w' : World} {k : Nat} {v : Value} {n : Nat} {L : List Value} (h : Rd w k v n L) {B : Nat} (hb : Below B w w') (hB : w.heap.size ≤ B) : Rd w' k v n L := by
  obtain ⟨h1, ao, c, hv, h2, h3, h4, h5⟩ := h
  refine ⟨h1, ao, c, hv, h2, h3, h4, ?_⟩
  rcases h5 with h5 | ⟨b, off, ha, hbl, hc⟩
  · exact .inl h5
  · exact .inr ⟨b, off, ha, by have := hb.size; omega, fun j u hj => (hb.cell (p := ⟨b, off + j, none⟩) (by show b < B; omega)).trans (hc j u hj)⟩

theorem Rd.of_own {w : World} {B e k : Nat} {v : Value} {n : Nat} {L : List Value} (h : w.ownsRow B e k v n L) : Rd w k v n L := by
  refine ⟨h.1, ?_⟩
  rcases h.2 with ⟨rfl, rfl⟩ | ⟨g, cap, cur, rfl, hg, hh, h1, h2, h3, h4⟩
  · exact ⟨none, 0, rfl, Nat.le_refl _, by unfold maxLen; omega, fun _ => rfl, .inl rfl⟩
  · refine ⟨some ⟨g, 0, none⟩, cap, rfl, h1, h2, by simp, .inr ⟨g, 0, rfl, (Array.getElem?_eq_some_iff.1 hh).1, fun j u hj => ?_⟩⟩
    have hjl : j < n * k := by rw [← h.1]; exact (List.getElem?_eq_some_iff.1 hj).1
    rw [Nat.zero_add, h.cellAt j hjl, hj]
theorem append_block {P : Program} {w : World} (base : Nat) (t ty e : TypeId) (i : TypeInfo) (z : Value) (size bytes : Nat) (ht : P.underlying t = some (.slice e)) (hi : P.info? e = some i) (hz : i.zero = some z)
    (hsize : i.size = size) (hby : i.bytes = bytes) (hzs : z.cells.size = size) (hsz : 0 < size)
    (v : Value) (n : Nat) (xs : List Value) (hown : w.ownsRow base e size v n xs)
    (a : Addr) (m c : Nat) (news : List Value) (hl : news.length = m * size) (hnews : ∀ j u, news[j]? = some u → w.cell? (a.add j) = some u) (h1 : ∀ u ∈ news, u.oneCell' = true)
    (h63 : n + m ≤ maxLen) (hbytes : (n + m) * bytes ≤ 140737488355328) {v' : Value} {w' : World}
    (hr : (Builtin.append_ #[t, t] ty #[v, .slice (some a) m c]).run P w = .ok v' w') : v'.ownBlock = v.ownBlock ∨ ∀ b, v'.ownBlock = some b → w.heap.size ≤ b := by
  subst hsize
  subst hby
  have hsmall : n + m ≤ 9223372036854775807 := by simpa only [maxLen] using h63
  rcases hown.2 with ⟨rfl, rfl⟩ | ⟨g, cap, cur, rfl, hbg, hg, hnc, hcm, hcs, htake⟩
  · obtain ⟨v2, w2, hr2, ho2, _⟩ := run_append_own (P := P) w w.heap.size t ty e i z i.size i.bytes ht hi hz rfl rfl hzs hsz _ 0 xs ⟨hown.1, .inl ⟨rfl, rfl⟩⟩ a m c news hl hnews h1 h63 hbytes (Nat.le_refl _)
    rw [hr2] at hr
    cases hr
    exact .inr fun b hb => (ho2.lt b hb).1
  · by_cases hroom : n + m ≤ cap
    · have hfit : n * i.size + news.length ≤ cur.size := by rw [hl, hcs, ← Nat.add_mul]; exact Nat.mul_le_mul_right _ hroom
      have hr2 := run_append_room (P := P) w t ty e i ht hi g n cap cur hg a m c news hl hnews h1 hroom hfit
      rw [hr2] at hr
      cases hr
      exact .inl rfl
    · have holds : ∀ j u, xs[j]? = some u → w.cell? ((⟨g, 0, none⟩ : Addr).add j) = some u := hown.cells (g := g) rfl
      have hr2 := run_append_grow (P := P) w t ty e i z ht hi hz ⟨g, 0, none⟩ n cap xs hown.1 holds a m c news hl hnews (by omega) (by omega) (growslice_fits (by omega) hbytes)
      rw [hr2] at hr
      cases hr
      exact .inr fun b hb => by simp [Value.ownBlock] at hb; omega
structure Apd (base : Nat) (v v' : Value) (w w' : World) : Prop where
  grown : w.grownBy w' v.ownBlock
  below : Below base w w'
  kept : v ≠ .slice none 0 0 → v' ≠ .slice none 0 0
  block : v'.ownBlock = v.ownBlock ∨ ∀ b, v'.ownBlock = some b → w.heap.size ≤ b
theorem wp_append_rd {P : Program} {w : World} {o : Oper} {a : Act} {K : Act → World → Prop} {Q : Exit → Act → World → Prop} (s x : Operand) (t : TypeId)
    (ho : o.op = .call { callee := .builtin .append, args := #[s, x], argTypes := #[t, t] })
    (base : Nat) (e : TypeId) (i : TypeInfo) (z : Value) (size bytes : Nat) (ht : P.underlying t = some (.slice e)) (hi : P.info? e = some i) (hz : i.zero = some z)
    (hsize : i.size = size) (hby : i.bytes = bytes) (hzs : z.cells.size = size) (hsz : 0 < size)
    (v : Value) (n : Nat) (xs : List Value) (hs : a.eval s = v) (hown : w.ownsRow base e size v n xs)
    (vx : Value) (m : Nat) (news : List Value) (hx : a.eval x = vx) (hrd : Rd w size vx m news) (h1 : ∀ u ∈ news, u.oneCell' = true)
    (h63 : n + m ≤ maxLen) (hbytes : (n + m) * bytes ≤ 140737488355328) (hbase : base ≤ w.heap.size)
    (h : ∀ v' w', w'.ownsRow base e size v' (n + m) (xs ++ news) → Apd base v v' w w' → K (a.put o.dst v') w') : o.wp P a w K Q := by
  obtain ⟨hl, ao, c, rfl, hmc, hc63, hnone, hcells⟩ := hrd
  have hlt := hown.lt
  cases ao with
  | none =>
    have hc0 := hnone rfl
    subst hc0
    obtain rfl : m = 0 := by omega
    obtain rfl : news = [] := List.eq_nil_of_length_eq_zero (by simpa using hl)
    have hrun := run_append_owned_none (P := P) (w := w) base t o.type e i size ht hi v n xs hown
    unfold Oper.wp
    simp [execOp, ho, resolve, invoke, builtin, hs, hx, hrun, Result.andThen]
    exact h v w (by simpa using hown) ⟨⟨rfl, rfl, rfl, Nat.le_refl _, fun _ _ _ => rfl⟩, Below.refl _ _, fun h => h, .inl rfl⟩
  | some ad =>
    have hnews : ∀ j u, news[j]? = some u → w.cell? (ad.add j) = some u := by
      intro j u hj
      rcases hcells with h0 | ⟨b, off, ha, _, hc⟩
      · subst h0
        have : news = [] := List.eq_nil_of_length_eq_zero (by simpa using hl)
        subst this
        simp at hj
      · cases ha
        have := hc j u hj
        unfold Addr.add
        split
        · next hj0 => subst hj0; simpa using this
        · exact this
    obtain ⟨v', w', hr, g1, g2, g3⟩ := run_append_own (P := P) w base t o.type e i z size bytes ht hi hz hsize hby hzs hsz v n xs hown ad m c news hl hnews h1 h63 hbytes hbase
    have hblk := append_block (P := P) base t o.type e i z size bytes ht hi hz hsize hby hzs hsz v n xs hown ad m c news hl hnews h1 h63 hbytes hr
    unfold Oper.wp execOp
    simp only [ho, resolve, invoke, builtin, Sem.run_bind, Sem.run_pure, Result.andThen_ok, List.map_toArray, List.map_cons, List.map_nil, hs, hx, hr]
    exact h v' w' g1 ⟨g2, (Below.refl _ _).grown g2 hbase fun k hk => (hlt k hk).1, fun hv hv' => hv (g3.1 hv').1, hblk⟩

theorem Rd.grown {w w' : World} {k : Nat} {v : Value} {n : Nat} {L : List Value} (h : Rd w k v n L) {row : Option Nat} (hg : w.grownBy w' row) (hne : v.ownBlock ≠ row ∨ row = none) : Rd w' k v n L := by
  obtain ⟨h1, ao, c, rfl, h2, h3, h4, h5⟩ := h
  refine ⟨h1, ao, c, rfl, h2, h3, h4, ?_⟩
  rcases h5 with h5 | ⟨b, off, rfl, hbl, hc⟩
  · exact .inl h5
  · refine .inr ⟨b, off, rfl, Nat.lt_of_lt_of_le hbl hg.size, fun j u hj => ?_⟩
    refine (World.cell?_of_block (w := w) (a := ⟨b, off + j, none⟩) (hg.block b hbl ?_)).trans (hc j u hj)
    rcases hne with hne | rfl
    · exact hne
    · simp
class Elem (α : Type) where
  e : TypeId
  t : TypeId
  k : Nat
  bytes : Nat
  z : Value
  enc : α → List Value
  dflt : α
  len : ∀ x, (enc x).length = k
  pos : 0 < k
  one : ∀ x, ∀ u ∈ enc x, u.oneCell' = true
  row : Tryz.prog.underlying t = some (.slice e)
  info : (Tryz.prog.info? e).map (fun i => (i.zero, i.size, i.bytes)) = some (some z, k, bytes)
  zsize : z.cells.size = k
  few : bytes ≤ 1000

def cellsOf {α : Type} [Elem α] (xs : List α) : List Value := xs.flatMap Elem.enc

theorem cellsOf_length {α : Type} [Elem α] (xs : List α) : (cellsOf xs).length = xs.length * Elem.k α := by
  unfold cellsOf
  induction xs with
  | nil => simp
  | cons x xs ih => simp only [List.flatMap_cons, List.length_append, List.length_cons, Elem.len, ih, Nat.succ_mul]; omega
theorem cellsOf_append {α : Type} [Elem α] (xs ys : List α) : cellsOf (xs ++ ys) = cellsOf xs ++ cellsOf ys := by unfold cellsOf; simp
theorem cellsOf_get {α : Type} [Elem α] : ∀ (xs : List α) (j : Nat) (x : α), xs[j]? = some x → ∀ i u, (Elem.enc x)[i]? = some u → (cellsOf xs)[j * Elem.k α + i]? = some u
  | [], j, x, h, _, _, _ => by simp at h
  | y :: ys, 0, x, h, i, u, hu => by
    simp only [List.getElem?_cons_zero, Option.some.injEq] at h
    subst h
    have hi : i < (Elem.enc y).length := (List.getElem?_eq_some_iff.1 hu).1
    show (Elem.enc y ++ cellsOf ys)[0 * Elem.k α + i]? = some u
    rw [Nat.zero_mul, Nat.zero_add, List.getElem?_append_left hi, hu]
  | y :: ys, j + 1, x, h, i, u, hu => by
    have ih := cellsOf_get ys j x (by simpa using h) i u hu
    show (Elem.enc y ++ cellsOf ys)[(j + 1) * Elem.k α + i]? = some u
    have hl := Elem.len y
    rw [List.getElem?_append_right (by rw [hl, Nat.succ_mul]; omega), hl, Nat.succ_mul, show j * Elem.k α + Elem.k α + i - Elem.k α = j * Elem.k α + i from by omega, ih]
theorem cellsOf_one {α : Type} [Elem α] (xs : List α) : ∀ u ∈ cellsOf xs, u.oneCell' = true := by
  intro u hu
  obtain ⟨x, _, hx⟩ := List.mem_flatMap.1 hu
  exact Elem.one x u hx
theorem cellsOf_take {α : Type} [Elem α] : ∀ (n : Nat) (xs : List α), cellsOf (xs.take n) = (cellsOf xs).take (n * Elem.k α)
  | 0, xs => by simp [cellsOf]
  | n + 1, [] => by simp [cellsOf]
  | n + 1, x :: xs => by
    have hl := Elem.len x
    show Elem.enc x ++ cellsOf (xs.take n) = (Elem.enc x ++ cellsOf xs).take _
    rw [List.take_append, hl, Nat.succ_mul, show n * Elem.k α + Elem.k α - Elem.k α = n * Elem.k α from by omega, cellsOf_take n xs, List.take_of_length_le (l := Elem.enc x) (by omega)]
theorem cellsOf_drop {α : Type} [Elem α] : ∀ (n : Nat) (xs : List α), cellsOf (xs.drop n) = (cellsOf xs).drop (n * Elem.k α)
  | 0, xs => by simp [cellsOf]
  | n + 1, [] => by simp [cellsOf]
  | n + 1, x :: xs => by
    have hl := Elem.len x
    show cellsOf (xs.drop n) = (Elem.enc x ++ cellsOf xs).drop _
    rw [List.drop_append, hl, Nat.succ_mul, show n * Elem.k α + Elem.k α - Elem.k α = n * Elem.k α from by omega, cellsOf_drop n xs, List.drop_of_length_le (l := Elem.enc x) (by omega), List.nil_append]
def Sl {α : Type} [Elem α] (w : World) (v : Value) (xs : List α) : Prop := Rd w (Elem.k α) v xs.length (cellsOf xs)
def Ow {α : Type} [Elem α] (w : World) (B : Nat) (v : Value) (xs : List α) : Prop := w.ownsRow B (Elem.e α) (Elem.k α) v xs.length (cellsOf xs)

section
variable {α : Type} [Elem α] {w w' : World} {v : Value} {xs : List α} {B : Nat}

theorem Sl.below (h : Sl w v xs) {B : Nat} (hb : Below B w w') (hB : w.heap.size ≤ B) : Sl w' v xs := Rd.below h hb hB
theorem Ow.sl (h : Ow w B v xs) : Sl w v xs := Rd.of_own h
theorem Sl.drewN (h : Sl w v xs) (q : Nat) : Sl (w.drewN q) v xs := h
theorem Sl.drew (h : Sl w v xs) : Sl w.drew v xs := h
theorem Ow.drewN (h : Ow w B v xs) (q : Nat) : Ow (w.drewN q) B v xs := h
theorem Ow.drew (h : Ow w B v xs) : Ow w.drew B v xs := h
theorem Sl.grown (h : Sl w v xs) {row : Option Nat} (hg : w.grownBy w' row) (hne : v.ownBlock ≠ row ∨ row = none) : Sl w' v xs := Rd.grown h hg hne
theorem Sl.alloc (h : Sl w v xs) (o : Obj) : Sl (w.alloc o) v xs := h.grown (World.grownBy_alloc w o none) (.inr rfl)
theorem Ow.alloc (h : Ow w B v xs) (o : Obj) : Ow (w.alloc o) B v xs := World.ownsRow.alloc h o
theorem Ow.mono (h : Ow w B v xs) {B' : Nat} (hB : B' ≤ B) : Ow w B' v xs := by
  refine ⟨h.1, ?_⟩
  rcases h.2 with hn | ⟨g, cap, cur, hv, hg, r⟩
  · exact .inl hn
  · exact .inr ⟨g, cap, cur, hv, by omega, r⟩
theorem Ow.below (h : Ow w B v xs) {B' : Nat} (hb : Below B' w w') (hB : w.heap.size ≤ B') : Ow w' B v xs := by
  refine ⟨h.1, ?_⟩
  rcases h.2 with hn | ⟨g, cap, cur, hv, hg, hh, r⟩
  · exact .inl hn
  · have hgl := (Array.getElem?_eq_some_iff.1 hh).1
    exact .inr ⟨g, cap, cur, hv, hg, by rw [hb.block g (by omega)]; exact hh, r⟩
theorem Ow.nil (w : World) (B : Nat) : Ow w B (.slice none 0 0) ([] : List α) := World.ownsRow_nil _ _ _ _
theorem Ow.lit (w : World) (B : Nat) (hB : B ≤ w.heap.size) (xs : List α) (h : xs.length ≤ 1000000) : Ow (w.alloc (.cells (cellsOf xs).toArray (Elem.e α))) B (.slice (some ⟨w.heap.size, 0, none⟩) xs.length xs.length) xs := by
  have := World.ownsRow_lit (e := Elem.e α) (size := Elem.k α) w (cellsOf xs).toArray xs.length hB (by unfold maxLen; omega) (by simp [cellsOf_length])
  simpa [Ow] using this
theorem Ow.litAt (w : World) (B n : Nat) (hn : n = w.heap.size) (hB : B ≤ w.heap.size) (xs : List α) (h : xs.length ≤ 1000000) : Ow (w.alloc (.cells (cellsOf xs).toArray (Elem.e α))) B (.slice (some ⟨n, 0, none⟩) xs.length xs.length) xs := hn ▸ Ow.lit w B hB xs h
theorem Sl.lit (w : World) (xs : List α) (h : xs.length ≤ 1000000) : Sl (w.alloc (.cells (cellsOf xs).toArray (Elem.e α))) (.slice (some ⟨w.heap.size, 0, none⟩) xs.length xs.length) xs := (Ow.lit w w.heap.size (Nat.le_refl _) xs h).sl
theorem Sl.litAt (w : World) (n : Nat) (hn : n = w.heap.size) (xs : List α) (h : xs.length ≤ 1000000) : Sl (w.alloc (.cells (cellsOf xs).toArray (Elem.e α))) (.slice (some ⟨n, 0, none⟩) xs.length xs.length) xs := hn ▸ Sl.lit w xs h

theorem Sl.len (h : Sl w v xs) : ∃ ao c, v = .slice ao xs.length c := by
  obtain ⟨_, ao, c, rfl, _⟩ := h
  exact ⟨ao, c, rfl⟩
theorem Sl.length_le (h : Sl w v xs) : xs.length ≤ 9223372036854775807 := by
  obtain ⟨_, ao, c, rfl, hc, hc63, _⟩ := h
  have : c ≤ 9223372036854775807 := by simpa only [maxLen] using hc63
  omega
theorem Sl.parts (h : Sl w v xs) :
    (xs = [] ∧ ∃ ao c, v = .slice ao 0 c) ∨
    (∃ b off c, v = .slice (some ⟨b, off, none⟩) xs.length c ∧ xs.length ≤ c ∧ c ≤ 9223372036854775807 ∧ b < w.heap.size ∧ 0 < xs.length ∧
      ∀ j x, xs[j]? = some x → ∀ i u, (Elem.enc x)[i]? = some u → w.cell? ⟨b, off + (j * Elem.k α + i), none⟩ = some u) := by
  obtain ⟨_, ao, c, rfl, hc, hc63, _, h0 | ⟨b, off, rfl, hb, hcell⟩⟩ := h
  · have hx : xs = [] := List.eq_nil_of_length_eq_zero h0
    subst hx
    exact .inl ⟨rfl, ao, c, rfl⟩
  · by_cases hx : xs = []
    · subst hx; exact .inl ⟨rfl, _, _, rfl⟩
    · have hpos : 0 < xs.length := List.length_pos_iff.2 hx
      exact .inr ⟨b, off, c, rfl, hc, by simpa only [maxLen] using hc63, hb, hpos, fun j x hj i u hu => hcell _ u (cellsOf_get xs j x hj i u hu)⟩
theorem Sl.cut {b off c len : Nat} (h : Sl w (.slice (some ⟨b, off, none⟩) len c) xs) (i n : Nat) (hin : i + n ≤ xs.length) (hnc : n ≤ c - i) : Sl w (.slice (some ⟨b, off + i * Elem.k α, none⟩) n (c - i)) ((xs.drop i).take n) := by
  have hl : ((xs.drop i).take n).length = n := by simp; omega
  obtain ⟨hL, ao, c', hv, hc, hc63, _, hcell⟩ := h
  simp only [Value.slice.injEq] at hv
  obtain ⟨rfl, rfl, rfl⟩ := hv
  refine ⟨cellsOf_length _, some ⟨b, off + i * Elem.k α, none⟩, c - i, by rw [hl], by rw [hl]; exact hnc, by omega, by simp, ?_⟩
  by_cases hn0 : n = 0
  · left; rw [hl]; exact hn0
  · rcases hcell with h0 | ⟨b', off', ha, hb, hcell⟩
    · omega
    · simp only [Option.some.injEq, Addr.mk.injEq, and_true] at ha
      obtain ⟨rfl, rfl⟩ := ha
      refine .inr ⟨b, off + i * Elem.k α, rfl, hb, fun j u hj => ?_⟩
      rw [cellsOf_take, cellsOf_drop] at hj
      rw [List.getElem?_take] at hj
      split at hj
      · rw [List.getElem?_drop] at hj
        rw [show off + i * Elem.k α + j = off + (i * Elem.k α + j) from by omega]
        exact hcell _ u hj
      · simp at hj
theorem Sl.tail {b off c len : Nat} (h : Sl w (.slice (some ⟨b, off, none⟩) len c) xs) (i : Nat) (hi : i ≤ xs.length) : Sl w (.slice (if c = i then some ⟨b, off, none⟩ else some ⟨b, off + i * Elem.k α, none⟩) (xs.length - i) (c - i)) (xs.drop i) := by
  have hlc : xs.length ≤ c := by
    obtain ⟨_, ao, c', hv, hc, _⟩ := h
    simp only [Value.slice.injEq] at hv
    obtain ⟨_, _, rfl⟩ := hv
    exact hc
  have hc63 : c ≤ maxLen := by
    obtain ⟨_, ao, c', hv, _, hc, _⟩ := h
    simp only [Value.slice.injEq] at hv
    obtain ⟨_, _, rfl⟩ := hv
    exact hc
  by_cases hci : c = i
  · rw [if_pos hci, List.drop_of_length_le (by omega), show xs.length - i = 0 by omega, show c - i = 0 by omega]
    exact ⟨by simp [cellsOf], _, _, rfl, Nat.le_refl _, by unfold maxLen; omega, by simp, .inl rfl⟩
  · rw [if_neg hci]
    have := h.cut i (xs.length - i) (by omega) (by omega)
    rwa [List.take_of_length_le (by simp)] at this
theorem Sl.empty (w : World) (ao : Option Addr) (c : Nat) (hc : c ≤ 9223372036854775807) (hn : ao = none → c = 0) : Sl w (.slice ao 0 c) ([] : List α) :=
  ⟨by simp [cellsOf], ao, c, rfl, Nat.zero_le _, by unfold maxLen; exact hc, hn, .inl rfl⟩
theorem Ow.shape (h : Ow w B v xs) (hn : v ≠ .slice none 0 0) : ∃ g cap, v = .slice (some ⟨g, 0, none⟩) xs.length cap ∧ B ≤ g ∧ g < w.heap.size ∧ xs.length ≤ cap ∧ cap ≤ 9223372036854775807 := by
  rcases h.2 with ⟨hv, _⟩ | ⟨g, cap, cur, rfl, hg, hh, h1, h2, h3, h4⟩
  · exact absurd hv hn
  · exact ⟨g, cap, rfl, hg, (Array.getElem?_eq_some_iff.1 hh).1, h1, by simpa only [maxLen] using h2⟩
theorem Ow.sh (h : Ow w B v xs) : ∃ ao n c, v = .slice ao n c := by obtain ⟨ao, c, h⟩ := h.sl.len; exact ⟨ao, _, c, h⟩
theorem Ow.low (h : Ow w B v xs) : ∀ b, v.ownBlock = some b → B ≤ b ∧ b < w.heap.size := World.ownsRow.lt h

theorem Sl.low {ys : List α} (h : Sl w v ys) : ys = [] ∨ ∀ b, v.ownBlock = some b → b < w.heap.size := by
  obtain ⟨h1, ao, c, rfl, h2, h3, h4, h5 | ⟨b, off, rfl, hb, hc⟩⟩ := h
  · exact .inl (List.eq_nil_of_length_eq_zero h5)
  · exact .inr fun b' e => by obtain rfl : b = b' := by simpa [Value.ownBlock] using e
                              exact hb
theorem wp_append_sl {o : Oper} {a : Act} {K : Act → World → Prop} {Q : Exit → Act → World → Prop} (s x : Operand)
    (ho : o.op = .call { callee := .builtin .append, args := #[s, x], argTypes := #[Elem.t α, Elem.t α] })
    (B : Nat) (v : Value) (ys : List α) (hs : a.eval s = v) (hown : Ow w B v ys)
    (vx : Value) (zs : List α) (hx : a.eval x = vx) (hrd : Sl w vx zs)
    (hbytes : ys.length + zs.length ≤ 100000000) (hbase : B ≤ w.heap.size)
    (h : ∀ v' w', Ow w' B v' (ys ++ zs) → Apd B v v' w w' → K (a.put o.dst v') w') : o.wp Tryz.prog a w K Q := by
  obtain ⟨i0, hi, hz0, hz1, hz2⟩ := info_parts (Elem.info (α := α))
  have hf := Elem.few (α := α)
  refine wp_append_rd s x (Elem.t α) ho B (Elem.e α) i0 (Elem.z α) (Elem.k α) (Elem.bytes α) (Elem.row (α := α)) hi hz0 hz1 hz2 (Elem.zsize (α := α)) (Elem.pos (α := α)) v ys.length _ hs hown vx zs.length _ hx hrd
    (cellsOf_one zs) (by unfold maxLen; omega) (by have := Nat.mul_le_mul hbytes hf; omega) hbase fun v' w' h1 h2 => h v' w' ?_ h2
  unfold Ow
  rw [List.length_append, cellsOf_append]
  exact h1

theorem wpList_append_sl {ops : Array Oper} {rest : List Oper} {o : Oper} {a : Act} {Q : Exit → Act → World → Prop} (hgd : o.guard = none) (s x : Operand)
    (ho : o.op = .call { callee := .builtin .append, args := #[s, x], argTypes := #[Elem.t α, Elem.t α] })
    (B : Nat) (v : Value) (ys : List α) (hs : a.eval s = v) (hown : Ow w B v ys)
    (vx : Value) (zs : List α) (hx : a.eval x = vx) (hrd : Sl w vx zs)
    (hbytes : ys.length + zs.length ≤ 100000000) (hbase : B ≤ w.heap.size)
    (h : ∀ v' w', Ow w' B v' (ys ++ zs) → Apd B v v' w w' → wpList Tryz.prog ops Q rest (a.put o.dst v') w') : wpList Tryz.prog ops Q (o :: rest) a w :=
  wpList_plain hgd fun _ hK => wp_append_sl s x ho B v ys hs hown vx zs hx hrd hbytes hbase fun v' w' h1 h2 => hK _ _ (h v' w' h1 h2)

end
def Drew (w w' : World) : Prop := ∃ q, w' = w.drewN q
theorem Drew.refl (w : World) : Drew w w := ⟨0, rfl⟩
theorem Drew.more {w w' : World} (h : Drew w w') (q : Nat) : Drew w (w'.drewN q) := by
  obtain ⟨p, rfl⟩ := h
  exact ⟨p + q, by simp [World.drewN, Nat.add_assoc]⟩
theorem Drew.cell {w w' : World} (h : Drew w w') (a : Addr) : w'.cell? a = w.cell? a := by obtain ⟨p, rfl⟩ := h; rfl
theorem Drew.size {w w' : World} (h : Drew w w') : w'.heap.size = w.heap.size := by obtain ⟨p, rfl⟩ := h; rfl
theorem Drew.below {w w' : World} (h : Drew w w') (B : Nat) : Below B w w' := by obtain ⟨p, rfl⟩ := h; exact ⟨rfl, rfl, rfl, Nat.le_refl _, fun _ _ => rfl⟩
theorem below_drewN {B : Nat} {a w : World} (h : Below B a w) (q : Nat) : Below B a (w.drewN q) := ⟨h.os, h.tape, h.output, h.size, h.block⟩
def Ext (w w' : World) : Prop := Below w.heap.size w w'
theorem Ext.refl (w : World) : Ext w w := Below.refl _ _
theorem Ext.trans {a b c : World} (h : Ext a b) (k : Ext b c) : Ext a c := Below.trans h (Below.mono k h.size)
theorem Ext.alloc {a b : World} (h : Ext a b) (o : Obj) : Ext a (b.alloc o) := Below.alloc h h.size o
theorem Ext.drew {a b : World} (h : Ext a b) : Ext a b.drew := Below.drew h
theorem Ext.drewN {a b : World} (h : Ext a b) (q : Nat) : Ext a (b.drewN q) := below_drewN h q
theorem Sl.ext {α : Type} [Elem α] {w w' : World} {v : Value} {xs : List α} (h : Sl w v xs) (e : Ext w w') : Sl w' v xs := h.below e (Nat.le_refl _)
theorem Ow.ext {α : Type} [Elem α] {w w' : World} {B : Nat} {v : Value} {xs : List α} (h : Ow w B v xs) (e : Ext w w') : Ow w' B v xs := h.below e (Nat.le_refl _)
def GivesB (w : World) (v : Value) (e : Ending) (w' : World) : Prop := e = .returned v ∧ Below w.heap.size w w'

theorem blk_lt {w : World} {b : Nat} {o : Obj} (h : w.heap[b]? = some o) : b < w.heap.size := (Array.getElem?_eq_some_iff.1 h).1
theorem blk_cell {w : World} {b : Nat} {cs : Array Value} {t : TypeId} {fr : Nat × Nat} (h : w.heap[b]? = some (.cells cs t fr)) (o : Nat) {u : Value} (hu : cs[o]? = some u) : w.cell? ⟨b, o, none⟩ = some u := by simp [World.cell?, h, hu]
theorem blk_free {w : World} {b : Nat} {cs : Array Value} {t : TypeId} (h : w.heap[b]? = some (.cells cs t (0, 0))) (o : Nat) : w.frozen? ⟨b, o, none⟩ = false := by simp [World.frozen?, h]
theorem blk_set {w : World} {b : Nat} {cs : Array Value} {t : TypeId} {fr : Nat × Nat} (h : w.heap[b]? = some (.cells cs t fr)) (o : Nat) (u : Value) : (w.setCell ⟨b, o, none⟩ u).heap[b]? = some (.cells (cs.setIfInBounds o u) t fr) := by
  have hlt := blk_lt h
  have h' : w.heap[b] = .cells cs t fr := by simpa [Array.getElem?_eq_getElem hlt] using h
  show (w.heap.modify b _)[b]? = _
  rw [Array.getElem?_eq_getElem (by simpa using hlt), Array.getElem_modify_self, h']
  rfl
theorem set_size (w : World) (a : Addr) (u : Value) : (w.setCell a u).heap.size = w.heap.size := by simp [World.setCell]
theorem set_other (w : World) (a : Addr) (u : Value) (b : Nat) (h : b ≠ a.block) : (w.setCell a u).heap[b]? = w.heap[b]? := Below.heap_setCell _ _ _ _ h

theorem get_alloc_old {w : World} {o : Obj} {k : Nat} (h : k < w.heap.size) : (w.alloc o).heap[k]? = w.heap[k]? := by
  unfold World.alloc; simp only [Array.getElem?_push]; rw [if_neg (by omega)]
theorem get_alloc_new (w : World) (o : Obj) : (w.alloc o).heap[w.heap.size]? = some o := by unfold World.alloc; simp
theorem size_alloc (w : World) (o : Obj) : (w.alloc o).heap.size = w.heap.size + 1 := by unfold World.alloc; simp
theorem box1 {w W : World} {A : Obj} (h : Below (w.heap.size + 1) (w.alloc A) W) : W.heap[w.heap.size]? = some A := by
  rw [h.block _ (by omega), get_alloc_new]
theorem box2 {w W : World} {A B : Obj} (h : Below (w.heap.size + 2) ((w.alloc A).alloc B) W) : W.heap[w.heap.size]? = some A ∧ W.heap[w.heap.size + 1]? = some B := by
  constructor
  · rw [h.block _ (by omega), get_alloc_old (by rw [size_alloc]; omega), get_alloc_new]
  · rw [h.block _ (by omega), ← size_alloc w A, get_alloc_new]
theorem below_alloc_at {B : Nat} {a b : World} (h : Below B a b) (hB : B ≤ a.heap.size) (o : Obj) : Below B a (b.alloc o) := Below.alloc h (Nat.le_trans hB h.size) o

theorem below_set {B : Nat} {a b : World} (h : Below B a b) {d : Addr} (hd : B ≤ d.block) (v : Value) : Below B a (b.setCell d v) :=
  ⟨h.os, h.tape, h.output, by rw [set_size]; exact h.size, fun k hk => by rw [set_other _ _ _ _ (by omega)]; exact h.block k hk⟩
theorem ext_of_below {B : Nat} {w A b : World} (h : Below B A b) (hB : w.heap.size ≤ B) (hA : Ext w A) : Ext w b := Below.trans hA (h.mono hB)
theorem Ow.set {α : Type} [Elem α] {w : World} {B : Nat} {v : Value} {xs : List α} (h : Ow w B v xs) {d : Addr} (hd : d.block < B) (u : Value) : Ow (w.setCell d u) B v xs :=
  ownsRow_setCell_other h (fun e => by have := (h.low _ e).1; omega) u

theorem ret_bool {a b : Bool} (h : a = b) : Ending.returned (.bool a) = .returned (.bool b) := by rw [h]
end Go.Proofs.YtlakolkpfkakoaaGreatDoor

/- Bytes: texts as lists of numbers. -/
namespace Go.Proofs.YtlakolkpfkakoaaGreatDoor
open Go.RowKit
def bl (s : ByteArray) : List Nat := s.data.toList.map UInt8.toNat

theorem bl_length (s : ByteArray) : (bl s).length = s.size := by unfold bl; rw [List.length_map]; rfl

theorem bl_lt (s : ByteArray) : ∀ b ∈ bl s, b < 256 := by
  intro b hb
  obtain ⟨x, _, rfl⟩ := List.mem_map.1 hb
  exact x.toNat_lt

theorem bl_at (s : ByteArray) {k : Nat} (h : k < s.size) : (s[k]'h).toNat = (bl s).getD k 0 := by
  have h2 : k < (bl s).length := by rw [bl_length]; exact h
  rw [List.getD_eq_getElem?_getD, List.getElem?_eq_getElem h2]
  simp [bl]
  rfl

def textN (l : List Nat) : ByteArray := ⟨(l.map UInt8.ofNat).toArray⟩

theorem tl_eq (a b : ByteArray) : (a.toList == b.toList) = decide (a = b) := by
  rw [ByteArray.toList_eq, ByteArray.toList_eq]
  by_cases h : a = b
  · subst h; simp
  · have : ¬ a.data.toList = b.data.toList := fun e => h (ByteArray.ext (Array.toList_inj.1 e))
    rw [decide_eq_false h]; exact beq_eq_false_iff_ne.2 this

theorem bl_append (a b : ByteArray) : bl (a ++ b) = bl a ++ bl b := by
  unfold bl
  rw [ByteArray.data_append, Array.toList_append, List.map_append]

theorem textN_inj {l m : List Nat} (hl : ∀ b ∈ l, b < 256) (hm : ∀ b ∈ m, b < 256) (h : textN l = textN m) : l = m := by
  unfold textN at h
  have h2 : l.map UInt8.ofNat = m.map UInt8.ofNat := by
    have := congrArg (fun s : ByteArray => s.data.toList) h
    simpa using this
  have back : ∀ (l : List Nat), (∀ b ∈ l, b < 256) → (l.map UInt8.ofNat).map UInt8.toNat = l := by
    intro l hl
    rw [List.map_map]
    conv => rhs; rw [← List.map_id l]
    refine List.map_congr_left fun b hb => ?_
    have := hl b hb
    simp
    omega
  rw [← back l hl, ← back m hm, h2]

theorem textN_size (l : List Nat) : (textN l).size = l.length := by
  show (l.map UInt8.ofNat).toArray.size = _
  simp

theorem textN_append (l m : List Nat) : textN l ++ textN m = textN (l ++ m) := by
  apply ByteArray.ext
  rw [ByteArray.data_append]
  simp [textN]

theorem bl_textN {l : List Nat} (h : ∀ b ∈ l, b < 256) : bl (textN l) = l := by
  unfold bl textN
  show ((l.map UInt8.ofNat).toArray.toList).map UInt8.toNat = l
  rw [List.map_map]
  conv => rhs; rw [← List.map_id l]
  refine List.map_congr_left fun b hb => ?_
  have := h b hb
  simp
  omega

theorem textN_bl (s : ByteArray) : textN (bl s) = s := by
  apply ByteArray.ext
  unfold bl textN
  simp only [List.map_map]
  have : (UInt8.ofNat ∘ UInt8.toNat) = id := by funext x; simp
  rw [this]
  simp

theorem bl_inj {s t : ByteArray} (h : bl s = bl t) : s = t := by rw [← textN_bl s, h, textN_bl]

theorem bl_extract (s : ByteArray) (i j : Nat) : bl (s.extract i j) = ((bl s).drop i).take (j - i) := by
  unfold bl
  rw [ByteArray.data_extract, Array.toList_extract, List.extract_eq_drop_take', List.map_drop, List.map_take]
  rw [List.drop_take]

theorem cell_at {w : World} {cs : Array Value} {t : TypeId} {i : Nat} {v : Value} (W : World) (hW : Ext (w.alloc (.cells cs t)) W) (hv : cs[i]? = some v) : W.cell? ⟨w.heap.size, i, none⟩ = some v := by
  have hb : (w.alloc (.cells cs t)).heap[w.heap.size]? = some (.cells cs t) := get_alloc_new w _
  have h2 := hW.block w.heap.size (by rw [size_alloc]; omega)
  exact blk_cell (h2.trans hb) i hv
end Go.Proofs.YtlakolkpfkakoaaGreatDoor

/- A region that draws its order, whose operations only add to the world: those that give one value in every later world are taken first. -/
namespace Go.Proofs.YtlakolkpfkakoaaGreatDoor
open Go.RowKit

section
variable {P : Program} {ops : Array Oper} {Q : Exit → Act → World → Prop} {md : Region.Mode}
def givesV (P : Program) (v : Value) (w : World) : Result Next → Prop
  | .ok (.value u) w2 => u = v ∧ Ext w w2
  | .ok (.enter f args) w2 => Ext w w2 ∧ Calls P f args w2 (fun e w3 => e = .returned v ∧ Ext w2 w3)
  | _ => False
def Takes (P : Program) (ops : Array Oper) (o : Oper) (v : Value) (a : Act) (w : World) : Prop :=
  (Region.wanted o (yielded ops a.tmps) = true ∧ ∀ w', Ext w w' → givesV P v w' ((execOp a.eval o).run P w')) ∨
  (Region.wanted o (yielded ops a.tmps) = false ∧ v = undef)
def SameFor (ops : Array Oper) (o : Oper) (a a' : Act) : Prop :=
  execOp a'.eval o = execOp a.eval o ∧ Region.wanted o (yielded ops a'.tmps) = Region.wanted o (yielded ops a.tmps)

theorem Takes.later {o : Oper} {v : Value} {a a' : Act} {w w' : World} (h : Takes P ops o v a w) (s : SameFor ops o a a') (x : Ext w w') : Takes P ops o v a' w' := by
  unfold Takes at *
  rw [s.1, s.2]
  exact h.imp (fun ⟨h1, h2⟩ => ⟨h1, fun w2 y => h2 w2 (Ext.trans x y)⟩) id

theorem Takes.wpOp {i : Nat} {o : Oper} {v : Value} {a : Act} {w : World} (hi : ops[i]? = some o) (h : Takes P ops o v a w)
    {K : Act → World → Prop} (hK : ∀ w', Ext w w' → K (a.put o.dst v) w') : wpOp P ops Q i K a w := by
  unfold Go.wpOp
  simp only [hi]
  rcases h with ⟨hw, hv⟩ | ⟨hw, rfl⟩
  · simp only [hw, if_true]
    refine .inl ?_
    have h1 := hv w (Ext.refl _)
    unfold Oper.wp
    generalize (execOp a.eval o).run P w = r at *
    cases r with
    | ok n w' =>
      cases n <;> simp only [givesV] at h1 <;> simp only [Oper.upon]
      case value u => rw [h1.1]; exact hK _ h1.2
      case enter f args =>
        exact h1.2.mono fun e w3 ⟨he, x⟩ => by subst he; exact hK _ (Ext.trans h1.1 x)
    | halt x w' => simp only [givesV] at h1
  · simp only [hw, Bool.false_eq_true, if_false]
    exact hK _ (Ext.refl _)

theorem wpOp_apart {j : Nat} {oi oj : Oper} {v : Value} (hj : ops[j]? = some oj) (hap : oi.apart ops oj = true)
    (hsi : ∀ cs b, oi.op ≠ .select cs b) (hsj : ∀ cs b, oj.op ≠ .select cs b) (hQ : ∀ c a w, Q (.panic c) (a.put oi.dst v) w → Q (.panic c) a w)
    {K : Act → World → Prop} {a : Act} {w : World} (h : wpOp P ops Q j K (a.put oi.dst v) w) :
    wpOp P ops Q j (fun a' w' => SameFor ops oi a a' ∧ K (a'.put oi.dst v) w') a w := by
  obtain ⟨h1, h2, h3⟩ := Oper.apart_spec hap
  have keep : ∀ u, SameFor ops oi a (a.put oj.dst u) := fun u => ⟨execOp_put oi hsi a oj.dst u h3, wanted_put oi a oj.dst u h3⟩
  have keepD : ∀ d u, SameFor ops oi a (({ a with defers := d :: a.defers } : Act).put oj.dst u) := fun d u =>
    ⟨(execOp_put oi hsi { a with defers := d :: a.defers } oj.dst u h3).trans rfl, (wanted_put oi { a with defers := d :: a.defers } oj.dst u h3).trans rfl⟩
  unfold wpOp at *
  simp only [hj] at *
  rw [wanted_put oj a oi.dst v h1] at h
  by_cases hw : Region.wanted oj (yielded ops a.tmps) = true
  · simp only [hw, if_true] at h ⊢
    rcases h with h | ⟨hasks, hlets⟩
    · refine .inl ?_
      unfold Oper.wp at *
      rw [execOp_put oj hsj a oi.dst v h1] at h
      generalize (execOp a.eval oj).run P w = r at *
      cases r with
      | ok n w' =>
        cases n <;> simp only [Oper.upon] at h ⊢
        case value u => exact ⟨keep u, by rw [← Act.put_comm a v u h2]; exact h⟩
        case skip => exact ⟨keep _, by rw [← Act.put_comm a v undef h2]; exact h⟩
        case defer d =>
          refine ⟨keepD d _, ?_⟩
          rw [← Act.put_comm _ v undef h2, ← Act.put_defers]
          exact h
        case enter f args =>
          refine Calls.mono h fun e w'' he => ?_
          cases e with
          | returned u => exact ⟨keep u, by rw [← Act.put_comm a v u h2]; exact he⟩
          | panicked c => exact hQ _ _ _ he
          | outgrown => exact he
        case row row args => exact Rows.mono h fun u w'' he => ⟨keep u, by rw [← Act.put_comm a v u h2]; exact he⟩
      | halt x w' =>
        cases x <;> simp only [Oper.upon] at h ⊢
        case panic u => exact hQ _ _ _ h
    · exact .inr ⟨by unfold Oper.asks at *; rw [execOp_put oj hsj a oi.dst v h1] at hasks; exact hasks, hlets⟩
  · have hw2 : Region.wanted oj (yielded ops a.tmps) = false := by simpa using hw
    simp only [hw2, Bool.false_eq_true, if_false] at h ⊢
    exact ⟨keep _, by rw [← Act.put_comm a v undef h2]; exact h⟩
def lateAt (ops : Array Oper) (i : Nat) : Bool := match ops[i]? with
  | some o => match o.op with
    | .store .. => true
    | _ => false
  | none => false
def lateWaits (md : Region.Mode) (ops : Array Oper) (listed : Array Bool) (i : Nat) : Bool :=
  (List.range ops.size).all fun j => listed.getD j true || !lateAt ops j || match ops[j]? with
    | some oj => oj.after.any fun e => Region.binds md e && e.on == i
    | none => true

theorem lateWaits_spec {listed : Array Bool} {i j : Nat} (h : lateWaits md ops listed i = true) (hi : listed.getD i true = false) (hj : j ∈ Region.ready md ops listed) : lateAt ops j = false := by
  obtain ⟨h0, oj, hoj, hall⟩ := mem_ready.1 hj
  rw [lateWaits, List.all_eq_true] at h
  have h1 := h j (List.mem_range.2 (Array.getElem?_eq_some_iff.1 hoj).1)
  simp only [hoj, h0, Bool.false_or, Bool.or_eq_true] at h1
  rcases h1 with h1 | h1
  · simpa using h1
  · exfalso
    obtain ⟨e, he, hb⟩ := Array.any_eq_true'.1 h1
    rw [Bool.and_eq_true, beq_iff_eq] at hb
    have h2 := hall e he hb.1
    rw [hb.2] at h2
    rcases Nat.lt_or_ge i listed.size with h' | h'
    · simp [h'] at hi h2
      rw [hi] at h2
      cases h2
    · simp [Array.getElem?_eq_none h'] at h2

theorem lateWaits_more {listed : Array Bool} {i j : Nat} (h : lateWaits md ops listed i = true) : lateWaits md ops (listed.setIfInBounds j true) i = true := by
  rw [lateWaits, List.all_eq_true] at *
  intro k hk
  have h1 := h k hk
  rw [Bool.or_assoc, Bool.or_eq_true] at h1 ⊢
  rcases h1 with h1 | h1
  · refine .inl ?_
    by_cases hjk : j = k
    · subst hjk
      simp [Array.getElem?_setIfInBounds]
      split <;> rfl
    · rw [getD_set_ne true hjk]; exact h1
  · exact .inr h1
def anyM (P : Program) (md : Region.Mode) (ops : Array Oper) (Q : Exit → Act → World → Prop) : Nat → Array Bool → Act → World → Prop
  | 0, listed, a, w => Region.ready md ops listed = [] ∧ ∀ w', Ext w w' → Q .normal a w'
  | f + 1, listed, a, w => ∀ w', Ext w w' → (Region.ready md ops listed = [] → Q .normal a w') ∧
      ∀ i ∈ Region.ready md ops listed, wpOp P ops Q i (fun a2 w2 => if lateAt ops i = true then wpAny P md ops Q f (listed.setIfInBounds i true) a2 w2 else Ext w' w2 ∧ anyM P md ops Q f (listed.setIfInBounds i true) a2 w2) a w'

theorem anyM.later : ∀ {f : Nat} {listed : Array Bool} {a : Act} {w w' : World}, anyM P md ops Q f listed a w → Ext w w' → anyM P md ops Q f listed a w'
  | 0, _, _, _, _, h, x => ⟨h.1, fun _ y => h.2 _ (Ext.trans x y)⟩
  | _ + 1, _, _, _, _, h, x => fun _ y => h _ (Ext.trans x y)

theorem anyM.any : ∀ {f : Nat} {listed : Array Bool} {a : Act} {w : World}, anyM P md ops Q f listed a w → wpAny P md ops Q f listed a w
  | 0, _, _, _, h => ⟨h.1, h.2 _ (Ext.refl _)⟩
  | _ + 1, _, _, w, h => ⟨(h w (Ext.refl _)).1, fun i hi => wpOp_mono (fun _ _ h2 => by
      by_cases hl : lateAt ops i = true
      · rwa [if_pos hl] at h2
      · rw [if_neg hl] at h2; exact h2.2.any) ((h w (Ext.refl _)).2 i hi)⟩

theorem anyM_first {i : Nat} {oi : Oper} {v : Value} (hi : ops[i]? = some oi) (hsel : ∀ (j : Nat) (o : Oper) cs b, ops[j]? = some o → o.op ≠ .select cs b)
    (hQ : ∀ c a w, Q (.panic c) (a.put oi.dst v) w → Q (.panic c) a w) :
    ∀ (f : Nat) (listed : Array Bool) (a : Act) (w : World),
      (∀ j oj, ops[j]? = some oj → j ≠ i → listed.getD j true = false → (∀ e ∈ oj.after, Region.binds md e = true → e.on ≠ i) → oi.apart ops oj = true) →
      i ∈ Region.ready md ops listed → lateWaits md ops listed i = true → Takes P ops oi v a w →
      anyM P md ops Q f (listed.setIfInBounds i true) (a.put oi.dst v) w → anyM P md ops Q (f + 1) listed a w := by
  intro f
  induction f with
  | zero =>
    intro listed a w _ hr hlw ht H w' x
    refine ⟨fun h => (by rw [h] at hr; cases hr), fun j hj => ?_⟩
    by_cases hji : j = i
    · subst hji
      have hnl := lateWaits_spec hlw (mem_ready.1 hr).1 hj
      exact (ht.later ⟨rfl, rfl⟩ x).wpOp hi fun w2 y => by rw [hnl]; exact ⟨y, H.later (Ext.trans x y)⟩
    · have := ready_mono hj hji
      rw [H.1] at this
      cases this
  | succ f ih =>
    intro listed a w hfree hr hlw ht H w' x
    refine ⟨fun h => (by rw [h] at hr; cases hr), fun j hj => ?_⟩
    have hnl := lateWaits_spec hlw (mem_ready.1 hr).1 hj
    by_cases hji : j = i
    · subst hji
      exact (ht.later ⟨rfl, rfl⟩ x).wpOp hi fun w2 y => by rw [hnl]; exact ⟨y, H.later (Ext.trans x y)⟩
    · have h1 := (H w' x).2 j (ready_mono hj hji)
      obtain ⟨hjun, oj, hoj, hall⟩ := mem_ready.1 hj
      have hnot : ∀ e ∈ oj.after, Region.binds md e = true → e.on ≠ i := fun e he hb heq => by
        have h1 := hall e he hb
        have h0 := (mem_ready.1 hr).1
        rw [heq] at h1
        rcases Nat.lt_or_ge i listed.size with h' | h'
        · simp [h'] at h0 h1; rw [h0] at h1; cases h1
        · simp [Array.getElem?_eq_none h'] at h1
      have h2 := wpOp_apart hoj (hfree j oj hoj hji hjun hnot) (fun cs b => hsel i oi cs b hi) (fun cs b => hsel j oj cs b hoj) hQ h1
      refine wpOp_mono (fun a' w2 h3 => ?_) h2
      rw [hnl] at h3 ⊢
      rw [if_neg (by decide)] at h3 ⊢
      refine ⟨h3.2.1, ih (listed.setIfInBounds j true) a' w2 (fun k ok hk hki hun hno => ?_) (ready_mono hr (Ne.symm hji)) (lateWaits_more hlw) (ht.later h3.1 (Ext.trans x h3.2.1)) ?_⟩
      · refine hfree k ok hk hki ?_ hno
        by_cases hjk : j = k
        · subst hjk; exact hjun
        · rw [getD_set_ne true hjk] at hun; exact hun
      · rw [Array.setIfInBounds_comm _ _ hji]
        exact h3.2.2

theorem wp_region_M {id : Nat} {a : Act} {w : World} (hm : P.follows .mixedOrders = true)
    (h : anyM P .any ops (NoPanic Q) ops.size (Array.replicate ops.size false) a w) : (Code.region id ops true).wp P Q a w :=
  wp_region_noPanic (wp_region_any hm (h.later (Ext.drew (Ext.refl w))).any)

theorem wp_region_M_lit {id : Nat} {a : Act} {w : World} {l : List Oper} (hm : P.follows .mixedOrders = true)
    (h : anyM P .any l.toArray (NoPanic Q) l.length (Array.replicate l.length false) a w) : (Code.region id l.toArray true).wp P Q a w :=
  wp_region_M hm (by simpa using h)
def takeB (md : Region.Mode) (ops : Array Oper) (listed : Array Bool) (i : Nat) : Bool :=
  (Region.ready md ops listed).contains i && Region.noSelect ops && Region.free md ops listed i && lateWaits md ops listed i
theorem takeV (i : Nat) {oi : Oper} {v : Value} {f : Nat} {listed : Array Bool} {a : Act} {w : World} (hi : ops[i]? = some oi := by simp only [List.getElem?_toArray, List.getElem?_cons, reduceIte]; rfl) (hb : takeB md ops listed i = true := by kernel_rfl)
    (hw : Region.wanted oi (yielded ops a.tmps) = true := by rfl) (hv : ∀ w', Ext w w' → (execOp a.eval oi).run P w' = .ok (.value v) w')
    (h : anyM P md ops (NoPanic Q) f (listed.setIfInBounds i true) (a.put oi.dst v) w) : anyM P md ops (NoPanic Q) (f + 1) listed a w := by
  simp only [takeB, Bool.and_eq_true] at hb
  obtain ⟨⟨⟨h1, h2⟩, h3⟩, h4⟩ := hb
  exact anyM_first hi (Region.noSelect_spec h2) (fun _ _ _ h => h) f listed a w (Region.free_spec hi h3) (by simpa using h1) h4 (.inl ⟨hw, fun w' x => by rw [hv w' x]; exact ⟨rfl, Ext.refl _⟩⟩) h
theorem tv (i : Nat) {oi : Oper} {v : Value} {f : Nat} {listed : Array Bool} {a a' : Act} {w : World} (hi : ops[i]? = some oi := by simp only [List.getElem?_toArray, List.getElem?_cons, reduceIte]; rfl) (hb : takeB md ops listed i = true := by kernel_rfl)
    (hw : Region.wanted oi (yielded ops a.tmps) = true := by rfl) (hv : ∀ w', Ext w w' → (execOp a.eval oi).run P w' = .ok (.value v) w' := by intro w' hw'; go_simp; first | done | with_reducible rfl)
    (ha : a.put oi.dst v = a' := by simp only [Act.put, List.setIfInBounds_toArray, List.set]; rfl)
    (h : anyM P md ops (NoPanic Q) f (listed.setIfInBounds i true) a' w) : anyM P md ops (NoPanic Q) (f + 1) listed a w := takeV i hi hb hw hv (ha ▸ h)
theorem takeG (i : Nat) {oi : Oper} {v : Value} {f : Nat} {listed : Array Bool} {a : Act} {w : World} (hi : ops[i]? = some oi := by simp only [List.getElem?_toArray, List.getElem?_cons, reduceIte]; rfl) (hb : takeB md ops listed i = true := by kernel_rfl)
    (hw : Region.wanted oi (yielded ops a.tmps) = true := by rfl) (hv : ∀ w', Ext w w' → givesV P v w' ((execOp a.eval oi).run P w'))
    (h : anyM P md ops (NoPanic Q) f (listed.setIfInBounds i true) (a.put oi.dst v) w) : anyM P md ops (NoPanic Q) (f + 1) listed a w := by
  simp only [takeB, Bool.and_eq_true] at hb
  obtain ⟨⟨⟨h1, h2⟩, h3⟩, h4⟩ := hb
  exact anyM_first hi (Region.noSelect_spec h2) (fun _ _ _ h => h) f listed a w (Region.free_spec hi h3) (by simpa using h1) h4 (.inl ⟨hw, hv⟩) h
theorem gives_same {fn : FuncId} {args : Array Value} {v : Value} {w : World} (h : Calls P fn args w fun e w' => e = .returned v ∧ w = w') : Calls P fn args w fun e w' => e = .returned v ∧ Ext w w' :=
  h.mono fun _ _ ⟨h1, h2⟩ => ⟨h1, h2 ▸ Ext.refl _⟩
theorem takeU (i : Nat) {oi : Oper} {f : Nat} {listed : Array Bool} {a : Act} {w : World} (hi : ops[i]? = some oi := by simp only [List.getElem?_toArray, List.getElem?_cons, reduceIte]; rfl) (hb : takeB md ops listed i = true := by kernel_rfl)
    (hw : Region.wanted oi (yielded ops a.tmps) = false := by rfl)
    (h : anyM P md ops (NoPanic Q) f (listed.setIfInBounds i true) (a.put oi.dst undef) w) : anyM P md ops (NoPanic Q) (f + 1) listed a w := by
  simp only [takeB, Bool.and_eq_true] at hb
  obtain ⟨⟨⟨h1, h2⟩, h3⟩, h4⟩ := hb
  exact anyM_first hi (Region.noSelect_spec h2) (fun _ _ _ h => h) f listed a w (Region.free_spec hi h3) (by simpa using h1) h4 (.inr ⟨hw, rfl⟩) h
theorem runOne (i : Nat) {oi : Oper} {f : Nat} {listed : Array Bool} {a : Act} {w : World} (hi : ops[i]? = some oi := by simp only [List.getElem?_toArray, List.getElem?_cons, reduceIte]; rfl) (hr : Region.ready md ops listed = [i] := by kernel_rfl) (hl : lateAt ops i = false := by kernel_rfl)
    (hw : Region.wanted oi (yielded ops a.tmps) = true := by rfl)
    (h : ∀ w', Ext w w' → oi.wp P a w' (fun a2 w2 => Ext w' w2 ∧ anyM P md ops Q f (listed.setIfInBounds i true) a2 w2) Q) : anyM P md ops Q (f + 1) listed a w := fun w' x =>
  ⟨fun e => (by rw [hr] at e; cases e), fun j hj => by
    rw [hr, List.mem_singleton] at hj
    subst hj
    unfold wpOp
    simp only [hi, hw, if_true, hl, Bool.false_eq_true, if_false]
    exact .inl (h w' x)⟩
theorem runLate (i : Nat) {oi : Oper} {f : Nat} {listed : Array Bool} {a : Act} {w : World} (hi : ops[i]? = some oi := by simp only [List.getElem?_toArray, List.getElem?_cons, reduceIte]; rfl) (hr : Region.ready md ops listed = [i] := by kernel_rfl) (hl : lateAt ops i = true := by kernel_rfl)
    (hw : Region.wanted oi (yielded ops a.tmps) = true := by rfl)
    (h : ∀ w', Ext w w' → oi.wp P a w' (fun a2 w2 => wpAny P md ops Q f (listed.setIfInBounds i true) a2 w2) Q) : anyM P md ops Q (f + 1) listed a w := fun w' x =>
  ⟨fun e => (by rw [hr] at e; cases e), fun j hj => by
    rw [hr, List.mem_singleton] at hj
    subst hj
    unfold wpOp
    simp only [hi, hw, if_true, hl]
    exact .inl (h w' x)⟩

theorem lateDone {f : Nat} {listed : Array Bool} {a : Act} {w : World} (hr : Region.ready md ops listed = []) (h : Q .normal a w) : wpAny P md ops (NoPanic Q) f listed a w := by
  cases f with
  | zero => exact ⟨hr, h⟩
  | succ f => exact ⟨fun _ => h, fun j hj => by rw [hr] at hj; cases hj⟩

theorem doneM {f : Nat} {listed : Array Bool} {a : Act} {w : World} (hr : Region.ready md ops listed = []) (h : ∀ w', Ext w w' → Q .normal a w') : anyM P md ops (NoPanic Q) f listed a w := by
  cases f with
  | zero => exact ⟨hr, fun w' x => h w' x⟩
  | succ f => exact fun w' x => ⟨fun _ => h w' x, fun j hj => by rw [hr] at hj; cases hj⟩
end
end Go.Proofs.YtlakolkpfkakoaaGreatDoor

/- Footprints: which blocks a thing in memory owns, and what changes these alone. -/
namespace Go.Proofs.YtlakolkpfkakoaaGreatDoor
open Go.RowKit
structure Off (F : Nat → Prop) (w w' : World) : Prop where
  os : w'.os = w.os
  tape : w'.tape = w.tape
  output : w'.output = w.output
  size : w.heap.size ≤ w'.heap.size
  block : ∀ k, k < w.heap.size → ¬ F k → w'.heap[k]? = w.heap[k]?

theorem Off.refl (F : Nat → Prop) (w : World) : Off F w w := ⟨rfl, rfl, rfl, Nat.le_refl _, fun _ _ _ => rfl⟩
theorem Off.of_ext {F : Nat → Prop} {w w' : World} (e : Ext w w') : Off F w w' := ⟨e.os, e.tape, e.output, e.size, fun k hk _ => e.block k hk⟩
def Grows (F F' : Nat → Prop) (w : World) : Prop := ∀ k, F' k → F k ∨ w.heap.size ≤ k
theorem Grows.refl (F : Nat → Prop) (w : World) : Grows F F w := fun _ h => .inl h
theorem Grows.trans {F G H : Nat → Prop} {a b : World} (h : Grows F G a) (k : Grows G H b) (hs : a.heap.size ≤ b.heap.size) : Grows F H a := fun n hn => by
  rcases k n hn with h1 | h1
  · exact h n h1
  · exact .inr (Nat.le_trans hs h1)
theorem Grows.back {F G : Nat → Prop} {a b : World} (h : Grows F G b) (hs : a.heap.size ≤ b.heap.size) : Grows F G a := fun n hn => (h n hn).imp id (Nat.le_trans hs)
theorem Off.trans {F G : Nat → Prop} {a b c : World} (h : Off F a b) (k : Off G b c) (hg : Grows F G a) : Off F a c :=
  ⟨k.os.trans h.os, k.tape.trans h.tape, k.output.trans h.output, Nat.le_trans h.size k.size, fun n hn hf =>
    (k.block n (Nat.lt_of_lt_of_le hn h.size) fun hG => by rcases hg n hG with h1 | h1; exact hf h1; omega).trans (h.block n hn hf)⟩
theorem Off.ext {F : Nat → Prop} {a b c : World} (h : Off F a b) (k : Ext b c) : Off F a c :=
  ⟨k.os.trans h.os, k.tape.trans h.tape, k.output.trans h.output, Nat.le_trans h.size k.size, fun n hn hf => (k.block n (Nat.lt_of_lt_of_le hn h.size)).trans (h.block n hn hf)⟩
theorem Off.below {F : Nat → Prop} {w w' : World} {B : Nat} (h : Off F w w') (hF : ∀ k, F k → B ≤ k) (hB : B ≤ w.heap.size) : Below B w w' :=
  ⟨h.os, h.tape, h.output, h.size, fun k hk => h.block k (Nat.lt_of_lt_of_le hk hB) fun hf => by have := hF k hf; omega⟩
theorem Off.mono {F G : Nat → Prop} {w w' : World} (h : Off F w w') (hg : ∀ k, F k → G k) : Off G w w' := ⟨h.os, h.tape, h.output, h.size, fun k hk hn => h.block k hk fun hf => hn (hg k hf)⟩

theorem Off.of_below {B : Nat} {w w' : World} (h : Below B w w') : Off (fun k => B ≤ k) w w' := ⟨h.os, h.tape, h.output, h.size, fun k _ hn => h.block k (by omega)⟩
def Av {α : Type} (F : Nat → Prop) (v : Value) (xs : List α) : Prop := xs = [] ∨ ∀ b, v.ownBlock = some b → ¬ F b
def Sa {α : Type} [Elem α] (F : Nat → Prop) (w : World) (v : Value) (xs : List α) : Prop := Sl w v xs ∧ Av F v xs

section
variable {α : Type} [Elem α] {F G : Nat → Prop} {w w' : World} {v : Value} {xs : List α}
theorem Sa.sl (h : Sa F w v xs) : Sl w v xs := h.1
theorem Sa.ext (h : Sa F w v xs) (e : Ext w w') : Sa F w' v xs := ⟨h.1.ext e, h.2⟩
theorem Sl.block_lt (h : Sl w v xs) (hx : xs ≠ []) : ∀ b, v.ownBlock = some b → b < w.heap.size := by
  rcases h.low with h1 | h1
  · exact absurd h1 hx
  · exact h1
theorem Sl.off (h : Sl w v xs) (hv : Av F v xs) (o : Off F w w') : Sl w' v xs := by
  obtain ⟨h1, ao, c, rfl, h2, h3, h4, h5 | ⟨b, off, rfl, hb, hc⟩⟩ := h
  · exact ⟨h1, ao, c, rfl, h2, h3, h4, .inl h5⟩
  · refine ⟨h1, _, c, rfl, h2, h3, h4, .inr ⟨b, off, rfl, Nat.lt_of_lt_of_le hb o.size, fun j u hj => ?_⟩⟩
    rcases hv with hv | hv
    · subst hv
      simp [cellsOf] at hj
    · exact (World.cell?_of_block (w := w) (a := ⟨b, off + j, none⟩) (o.block b hb (hv b rfl))).trans (hc j u hj)
theorem Av.grow (h : Av F v xs) (hs : Sl w v xs) (g : Grows F G w) : Av G v xs := by
  by_cases hx : xs = []
  · exact .inl hx
  · refine .inr fun b hb hG => ?_
    have hl := hs.block_lt hx b hb
    rcases g b hG with h1 | h1
    · exact (h.resolve_left hx) b hb h1
    · omega
theorem Sa.off (h : Sa F w v xs) (o : Off F w w') (g : Grows F G w) : Sa G w' v xs := ⟨h.1.off h.2 o, h.2.grow h.1 g⟩
theorem Sa.low (h : Sl w v xs) (hF : ∀ k, F k → w.heap.size ≤ k) : Sa F w v xs := by
  by_cases hx : xs = []
  · exact ⟨h, .inl hx⟩
  · exact ⟨h, .inr fun b hb hf => by have := h.block_lt hx b hb; have := hF b hf; omega⟩
theorem Sa.new {B : Nat} (h : Ow w B v xs) (hF : ∀ k, F k → k < B) : Sa F w v xs := ⟨h.sl, .inr fun b hb hf => by have := (h.low b hb).1; have := hF b hf; omega⟩
theorem Sa.mono (h : Sa F w v xs) (hF : ∀ k, G k → F k) : Sa G w v xs := ⟨h.1, h.2.imp id fun h2 b hb hg => h2 b hb (hF b hg)⟩
end
theorem Sa.wide {α : Type} [Elem α] {F G : Nat → Prop} {w : World} {v : Value} {xs : List α} (h : Sa F w v xs) (hG : ∀ k, k < w.heap.size → G k → F k) : Sa G w v xs := by
  refine ⟨h.1, ?_⟩
  by_cases hx : xs = []
  · exact .inl hx
  · exact .inr fun b hb hg => (h.2.resolve_left hx) b hb (hG b (h.1.block_lt hx b hb) hg)
theorem Sa.nil {α : Type} [Elem α] (F : Nat → Prop) (w : World) : Sa F w (.slice none 0 0) ([] : List α) := ⟨Sl.empty w none 0 (by decide) (fun _ => rfl), .inl rfl⟩

theorem off_set (W : World) (d : Addr) (u : Value) : Off (fun k => k = d.block) W (W.setCell d u) := ⟨rfl, rfl, rfl, by rw [set_size]; exact Nat.le_refl _, fun _ _ hn => set_other _ _ _ _ hn⟩
theorem Off.blk {F : Nat → Prop} {w w' : World} {g : Nat} {o : Obj} (h : Off F w w') (hb : w.heap[g]? = some o) (hf : ¬ F g) : w'.heap[g]? = some o := (h.block g (blk_lt hb) hf).trans hb
end Go.Proofs.YtlakolkpfkakoaaGreatDoor

/- Texts as a slice's elements. -/
namespace Go.Proofs.YtlakolkpfkakoaaGreatDoor
open Go.RowKit

instance : Elem ByteArray where
  e := 9
  t := 28
  k := 1
  bytes := 16
  z := .string ⟨#[]⟩
  enc := fun x => [.string x]
  dflt := ⟨#[]⟩
  len := fun _ => rfl
  pos := by decide
  one := fun x u hu => by simp at hu; subst hu; rfl
  row := by kernel_rfl
  info := by kernel_rfl
  zsize := rfl
  few := by decide

theorem Sl.texts {w : World} {v : Value} {xs : List ByteArray} (h : Sl w v xs) :
    (xs = [] ∧ ∃ ao c, v = .slice ao 0 c) ∨
    (∃ b off c, v = .slice (some ⟨b, off, none⟩) xs.length c ∧ xs.length ≤ c ∧ c ≤ 9223372036854775807 ∧ b < w.heap.size ∧ 0 < xs.length ∧ ∀ j, j < xs.length → w.cell? ⟨b, off + j, none⟩ = some (.string (xs.getD j ⟨#[]⟩))) := by
  rcases h.parts with h | ⟨b, off, c, h1, h2, h3, h4, h5, h6⟩
  · exact .inl h
  · refine .inr ⟨b, off, c, h1, h2, h3, h4, h5, fun j hj => ?_⟩
    have := h6 j (xs.getD j ⟨#[]⟩) (by simp [hj]) 0 _ rfl
    rwa [show off + (j * Elem.k ByteArray + 0) = off + j from by show off + (j * 1 + 0) = _; omega] at this

end Go.Proofs.YtlakolkpfkakoaaGreatDoor

/- A region that draws its order, exactly: what gives one value wherever K holds is taken first, all else is run in every order that may come. -/
namespace Go.Proofs.YtlakolkpfkakoaaGreatDoor
open Go.RowKit

section
variable {P : Program} {ops : Array Oper} {Q : Exit → Act → World → Prop} {md : Region.Mode} {K : World → Prop}
def xM (P : Program) (md : Region.Mode) (ops : Array Oper) (Q : Exit → Act → World → Prop) (K : World → Prop) : Nat → Array Bool → Act → World → Prop
  | 0, listed, a, w => K w ∧ Region.ready md ops listed = [] ∧ Q .normal a w
  | f + 1, listed, a, w => K w ∧ (Region.ready md ops listed = [] → Q .normal a w) ∧ ∀ i ∈ Region.ready md ops listed, wpOp P ops Q i (fun a2 w2 => xM P md ops Q K f (listed.setIfInBounds i true) a2 w2) a w

theorem xM.any : ∀ {f : Nat} {listed : Array Bool} {a : Act} {w : World}, xM P md ops Q K f listed a w → wpAny P md ops Q f listed a w
  | 0, _, _, _, h => h.2
  | _ + 1, _, _, _, h => ⟨h.2.1, fun i hi => wpOp_mono (fun _ _ h2 => h2.any) (h.2.2 i hi)⟩
def TakesX (P : Program) (ops : Array Oper) (K : World → Prop) (o : Oper) (v : Value) (a : Act) : Prop :=
  (Region.wanted o (yielded ops a.tmps) = true ∧ ∀ w', K w' → (execOp a.eval o).run P w' = .ok (.value v) w') ∨
  (Region.wanted o (yielded ops a.tmps) = false ∧ v = undef)

theorem TakesX.same {o : Oper} {v : Value} {a a' : Act} (h : TakesX P ops K o v a) (s : SameFor ops o a a') : TakesX P ops K o v a' := by
  unfold TakesX at *
  rw [s.1, s.2]
  exact h

theorem TakesX.wpOp {i : Nat} {o : Oper} {v : Value} {a : Act} {w : World} (hi : ops[i]? = some o) (h : TakesX P ops K o v a) (hk : K w)
    {R : Act → World → Prop} (hR : R (a.put o.dst v) w) : wpOp P ops Q i R a w := by
  unfold Go.wpOp
  simp only [hi]
  rcases h with ⟨hw, hv⟩ | ⟨hw, rfl⟩
  · simp only [hw, if_true]
    refine .inl ?_
    unfold Oper.wp
    rw [hv w hk]
    exact hR
  · simp only [hw, Bool.false_eq_true, if_false]
    exact hR

theorem xM_first {i : Nat} {oi : Oper} {v : Value} (hi : ops[i]? = some oi) (hsel : ∀ (j : Nat) (o : Oper) cs b, ops[j]? = some o → o.op ≠ .select cs b)
    (hQ : ∀ c a w, Q (.panic c) (a.put oi.dst v) w → Q (.panic c) a w) :
    ∀ (f : Nat) (listed : Array Bool) (a : Act) (w : World),
      (∀ j oj, ops[j]? = some oj → j ≠ i → listed.getD j true = false → (∀ e ∈ oj.after, Region.binds md e = true → e.on ≠ i) → oi.apart ops oj = true) →
      i ∈ Region.ready md ops listed → TakesX P ops K oi v a →
      xM P md ops Q K f (listed.setIfInBounds i true) (a.put oi.dst v) w → xM P md ops Q K (f + 1) listed a w := by
  intro f
  induction f with
  | zero =>
    intro listed a w _ hr ht H
    refine ⟨H.1, fun h => (by rw [h] at hr; cases hr), fun j hj => ?_⟩
    by_cases hji : j = i
    · subst hji
      exact ht.wpOp hi H.1 H
    · have := ready_mono hj hji
      rw [H.2.1] at this
      cases this
  | succ f ih =>
    intro listed a w hfree hr ht H
    refine ⟨H.1, fun h => (by rw [h] at hr; cases hr), fun j hj => ?_⟩
    by_cases hji : j = i
    · subst hji
      exact ht.wpOp hi H.1 H
    · have h1 := H.2.2 j (ready_mono hj hji)
      obtain ⟨hjun, oj, hoj, hall⟩ := mem_ready.1 hj
      have hnot : ∀ e ∈ oj.after, Region.binds md e = true → e.on ≠ i := fun e he hb heq => by
        have h1 := hall e he hb
        have h0 := (mem_ready.1 hr).1
        rw [heq] at h1
        rcases Nat.lt_or_ge i listed.size with h' | h'
        · simp [h'] at h0 h1; rw [h0] at h1; cases h1
        · simp [Array.getElem?_eq_none h'] at h1
      have h2 := wpOp_apart hoj (hfree j oj hoj hji hjun hnot) (fun cs b => hsel i oi cs b hi) (fun cs b => hsel j oj cs b hoj) hQ h1
      refine wpOp_mono (fun a' w2 h3 => ?_) h2
      refine ih (listed.setIfInBounds j true) a' w2 (fun k ok hk hki hun hno => ?_) (ready_mono hr (Ne.symm hji)) (ht.same h3.1) ?_
      · refine hfree k ok hk hki ?_ hno
        by_cases hjk : j = k
        · subst hjk; exact hjun
        · rw [getD_set_ne true hjk] at hun; exact hun
      · rw [Array.setIfInBounds_comm _ _ hji]
        exact h3.2

theorem wp_region_X_lit {id : Nat} {a : Act} {w : World} {l : List Oper} (hm : P.follows .mixedOrders = true)
    (h : ∀ w1, Ext w w1 → xM P .any l.toArray (NoPanic Q) K l.length (Array.replicate l.length false) a w1) : (Code.region id l.toArray true).wp P Q a w :=
  wp_region_noPanic (wp_region_any hm (by simpa using (h w.drew (Ext.drew (Ext.refl w))).any))
def xtakeB (md : Region.Mode) (ops : Array Oper) (listed : Array Bool) (i : Nat) : Bool :=
  (Region.ready md ops listed).contains i && Region.noSelect ops && Region.free md ops listed i

theorem xtakeV (i : Nat) {oi : Oper} {v : Value} {f : Nat} {listed : Array Bool} {a : Act} {w : World} (hi : ops[i]? = some oi := by simp only [List.getElem?_toArray, List.getElem?_cons, reduceIte]; rfl) (hb : xtakeB md ops listed i = true := by kernel_rfl)
    (hw : Region.wanted oi (yielded ops a.tmps) = true := by rfl) (hv : ∀ w', K w' → (execOp a.eval oi).run P w' = .ok (.value v) w')
    (h : xM P md ops (NoPanic Q) K f (listed.setIfInBounds i true) (a.put oi.dst v) w) : xM P md ops (NoPanic Q) K (f + 1) listed a w := by
  simp only [xtakeB, Bool.and_eq_true] at hb
  obtain ⟨⟨h1, h2⟩, h3⟩ := hb
  exact xM_first hi (Region.noSelect_spec h2) (fun _ _ _ h => h) f listed a w (Region.free_spec hi h3) (by simpa using h1) (.inl ⟨hw, hv⟩) h
theorem xtv (i : Nat) {oi : Oper} {v : Value} {f : Nat} {listed : Array Bool} {a a' : Act} {w : World} (hi : ops[i]? = some oi := by simp only [List.getElem?_toArray, List.getElem?_cons, reduceIte]; rfl) (hb : xtakeB md ops listed i = true := by kernel_rfl)
    (hw : Region.wanted oi (yielded ops a.tmps) = true := by rfl) (hv : ∀ w', K w' → (execOp a.eval oi).run P w' = .ok (.value v) w' := by intro w' hw'; go_simp; first | done | with_reducible rfl)
    (ha : a.put oi.dst v = a' := by simp only [Act.put, List.setIfInBounds_toArray, List.set]; rfl)
    (h : xM P md ops (NoPanic Q) K f (listed.setIfInBounds i true) a' w) : xM P md ops (NoPanic Q) K (f + 1) listed a w := xtakeV i hi hb hw hv (ha ▸ h)

theorem xtakeU (i : Nat) {oi : Oper} {f : Nat} {listed : Array Bool} {a : Act} {w : World} (hi : ops[i]? = some oi := by simp only [List.getElem?_toArray, List.getElem?_cons, reduceIte]; rfl) (hb : xtakeB md ops listed i = true := by kernel_rfl)
    (hw : Region.wanted oi (yielded ops a.tmps) = false := by rfl)
    (h : xM P md ops (NoPanic Q) K f (listed.setIfInBounds i true) (a.put oi.dst undef) w) : xM P md ops (NoPanic Q) K (f + 1) listed a w := by
  simp only [xtakeB, Bool.and_eq_true] at hb
  obtain ⟨⟨h1, h2⟩, h3⟩ := hb
  exact xM_first hi (Region.noSelect_spec h2) (fun _ _ _ h => h) f listed a w (Region.free_spec hi h3) (by simpa using h1) (.inr ⟨hw, rfl⟩) h
def RunX (P : Program) (md : Region.Mode) (ops : Array Oper) (Q : Exit → Act → World → Prop) (K : World → Prop) (f : Nat) (listed : Array Bool) (a : Act) (w : World) (i : Nat) : Prop :=
  ∃ oi, ops[i]? = some oi ∧ Region.wanted oi (yielded ops a.tmps) = true ∧ oi.wp P a w (fun a2 w2 => xM P md ops Q K f (listed.setIfInBounds i true) a2 w2) Q
theorem RunX.of (i : Nat) {oi : Oper} {f : Nat} {listed : Array Bool} {a : Act} {w : World} (hi : ops[i]? = some oi := by simp only [List.getElem?_toArray, List.getElem?_cons, reduceIte]; rfl) (hw : Region.wanted oi (yielded ops a.tmps) = true := by rfl)
    (h : oi.wp P a w (fun a2 w2 => xM P md ops Q K f (listed.setIfInBounds i true) a2 w2) Q) : RunX P md ops Q K f listed a w i := ⟨oi, hi, hw, h⟩
theorem RunX.op {f : Nat} {listed : Array Bool} {a : Act} {w : World} {i : Nat} (h : RunX P md ops Q K f listed a w i) : wpOp P ops Q i (fun a2 w2 => xM P md ops Q K f (listed.setIfInBounds i true) a2 w2) a w := by
  obtain ⟨oi, hi, hw, h⟩ := h
  unfold wpOp
  simp only [hi, hw, if_true]
  exact .inl h

theorem xone (i : Nat) {f : Nat} {listed : Array Bool} {a : Act} {w : World} (hr : Region.ready md ops listed = [i] := by kernel_rfl) (hk : K w) (h : RunX P md ops Q K f listed a w i) : xM P md ops Q K (f + 1) listed a w :=
  ⟨hk, fun e => (by rw [hr] at e; cases e), fun j hj => by
    rw [hr, List.mem_singleton] at hj
    subst hj
    exact h.op⟩
theorem xtwo (i j : Nat) {f : Nat} {listed : Array Bool} {a : Act} {w : World} (hr : Region.ready md ops listed = [i, j] := by kernel_rfl) (hk : K w) (h : RunX P md ops Q K f listed a w i) (h' : RunX P md ops Q K f listed a w j) : xM P md ops Q K (f + 1) listed a w :=
  ⟨hk, fun e => (by rw [hr] at e; cases e), fun k hj => by
    rw [hr, List.mem_cons, List.mem_singleton] at hj
    rcases hj with rfl | rfl
    · exact h.op
    · exact h'.op⟩
theorem xdone {f : Nat} {listed : Array Bool} {a : Act} {w : World} (hr : Region.ready md ops listed = []) (hk : K w) (h : Q .normal a w) : xM P md ops (NoPanic Q) K f listed a w := by
  cases f with
  | zero => exact ⟨hk, hr, h⟩
  | succ f => exact ⟨hk, fun _ => h, fun j hj => by rw [hr] at hj; cases hj⟩
end
end Go.Proofs.YtlakolkpfkakoaaGreatDoor

/- Blocks known whole, and numbers that stay as they are. -/
namespace Go.Proofs.YtlakolkpfkakoaaGreatDoor
open Go.RowKit

theorem late_blk {W W' : World} {C : Array Value} {t : TypeId} (x : Ext (W.alloc (.cells C t (0, 0))) W') : W'.heap[W.heap.size]? = some (.cells C t (0, 0)) :=
  box1 (x.mono (by rw [size_alloc]; omega))
theorem blk_later {W W' : World} {g : Nat} {O : Obj} (h : W.heap[g]? = some O) (x : Ext W W') : W'.heap[g]? = some O := (x.block g (blk_lt h)).trans h
theorem blk_alloc {W : World} {g : Nat} {O : Obj} (h : W.heap[g]? = some O) (o : Obj) : (W.alloc o).heap[g]? = some O := (get_alloc_old (blk_lt h)).trans h
theorem wrapN (x : Int) (h1 : -9223372036854775808 ≤ x) (h2 : x ≤ 9223372036854775807) : IntKind.i64.wrap x = x := by
  simp [IntKind.wrap, IntKind.bits, IntKind.signed]; omega
theorem wrapU (x : Int) (h1 : 0 ≤ x) (h2 : x ≤ 18446744073709551615) : IntKind.u64.wrap x = x := by
  simp [IntKind.wrap, IntKind.bits, IntKind.signed]; omega
theorem wrapM (x : Int) : IntKind.u64.wrap x = x % 18446744073709551616 := by
  simp [IntKind.wrap, IntKind.bits, IntKind.signed]
end Go.Proofs.YtlakolkpfkakoaaGreatDoor

/- Frames: what they are, which may be. -/
namespace Go.Proofs.YtlakolkpfkakoaaGreatDoor
open Go.RowKit

structure Fr where
  k : Int
  e : Int
  q : Nat
  a : Nat
  b : ByteArray
deriving DecidableEq

def Fr.v (f : Fr) : Value := .agg #[.int .i64 f.k, .int .i64 f.e, .int .u64 f.q, .int .u64 f.a, .string f.b]
def Fr.zero : Fr := ⟨0, 0, 0, 0, ⟨#[]⟩⟩

theorem empty_size (s : ByteArray) : s.toList.isEmpty = decide (s.size = 0) := by
  rw [ByteArray.toList_eq]
  have : s.data.toList.isEmpty = decide (s.data.size = 0) := by
    rw [← Array.length_toList]
    cases s.data.toList <;> simp
  exact this
def rightB (f : Fr) : Bool := decide (0 ≤ f.e) && decide (f.e ≤ 65535) && decide (f.b.size ≤ 64) && (decide (f.k = 1) || decide (f.k = 2) && decide (f.b.size = 0))

set_option maxHeartbeats 400000 in
theorem refRight_any (w : World) (k e : Int) (q a : Nat) (b : ByteArray) :
    Calls Tryz.prog 43 #[.agg #[.int .i64 k, .int .i64 e, .int .u64 q, .int .u64 a, .string b]] w fun ev w' => ev = .returned (.bool (rightB ⟨k, e, q, a, b⟩)) ∧ Ext w w' := by
  go_enter Tryz.func43, Tryz.ntmps43
  go_wp2
  all_goals go_ret
  all_goals refine ⟨ret_bool ?_, (by repeat (first | exact Ext.refl _ | assumption | refine Ext.alloc ?_ _ | refine Ext.drew ?_ | refine Ext.drewN ?_ _))⟩
  all_goals (first | rw [empty_size] | skip)
  all_goals unfold rightB
  all_goals simp
  all_goals (first | omega | skip)
  all_goals (intros; first | omega | skip)
  all_goals
    have h1 : decide (0 ≤ e) = true := decide_eq_true (by omega)
    have h2 : decide (e ≤ 65535) = true := decide_eq_true (by omega)
    have h3 : decide (b.size ≤ 64) = true := decide_eq_true (by omega)
    have h4 : decide (k = 1) = false := decide_eq_false (by omega)
    have h4' : (k == 1) = false := beq_eq_false_iff_ne.2 (by omega)
    rw [h1, h2, h3, h4]
    first
    | (have h5 : decide (k = 2) = true := decide_eq_true (by omega)
       rw [h5]
       simp)
    | (have h5 : decide (k = 2) = false := decide_eq_false (by omega)
       rw [h5, h4']
       simp)

end Go.Proofs.YtlakolkpfkakoaaGreatDoor
