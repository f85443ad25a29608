/- Texts of this seat. -/
import Derived.Test.YtfbambemjokmgaaGreatChecked
import Derived.WalkKit
import Derived.WalkSpells
import Derived.WalkLawsBesides
import Derived.Laws.AppendOwnNone
import Derived.Deep.QuietTactic
import Derived.BigQuiet
import Derived.Lib.Hide
import Derived.OneCell
import Derived.Laws.CopyRow
import Derived.Laws.Rows
import Derived.Deep.RegionLaw
import Derived.Deep.RegionWith
import Derived.Deep.RegionHeld3
import Derived.IntWalk
import Derived.Shelf.Abstract
import Derived.Test.YtfbambemjokmgaaGreatShelf
import Derived.BigGuard
import Derived.Deep.DeepCutAuto
import Derived.Deep.CutBlock
import Derived.Laws.StructEq
import Derived.OpenShut
import Derived.Deep.Slices
import Derived.Deep.Fields
import Derived.ChangeSame
import Derived.ProofKit
import Derived.StillTactics
namespace Go.Proofs.YtfbambemjokmgaaGreat
open Go.RowKit
def Rd (w : World) (k : Nat) (v : Value) (n : Nat) (L : List Value) : Prop :=
  L.length = n * k ∧ ∃ ao c, v = .slice ao n c ∧ n ≤ c ∧ c ≤ maxLen ∧ (ao = none → c = 0) ∧
    (n = 0 ∨ ∃ b off, ao = some ⟨b, off, none⟩ ∧ b < w.heap.size ∧ ∀ j u, L[j]? = some u → w.cell? ⟨b, off + j, none⟩ = some u)
theorem Rd.below {w w' : World} {k : Nat} {v : Value} {n : Nat} {L : List Value} (h : Rd w k v n L) {B : Nat} (hb : Below B w w') (hB : w.heap.size ≤ B) : Rd w' k v n L := by
  obtain ⟨h1, ao, c, hv, h2, h3, h4, h5⟩ := h
  refine ⟨h1, ao, c, hv, h2, h3, h4, ?_⟩
  rcases h5 with h5 | ⟨b, off, ha, hbl, hc⟩
  · exact .inl h5
  · exact .inr ⟨b, off, ha, by have := hb.size; omega, fun j u hj => (hb.cell (p := ⟨b, off + j, none⟩) (by show b < B; omega)).trans (hc j u hj)⟩
theorem Rd.of_own {w : World} {B e k : Nat} {v : Value} {n : Nat} {L : List Value} (h : w.ownsRow B e k v n L) : Rd w k v n L := by
  refine ⟨h.1, ?_⟩
  rcases h.2 with ⟨rfl, rfl⟩ | ⟨g, cap, cur, rfl, hg, hh, h1, h2, h3, h4⟩
  · exact ⟨none, 0, rfl, Nat.le_refl _, by unfold maxLen; omega, fun _ => rfl, .inl rfl⟩
  · refine ⟨some ⟨g, 0, none⟩, cap, rfl, h1, h2, by simp, .inr ⟨g, 0, rfl, (Array.getElem?_eq_some_iff.1 hh).1, fun j u hj => ?_⟩⟩
    have hjl : j < n * k := by rw [← h.1]; exact (List.getElem?_eq_some_iff.1 hj).1
    rw [Nat.zero_add, h.cellAt j hjl, hj]
theorem append_block {P : Program} {w : World} (base : Nat) (t ty e : TypeId) (i : TypeInfo) (z : Value) (size bytes : Nat) (ht : P.underlying t = some (.slice e)) (hi : P.info? e = some i) (hz : i.zero = some z)
    (hsize : i.size = size) (hby : i.bytes = bytes) (hzs : z.cells.size = size) (hsz : 0 < size)
    (v : Value) (n : Nat) (xs : List Value) (hown : w.ownsRow base e size v n xs)
    (a : Addr) (m c : Nat) (news : List Value) (hl : news.length = m * size) (hnews : ∀ j u, news[j]? = some u → w.cell? (a.add j) = some u) (h1 : ∀ u ∈ news, u.oneCell' = true)
    (h63 : n + m ≤ maxLen) (hbytes : (n + m) * bytes ≤ 140737488355328) {v' : Value} {w' : World}
    (hr : (Builtin.append_ #[t, t] ty #[v, .slice (some a) m c]).run P w = .ok v' w') : v'.ownBlock = v.ownBlock ∨ ∀ b, v'.ownBlock = some b → w.heap.size ≤ b := by
  subst hsize
  subst hby
  have hsmall : n + m ≤ 9223372036854775807 := by simpa only [maxLen] using h63
  rcases hown.2 with ⟨rfl, rfl⟩ | ⟨g, cap, cur, rfl, hbg, hg, hnc, hcm, hcs, htake⟩
  · obtain ⟨v2, w2, hr2, ho2, _⟩ := run_append_own (P := P) w w.heap.size t ty e i z i.size i.bytes ht hi hz rfl rfl hzs hsz _ 0 xs ⟨hown.1, .inl ⟨rfl, rfl⟩⟩ a m c news hl hnews h1 h63 hbytes (Nat.le_refl _)
    rw [hr2] at hr
    cases hr
    exact .inr fun b hb => (ho2.lt b hb).1
  · by_cases hroom : n + m ≤ cap
    · have hfit : n * i.size + news.length ≤ cur.size := by rw [hl, hcs, ← Nat.add_mul]; exact Nat.mul_le_mul_right _ hroom
      have hr2 := run_append_room (P := P) w t ty e i ht hi g n cap cur hg a m c news hl hnews h1 hroom hfit
      rw [hr2] at hr
      cases hr
      exact .inl rfl
    · have holds : ∀ j u, xs[j]? = some u → w.cell? ((⟨g, 0, none⟩ : Addr).add j) = some u := hown.cells (g := g) rfl
      have hr2 := run_append_grow (P := P) w t ty e i z ht hi hz ⟨g, 0, none⟩ n cap xs hown.1 holds a m c news hl hnews (by omega) (by omega) (growslice_fits (by omega) hbytes)
      rw [hr2] at hr
      cases hr
      exact .inr fun b hb => by simp [Value.ownBlock] at hb; omega
structure Apd (base : Nat) (v v' : Value) (w w' : World) : Prop where
  grown : w.grownBy w' v.ownBlock
  below : Below base w w'
  kept : v ≠ .slice none 0 0 → v' ≠ .slice none 0 0
  block : v'.ownBlock = v.ownBlock ∨ ∀ b, v'.ownBlock = some b → w.heap.size ≤ b
theorem wp_append_rd {P : Program} {w : World} {o : Oper} {a : Act} {K : Act → World → Prop} {Q : Exit → Act → World → Prop} (s x : Operand) (t : TypeId)
    (ho : o.op = .call { callee := .builtin .append, args := #[s, x], argTypes := #[t, t] })
    (base : Nat) (e : TypeId) (i : TypeInfo) (z : Value) (size bytes : Nat) (ht : P.underlying t = some (.slice e)) (hi : P.info? e = some i) (hz : i.zero = some z)
    (hsize : i.size = size) (hby : i.bytes = bytes) (hzs : z.cells.size = size) (hsz : 0 < size)
    (v : Value) (n : Nat) (xs : List Value) (hs : a.eval s = v) (hown : w.ownsRow base e size v n xs)
    (vx : Value) (m : Nat) (news : List Value) (hx : a.eval x = vx) (hrd : Rd w size vx m news) (h1 : ∀ u ∈ news, u.oneCell' = true)
    (h63 : n + m ≤ maxLen) (hbytes : (n + m) * bytes ≤ 140737488355328) (hbase : base ≤ w.heap.size)
    (h : ∀ v' w', w'.ownsRow base e size v' (n + m) (xs ++ news) → Apd base v v' w w' → K (a.put o.dst v') w') : o.wp P a w K Q := by
  obtain ⟨hl, ao, c, rfl, hmc, hc63, hnone, hcells⟩ := hrd
  have hlt := hown.lt
  cases ao with
  | none =>
    have hc0 := hnone rfl
    subst hc0
    obtain rfl : m = 0 := by omega
    obtain rfl : news = [] := List.eq_nil_of_length_eq_zero (by simpa using hl)
    have hrun := run_append_owned_none (P := P) (w := w) base t o.type e i size ht hi v n xs hown
    unfold Oper.wp
    simp [execOp, ho, resolve, invoke, builtin, hs, hx, hrun, Result.andThen]
    exact h v w (by simpa using hown) ⟨⟨rfl, rfl, rfl, Nat.le_refl _, fun _ _ _ => rfl⟩, Below.refl _ _, fun h => h, .inl rfl⟩
  | some ad =>
    have hnews : ∀ j u, news[j]? = some u → w.cell? (ad.add j) = some u := by
      intro j u hj
      rcases hcells with h0 | ⟨b, off, ha, _, hc⟩
      · subst h0
        have : news = [] := List.eq_nil_of_length_eq_zero (by simpa using hl)
        subst this
        simp at hj
      · cases ha
        have := hc j u hj
        unfold Addr.add
        split
        · next hj0 => subst hj0; simpa using this
        · exact this
    obtain ⟨v', w', hr, g1, g2, g3⟩ := run_append_own (P := P) w base t o.type e i z size bytes ht hi hz hsize hby hzs hsz v n xs hown ad m c news hl hnews h1 h63 hbytes hbase
    have hblk := append_block (P := P) base t o.type e i z size bytes ht hi hz hsize hby hzs hsz v n xs hown ad m c news hl hnews h1 h63 hbytes hr
    unfold Oper.wp execOp
    simp only [ho, resolve, invoke, builtin, Sem.run_bind, Sem.run_pure, Result.andThen_ok, List.map_toArray, List.map_cons, List.map_nil, hs, hx, hr]
    exact h v' w' g1 ⟨g2, (Below.refl _ _).grown g2 hbase fun k hk => (hlt k hk).1, fun hv hv' => hv (g3.1 hv').1, hblk⟩
theorem Rd.grown {w w' : World} {k : Nat} {v : Value} {n : Nat} {L : List Value} (h : Rd w k v n L) {row : Option Nat} (hg : w.grownBy w' row) (hne : v.ownBlock ≠ row ∨ row = none) : Rd w' k v n L := by
  obtain ⟨h1, ao, c, rfl, h2, h3, h4, h5⟩ := h
  refine ⟨h1, ao, c, rfl, h2, h3, h4, ?_⟩
  rcases h5 with h5 | ⟨b, off, rfl, hbl, hc⟩
  · exact .inl h5
  · refine .inr ⟨b, off, rfl, Nat.lt_of_lt_of_le hbl hg.size, fun j u hj => ?_⟩
    refine (World.cell?_of_block (w := w) (a := ⟨b, off + j, none⟩) (hg.block b hbl ?_)).trans (hc j u hj)
    rcases hne with hne | rfl
    · exact hne
    · simp
class Elem (α : Type) where
  e : TypeId
  t : TypeId
  k : Nat
  bytes : Nat
  z : Value
  enc : α → List Value
  dflt : α
  len : ∀ x, (enc x).length = k
  pos : 0 < k
  one : ∀ x, ∀ u ∈ enc x, u.oneCell' = true
  row : Tryz.prog.underlying t = some (.slice e)
  info : (Tryz.prog.info? e).map (fun i => (i.zero, i.size, i.bytes)) = some (some z, k, bytes)
  zsize : z.cells.size = k
  few : bytes ≤ 1000
def cellsOf {α : Type} [Elem α] (xs : List α) : List Value := xs.flatMap Elem.enc
theorem cellsOf_length {α : Type} [Elem α] (xs : List α) : (cellsOf xs).length = xs.length * Elem.k α := by
  unfold cellsOf
  induction xs with
  | nil => simp
  | cons x xs ih => simp only [List.flatMap_cons, List.length_append, List.length_cons, Elem.len, ih, Nat.succ_mul]; omega
theorem cellsOf_append {α : Type} [Elem α] (xs ys : List α) : cellsOf (xs ++ ys) = cellsOf xs ++ cellsOf ys := by unfold cellsOf; simp
theorem cellsOf_get {α : Type} [Elem α] : ∀ (xs : List α) (j : Nat) (x : α), xs[j]? = some x → ∀ i u, (Elem.enc x)[i]? = some u → (cellsOf xs)[j * Elem.k α + i]? = some u
  | [], j, x, h, _, _, _ => by simp at h
  | y :: ys, 0, x, h, i, u, hu => by
    simp only [List.getElem?_cons_zero, Option.some.injEq] at h
    subst h
    have hi : i < (Elem.enc y).length := (List.getElem?_eq_some_iff.1 hu).1
    show (Elem.enc y ++ cellsOf ys)[0 * Elem.k α + i]? = some u
    rw [Nat.zero_mul, Nat.zero_add, List.getElem?_append_left hi, hu]
  | y :: ys, j + 1, x, h, i, u, hu => by
    have ih := cellsOf_get ys j x (by simpa using h) i u hu
    show (Elem.enc y ++ cellsOf ys)[(j + 1) * Elem.k α + i]? = some u
    have hl := Elem.len y
    rw [List.getElem?_append_right (by rw [hl, Nat.succ_mul]; omega), hl, Nat.succ_mul, show j * Elem.k α + Elem.k α + i - Elem.k α = j * Elem.k α + i from by omega, ih]
theorem cellsOf_one {α : Type} [Elem α] (xs : List α) : ∀ u ∈ cellsOf xs, u.oneCell' = true := by
  intro u hu
  obtain ⟨x, _, hx⟩ := List.mem_flatMap.1 hu
  exact Elem.one x u hx
theorem cellsOf_take {α : Type} [Elem α] : ∀ (n : Nat) (xs : List α), cellsOf (xs.take n) = (cellsOf xs).take (n * Elem.k α)
  | 0, xs => by simp [cellsOf]
  | n + 1, [] => by simp [cellsOf]
  | n + 1, x :: xs => by
    have hl := Elem.len x
    show Elem.enc x ++ cellsOf (xs.take n) = (Elem.enc x ++ cellsOf xs).take _
    rw [List.take_append, hl, Nat.succ_mul, show n * Elem.k α + Elem.k α - Elem.k α = n * Elem.k α from by omega, cellsOf_take n xs, List.take_of_length_le (l := Elem.enc x) (by omega)]
theorem cellsOf_drop {α : Type} [Elem α] : ∀ (n : Nat) (xs : List α), cellsOf (xs.drop n) = (cellsOf xs).drop (n * Elem.k α)
  | 0, xs => by simp [cellsOf]
  | n + 1, [] => by simp [cellsOf]
  | n + 1, x :: xs => by
    have hl := Elem.len x
    show cellsOf (xs.drop n) = (Elem.enc x ++ cellsOf xs).drop _
    rw [List.drop_append, hl, Nat.succ_mul, show n * Elem.k α + Elem.k α - Elem.k α = n * Elem.k α from by omega, cellsOf_drop n xs, List.drop_of_length_le (l := Elem.enc x) (by omega), List.nil_append]
def Sl {α : Type} [Elem α] (w : World) (v : Value) (xs : List α) : Prop := Rd w (Elem.k α) v xs.length (cellsOf xs)
def Ow {α : Type} [Elem α] (w : World) (B : Nat) (v : Value) (xs : List α) : Prop := w.ownsRow B (Elem.e α) (Elem.k α) v xs.length (cellsOf xs)
section
variable {α : Type} [Elem α] {w w' : World} {v : Value} {xs : List α} {B : Nat}
theorem Sl.below (h : Sl w v xs) {B : Nat} (hb : Below B w w') (hB : w.heap.size ≤ B) : Sl w' v xs := Rd.below h hb hB
theorem Ow.sl (h : Ow w B v xs) : Sl w v xs := Rd.of_own h
theorem Sl.drew (h : Sl w v xs) : Sl w.drew v xs := h
theorem Ow.drew (h : Ow w B v xs) : Ow w.drew B v xs := h
theorem Sl.grown (h : Sl w v xs) {row : Option Nat} (hg : w.grownBy w' row) (hne : v.ownBlock ≠ row ∨ row = none) : Sl w' v xs := Rd.grown h hg hne
theorem Sl.alloc (h : Sl w v xs) (o : Obj) : Sl (w.alloc o) v xs := h.grown (World.grownBy_alloc w o none) (.inr rfl)
theorem Ow.alloc (h : Ow w B v xs) (o : Obj) : Ow (w.alloc o) B v xs := World.ownsRow.alloc h o
theorem Ow.mono (h : Ow w B v xs) {B' : Nat} (hB : B' ≤ B) : Ow w B' v xs := by
  refine ⟨h.1, ?_⟩
  rcases h.2 with hn | ⟨g, cap, cur, hv, hg, r⟩
  · exact .inl hn
  · exact .inr ⟨g, cap, cur, hv, by omega, r⟩
theorem Ow.below (h : Ow w B v xs) {B' : Nat} (hb : Below B' w w') (hB : w.heap.size ≤ B') : Ow w' B v xs := by
  refine ⟨h.1, ?_⟩
  rcases h.2 with hn | ⟨g, cap, cur, hv, hg, hh, r⟩
  · exact .inl hn
  · have hgl := (Array.getElem?_eq_some_iff.1 hh).1
    exact .inr ⟨g, cap, cur, hv, hg, by rw [hb.block g (by omega)]; exact hh, r⟩
theorem Ow.nil (w : World) (B : Nat) : Ow w B (.slice none 0 0) ([] : List α) := World.ownsRow_nil _ _ _ _
theorem Ow.lit (w : World) (B : Nat) (hB : B ≤ w.heap.size) (xs : List α) (h : xs.length ≤ 1000000) : Ow (w.alloc (.cells (cellsOf xs).toArray (Elem.e α))) B (.slice (some ⟨w.heap.size, 0, none⟩) xs.length xs.length) xs := by
  have := World.ownsRow_lit (e := Elem.e α) (size := Elem.k α) w (cellsOf xs).toArray xs.length hB (by unfold maxLen; omega) (by simp [cellsOf_length])
  simpa [Ow] using this
theorem Ow.litAt (w : World) (B n : Nat) (hn : n = w.heap.size) (hB : B ≤ w.heap.size) (xs : List α) (h : xs.length ≤ 1000000) : Ow (w.alloc (.cells (cellsOf xs).toArray (Elem.e α))) B (.slice (some ⟨n, 0, none⟩) xs.length xs.length) xs := hn ▸ Ow.lit w B hB xs h
theorem Sl.lit (w : World) (xs : List α) (h : xs.length ≤ 1000000) : Sl (w.alloc (.cells (cellsOf xs).toArray (Elem.e α))) (.slice (some ⟨w.heap.size, 0, none⟩) xs.length xs.length) xs := (Ow.lit w w.heap.size (Nat.le_refl _) xs h).sl
theorem Sl.litAt (w : World) (n : Nat) (hn : n = w.heap.size) (xs : List α) (h : xs.length ≤ 1000000) : Sl (w.alloc (.cells (cellsOf xs).toArray (Elem.e α))) (.slice (some ⟨n, 0, none⟩) xs.length xs.length) xs := hn ▸ Sl.lit w xs h
theorem Sl.len (h : Sl w v xs) : ∃ ao c, v = .slice ao xs.length c := by
  obtain ⟨_, ao, c, rfl, _⟩ := h
  exact ⟨ao, c, rfl⟩
theorem Sl.length_le (h : Sl w v xs) : xs.length ≤ 9223372036854775807 := by
  obtain ⟨_, ao, c, rfl, hc, hc63, _⟩ := h
  have : c ≤ 9223372036854775807 := by simpa only [maxLen] using hc63
  omega
theorem Sl.parts (h : Sl w v xs) :
    (xs = [] ∧ ∃ ao c, v = .slice ao 0 c) ∨
    (∃ b off c, v = .slice (some ⟨b, off, none⟩) xs.length c ∧ xs.length ≤ c ∧ c ≤ 9223372036854775807 ∧ b < w.heap.size ∧ 0 < xs.length ∧
      ∀ j x, xs[j]? = some x → ∀ i u, (Elem.enc x)[i]? = some u → w.cell? ⟨b, off + (j * Elem.k α + i), none⟩ = some u) := by
  obtain ⟨_, ao, c, rfl, hc, hc63, _, h0 | ⟨b, off, rfl, hb, hcell⟩⟩ := h
  · have hx : xs = [] := List.eq_nil_of_length_eq_zero h0
    subst hx
    exact .inl ⟨rfl, ao, c, rfl⟩
  · by_cases hx : xs = []
    · subst hx; exact .inl ⟨rfl, _, _, rfl⟩
    · have hpos : 0 < xs.length := List.length_pos_iff.2 hx
      exact .inr ⟨b, off, c, rfl, hc, by simpa only [maxLen] using hc63, hb, hpos, fun j x hj i u hu => hcell _ u (cellsOf_get xs j x hj i u hu)⟩
theorem Sl.cut {b off c len : Nat} (h : Sl w (.slice (some ⟨b, off, none⟩) len c) xs) (i n : Nat) (hin : i + n ≤ xs.length) (hnc : n ≤ c - i) : Sl w (.slice (some ⟨b, off + i * Elem.k α, none⟩) n (c - i)) ((xs.drop i).take n) := by
  have hl : ((xs.drop i).take n).length = n := by simp; omega
  obtain ⟨hL, ao, c', hv, hc, hc63, _, hcell⟩ := h
  simp only [Value.slice.injEq] at hv
  obtain ⟨rfl, rfl, rfl⟩ := hv
  refine ⟨cellsOf_length _, some ⟨b, off + i * Elem.k α, none⟩, c - i, by rw [hl], by rw [hl]; exact hnc, by omega, by simp, ?_⟩
  by_cases hn0 : n = 0
  · left; rw [hl]; exact hn0
  · rcases hcell with h0 | ⟨b', off', ha, hb, hcell⟩
    · omega
    · simp only [Option.some.injEq, Addr.mk.injEq, and_true] at ha
      obtain ⟨rfl, rfl⟩ := ha
      refine .inr ⟨b, off + i * Elem.k α, rfl, hb, fun j u hj => ?_⟩
      rw [cellsOf_take, cellsOf_drop] at hj
      rw [List.getElem?_take] at hj
      split at hj
      · rw [List.getElem?_drop] at hj
        rw [show off + i * Elem.k α + j = off + (i * Elem.k α + j) from by omega]
        exact hcell _ u hj
      · simp at hj
theorem Sl.tail {b off c len : Nat} (h : Sl w (.slice (some ⟨b, off, none⟩) len c) xs) (i : Nat) (hi : i ≤ xs.length) : Sl w (.slice (if c = i then some ⟨b, off, none⟩ else some ⟨b, off + i * Elem.k α, none⟩) (xs.length - i) (c - i)) (xs.drop i) := by
  have hlc : xs.length ≤ c := by
    obtain ⟨_, ao, c', hv, hc, _⟩ := h
    simp only [Value.slice.injEq] at hv
    obtain ⟨_, _, rfl⟩ := hv
    exact hc
  have hc63 : c ≤ maxLen := by
    obtain ⟨_, ao, c', hv, _, hc, _⟩ := h
    simp only [Value.slice.injEq] at hv
    obtain ⟨_, _, rfl⟩ := hv
    exact hc
  by_cases hci : c = i
  · rw [if_pos hci, List.drop_of_length_le (by omega), show xs.length - i = 0 by omega, show c - i = 0 by omega]
    exact ⟨by simp [cellsOf], _, _, rfl, Nat.le_refl _, by unfold maxLen; omega, by simp, .inl rfl⟩
  · rw [if_neg hci]
    have := h.cut i (xs.length - i) (by omega) (by omega)
    rwa [List.take_of_length_le (by simp)] at this
theorem Sl.empty (w : World) (ao : Option Addr) (c : Nat) (hc : c ≤ 9223372036854775807) (hn : ao = none → c = 0) : Sl w (.slice ao 0 c) ([] : List α) :=
  ⟨by simp [cellsOf], ao, c, rfl, Nat.zero_le _, by unfold maxLen; exact hc, hn, .inl rfl⟩
theorem Ow.sh (h : Ow w B v xs) : ∃ ao n c, v = .slice ao n c := by obtain ⟨ao, c, h⟩ := h.sl.len; exact ⟨ao, _, c, h⟩
theorem Ow.low (h : Ow w B v xs) : ∀ b, v.ownBlock = some b → B ≤ b ∧ b < w.heap.size := World.ownsRow.lt h
theorem Sl.low {ys : List α} (h : Sl w v ys) : ys = [] ∨ ∀ b, v.ownBlock = some b → b < w.heap.size := by
  obtain ⟨h1, ao, c, rfl, h2, h3, h4, h5 | ⟨b, off, rfl, hb, hc⟩⟩ := h
  · exact .inl (List.eq_nil_of_length_eq_zero h5)
  · exact .inr fun b' e => by obtain rfl : b = b' := by simpa [Value.ownBlock] using e
                              exact hb
theorem wp_append_sl {o : Oper} {a : Act} {K : Act → World → Prop} {Q : Exit → Act → World → Prop} (s x : Operand)
    (ho : o.op = .call { callee := .builtin .append, args := #[s, x], argTypes := #[Elem.t α, Elem.t α] })
    (B : Nat) (v : Value) (ys : List α) (hs : a.eval s = v) (hown : Ow w B v ys)
    (vx : Value) (zs : List α) (hx : a.eval x = vx) (hrd : Sl w vx zs)
    (hbytes : ys.length + zs.length ≤ 100000000) (hbase : B ≤ w.heap.size)
    (h : ∀ v' w', Ow w' B v' (ys ++ zs) → Apd B v v' w w' → K (a.put o.dst v') w') : o.wp Tryz.prog a w K Q := by
  obtain ⟨i0, hi, hz0, hz1, hz2⟩ := info_parts (Elem.info (α := α))
  have hf := Elem.few (α := α)
  refine wp_append_rd s x (Elem.t α) ho B (Elem.e α) i0 (Elem.z α) (Elem.k α) (Elem.bytes α) (Elem.row (α := α)) hi hz0 hz1 hz2 (Elem.zsize (α := α)) (Elem.pos (α := α)) v ys.length _ hs hown vx zs.length _ hx hrd
    (cellsOf_one zs) (by unfold maxLen; omega) (by have := Nat.mul_le_mul hbytes hf; omega) hbase fun v' w' h1 h2 => h v' w' ?_ h2
  unfold Ow
  rw [List.length_append, cellsOf_append]
  exact h1
theorem wpList_append_sl {ops : Array Oper} {rest : List Oper} {o : Oper} {a : Act} {Q : Exit → Act → World → Prop} (hgd : o.guard = none) (s x : Operand)
    (ho : o.op = .call { callee := .builtin .append, args := #[s, x], argTypes := #[Elem.t α, Elem.t α] })
    (B : Nat) (v : Value) (ys : List α) (hs : a.eval s = v) (hown : Ow w B v ys)
    (vx : Value) (zs : List α) (hx : a.eval x = vx) (hrd : Sl w vx zs)
    (hbytes : ys.length + zs.length ≤ 100000000) (hbase : B ≤ w.heap.size)
    (h : ∀ v' w', Ow w' B v' (ys ++ zs) → Apd B v v' w w' → wpList Tryz.prog ops Q rest (a.put o.dst v') w') : wpList Tryz.prog ops Q (o :: rest) a w :=
  wpList_plain hgd fun _ hK => wp_append_sl s x ho B v ys hs hown vx zs hx hrd hbytes hbase fun v' w' h1 h2 => hK _ _ (h v' w' h1 h2)
theorem step_append_sl {ops : Array Oper} {o : Oper} {a : Act} {K : Act → World → Prop} {Q : Exit → Act → World → Prop} {E : Prop} (hgd : o.guard = none) (s x : Operand)
    (ho : o.op = .call { callee := .builtin .append, args := #[s, x], argTypes := #[Elem.t α, Elem.t α] })
    (B : Nat) (v : Value) (ys : List α) (hs : a.eval s = v) (hown : Ow w B v ys)
    (vx : Value) (zs : List α) (hx : a.eval x = vx) (hrd : Sl w vx zs)
    (hbytes : ys.length + zs.length ≤ 100000000) (hbase : B ≤ w.heap.size)
    (h : ∀ v' w', Ow w' B v' (ys ++ zs) → Apd B v v' w w' → K (a.put o.dst v') w') :
    if Region.wanted o (yielded ops a.tmps) = true then Oper.wp Tryz.prog o a w K Q else E := by
  have hw : Region.wanted o (yielded ops a.tmps) = true := by simp [Region.wanted, hgd]
  rw [if_pos hw]
  exact wp_append_sl s x ho B v ys hs hown vx zs hx hrd hbytes hbase h
end
def Drew (w w' : World) : Prop := ∃ q, w' = w.drewN q
theorem Drew.refl (w : World) : Drew w w := ⟨0, rfl⟩
theorem Drew.more {w w' : World} (h : Drew w w') (q : Nat) : Drew w (w'.drewN q) := by
  obtain ⟨p, rfl⟩ := h
  exact ⟨p + q, by simp [World.drewN, Nat.add_assoc]⟩
theorem Drew.cell {w w' : World} (h : Drew w w') (a : Addr) : w'.cell? a = w.cell? a := by obtain ⟨p, rfl⟩ := h; rfl
theorem Drew.below {w w' : World} (h : Drew w w') (B : Nat) : Below B w w' := by obtain ⟨p, rfl⟩ := h; exact ⟨rfl, rfl, rfl, Nat.le_refl _, fun _ _ => rfl⟩
theorem below_drewN {B : Nat} {a w : World} (h : Below B a w) (q : Nat) : Below B a (w.drewN q) := ⟨h.os, h.tape, h.output, h.size, h.block⟩
def Ext (w w' : World) : Prop := Below w.heap.size w w'
theorem Ext.refl (w : World) : Ext w w := Below.refl _ _
theorem Ext.trans {a b c : World} (h : Ext a b) (k : Ext b c) : Ext a c := Below.trans h (Below.mono k h.size)
theorem Ext.alloc {a b : World} (h : Ext a b) (o : Obj) : Ext a (b.alloc o) := Below.alloc h h.size o
theorem Ext.drew {a b : World} (h : Ext a b) : Ext a b.drew := Below.drew h
theorem Ext.drewN {a b : World} (h : Ext a b) (q : Nat) : Ext a (b.drewN q) := below_drewN h q
theorem Ext.of_drew {a b : World} (h : Drew a b) : Ext a b := h.below _
theorem Sl.ext {α : Type} [Elem α] {w w' : World} {v : Value} {xs : List α} (h : Sl w v xs) (e : Ext w w') : Sl w' v xs := h.below e (Nat.le_refl _)
theorem Ow.ext {α : Type} [Elem α] {w w' : World} {B : Nat} {v : Value} {xs : List α} (h : Ow w B v xs) (e : Ext w w') : Ow w' B v xs := h.below e (Nat.le_refl _)
def GivesOw {α : Type} [Elem α] (w : World) (ys : List α) (e : Ending) (w' : World) : Prop := ∃ v, e = .returned v ∧ Ow w' w.heap.size v ys ∧ Below w.heap.size w w'
theorem blk_lt {w : World} {b : Nat} {o : Obj} (h : w.heap[b]? = some o) : b < w.heap.size := (Array.getElem?_eq_some_iff.1 h).1
theorem blk_cell {w : World} {b : Nat} {cs : Array Value} {t : TypeId} {fr : Nat × Nat} (h : w.heap[b]? = some (.cells cs t fr)) (o : Nat) {u : Value} (hu : cs[o]? = some u) : w.cell? ⟨b, o, none⟩ = some u := by simp [World.cell?, h, hu]
theorem blk_free {w : World} {b : Nat} {cs : Array Value} {t : TypeId} (h : w.heap[b]? = some (.cells cs t (0, 0))) (o : Nat) : w.frozen? ⟨b, o, none⟩ = false := by simp [World.frozen?, h]
theorem blk_set {w : World} {b : Nat} {cs : Array Value} {t : TypeId} {fr : Nat × Nat} (h : w.heap[b]? = some (.cells cs t fr)) (o : Nat) (u : Value) : (w.setCell ⟨b, o, none⟩ u).heap[b]? = some (.cells (cs.setIfInBounds o u) t fr) := by
  have hlt := blk_lt h
  have h' : w.heap[b] = .cells cs t fr := by simpa [Array.getElem?_eq_getElem hlt] using h
  show (w.heap.modify b _)[b]? = _
  rw [Array.getElem?_eq_getElem (by simpa using hlt), Array.getElem_modify_self, h']
  rfl
theorem set_size (w : World) (a : Addr) (u : Value) : (w.setCell a u).heap.size = w.heap.size := by simp [World.setCell]
theorem set_other (w : World) (a : Addr) (u : Value) (b : Nat) (h : b ≠ a.block) : (w.setCell a u).heap[b]? = w.heap[b]? := Below.heap_setCell _ _ _ _ h
theorem get_alloc_old {w : World} {o : Obj} {k : Nat} (h : k < w.heap.size) : (w.alloc o).heap[k]? = w.heap[k]? := by
  unfold World.alloc; simp only [Array.getElem?_push]; rw [if_neg (by omega)]
theorem get_alloc_new (w : World) (o : Obj) : (w.alloc o).heap[w.heap.size]? = some o := by unfold World.alloc; simp
theorem size_alloc (w : World) (o : Obj) : (w.alloc o).heap.size = w.heap.size + 1 := by unfold World.alloc; simp
theorem box1 {w W : World} {A : Obj} (h : Below (w.heap.size + 1) (w.alloc A) W) : W.heap[w.heap.size]? = some A := by
  rw [h.block _ (by omega), get_alloc_new]
theorem box2 {w W : World} {A B : Obj} (h : Below (w.heap.size + 2) ((w.alloc A).alloc B) W) : W.heap[w.heap.size]? = some A ∧ W.heap[w.heap.size + 1]? = some B := by
  constructor
  · rw [h.block _ (by omega), get_alloc_old (by rw [size_alloc]; omega), get_alloc_new]
  · rw [h.block _ (by omega), ← size_alloc w A, get_alloc_new]
theorem below_alloc_at {B : Nat} {a b : World} (h : Below B a b) (hB : B ≤ a.heap.size) (o : Obj) : Below B a (b.alloc o) := Below.alloc h (Nat.le_trans hB h.size) o
theorem below_set {B : Nat} {a b : World} (h : Below B a b) {d : Addr} (hd : B ≤ d.block) (v : Value) : Below B a (b.setCell d v) :=
  ⟨h.os, h.tape, h.output, by rw [set_size]; exact h.size, fun k hk => by rw [set_other _ _ _ _ (by omega)]; exact h.block k hk⟩
theorem Ow.set {α : Type} [Elem α] {w : World} {B : Nat} {v : Value} {xs : List α} (h : Ow w B v xs) {d : Addr} (hd : d.block < B) (u : Value) : Ow (w.setCell d u) B v xs :=
  ownsRow_setCell_other h (fun e => by have := (h.low _ e).1; omega) u
theorem ret_bool {a b : Bool} (h : a = b) : Ending.returned (.bool a) = .returned (.bool b) := by rw [h]
theorem ret_int {k : IntKind} {a b : Int} (h : a = b) : Ending.returned (.int k a) = .returned (.int k b) := by rw [h]
end Go.Proofs.YtfbambemjokmgaaGreat
namespace Go.Proofs.YtfbambemjokmgaaGreat
open Go.RowKit
structure Off (F : Nat → Prop) (w w' : World) : Prop where
  os : w'.os = w.os
  tape : w'.tape = w.tape
  output : w'.output = w.output
  size : w.heap.size ≤ w'.heap.size
  block : ∀ k, k < w.heap.size → ¬ F k → w'.heap[k]? = w.heap[k]?
theorem Off.refl (F : Nat → Prop) (w : World) : Off F w w := ⟨rfl, rfl, rfl, Nat.le_refl _, fun _ _ _ => rfl⟩
theorem Off.of_ext {F : Nat → Prop} {w w' : World} (e : Ext w w') : Off F w w' := ⟨e.os, e.tape, e.output, e.size, fun k hk _ => e.block k hk⟩
def Grows (F F' : Nat → Prop) (w : World) : Prop := ∀ k, F' k → F k ∨ w.heap.size ≤ k
theorem Grows.refl (F : Nat → Prop) (w : World) : Grows F F w := fun _ h => .inl h
theorem Off.trans {F G : Nat → Prop} {a b c : World} (h : Off F a b) (k : Off G b c) (hg : Grows F G a) : Off F a c :=
  ⟨k.os.trans h.os, k.tape.trans h.tape, k.output.trans h.output, Nat.le_trans h.size k.size, fun n hn hf =>
    (k.block n (Nat.lt_of_lt_of_le hn h.size) fun hG => by rcases hg n hG with h1 | h1; exact hf h1; omega).trans (h.block n hn hf)⟩
theorem Off.below {F : Nat → Prop} {w w' : World} {B : Nat} (h : Off F w w') (hF : ∀ k, F k → B ≤ k) (hB : B ≤ w.heap.size) : Below B w w' :=
  ⟨h.os, h.tape, h.output, h.size, fun k hk => h.block k (Nat.lt_of_lt_of_le hk hB) fun hf => by have := hF k hf; omega⟩
theorem Off.mono {F G : Nat → Prop} {w w' : World} (h : Off F w w') (hg : ∀ k, F k → G k) : Off G w w' := ⟨h.os, h.tape, h.output, h.size, fun k hk hn => h.block k hk fun hf => hn (hg k hf)⟩
def Av {α : Type} (F : Nat → Prop) (v : Value) (xs : List α) : Prop := xs = [] ∨ ∀ b, v.ownBlock = some b → ¬ F b
def Sa {α : Type} [Elem α] (F : Nat → Prop) (w : World) (v : Value) (xs : List α) : Prop := Sl w v xs ∧ Av F v xs
section
variable {α : Type} [Elem α] {F G : Nat → Prop} {w w' : World} {v : Value} {xs : List α}
theorem Sa.sl (h : Sa F w v xs) : Sl w v xs := h.1
theorem Sl.block_lt (h : Sl w v xs) (hx : xs ≠ []) : ∀ b, v.ownBlock = some b → b < w.heap.size := by
  rcases h.low with h1 | h1
  · exact absurd h1 hx
  · exact h1
theorem Sl.off (h : Sl w v xs) (hv : Av F v xs) (o : Off F w w') : Sl w' v xs := by
  obtain ⟨h1, ao, c, rfl, h2, h3, h4, h5 | ⟨b, off, rfl, hb, hc⟩⟩ := h
  · exact ⟨h1, ao, c, rfl, h2, h3, h4, .inl h5⟩
  · refine ⟨h1, _, c, rfl, h2, h3, h4, .inr ⟨b, off, rfl, Nat.lt_of_lt_of_le hb o.size, fun j u hj => ?_⟩⟩
    rcases hv with hv | hv
    · subst hv
      simp [cellsOf] at hj
    · exact (World.cell?_of_block (w := w) (a := ⟨b, off + j, none⟩) (o.block b hb (hv b rfl))).trans (hc j u hj)
theorem Av.grow (h : Av F v xs) (hs : Sl w v xs) (g : Grows F G w) : Av G v xs := by
  by_cases hx : xs = []
  · exact .inl hx
  · refine .inr fun b hb hG => ?_
    have hl := hs.block_lt hx b hb
    rcases g b hG with h1 | h1
    · exact (h.resolve_left hx) b hb h1
    · omega
theorem Sa.off (h : Sa F w v xs) (o : Off F w w') (g : Grows F G w) : Sa G w' v xs := ⟨h.1.off h.2 o, h.2.grow h.1 g⟩
theorem Sa.new {B : Nat} (h : Ow w B v xs) (hF : ∀ k, F k → k < B) : Sa F w v xs := ⟨h.sl, .inr fun b hb hf => by have := (h.low b hb).1; have := hF b hf; omega⟩
end
theorem Sa.nil {α : Type} [Elem α] (F : Nat → Prop) (w : World) : Sa F w (.slice none 0 0) ([] : List α) := ⟨Sl.empty w none 0 (by decide) (fun _ => rfl), .inl rfl⟩
theorem off_set (W : World) (d : Addr) (u : Value) : Off (fun k => k = d.block) W (W.setCell d u) := ⟨rfl, rfl, rfl, by rw [set_size]; exact Nat.le_refl _, fun _ _ hn => set_other _ _ _ _ hn⟩
theorem Off.blk {F : Nat → Prop} {w w' : World} {g : Nat} {o : Obj} (h : Off F w w') (hb : w.heap[g]? = some o) (hf : ¬ F g) : w'.heap[g]? = some o := (h.block g (blk_lt hb) hf).trans hb
end Go.Proofs.YtfbambemjokmgaaGreat
namespace Go.Proofs.YtfbambemjokmgaaGreat
open Go.RowKit
section
variable {P : Program}
theorem run_storeVar_at (w : World) (g o : Nat) (t ty : TypeId) (old cs new : Array Value) (hg : w.heap[g]? = some (.cells old t (0, 0))) (hi : (P.info? ty).map (·.size) = some cs.size)
    (hl : o + cs.size ≤ old.size) (h1 : cs.toList.all (·.oneCell') = true) (hn : (old.toList.take o ++ cs.toList ++ old.toList.drop (o + cs.toList.length)).toArray = new) :
    (storeVar ty ⟨g, o, none⟩ (.agg cs)).run P w = .ok () (w.setRow g new) := by
  have := run_storeCells_at (P := P) g o t cs.toList 0 old w hg (by simpa using hl) (fun v hv => (List.all_eq_true.1 h1) v hv)
  rw [Nat.add_zero, hn] at this
  cases hq : P.info? ty with
  | none => simp [hq] at hi
  | some i =>
    have hs : cs.size = i.size := by simp [hq] at hi; omega
    simp [storeVar, sizeOf, typeInfo, hq, Value.cells, hs, this]
theorem wp_st {op : Oper} {a : Act} {w : World} {K : Act → World → Prop} {Q : Exit → Act → World → Prop} (ty : TypeId) (x y : Operand) (ho : op.op = .store ty x y) (g o : Nat) (t : TypeId) (old cs new : Array Value)
    (hx : a.eval x = .pointer (some ⟨g, o, none⟩)) (hy : a.eval y = .agg cs) (hg : w.heap[g]? = some (.cells old t (0, 0))) (hi : (P.info? ty).map (·.size) = some cs.size)
    (hl : o + cs.size ≤ old.size) (h1 : cs.toList.all (·.oneCell') = true) (hn : (old.toList.take o ++ cs.toList ++ old.toList.drop (o + cs.toList.length)).toArray = new)
    (h : ∀ W, W.heap[g]? = some (.cells new t (0, 0)) → Off (fun k => k = g) w W → K (a.put op.dst undef) W) : op.wp P a w K Q := by
  unfold Oper.wp execOp
  simp only [ho, hx, hy, Instr.storeAt, Instr.sureAddr, Sem.run_bind, Sem.run_pure, Result.andThen_ok, run_storeVar_at w g o t ty old cs new hg hi hl h1 hn]
  exact h _ (setRow_heap w g old new t (0, 0) hg) ⟨rfl, rfl, rfl, by rw [size_setRow]; exact Nat.le_refl _, fun k _ hk => setRow_other w g k new hk⟩
theorem st_l {ops : Array Oper} {rest : List Oper} {dst : Option Tmp} {tp : TypeId} {pos : String} {aft : Array Edge} {a : Act} {w : World} {Q : Exit → Act → World → Prop} (ty : TypeId) (x y : Operand) (g o : Nat) (t : TypeId) (old cs new : Array Value)
    (hx : a.eval x = .pointer (some ⟨g, o, none⟩)) (hy : a.eval y = .agg cs) (hg : w.heap[g]? = some (.cells old t (0, 0))) (hi : (P.info? ty).map (·.size) = some cs.size)
    (hl : o + cs.size ≤ old.size) (h1 : cs.toList.all (·.oneCell') = true) (hn : (old.toList.take o ++ cs.toList ++ old.toList.drop (o + cs.toList.length)).toArray = new)
    (h : ∀ W, W.heap[g]? = some (.cells new t (0, 0)) → Off (fun k => k = g) w W → wpList P ops Q rest (a.put dst undef) W) : wpList P ops Q (⟨dst, .store ty x y, tp, pos, aft, none⟩ :: rest) a w :=
  wpList_plain rfl fun _ hK => wp_st ty x y rfl g o t old cs new hx hy hg hi hl h1 hn (fun W h1 h2 => hK _ _ (h W h1 h2))
section
variable {fn : Func} {tmps : Array Value} {w : World} {t : Tmp} {ty tt : TypeId} {g : Nat} {cs : Array Value}
theorem res_c (h : fn.results = #[.cell t ty]) (ht : tmps.getD t undef = .pointer (some ⟨g, 0, none⟩)) (hg : w.heap[g]? = some (.cells cs tt (0, 0))) (hu : ∃ fs, P.underlying ty = some (.struct fs)) (hi : (P.info? ty).map (·.size) = some cs.size) :
    (results fn tmps).run P w = .ok (.agg cs) w := by
  obtain ⟨fs, hu⟩ := hu
  have ht2 : tmps[t]?.getD undef = .pointer (some ⟨g, 0, none⟩) := by simpa using ht
  simp [results, h, ht2, asAddr, run_loadVar_row w g tt ty cs (0, 0) _ hg hu rfl hi]
theorem res_ct (u : Tmp) (h : fn.results = #[.cell t ty, .tmp u]) (ht : tmps.getD t undef = .pointer (some ⟨g, 0, none⟩)) (hg : w.heap[g]? = some (.cells cs tt (0, 0))) (hu : ∃ fs, P.underlying ty = some (.struct fs)) (hi : (P.info? ty).map (·.size) = some cs.size) :
    (results fn tmps).run P w = .ok (.tuple #[.agg cs, tmps.getD u undef]) w := by
  obtain ⟨fs, hu⟩ := hu
  have ht2 : tmps[t]?.getD undef = .pointer (some ⟨g, 0, none⟩) := by simpa using ht
  simp [results, h, ht2, asAddr, run_loadVar_row w g tt ty cs (0, 0) _ hg hu rfl hi]
theorem res_ctt (u v : Tmp) (h : fn.results = #[.cell t ty, .tmp u, .tmp v]) (ht : tmps.getD t undef = .pointer (some ⟨g, 0, none⟩)) (hg : w.heap[g]? = some (.cells cs tt (0, 0))) (hu : ∃ fs, P.underlying ty = some (.struct fs)) (hi : (P.info? ty).map (·.size) = some cs.size) :
    (results fn tmps).run P w = .ok (.tuple #[.agg cs, tmps.getD u undef, tmps.getD v undef]) w := by
  obtain ⟨fs, hu⟩ := hu
  have ht2 : tmps[t]?.getD undef = .pointer (some ⟨g, 0, none⟩) := by simpa using ht
  simp [results, h, ht2, asAddr, run_loadVar_row w g tt ty cs (0, 0) _ hg hu rfl hi]
end
end
section
variable {P : Program} {ops : Array Oper} {rest : List Oper} {dst : Option Tmp} {tp : TypeId} {pos : String} {aft : Array Edge} {a : Act} {w : World} {Q : Exit → Act → World → Prop} {x y : Operand}
theorem haltst (ty : TypeId) (h : wpList P ops Q (⟨dst, .store ty x y, tp, pos, aft, none⟩ :: rest) a w ∨ False) : wpList P ops Q (⟨dst, .store ty x y, tp, pos, aft, none⟩ :: rest) a w := h.elim id False.elim
end
theorem at0 (w : World) (A : Obj) : (w.alloc A).heap[w.heap.size]? = some A := get_alloc_new w A
theorem at1 (w : World) (A B : Obj) : ((w.alloc A).alloc B).heap[w.heap.size + 1]? = some B := by
  have := get_alloc_new (w.alloc A) B
  rwa [size_alloc] at this
theorem at2 (w : World) (A B C : Obj) : (((w.alloc A).alloc B).alloc C).heap[w.heap.size + 2]? = some C := by
  have := at1 (w.alloc A) B C
  rwa [size_alloc] at this
theorem at3 (w : World) (A B C D : Obj) : ((((w.alloc A).alloc B).alloc C).alloc D).heap[w.heap.size + 3]? = some D := by
  have := at2 (w.alloc A) B C D
  rwa [size_alloc] at this
theorem old1 {w : World} {g : Nat} {o : Obj} (h : w.heap[g]? = some o) (A : Obj) : (w.alloc A).heap[g]? = some o := (get_alloc_old (blk_lt h)).trans h
theorem ext_off {w W W' : World} {F : Nat → Prop} (x : Ext w W) (o : Off F W W') (hF : ∀ k, F k → w.heap.size ≤ k) : Ext w W' := Below.trans x (o.below hF x.size)
end Go.Proofs.YtfbambemjokmgaaGreat
namespace Go.Proofs.YtfbambemjokmgaaGreat
open Go.RowKit
theorem two_graphs (w : World) (N : Int) (v : Value) (W : World) (h : Ext ((w.alloc (.cells #[.int .i64 N, v] 53)).alloc (.cells #[.int .i64 0, .slice none 0 0] 53)) W) :
    (W.cell? ⟨w.heap.size, 0, none⟩ = some (.int .i64 N) ∧ W.cell? ⟨w.heap.size, 1, none⟩ = some v) ∧ (W.cell? ⟨w.heap.size + 1, 0, none⟩ = some (.int .i64 0) ∧ W.cell? ⟨w.heap.size + 1, 1, none⟩ = some (.slice none 0 0)) ∧
    W.frozen? ⟨w.heap.size + 1, 0, none⟩ = false ∧ W.frozen? ⟨w.heap.size + 1, 1, none⟩ = false := by
  obtain ⟨hA, hB⟩ := box2 (h.mono (by rw [size_alloc, size_alloc]; omega))
  exact ⟨⟨blk_cell hA 0 rfl, blk_cell hA 1 rfl⟩, ⟨blk_cell hB 0 rfl, blk_cell hB 1 rfl⟩, blk_free hB 0, blk_free hB 1⟩
theorem ext_two (w : World) (A B : Obj) : Ext w ((w.alloc A).alloc B) := ((Ext.refl w).alloc _).alloc _
theorem low_two {w W : World} {A B : Obj} (h : Ext ((w.alloc A).alloc B) W) : Below (w.heap.size + 1) (w.alloc A) W :=
  Below.trans (below_alloc_at (Below.refl _ _) (by rw [size_alloc]; omega) B) (h.mono (by rw [size_alloc, size_alloc]; omega))
theorem one_graph (w : World) (N : Int) (v : Value) (W : World) (h : Below (w.heap.size + 1) (w.alloc (.cells #[.int .i64 N, v] 53)) W) : W.cell? ⟨w.heap.size, 0, none⟩ = some (.int .i64 N) ∧ W.cell? ⟨w.heap.size, 1, none⟩ = some v := by
  have hA := box1 h
  exact ⟨blk_cell hA 0 rfl, blk_cell hA 1 rfl⟩
end Go.Proofs.YtfbambemjokmgaaGreat
namespace Go.Proofs.YtfbambemjokmgaaGreat
open Go.RowKit
theorem blk_alloc {W : World} {g : Nat} {O : Obj} (h : W.heap[g]? = some O) (o : Obj) : (W.alloc o).heap[g]? = some O := (get_alloc_old (blk_lt h)).trans h
theorem wrapN (x : Int) (h1 : -9223372036854775808 ≤ x) (h2 : x ≤ 9223372036854775807) : IntKind.i64.wrap x = x := by
  simp [IntKind.wrap, IntKind.bits, IntKind.signed]; omega
end Go.Proofs.YtfbambemjokmgaaGreat
namespace Go.Proofs.YtfbambemjokmgaaGreat
open Go.RowKit
class Nest (α : Type) [Elem α] (δ : outParam Type) where
  rd : (Nat → Prop) → World → α → δ → Prop
  off : ∀ {F G : Nat → Prop} {w w' : World} {x : α} {d : δ}, rd F w x d → Off F w w' → Grows F G w → rd G w' x d
def Ns (α : Type) {δ : Type} [Elem α] [Nest α δ] (F : Nat → Prop) (w : World) (v : Value) (L : List δ) : Prop :=
  ∃ xs : List α, Sa F w v xs ∧ xs.length = L.length ∧ ∀ (j : Nat) (x : α) (d : δ), xs[j]? = some x → L[j]? = some d → Nest.rd F w x d
section
variable {α δ : Type} [Elem α] [Nest α δ] {F G : Nat → Prop} {w w' : World} {v : Value} {L : List δ}
theorem Nest.ext {x : α} {d : δ} (h : Nest.rd F w x d) (e : Ext w w') : Nest.rd F w' x d := Nest.off h (Off.of_ext e) (Grows.refl _ _)
theorem Nest.grow {x : α} {d : δ} (h : Nest.rd F w x d) (g : Grows F G w) : Nest.rd G w x d := Nest.off h (Off.refl _ _) g
theorem Ns.off (h : Ns α F w v L) (o : Off F w w') (g : Grows F G w) : Ns α G w' v L := by
  obtain ⟨xs, h1, h2, h3⟩ := h
  exact ⟨xs, h1.off o g, h2, fun j x d hx hd => Nest.off (h3 j x d hx hd) o g⟩
theorem Ns.ext (h : Ns α F w v L) (e : Ext w w') : Ns α F w' v L := h.off (Off.of_ext e) (Grows.refl _ _)
theorem Ns.len (h : Ns α F w v L) : ∃ ao c, v = .slice ao L.length c := by
  obtain ⟨xs, h1, h2, _⟩ := h
  obtain ⟨ao, c, hv⟩ := h1.sl.len
  exact ⟨ao, c, by rw [hv, h2]⟩
theorem Ns.length_le (h : Ns α F w v L) : L.length ≤ 9223372036854775807 := by
  obtain ⟨xs, h1, h2, _⟩ := h
  rw [← h2]
  exact h1.sl.length_le
theorem Ns.nil (F : Nat → Prop) (w : World) : Ns α F w (.slice none 0 0) ([] : List δ) := ⟨[], Sa.nil F w, rfl, fun j x d hx => by simp at hx⟩
theorem Ns.at {ao : Option Addr} {n c : Nat} (h : Ns α F w (.slice ao n c) L) {j : Nat} (hj : j < L.length) :
    ∃ b off, ∃ x : α, ∃ d, L[j]? = some d ∧ ao = some ⟨b, off, none⟩ ∧ n = L.length ∧ n ≤ c ∧ c ≤ 9223372036854775807 ∧ b < w.heap.size ∧ (∀ i u, (Elem.enc x)[i]? = some u → w.cell? ⟨b, off + (j * Elem.k α + i), none⟩ = some u) ∧ Nest.rd F w x d := by
  obtain ⟨xs, h1, h2, h3⟩ := h
  have hjx : j < xs.length := by omega
  rcases h1.sl.parts with ⟨rfl, _⟩ | ⟨b, off, c', hv, g1, g2, g3, _, g4⟩
  · simp at hjx
  · simp only [Value.slice.injEq] at hv
    obtain ⟨rfl, rfl, rfl⟩ := hv
    refine ⟨b, off, xs[j], L[j], List.getElem?_eq_getElem hj, rfl, h2, g1, g2, g3, fun i u hu => g4 j _ (List.getElem?_eq_getElem hjx) i u hu, ?_⟩
    exact h3 j _ _ (List.getElem?_eq_getElem hjx) (List.getElem?_eq_getElem hj)
def Own1 (F : Nat → Prop) (v : Value) : Nat → Prop := fun k => F k ∨ v.ownBlock = some k
structure Nw (α : Type) {δ : Type} [Elem α] [Nest α δ] (F : Nat → Prop) (w : World) (B : Nat) (v : Value) (L : List δ) : Prop where
  any : ∃ xs : List α, Ow w B v xs ∧ xs.length = L.length ∧ ∀ (j : Nat) (x : α) (d : δ), xs[j]? = some x → L[j]? = some d → Nest.rd (Own1 F v) w x d
theorem Nw.nil (F : Nat → Prop) (w : World) (B : Nat) : Nw α F w B (.slice none 0 0) ([] : List δ) := ⟨[], Ow.nil _ _, rfl, fun j x d hx => by simp at hx⟩
theorem Nw.lit (F : Nat → Prop) (w : World) (B n : Nat) (hn : n = w.heap.size) (hB : B ≤ w.heap.size) : Nw α F (w.alloc (.cells (cellsOf ([] : List α)).toArray (Elem.e α))) B (.slice (some ⟨n, 0, none⟩) 0 0) ([] : List δ) :=
  ⟨[], Ow.litAt w B n hn hB [] (by simp), rfl, fun j x d hx => by simp at hx⟩
theorem Nw.ext {B : Nat} (h : Nw α F w B v L) (e : Ext w w') : Nw α F w' B v L := by
  obtain ⟨xs, h1, h2, h3⟩ := h.any
  exact ⟨xs, h1.ext e, h2, fun j x d hx hd => Nest.ext (h3 j x d hx hd) e⟩
theorem Nw.sh {B : Nat} (h : Nw α F w B v L) : ∃ ao n c, v = .slice ao n c := by
  obtain ⟨xs, h1, _⟩ := h.any
  exact h1.sh
theorem Nw.mono {B B' : Nat} (h : Nw α F w B v L) (hB : B' ≤ B) : Nw α F w B' v L := by
  obtain ⟨xs, h1, h2, h3⟩ := h.any
  exact ⟨xs, h1.mono hB, h2, h3⟩
theorem Nw.set {B : Nat} (h : Nw α F w B v L) {d : Addr} (hF : F d.block) (hd : d.block < B) (u : Value) : Nw α F (w.setCell d u) B v L := by
  obtain ⟨xs, h1, h2, h3⟩ := h.any
  exact ⟨xs, h1.set hd u, h2, fun j x e hx he => Nest.off (h3 j x e hx he) ((off_set w d u).mono fun k hk => .inl (by rw [hk]; exact hF)) (Grows.refl _ _)⟩
theorem Nw.len {B : Nat} (h : Nw α F w B v L) : ∃ ao c, v = .slice ao L.length c := by
  obtain ⟨xs, h1, h2, _⟩ := h.any
  obtain ⟨ao, c, hv⟩ := h1.sl.len
  exact ⟨ao, c, by rw [hv, h2]⟩
theorem off_grown {row : Option Nat} (h : w.grownBy w' row) : Off (fun k => row = some k) w w' :=
  ⟨h.os, h.tape, h.output, h.size, fun k hk hn => h.block k hk (fun e => hn e.symm)⟩
theorem Nw.ns {B : Nat} (h : Nw α F w B v L) (hG : ∀ k, G k → F k) (hB : ∀ k, G k → k < B) : Ns α G w v L := by
  obtain ⟨xs, h1, h2, h3⟩ := h.any
  exact ⟨xs, Sa.new h1 hB, h2, fun j x d hx hd => Nest.grow (h3 j x d hx hd) fun k hk => .inl (.inl (hG k hk))⟩
theorem Nw.step {B : Nat} {v2 : Value} {W : World} {xs : List α} {x : α} {d : δ} (h2 : xs.length = L.length) (h3 : ∀ (j : Nat) (x : α) (d : δ), xs[j]? = some x → L[j]? = some d → Nest.rd (Own1 F v) w x d)
    (hx : Nest.rd (Own1 F v) w x d) (ho : Ow W B v2 (xs ++ [x])) (ha : Apd B v v2 w W) : Nw α F W B v2 (L ++ [d]) := by
  have o : Off (Own1 F v) w W := (off_grown ha.grown).mono fun k hk => .inr hk
  have g : Grows (Own1 F v) (Own1 F v2) w := fun k hk => by
    rcases hk with hk | hk
    · exact .inl (.inl hk)
    · rcases ha.block with hb | hb
      · exact .inl (.inr (by rw [← hb]; exact hk))
      · exact .inr (hb k hk)
  refine ⟨xs ++ [x], ho, by simp [h2], fun j y e hy he => ?_⟩
  rcases Nat.lt_or_ge j xs.length with hj | hj
  · rw [List.getElem?_append_left hj] at hy
    rw [List.getElem?_append_left (by omega)] at he
    exact Nest.off (h3 j y e hy he) o g
  · rw [List.getElem?_append_right hj] at hy
    have hj2 : j = xs.length := by
      have := (List.getElem?_eq_some_iff.1 hy).1
      simp at this
      omega
    subst hj2
    rw [List.getElem?_append_right (by omega), h2, Nat.sub_self] at he
    rw [Nat.sub_self] at hy
    simp only [List.getElem?_cons_zero, Option.some.injEq] at hy he
    subst hy he
    exact Nest.off hx o g
end
end Go.Proofs.YtfbambemjokmgaaGreat
namespace Go.Proofs.YtfbambemjokmgaaGreat
open Go.RowKit
theorem keepM {w W : World} {g : Nat} {o : Obj} (h : w.heap[g]? = some o) (e : Ext w W) : W.heap[g]? = some o := (e.block _ (blk_lt h)).trans h
end Go.Proofs.YtfbambemjokmgaaGreat
namespace Go.Proofs.YtfbambemjokmgaaGreat
open Go.RowKit
def pc (a : Act) : List (Nat × Value) → Act
  | [] => a
  | (d, v) :: l => (pc a l).put (some d) v
termination_by l => l.length
def lk (n : Nat) (a : Act) (j : Nat) : List (Nat × Value) → Value
  | [] => a.eval (.tmp j)
  | (d, v) :: l => if d = j ∧ d < n then v else lk n a j l
termination_by l => l.length
section
variable {P : Program} {ops : Array Oper} {w : World} {Q : Act → Prop}
end
end Go.Proofs.YtfbambemjokmgaaGreat
