/- Slices in memory: what a slice reads as (Rd, Sl), what a call's own slice holds (Ow), and append over them. -/
import Derived.Test.YtfhddgejedhfpaaChecked
import Derived.WalkKit
import Derived.WalkSpells
import Derived.WalkLawsBesides
import Derived.Laws.AppendOwnNone
import Derived.Deep.QuietTactic
import Derived.BigQuiet
import Derived.Lib.Hide
import Derived.Test.YtfhddgejedhfpaaMath
namespace Go.Proofs.Ytfhddgejedhfpaa
open Go.RowKit

/-- The slice value v reads as the cells L, n elements of k cells each. -/
def Rd (w : World) (k : Nat) (v : Value) (n : Nat) (L : List Value) : Prop :=
  L.length = n * k ∧ ∃ ao c, v = .slice ao n c ∧ n ≤ c ∧ c ≤ maxLen ∧ (ao = none → c = 0) ∧
    (n = 0 ∨ ∃ b off, ao = some ⟨b, off, none⟩ ∧ b < w.heap.size ∧ ∀ j u, L[j]? = some u → w.cell? ⟨b, off + j, none⟩ = some u)

theorem Rd.below {w w' : World} {k : Nat} {v : Value} {n : Nat} {L : List Value} (h : Rd w k v n L) {B : Nat} (hb : Below B w w') (hB : w.heap.size ≤ B) : Rd w' k v n L := by
  obtain ⟨h1, ao, c, hv, h2, h3, h4, h5⟩ := h
  refine ⟨h1, ao, c, hv, h2, h3, h4, ?_⟩
  rcases h5 with h5 | ⟨b, off, ha, hbl, hc⟩
  · exact .inl h5
  · exact .inr ⟨b, off, ha, by have := hb.size; omega, fun j u hj => (hb.cell (p := ⟨b, off + j, none⟩) (by show b < B; omega)).trans (hc j u hj)⟩

theorem Rd.of_own {w : World} {B e k : Nat} {v : Value} {n : Nat} {L : List Value} (h : w.ownsRow B e k v n L) : Rd w k v n L := by
  refine ⟨h.1, ?_⟩
  rcases h.2 with ⟨rfl, rfl⟩ | ⟨g, cap, cur, rfl, hg, hh, h1, h2, h3, h4⟩
  · exact ⟨none, 0, rfl, Nat.le_refl _, by unfold maxLen; omega, fun _ => rfl, .inl rfl⟩
  · refine ⟨some ⟨g, 0, none⟩, cap, rfl, h1, h2, by simp, .inr ⟨g, 0, rfl, (Array.getElem?_eq_some_iff.1 hh).1, fun j u hj => ?_⟩⟩
    have hjl : j < n * k := by rw [← h.1]; exact (List.getElem?_eq_some_iff.1 hj).1
    rw [Nat.zero_add, h.cellAt j hjl, hj]

/-- Append of what a slice reads as onto a slice of the call's own. -/
theorem wp_append_rd {P : Program} {w : World} {o : Oper} {a : Act} {K : Act → World → Prop} {Q : Exit → Act → World → Prop} (s x : Operand) (t : TypeId)
    (ho : o.op = .call { callee := .builtin .append, args := #[s, x], argTypes := #[t, t] })
    (base : Nat) (e : TypeId) (i : TypeInfo) (z : Value) (size bytes : Nat) (ht : P.underlying t = some (.slice e)) (hi : P.info? e = some i) (hz : i.zero = some z)
    (hsize : i.size = size) (hby : i.bytes = bytes) (hzs : z.cells.size = size) (hsz : 0 < size)
    (v : Value) (n : Nat) (xs : List Value) (hs : a.eval s = v) (hown : w.ownsRow base e size v n xs)
    (vx : Value) (m : Nat) (news : List Value) (hx : a.eval x = vx) (hrd : Rd w size vx m news) (h1 : ∀ u ∈ news, u.oneCell' = true)
    (h63 : n + m ≤ maxLen) (hbytes : (n + m) * bytes ≤ 140737488355328) (hbase : base ≤ w.heap.size)
    (h : ∀ v' w', w'.ownsRow base e size v' (n + m) (xs ++ news) → w.grownBy w' v.ownBlock → Below base w w' → (v ≠ .slice none 0 0 → v' ≠ .slice none 0 0) → K (a.put o.dst v') w') : o.wp P a w K Q := by
  obtain ⟨hl, ao, c, rfl, hmc, hc63, hnone, hcells⟩ := hrd
  have hlt := hown.lt
  cases ao with
  | none =>
    have hc0 := hnone rfl
    subst hc0
    obtain rfl : m = 0 := by omega
    obtain rfl : news = [] := List.eq_nil_of_length_eq_zero (by simpa using hl)
    have hrun := run_append_owned_none (P := P) (w := w) base t o.type e i size ht hi v n xs hown
    unfold Oper.wp
    simp [execOp, ho, resolve, invoke, builtin, hs, hx, hrun, Result.andThen]
    exact h v w (by simpa using hown) ⟨rfl, rfl, rfl, Nat.le_refl _, fun _ _ _ => rfl⟩ (Below.refl _ _) (fun h => h)
  | some ad =>
    have hnews : ∀ j u, news[j]? = some u → w.cell? (ad.add j) = some u := by
      intro j u hj
      rcases hcells with h0 | ⟨b, off, ha, _, hc⟩
      · subst h0
        have : news = [] := List.eq_nil_of_length_eq_zero (by simpa using hl)
        subst this
        simp at hj
      · cases ha
        have := hc j u hj
        unfold Addr.add
        split
        · next hj0 => subst hj0; simpa using this
        · exact this
    exact wp_append_own w s x t ho base e i z size bytes ht hi hz hsize hby hzs hsz v n xs hs hown ad m c news hx hl hnews h1 h63 hbytes hbase
      fun v' w' g1 g2 g3 => h v' w' g1 g2 ((Below.refl _ _).grown g2 hbase fun k hk => (hlt k hk).1) (fun hv hv' => hv (g3.1 hv').1)

theorem Rd.grown {w w' : World} {k : Nat} {v : Value} {n : Nat} {L : List Value} (h : Rd w k v n L) {row : Option Nat} (hg : w.grownBy w' row) (hne : v.ownBlock ≠ row ∨ row = none) : Rd w' k v n L := by
  obtain ⟨h1, ao, c, rfl, h2, h3, h4, h5⟩ := h
  refine ⟨h1, ao, c, rfl, h2, h3, h4, ?_⟩
  rcases h5 with h5 | ⟨b, off, rfl, hbl, hc⟩
  · exact .inl h5
  · refine .inr ⟨b, off, rfl, Nat.lt_of_lt_of_le hbl hg.size, fun j u hj => ?_⟩
    refine (World.cell?_of_block (w := w) (a := ⟨b, off + j, none⟩) (hg.block b hbl ?_)).trans (hc j u hj)
    rcases hne with hne | rfl
    · exact hne
    · simp

/-- The slice of ints v reads as xs. -/
def Sl (w : World) (v : Value) (xs : List Int) : Prop := Rd w 1 v xs.length (xs.map (Value.int .i64))

/-- The slice of ints v is the call's own (its block's number is at least B) and reads as xs. -/
def Ow (w : World) (B : Nat) (v : Value) (xs : List Int) : Prop := w.ownsRow B 3 1 v xs.length (xs.map (Value.int .i64))

theorem Sl.below {w w' : World} {v : Value} {xs : List Int} (h : Sl w v xs) {B : Nat} (hb : Below B w w') (hB : w.heap.size ≤ B) : Sl w' v xs := Rd.below h hb hB
theorem Ow.sl {w : World} {B : Nat} {v : Value} {xs : List Int} (h : Ow w B v xs) : Sl w v xs := Rd.of_own h

theorem Sl.drewN {w : World} {v : Value} {xs : List Int} (h : Sl w v xs) (q : Nat) : Sl (w.drewN q) v xs := h

theorem Sl.parts {w : World} {v : Value} {xs : List Int} (h : Sl w v xs) :
    (xs = [] ∧ ∃ ao c, v = .slice ao 0 c) ∨
    (∃ b off c, v = .slice (some ⟨b, off, none⟩) xs.length c ∧ xs.length ≤ c ∧ c ≤ 9223372036854775807 ∧ b < w.heap.size ∧ 0 < xs.length ∧ ∀ j, j < xs.length → w.cell? ⟨b, off + j, none⟩ = some (.int .i64 (xs.getD j 0))) := by
  obtain ⟨_, ao, c, rfl, hc, hc63, _, h0 | ⟨b, off, rfl, hb, hcell⟩⟩ := h
  · have hx : xs = [] := List.eq_nil_of_length_eq_zero h0
    subst hx
    exact .inl ⟨rfl, ao, c, rfl⟩
  · by_cases hx : xs = []
    · subst hx; exact .inl ⟨rfl, _, _, rfl⟩
    · have hpos : 0 < xs.length := List.length_pos_iff.2 hx
      exact .inr ⟨b, off, c, rfl, hc, by simpa only [maxLen] using hc63, hb, hpos, fun j hj => hcell j _ (by simp [hj])⟩

theorem Sl.length_le {w : World} {v : Value} {xs : List Int} (h : Sl w v xs) : xs.length ≤ 9223372036854775807 := by
  obtain ⟨_, ao, c, rfl, hc, hc63, _⟩ := h
  have : c ≤ 9223372036854775807 := by simpa only [maxLen] using hc63
  omega

theorem Sl.len {w : World} {v : Value} {xs : List Int} (h : Sl w v xs) : ∃ ao c, v = .slice ao xs.length c := by
  obtain ⟨_, ao, c, rfl, _⟩ := h
  exact ⟨ao, c, rfl⟩

/-- A part of what it reads as, cut out: from i to j. -/
theorem Sl.cut {w : World} {b off c : Nat} {xs : List Int} (hb : b < w.heap.size) (hcell : ∀ j, j < xs.length → w.cell? ⟨b, off + j, none⟩ = some (.int .i64 (xs.getD j 0)))
    (i n : Nat) (hin : i + n ≤ xs.length) (hc : n ≤ c) (hc63 : c ≤ 9223372036854775807) : Sl w (.slice (some ⟨b, off + i, none⟩) n c) ((xs.drop i).take n) := by
  have hl : ((xs.drop i).take n).length = n := by simp; omega
  refine ⟨by simp, some ⟨b, off + i, none⟩, c, by rw [hl], by rw [hl]; exact hc, by simpa only [maxLen] using hc63, by simp, .inr ⟨b, off + i, rfl, hb, fun j u hj => ?_⟩⟩
  rw [List.getElem?_map, List.getElem?_take] at hj
  by_cases hjn : j < n
  · rw [if_pos hjn, List.getElem?_drop, List.getElem?_eq_getElem (by omega)] at hj
    have := hcell (i + j) (by omega)
    rw [show off + i + j = off + (i + j) from by omega, this]
    simp only [Option.map_some, Option.some.injEq] at hj
    rw [← hj]
    simp [show i + j < xs.length by omega]
  · rw [if_neg hjn] at hj
    simp at hj

theorem Sl.one (w : World) (x : Int) : Sl (w.alloc (.cells #[.int .i64 x] 3)) (.slice (some ⟨w.heap.size, 0, none⟩) 1 1) [x] :=
  Rd.of_own (B := w.heap.size) (World.ownsRow_lit w #[.int .i64 x] 1 (Nat.le_refl _) (by decide) rfl)

theorem Ow.empty (w : World) (B : Nat) (hB : B ≤ w.heap.size) : Ow (w.alloc (.cells #[] 3)) B (.slice (some ⟨w.heap.size, 0, none⟩) 0 0) [] :=
  World.ownsRow_lit w #[] 0 hB (by decide) rfl

theorem Ow.lit (w : World) (B : Nat) (hB : B ≤ w.heap.size) (xs : List Int) (h : xs.length ≤ 1000000) : Ow (w.alloc (.cells (xs.map (Value.int .i64)).toArray 3)) B (.slice (some ⟨w.heap.size, 0, none⟩) xs.length xs.length) xs := by
  have := World.ownsRow_lit (e := 3) (size := 1) w (xs.map (Value.int .i64)).toArray xs.length hB (by unfold maxLen; omega) (by simp)
  simpa [Ow] using this

theorem Ow.nilRow (w : World) (B : Nat) : Ow w B (.slice none 0 0) [] := World.ownsRow_nil _ _ _ _
theorem Ow.mono {w : World} {B B' : Nat} {v : Value} {xs : List Int} (h : Ow w B v xs) (hB : B' ≤ B) : Ow w B' v xs := by
  refine ⟨h.1, ?_⟩
  rcases h.2 with hn | ⟨g, cap, cur, hv, hg, r⟩
  · exact .inl hn
  · exact .inr ⟨g, cap, cur, hv, by omega, r⟩
theorem Ow.below {w w' : World} {B : Nat} {v : Value} {xs : List Int} (h : Ow w B v xs) {B' : Nat} (hb : Below B' w w') (hB : w.heap.size ≤ B') : Ow w' B v xs := by
  refine ⟨h.1, ?_⟩
  rcases h.2 with hn | ⟨g, cap, cur, hv, hg, hh, r⟩
  · exact .inl hn
  · have hgl := (Array.getElem?_eq_some_iff.1 hh).1
    exact .inr ⟨g, cap, cur, hv, hg, by rw [hb.block g (by omega)]; exact hh, r⟩
theorem Ow.drewN {w : World} {B : Nat} {v : Value} {xs : List Int} (h : Ow w B v xs) (q : Nat) : Ow (w.drewN q) B v xs := h
theorem Ow.alloc {w : World} {B : Nat} {v : Value} {xs : List Int} (h : Ow w B v xs) (o : Obj) : Ow (w.alloc o) B v xs := World.ownsRow.alloc h o

theorem Try.info3 : (Try.prog.info? 3).map (fun i => (i.zero, i.size, i.bytes)) = some (some (.int .i64 0), 1, 8) := by kernel_rfl

/-- Append of ints. -/
theorem wp_append_sl {w : World} {o : Oper} {a : Act} {K : Act → World → Prop} {Q : Exit → Act → World → Prop} (s x : Operand)
    (ho : o.op = .call { callee := .builtin .append, args := #[s, x], argTypes := #[22, 22] })
    (B : Nat) (v : Value) (ys : List Int) (hs : a.eval s = v) (hown : Ow w B v ys)
    (vx : Value) (zs : List Int) (hx : a.eval x = vx) (hrd : Sl w vx zs)
    (hbytes : ys.length + zs.length ≤ 17592186044416) (hbase : B ≤ w.heap.size)
    (h : ∀ v' w', Ow w' B v' (ys ++ zs) → w.grownBy w' v.ownBlock → Below B w w' → (v ≠ .slice none 0 0 → v' ≠ .slice none 0 0) → K (a.put o.dst v') w') : o.wp Try.prog a w K Q := by
  obtain ⟨i0, hi, hz0, hz1, hz2⟩ := info_parts Try.info3
  refine wp_append_rd s x 22 ho B 3 i0 (.int .i64 0) 1 8 Try.underlying22 hi hz0 hz1 hz2 rfl (by decide) v ys.length _ hs hown vx zs.length _ hx hrd
    (fun u hu => by obtain ⟨x, _, rfl⟩ := List.mem_map.1 hu; rfl) (by unfold maxLen; omega) (by omega) hbase fun v' w' h1 h2 h3 h4 => h v' w' ?_ h2 h3 h4
  unfold Ow
  rw [List.length_append, List.map_append]
  exact h1

theorem wpList_append_sl {w : World} {ops : Array Oper} {rest : List Oper} {o : Oper} {a : Act} {Q : Exit → Act → World → Prop} (hgd : o.guard = none) (s x : Operand)
    (ho : o.op = .call { callee := .builtin .append, args := #[s, x], argTypes := #[22, 22] })
    (B : Nat) (v : Value) (ys : List Int) (hs : a.eval s = v) (hown : Ow w B v ys)
    (vx : Value) (zs : List Int) (hx : a.eval x = vx) (hrd : Sl w vx zs)
    (hbytes : ys.length + zs.length ≤ 17592186044416) (hbase : B ≤ w.heap.size)
    (h : ∀ v' w', Ow w' B v' (ys ++ zs) → w.grownBy w' v.ownBlock → Below B w w' → (v ≠ .slice none 0 0 → v' ≠ .slice none 0 0) → wpList Try.prog ops Q rest (a.put o.dst v') w') : wpList Try.prog ops Q (o :: rest) a w :=
  wpList_plain hgd fun _ hK => wp_append_sl s x ho B v ys hs hown vx zs hx hrd hbytes hbase fun v' w' h1 h2 h3 h4 => hK _ _ (h v' w' h1 h2 h3 h4)

/-- .. as one step of a region that draws. -/
theorem step_append_sl {w : World} {ops : Array Oper} {o : Oper} {a : Act} {K : Act → World → Prop} {Q : Exit → Act → World → Prop} {E : Prop} (hgd : o.guard = none) (s x : Operand)
    (ho : o.op = .call { callee := .builtin .append, args := #[s, x], argTypes := #[22, 22] })
    (B : Nat) (v : Value) (ys : List Int) (hs : a.eval s = v) (hown : Ow w B v ys)
    (vx : Value) (zs : List Int) (hx : a.eval x = vx) (hrd : Sl w vx zs)
    (hbytes : ys.length + zs.length ≤ 17592186044416) (hbase : B ≤ w.heap.size)
    (h : ∀ v' w', Ow w' B v' (ys ++ zs) → w.grownBy w' v.ownBlock → Below B w w' → (v ≠ .slice none 0 0 → v' ≠ .slice none 0 0) → K (a.put o.dst v') w') :
    if Region.wanted o (yielded ops a.tmps) = true then Oper.wp Try.prog o a w K Q else E := by
  have hw : Region.wanted o (yielded ops a.tmps) = true := by simp [Region.wanted, hgd]
  rw [if_pos hw]
  exact wp_append_sl s x ho B v ys hs hown vx zs hx hrd hbytes hbase h

/-- A slice of the call's own that isn't nil. -/
theorem Ow.shape {w : World} {B : Nat} {v : Value} {xs : List Int} (h : Ow w B v xs) (hn : v ≠ .slice none 0 0) :
    ∃ g cap, v = .slice (some ⟨g, 0, none⟩) xs.length cap ∧ B ≤ g ∧ g < w.heap.size ∧ xs.length ≤ cap ∧ cap ≤ 9223372036854775807 ∧ ∀ j, j < xs.length → w.cell? ⟨g, 0 + j, none⟩ = some (.int .i64 (xs.getD j 0)) := by
  rcases h.2 with ⟨hv, _⟩ | ⟨g, cap, cur, rfl, hg, hh, h1, h2, h3, h4⟩
  · exact absurd hv hn
  · refine ⟨g, cap, rfl, hg, (Array.getElem?_eq_some_iff.1 hh).1, h1, by simpa only [maxLen] using h2, fun j hj => ?_⟩
    rw [Nat.zero_add, World.ownsRow.cellAt h j (by omega)]
    simp [hj]

theorem Sl.grown {w w' : World} {v : Value} {xs : List Int} (h : Sl w v xs) {row : Option Nat} (hg : w.grownBy w' row) (hne : v.ownBlock ≠ row ∨ row = none) : Sl w' v xs := Rd.grown h hg hne
theorem Sl.drew {w : World} {v : Value} {xs : List Int} (h : Sl w v xs) : Sl w.drew v xs := h
theorem Ow.drew {w : World} {B : Nat} {v : Value} {xs : List Int} (h : Ow w B v xs) : Ow w.drew B v xs := h
theorem Sl.alloc {w : World} {v : Value} {xs : List Int} (h : Sl w v xs) (o : Obj) : Sl (w.alloc o) v xs := h.grown (World.grownBy_alloc w o none) (.inr rfl)
theorem Sl.oneAt (w : World) (x : Int) (n : Nat) (h : n = w.heap.size) : Sl (w.alloc (.cells #[.int .i64 x] 3)) (.slice (some ⟨n, 0, none⟩) 1 1) [x] := h ▸ Sl.one w x
theorem Ow.emptyAt (w : World) (B n : Nat) (hB : B ≤ w.heap.size) (h : n = w.heap.size) : Ow (w.alloc (.cells #[] 3)) B (.slice (some ⟨n, 0, none⟩) 0 0) [] := h ▸ Ow.empty w B hB

theorem below_drewN {B : Nat} {a w : World} (h : Below B a w) (q : Nat) : Below B a (w.drewN q) := ⟨h.os, h.tape, h.output, h.size, h.block⟩

/-- A new slice of the call's own that reads as ys; all that was there is as it was. -/
def GivesOw (w : World) (ys : List Int) (e : Ending) (w' : World) : Prop := ∃ v, e = .returned v ∧ Ow w' w.heap.size v ys ∧ Below w.heap.size w w'
/-- It answers v; it may draw; nothing else changes. -/
def Quiet (w : World) (v : Value) (e : Ending) (w' : World) : Prop := e = .returned v ∧ ∃ q, w' = w.drewN q
/-- It answers v; all that was there is as it was. -/
def GivesB (w : World) (v : Value) (e : Ending) (w' : World) : Prop := e = .returned v ∧ Below w.heap.size w w'

end Go.Proofs.Ytfhddgejedhfpaa
