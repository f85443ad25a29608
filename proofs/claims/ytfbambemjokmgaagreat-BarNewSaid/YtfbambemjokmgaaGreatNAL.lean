/- Texts of this seat. -/
import Derived.Test.YtfbambemjokmgaaGreatNAI
import Derived.Test.YtfbambemjokmgaaGreatNAK
namespace Go.Proofs.YtfbambemjokmgaaGreat
open Go.RowKit
instance : Elem Arc where
  e := 117
  t := 70
  k := 2
  bytes := 16
  z := .agg #[.int .i64 0, .int .i64 0]
  enc := fun x => [.int .i64 x.a, .int .i64 x.b]
  dflt := ⟨0, 0⟩
  len := fun _ => rfl
  pos := by decide
  one := fun x u hu => by simp at hu; rcases hu with rfl | rfl <;> rfl
  row := by kernel_rfl
  info := by kernel_rfl
  zsize := rfl
  few := by decide
theorem Sl.arcs {w : World} {v : Value} {xs : List Arc} (h : Sl w v xs) :
    (xs = [] ∧ ∃ ao c, v = .slice ao 0 c) ∨
    (∃ b off c, v = .slice (some ⟨b, off, none⟩) xs.length c ∧ xs.length ≤ c ∧ c ≤ 9223372036854775807 ∧ b < w.heap.size ∧ 0 < xs.length ∧
      ∀ j, j < xs.length → w.cell? ⟨b, off + j * 2, none⟩ = some (.int .i64 (xs.getD j ⟨0, 0⟩).a) ∧ w.cell? ⟨b, off + j * 2 + 1, none⟩ = some (.int .i64 (xs.getD j ⟨0, 0⟩).b)) := by
  rcases h.parts with h | ⟨b, off, c, h1, h2, h3, h4, h5, h6⟩
  · exact .inl h
  · refine .inr ⟨b, off, c, h1, h2, h3, h4, h5, fun j hj => ?_⟩
    have e : xs[j]? = some (xs.getD j ⟨0, 0⟩) := by simp [hj]
    exact ⟨h6 j _ e 0 _ rfl, by have := h6 j _ e 1 _ rfl; rwa [show off + (j * Elem.k Arc + 1) = off + j * 2 + 1 from by show off + (j * 2 + 1) = _; omega] at this⟩
end Go.Proofs.YtfbambemjokmgaaGreat
namespace Go.Proofs.YtfbambemjokmgaaGreat
open Go.RowKit
def arc2 (m : List Ml) (a b : Dn) : List Arc :=
  let x := sideR a.sides b.id
  let y := sideR b.sides a.id
  if (x.2 && y.2 && decide (x.1.epoch = y.1.epoch)) = true then
    (let n := firstI x.1.fork x.1.dirty y.1.fork y.1.dirty (goesB m b.id a.id x.1.epoch) (goesB m a.id b.id x.1.epoch)
     if n = 1 then [⟨a.id, b.id⟩] else if n = 2 then [⟨b.id, a.id⟩] else [])
  else []
def arcsOf (m : List Ml) : List Dn → List Arc
  | [] => []
  | a :: l => l.flatMap (arc2 m a) ++ arcsOf m l
def arcsTo (m : List Ml) (L : List Dn) (k : Nat) : List Arc := (List.range k).flatMap fun i => match L[i]? with
  | some a => (L.drop (i + 1)).flatMap (arc2 m a)
  | none => []
theorem arcsTo_all (m : List Ml) : ∀ L : List Dn, arcsTo m L L.length = arcsOf m L
  | [] => rfl
  | a :: l => by
    have ih := arcsTo_all m l
    unfold arcsTo at ih ⊢
    rw [List.length_cons, List.range_succ_eq_map, List.flatMap_cons, List.flatMap_map]
    show _ ++ _ = l.flatMap (arc2 m a) ++ arcsOf m l
    rw [← ih]
    rfl
theorem arcsTo_next {m : List Ml} {L : List Dn} {k : Nat} {a : Dn} (h : L[k]? = some a) : arcsTo m L (k + 1) = arcsTo m L k ++ (L.drop (k + 1)).flatMap (arc2 m a) := by
  unfold arcsTo
  rw [List.range_succ, List.flatMap_append]
  simp [h]
theorem arc2_len (m : List Ml) (a b : Dn) : (arc2 m a b).length ≤ 1 := by
  unfold arc2
  simp only
  repeat' split
  all_goals simp
theorem flat_len (m : List Ml) (a : Dn) : ∀ l : List Dn, (l.flatMap (arc2 m a)).length ≤ l.length
  | [] => by simp
  | b :: l => by
    rw [List.flatMap_cons, List.length_append, List.length_cons]
    have := arc2_len m a b
    have := flat_len m a l
    omega
theorem arcsTo_len (m : List Ml) (L : List Dn) : ∀ k, (arcsTo m L k).length ≤ k * L.length
  | 0 => by simp [arcsTo]
  | k + 1 => by
    have ih := arcsTo_len m L k
    rw [Nat.succ_mul]
    cases h : L[k]? with
    | none =>
      have e : arcsTo m L (k + 1) = arcsTo m L k := by unfold arcsTo; rw [List.range_succ, List.flatMap_append]; simp [h]
      rw [e]; omega
    | some a =>
      rw [arcsTo_next h, List.length_append]
      have h2 := flat_len m a (L.drop (k + 1))
      rw [List.length_drop] at h2
      omega
theorem flat_next {m : List Ml} {a : Dn} {l : List Dn} {j : Nat} {b : Dn} (h : l[j]? = some b) : (l.take (j + 1)).flatMap (arc2 m a) = (l.take j).flatMap (arc2 m a) ++ arc2 m a b := by
  have hj := (List.getElem?_eq_some_iff.1 h).1
  rw [List.take_succ_eq_append_getElem hj, List.flatMap_append]
  simp [(List.getElem?_eq_some_iff.1 h).2]
end Go.Proofs.YtfbambemjokmgaaGreat
namespace Go.Proofs.YtfbambemjokmgaaGreat
def endsOf (L : List Edge) : List Int := L.flatMap fun e => [e.a, e.b]
def hits (a : Int) (e : Edge) : Bool := e.a == a || e.b == a
def nearOf (E : List Edge) (a : Int) : List Int := norm ((endsOf (E.filter (hits a))).filter fun y => y != a)
theorem endsOf_snoc (L : List Edge) (e : Edge) : endsOf (L ++ [e]) = endsOf L ++ [e.a, e.b] := by unfold endsOf; simp
theorem endsOf_length (L : List Edge) : (endsOf L).length = 2 * L.length := by
  unfold endsOf
  induction L with
  | nil => rfl
  | cons e L ih => simp only [List.flatMap_cons, List.length_append, List.length_cons, List.length_nil, ih]; omega
theorem mem_nearOf {E : List Edge} (ok : ∀ e ∈ E, e.a < e.b) {a x : Int} : x ∈ nearOf E a ↔ btw a x ∈ E := by
  unfold nearOf
  rw [mem_norm]
  simp only [List.mem_filter, endsOf, List.mem_flatMap, hits, Bool.or_eq_true, beq_iff_eq, bne_iff_ne, ne_eq, List.mem_cons, List.not_mem_nil, or_false]
  constructor
  · rintro ⟨⟨e, ⟨he, h1⟩, h2⟩, h3⟩
    have := ok e he
    have : e = btw a x := by
      obtain ⟨p, q⟩ := e
      simp only [btw, Edge.mk.injEq] at *
      omega
    rw [← this]; exact he
  · intro h
    have := ok _ h
    simp only [btw] at this
    refine ⟨⟨_, ⟨h, ?_⟩, ?_⟩, ?_⟩ <;> (try simp only [btw]) <;> omega
abbrev Known := Int → Option Int
def free (N : Int) (f : Known) : Nat := ((List.range N.toNat).filter fun i : Nat => (f (i : Int)).isNone).length
end Go.Proofs.YtfbambemjokmgaaGreat
namespace Go.Proofs.YtfbambemjokmgaaGreat
def rnear (N : Int) (E : List Edge) (a : Int) : List Int := ((List.range N.toNat).map (fun i : Nat => (i : Int))).filter fun b => decide (btw a b ∈ E)
theorem mem_rnear {N : Int} {E : List Edge} (ok : OkG N E) {a x : Int} : x ∈ rnear N E a ↔ btw a x ∈ E := by
  unfold rnear
  simp only [List.mem_filter, List.mem_map, List.mem_range, decide_eq_true_eq]
  constructor
  · exact fun h => h.2
  · intro h
    have := ok.each _ h
    simp only [btw] at this
    exact ⟨⟨x.toNat, by omega, by omega⟩, h⟩
theorem near_in {N : Int} {E : List Edge} (ok : OkG N E) {a x : Int} (h : btw a x ∈ E) : 0 ≤ a ∧ a < N ∧ 0 ≤ x ∧ x < N ∧ a ≠ x := by
  have := ok.each _ h
  simp only [btw] at this
  omega
theorem near_rnear {N : Int} {E : List Edge} (ok : OkG N E) {a x : Int} : x ∈ nearOf E a ↔ x ∈ rnear N E a := by
  rw [mem_rnear ok, mem_nearOf (fun e he => (ok.each e he).2.1)]
theorem btw_swap {E : List Edge} {a x : Int} (h : btw a x ∈ E) : btw x a ∈ E := by rw [btw_comm]; exact h
def col (c : List Int) (w : Int) : Int := c.getD w.toNat 0
def waits (c L : List Int) (a : Int) : Bool := L.any fun w => decide (a < w) && (col c w == 0)
def takenB (c L : List Int) (k : Int) : Bool := L.any fun w => col c w == k
theorem any_mem {α : Type} {L M : List α} (h : ∀ x, x ∈ L ↔ x ∈ M) (p : α → Bool) : L.any p = M.any p := by
  rw [Bool.eq_iff_iff, List.any_eq_true, List.any_eq_true]
  exact ⟨fun ⟨x, a, b⟩ => ⟨x, (h x).1 a, b⟩, fun ⟨x, a, b⟩ => ⟨x, (h x).2 a, b⟩⟩
theorem any_same {α : Type} {L : List α} {p q : α → Bool} (h : ∀ x ∈ L, p x = q x) : L.any p = L.any q := by
  rw [Bool.eq_iff_iff, List.any_eq_true, List.any_eq_true]
  exact ⟨fun ⟨x, a, b⟩ => ⟨x, a, h x a ▸ b⟩, fun ⟨x, a, b⟩ => ⟨x, a, (h x a).symm ▸ b⟩⟩
structure IsLeast (t : Int → Bool) (m : Int) : Prop where
  pos : 1 ≤ m
  free : t m = false
  low : ∀ k, 1 ≤ k → k < m → t k = true
theorem IsLeast.congr {t u : Int → Bool} {m : Int} (g : IsLeast t m) (h : ∀ k, 1 ≤ k → t k = u k) : IsLeast u m :=
  ⟨g.pos, (h m g.pos).symm.trans g.free, fun k a b => (h k a).symm.trans (g.low k a b)⟩
theorem row_full : ∀ (n : Nat) (L : List Int) (k : Int), (∀ j : Nat, j < n → k + j ∈ L) → n ≤ L.length
  | 0, _, _, _ => Nat.zero_le _
  | n + 1, L, k, h => by
    have h1 := h n (by omega)
    have h2 := row_full n (L.erase (k + n)) k fun j hj => (List.mem_erase_of_ne (by omega)).2 (h j (by omega))
    rw [List.length_erase_of_mem h1] at h2
    have := List.length_pos_of_mem h1
    omega
theorem IsLeast.le {t : Int → Bool} {m : Int} (h : IsLeast t m) {M : List Int} (hM : ∀ k, t k = true → k ∈ M) : m ≤ M.length + 1 := by
  have h1 := row_full (m - 1).toNat M 1 fun j hj => hM _ (h.low _ (by omega) (by omega))
  have := h.pos
  omega
def lf (t : Int → Bool) : Nat → Int → Int
  | 0, k => k
  | n + 1, k => if t k = true then lf t n (k + 1) else k
theorem lf_spec (t : Int → Bool) : ∀ (n : Nat) (k : Int), (t (lf t n k) = false ∨ lf t n k = k + n) ∧ k ≤ lf t n k ∧ lf t n k ≤ k + n ∧ ∀ j, k ≤ j → j < lf t n k → t j = true
  | 0, k => ⟨.inr (by simp [lf]), by simp [lf], by simp [lf], fun j h1 h2 => by simp [lf] at h2; omega⟩
  | n + 1, k => by
    unfold lf
    split
    · next h =>
      obtain ⟨a, b, c, d⟩ := lf_spec t n (k + 1)
      refine ⟨?_, by omega, by omega, fun j h1 h2 => ?_⟩
      · rcases a with a | a
        · exact .inl a
        · exact .inr (by omega)
      · by_cases e : j = k
        · subst e; exact h
        · exact d j (by omega) h2
    · next h => exact ⟨.inl (by simpa using h), by omega, by omega, fun j h1 h2 => by omega⟩
def leastFree (t : Int → Bool) (n : Nat) : Int := lf t n 1
theorem least_is {t : Int → Bool} {n : Nat} {M : List Int} (hn : M.length < n) (hM : ∀ k, t k = true → k ∈ M) : IsLeast t (leastFree t n) := by
  obtain ⟨a, b, c, d⟩ := lf_spec t n 1
  refine ⟨b, ?_, fun k h1 h2 => d k h1 h2⟩
  rcases a with a | a
  · exact a
  · have := row_full n M 1 fun j hj => hM _ (d _ (by omega) (by omega))
    omega
theorem taken_mem {c L : List Int} {k : Int} (h : takenB c L k = true) : k ∈ L.map (col c) := by
  obtain ⟨w, hw, e⟩ := List.any_eq_true.1 h
  exact List.mem_map.2 ⟨w, hw, by simpa using e⟩
def take1 (c L : List Int) (a : Int) : Int := if col c a = 0 ∧ waits c L a = false then leastFree (takenB c L) (L.length + 1) else col c a
theorem take1_keeps {c L : List Int} {a : Int} (h : col c a ≠ 0) : take1 c L a = col c a := by unfold take1; rw [if_neg (fun e => h e.1)]
theorem take1_waits {c L : List Int} {a : Int} (h : waits c L a = true) : take1 c L a = col c a := by unfold take1; rw [if_neg (fun e => by rw [h] at e; cases e.2)]
theorem take1_takes {c L : List Int} {a : Int} (h : col c a = 0) (g : waits c L a = false) : IsLeast (takenB c L) (take1 c L a) := by
  unfold take1
  rw [if_pos ⟨h, g⟩]
  exact least_is (by rw [List.length_map]; omega) fun k hk => taken_mem hk
def roundL (N : Int) (E : List Edge) (c : List Int) : List Int := (List.range N.toNat).map fun i : Nat => take1 c (rnear N E i) i
theorem roundL_length (N : Int) (E : List Edge) (c : List Int) : (roundL N E c).length = N.toNat := by simp [roundL]
theorem col_round {N : Int} {E : List Edge} {c : List Int} {i : Int} (h0 : 0 ≤ i) (h1 : i < N) : col (roundL N E c) i = take1 c (rnear N E i) i := by
  unfold col roundL
  rw [List.getD_eq_getElem?_getD, List.getElem?_map, List.getElem?_range (by omega)]
  simp only [Option.map_some, Option.getD_some]
  rw [Int.toNat_of_nonneg h0]
theorem zero_mem {c : List Int} : (0 : Int) ∈ c ↔ ∃ i, i < c.length ∧ c.getD i 0 = 0 := by
  rw [List.mem_iff_getElem]
  constructor
  · rintro ⟨i, hi, e⟩
    exact ⟨i, hi, by rw [List.getD_eq_getElem?_getD, List.getElem?_eq_getElem hi]; exact e⟩
  · rintro ⟨i, hi, e⟩
    exact ⟨i, hi, by rw [List.getD_eq_getElem?_getD, List.getElem?_eq_getElem hi] at e; exact e⟩
theorem top_one (p : Nat → Prop) : ∀ n : Nat, (∃ i, i < n ∧ p i) → ∃ i, i < n ∧ p i ∧ ∀ j, i < j → j < n → ¬ p j
  | 0, ⟨i, h, _⟩ => absurd h (Nat.not_lt_zero _)
  | n + 1, h => by
    by_cases hn : p n
    · exact ⟨n, by omega, hn, fun j h1 h2 => by omega⟩
    · obtain ⟨i, hi, hp⟩ := h
      have : i ≠ n := fun e => hn (e ▸ hp)
      obtain ⟨k, h1, h2, h3⟩ := top_one p n ⟨i, by omega, hp⟩
      refine ⟨k, by omega, h2, fun j a b => ?_⟩
      by_cases e : j = n
      · subst e; exact hn
      · exact h3 j a (by omega)
theorem round_takes {N : Int} {E : List Edge} {c : List Int} (ok : OkG N E) (hl : c.length = N.toNat) (h : (0 : Int) ∈ c) : ∃ a : Int, 0 ≤ a ∧ a < N ∧ col c a = 0 ∧ 1 ≤ col (roundL N E c) a := by
  obtain ⟨i, h1, h2, h3⟩ := top_one (fun i => c.getD i 0 = 0) _ (zero_mem.1 h)
  refine ⟨i, by omega, by omega, h2, ?_⟩
  rw [col_round (by omega) (by omega)]
  refine (take1_takes (a := (i : Int)) h2 ?_).pos
  rw [waits, List.any_eq_false]
  intro w hw
  have hn := near_in ok ((mem_rnear ok).1 hw)
  simp only [Bool.and_eq_true, decide_eq_true_eq, beq_iff_eq, not_and]
  intro hlt
  exact h3 w.toNat (by omega) (by omega)
theorem round_zero {N : Int} {E : List Edge} {c : List Int} {a : Int} (h0 : 0 ≤ a) (h1 : a < N) (h : col (roundL N E c) a = 0) : col c a = 0 := by
  rw [col_round h0 h1] at h
  by_cases e : col c a = 0
  · exact e
  · rw [take1_keeps e] at h; exact h
def zeros (n : Nat) (c : List Int) : Nat := (List.range n).countP fun i => c.getD i 0 == 0
theorem countP_less {α : Type} {p q : α → Bool} {x : α} (hq : q x = true) (hp : p x = false) : ∀ {l : List α}, (∀ y ∈ l, p y = true → q y = true) → x ∈ l → l.countP p < l.countP q
  | [], _, h => by cases h
  | y :: l, h, hx => by
    have hm : l.countP p ≤ l.countP q := List.countP_mono_left fun z hz => h z (List.mem_cons_of_mem _ hz)
    rw [List.countP_cons, List.countP_cons]
    rcases List.mem_cons.1 hx with rfl | hx
    · simp only [hq, hp, if_true, Bool.false_eq_true, if_false]; omega
    · have := countP_less hq hp (fun z hz => h z (List.mem_cons_of_mem _ hz)) hx
      have h3 := h y (by simp)
      cases e : p y <;> cases e' : q y
      · simp; omega
      · simp; omega
      · rw [h3 e] at e'; cases e'
      · simp; omega
theorem zeros_less {N : Int} {E : List Edge} {c : List Int} (ok : OkG N E) (hl : c.length = N.toNat) (h : (0 : Int) ∈ c) : zeros N.toNat (roundL N E c) < zeros N.toNat c := by
  obtain ⟨a, h0, h1, h2, h3⟩ := round_takes ok hl h
  refine countP_less (x := a.toNat) ?_ ?_ (fun y hy => ?_) (List.mem_range.2 (by omega))
  · show (col c a == 0) = true
    simp [h2]
  · show (col (roundL N E c) a == 0) = false
    simp; omega
  · have hy := List.mem_range.1 hy
    have := round_zero (N := N) (E := E) (c := c) (a := (y : Int)) (by omega) (by omega)
    simpa [col] using this
structure Inv (N : Int) (E : List Edge) (c : List Int) : Prop where
  len : c.length = N.toNat
  each : ∀ a, 0 ≤ a → a < N → col c a = 0 ∨ ((∀ w, btw a w ∈ E → a < w → col c w ≠ 0) ∧ IsLeast (fun k => (rnear N E a).any fun w => decide (a < w) && (col c w == k)) (col c a))
theorem Inv.round {N : Int} {E : List Edge} {c : List Int} (ok : OkG N E) (h : Inv N E c) : Inv N E (roundL N E c) := by
  refine ⟨roundL_length _ _ _, fun a h0 h1 => ?_⟩
  have keep : ∀ w, btw a w ∈ E → col c w ≠ 0 → col (roundL N E c) w = col c w := fun w hw hc => by
    have hn := near_in ok hw
    rw [col_round hn.2.2.1 hn.2.2.2.1, take1_keeps hc]
  rw [col_round h0 h1]
  by_cases hc : col c a = 0
  · cases hw : waits c (rnear N E a) a with
    | true => exact .inl (by rw [take1_waits hw]; exact hc)
    | false =>
      have up : ∀ w, btw a w ∈ E → a < w → col c w ≠ 0 := fun w hn hlt e => by
        have := List.any_eq_false.1 hw w ((mem_rnear ok).2 hn)
        simp [hlt, e] at this
      refine .inr ⟨fun w hn hlt => by rw [keep w hn (up w hn hlt)]; exact up w hn hlt, ?_⟩
      refine (take1_takes hc hw).congr fun k hk => ?_
      unfold takenB
      refine any_same fun w hm => ?_
      have hn := (mem_rnear ok).1 hm
      have hi := near_in ok hn
      rcases Int.lt_or_le a w with hlt | hle
      · rw [keep w hn (up w hn hlt)]; simp [hlt]
      · have hz : col c w = 0 := by
          rcases h.each w hi.2.2.1 hi.2.2.2.1 with e | ⟨g, _⟩
          · exact e
          · exact absurd hc (g a (btw_swap hn) (by omega))
        rw [hz, decide_eq_false (by omega)]
        simp; omega
  · rw [take1_keeps hc]
    obtain ⟨g, l⟩ := (h.each a h0 h1).resolve_left hc
    refine .inr ⟨fun w hn hlt => by rw [keep w hn (g w hn hlt)]; exact g w hn hlt, l.congr fun k _ => any_same fun w hm => ?_⟩
    have hn := (mem_rnear ok).1 hm
    by_cases hlt : a < w
    · rw [keep w hn (g w hn hlt)]
    · simp [hlt]
def itr (N : Int) (E : List Edge) : Nat → List Int
  | 0 => List.replicate N.toNat 0
  | k + 1 => roundL N E (itr N E k)
theorem col_none (n : Nat) (a : Int) : col (List.replicate n 0) a = 0 := by
  unfold col
  rw [List.getD_eq_getElem?_getD, List.getElem?_replicate]
  split <;> rfl
theorem itr_length (N : Int) (E : List Edge) : ∀ k, (itr N E k).length = N.toNat
  | 0 => by simp [itr]
  | k + 1 => roundL_length _ _ _
theorem itr_inv {N : Int} {E : List Edge} (ok : OkG N E) : ∀ k, Inv N E (itr N E k)
  | 0 => ⟨by simp [itr], fun a _ _ => .inl (col_none _ _)⟩
  | k + 1 => (itr_inv ok k).round ok
theorem itr_zeros {N : Int} {E : List Edge} (ok : OkG N E) : ∀ k, (∀ j, j < k → (0 : Int) ∈ itr N E j) → zeros N.toNat (itr N E k) + k ≤ N.toNat
  | 0, _ => by
    have := List.countP_le_length (p := fun i => (itr N E 0).getD i 0 == 0) (l := List.range N.toNat)
    rw [List.length_range] at this
    exact this
  | k + 1, h => by
    have h1 := itr_zeros ok k fun j hj => h j (by omega)
    have h2 := zeros_less ok (itr_length N E k) (h k (by omega))
    show zeros _ (roundL N E _) + _ ≤ _
    omega
def Ends (N : Int) (E : List Edge) (k : Nat) : Prop := (∀ j, j < k → (0 : Int) ∈ itr N E j) ∧ (0 : Int) ∉ itr N E k
theorem Ends.le {N : Int} {E : List Edge} (ok : OkG N E) {k : Nat} (h : Ends N E k) : (k : Int) ≤ N := by
  have := itr_zeros ok k h.1
  have := ok.n0
  omega
theorem Ends.least {N : Int} {E : List Edge} (ok : OkG N E) {k : Nat} (h : Ends N E k) {a : Int} (h0 : 0 ≤ a) (h1 : a < N) : IsLeast (fun x => (rnear N E a).any fun w => decide (a < w) && (col (itr N E k) w == x)) (col (itr N E k) a) := by
  rcases (itr_inv ok k).each a h0 h1 with e | ⟨_, l⟩
  · exact absurd (zero_mem.2 ⟨a.toNat, by rw [itr_length]; omega, e⟩) h.2
  · exact l
def rightB (N : Int) (E : List Edge) (c : List Int) : Bool := okG N E && decide (c.length = N.toNat) && (List.range c.length).all fun i : Nat => decide (1 ≤ col c i) && !takenB c (rnear N E i) (col c i)
theorem Ends.right {N : Int} {E : List Edge} (ok : OkG N E) {k : Nat} (h : Ends N E k) : rightB N E (itr N E k) = true := by
  unfold rightB
  rw [Bool.and_eq_true, Bool.and_eq_true, List.all_eq_true]
  refine ⟨⟨okG_iff.2 ok, decide_eq_true (itr_length N E k)⟩, fun i hi => ?_⟩
  have hi := List.mem_range.1 hi
  rw [itr_length] at hi
  have l := h.least ok (a := (i : Int)) (by omega) (by omega)
  rw [Bool.and_eq_true, decide_eq_true_eq, Bool.not_eq_true']
  refine ⟨l.pos, ?_⟩
  unfold takenB
  rw [List.any_eq_false]
  intro w hw e
  have e : col (itr N E k) w = col (itr N E k) i := by simpa using e
  have hn := (mem_rnear ok).1 hw
  have hi2 := near_in ok hn
  rcases Int.lt_or_le (i : Int) w with hlt | hle
  · have := List.any_eq_false.1 l.free w hw
    simp [hlt, e] at this
  · have l2 := h.least ok hi2.2.2.1 hi2.2.2.2.1
    have := List.any_eq_false.1 l2.free (i : Int) ((mem_rnear ok).2 (btw_swap hn))
    simp [e] at this
    omega
def rightD (N : Int) (E : List Edge) (c : List Int) : Bool := okG N E && (decide ((c.length : Int) = N) && c.all fun x => decide (0 ≤ x)) && !decide ((0 : Int) ∈ c) && E.all fun e => !(col c e.a == col c e.b)
theorem col_mem {c : List Int} {a : Int} (h0 : 0 ≤ a) (h1 : a < c.length) : col c a ∈ c := by
  have hl : a.toNat < c.length := by omega
  unfold col
  rw [List.getD_eq_getElem?_getD, List.getElem?_eq_getElem hl]
  exact List.getElem_mem hl
theorem mem_col {c : List Int} {x : Int} (h : x ∈ c) : ∃ i : Nat, i < c.length ∧ col c i = x := by
  obtain ⟨i, hi, e⟩ := List.mem_iff_getElem.1 h
  exact ⟨i, hi, by unfold col; rw [List.getD_eq_getElem?_getD, Int.toNat_natCast, List.getElem?_eq_getElem hi]; exact e⟩
theorem right_eq (N : Int) (E : List Edge) (c : List Int) : rightB N E c = rightD N E c := by
  rw [Bool.eq_iff_iff]
  unfold rightB rightD
  simp only [Bool.and_eq_true, List.all_eq_true, decide_eq_true_eq, Bool.not_eq_true', decide_eq_false_iff_not, beq_eq_false_iff_ne, List.mem_range]
  constructor
  · rintro ⟨⟨h1, h2⟩, h3⟩
    have ok := okG_iff.1 h1
    have n0 := ok.n0
    have all1 : ∀ x ∈ c, 1 ≤ x := fun x hx => by
      obtain ⟨i, hi, e⟩ := mem_col hx
      rw [← e]; exact (h3 i hi).1
    refine ⟨⟨⟨h1, by omega, fun x hx => by have := all1 x hx; omega⟩, fun h0 => by have := all1 0 h0; omega⟩, fun e he hc => ?_⟩
    have hb := ok.each e he
    have := (h3 e.a.toNat (by omega)).2
    rw [Int.toNat_of_nonneg hb.1] at this
    have := List.any_eq_false.1 this e.b ((mem_rnear ok).2 (by rw [show btw e.a e.b = e by simp only [btw]; obtain ⟨p, q⟩ := e; simp only [Edge.mk.injEq] at *; omega]; exact he))
    exact this (by simp [hc])
  · rintro ⟨⟨⟨h1, h2, h3⟩, h4⟩, h5⟩
    have ok := okG_iff.1 h1
    have n0 := ok.n0
    refine ⟨⟨h1, by omega⟩, fun i hi => ?_⟩
    have hm : col c i ∈ c := col_mem (by omega) (by omega)
    have := h3 _ hm
    have : col c i ≠ 0 := fun e => h4 (e ▸ hm)
    refine ⟨by omega, ?_⟩
    unfold takenB
    rw [List.any_eq_false]
    intro w hw e
    have e : col c w = col c i := by simpa using e
    have hn := (mem_rnear ok).1 hw
    have := h5 _ hn
    simp only [btw] at this
    rcases Int.le_total (i : Int) w with hle | hle
    · rw [Int.min_eq_left hle, Int.max_eq_right hle] at this; exact this e.symm
    · rw [Int.min_eq_right hle, Int.max_eq_left hle] at this; exact this e
end Go.Proofs.YtfbambemjokmgaaGreat
namespace Go.Proofs.YtfbambemjokmgaaGreat
open Go.RowKit
def Edge.val (e : Edge) : Value := .agg #[.int .i64 e.a, .int .i64 e.b]
structure Tells {α : Type} (val : α → Value) (w : World) (fv : Value) (p : α → Bool) : Prop where
  any : ∃ g lb, fv = .func (.func g) #[] lb ∧ (∀ args w, (callFunc g args).run Tryz.prog w = .ok (.enter g args) w) ∧ ∀ W x, Ext w W → Calls Tryz.prog g (#[val x] ++ lb) W fun e w' => e = .returned (.bool (p x)) ∧ Ext W w'
theorem Tells.ext {α : Type} {val : α → Value} {w w' : World} {fv : Value} {p : α → Bool} (h : Tells val w fv p) (e : Ext w w') : Tells val w' fv p := by
  obtain ⟨g, lb, rfl, h2, h3⟩ := h.any
  exact ⟨g, lb, rfl, h2, fun W x hW => h3 W x (e.trans hW)⟩
theorem Tells.sh {α : Type} {val : α → Value} {w : World} {fv : Value} {p : α → Bool} (h : Tells val w fv p) : ∃ g lb, fv = .func (.func g) #[] lb := by
  obtain ⟨g, lb, rfl, _⟩ := h.any
  exact ⟨g, lb, rfl⟩
theorem any_next {α : Type} {xs : List α} {k : Nat} (p : α → Bool) (h : k < xs.length) (d : α) : (xs.take (k + 1)).any p = ((xs.take k).any p || p (xs.getD k d)) := by
  rw [List.take_succ_eq_append_getElem h, List.any_append]
  simp [h]
theorem any_of_take {α : Type} {xs : List α} {k : Nat} {p : α → Bool} (h : (xs.take k).any p = true) : xs.any p = true := by
  rw [List.any_eq_true] at *
  obtain ⟨x, h1, h2⟩ := h
  exact ⟨x, List.mem_of_mem_take h1, h2⟩
theorem filter_next {α : Type} {xs : List α} {k : Nat} (p : α → Bool) (h : k < xs.length) (d : α) : (xs.take (k + 1)).filter p = (xs.take k).filter p ++ (if p (xs.getD k d) = true then [xs.getD k d] else []) := by
  rw [List.take_succ_eq_append_getElem h, List.filter_append]
  simp [h, List.filter_cons]
theorem take_next {α : Type} {xs : List α} {k : Nat} (h : k < xs.length) (d : α) : xs.take (k + 1) = xs.take k ++ [xs.getD k d] := by
  rw [List.take_succ_eq_append_getElem h]
  simp [h]
theorem take_eq_next {α : Type} {xs ys : List α} {k : Nat} (h1 : k < xs.length) (h2 : k < ys.length) (d : α) : xs.take (k + 1) = ys.take (k + 1) ↔ xs.take k = ys.take k ∧ xs.getD k d = ys.getD k d := by
  rw [take_next h1 d, take_next h2 d]
  constructor
  · intro h
    have := List.append_inj h (by simp; omega)
    exact ⟨this.1, by simpa using this.2⟩
  · rintro ⟨ha, hb⟩
    rw [ha, hb]
theorem cell_at {w : World} {cs : Array Value} {t : TypeId} {i : Nat} {u : Value} (W : World) (h : Ext (w.alloc (.cells cs t (0, 0))) W) (hu : cs[i]? = some u) : W.cell? ⟨w.heap.size, i, none⟩ = some u :=
  blk_cell (box1 (h.mono (by rw [size_alloc]; omega))) i hu
set_option maxHeartbeats 1000000 in
theorem indexFunc_e (w : World) (v fv : Value) (E : List Edge) (p : Edge → Bool) (h : Sl w v E) (ht : Tells Edge.val w fv p) :
    Calls Tryz.prog 199 #[v, fv] w fun e w' => ∃ r : Int, e = .returned (.int .i64 r) ∧ decide (0 ≤ r) = E.any p ∧ Ext w w' := by
  obtain ⟨g, lb, rfl, eg, hp⟩ := ht.any
  have HP := Lib.hid hp
  clear ht hp
  rcases Sl.edges h with ⟨rfl, ao, c, rfl⟩ | ⟨b, off, c, rfl, hc, hc63, hb, hpos, hcell⟩
  · go_enter Tryz.func199, Tryz.ntmps199
    go_wp2
    refine wp_loop_rounds 1 ?_
    rw [rounds_succ]
    go_wp2
    go_ret
    exact ⟨_, rfl, rfl, Ext.refl _⟩
  · have HC := Lib.hid hcell
    clear hcell h
    go_enter Tryz.func199, Tryz.ntmps199
    go_wp2
    go_loopw [8] (fun i wr => ∃ k : Nat, k ≤ E.length ∧ i = .int .i64 k ∧ Hid ((E.take k).any p = false) ∧ Hid (Ext w wr)) (fun i _ => E.length - (intOf i).toNat)
    case atStart => exact ⟨0, Nat.zero_le _, rfl, Lib.hid rfl, Lib.hid (Ext.refl _)⟩
    case round =>
      obtain ⟨k, hk, rfl, HT, HX⟩ := hrel
      by_cases hlt : k < E.length
      · 
        have hya := (HX.out.cell (p := ⟨b, off + k * 2, none⟩) hb).trans (HC.out k hlt).1
        have hyb := (HX.out.cell (p := ⟨b, off + k * 2 + 1, none⟩) hb).trans (HC.out k hlt).2
        obtain ⟨⟨ya, yb⟩, hy⟩ : ∃ y, y = E.getD k ⟨0, 0⟩ := ⟨_, rfl⟩
        rw [← hy] at hya hyb
        have HN : Hid ((E.take (k + 1)).any p = ((E.take k).any p || p ⟨ya, yb⟩)) := Lib.hid (by rw [any_next p hlt ⟨0, 0⟩, ← hy])
        clear hy
        have HH : Hid (∀ s, p ⟨ya, yb⟩ = s → Calls Tryz.prog g (#[.agg #[.int .i64 ya, .int .i64 yb]] ++ lb) wr fun e w' => e = .returned (.bool s) ∧ Ext wr w') := Lib.hid fun s hs => hs ▸ HP.out wr ⟨ya, yb⟩ HX.out
        obtain ⟨s, hs⟩ : ∃ s, p ⟨ya, yb⟩ = s := ⟨_, rfl⟩
        rw [hs] at HN
        have HS := Lib.hid hs
        clear hs
        cases s
        · go_wp2_with (go_at_fn g; refine (HH.out _ HS.out).mono ?_; rintro e w1 ⟨rfl, hx⟩; have HX1 := Lib.hid (HX.out.trans hx); clear hx)
          go_roundw
          case rel => exact ⟨k + 1, by omega, by go_num, Lib.hid (by rw [HN.out, HT.out]; rfl), HX1⟩
          case measure => simp [intOf]; omega
        · go_wp2_with (go_at_fn g; refine (HH.out _ HS.out).mono ?_; rintro e w1 ⟨rfl, hx⟩; have HX1 := Lib.hid (HX.out.trans hx); clear hx)
          go_ret
          exact ⟨_, rfl, by rw [any_of_take (HN.out.trans (by simp))]; simp, HX1.out⟩
      · have hkl : k = E.length := by omega
        go_wp2
        go_ret
        exact ⟨_, rfl, by have := HT.out; rw [hkl, List.take_length] at this; rw [this]; rfl, HX.out⟩
theorem containsFunc_e (w : World) (v fv : Value) (E : List Edge) (p : Edge → Bool) (h : Sl w v E) (ht : Tells Edge.val w fv p) (t : Bool) (hr : E.any p = t) :
    Calls Tryz.prog 171 #[v, fv] w fun e w' => e = .returned (.bool t) ∧ Ext w w' := by
  subst hr
  have HS := Lib.hid h
  have HT := Lib.hid ht
  clear h ht
  go_enter Tryz.func171, Tryz.ntmps171
  go_wp2_with (go_at_call 199; refine (indexFunc_e _ _ _ E p HS.out HT.out).mono ?_; rintro e w1 ⟨r, rfl, hr, hx⟩; have HR := Lib.hid hr; have HX := Lib.hid hx; clear hr hx)
  go_ret
  exact ⟨ret_bool HR.out, HX.out⟩
theorem order_val (w : World) (xa xb ya yb r : Int) (hr : ord ⟨xa, xb⟩ ⟨ya, yb⟩ = r) : Calls Tryz.prog 200 #[.agg #[.int .i64 xa, .int .i64 xb], .agg #[.int .i64 ya, .int .i64 yb]] w fun e w' => e = .returned (.int .i64 r) ∧ Ext w w' := hr ▸ order_any w xa xb ya yb
theorem rises_next {E : List Edge} {k : Nat} (h1 : 1 ≤ k) (h : k < E.length) : Rises (E.take (k + 1)) ↔ Rises (E.take k) ∧ ahead (E.getD (k - 1) ⟨0, 0⟩) (E.getD k ⟨0, 0⟩) = true := by
  rw [take_next h ⟨0, 0⟩]
  have ht : E.take k = E.take (k - 1) ++ [E.getD (k - 1) ⟨0, 0⟩] := by
    have := take_next (xs := E) (k := k - 1) (by omega) ⟨0, 0⟩
    rwa [show k - 1 + 1 = k from by omega] at this
  constructor
  · intro hr
    have := List.pairwise_append.1 hr
    exact ⟨this.1, this.2.2 _ (by rw [ht]; simp) _ (by simp)⟩
  · rintro ⟨hr, ha⟩
    refine List.pairwise_append.2 ⟨hr, by simp, fun x hx y hy => ?_⟩
    rw [List.mem_singleton] at hy
    subst hy
    rw [ht] at hx hr
    rcases List.mem_append.1 hx with hx | hx
    · exact ahead_trans ((List.pairwise_append.1 hr).2.2 x hx _ (by simp)) ha
    · rw [List.mem_singleton] at hx
      subst hx
      exact ha
theorem rises_one (E : List Edge) : Rises (E.take 1) := by
  match E with
  | [] => exact List.Pairwise.nil
  | x :: l => exact List.pairwise_singleton _ _
set_option maxHeartbeats 1000000 in
theorem rise_any (w : World) (v : Value) (E : List Edge) (h : Sl w v E) : Calls Tryz.prog 172 #[v] w fun e w' => e = .returned (.bool (rises E)) ∧ Ext w w' := by
  rcases h.edges with ⟨rfl, ao, c, rfl⟩ | ⟨b, off, c, rfl, hc, hc63, hb, hpos, hcell⟩
  · go_enter Tryz.func172, Tryz.ntmps172
    go_wp2
    refine wp_loop_rounds 1 ?_
    rw [rounds_succ]
    go_wp2
    go_ret
    exact ⟨rfl, Ext.refl _⟩
  · have hlen : E.length ≤ 9223372036854775807 := by omega
    have HC := Lib.hid hcell
    clear hcell h
    go_enter Tryz.func172, Tryz.ntmps172
    go_wp2
    go_loopw [3] (fun i wr => ∃ k : Nat, 1 ≤ k ∧ k ≤ E.length ∧ i = .int .i64 k ∧ Hid (Rises (E.take k)) ∧ Hid (Ext w wr)) (fun i _ => E.length - (intOf i).toNat)
    case atStart => exact ⟨1, Nat.le_refl _, hpos, rfl, Lib.hid (rises_one E), Lib.hid (Ext.refl _)⟩
    case round =>
      obtain ⟨k, hk1, hk, rfl, HT, HX⟩ := hrel
      by_cases hlt : k < E.length
      · have hk' : k - 1 < E.length := by omega
        obtain ⟨⟨ya, yb⟩, hy⟩ : ∃ y, y = E.getD k ⟨0, 0⟩ := ⟨_, rfl⟩
        obtain ⟨⟨za, zb⟩, hz⟩ : ∃ z, z = E.getD (k - 1) ⟨0, 0⟩ := ⟨_, rfl⟩
        have HK : Hid (∀ W, Ext wr W → (W.cell? ⟨b, off + k * 2, none⟩ = some (.int .i64 ya) ∧ W.cell? ⟨b, off + k * 2 + 1, none⟩ = some (.int .i64 yb)) ∧ W.cell? ⟨b, off + (k - 1) * 2, none⟩ = some (.int .i64 za) ∧ W.cell? ⟨b, off + (k - 1) * 2 + 1, none⟩ = some (.int .i64 zb)) := Lib.hid fun W hW => by
          have x := HX.out.trans hW
          have c1 := HC.out k hlt
          have c2 := HC.out (k - 1) hk'
          rw [← hy] at c1
          rw [← hz] at c2
          exact ⟨⟨(x.cell (p := ⟨b, off + k * 2, none⟩) hb).trans c1.1, (x.cell (p := ⟨b, off + k * 2 + 1, none⟩) hb).trans c1.2⟩, (x.cell (p := ⟨b, off + (k - 1) * 2, none⟩) hb).trans c2.1, (x.cell (p := ⟨b, off + (k - 1) * 2 + 1, none⟩) hb).trans c2.2⟩
        have HN : Hid (Rises (E.take (k + 1)) ↔ Rises (E.take k) ∧ ahead ⟨za, zb⟩ ⟨ya, yb⟩ = true) := Lib.hid (by rw [rises_next hk1 hlt, ← hy, ← hz])
        clear hy hz
        obtain ⟨r, hr⟩ : ∃ r, ord ⟨za, zb⟩ ⟨ya, yb⟩ = r := ⟨_, rfl⟩
        have HA : Hid (ahead ⟨za, zb⟩ ⟨ya, yb⟩ = decide (r < 0)) := Lib.hid (by rw [← hr, ord_lt])
        have HR := Lib.hid hr
        clear hr
        have hw1 : IntKind.i64.wrap ((k : Int) - 1) = ((k - 1 : Nat) : Int) := by rw [IntWalk.i64_in _ (by omega)]; omega
        go_wp2_with fail
        go_region_held3 (fun W => (W.cell? ⟨b, off + k * 2, none⟩ = some (.int .i64 ya) ∧ W.cell? ⟨b, off + k * 2 + 1, none⟩ = some (.int .i64 yb)) ∧ W.cell? ⟨b, off + (k - 1) * 2, none⟩ = some (.int .i64 za) ∧ W.cell? ⟨b, off + (k - 1) * 2 + 1, none⟩ = some (.int .i64 zb)) (exact HK.out _ ((by repeat (first | exact Ext.refl _ | assumption | refine Ext.alloc ?_ _ | refine Ext.drew ?_ | refine Ext.drewN ?_ _))))
          (first
          | (go_at_call 200; refine (order_val _ _ _ _ _ r HR.out).mono ?_; rintro e w1 ⟨rfl, hx⟩; have y1 : Ext wr w1 := Ext.trans (by exact (by repeat (first | exact Ext.refl _ | assumption | refine Ext.alloc ?_ _ | refine Ext.drew ?_ | refine Ext.drewN ?_ _))) hx; clear hx))
        all_goals
          by_cases hrl : 0 ≤ r
          · go_wp2
            go_ret
            refine ⟨ret_bool (decide_eq_false (fun e => ?_)).symm, HX.out.trans (by first | exact y1 | exact Ext.drew y1)⟩
            have := (HN.out.1 (List.Pairwise.sublist (List.take_sublist _ _) e)).2
            rw [HA.out] at this
            simp at this
            omega
          · go_wp2
            go_roundw
            case rel => exact ⟨k + 1, by omega, by omega, by go_num, Lib.hid (HN.out.2 ⟨HT.out, by rw [HA.out]; simp; omega⟩), Lib.hid (HX.out.trans (by first | exact y1 | exact Ext.drew y1))⟩
            case measure => simp [intOf]; omega
      · go_wp2
        go_ret
        have hkl : k = E.length := by omega
        have hn := HT.out
        rw [hkl, List.take_length] at hn
        exact ⟨ret_bool (rises_iff.2 hn).symm, HX.out⟩
end Go.Proofs.YtfbambemjokmgaaGreat
namespace Go.Proofs.YtfbambemjokmgaaGreat
open Go.RowKit
theorem wrong_tells (w : World) (G : Nat) (N : Int) (hG : G < w.heap.size) (hc : w.cell? ⟨G, 0, none⟩ = some (.int .i64 N)) : Tells Edge.val w (.func (.func 170) #[] #[.pointer (some ⟨G, 0, none⟩)]) (fun e => !okE N e) :=
  ⟨170, _, rfl, enters_of Tryz.func170 (by kernel_rfl) rfl, fun W ⟨a, b⟩ hW => by
    have hc' : W.cell? ⟨G, 0, none⟩ = some (.int .i64 N) := (hW.cell (p := ⟨G, 0, none⟩) hG).trans hc
    have hG' : G < W.heap.size := Nat.lt_of_lt_of_le hG hW.size
    clear hc hG hW
    change Calls Tryz.prog _ #[.agg #[.int .i64 a, .int .i64 b], .pointer (some ⟨G, 0, none⟩)] W _
    by_cases h1 : a < 0
    · go_enter Tryz.func170, Tryz.ntmps170
      go_wp2
      go_ret
      exact ⟨ret_bool (by simp [okE]; try omega), (by repeat (first | exact Ext.refl _ | assumption | refine Ext.alloc ?_ _ | refine Ext.drew ?_ | refine Ext.drewN ?_ _))⟩
    · by_cases h2 : b ≤ a
      · go_enter Tryz.func170, Tryz.ntmps170
        go_wp2
        go_ret
        exact ⟨ret_bool (by simp [okE]; try omega), (by repeat (first | exact Ext.refl _ | assumption | refine Ext.alloc ?_ _ | refine Ext.drew ?_ | refine Ext.drewN ?_ _))⟩
      · by_cases h3 : N ≤ b
        · go_enter Tryz.func170, Tryz.ntmps170
          go_wp2
          go_ret
          exact ⟨ret_bool (by simp [okE]; try omega), (by repeat (first | exact Ext.refl _ | assumption | refine Ext.alloc ?_ _ | refine Ext.drew ?_ | refine Ext.drewN ?_ _))⟩
        · go_enter Tryz.func170, Tryz.ntmps170
          go_wp2
          go_ret
          exact ⟨ret_bool (by simp [okE]; try omega), (by repeat (first | exact Ext.refl _ | assumption | refine Ext.alloc ?_ _ | refine Ext.drew ?_ | refine Ext.drewN ?_ _))⟩⟩
end Go.Proofs.YtfbambemjokmgaaGreat
namespace Go.Proofs.YtfbambemjokmgaaGreat
open Go.RowKit
theorem chk_of {N : Int} {E : List Edge} (h : OkG N E) : chk N E = 0 := by unfold chk; rw [if_pos (okG_iff.2 h)]
theorem chk_not {N : Int} {E : List Edge} (h : ¬ OkG N E) : chk N E = 30 := by unfold chk; rw [if_neg (fun e => h (okG_iff.1 e))]
set_option maxHeartbeats 1000000 in
theorem check_any (w : World) (N : Int) (v : Value) (E : List Edge) (h : Sl w v E) (r : Int) (hr : chk N E = r) :
    Calls Tryz.prog 145 #[.agg #[.int .i64 N, v]] w fun e w' => e = .returned (.int .i64 r) ∧ Ext w w' := by
  have HR := Lib.hid hr
  obtain ⟨ao, c, rfl⟩ := h.len
  have HS := Lib.hid h
  clear hr h
  by_cases h1 : N < 0
  · go_enter Tryz.func145, Tryz.ntmps145
    go_wp2
    go_ret
    exact ⟨ret_int (by rw [← HR.out, chk_not (fun o => by have := o.n0; omega)]), (by repeat (first | exact Ext.refl _ | assumption | refine Ext.alloc ?_ _ | refine Ext.drew ?_ | refine Ext.drewN ?_ _))⟩
  by_cases h2 : 64 < N
  · go_enter Tryz.func145, Tryz.ntmps145
    go_wp2
    go_ret
    exact ⟨ret_int (by rw [← HR.out, chk_not (fun o => by have := o.n64; omega)]), (by repeat (first | exact Ext.refl _ | assumption | refine Ext.alloc ?_ _ | refine Ext.drew ?_ | refine Ext.drewN ?_ _))⟩
  by_cases h3 : 400 < E.length
  · go_enter Tryz.func145, Tryz.ntmps145
    go_wp2
    go_ret
    exact ⟨ret_int (by rw [← HR.out, chk_not (fun o => by have := o.few; omega)]), (by repeat (first | exact Ext.refl _ | assumption | refine Ext.alloc ?_ _ | refine Ext.drew ?_ | refine Ext.drewN ?_ _))⟩
  obtain ⟨t, ht⟩ : ∃ t, (E.any fun e => !okE N e) = t := ⟨_, rfl⟩
  obtain ⟨s, hs⟩ : ∃ s, rises E = s := ⟨_, rfl⟩
  have HT := Lib.hid ht
  have HU := Lib.hid hs
  have HW : Hid (Tells Edge.val (w.alloc (.cells #[.int .i64 N, .slice ao E.length c] 53)) (.func (.func 170) #[] #[.pointer (some ⟨w.heap.size, 0, none⟩)]) (fun e => !okE N e)) :=
    Lib.hid (wrong_tells _ _ N (by simp) (blk_cell (get_alloc_new _ _) 0 rfl))
  clear ht hs
  have hmf : ∀ (fn : Fn) (first cap : Array Value) (w : World), (Instr.makeFunc fn first cap).run Tryz.prog w = .ok (.func fn first cap) w := fun _ _ _ _ => rfl
  cases t
  · cases s
    all_goals
      go_enter Tryz.func145, Tryz.ntmps145
      go_wp2_with (first
        | (go_at_call 171; refine (containsFunc_e _ _ _ E _ (HS.out.ext (by repeat (first | exact Ext.refl _ | assumption | refine Ext.alloc ?_ _ | refine Ext.drew ?_ | refine Ext.drewN ?_ _))) (HW.out.ext (by repeat (first | exact Ext.refl _ | assumption | refine Ext.alloc ?_ _ | refine Ext.drew ?_ | refine Ext.drewN ?_ _))) _ HT.out).mono ?_; rintro e w1 ⟨rfl, hx⟩; have y1 : Ext w w1 := Ext.trans ((Ext.refl w).alloc _) hx; have g1 := blk_cell (box1 (hx.mono (by rw [size_alloc]; omega))) 1 rfl; clear hx)
        | (go_at_call 172; refine (rise_any _ _ E (HS.out.ext y1)).mono ?_; rintro e w2 ⟨rfl, hx⟩; rw [HU.out]; have y2 : Ext w w2 := y1.trans hx; clear hx))
      go_ret
    · exact ⟨ret_int (by rw [← HR.out, chk_not (fun o => by have := rises_iff.2 o.rise; rw [HU.out] at this; cases this)]), y2⟩
    · refine ⟨ret_int ?_, y2⟩
      rw [← HR.out, chk_of ⟨by omega, by omega, by omega, fun e he => ?_, rises_iff.1 HU.out⟩]
      have := List.any_eq_false.1 HT.out e he
      simp [okE] at this
      omega
  · go_enter Tryz.func145, Tryz.ntmps145
    go_wp2_with (first
      | (go_at_call 171; refine (containsFunc_e _ _ _ E _ (HS.out.ext (by repeat (first | exact Ext.refl _ | assumption | refine Ext.alloc ?_ _ | refine Ext.drew ?_ | refine Ext.drewN ?_ _))) (HW.out.ext (by repeat (first | exact Ext.refl _ | assumption | refine Ext.alloc ?_ _ | refine Ext.drew ?_ | refine Ext.drewN ?_ _))) _ HT.out).mono ?_; rintro e w1 ⟨rfl, hx⟩; have y1 : Ext w w1 := Ext.trans ((Ext.refl w).alloc _) hx; have g1 := blk_cell (box1 (hx.mono (by rw [size_alloc]; omega))) 1 rfl; clear hx))
    go_ret
    refine ⟨ret_int ?_, y1⟩
    rw [← HR.out, chk_not (fun o => ?_)]
    obtain ⟨e, he, hb⟩ := List.any_eq_true.1 HT.out
    have := o.each e he
    simp [okE] at hb
    omega
theorem has_iff (E : List Edge) (a b : Int) : (E.any fun e => ord e (btw a b) == 0) = decide (btw a b ∈ E) := by
  rw [Bool.eq_iff_iff]
  simp only [List.any_eq_true, decide_eq_true_eq]
  constructor
  · rintro ⟨e, he, h⟩
    have : decide (ord e (btw a b) = 0) = true := by simpa using h
    rw [ord_zero] at this
    rw [← of_decide_eq_true this]
    exact he
  · intro h
    refine ⟨_, h, ?_⟩
    have : decide (ord (btw a b) (btw a b) = 0) = true := by rw [ord_zero]; simp
    simpa using this
end Go.Proofs.YtfbambemjokmgaaGreat
namespace Go.Proofs.YtfbambemjokmgaaGreat
open Go.RowKit
def placeR (N : Int) (E : List Edge) (c : List Int) : Int := if okG N E = true then (if rightB N E c = true then 0 else 120) else 30
def GivesN (w : World) (L : List Dn) (r : Int) (e : Ending) (w' : World) : Prop := ∃ v, e = .returned (.tuple #[v, .int .i64 r]) ∧ Ns DV Non w' v L ∧ Ext w w'
def GivesGr (w : World) (N : Int) (E : List Edge) (t : Bool) (e : Ending) (w' : World) : Prop := ∃ gv, e = .returned (.tuple #[.agg #[.int .i64 N, gv], .bool t]) ∧ Sl w' gv E ∧ Ext w w'
def GivesA (w : World) (A : List Arc) (e : Ending) (w' : World) : Prop := ∃ v, e = .returned v ∧ Sl w' v A ∧ Ext w w'
end Go.Proofs.YtfbambemjokmgaaGreat
