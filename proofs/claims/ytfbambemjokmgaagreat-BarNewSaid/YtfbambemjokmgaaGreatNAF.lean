/- Texts of this seat. -/
import Derived.Test.YtfbambemjokmgaaGreatNAE
namespace Go.Proofs.YtfbambemjokmgaaGreat
def rnear (N : Int) (E : List Edge) (a : Int) : List Int := ((List.range N.toNat).map (fun i : Nat => (i : Int))).filter fun b => decide (btw a b ∈ E)
theorem mem_rnear {N : Int} {E : List Edge} (ok : OkG N E) {a x : Int} : x ∈ rnear N E a ↔ btw a x ∈ E := by
  unfold rnear
  simp only [List.mem_filter, List.mem_map, List.mem_range, decide_eq_true_eq]
  constructor
  · exact fun h => h.2
  · intro h
    have := ok.each _ h
    simp only [btw] at this
    exact ⟨⟨x.toNat, by omega, by omega⟩, h⟩
theorem near_in {N : Int} {E : List Edge} (ok : OkG N E) {a x : Int} (h : btw a x ∈ E) : 0 ≤ a ∧ a < N ∧ 0 ≤ x ∧ x < N ∧ a ≠ x := by
  have := ok.each _ h
  simp only [btw] at this
  omega
theorem near_rnear {N : Int} {E : List Edge} (ok : OkG N E) {a x : Int} : x ∈ nearOf E a ↔ x ∈ rnear N E a := by
  rw [mem_rnear ok, mem_nearOf (fun e he => (ok.each e he).2.1)]
theorem btw_swap {E : List Edge} {a x : Int} (h : btw a x ∈ E) : btw x a ∈ E := by rw [btw_comm]; exact h
def col (c : List Int) (w : Int) : Int := c.getD w.toNat 0
def waits (c L : List Int) (a : Int) : Bool := L.any fun w => decide (a < w) && (col c w == 0)
def takenB (c L : List Int) (k : Int) : Bool := L.any fun w => col c w == k
theorem any_mem {α : Type} {L M : List α} (h : ∀ x, x ∈ L ↔ x ∈ M) (p : α → Bool) : L.any p = M.any p := by
  rw [Bool.eq_iff_iff, List.any_eq_true, List.any_eq_true]
  exact ⟨fun ⟨x, a, b⟩ => ⟨x, (h x).1 a, b⟩, fun ⟨x, a, b⟩ => ⟨x, (h x).2 a, b⟩⟩
theorem any_same {α : Type} {L : List α} {p q : α → Bool} (h : ∀ x ∈ L, p x = q x) : L.any p = L.any q := by
  rw [Bool.eq_iff_iff, List.any_eq_true, List.any_eq_true]
  exact ⟨fun ⟨x, a, b⟩ => ⟨x, a, h x a ▸ b⟩, fun ⟨x, a, b⟩ => ⟨x, a, (h x a).symm ▸ b⟩⟩
structure IsLeast (t : Int → Bool) (m : Int) : Prop where
  pos : 1 ≤ m
  free : t m = false
  low : ∀ k, 1 ≤ k → k < m → t k = true
theorem IsLeast.congr {t u : Int → Bool} {m : Int} (g : IsLeast t m) (h : ∀ k, 1 ≤ k → t k = u k) : IsLeast u m :=
  ⟨g.pos, (h m g.pos).symm.trans g.free, fun k a b => (h k a).symm.trans (g.low k a b)⟩
theorem row_full : ∀ (n : Nat) (L : List Int) (k : Int), (∀ j : Nat, j < n → k + j ∈ L) → n ≤ L.length
  | 0, _, _, _ => Nat.zero_le _
  | n + 1, L, k, h => by
    have h1 := h n (by omega)
    have h2 := row_full n (L.erase (k + n)) k fun j hj => (List.mem_erase_of_ne (by omega)).2 (h j (by omega))
    rw [List.length_erase_of_mem h1] at h2
    have := List.length_pos_of_mem h1
    omega
theorem IsLeast.le {t : Int → Bool} {m : Int} (h : IsLeast t m) {M : List Int} (hM : ∀ k, t k = true → k ∈ M) : m ≤ M.length + 1 := by
  have h1 := row_full (m - 1).toNat M 1 fun j hj => hM _ (h.low _ (by omega) (by omega))
  have := h.pos
  omega
def lf (t : Int → Bool) : Nat → Int → Int
  | 0, k => k
  | n + 1, k => if t k = true then lf t n (k + 1) else k
theorem lf_spec (t : Int → Bool) : ∀ (n : Nat) (k : Int), (t (lf t n k) = false ∨ lf t n k = k + n) ∧ k ≤ lf t n k ∧ lf t n k ≤ k + n ∧ ∀ j, k ≤ j → j < lf t n k → t j = true
  | 0, k => ⟨.inr (by simp [lf]), by simp [lf], by simp [lf], fun j h1 h2 => by simp [lf] at h2; omega⟩
  | n + 1, k => by
    unfold lf
    split
    · next h =>
      obtain ⟨a, b, c, d⟩ := lf_spec t n (k + 1)
      refine ⟨?_, by omega, by omega, fun j h1 h2 => ?_⟩
      · rcases a with a | a
        · exact .inl a
        · exact .inr (by omega)
      · by_cases e : j = k
        · subst e; exact h
        · exact d j (by omega) h2
    · next h => exact ⟨.inl (by simpa using h), by omega, by omega, fun j h1 h2 => by omega⟩
def leastFree (t : Int → Bool) (n : Nat) : Int := lf t n 1
theorem least_is {t : Int → Bool} {n : Nat} {M : List Int} (hn : M.length < n) (hM : ∀ k, t k = true → k ∈ M) : IsLeast t (leastFree t n) := by
  obtain ⟨a, b, c, d⟩ := lf_spec t n 1
  refine ⟨b, ?_, fun k h1 h2 => d k h1 h2⟩
  rcases a with a | a
  · exact a
  · have := row_full n M 1 fun j hj => hM _ (d _ (by omega) (by omega))
    omega
theorem taken_mem {c L : List Int} {k : Int} (h : takenB c L k = true) : k ∈ L.map (col c) := by
  obtain ⟨w, hw, e⟩ := List.any_eq_true.1 h
  exact List.mem_map.2 ⟨w, hw, by simpa using e⟩
def take1 (c L : List Int) (a : Int) : Int := if col c a = 0 ∧ waits c L a = false then leastFree (takenB c L) (L.length + 1) else col c a
theorem take1_keeps {c L : List Int} {a : Int} (h : col c a ≠ 0) : take1 c L a = col c a := by unfold take1; rw [if_neg (fun e => h e.1)]
theorem take1_waits {c L : List Int} {a : Int} (h : waits c L a = true) : take1 c L a = col c a := by unfold take1; rw [if_neg (fun e => by rw [h] at e; cases e.2)]
theorem take1_takes {c L : List Int} {a : Int} (h : col c a = 0) (g : waits c L a = false) : IsLeast (takenB c L) (take1 c L a) := by
  unfold take1
  rw [if_pos ⟨h, g⟩]
  exact least_is (by rw [List.length_map]; omega) fun k hk => taken_mem hk
def roundL (N : Int) (E : List Edge) (c : List Int) : List Int := (List.range N.toNat).map fun i : Nat => take1 c (rnear N E i) i
theorem roundL_length (N : Int) (E : List Edge) (c : List Int) : (roundL N E c).length = N.toNat := by simp [roundL]
theorem col_round {N : Int} {E : List Edge} {c : List Int} {i : Int} (h0 : 0 ≤ i) (h1 : i < N) : col (roundL N E c) i = take1 c (rnear N E i) i := by
  unfold col roundL
  rw [List.getD_eq_getElem?_getD, List.getElem?_map, List.getElem?_range (by omega)]
  simp only [Option.map_some, Option.getD_some]
  rw [Int.toNat_of_nonneg h0]
theorem zero_mem {c : List Int} : (0 : Int) ∈ c ↔ ∃ i, i < c.length ∧ c.getD i 0 = 0 := by
  rw [List.mem_iff_getElem]
  constructor
  · rintro ⟨i, hi, e⟩
    exact ⟨i, hi, by rw [List.getD_eq_getElem?_getD, List.getElem?_eq_getElem hi]; exact e⟩
  · rintro ⟨i, hi, e⟩
    exact ⟨i, hi, by rw [List.getD_eq_getElem?_getD, List.getElem?_eq_getElem hi] at e; exact e⟩
theorem top_one (p : Nat → Prop) : ∀ n : Nat, (∃ i, i < n ∧ p i) → ∃ i, i < n ∧ p i ∧ ∀ j, i < j → j < n → ¬ p j
  | 0, ⟨i, h, _⟩ => absurd h (Nat.not_lt_zero _)
  | n + 1, h => by
    by_cases hn : p n
    · exact ⟨n, by omega, hn, fun j h1 h2 => by omega⟩
    · obtain ⟨i, hi, hp⟩ := h
      have : i ≠ n := fun e => hn (e ▸ hp)
      obtain ⟨k, h1, h2, h3⟩ := top_one p n ⟨i, by omega, hp⟩
      refine ⟨k, by omega, h2, fun j a b => ?_⟩
      by_cases e : j = n
      · subst e; exact hn
      · exact h3 j a (by omega)
theorem round_takes {N : Int} {E : List Edge} {c : List Int} (ok : OkG N E) (hl : c.length = N.toNat) (h : (0 : Int) ∈ c) : ∃ a : Int, 0 ≤ a ∧ a < N ∧ col c a = 0 ∧ 1 ≤ col (roundL N E c) a := by
  obtain ⟨i, h1, h2, h3⟩ := top_one (fun i => c.getD i 0 = 0) _ (zero_mem.1 h)
  refine ⟨i, by omega, by omega, h2, ?_⟩
  rw [col_round (by omega) (by omega)]
  refine (take1_takes (a := (i : Int)) h2 ?_).pos
  rw [waits, List.any_eq_false]
  intro w hw
  have hn := near_in ok ((mem_rnear ok).1 hw)
  simp only [Bool.and_eq_true, decide_eq_true_eq, beq_iff_eq, not_and]
  intro hlt
  exact h3 w.toNat (by omega) (by omega)
theorem round_zero {N : Int} {E : List Edge} {c : List Int} {a : Int} (h0 : 0 ≤ a) (h1 : a < N) (h : col (roundL N E c) a = 0) : col c a = 0 := by
  rw [col_round h0 h1] at h
  by_cases e : col c a = 0
  · exact e
  · rw [take1_keeps e] at h; exact h
def zeros (n : Nat) (c : List Int) : Nat := (List.range n).countP fun i => c.getD i 0 == 0
theorem countP_less {α : Type} {p q : α → Bool} {x : α} (hq : q x = true) (hp : p x = false) : ∀ {l : List α}, (∀ y ∈ l, p y = true → q y = true) → x ∈ l → l.countP p < l.countP q
  | [], _, h => by cases h
  | y :: l, h, hx => by
    have hm : l.countP p ≤ l.countP q := List.countP_mono_left fun z hz => h z (List.mem_cons_of_mem _ hz)
    rw [List.countP_cons, List.countP_cons]
    rcases List.mem_cons.1 hx with rfl | hx
    · simp only [hq, hp, if_true, Bool.false_eq_true, if_false]; omega
    · have := countP_less hq hp (fun z hz => h z (List.mem_cons_of_mem _ hz)) hx
      have h3 := h y (by simp)
      cases e : p y <;> cases e' : q y
      · simp; omega
      · simp; omega
      · rw [h3 e] at e'; cases e'
      · simp; omega
theorem zeros_less {N : Int} {E : List Edge} {c : List Int} (ok : OkG N E) (hl : c.length = N.toNat) (h : (0 : Int) ∈ c) : zeros N.toNat (roundL N E c) < zeros N.toNat c := by
  obtain ⟨a, h0, h1, h2, h3⟩ := round_takes ok hl h
  refine countP_less (x := a.toNat) ?_ ?_ (fun y hy => ?_) (List.mem_range.2 (by omega))
  · show (col c a == 0) = true
    simp [h2]
  · show (col (roundL N E c) a == 0) = false
    simp; omega
  · have hy := List.mem_range.1 hy
    have := round_zero (N := N) (E := E) (c := c) (a := (y : Int)) (by omega) (by omega)
    simpa [col] using this
structure Inv (N : Int) (E : List Edge) (c : List Int) : Prop where
  len : c.length = N.toNat
  each : ∀ a, 0 ≤ a → a < N → col c a = 0 ∨ ((∀ w, btw a w ∈ E → a < w → col c w ≠ 0) ∧ IsLeast (fun k => (rnear N E a).any fun w => decide (a < w) && (col c w == k)) (col c a))
theorem Inv.round {N : Int} {E : List Edge} {c : List Int} (ok : OkG N E) (h : Inv N E c) : Inv N E (roundL N E c) := by
  refine ⟨roundL_length _ _ _, fun a h0 h1 => ?_⟩
  have keep : ∀ w, btw a w ∈ E → col c w ≠ 0 → col (roundL N E c) w = col c w := fun w hw hc => by
    have hn := near_in ok hw
    rw [col_round hn.2.2.1 hn.2.2.2.1, take1_keeps hc]
  rw [col_round h0 h1]
  by_cases hc : col c a = 0
  · cases hw : waits c (rnear N E a) a with
    | true => exact .inl (by rw [take1_waits hw]; exact hc)
    | false =>
      have up : ∀ w, btw a w ∈ E → a < w → col c w ≠ 0 := fun w hn hlt e => by
        have := List.any_eq_false.1 hw w ((mem_rnear ok).2 hn)
        simp [hlt, e] at this
      refine .inr ⟨fun w hn hlt => by rw [keep w hn (up w hn hlt)]; exact up w hn hlt, ?_⟩
      refine (take1_takes hc hw).congr fun k hk => ?_
      unfold takenB
      refine any_same fun w hm => ?_
      have hn := (mem_rnear ok).1 hm
      have hi := near_in ok hn
      rcases Int.lt_or_le a w with hlt | hle
      · rw [keep w hn (up w hn hlt)]; simp [hlt]
      · have hz : col c w = 0 := by
          rcases h.each w hi.2.2.1 hi.2.2.2.1 with e | ⟨g, _⟩
          · exact e
          · exact absurd hc (g a (btw_swap hn) (by omega))
        rw [hz, decide_eq_false (by omega)]
        simp; omega
  · rw [take1_keeps hc]
    obtain ⟨g, l⟩ := (h.each a h0 h1).resolve_left hc
    refine .inr ⟨fun w hn hlt => by rw [keep w hn (g w hn hlt)]; exact g w hn hlt, l.congr fun k _ => any_same fun w hm => ?_⟩
    have hn := (mem_rnear ok).1 hm
    by_cases hlt : a < w
    · rw [keep w hn (g w hn hlt)]
    · simp [hlt]
def itr (N : Int) (E : List Edge) : Nat → List Int
  | 0 => List.replicate N.toNat 0
  | k + 1 => roundL N E (itr N E k)
theorem col_none (n : Nat) (a : Int) : col (List.replicate n 0) a = 0 := by
  unfold col
  rw [List.getD_eq_getElem?_getD, List.getElem?_replicate]
  split <;> rfl
theorem itr_length (N : Int) (E : List Edge) : ∀ k, (itr N E k).length = N.toNat
  | 0 => by simp [itr]
  | k + 1 => roundL_length _ _ _
theorem itr_inv {N : Int} {E : List Edge} (ok : OkG N E) : ∀ k, Inv N E (itr N E k)
  | 0 => ⟨by simp [itr], fun a _ _ => .inl (col_none _ _)⟩
  | k + 1 => (itr_inv ok k).round ok
theorem itr_zeros {N : Int} {E : List Edge} (ok : OkG N E) : ∀ k, (∀ j, j < k → (0 : Int) ∈ itr N E j) → zeros N.toNat (itr N E k) + k ≤ N.toNat
  | 0, _ => by
    have := List.countP_le_length (p := fun i => (itr N E 0).getD i 0 == 0) (l := List.range N.toNat)
    rw [List.length_range] at this
    exact this
  | k + 1, h => by
    have h1 := itr_zeros ok k fun j hj => h j (by omega)
    have h2 := zeros_less ok (itr_length N E k) (h k (by omega))
    show zeros _ (roundL N E _) + _ ≤ _
    omega
def Ends (N : Int) (E : List Edge) (k : Nat) : Prop := (∀ j, j < k → (0 : Int) ∈ itr N E j) ∧ (0 : Int) ∉ itr N E k
theorem Ends.le {N : Int} {E : List Edge} (ok : OkG N E) {k : Nat} (h : Ends N E k) : (k : Int) ≤ N := by
  have := itr_zeros ok k h.1
  have := ok.n0
  omega
theorem Ends.least {N : Int} {E : List Edge} (ok : OkG N E) {k : Nat} (h : Ends N E k) {a : Int} (h0 : 0 ≤ a) (h1 : a < N) : IsLeast (fun x => (rnear N E a).any fun w => decide (a < w) && (col (itr N E k) w == x)) (col (itr N E k) a) := by
  rcases (itr_inv ok k).each a h0 h1 with e | ⟨_, l⟩
  · exact absurd (zero_mem.2 ⟨a.toNat, by rw [itr_length]; omega, e⟩) h.2
  · exact l
def rightB (N : Int) (E : List Edge) (c : List Int) : Bool := okG N E && decide (c.length = N.toNat) && (List.range c.length).all fun i : Nat => decide (1 ≤ col c i) && !takenB c (rnear N E i) (col c i)
theorem Ends.right {N : Int} {E : List Edge} (ok : OkG N E) {k : Nat} (h : Ends N E k) : rightB N E (itr N E k) = true := by
  unfold rightB
  rw [Bool.and_eq_true, Bool.and_eq_true, List.all_eq_true]
  refine ⟨⟨okG_iff.2 ok, decide_eq_true (itr_length N E k)⟩, fun i hi => ?_⟩
  have hi := List.mem_range.1 hi
  rw [itr_length] at hi
  have l := h.least ok (a := (i : Int)) (by omega) (by omega)
  rw [Bool.and_eq_true, decide_eq_true_eq, Bool.not_eq_true']
  refine ⟨l.pos, ?_⟩
  unfold takenB
  rw [List.any_eq_false]
  intro w hw e
  have e : col (itr N E k) w = col (itr N E k) i := by simpa using e
  have hn := (mem_rnear ok).1 hw
  have hi2 := near_in ok hn
  rcases Int.lt_or_le (i : Int) w with hlt | hle
  · have := List.any_eq_false.1 l.free w hw
    simp [hlt, e] at this
  · have l2 := h.least ok hi2.2.2.1 hi2.2.2.2.1
    have := List.any_eq_false.1 l2.free (i : Int) ((mem_rnear ok).2 (btw_swap hn))
    simp [e] at this
    omega
def rightD (N : Int) (E : List Edge) (c : List Int) : Bool := okG N E && (decide ((c.length : Int) = N) && c.all fun x => decide (0 ≤ x)) && !decide ((0 : Int) ∈ c) && E.all fun e => !(col c e.a == col c e.b)
theorem col_mem {c : List Int} {a : Int} (h0 : 0 ≤ a) (h1 : a < c.length) : col c a ∈ c := by
  have hl : a.toNat < c.length := by omega
  unfold col
  rw [List.getD_eq_getElem?_getD, List.getElem?_eq_getElem hl]
  exact List.getElem_mem hl
theorem mem_col {c : List Int} {x : Int} (h : x ∈ c) : ∃ i : Nat, i < c.length ∧ col c i = x := by
  obtain ⟨i, hi, e⟩ := List.mem_iff_getElem.1 h
  exact ⟨i, hi, by unfold col; rw [List.getD_eq_getElem?_getD, Int.toNat_natCast, List.getElem?_eq_getElem hi]; exact e⟩
theorem right_eq (N : Int) (E : List Edge) (c : List Int) : rightB N E c = rightD N E c := by
  rw [Bool.eq_iff_iff]
  unfold rightB rightD
  simp only [Bool.and_eq_true, List.all_eq_true, decide_eq_true_eq, Bool.not_eq_true', decide_eq_false_iff_not, beq_eq_false_iff_ne, List.mem_range]
  constructor
  · rintro ⟨⟨h1, h2⟩, h3⟩
    have ok := okG_iff.1 h1
    have n0 := ok.n0
    have all1 : ∀ x ∈ c, 1 ≤ x := fun x hx => by
      obtain ⟨i, hi, e⟩ := mem_col hx
      rw [← e]; exact (h3 i hi).1
    refine ⟨⟨⟨h1, by omega, fun x hx => by have := all1 x hx; omega⟩, fun h0 => by have := all1 0 h0; omega⟩, fun e he hc => ?_⟩
    have hb := ok.each e he
    have := (h3 e.a.toNat (by omega)).2
    rw [Int.toNat_of_nonneg hb.1] at this
    have := List.any_eq_false.1 this e.b ((mem_rnear ok).2 (by rw [show btw e.a e.b = e by simp only [btw]; obtain ⟨p, q⟩ := e; simp only [Edge.mk.injEq] at *; omega]; exact he))
    exact this (by simp [hc])
  · rintro ⟨⟨⟨h1, h2, h3⟩, h4⟩, h5⟩
    have ok := okG_iff.1 h1
    have n0 := ok.n0
    refine ⟨⟨h1, by omega⟩, fun i hi => ?_⟩
    have hm : col c i ∈ c := col_mem (by omega) (by omega)
    have := h3 _ hm
    have : col c i ≠ 0 := fun e => h4 (e ▸ hm)
    refine ⟨by omega, ?_⟩
    unfold takenB
    rw [List.any_eq_false]
    intro w hw e
    have e : col c w = col c i := by simpa using e
    have hn := (mem_rnear ok).1 hw
    have := h5 _ hn
    simp only [btw] at this
    rcases Int.le_total (i : Int) w with hle | hle
    · rw [Int.min_eq_left hle, Int.max_eq_right hle] at this; exact this e.symm
    · rw [Int.min_eq_right hle, Int.max_eq_left hle] at this; exact this e
end Go.Proofs.YtfbambemjokmgaaGreat
namespace Go.Proofs.YtfbambemjokmgaaGreat
open Go.RowKit Go.Sort
theorem take_succ_mem {xs : List Int} {k : Nat} (hk : k < xs.length) (x : Int) : x ∈ xs.take (k + 1) ↔ x ∈ xs.take k ∨ x = xs.getD k 0 := by
  rw [List.take_succ_eq_append_getElem hk, List.mem_append]
  simp [hk]
set_option maxHeartbeats 400000 in
theorem refHas_any (w : World) (v : Value) (xs : List Int) (x : Int) (h : Sl w v xs) :
    Calls Tryz.prog 33 #[v, .int .i64 x] w fun e w' => e = .returned (.bool (decide (x ∈ xs))) ∧ w = w' := by
  rcases h.ints with ⟨rfl, ao, c, rfl⟩ | ⟨b, off, c, rfl, hc, hc63, hb, hpos, hcell⟩
  · go_enter Tryz.func33, Tryz.ntmps33
    go_wp2
    refine wp_loop_rounds 1 ?_
    rw [rounds_succ]
    go_wp2
    go_ret
    exact ⟨by simp, rfl⟩
  · have hlen : xs.length ≤ 9223372036854775807 := by omega
    have HC := Lib.hid hcell
    clear hcell h
    go_enter Tryz.func33, Tryz.ntmps33
    go_wp2
    go_loop [5] (fun i => ∃ k : Nat, k ≤ xs.length ∧ i = .int .i64 k ∧ Hid (x ∉ xs.take k)) (fun i => xs.length - (intOf i).toNat)
    case atStart => exact ⟨0, Nat.zero_le _, rfl, Lib.hid (by simp)⟩
    case round =>
      obtain ⟨k, hk, rfl, hnot⟩ := hrel
      by_cases hlt : k < xs.length
      · have hck := HC.out k hlt
        obtain ⟨y, hy⟩ : ∃ y, y = xs.getD k 0 := ⟨_, rfl⟩
        rw [← hy] at hck
        have HY := Lib.hid hy
        clear hy
        by_cases heq : y = x
        · have hd : (y == x) = true := by simpa using heq
          have HE := Lib.hid heq
          clear heq
          go_wp2
          go_ret
          exact ⟨ret_bool (decide_eq_true (by rw [← HE.out, HY.out]; exact getD_mem hlt 0)).symm, rfl⟩
        · have hd : (y == x) = false := by simpa using heq
          have HE := Lib.hid heq
          clear heq
          go_wp2
          go_round
          case rel => exact ⟨k + 1, by omega, by go_num, Lib.hid (by rw [take_succ_mem hlt, ← HY.out]; intro hh; rcases hh with hh | hh; exact hnot.out hh; exact HE.out hh.symm)⟩
          case measure => simp [intOf]; omega
      · go_wp2
        go_ret
        have hkl : k = xs.length := by omega
        have hn := hnot.out
        rw [hkl, List.take_length] at hn
        exact ⟨ret_bool (decide_eq_false hn).symm, rfl⟩
theorem refHasI_val (w : World) (v : Value) (xs : List Int) (x : Int) (h : Sl w v xs) (r : Bool) (hr : decide (x ∈ xs) = r) : Calls Tryz.prog 33 #[v, .int .i64 x] w fun e w' => e = .returned (.bool r) ∧ w = w' :=
  (refHas_any w v xs x h).mono fun _ _ ⟨he, hw⟩ => ⟨hr ▸ he, hw⟩
theorem take_eq_succ {xs ys : List Int} {k : Nat} (h1 : k < xs.length) (h2 : k < ys.length) : xs.take (k + 1) = ys.take (k + 1) ↔ xs.take k = ys.take k ∧ xs.getD k 0 = ys.getD k 0 := by
  rw [List.take_succ_eq_append_getElem h1, List.take_succ_eq_append_getElem h2]
  have e1 : xs.getD k 0 = xs[k] := by simp [h1]
  have e2 : ys.getD k 0 = ys[k] := by simp [h2]
  rw [e1, e2]
  constructor
  · intro h
    have := List.append_inj h (by simp; omega)
    exact ⟨this.1, by simpa using this.2⟩
  · rintro ⟨ha, hb⟩
    rw [ha, hb]
set_option maxHeartbeats 400000 in
theorem refSame_any (w : World) (v u : Value) (xs ys : List Int) (h : Sl w v xs) (g : Sl w u ys) :
    Calls Tryz.prog 21 #[v, u] w fun e w' => e = .returned (.bool (decide (xs = ys))) ∧ Drew w w' := by
  by_cases hl : xs.length = ys.length
  · rcases h.ints with ⟨rfl, ao, c, rfl⟩ | ⟨b, off, c, rfl, hc, hc63, hb, hpos, hcell⟩
    · have : ys = [] := List.eq_nil_of_length_eq_zero hl.symm
      subst this
      obtain ⟨ao', c', rfl⟩ := g.len
      go_enter Tryz.func21, Tryz.ntmps21
      go_wp2
      refine wp_loop_rounds 1 ?_
      rw [rounds_succ]
      go_wp2
      go_ret
      exact ⟨by simp, Drew.refl _⟩
    · rcases g.ints with ⟨rfl, ao, c, rfl⟩ | ⟨b', off', c', rfl, hc', hc63', hb', hpos', hcell'⟩
      · exact absurd hl (by simp only [List.length_nil]; omega)
      · have hlen : xs.length ≤ 9223372036854775807 := by omega
        have hlen' : ys.length ≤ 9223372036854775807 := by omega
        have hne : ((xs.length : Int) != (ys.length : Int)) = false := by simp [hl]
        have HC := Lib.hid hcell
        have HC' := Lib.hid hcell'
        have HL := Lib.hid hl
        clear hcell h hcell' g hl
        go_enter Tryz.func21, Tryz.ntmps21
        go_wp2
        go_loopw [5] (fun i wr => ∃ k : Nat, k ≤ xs.length ∧ i = .int .i64 k ∧ Hid (xs.take k = ys.take k) ∧ Hid (Drew w wr)) (fun i _ => xs.length - (intOf i).toNat)
        case atStart => exact ⟨0, Nat.zero_le _, rfl, Lib.hid (by simp), Lib.hid (Drew.refl _)⟩
        case round =>
          obtain ⟨k, hk, rfl, HT, HD⟩ := hrel
          by_cases hlt : k < xs.length
          · have hlt' : k < ys.length := by have := HL.out; omega
            have hck := (HD.out.cell ⟨b, off + k, none⟩).trans (HC.out k hlt)
            have hck' := (HD.out.cell ⟨b', off' + k, none⟩).trans (HC'.out k hlt')
            obtain ⟨y, hy⟩ : ∃ y, y = xs.getD k 0 := ⟨_, rfl⟩
            obtain ⟨z, hz⟩ : ∃ z, z = ys.getD k 0 := ⟨_, rfl⟩
            rw [← hy] at hck
            rw [← hz] at hck'
            have HY := Lib.hid hy
            have HZ := Lib.hid hz
            clear hy hz
            by_cases h1 : y = z
            · have hd : (y != z) = false := by simp [h1]
              have H1 := Lib.hid h1
              clear h1
              go_wp2
              go_quiet (fail)
              go_wp2
              go_roundw
              case rel => exact ⟨k + 1, by omega, by go_num, Lib.hid ((take_eq_succ hlt hlt').2 ⟨HT.out, by rw [← HY.out, ← HZ.out]; exact H1.out⟩), Lib.hid (HD.out.more _)⟩
              case measure => simp [intOf]; omega
            · have hd : (y != z) = true := by simp [h1]
              have H1 := Lib.hid h1
              clear h1
              go_wp2
              go_quiet (fail)
              go_wp2
              go_ret
              exact ⟨ret_bool (decide_eq_false (fun e => H1.out (by rw [HY.out, HZ.out, e]))).symm, HD.out.more _⟩
          · go_wp2
            go_ret
            have hkl : k = xs.length := by omega
            have hn := HT.out
            rw [hkl, List.take_length, HL.out, List.take_length] at hn
            exact ⟨ret_bool (decide_eq_true hn).symm, HD.out⟩
  · obtain ⟨ao, c, rfl⟩ := h.len
    obtain ⟨ao', c', rfl⟩ := g.len
    have hlen := h.length_le
    have hlen' := g.length_le
    have hne : ((xs.length : Int) != (ys.length : Int)) = true := by simp; omega
    have HL := Lib.hid hl
    clear hl h g
    go_enter Tryz.func21, Tryz.ntmps21
    go_wp2
    go_ret
    exact ⟨ret_bool (decide_eq_false (fun e => HL.out (by rw [e]))).symm, Drew.refl _⟩
theorem refSame_val (t : Bool) (w : World) (v u : Value) (xs ys : List Int) (h : Sl w v xs) (g : Sl w u ys) (ht : decide (xs = ys) = t) :
    Calls Tryz.prog 21 #[v, u] w fun e w' => e = .returned (.bool t) ∧ Drew w w' :=
  (refSame_any w v u xs ys h g).mono fun _ _ ⟨he, hw⟩ => ⟨ht ▸ he, hw⟩
theorem Sl.sh {α : Type} [Elem α] {w : World} {v : Value} {xs : List α} (h : Sl w v xs) : ∃ ao n c, v = .slice ao n c := by obtain ⟨ao, c, h⟩ := h.len; exact ⟨ao, _, c, h⟩
theorem graph_at (w : World) (N : Int) (v : Value) (V : World) (h : Ext (w.alloc (.cells #[.int .i64 N, v] 53)) V) : V.cell? ⟨w.heap.size, 0, none⟩ = some (.int .i64 N) ∧ V.cell? ⟨w.heap.size, 1, none⟩ = some v := ⟨cell_at V h rfl, cell_at V h rfl⟩
theorem make_ow (w : World) (n : Nat) (hn : n ≤ 1000) :
    ∃ w', (Instr.makeSlice 26 (.int .i64 (n : Int)) (.int .i64 (n : Int))).run Tryz.prog w = .ok (.slice (some ⟨w.heap.size, 0, none⟩) n n) w' ∧ Ow w' w.heap.size (.slice (some ⟨w.heap.size, 0, none⟩) n n) (List.replicate n (0 : Int)) ∧ Ext w w' := by
  obtain ⟨i0, hi, hz0, hz1, hz2⟩ := info_parts (Elem.info (α := Int))
  have hz2 : i0.bytes = 8 := hz2
  obtain ⟨w', h1, h2, h3⟩ := run_make_full (P := Tryz.prog) w w.heap.size 26 (Elem.e Int) i0 (Elem.z Int) (Elem.k Int) (Elem.row (α := Int)) hi hz0 hz1 .i64 .i64 n (by rw [hz2]; omega) (by unfold maxLen; omega) (Nat.le_refl _)
  refine ⟨w', h1, ?_, (Below.refl _ w).grown h3 (Nat.le_refl _) (by simp)⟩
  have e1 : (madeCells (Elem.z Int).cells (n * Elem.k Int)).toList = cellsOf (List.replicate n (0 : Int)) := by
    rw [cells_i]
    show (madeCells #[Value.int .i64 0] (n * 1)).toList = _
    rw [toList_madeCells_one]
    simp
  rw [e1] at h2
  unfold Ow
  simpa using h2
end Go.Proofs.YtfbambemjokmgaaGreat
namespace Go.Proofs.YtfbambemjokmgaaGreat
open Go.RowKit
section
variable {P : Program} {ops : Array Oper} {Q : Exit → Act → World → Prop} {md : Region.Mode}
def givesV (P : Program) (v : Value) (w : World) : Result Next → Prop
  | .ok (.value u) w2 => u = v ∧ Ext w w2
  | .ok (.enter f args) w2 => Ext w w2 ∧ Calls P f args w2 (fun e w3 => e = .returned v ∧ Ext w2 w3)
  | _ => False
def Takes (P : Program) (ops : Array Oper) (o : Oper) (v : Value) (a : Act) (w : World) : Prop :=
  (Region.wanted o (yielded ops a.tmps) = true ∧ ∀ w', Ext w w' → givesV P v w' ((execOp a.eval o).run P w')) ∨
  (Region.wanted o (yielded ops a.tmps) = false ∧ v = undef)
def SameFor (ops : Array Oper) (o : Oper) (a a' : Act) : Prop :=
  execOp a'.eval o = execOp a.eval o ∧ Region.wanted o (yielded ops a'.tmps) = Region.wanted o (yielded ops a.tmps)
theorem Takes.later {o : Oper} {v : Value} {a a' : Act} {w w' : World} (h : Takes P ops o v a w) (s : SameFor ops o a a') (x : Ext w w') : Takes P ops o v a' w' := by
  unfold Takes at *
  rw [s.1, s.2]
  exact h.imp (fun ⟨h1, h2⟩ => ⟨h1, fun w2 y => h2 w2 (Ext.trans x y)⟩) id
theorem Takes.wpOp {i : Nat} {o : Oper} {v : Value} {a : Act} {w : World} (hi : ops[i]? = some o) (h : Takes P ops o v a w)
    {K : Act → World → Prop} (hK : ∀ w', Ext w w' → K (a.put o.dst v) w') : wpOp P ops Q i K a w := by
  unfold Go.wpOp
  simp only [hi]
  rcases h with ⟨hw, hv⟩ | ⟨hw, rfl⟩
  · simp only [hw, if_true]
    refine .inl ?_
    have h1 := hv w (Ext.refl _)
    unfold Oper.wp
    generalize (execOp a.eval o).run P w = r at *
    cases r with
    | ok n w' =>
      cases n <;> simp only [givesV] at h1 <;> simp only [Oper.upon]
      case value u => rw [h1.1]; exact hK _ h1.2
      case enter f args =>
        exact h1.2.mono fun e w3 ⟨he, x⟩ => by subst he; exact hK _ (Ext.trans h1.1 x)
    | halt x w' => simp only [givesV] at h1
  · simp only [hw, Bool.false_eq_true, if_false]
    exact hK _ (Ext.refl _)
theorem wpOp_apart {j : Nat} {oi oj : Oper} {v : Value} (hj : ops[j]? = some oj) (hap : oi.apart ops oj = true)
    (hsi : ∀ cs b, oi.op ≠ .select cs b) (hsj : ∀ cs b, oj.op ≠ .select cs b) (hQ : ∀ c a w, Q (.panic c) (a.put oi.dst v) w → Q (.panic c) a w)
    {K : Act → World → Prop} {a : Act} {w : World} (h : wpOp P ops Q j K (a.put oi.dst v) w) :
    wpOp P ops Q j (fun a' w' => SameFor ops oi a a' ∧ K (a'.put oi.dst v) w') a w := by
  obtain ⟨h1, h2, h3⟩ := Oper.apart_spec hap
  have keep : ∀ u, SameFor ops oi a (a.put oj.dst u) := fun u => ⟨execOp_put oi hsi a oj.dst u h3, wanted_put oi a oj.dst u h3⟩
  have keepD : ∀ d u, SameFor ops oi a (({ a with defers := d :: a.defers } : Act).put oj.dst u) := fun d u =>
    ⟨(execOp_put oi hsi { a with defers := d :: a.defers } oj.dst u h3).trans rfl, (wanted_put oi { a with defers := d :: a.defers } oj.dst u h3).trans rfl⟩
  unfold wpOp at *
  simp only [hj] at *
  rw [wanted_put oj a oi.dst v h1] at h
  by_cases hw : Region.wanted oj (yielded ops a.tmps) = true
  · simp only [hw, if_true] at h ⊢
    rcases h with h | ⟨hasks, hlets⟩
    · refine .inl ?_
      unfold Oper.wp at *
      rw [execOp_put oj hsj a oi.dst v h1] at h
      generalize (execOp a.eval oj).run P w = r at *
      cases r with
      | ok n w' =>
        cases n <;> simp only [Oper.upon] at h ⊢
        case value u => exact ⟨keep u, by rw [← Act.put_comm a v u h2]; exact h⟩
        case skip => exact ⟨keep _, by rw [← Act.put_comm a v undef h2]; exact h⟩
        case defer d =>
          refine ⟨keepD d _, ?_⟩
          rw [← Act.put_comm _ v undef h2, ← Act.put_defers]
          exact h
        case enter f args =>
          refine Calls.mono h fun e w'' he => ?_
          cases e with
          | returned u => exact ⟨keep u, by rw [← Act.put_comm a v u h2]; exact he⟩
          | panicked c => exact hQ _ _ _ he
          | outgrown => exact he
        case row row args => exact Rows.mono h fun u w'' he => ⟨keep u, by rw [← Act.put_comm a v u h2]; exact he⟩
      | halt x w' =>
        cases x <;> simp only [Oper.upon] at h ⊢
        case panic u => exact hQ _ _ _ h
    · exact .inr ⟨by unfold Oper.asks at *; rw [execOp_put oj hsj a oi.dst v h1] at hasks; exact hasks, hlets⟩
  · have hw2 : Region.wanted oj (yielded ops a.tmps) = false := by simpa using hw
    simp only [hw2, Bool.false_eq_true, if_false] at h ⊢
    exact ⟨keep _, by rw [← Act.put_comm a v undef h2]; exact h⟩
def lateAt (ops : Array Oper) (i : Nat) : Bool := match ops[i]? with
  | some o => match o.op with
    | .store .. => true
    | _ => false
  | none => false
def lateWaits (md : Region.Mode) (ops : Array Oper) (listed : Array Bool) (i : Nat) : Bool :=
  (List.range ops.size).all fun j => listed.getD j true || !lateAt ops j || match ops[j]? with
    | some oj => oj.after.any fun e => Region.binds md e && e.on == i
    | none => true
theorem lateWaits_spec {listed : Array Bool} {i j : Nat} (h : lateWaits md ops listed i = true) (hi : listed.getD i true = false) (hj : j ∈ Region.ready md ops listed) : lateAt ops j = false := by
  obtain ⟨h0, oj, hoj, hall⟩ := mem_ready.1 hj
  rw [lateWaits, List.all_eq_true] at h
  have h1 := h j (List.mem_range.2 (Array.getElem?_eq_some_iff.1 hoj).1)
  simp only [hoj, h0, Bool.false_or, Bool.or_eq_true] at h1
  rcases h1 with h1 | h1
  · simpa using h1
  · exfalso
    obtain ⟨e, he, hb⟩ := Array.any_eq_true'.1 h1
    rw [Bool.and_eq_true, beq_iff_eq] at hb
    have h2 := hall e he hb.1
    rw [hb.2] at h2
    rcases Nat.lt_or_ge i listed.size with h' | h'
    · simp [h'] at hi h2
      rw [hi] at h2
      cases h2
    · simp [Array.getElem?_eq_none h'] at h2
theorem lateWaits_more {listed : Array Bool} {i j : Nat} (h : lateWaits md ops listed i = true) : lateWaits md ops (listed.setIfInBounds j true) i = true := by
  rw [lateWaits, List.all_eq_true] at *
  intro k hk
  have h1 := h k hk
  rw [Bool.or_assoc, Bool.or_eq_true] at h1 ⊢
  rcases h1 with h1 | h1
  · refine .inl ?_
    by_cases hjk : j = k
    · subst hjk
      simp [Array.getElem?_setIfInBounds]
      split <;> rfl
    · rw [getD_set_ne true hjk]; exact h1
  · exact .inr h1
def anyM (P : Program) (md : Region.Mode) (ops : Array Oper) (Q : Exit → Act → World → Prop) : Nat → Array Bool → Act → World → Prop
  | 0, listed, a, w => Region.ready md ops listed = [] ∧ ∀ w', Ext w w' → Q .normal a w'
  | f + 1, listed, a, w => ∀ w', Ext w w' → (Region.ready md ops listed = [] → Q .normal a w') ∧
      ∀ i ∈ Region.ready md ops listed, wpOp P ops Q i (fun a2 w2 => if lateAt ops i = true then wpAny P md ops Q f (listed.setIfInBounds i true) a2 w2 else Ext w' w2 ∧ anyM P md ops Q f (listed.setIfInBounds i true) a2 w2) a w'
theorem anyM.later : ∀ {f : Nat} {listed : Array Bool} {a : Act} {w w' : World}, anyM P md ops Q f listed a w → Ext w w' → anyM P md ops Q f listed a w'
  | 0, _, _, _, _, h, x => ⟨h.1, fun _ y => h.2 _ (Ext.trans x y)⟩
  | _ + 1, _, _, _, _, h, x => fun _ y => h _ (Ext.trans x y)
theorem anyM.any : ∀ {f : Nat} {listed : Array Bool} {a : Act} {w : World}, anyM P md ops Q f listed a w → wpAny P md ops Q f listed a w
  | 0, _, _, _, h => ⟨h.1, h.2 _ (Ext.refl _)⟩
  | _ + 1, _, _, w, h => ⟨(h w (Ext.refl _)).1, fun i hi => wpOp_mono (fun _ _ h2 => by
      by_cases hl : lateAt ops i = true
      · rwa [if_pos hl] at h2
      · rw [if_neg hl] at h2; exact h2.2.any) ((h w (Ext.refl _)).2 i hi)⟩
theorem anyM_first {i : Nat} {oi : Oper} {v : Value} (hi : ops[i]? = some oi) (hsel : ∀ (j : Nat) (o : Oper) cs b, ops[j]? = some o → o.op ≠ .select cs b)
    (hQ : ∀ c a w, Q (.panic c) (a.put oi.dst v) w → Q (.panic c) a w) :
    ∀ (f : Nat) (listed : Array Bool) (a : Act) (w : World),
      (∀ j oj, ops[j]? = some oj → j ≠ i → listed.getD j true = false → (∀ e ∈ oj.after, Region.binds md e = true → e.on ≠ i) → oi.apart ops oj = true) →
      i ∈ Region.ready md ops listed → lateWaits md ops listed i = true → Takes P ops oi v a w →
      anyM P md ops Q f (listed.setIfInBounds i true) (a.put oi.dst v) w → anyM P md ops Q (f + 1) listed a w := by
  intro f
  induction f with
  | zero =>
    intro listed a w _ hr hlw ht H w' x
    refine ⟨fun h => (by rw [h] at hr; cases hr), fun j hj => ?_⟩
    by_cases hji : j = i
    · subst hji
      have hnl := lateWaits_spec hlw (mem_ready.1 hr).1 hj
      exact (ht.later ⟨rfl, rfl⟩ x).wpOp hi fun w2 y => by rw [hnl]; exact ⟨y, H.later (Ext.trans x y)⟩
    · have := ready_mono hj hji
      rw [H.1] at this
      cases this
  | succ f ih =>
    intro listed a w hfree hr hlw ht H w' x
    refine ⟨fun h => (by rw [h] at hr; cases hr), fun j hj => ?_⟩
    have hnl := lateWaits_spec hlw (mem_ready.1 hr).1 hj
    by_cases hji : j = i
    · subst hji
      exact (ht.later ⟨rfl, rfl⟩ x).wpOp hi fun w2 y => by rw [hnl]; exact ⟨y, H.later (Ext.trans x y)⟩
    · have h1 := (H w' x).2 j (ready_mono hj hji)
      obtain ⟨hjun, oj, hoj, hall⟩ := mem_ready.1 hj
      have hnot : ∀ e ∈ oj.after, Region.binds md e = true → e.on ≠ i := fun e he hb heq => by
        have h1 := hall e he hb
        have h0 := (mem_ready.1 hr).1
        rw [heq] at h1
        rcases Nat.lt_or_ge i listed.size with h' | h'
        · simp [h'] at h0 h1; rw [h0] at h1; cases h1
        · simp [Array.getElem?_eq_none h'] at h1
      have h2 := wpOp_apart hoj (hfree j oj hoj hji hjun hnot) (fun cs b => hsel i oi cs b hi) (fun cs b => hsel j oj cs b hoj) hQ h1
      refine wpOp_mono (fun a' w2 h3 => ?_) h2
      rw [hnl] at h3 ⊢
      rw [if_neg (by decide)] at h3 ⊢
      refine ⟨h3.2.1, ih (listed.setIfInBounds j true) a' w2 (fun k ok hk hki hun hno => ?_) (ready_mono hr (Ne.symm hji)) (lateWaits_more hlw) (ht.later h3.1 (Ext.trans x h3.2.1)) ?_⟩
      · refine hfree k ok hk hki ?_ hno
        by_cases hjk : j = k
        · subst hjk; exact hjun
        · rw [getD_set_ne true hjk] at hun; exact hun
      · rw [Array.setIfInBounds_comm _ _ hji]
        exact h3.2.2
/-! The moves of a walk. -/
theorem wp_region_M {id : Nat} {a : Act} {w : World} (hm : P.follows .mixedOrders = true)
    (h : anyM P .any ops (NoPanic Q) ops.size (Array.replicate ops.size false) a w) : (Code.region id ops true).wp P Q a w :=
  wp_region_noPanic (wp_region_any hm (h.later (Ext.drew (Ext.refl w))).any)
theorem wp_region_M_lit {id : Nat} {a : Act} {w : World} {l : List Oper} (hm : P.follows .mixedOrders = true)
    (h : anyM P .any l.toArray (NoPanic Q) l.length (Array.replicate l.length false) a w) : (Code.region id l.toArray true).wp P Q a w :=
  wp_region_M hm (by simpa using h)
def takeB (md : Region.Mode) (ops : Array Oper) (listed : Array Bool) (i : Nat) : Bool :=
  (Region.ready md ops listed).contains i && Region.noSelect ops && Region.free md ops listed i && lateWaits md ops listed i
theorem takeV (i : Nat) {oi : Oper} {v : Value} {f : Nat} {listed : Array Bool} {a : Act} {w : World} (hi : ops[i]? = some oi := by simp only [List.getElem?_toArray, List.getElem?_cons, reduceIte]; rfl) (hb : takeB md ops listed i = true := by kernel_rfl)
    (hw : Region.wanted oi (yielded ops a.tmps) = true := by rfl) (hv : ∀ w', Ext w w' → (execOp a.eval oi).run P w' = .ok (.value v) w')
    (h : anyM P md ops (NoPanic Q) f (listed.setIfInBounds i true) (a.put oi.dst v) w) : anyM P md ops (NoPanic Q) (f + 1) listed a w := by
  simp only [takeB, Bool.and_eq_true] at hb
  obtain ⟨⟨⟨h1, h2⟩, h3⟩, h4⟩ := hb
  exact anyM_first hi (Region.noSelect_spec h2) (fun _ _ _ h => h) f listed a w (Region.free_spec hi h3) (by simpa using h1) h4 (.inl ⟨hw, fun w' x => by rw [hv w' x]; exact ⟨rfl, Ext.refl _⟩⟩) h
theorem tv (i : Nat) {oi : Oper} {v : Value} {f : Nat} {listed : Array Bool} {a a' : Act} {w : World} (hi : ops[i]? = some oi := by simp only [List.getElem?_toArray, List.getElem?_cons, reduceIte]; rfl) (hb : takeB md ops listed i = true := by kernel_rfl)
    (hw : Region.wanted oi (yielded ops a.tmps) = true := by rfl) (hv : ∀ w', Ext w w' → (execOp a.eval oi).run P w' = .ok (.value v) w' := by intro w' hw'; go_simp; first | done | with_reducible rfl)
    (ha : a.put oi.dst v = a' := by simp only [Act.put, List.setIfInBounds_toArray, List.set]; rfl)
    (h : anyM P md ops (NoPanic Q) f (listed.setIfInBounds i true) a' w) : anyM P md ops (NoPanic Q) (f + 1) listed a w := takeV i hi hb hw hv (ha ▸ h)
theorem takeG (i : Nat) {oi : Oper} {v : Value} {f : Nat} {listed : Array Bool} {a : Act} {w : World} (hi : ops[i]? = some oi := by simp only [List.getElem?_toArray, List.getElem?_cons, reduceIte]; rfl) (hb : takeB md ops listed i = true := by kernel_rfl)
    (hw : Region.wanted oi (yielded ops a.tmps) = true := by rfl) (hv : ∀ w', Ext w w' → givesV P v w' ((execOp a.eval oi).run P w'))
    (h : anyM P md ops (NoPanic Q) f (listed.setIfInBounds i true) (a.put oi.dst v) w) : anyM P md ops (NoPanic Q) (f + 1) listed a w := by
  simp only [takeB, Bool.and_eq_true] at hb
  obtain ⟨⟨⟨h1, h2⟩, h3⟩, h4⟩ := hb
  exact anyM_first hi (Region.noSelect_spec h2) (fun _ _ _ h => h) f listed a w (Region.free_spec hi h3) (by simpa using h1) h4 (.inl ⟨hw, hv⟩) h
theorem gives_same {fn : FuncId} {args : Array Value} {v : Value} {w : World} (h : Calls P fn args w fun e w' => e = .returned v ∧ w = w') : Calls P fn args w fun e w' => e = .returned v ∧ Ext w w' :=
  h.mono fun _ _ ⟨h1, h2⟩ => ⟨h1, h2 ▸ Ext.refl _⟩
theorem takeU (i : Nat) {oi : Oper} {f : Nat} {listed : Array Bool} {a : Act} {w : World} (hi : ops[i]? = some oi := by simp only [List.getElem?_toArray, List.getElem?_cons, reduceIte]; rfl) (hb : takeB md ops listed i = true := by kernel_rfl)
    (hw : Region.wanted oi (yielded ops a.tmps) = false := by rfl)
    (h : anyM P md ops (NoPanic Q) f (listed.setIfInBounds i true) (a.put oi.dst undef) w) : anyM P md ops (NoPanic Q) (f + 1) listed a w := by
  simp only [takeB, Bool.and_eq_true] at hb
  obtain ⟨⟨⟨h1, h2⟩, h3⟩, h4⟩ := hb
  exact anyM_first hi (Region.noSelect_spec h2) (fun _ _ _ h => h) f listed a w (Region.free_spec hi h3) (by simpa using h1) h4 (.inr ⟨hw, rfl⟩) h
theorem runOne (i : Nat) {oi : Oper} {f : Nat} {listed : Array Bool} {a : Act} {w : World} (hi : ops[i]? = some oi := by simp only [List.getElem?_toArray, List.getElem?_cons, reduceIte]; rfl) (hr : Region.ready md ops listed = [i] := by kernel_rfl) (hl : lateAt ops i = false := by kernel_rfl)
    (hw : Region.wanted oi (yielded ops a.tmps) = true := by rfl)
    (h : ∀ w', Ext w w' → oi.wp P a w' (fun a2 w2 => Ext w' w2 ∧ anyM P md ops Q f (listed.setIfInBounds i true) a2 w2) Q) : anyM P md ops Q (f + 1) listed a w := fun w' x =>
  ⟨fun e => (by rw [hr] at e; cases e), fun j hj => by
    rw [hr, List.mem_singleton] at hj
    subst hj
    unfold wpOp
    simp only [hi, hw, if_true, hl, Bool.false_eq_true, if_false]
    exact .inl (h w' x)⟩
theorem runLate (i : Nat) {oi : Oper} {f : Nat} {listed : Array Bool} {a : Act} {w : World} (hi : ops[i]? = some oi := by simp only [List.getElem?_toArray, List.getElem?_cons, reduceIte]; rfl) (hr : Region.ready md ops listed = [i] := by kernel_rfl) (hl : lateAt ops i = true := by kernel_rfl)
    (hw : Region.wanted oi (yielded ops a.tmps) = true := by rfl)
    (h : ∀ w', Ext w w' → oi.wp P a w' (fun a2 w2 => wpAny P md ops Q f (listed.setIfInBounds i true) a2 w2) Q) : anyM P md ops Q (f + 1) listed a w := fun w' x =>
  ⟨fun e => (by rw [hr] at e; cases e), fun j hj => by
    rw [hr, List.mem_singleton] at hj
    subst hj
    unfold wpOp
    simp only [hi, hw, if_true, hl]
    exact .inl (h w' x)⟩
theorem lateDone {f : Nat} {listed : Array Bool} {a : Act} {w : World} (hr : Region.ready md ops listed = []) (h : Q .normal a w) : wpAny P md ops (NoPanic Q) f listed a w := by
  cases f with
  | zero => exact ⟨hr, h⟩
  | succ f => exact ⟨fun _ => h, fun j hj => by rw [hr] at hj; cases hj⟩
theorem doneM {f : Nat} {listed : Array Bool} {a : Act} {w : World} (hr : Region.ready md ops listed = []) (h : ∀ w', Ext w w' → Q .normal a w') : anyM P md ops (NoPanic Q) f listed a w := by
  cases f with
  | zero => exact ⟨hr, fun w' x => h w' x⟩
  | succ f => exact fun w' x => ⟨fun _ => h w' x, fun j hj => by rw [hr] at hj; cases hj⟩
end
end Go.Proofs.YtfbambemjokmgaaGreat
