/- Colours: who is near whom, who takes which, what comes of it (the mathematics of layer 11). -/
import Derived.Test.YtdfleocknaackaaGreatP3
namespace Go.Proofs.YtdfleocknaackaaGreat

def rnear (N : Int) (E : List Edge) (a : Int) : List Int := ((List.range N.toNat).map (fun i : Nat => (i : Int))).filter fun b => decide (btw a b ∈ E)
theorem mem_rnear {N : Int} {E : List Edge} (ok : OkG N E) {a x : Int} : x ∈ rnear N E a ↔ btw a x ∈ E := by
  unfold rnear
  simp only [List.mem_filter, List.mem_map, List.mem_range, decide_eq_true_eq]
  constructor
  · exact fun h => h.2
  · intro h
    have := ok.each _ h
    simp only [btw] at this
    exact ⟨⟨x.toNat, by omega, by omega⟩, h⟩
theorem near_in {N : Int} {E : List Edge} (ok : OkG N E) {a x : Int} (h : btw a x ∈ E) : 0 ≤ a ∧ a < N ∧ 0 ≤ x ∧ x < N ∧ a ≠ x := by
  have := ok.each _ h
  simp only [btw] at this
  omega
theorem near_rnear {N : Int} {E : List Edge} (ok : OkG N E) {a x : Int} : x ∈ nearOf E a ↔ x ∈ rnear N E a := by
  rw [mem_rnear ok, mem_nearOf (fun e he => (ok.each e he).2.1)]
theorem btw_swap {E : List Edge} {a x : Int} (h : btw a x ∈ E) : btw x a ∈ E := by rw [btw_comm]; exact h

def col (c : List Int) (w : Int) : Int := c.getD w.toNat 0
def waits (c L : List Int) (a : Int) : Bool := L.any fun w => decide (a < w) && (col c w == 0)
def takenB (c L : List Int) (k : Int) : Bool := L.any fun w => col c w == k
theorem any_mem {α : Type} {L M : List α} (h : ∀ x, x ∈ L ↔ x ∈ M) (p : α → Bool) : L.any p = M.any p := by
  rw [Bool.eq_iff_iff, List.any_eq_true, List.any_eq_true]
  exact ⟨fun ⟨x, a, b⟩ => ⟨x, (h x).1 a, b⟩, fun ⟨x, a, b⟩ => ⟨x, (h x).2 a, b⟩⟩
theorem any_same {α : Type} {L : List α} {p q : α → Bool} (h : ∀ x ∈ L, p x = q x) : L.any p = L.any q := by
  rw [Bool.eq_iff_iff, List.any_eq_true, List.any_eq_true]
  exact ⟨fun ⟨x, a, b⟩ => ⟨x, a, h x a ▸ b⟩, fun ⟨x, a, b⟩ => ⟨x, a, (h x a).symm ▸ b⟩⟩

/-- the least number from 1 on that isn't told of -/
structure IsLeast (t : Int → Bool) (m : Int) : Prop where
  pos : 1 ≤ m
  free : t m = false
  low : ∀ k, 1 ≤ k → k < m → t k = true
theorem IsLeast.uniq {t : Int → Bool} {m n : Int} (h : IsLeast t m) (g : IsLeast t n) : m = n := by
  rcases Int.lt_trichotomy m n with x | x | x
  · have := g.low m h.pos x; rw [h.free] at this; cases this
  · exact x
  · have := h.low n g.pos x; rw [g.free] at this; cases this
theorem IsLeast.congr {t u : Int → Bool} {m : Int} (g : IsLeast t m) (h : ∀ k, 1 ≤ k → t k = u k) : IsLeast u m :=
  ⟨g.pos, (h m g.pos).symm.trans g.free, fun k a b => (h k a).symm.trans (g.low k a b)⟩
theorem row_full : ∀ (n : Nat) (L : List Int) (k : Int), (∀ j : Nat, j < n → k + j ∈ L) → n ≤ L.length
  | 0, _, _, _ => Nat.zero_le _
  | n + 1, L, k, h => by
    have h1 := h n (by omega)
    have h2 := row_full n (L.erase (k + n)) k fun j hj => (List.mem_erase_of_ne (by omega)).2 (h j (by omega))
    rw [List.length_erase_of_mem h1] at h2
    have := List.length_pos_of_mem h1
    omega
theorem IsLeast.le {t : Int → Bool} {m : Int} (h : IsLeast t m) {M : List Int} (hM : ∀ k, t k = true → k ∈ M) : m ≤ M.length + 1 := by
  have h1 := row_full (m - 1).toNat M 1 fun j hj => hM _ (h.low _ (by omega) (by omega))
  have := h.pos
  omega
def lf (t : Int → Bool) : Nat → Int → Int
  | 0, k => k
  | n + 1, k => if t k = true then lf t n (k + 1) else k
theorem lf_spec (t : Int → Bool) : ∀ (n : Nat) (k : Int), (t (lf t n k) = false ∨ lf t n k = k + n) ∧ k ≤ lf t n k ∧ lf t n k ≤ k + n ∧ ∀ j, k ≤ j → j < lf t n k → t j = true
  | 0, k => ⟨.inr (by simp [lf]), by simp [lf], by simp [lf], fun j h1 h2 => by simp [lf] at h2; omega⟩
  | n + 1, k => by
    unfold lf
    split
    · next h =>
      obtain ⟨a, b, c, d⟩ := lf_spec t n (k + 1)
      refine ⟨?_, by omega, by omega, fun j h1 h2 => ?_⟩
      · rcases a with a | a
        · exact .inl a
        · exact .inr (by omega)
      · by_cases e : j = k
        · subst e; exact h
        · exact d j (by omega) h2
    · next h => exact ⟨.inl (by simpa using h), by omega, by omega, fun j h1 h2 => by omega⟩
def leastFree (t : Int → Bool) (n : Nat) : Int := lf t n 1
theorem least_is {t : Int → Bool} {n : Nat} {M : List Int} (hn : M.length < n) (hM : ∀ k, t k = true → k ∈ M) : IsLeast t (leastFree t n) := by
  obtain ⟨a, b, c, d⟩ := lf_spec t n 1
  refine ⟨b, ?_, fun k h1 h2 => d k h1 h2⟩
  rcases a with a | a
  · exact a
  · have := row_full n M 1 fun j hj => hM _ (d _ (by omega) (by omega))
    omega
theorem taken_mem {c L : List Int} {k : Int} (h : takenB c L k = true) : k ∈ L.map (col c) := by
  obtain ⟨w, hw, e⟩ := List.any_eq_true.1 h
  exact List.mem_map.2 ⟨w, hw, by simpa using e⟩

/-- what a node has behind a round, of those that it is near to -/
def take1 (c L : List Int) (a : Int) : Int := if col c a = 0 ∧ waits c L a = false then leastFree (takenB c L) (L.length + 1) else col c a
theorem take1_keeps {c L : List Int} {a : Int} (h : col c a ≠ 0) : take1 c L a = col c a := by unfold take1; rw [if_neg (fun e => h e.1)]
theorem take1_waits {c L : List Int} {a : Int} (h : waits c L a = true) : take1 c L a = col c a := by unfold take1; rw [if_neg (fun e => by rw [h] at e; cases e.2)]
theorem take1_takes {c L : List Int} {a : Int} (h : col c a = 0) (g : waits c L a = false) : IsLeast (takenB c L) (take1 c L a) := by
  unfold take1
  rw [if_pos ⟨h, g⟩]
  exact least_is (by rw [List.length_map]; omega) fun k hk => taken_mem hk
theorem take1_mem {c L M : List Int} {a : Int} (h : ∀ x, x ∈ L ↔ x ∈ M) : take1 c L a = take1 c M a := by
  have e1 : waits c L a = waits c M a := any_mem h _
  have e2 : takenB c L = takenB c M := funext fun k => any_mem h _
  by_cases h0 : col c a = 0
  · cases hw : waits c M a with
    | true => rw [take1_waits hw, take1_waits (e1.trans hw)]
    | false =>
      have g := take1_takes h0 hw
      rw [← e2] at g
      exact (take1_takes h0 (e1.trans hw)).uniq g
  · rw [take1_keeps h0, take1_keeps h0]

/-- the colours behind a round -/
def roundL (N : Int) (E : List Edge) (c : List Int) : List Int := (List.range N.toNat).map fun i : Nat => take1 c (rnear N E i) i
theorem roundL_length (N : Int) (E : List Edge) (c : List Int) : (roundL N E c).length = N.toNat := by simp [roundL]
theorem col_round {N : Int} {E : List Edge} {c : List Int} {i : Int} (h0 : 0 ≤ i) (h1 : i < N) : col (roundL N E c) i = take1 c (rnear N E i) i := by
  unfold col roundL
  rw [List.getD_eq_getElem?_getD, List.getElem?_map, List.getElem?_range (by omega)]
  simp only [Option.map_some, Option.getD_some]
  rw [Int.toNat_of_nonneg h0]
theorem zero_mem {c : List Int} : (0 : Int) ∈ c ↔ ∃ i, i < c.length ∧ c.getD i 0 = 0 := by
  rw [List.mem_iff_getElem]
  constructor
  · rintro ⟨i, hi, e⟩
    exact ⟨i, hi, by rw [List.getD_eq_getElem?_getD, List.getElem?_eq_getElem hi]; exact e⟩
  · rintro ⟨i, hi, e⟩
    exact ⟨i, hi, by rw [List.getD_eq_getElem?_getD, List.getElem?_eq_getElem hi] at e; exact e⟩
theorem top_one (p : Nat → Prop) : ∀ n : Nat, (∃ i, i < n ∧ p i) → ∃ i, i < n ∧ p i ∧ ∀ j, i < j → j < n → ¬ p j
  | 0, ⟨i, h, _⟩ => absurd h (Nat.not_lt_zero _)
  | n + 1, h => by
    by_cases hn : p n
    · exact ⟨n, by omega, hn, fun j h1 h2 => by omega⟩
    · obtain ⟨i, hi, hp⟩ := h
      have : i ≠ n := fun e => hn (e ▸ hp)
      obtain ⟨k, h1, h2, h3⟩ := top_one p n ⟨i, by omega, hp⟩
      refine ⟨k, by omega, h2, fun j a b => ?_⟩
      by_cases e : j = n
      · subst e; exact hn
      · exact h3 j a (by omega)
/-- if one has none, somebody takes one -/
theorem round_takes {N : Int} {E : List Edge} {c : List Int} (ok : OkG N E) (hl : c.length = N.toNat) (h : (0 : Int) ∈ c) : ∃ a : Int, 0 ≤ a ∧ a < N ∧ col c a = 0 ∧ 1 ≤ col (roundL N E c) a := by
  obtain ⟨i, h1, h2, h3⟩ := top_one (fun i => c.getD i 0 = 0) _ (zero_mem.1 h)
  refine ⟨i, by omega, by omega, h2, ?_⟩
  rw [col_round (by omega) (by omega)]
  refine (take1_takes (a := (i : Int)) h2 ?_).pos
  rw [waits, List.any_eq_false]
  intro w hw
  have hn := near_in ok ((mem_rnear ok).1 hw)
  simp only [Bool.and_eq_true, decide_eq_true_eq, beq_iff_eq, not_and]
  intro hlt
  exact h3 w.toNat (by omega) (by omega)
theorem round_zero {N : Int} {E : List Edge} {c : List Int} {a : Int} (h0 : 0 ≤ a) (h1 : a < N) (h : col (roundL N E c) a = 0) : col c a = 0 := by
  rw [col_round h0 h1] at h
  by_cases e : col c a = 0
  · exact e
  · rw [take1_keeps e] at h; exact h

def zeros (n : Nat) (c : List Int) : Nat := (List.range n).countP fun i => c.getD i 0 == 0
theorem countP_less {α : Type} {p q : α → Bool} {x : α} (hq : q x = true) (hp : p x = false) : ∀ {l : List α}, (∀ y ∈ l, p y = true → q y = true) → x ∈ l → l.countP p < l.countP q
  | [], _, h => by cases h
  | y :: l, h, hx => by
    have hm : l.countP p ≤ l.countP q := List.countP_mono_left fun z hz => h z (List.mem_cons_of_mem _ hz)
    rw [List.countP_cons, List.countP_cons]
    rcases List.mem_cons.1 hx with rfl | hx
    · simp only [hq, hp, if_true, Bool.false_eq_true, if_false]; omega
    · have := countP_less hq hp (fun z hz => h z (List.mem_cons_of_mem _ hz)) hx
      have h3 := h y (by simp)
      cases e : p y <;> cases e' : q y
      · simp; omega
      · simp; omega
      · rw [h3 e] at e'; cases e'
      · simp; omega
theorem zeros_less {N : Int} {E : List Edge} {c : List Int} (ok : OkG N E) (hl : c.length = N.toNat) (h : (0 : Int) ∈ c) : zeros N.toNat (roundL N E c) < zeros N.toNat c := by
  obtain ⟨a, h0, h1, h2, h3⟩ := round_takes ok hl h
  refine countP_less (x := a.toNat) ?_ ?_ (fun y hy => ?_) (List.mem_range.2 (by omega))
  · show (col c a == 0) = true
    simp [h2]
  · show (col (roundL N E c) a == 0) = false
    simp; omega
  · have hy := List.mem_range.1 hy
    have := round_zero (N := N) (E := E) (c := c) (a := (y : Int)) (by omega) (by omega)
    simpa [col] using this

/-- what holds behind any rounds -/
structure Inv (N : Int) (E : List Edge) (c : List Int) : Prop where
  len : c.length = N.toNat
  each : ∀ a, 0 ≤ a → a < N → col c a = 0 ∨ ((∀ w, btw a w ∈ E → a < w → col c w ≠ 0) ∧ IsLeast (fun k => (rnear N E a).any fun w => decide (a < w) && (col c w == k)) (col c a))
theorem Inv.round {N : Int} {E : List Edge} {c : List Int} (ok : OkG N E) (h : Inv N E c) : Inv N E (roundL N E c) := by
  refine ⟨roundL_length _ _ _, fun a h0 h1 => ?_⟩
  have keep : ∀ w, btw a w ∈ E → col c w ≠ 0 → col (roundL N E c) w = col c w := fun w hw hc => by
    have hn := near_in ok hw
    rw [col_round hn.2.2.1 hn.2.2.2.1, take1_keeps hc]
  rw [col_round h0 h1]
  by_cases hc : col c a = 0
  · cases hw : waits c (rnear N E a) a with
    | true => exact .inl (by rw [take1_waits hw]; exact hc)
    | false =>
      have up : ∀ w, btw a w ∈ E → a < w → col c w ≠ 0 := fun w hn hlt e => by
        have := List.any_eq_false.1 hw w ((mem_rnear ok).2 hn)
        simp [hlt, e] at this
      refine .inr ⟨fun w hn hlt => by rw [keep w hn (up w hn hlt)]; exact up w hn hlt, ?_⟩
      refine (take1_takes hc hw).congr fun k hk => ?_
      unfold takenB
      refine any_same fun w hm => ?_
      have hn := (mem_rnear ok).1 hm
      have hi := near_in ok hn
      rcases Int.lt_or_le a w with hlt | hle
      · rw [keep w hn (up w hn hlt)]; simp [hlt]
      · have hz : col c w = 0 := by
          rcases h.each w hi.2.2.1 hi.2.2.2.1 with e | ⟨g, _⟩
          · exact e
          · exact absurd hc (g a (btw_swap hn) (by omega))
        rw [hz, decide_eq_false (by omega)]
        simp; omega
  · rw [take1_keeps hc]
    obtain ⟨g, l⟩ := (h.each a h0 h1).resolve_left hc
    refine .inr ⟨fun w hn hlt => by rw [keep w hn (g w hn hlt)]; exact g w hn hlt, l.congr fun k _ => any_same fun w hm => ?_⟩
    have hn := (mem_rnear ok).1 hm
    by_cases hlt : a < w
    · rw [keep w hn (g w hn hlt)]
    · simp [hlt]

/-- behind k rounds, from none on -/
def itr (N : Int) (E : List Edge) : Nat → List Int
  | 0 => List.replicate N.toNat 0
  | k + 1 => roundL N E (itr N E k)
theorem col_none (n : Nat) (a : Int) : col (List.replicate n 0) a = 0 := by
  unfold col
  rw [List.getD_eq_getElem?_getD, List.getElem?_replicate]
  split <;> rfl
theorem itr_length (N : Int) (E : List Edge) : ∀ k, (itr N E k).length = N.toNat
  | 0 => by simp [itr]
  | k + 1 => roundL_length _ _ _
theorem itr_inv {N : Int} {E : List Edge} (ok : OkG N E) : ∀ k, Inv N E (itr N E k)
  | 0 => ⟨by simp [itr], fun a _ _ => .inl (col_none _ _)⟩
  | k + 1 => (itr_inv ok k).round ok
theorem itr_zeros {N : Int} {E : List Edge} (ok : OkG N E) : ∀ k, (∀ j, j < k → (0 : Int) ∈ itr N E j) → zeros N.toNat (itr N E k) + k ≤ N.toNat
  | 0, _ => by
    have := List.countP_le_length (p := fun i => (itr N E 0).getD i 0 == 0) (l := List.range N.toNat)
    rw [List.length_range] at this
    exact this
  | k + 1, h => by
    have h1 := itr_zeros ok k fun j hj => h j (by omega)
    have h2 := zeros_less ok (itr_length N E k) (h k (by omega))
    show zeros _ (roundL N E _) + _ ≤ _
    omega
def Ends (N : Int) (E : List Edge) (k : Nat) : Prop := (∀ j, j < k → (0 : Int) ∈ itr N E j) ∧ (0 : Int) ∉ itr N E k
theorem Ends.uniq {N : Int} {E : List Edge} {k l : Nat} (h : Ends N E k) (g : Ends N E l) : k = l := by
  rcases Nat.lt_trichotomy k l with x | x | x
  · exact absurd (g.1 k x) h.2
  · exact x
  · exact absurd (h.1 l x) g.2
theorem Ends.le {N : Int} {E : List Edge} (ok : OkG N E) {k : Nat} (h : Ends N E k) : (k : Int) ≤ N := by
  have := itr_zeros ok k h.1
  have := ok.n0
  omega
theorem Ends.pos {N : Int} {E : List Edge} (ok : OkG N E) {k : Nat} (h : Ends N E k) : 0 < k ∨ N = 0 := by
  rcases Nat.eq_zero_or_pos k with rfl | hk
  · have h2 := h.2
    by_cases hn : N = 0
    · exact .inr hn
    · have := ok.n0
      exact absurd (zero_mem.2 ⟨0, by rw [itr_length]; omega, by show (List.replicate N.toNat (0 : Int)).getD 0 0 = 0; exact col_none _ 0⟩) h2
  · exact .inl hk
theorem Ends.least {N : Int} {E : List Edge} (ok : OkG N E) {k : Nat} (h : Ends N E k) {a : Int} (h0 : 0 ≤ a) (h1 : a < N) : IsLeast (fun x => (rnear N E a).any fun w => decide (a < w) && (col (itr N E k) w == x)) (col (itr N E k) a) := by
  rcases (itr_inv ok k).each a h0 h1 with e | ⟨_, l⟩
  · exact absurd (zero_mem.2 ⟨a.toNat, by rw [itr_length]; omega, e⟩) h.2
  · exact l
theorem Ends.few {N : Int} {E : List Edge} (ok : OkG N E) {k : Nat} (h : Ends N E k) {a : Int} (h0 : 0 ≤ a) (h1 : a < N) : col (itr N E k) a ≤ (rnear N E a).length + 1 := by
  have := (h.least ok h0 h1).le (M := (rnear N E a).map (col (itr N E k))) fun x hx => by
    obtain ⟨w, hw, e⟩ := List.any_eq_true.1 hx
    simp only [Bool.and_eq_true, beq_iff_eq] at e
    exact List.mem_map.2 ⟨w, hw, e.2⟩
  rwa [List.length_map] at this

/-- whether colours are those of a graph -/
def rightB (N : Int) (E : List Edge) (c : List Int) : Bool := okG N E && decide (c.length = N.toNat) && (List.range c.length).all fun i : Nat => decide (1 ≤ col c i) && !takenB c (rnear N E i) (col c i)
theorem Ends.right {N : Int} {E : List Edge} (ok : OkG N E) {k : Nat} (h : Ends N E k) : rightB N E (itr N E k) = true := by
  unfold rightB
  rw [Bool.and_eq_true, Bool.and_eq_true, List.all_eq_true]
  refine ⟨⟨okG_iff.2 ok, decide_eq_true (itr_length N E k)⟩, fun i hi => ?_⟩
  have hi := List.mem_range.1 hi
  rw [itr_length] at hi
  have l := h.least ok (a := (i : Int)) (by omega) (by omega)
  rw [Bool.and_eq_true, decide_eq_true_eq, Bool.not_eq_true']
  refine ⟨l.pos, ?_⟩
  unfold takenB
  rw [List.any_eq_false]
  intro w hw e
  have e : col (itr N E k) w = col (itr N E k) i := by simpa using e
  have hn := (mem_rnear ok).1 hw
  have hi2 := near_in ok hn
  rcases Int.lt_or_le (i : Int) w with hlt | hle
  · have := List.any_eq_false.1 l.free w hw
    simp [hlt, e] at this
  · have l2 := h.least ok hi2.2.2.1 hi2.2.2.2.1
    have := List.any_eq_false.1 l2.free (i : Int) ((mem_rnear ok).2 (btw_swap hn))
    simp [e] at this
    omega
/-- .. as the document asks it -/
def rightD (N : Int) (E : List Edge) (c : List Int) : Bool := okG N E && (decide ((c.length : Int) = N) && c.all fun x => decide (0 ≤ x)) && !decide ((0 : Int) ∈ c) && E.all fun e => !(col c e.a == col c e.b)
theorem col_mem {c : List Int} {a : Int} (h0 : 0 ≤ a) (h1 : a < c.length) : col c a ∈ c := by
  have hl : a.toNat < c.length := by omega
  unfold col
  rw [List.getD_eq_getElem?_getD, List.getElem?_eq_getElem hl]
  exact List.getElem_mem hl
theorem mem_col {c : List Int} {x : Int} (h : x ∈ c) : ∃ i : Nat, i < c.length ∧ col c i = x := by
  obtain ⟨i, hi, e⟩ := List.mem_iff_getElem.1 h
  exact ⟨i, hi, by unfold col; rw [List.getD_eq_getElem?_getD, Int.toNat_natCast, List.getElem?_eq_getElem hi]; exact e⟩
theorem right_eq (N : Int) (E : List Edge) (c : List Int) : rightB N E c = rightD N E c := by
  rw [Bool.eq_iff_iff]
  unfold rightB rightD
  simp only [Bool.and_eq_true, List.all_eq_true, decide_eq_true_eq, Bool.not_eq_true', decide_eq_false_iff_not, beq_eq_false_iff_ne, List.mem_range]
  constructor
  · rintro ⟨⟨h1, h2⟩, h3⟩
    have ok := okG_iff.1 h1
    have n0 := ok.n0
    have all1 : ∀ x ∈ c, 1 ≤ x := fun x hx => by
      obtain ⟨i, hi, e⟩ := mem_col hx
      rw [← e]; exact (h3 i hi).1
    refine ⟨⟨⟨h1, by omega, fun x hx => by have := all1 x hx; omega⟩, fun h0 => by have := all1 0 h0; omega⟩, fun e he hc => ?_⟩
    have hb := ok.each e he
    have := (h3 e.a.toNat (by omega)).2
    rw [Int.toNat_of_nonneg hb.1] at this
    have := List.any_eq_false.1 this e.b ((mem_rnear ok).2 (by rw [show btw e.a e.b = e by simp only [btw]; obtain ⟨p, q⟩ := e; simp only [Edge.mk.injEq] at *; omega]; exact he))
    exact this (by simp [hc])
  · rintro ⟨⟨⟨h1, h2, h3⟩, h4⟩, h5⟩
    have ok := okG_iff.1 h1
    have n0 := ok.n0
    refine ⟨⟨h1, by omega⟩, fun i hi => ?_⟩
    have hm : col c i ∈ c := col_mem (by omega) (by omega)
    have := h3 _ hm
    have : col c i ≠ 0 := fun e => h4 (e ▸ hm)
    refine ⟨by omega, ?_⟩
    unfold takenB
    rw [List.any_eq_false]
    intro w hw e
    have e : col c w = col c i := by simpa using e
    have hn := (mem_rnear ok).1 hw
    have := h5 _ hn
    simp only [btw] at this
    rcases Int.le_total (i : Int) w with hle | hle
    · rw [Int.min_eq_left hle, Int.max_eq_right hle] at this; exact this e.symm
    · rw [Int.min_eq_right hle, Int.max_eq_left hle] at this; exact this e

def cForm (N : Int) (c : List Int) : Bool := decide ((c.length : Int) = N) && c.all fun x => decide (0 ≤ x)

/-- the greatest of c and 0 -/
def mostL (c : List Int) : Int := c.foldl (fun m x => max m x) 0
theorem mostL_next {c : List Int} {k : Nat} (h : k < c.length) : mostL (c.take (k + 1)) = max (mostL (c.take k)) (c.getD k 0) := by
  unfold mostL
  rw [List.take_succ_eq_append_getElem h, List.foldl_append]
  simp [h]

end Go.Proofs.YtdfleocknaackaaGreat
