import Derived.Lib.Hide
namespace Go.Proofs.YtkfabocnhkmneaaDoor

/-! Sums of bytes, plainly: on natural numbers. -/

theorem testBit_div_pow (c k i : Nat) : (c / 2 ^ k).testBit i = c.testBit (k + i) := by
  rw [Nat.testBit_div_two_pow, Nat.add_comm]

theorem xor_div_pow (a b k : Nat) : (a ^^^ b) / 2 ^ k = a / 2 ^ k ^^^ b / 2 ^ k := by
  apply Nat.eq_of_testBit_eq; intro i
  rw [testBit_div_pow, Nat.testBit_xor, Nat.testBit_xor, testBit_div_pow, testBit_div_pow]

theorem xor_mod_pow (a b k : Nat) : (a ^^^ b) % 2 ^ k = a % 2 ^ k ^^^ b % 2 ^ k := by
  apply Nat.eq_of_testBit_eq; intro i
  rw [Nat.testBit_mod_two_pow, Nat.testBit_xor, Nat.testBit_xor, Nat.testBit_mod_two_pow, Nat.testBit_mod_two_pow]
  cases decide (i < k) <;> simp

theorem xor_of_zero {a b : Nat} (h : a ^^^ b = 0) : a = b := by
  have e : a ^^^ b ^^^ b = b := by rw [h, Nat.zero_xor]
  rwa [Nat.xor_assoc, Nat.xor_self, Nat.xor_zero] at e

theorem xor_four (a b c d : Nat) : a ^^^ b ^^^ (c ^^^ d) = a ^^^ c ^^^ (b ^^^ d) := by
  rw [Nat.xor_assoc, Nat.xor_assoc, ← Nat.xor_assoc b c d, Nat.xor_comm b c, Nat.xor_assoc c b d]

/-- one bit down -/
def sh (c : Nat) : Nat := c / 2 ^^^ (if c % 2 = 1 then 3988292384 else 0)

theorem sh_lt {c : Nat} (h : c < 4294967296) : sh c < 4294967296 := by
  have : sh c < 2 ^ 32 := Nat.xor_lt_two_pow (by omega) (by split <;> decide)
  omega

theorem sh_zero0 : sh 0 = 0 := by decide

theorem sh_xor (a b : Nat) : sh (a ^^^ b) = sh a ^^^ sh b := by
  unfold sh
  have h1 := xor_div_pow a b 1
  have h2 := xor_mod_pow a b 1
  simp only [Nat.pow_one] at h1 h2
  rw [h1, h2, xor_four]
  congr 1
  rcases Nat.mod_two_eq_zero_or_one a with ha | ha <;> rcases Nat.mod_two_eq_zero_or_one b with hb | hb <;> rw [ha, hb] <;> decide

theorem sh_eq_zero {c : Nat} (h : c < 4294967296) (e : sh c = 0) : c = 0 := by
  unfold sh at e
  have e2 := xor_of_zero e
  split at e2
  · omega
  · omega

theorem sh_inj {a b : Nat} (ha : a < 4294967296) (hb : b < 4294967296) (e : sh a = sh b) : a = b := by
  have hx : a ^^^ b < 2 ^ 32 := Nat.xor_lt_two_pow (by omega) (by omega)
  refine xor_of_zero (sh_eq_zero (by omega) ?_)
  rw [sh_xor, e, Nat.xor_self]

theorem sh_twice {y : Nat} : sh (2 * y) = y := by
  unfold sh
  have h1 : 2 * y % 2 = 0 := by omega
  have h2 : 2 * y / 2 = y := by omega
  rw [h1, h2]; simp

/-- bits down, many -/
def shN : Nat → Nat → Nat
  | 0, c => c
  | n + 1, c => shN n (sh c)

theorem shN_lt (n : Nat) {c : Nat} (h : c < 4294967296) : shN n c < 4294967296 := by
  induction n generalizing c with
  | zero => exact h
  | succ n ih => exact ih (sh_lt h)

theorem shN_xor (n a b : Nat) : shN n (a ^^^ b) = shN n a ^^^ shN n b := by
  induction n generalizing a b with
  | zero => rfl
  | succ n ih => simp only [shN, sh_xor, ih]

theorem shN_inj (n : Nat) {a b : Nat} (ha : a < 4294967296) (hb : b < 4294967296) (e : shN n a = shN n b) : a = b := by
  induction n generalizing a b with
  | zero => exact e
  | succ n ih => exact sh_inj ha hb (ih (sh_lt ha) (sh_lt hb) e)

theorem shN_eq_zero (n : Nat) {a : Nat} (ha : a < 4294967296) (e : shN n a = 0) : a = 0 := by
  have z : shN n 0 = 0 := by
    have := shN_xor n 0 0
    rw [Nat.xor_self, Nat.xor_self] at this; exact this
  exact shN_inj n ha (by decide) (by rw [e, z])

theorem shN_pow (n y : Nat) : shN n (2 ^ n * y) = y := by
  induction n generalizing y with
  | zero => simp [shN]
  | succ n ih =>
    have : 2 ^ (n + 1) * y = 2 * (2 ^ n * y) := by rw [Nat.pow_succ]; ac_rfl
    simp only [shN, this, sh_twice, ih]

theorem shN_add (m n c : Nat) : shN (m + n) c = shN n (shN m c) := by
  induction m generalizing c with
  | zero => simp [shN]
  | succ m ih => rw [Nat.succ_add]; simp only [shN, ih]

theorem split_pow (c n : Nat) : c = c % 2 ^ n ^^^ 2 ^ n * (c / 2 ^ n) := by
  apply Nat.eq_of_testBit_eq; intro i
  rw [Nat.testBit_xor, Nat.testBit_mod_two_pow, Nat.testBit_two_pow_mul, testBit_div_pow]
  by_cases h : i < n
  · have h2 : ¬ n ≤ i := by omega
    simp [h, h2]
  · have h2 : n ≤ i := by omega
    simp [h, h2]

/-- by a table: the lowest n bits go their way alone -/
theorem shN_split (n c : Nat) : shN n c = shN n (c % 2 ^ n) ^^^ c / 2 ^ n := by
  conv => lhs; rw [split_pow c n]
  rw [shN_xor, shN_pow]

/-- a byte -/
def byt (c b : Nat) : Nat := shN 8 (c ^^^ b)

theorem byt_lt {c b : Nat} (hc : c < 4294967296) (hb : b < 256) : byt c b < 4294967296 := by
  have hx : c ^^^ b < 2 ^ 32 := Nat.xor_lt_two_pow (by omega) (by omega)
  exact shN_lt 8 (by omega)

/-- bytes -/
def byts : Nat → List Nat → Nat
  | c, [] => c
  | c, b :: l => byts (byt c b) l

theorem byts_append (c : Nat) (l m : List Nat) : byts c (l ++ m) = byts (byts c l) m := by
  induction l generalizing c with
  | nil => rfl
  | cons b l ih => exact ih _

theorem byts_lt {c : Nat} {l : List Nat} (hc : c < 4294967296) (hl : ∀ b ∈ l, b < 256) : byts c l < 4294967296 := by
  induction l generalizing c with
  | nil => exact hc
  | cons b l ih => exact ih (byt_lt hc (hl b List.mem_cons_self)) (fun x hx => hl x (List.mem_cons_of_mem _ hx))

theorem byts_inj {c d : Nat} {l : List Nat} (hc : c < 4294967296) (hd : d < 4294967296) (hl : ∀ b ∈ l, b < 256) (e : byts c l = byts d l) : c = d := by
  induction l generalizing c d with
  | nil => exact e
  | cons b l ih =>
    have hb := hl b List.mem_cons_self
    have h := ih (byt_lt hc hb) (byt_lt hd hb) (fun x hx => hl x (List.mem_cons_of_mem _ hx)) e
    have h1 : c ^^^ b < 2 ^ 32 := Nat.xor_lt_two_pow (by omega) (by omega)
    have h2 : d ^^^ b < 2 ^ 32 := Nat.xor_lt_two_pow (by omega) (by omega)
    have h3 := shN_inj 8 (by omega) (by omega) h
    refine xor_of_zero ?_
    have : c ^^^ d = c ^^^ b ^^^ (d ^^^ b) := by rw [xor_four, Nat.xor_self, Nat.xor_zero]
    rw [this, h3, Nat.xor_self]

/-- three rows, turned by each other -/
def mix3 : List Nat → List Nat → List Nat → List Nat
  | a :: l, b :: m, c :: n => (a ^^^ b ^^^ c) :: mix3 l m n
  | _, _, _ => []

theorem byt_xor3 (x y z a b c : Nat) : byt (x ^^^ y ^^^ z) (a ^^^ b ^^^ c) = byt x a ^^^ byt y b ^^^ byt z c := by
  unfold byt
  rw [xor_four (x ^^^ y) z (a ^^^ b) c, xor_four x y a b, shN_xor, shN_xor]

theorem byts_mix3 (x y z : Nat) : ∀ (l m n : List Nat), m.length = l.length → n.length = l.length →
    byts (x ^^^ y ^^^ z) (mix3 l m n) = byts x l ^^^ byts y m ^^^ byts z n := by
  intro l
  induction l generalizing x y z with
  | nil =>
    intro m n hm hn
    cases m with
    | nil => cases n with
      | nil => rfl
      | cons c n => simp at hn
    | cons b m => simp at hm
  | cons a l ih =>
    intro m n hm hn
    cases m with
    | nil => simp at hm
    | cons b m => cases n with
      | nil => simp at hn
      | cons c n =>
        simp only [List.length_cons, Nat.add_right_cancel_iff] at hm hn
        simp only [mix3, byts, byt_xor3]
        exact ih _ _ _ m n hm hn

/-- a byte that comes later, as bits further up -/
theorem byt_up (a d : Nat) : shN 8 a ^^^ d = shN 8 (a ^^^ 256 * d) := by
  rw [shN_xor]
  have := shN_pow 8 d
  rw [show (2 : Nat) ^ 8 = 256 from rfl] at this
  rw [this]

theorem shN_succ_up (n : Nat) (a d : Nat) : byt (shN (8 * n) a) d = shN (8 * (n + 1)) (a ^^^ 2 ^ (8 * n) * d) := by
  unfold byt
  have h : 8 * (n + 1) = 8 * n + 8 := by omega
  rw [h, shN_add]
  congr 1
  rw [shN_xor, shN_pow]

/-- four bytes at once -/
theorem four_at_once (c a b d e : Nat) : byts c [a, b, d, e] = shN 32 (c ^^^ a ^^^ 256 * b ^^^ 65536 * d ^^^ 16777216 * e) := by
  have h0 : byt c a = shN (8 * 1) (c ^^^ a) := rfl
  simp only [byts]
  rw [h0, shN_succ_up 1, shN_succ_up 2, shN_succ_up 3]

theorem four_of (y : Nat) (hy : y < 4294967296) :
    y % 256 ^^^ 256 * (y / 256 % 256) ^^^ 65536 * (y / 65536 % 256) ^^^ 16777216 * (y / 16777216 % 256) = y := by
  have h1 := split_pow y 8
  have h2 := split_pow (y / 256) 8
  have h3 := split_pow (y / 65536) 8
  rw [show (2 : Nat) ^ 8 = 256 from rfl] at h1 h2 h3
  have e2 : y / 256 / 256 = y / 65536 := by rw [Nat.div_div_eq_div_mul]
  have e3 : y / 65536 / 256 = y / 16777216 := by rw [Nat.div_div_eq_div_mul]
  have e4 : y / 16777216 % 256 = y / 16777216 := Nat.mod_eq_of_lt (by omega)
  have m1 (k a b : Nat) : 2 ^ k * (a ^^^ b) = 2 ^ k * a ^^^ 2 ^ k * b := by
    apply Nat.eq_of_testBit_eq; intro i
    simp only [Nat.testBit_xor, Nat.testBit_two_pow_mul]
    cases decide (i ≥ k) <;> simp
  have t1 : 65536 * (y / 65536 % 256) ^^^ 16777216 * (y / 16777216 % 256) = 65536 * (y / 65536) := by
    conv => rhs; rw [h3]
    rw [show (65536 : Nat) = 2 ^ 16 from rfl, m1 16, e4]
    rw [show (2 : Nat) ^ 16 = 65536 from rfl, e3, ← Nat.mul_assoc]
  have t2 : 256 * (y / 256 % 256) ^^^ 65536 * (y / 65536) = 256 * (y / 256) := by
    conv => rhs; rw [h2]
    rw [show (256 : Nat) * (y / 256 % 256 ^^^ 256 * (y / 256 / 256)) = 2 ^ 8 * (y / 256 % 256 ^^^ 256 * (y / 256 / 256)) from rfl, m1 8]
    rw [show (2 : Nat) ^ 8 = 256 from rfl, e2, ← Nat.mul_assoc]
  rw [Nat.xor_assoc, t1, Nat.xor_assoc, t2]
  exact h1.symm

/-- four bytes, turned by a number that isn't 0: another sum -/
theorem turned_four (c a b d e : Nat) {y : Nat} (hy : y < 4294967296) (h0 : y ≠ 0) :
    byts c [a ^^^ y % 256, b ^^^ y / 256 % 256, d ^^^ y / 65536 % 256, e ^^^ y / 16777216 % 256] ≠ byts c [a, b, d, e] := by
  intro h
  have hz : byts (c ^^^ c ^^^ 0) (mix3 [a, b, d, e] [a ^^^ y % 256, b ^^^ y / 256 % 256, d ^^^ y / 65536 % 256, e ^^^ y / 16777216 % 256] [0, 0, 0, 0])
      = byts c [a, b, d, e] ^^^ byts c [a ^^^ y % 256, b ^^^ y / 256 % 256, d ^^^ y / 65536 % 256, e ^^^ y / 16777216 % 256] ^^^ byts 0 [0, 0, 0, 0] :=
    byts_mix3 c c 0 _ _ _ rfl rfl
  have z0 : byts 0 [0, 0, 0, 0] = 0 := by decide
  have xx (p q : Nat) : p ^^^ (p ^^^ q) = q := by rw [← Nat.xor_assoc, Nat.xor_self, Nat.zero_xor]
  rw [h, z0, Nat.xor_zero, Nat.xor_self, Nat.xor_self, Nat.xor_zero] at hz
  simp only [mix3, xx, Nat.xor_zero] at hz
  rw [four_at_once, Nat.zero_xor, four_of y hy] at hz
  exact h0 (shN_eq_zero 32 hy hz)

/-- and whatever stands ahead of them, and behind them -/
theorem turned_all {c : Nat} {l m : List Nat} {a b d e y : Nat} (hc : c < 4294967296) (hl : ∀ x ∈ l, x < 256) (hm : ∀ x ∈ m, x < 256)
    (ha : a < 256) (hb : b < 256) (hd : d < 256) (he : e < 256) (hy : y < 4294967296) (h0 : y ≠ 0) :
    byts c (l ++ [a ^^^ y % 256, b ^^^ y / 256 % 256, d ^^^ y / 65536 % 256, e ^^^ y / 16777216 % 256] ++ m) ≠ byts c (l ++ [a, b, d, e] ++ m) := by
  intro h
  rw [byts_append, byts_append, byts_append, byts_append] at h
  have hx : ∀ p q : Nat, p < 256 → q < 256 → p ^^^ q < 256 := fun p q hp hq => by
    have : p ^^^ q < 2 ^ 8 := Nat.xor_lt_two_pow (by omega) (by omega)
    omega
  have hcl := byts_lt hc hl
  refine turned_four (byts c l) a b d e hy h0 (byts_inj (byts_lt hcl ?_) (byts_lt hcl ?_) hm h)
  · intro x hxm
    simp only [List.mem_cons, List.not_mem_nil, or_false] at hxm
    rcases hxm with rfl | rfl | rfl | rfl <;> exact hx _ _ (by omega) (by omega)
  · intro x hxm
    simp only [List.mem_cons, List.not_mem_nil, or_false] at hxm
    rcases hxm with rfl | rfl | rfl | rfl <;> omega

end Go.Proofs.YtkfabocnhkmneaaDoor
