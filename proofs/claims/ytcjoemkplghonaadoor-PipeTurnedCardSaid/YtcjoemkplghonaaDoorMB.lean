/- Bytes: texts as new blocks. -/
import Derived.Test.YtcjoemkplghonaaDoorMA
import Derived.Laws.BytesArg
import Derived.Laws.BytesString
import Derived.Lib.Hide
import Derived.Lib.LaidTab
import Derived.Test.YtcjoemkplghonaaDoorShelf
import Derived.Deep.RegionHeld3
import Derived.Deep.QuietTactic
import Derived.BigQuiet
import Derived.Laws.IdiomStrings
import Derived.Laws.StructEq
import Derived.Lib.AppendStr
namespace Go.Proofs.YtcjoemkplghonaaDoor
open Go.RowKit

/-- a new block's bytes, as a text -/
theorem text_of_new (xs : List Int) (n : Nat) (hn : xs.length = n) (C : Array Value) (hC : C = (xs.map (Value.int .u8)).toArray) (W : World) (c : Nat) :
    (convert 76 9 (.slice (some ⟨W.heap.size, 0, none⟩) n c)).run Tryd.prog (W.alloc (.cells C 5)) = .ok (.string (strOfNums xs)) (W.alloc (.cells C 5)) := by
  subst hC
  refine run_convert_bytes_arg (P := Tryd.prog) (W.alloc _) 76 5 (by kernel_rfl) (by kernel_rfl) W.heap.size 0 n c xs hn (fun i hi => ?_) 9 (by kernel_rfl)
  have h : i < xs.length := by omega
  have : (W.alloc (.cells (xs.map (Value.int .u8)).toArray 5)).cell? ⟨W.heap.size, 0 + i, none⟩ = (xs.map (Value.int .u8)).toArray[0 + i]? := World.cell?_alloc_new W _ _ _
  rw [this]
  simp [h]

theorem text_one (W : World) (n : Nat) (x : Int) (hn : W.heap.size = n) :
    (convert 76 9 (.slice (some ⟨n, 0, none⟩) 1 1)).run Tryd.prog (W.alloc (.cells #[.int .u8 x] 5)) = .ok (.string ⟨#[UInt8.ofNat x.toNat]⟩) (W.alloc (.cells #[.int .u8 x] 5)) :=
  hn ▸ text_of_new [x] 1 rfl _ rfl W 1

/-- a new block's bytes as a text, in every later world -/
theorem text_later (xs : List Int) (W W' : World) (x : Ext (W.alloc (.cells (xs.map (Value.int .u8)).toArray 5)) W') :
    (convert 76 9 (.slice (some ⟨W.heap.size, 0, none⟩) xs.length xs.length)).run Tryd.prog W' = .ok (.string (strOfNums xs)) W' := by
  refine run_convert_bytes_arg (P := Tryd.prog) W' 76 5 (by kernel_rfl) (by kernel_rfl) W.heap.size 0 xs.length xs.length xs rfl (fun i hi => ?_) 9 (by kernel_rfl)
  rw [Nat.zero_add]
  exact cell_at W' x (by simp [hi])

end Go.Proofs.YtcjoemkplghonaaDoor

namespace Go.Proofs.YtcjoemkplghonaaDoor

/-! Sums of bytes, plainly: on natural numbers. -/

theorem testBit_div_pow (c k i : Nat) : (c / 2 ^ k).testBit i = c.testBit (k + i) := by
  rw [Nat.testBit_div_two_pow, Nat.add_comm]

theorem xor_div_pow (a b k : Nat) : (a ^^^ b) / 2 ^ k = a / 2 ^ k ^^^ b / 2 ^ k := by
  apply Nat.eq_of_testBit_eq; intro i
  rw [testBit_div_pow, Nat.testBit_xor, Nat.testBit_xor, testBit_div_pow, testBit_div_pow]

theorem xor_mod_pow (a b k : Nat) : (a ^^^ b) % 2 ^ k = a % 2 ^ k ^^^ b % 2 ^ k := by
  apply Nat.eq_of_testBit_eq; intro i
  rw [Nat.testBit_mod_two_pow, Nat.testBit_xor, Nat.testBit_xor, Nat.testBit_mod_two_pow, Nat.testBit_mod_two_pow]
  cases decide (i < k) <;> simp

theorem xor_of_zero {a b : Nat} (h : a ^^^ b = 0) : a = b := by
  have e : a ^^^ b ^^^ b = b := by rw [h, Nat.zero_xor]
  rwa [Nat.xor_assoc, Nat.xor_self, Nat.xor_zero] at e

theorem xor_four (a b c d : Nat) : a ^^^ b ^^^ (c ^^^ d) = a ^^^ c ^^^ (b ^^^ d) := by
  rw [Nat.xor_assoc, Nat.xor_assoc, ← Nat.xor_assoc b c d, Nat.xor_comm b c, Nat.xor_assoc c b d]

/-- one bit down -/
def sh (c : Nat) : Nat := c / 2 ^^^ (if c % 2 = 1 then 3988292384 else 0)

theorem sh_lt {c : Nat} (h : c < 4294967296) : sh c < 4294967296 := by
  have : sh c < 2 ^ 32 := Nat.xor_lt_two_pow (by omega) (by split <;> decide)
  omega

theorem sh_zero0 : sh 0 = 0 := by decide

theorem sh_xor (a b : Nat) : sh (a ^^^ b) = sh a ^^^ sh b := by
  unfold sh
  have h1 := xor_div_pow a b 1
  have h2 := xor_mod_pow a b 1
  simp only [Nat.pow_one] at h1 h2
  rw [h1, h2, xor_four]
  congr 1
  rcases Nat.mod_two_eq_zero_or_one a with ha | ha <;> rcases Nat.mod_two_eq_zero_or_one b with hb | hb <;> rw [ha, hb] <;> decide

theorem sh_eq_zero {c : Nat} (h : c < 4294967296) (e : sh c = 0) : c = 0 := by
  unfold sh at e
  have e2 := xor_of_zero e
  split at e2
  · omega
  · omega

theorem sh_inj {a b : Nat} (ha : a < 4294967296) (hb : b < 4294967296) (e : sh a = sh b) : a = b := by
  have hx : a ^^^ b < 2 ^ 32 := Nat.xor_lt_two_pow (by omega) (by omega)
  refine xor_of_zero (sh_eq_zero (by omega) ?_)
  rw [sh_xor, e, Nat.xor_self]

theorem sh_twice {y : Nat} : sh (2 * y) = y := by
  unfold sh
  have h1 : 2 * y % 2 = 0 := by omega
  have h2 : 2 * y / 2 = y := by omega
  rw [h1, h2]; simp

/-- bits down, many -/
def shN : Nat → Nat → Nat
  | 0, c => c
  | n + 1, c => shN n (sh c)

theorem shN_lt (n : Nat) {c : Nat} (h : c < 4294967296) : shN n c < 4294967296 := by
  induction n generalizing c with
  | zero => exact h
  | succ n ih => exact ih (sh_lt h)

theorem shN_xor (n a b : Nat) : shN n (a ^^^ b) = shN n a ^^^ shN n b := by
  induction n generalizing a b with
  | zero => rfl
  | succ n ih => simp only [shN, sh_xor, ih]

theorem shN_inj (n : Nat) {a b : Nat} (ha : a < 4294967296) (hb : b < 4294967296) (e : shN n a = shN n b) : a = b := by
  induction n generalizing a b with
  | zero => exact e
  | succ n ih => exact sh_inj ha hb (ih (sh_lt ha) (sh_lt hb) e)

theorem shN_eq_zero (n : Nat) {a : Nat} (ha : a < 4294967296) (e : shN n a = 0) : a = 0 := by
  have z : shN n 0 = 0 := by
    have := shN_xor n 0 0
    rw [Nat.xor_self, Nat.xor_self] at this; exact this
  exact shN_inj n ha (by decide) (by rw [e, z])

theorem shN_pow (n y : Nat) : shN n (2 ^ n * y) = y := by
  induction n generalizing y with
  | zero => simp [shN]
  | succ n ih =>
    have : 2 ^ (n + 1) * y = 2 * (2 ^ n * y) := by rw [Nat.pow_succ]; ac_rfl
    simp only [shN, this, sh_twice, ih]

theorem shN_add (m n c : Nat) : shN (m + n) c = shN n (shN m c) := by
  induction m generalizing c with
  | zero => simp [shN]
  | succ m ih => rw [Nat.succ_add]; simp only [shN, ih]

theorem split_pow (c n : Nat) : c = c % 2 ^ n ^^^ 2 ^ n * (c / 2 ^ n) := by
  apply Nat.eq_of_testBit_eq; intro i
  rw [Nat.testBit_xor, Nat.testBit_mod_two_pow, Nat.testBit_two_pow_mul, testBit_div_pow]
  by_cases h : i < n
  · have h2 : ¬ n ≤ i := by omega
    simp [h, h2]
  · have h2 : n ≤ i := by omega
    simp [h, h2]

/-- by a table: the lowest n bits go their way alone -/
theorem shN_split (n c : Nat) : shN n c = shN n (c % 2 ^ n) ^^^ c / 2 ^ n := by
  conv => lhs; rw [split_pow c n]
  rw [shN_xor, shN_pow]

/-- a byte -/
def byt (c b : Nat) : Nat := shN 8 (c ^^^ b)

theorem byt_lt {c b : Nat} (hc : c < 4294967296) (hb : b < 256) : byt c b < 4294967296 := by
  have hx : c ^^^ b < 2 ^ 32 := Nat.xor_lt_two_pow (by omega) (by omega)
  exact shN_lt 8 (by omega)

/-- bytes -/
def byts : Nat → List Nat → Nat
  | c, [] => c
  | c, b :: l => byts (byt c b) l

theorem byts_append (c : Nat) (l m : List Nat) : byts c (l ++ m) = byts (byts c l) m := by
  induction l generalizing c with
  | nil => rfl
  | cons b l ih => exact ih _

theorem byts_lt {c : Nat} {l : List Nat} (hc : c < 4294967296) (hl : ∀ b ∈ l, b < 256) : byts c l < 4294967296 := by
  induction l generalizing c with
  | nil => exact hc
  | cons b l ih => exact ih (byt_lt hc (hl b List.mem_cons_self)) (fun x hx => hl x (List.mem_cons_of_mem _ hx))

theorem byts_inj {c d : Nat} {l : List Nat} (hc : c < 4294967296) (hd : d < 4294967296) (hl : ∀ b ∈ l, b < 256) (e : byts c l = byts d l) : c = d := by
  induction l generalizing c d with
  | nil => exact e
  | cons b l ih =>
    have hb := hl b List.mem_cons_self
    have h := ih (byt_lt hc hb) (byt_lt hd hb) (fun x hx => hl x (List.mem_cons_of_mem _ hx)) e
    have h1 : c ^^^ b < 2 ^ 32 := Nat.xor_lt_two_pow (by omega) (by omega)
    have h2 : d ^^^ b < 2 ^ 32 := Nat.xor_lt_two_pow (by omega) (by omega)
    have h3 := shN_inj 8 (by omega) (by omega) h
    refine xor_of_zero ?_
    have : c ^^^ d = c ^^^ b ^^^ (d ^^^ b) := by rw [xor_four, Nat.xor_self, Nat.xor_zero]
    rw [this, h3, Nat.xor_self]

/-- three rows, turned by each other -/
def mix3 : List Nat → List Nat → List Nat → List Nat
  | a :: l, b :: m, c :: n => (a ^^^ b ^^^ c) :: mix3 l m n
  | _, _, _ => []

theorem byt_xor3 (x y z a b c : Nat) : byt (x ^^^ y ^^^ z) (a ^^^ b ^^^ c) = byt x a ^^^ byt y b ^^^ byt z c := by
  unfold byt
  rw [xor_four (x ^^^ y) z (a ^^^ b) c, xor_four x y a b, shN_xor, shN_xor]

theorem byts_mix3 (x y z : Nat) : ∀ (l m n : List Nat), m.length = l.length → n.length = l.length →
    byts (x ^^^ y ^^^ z) (mix3 l m n) = byts x l ^^^ byts y m ^^^ byts z n := by
  intro l
  induction l generalizing x y z with
  | nil =>
    intro m n hm hn
    cases m with
    | nil => cases n with
      | nil => rfl
      | cons c n => simp at hn
    | cons b m => simp at hm
  | cons a l ih =>
    intro m n hm hn
    cases m with
    | nil => simp at hm
    | cons b m => cases n with
      | nil => simp at hn
      | cons c n =>
        simp only [List.length_cons, Nat.add_right_cancel_iff] at hm hn
        simp only [mix3, byts, byt_xor3]
        exact ih _ _ _ m n hm hn

/-- a byte that comes later, as bits further up -/
theorem byt_up (a d : Nat) : shN 8 a ^^^ d = shN 8 (a ^^^ 256 * d) := by
  rw [shN_xor]
  have := shN_pow 8 d
  rw [show (2 : Nat) ^ 8 = 256 from rfl] at this
  rw [this]

theorem shN_succ_up (n : Nat) (a d : Nat) : byt (shN (8 * n) a) d = shN (8 * (n + 1)) (a ^^^ 2 ^ (8 * n) * d) := by
  unfold byt
  have h : 8 * (n + 1) = 8 * n + 8 := by omega
  rw [h, shN_add]
  congr 1
  rw [shN_xor, shN_pow]

/-- four bytes at once -/
theorem four_at_once (c a b d e : Nat) : byts c [a, b, d, e] = shN 32 (c ^^^ a ^^^ 256 * b ^^^ 65536 * d ^^^ 16777216 * e) := by
  have h0 : byt c a = shN (8 * 1) (c ^^^ a) := rfl
  simp only [byts]
  rw [h0, shN_succ_up 1, shN_succ_up 2, shN_succ_up 3]

theorem four_of (y : Nat) (hy : y < 4294967296) :
    y % 256 ^^^ 256 * (y / 256 % 256) ^^^ 65536 * (y / 65536 % 256) ^^^ 16777216 * (y / 16777216 % 256) = y := by
  have h1 := split_pow y 8
  have h2 := split_pow (y / 256) 8
  have h3 := split_pow (y / 65536) 8
  rw [show (2 : Nat) ^ 8 = 256 from rfl] at h1 h2 h3
  have e2 : y / 256 / 256 = y / 65536 := by rw [Nat.div_div_eq_div_mul]
  have e3 : y / 65536 / 256 = y / 16777216 := by rw [Nat.div_div_eq_div_mul]
  have e4 : y / 16777216 % 256 = y / 16777216 := Nat.mod_eq_of_lt (by omega)
  have m1 (k a b : Nat) : 2 ^ k * (a ^^^ b) = 2 ^ k * a ^^^ 2 ^ k * b := by
    apply Nat.eq_of_testBit_eq; intro i
    simp only [Nat.testBit_xor, Nat.testBit_two_pow_mul]
    cases decide (i ≥ k) <;> simp
  have t1 : 65536 * (y / 65536 % 256) ^^^ 16777216 * (y / 16777216 % 256) = 65536 * (y / 65536) := by
    conv => rhs; rw [h3]
    rw [show (65536 : Nat) = 2 ^ 16 from rfl, m1 16, e4]
    rw [show (2 : Nat) ^ 16 = 65536 from rfl, e3, ← Nat.mul_assoc]
  have t2 : 256 * (y / 256 % 256) ^^^ 65536 * (y / 65536) = 256 * (y / 256) := by
    conv => rhs; rw [h2]
    rw [show (256 : Nat) * (y / 256 % 256 ^^^ 256 * (y / 256 / 256)) = 2 ^ 8 * (y / 256 % 256 ^^^ 256 * (y / 256 / 256)) from rfl, m1 8]
    rw [show (2 : Nat) ^ 8 = 256 from rfl, e2, ← Nat.mul_assoc]
  rw [Nat.xor_assoc, t1, Nat.xor_assoc, t2]
  exact h1.symm

/-- four bytes, turned by a number that isn't 0: another sum -/
theorem turned_four (c a b d e : Nat) {y : Nat} (hy : y < 4294967296) (h0 : y ≠ 0) :
    byts c [a ^^^ y % 256, b ^^^ y / 256 % 256, d ^^^ y / 65536 % 256, e ^^^ y / 16777216 % 256] ≠ byts c [a, b, d, e] := by
  intro h
  have hz : byts (c ^^^ c ^^^ 0) (mix3 [a, b, d, e] [a ^^^ y % 256, b ^^^ y / 256 % 256, d ^^^ y / 65536 % 256, e ^^^ y / 16777216 % 256] [0, 0, 0, 0])
      = byts c [a, b, d, e] ^^^ byts c [a ^^^ y % 256, b ^^^ y / 256 % 256, d ^^^ y / 65536 % 256, e ^^^ y / 16777216 % 256] ^^^ byts 0 [0, 0, 0, 0] :=
    byts_mix3 c c 0 _ _ _ rfl rfl
  have z0 : byts 0 [0, 0, 0, 0] = 0 := by decide
  have xx (p q : Nat) : p ^^^ (p ^^^ q) = q := by rw [← Nat.xor_assoc, Nat.xor_self, Nat.zero_xor]
  rw [h, z0, Nat.xor_zero, Nat.xor_self, Nat.xor_self, Nat.xor_zero] at hz
  simp only [mix3, xx, Nat.xor_zero] at hz
  rw [four_at_once, Nat.zero_xor, four_of y hy] at hz
  exact h0 (shN_eq_zero 32 hy hz)

/-- and whatever stands ahead of them, and behind them -/
theorem turned_all {c : Nat} {l m : List Nat} {a b d e y : Nat} (hc : c < 4294967296) (hl : ∀ x ∈ l, x < 256) (hm : ∀ x ∈ m, x < 256)
    (ha : a < 256) (hb : b < 256) (hd : d < 256) (he : e < 256) (hy : y < 4294967296) (h0 : y ≠ 0) :
    byts c (l ++ [a ^^^ y % 256, b ^^^ y / 256 % 256, d ^^^ y / 65536 % 256, e ^^^ y / 16777216 % 256] ++ m) ≠ byts c (l ++ [a, b, d, e] ++ m) := by
  intro h
  rw [byts_append, byts_append, byts_append, byts_append] at h
  have hx : ∀ p q : Nat, p < 256 → q < 256 → p ^^^ q < 256 := fun p q hp hq => by
    have : p ^^^ q < 2 ^ 8 := Nat.xor_lt_two_pow (by omega) (by omega)
    omega
  have hcl := byts_lt hc hl
  refine turned_four (byts c l) a b d e hy h0 (byts_inj (byts_lt hcl ?_) (byts_lt hcl ?_) hm h)
  · intro x hxm
    simp only [List.mem_cons, List.not_mem_nil, or_false] at hxm
    rcases hxm with rfl | rfl | rfl | rfl <;> exact hx _ _ (by omega) (by omega)
  · intro x hxm
    simp only [List.mem_cons, List.not_mem_nil, or_false] at hxm
    rcases hxm with rfl | rfl | rfl | rfl <;> omega

end Go.Proofs.YtcjoemkplghonaaDoor

/- The document's sums: bit by bit. -/
namespace Go.Proofs.YtcjoemkplghonaaDoor
open Go.RowKit

/-- the document's sum -/
def moreN (c : Nat) (l : List Nat) : Nat := byts (c ^^^ 4294967295) l ^^^ 4294967295

theorem moreN_lt {c : Nat} {l : List Nat} (hc : c < 4294967296) (hl : ∀ b ∈ l, b < 256) : moreN c l < 4294967296 := by
  have hx : c ^^^ 4294967295 < 2 ^ 32 := Nat.xor_lt_two_pow (by omega) (by omega)
  have hb := byts_lt (l := l) (c := c ^^^ 4294967295) (by omega) hl
  have : byts (c ^^^ 4294967295) l ^^^ 4294967295 < 2 ^ 32 := Nat.xor_lt_two_pow (by omega) (by omega)
  unfold moreN; omega

theorem xor_u32 (a b : Nat) (ha : a < 4294967296) (hb : b < 4294967296) : bits .xor .u32 (a : Int) (b : Int) = ((a ^^^ b : Nat) : Int) := u32_xor_nat a b ha hb

theorem take_byts (c : Nat) (l : List Nat) (k : Nat) (h : k < l.length) : byts c (l.take (k + 1)) = byt (byts c (l.take k)) (l.getD k 0) := by
  rw [List.take_succ_eq_append_getElem h, byts_append]
  simp [byts, h]

theorem shN_succ' (j c : Nat) : shN (j + 1) c = sh (shN j c) := shN_add j 1 c

theorem sh_odd (E : Nat) (hE : E < 4294967296) (h : E % 2 = 1) : bits .xor .u32 ((E : Int) / 2) 3988292384 = ((sh E : Nat) : Int) := by
  have := xor_u32 (E / 2) 3988292384 (by omega) (by decide)
  unfold sh
  rw [if_pos h, ← this]
  congr 1

theorem sh_even (E : Nat) (h : ¬ E % 2 = 1) : ((E : Int) / 2) = ((sh E : Nat) : Int) := by
  unfold sh
  rw [if_neg h, Nat.xor_zero]
  omega

end Go.Proofs.YtcjoemkplghonaaDoor

/- The document's tails: four bytes. -/
namespace Go.Proofs.YtcjoemkplghonaaDoor
open Go.RowKit

theorem four_joined (p q r s : UInt8) : ((⟨#[p]⟩ : ByteArray) ++ ((⟨#[q]⟩ : ByteArray) ++ ((⟨#[r]⟩ : ByteArray) ++ ((⟨#[s]⟩ : ByteArray) ++ (⟨#[]⟩ : ByteArray))))) = ⟨#[p, q, r, s]⟩ := by
  apply ByteArray.ext
  simp

/-- a sum's four bytes, the highest first -/
def tailN (c : Nat) : List Nat := [c / 16777216, c / 65536 % 256, c / 256 % 256, c % 256]

theorem tail_text (c : Nat) (hc : c < 4294967296) : ((⟨#[UInt8.ofNat (c / 256 / 256 / 256 % 256)]⟩ : ByteArray) ++ ((⟨#[UInt8.ofNat (c / 256 / 256 % 256)]⟩ : ByteArray) ++ ((⟨#[UInt8.ofNat (c / 256 % 256)]⟩ : ByteArray) ++ ((⟨#[UInt8.ofNat (c % 256)]⟩ : ByteArray) ++ (⟨#[]⟩ : ByteArray))))) = textN (tailN c) := by
  rw [four_joined]
  have h1 : c / 256 / 256 / 256 % 256 = c / 16777216 := by omega
  have h2 : c / 256 / 256 % 256 = c / 65536 % 256 := by omega
  rw [h1, h2]
  rfl

end Go.Proofs.YtcjoemkplghonaaDoor

/- The program's sums: by a table of sixteen steps. -/
namespace Go.Proofs.YtcjoemkplghonaaDoor
open Go.RowKit

def stepsL : List Int := [0, 498536548, 997073096, 651767980, 1994146192, 1802195444, 1303535960, 1342533948, 3988292384, 4027552580, 3604390888, 3412177804, 2607071920, 2262029012, 2685067896, 3183342108]

theorem steps_is : ∀ i : Nat, i < 16 → stepsL.getD i 0 = ((shN 4 i : Nat) : Int) := by decide

/-- the table lies there -/
def Tab (w : World) : Prop := ∀ i : Nat, i < 16 → w.cell? ⟨1, i, none⟩ = some (.int .u32 ((shN 4 i : Nat) : Int))

theorem tab_of {w : World} (h : Lib.TabIs Tryd.prog w "narthex/crc.steps" .u32 stepsL) : Tab w := fun i hi => by
  have := Lib.TabIs.cell h (g := 1) (by kernel_rfl) i hi
  rw [this, steps_is i hi]

theorem Tab.ext {w w' : World} (h : Tab w) (x : Ext w w') : Tab w' := fun i hi =>
  (Below.cell x (World.block_lt_of_cell? _ _ (h i hi))).trans (h i hi)

/-- one step by the table -/
theorem step4 (C : Nat) (hC : C < 4294967296) : bits .xor .u32 ((C : Int) / 16) ((shN 4 (C % 16) : Nat) : Int) = ((shN 4 C : Nat) : Int) := by
  have h1 : shN 4 (C % 16) < 4294967296 := shN_lt 4 (by omega)
  have h := xor_u32 (C / 16) (shN 4 (C % 16)) (by omega) h1
  have h2 : C / 16 ^^^ shN 4 (C % 16) = shN 4 C := by
    have := shN_split 4 C
    rw [show (2 : Nat) ^ 4 = 16 from rfl] at this
    rw [this, Nat.xor_comm]
  rw [h2] at h
  rw [← h]
  congr 1

theorem and15 (C : Nat) (hC : C < 4294967296) : bits .and .u32 (C : Int) 15 = ((C % 16 : Nat) : Int) := by
  have h := u32_and_nat C 15 hC (by decide)
  have h2 : C &&& 15 = C % 16 := Nat.and_two_pow_sub_one_eq_mod C 4
  rw [h2] at h
  exact h

theorem turned_u32 (C : Nat) (hC : C < 4294967296) : bits .xor .u32 IntKind.u32.max (C : Int) = ((C ^^^ 4294967295 : Nat) : Int) := by
  have h := xor_u32 4294967295 C (by decide) hC
  rw [Nat.xor_comm] at h
  exact h

set_option maxHeartbeats 400000 in
theorem down_any (w : World) (D : Nat) (ht : Tab w) (hD : D < 4294967296) :
    Calls Tryd.prog 73 #[.int .u32 (D : Int)] w fun e w' => e = .returned (.int .u32 (shN 4 D : Nat)) ∧ w = w' := by
  have HT : Hid (∀ i : Nat, i < 16 → w.cell? ⟨1, i, none⟩ = some (.int .u32 ((shN 4 i : Nat) : Int))) := Lib.hid (fun i hi => ht i hi)
  clear ht
  have a1 := and15 D hD
  have s1 := step4 D hD
  have m1 : D % 16 < 16 := Nat.mod_lt _ (by decide)
  have t1 := HT.out (D % 16) m1
  obtain ⟨F, hF2⟩ : ∃ F, F = shN 4 D := ⟨_, rfl⟩
  rw [← hF2] at s1 ⊢
  clear hF2
  obtain ⟨m, hm⟩ : ∃ m, m = D % 16 := ⟨_, rfl⟩
  rw [← hm] at a1 s1 m1 t1
  clear hm
  obtain ⟨p, hp⟩ : ∃ p, p = shN 4 m := ⟨_, rfl⟩
  rw [← hp] at s1 t1
  clear hp
  go_enter Tryd.func73, Tryd.ntmps73
  go_wp2
  go_ret
  exact ⟨rfl, rfl⟩

set_option maxHeartbeats 400000 in
theorem more_any (w : World) (c : Nat) (s : ByteArray) (ht : Tab w) (hc : c < 4294967296) (hs : s.size ≤ 9223372036854775807) :
    Calls Tryd.prog 64 #[.int .u32 (c : Int), .string s] w fun e w' => e = .returned (.int .u32 (moreN c (bl s) : Nat)) ∧ w = w' := by
  have hl := bl_length s
  have HBL : Hid (∀ b ∈ bl s, b < 256) := Lib.hid (bl_lt s)
  have HAT : Hid (∀ (k : Nat) (h : k < s.size), (s[k]'h).toNat = (bl s).getD k 0) := Lib.hid (fun k h => bl_at s h)
  have HT : Hid (Tab w) := Lib.hid ht
  clear ht
  have hx : c ^^^ 4294967295 < 4294967296 := by
    have : c ^^^ 4294967295 < 2 ^ 32 := Nat.xor_lt_two_pow (by omega) (by omega)
    omega
  have e0 := turned_u32 c hc
  obtain ⟨X, hX⟩ : ∃ X, X = c ^^^ 4294967295 := ⟨_, rfl⟩
  rw [← hX] at hx e0
  have HX := Lib.hid hX
  clear hX
  go_enter Tryd.func64, Tryd.ntmps64
  go_wp2
  go_loop [5, 11] (fun a i => ∃ (k : Nat) (C : Nat), k ≤ s.size ∧ i = .int .i64 k ∧ a = .int .u32 (C : Int) ∧ C < 4294967296 ∧ Hid (C = byts X ((bl s).take k))) (fun _ i => s.size - (intOf i).toNat)
  case atStart => exact ⟨0, X, by omega, rfl, rfl, hx, Lib.hid (by simp [byts])⟩
  case round =>
    obtain ⟨k, C, hk, rfl, rfl, hC, HC⟩ := hrel
    by_cases hlt : k < s.size
    · have hb : ((s[k]'hlt).toNat) = (bl s).getD k 0 := HAT.out k hlt
      obtain ⟨B, hB⟩ : ∃ B, B = (bl s).getD k 0 := ⟨_, rfl⟩
      have hB2 : B < 256 := by rw [hB, ← hb]; exact (s[k]'hlt).toNat_lt
      have HB := Lib.hid hB
      rw [← hB] at hb
      clear hB
      have e1 : bits .xor .u32 (C : Int) (B : Int) = ((C ^^^ B : Nat) : Int) := xor_u32 C B hC (by omega)
      have hCB : C ^^^ B < 4294967296 := by
        have : C ^^^ B < 2 ^ 32 := Nat.xor_lt_two_pow (by omega) (by omega)
        omega
      obtain ⟨D, hD⟩ : ∃ D, D = C ^^^ B := ⟨_, rfl⟩
      rw [← hD] at e1 hCB
      have HD := Lib.hid hD
      clear hD
      have hF : shN 4 D < 4294967296 := shN_lt 4 hCB
      obtain ⟨F, hF2⟩ : ∃ F, F = shN 4 D := ⟨_, rfl⟩
      have d1 := Lib.hid (down_any w D HT.out hCB)
      rw [← hF2] at d1 hF
      have HF := Lib.hid hF2
      clear hF2
      have hG : shN 4 F < 4294967296 := shN_lt 4 hF
      obtain ⟨G, hG2⟩ : ∃ G, G = shN 4 F := ⟨_, rfl⟩
      have d2 := Lib.hid (down_any w F HT.out hF)
      rw [← hG2] at d2 hG
      have HG := Lib.hid hG2
      clear hG2
      go_wp2_with (first
        | (go_at_call 73; have hgd := gone1; refine d2.out.mono ?_; rintro e w' ⟨rfl, rfl⟩)
        | (go_at_call 73; refine d1.out.mono ?_; rintro e w' ⟨rfl, rfl⟩; have gone1 := Lib.hid True.intro))
      exact ⟨⟨k + 1, G, by omega, by go_num, rfl, hG, Lib.hid (by
        have hkl : k < (bl s).length := by rw [hl]; exact hlt
        rw [HG.out, HF.out, HD.out, HC.out, HB.out, take_byts _ _ _ hkl]
        exact (shN_add 4 4 _).symm)⟩, by simp [intOf]; omega⟩
    · have hkk : k = s.size := by omega
      have e5 : bits .xor .u32 IntKind.u32.max (C : Int) = ((moreN c (bl s) : Nat) : Int) := by
        have h := turned_u32 C hC
        have hm : C ^^^ 4294967295 = moreN c (bl s) := by
          unfold moreN
          rw [HC.out, HX.out, List.take_of_length_le (by rw [hl]; omega)]
        rw [hm] at h
        exact h
      go_wp2
      go_ret
      exact ⟨rfl, rfl⟩
end Go.Proofs.YtcjoemkplghonaaDoor

/- The program's sums, tails, and what is good. -/
namespace Go.Proofs.YtcjoemkplghonaaDoor
open Go.RowKit

set_option maxHeartbeats 400000 in
theorem sum_any (w : World) (s : ByteArray) (ht : Tab w) (hs : s.size ≤ 9223372036854775807) :
    Calls Tryd.prog 54 #[.string s] w fun e w' => e = .returned (.int .u32 (moreN 0 (bl s) : Nat)) ∧ w = w' := by
  go_enter Tryd.func54, Tryd.ntmps54
  go_wp2_with (first | (go_at_call 64; refine (more_any _ 0 s ht (by decide) hs).mono ?_; rintro e w' ⟨rfl, rfl⟩))
  go_ret
  exact ⟨rfl, rfl⟩

set_option maxHeartbeats 400000 in
theorem tail_any (w : World) (c : Nat) (hc : c < 4294967296) :
    Calls Tryd.prog 53 #[.int .u32 (c : Int)] w fun e w' => e = .returned (.string (textN (tailN c))) ∧ Ext w w' := by
  have HCV : ∀ (W : World) (x y z u : Int), (convert 76 9 (.slice (some ⟨W.heap.size, 0, none⟩) 4 4)).run Tryd.prog (W.alloc (.cells #[.int .u8 x, .int .u8 y, .int .u8 z, .int .u8 u] 5)) = .ok (.string (strOfNums [x, y, z, u])) (W.alloc (.cells #[.int .u8 x, .int .u8 y, .int .u8 z, .int .u8 u] 5)) :=
    fun W x y z u => text_of_new [x, y, z, u] 4 rfl _ rfl W 4
  go_enter Tryd.func53, Tryd.ntmps53
  go_wp2
  go_ret
  exact ⟨rfl, (by repeat (first | exact Ext.refl _ | assumption | refine Ext.alloc ?_ _ | refine Ext.drew ?_ | refine Ext.drewN ?_ _))⟩

/-- the bytes ahead of the last four, and these -/
def ahead (s : ByteArray) : ByteArray := s.extract 0 (s.size - 4)
def last4 (s : ByteArray) : ByteArray := s.extract (s.size - 4) s.size
def goodB (s : ByteArray) : Bool := decide (4 ≤ s.size) && decide (last4 s = textN (tailN (moreN 0 (bl (ahead s)))))
def goodS (s : ByteArray) : ByteArray := if goodB s = true then ahead s else ⟨#[]⟩

set_option maxHeartbeats 400000 in
theorem clone_any (w : World) (s : ByteArray) (hs : s.size ≤ 281474976710656) :
    Calls Tryd.prog 29 #[.string s] w fun e w' => e = .returned (.string s) ∧ Ext w w' := by
  go_enter Tryd.func29, Tryd.ntmps29
  go_wp2_with (first | (go_at_call 47; refine (Tryd.stringslite_Clone s _ hs).mono ?_; rintro e w' ⟨rfl, hx⟩))
  go_ret
  exact ⟨rfl, hx⟩
end Go.Proofs.YtcjoemkplghonaaDoor

/- Sums and tails of texts: plain facts. -/
namespace Go.Proofs.YtcjoemkplghonaaDoor
open Go.RowKit

theorem xor_twice (c d : Nat) : c ^^^ d ^^^ d = c := by rw [Nat.xor_assoc, Nat.xor_self, Nat.xor_zero]

theorem moreN_join (c : Nat) (l m : List Nat) : moreN (moreN c l) m = moreN c (l ++ m) := by
  unfold moreN
  rw [xor_twice, byts_append]

theorem moreN_nil (c : Nat) : moreN c [] = c := by
  unfold moreN byts
  exact xor_twice c _

theorem tailN_lt {c : Nat} (hc : c < 4294967296) : ∀ b ∈ tailN c, b < 256 := by
  intro b hb
  simp only [tailN, List.mem_cons, List.not_mem_nil, or_false] at hb
  rcases hb with rfl | rfl | rfl | rfl <;> omega

theorem tail_inj {a b : Nat} (ha : a < 4294967296) (hb : b < 4294967296) (h : textN (tailN a) = textN (tailN b)) : a = b := by
  have := textN_inj (tailN_lt ha) (tailN_lt hb) h
  simp only [tailN, List.cons.injEq, and_true] at this
  omega

theorem tail_size (c : Nat) : (textN (tailN c)).size = 4 := textN_size _

theorem ahead_joined (s t : ByteArray) (h : t.size = 4) : ahead (s ++ t) = s ∧ last4 (s ++ t) = t := by
  unfold ahead last4
  have hs : (s ++ t).size = s.size + 4 := by rw [ByteArray.size_append, h]
  rw [hs, Nat.add_sub_cancel]
  constructor
  · apply ByteArray.ext
    rw [ByteArray.data_extract, ByteArray.data_append]
    rw [show s.size = s.data.size from rfl, Array.extract_append_left]
    simp
  · apply ByteArray.ext
    rw [ByteArray.data_extract, ByteArray.data_append]
    have : s.size + 4 = s.data.size + t.data.size := by rw [← h]; rfl
    rw [this, show s.size = s.data.size from rfl, Array.extract_append_right]
    simp

theorem good_joined (s : ByteArray) (t : ByteArray) (h : t.size = 4) : goodB (s ++ t) = decide (t = textN (tailN (moreN 0 (bl s)))) := by
  unfold goodB
  obtain ⟨h1, h2⟩ := ahead_joined s t h
  rw [h1, h2]
  have hs : (s ++ t).size = s.size + 4 := by rw [ByteArray.size_append, h]
  rw [decide_eq_true (show 4 ≤ (s ++ t).size by omega), Bool.true_and]

theorem good_with (s : ByteArray) : goodB (s ++ textN (tailN (moreN 0 (bl s)))) = true ∧ goodS (s ++ textN (tailN (moreN 0 (bl s)))) = s := by
  have h := good_joined s (textN (tailN (moreN 0 (bl s)))) (tail_size _)
  have hb : goodB (s ++ textN (tailN (moreN 0 (bl s)))) = true := by rw [h]; simp
  refine ⟨hb, ?_⟩
  unfold goodS
  rw [if_pos hb]
  exact (ahead_joined s _ (tail_size _)).1

theorem ahead_last (s : ByteArray) : ahead s ++ last4 s = s := by
  unfold ahead last4
  apply ByteArray.ext
  rw [ByteArray.data_append, ByteArray.data_extract, ByteArray.data_extract, Array.extract_append_extract]
  have h : s.size = s.data.size := rfl
  rw [h]
  simp

theorem good_is {s : ByteArray} (h : goodB s = true) : goodS s ++ textN (tailN (moreN 0 (bl (goodS s)))) = s := by
  have h0 := h
  unfold goodB at h
  rw [Bool.and_eq_true, decide_eq_true_eq, decide_eq_true_eq] at h
  have hs : goodS s = ahead s := by unfold goodS; rw [if_pos h0]
  rw [hs, ← h.2]
  exact ahead_last s

theorem good_not {s : ByteArray} (h : goodB s = false) : goodS s = ⟨#[]⟩ := by
  unfold goodS
  rw [if_neg (by rw [h]; decide)]

theorem sum_lt (s : ByteArray) : moreN 0 (bl s) < 4294967296 := moreN_lt (by decide) (bl_lt s)

theorem xor_three (c : Nat) : c ^^^ c ^^^ c = c := by rw [Nat.xor_self, Nat.zero_xor]

theorem moreN_mix (l m n : List Nat) (hm : m.length = l.length) (hn : n.length = l.length) : moreN 0 (mix3 l m n) = moreN 0 l ^^^ moreN 0 m ^^^ moreN 0 n := by
  unfold moreN
  simp only [Nat.zero_xor]
  have h := byts_mix3 4294967295 4294967295 4294967295 l m n hm hn
  rw [xor_three] at h
  rw [h]
  generalize byts 4294967295 l = x
  generalize byts 4294967295 m = y
  generalize byts 4294967295 n = z
  rw [xor_four x, Nat.xor_self, Nat.xor_zero]
  rw [Nat.xor_assoc (x ^^^ y) z]

end Go.Proofs.YtcjoemkplghonaaDoor

/- A slice of bytes of one's own, made of a text: its block, known byte by byte. -/
namespace Go.Proofs.YtcjoemkplghonaaDoor
open Go.RowKit

/-- block g holds the bytes l (and spare ones); none of them is frozen -/
def Byt (w : World) (g : Nat) (l : List Nat) : Prop :=
  ∃ C : Array Value, ∃ m : Nat, w.heap[g]? = some (.cells C 5 (m, m + 1)) ∧ C.size ≤ m ∧ l.length ≤ C.size ∧ ∀ i, i < l.length → C[i]? = some (.int .u8 ((l.getD i 0 : Nat) : Int))

theorem Byt.cell {w : World} {g : Nat} {l : List Nat} (h : Byt w g l) (i : Nat) (hi : i < l.length) : w.cell? ⟨g, i, none⟩ = some (.int .u8 ((l.getD i 0 : Nat) : Int)) := by
  obtain ⟨C, m, h1, _, _, h4⟩ := h
  exact blk_cell h1 i (h4 i hi)

theorem Byt.free {w : World} {g : Nat} {l : List Nat} (h : Byt w g l) (i : Nat) (hi : i < l.length) : w.frozen? ⟨g, i, none⟩ = false := by
  obtain ⟨C, m, h1, h2, h3, _⟩ := h
  simp [World.frozen?, h1]
  omega

theorem Byt.lt {w : World} {g : Nat} {l : List Nat} (h : Byt w g l) : g < w.heap.size := by
  obtain ⟨C, m, h1, _⟩ := h
  exact blk_lt h1

theorem Byt.set {w : World} {g : Nat} {l : List Nat} (h : Byt w g l) (j x : Nat) (hj : j < l.length) : Byt (w.setCell ⟨g, j, none⟩ (.int .u8 (x : Int))) g (l.set j x) := by
  obtain ⟨C, m, h1, h2, h3, h4⟩ := h
  refine ⟨_, m, blk_set h1 j _, by simpa using h2, by simpa using h3, fun i hi => ?_⟩
  rw [List.length_set] at hi
  by_cases hij : j = i
  · subst hij
    simp [Array.getElem?_setIfInBounds, hi]
    omega
  · rw [Array.getElem?_setIfInBounds_ne hij, h4 i hi]
    simp [List.getD, hij]

theorem Byt.drewN {w : World} {g : Nat} {l : List Nat} (h : Byt w g l) (q : Nat) : Byt (w.drewN q) g l := h

theorem Byt.ext {w w' : World} {g : Nat} {l : List Nat} (h : Byt w g l) (x : Ext w w') : Byt w' g l := by
  have hlt := h.lt
  obtain ⟨C, m, h1, h2, h3, h4⟩ := h
  exact ⟨C, m, (x.block g hlt).trans h1, h2, h3, h4⟩

/-- string(b) -/
theorem Byt.text {w : World} {g : Nat} {l : List Nat} (h : Byt w g l) (n c : Nat) (hn : l.length = n) :
    (convert 76 9 (.slice (some ⟨g, 0, none⟩) n c)).run Tryd.prog w = .ok (.string (textN l)) w := by
  have := run_convert_bytes_arg (P := Tryd.prog) w 76 5 (by kernel_rfl) (by kernel_rfl) g 0 n c (l.map fun b : Nat => (b : Int)) (by simpa using hn) (fun i hi => by
    have h2 : i < l.length := by omega
    rw [Nat.zero_add, h.cell i h2]
    simp [List.getD, h2]) 9 (by kernel_rfl)
  rw [this]
  have e : strOfNums (l.map fun b : Nat => (b : Int)) = textN l := by
    unfold strOfNums textN
    rw [List.map_map]
    rfl
  rw [e]

noncomputable def capB (w : World) (s : ByteArray) : Nat := grownCap w s.size 0 5
noncomputable def newB (w : World) (s : ByteArray) : World := w.drew.alloc (.cells (bytesRow s (capB w s)) 5 ((bytesRow s (capB w s)).size, (bytesRow s (capB w s)).size + 1))

theorem bytes_of (w : World) (s : ByteArray) : (convert 9 76 (.string s)).run Tryd.prog w = .ok (.slice (some ⟨w.heap.size, 0, none⟩) s.size (capB w s)) (newB w s) :=
  run_bytes_of_string w 9 76 5 s (by kernel_rfl) (by kernel_rfl) (by kernel_rfl)

theorem newB_ext (w : World) (s : ByteArray) : Ext w (newB w s) := ((Ext.refl w).drew).alloc _

theorem newB_byt (w : World) (s : ByteArray) : Byt (newB w s) w.heap.size (bl s) := by
  refine ⟨bytesRow s (capB w s), (bytesRow s (capB w s)).size, ?_, Nat.le_refl _, ?_, fun i hi => ?_⟩
  · show (w.heap.push _)[w.heap.size]? = _
    simp
  · rw [bl_length]
    unfold bytesRow
    rw [Array.size_append, Array.size_map]
    exact Nat.le_add_right _ _
  · have hi2 : i < s.data.size := by rw [bl_length] at hi; exact hi
    rw [bytesRow_at s _ i hi2]
    congr 2
    rw [← bl_at s hi2]
    rfl
end Go.Proofs.YtcjoemkplghonaaDoor

/- Numbers as bytes: plain mathematics, and the document's answers. -/
namespace Go.Proofs.YtcjoemkplghonaaDoor
open Go.RowKit

/-- a number's lowest bytes, so many, the highest first -/
def highN (n : Nat) : Nat → List Nat
  | 0 => []
  | m + 1 => (n / 256 ^ m % 256) :: highN n m

/-- the number that bytes are -/
def numN (l : List Nat) : Nat := l.foldl (fun n b => n * 256 + b) 0

theorem highN_length (n : Nat) : ∀ m, (highN n m).length = m
  | 0 => rfl
  | m + 1 => by rw [highN, List.length_cons, highN_length n m]

theorem highN_lt (n : Nat) : ∀ m, ∀ b ∈ highN n m, b < 256
  | 0 => fun b hb => by simp [highN] at hb
  | m + 1 => fun b hb => by
    rw [highN, List.mem_cons] at hb
    rcases hb with rfl | hb
    · exact Nat.mod_lt _ (by decide)
    · exact highN_lt n m b hb

theorem foldl_num (l : List Nat) : ∀ c, l.foldl (fun n b => n * 256 + b) c = c * 256 ^ l.length + numN l := by
  unfold numN
  induction l with
  | nil => intro c; simp
  | cons a l ih =>
    intro c
    rw [List.foldl_cons, List.foldl_cons, ih, ih (0 * 256 + a), List.length_cons, Nat.pow_succ, Nat.add_mul, Nat.add_assoc]
    congr 1
    · rw [Nat.mul_assoc, Nat.mul_comm 256]
    · simp

theorem numN_cons (a : Nat) (l : List Nat) : numN (a :: l) = a * 256 ^ l.length + numN l := by
  have := foldl_num l a
  rw [← this]
  simp [numN]

theorem numN_snoc (l : List Nat) (b : Nat) : numN (l ++ [b]) = numN l * 256 + b := by
  unfold numN
  rw [List.foldl_append]
  rfl

theorem numN_lt : ∀ {l : List Nat}, (∀ b ∈ l, b < 256) → numN l < 256 ^ l.length
  | [], _ => by simp [numN]
  | a :: l, h => by
    have h1 := numN_lt (l := l) (fun b hb => h b (List.mem_cons_of_mem _ hb))
    have h2 : a < 256 := h a (List.mem_cons_self ..)
    rw [numN_cons, List.length_cons, Nat.pow_succ]
    have : a * 256 ^ l.length + 256 ^ l.length ≤ 256 * 256 ^ l.length := by
      rw [← Nat.succ_mul]
      exact Nat.mul_le_mul_right _ h2
    rw [Nat.mul_comm (256 ^ l.length)]
    omega

theorem numN_highN (n : Nat) : ∀ m, numN (highN n m) = n % 256 ^ m
  | 0 => by rw [highN, Nat.pow_zero, Nat.mod_one]; rfl
  | m + 1 => by
    rw [highN, numN_cons, highN_length, numN_highN n m, Nat.pow_succ, Nat.mod_mul, Nat.mul_comm, Nat.add_comm]

theorem highN_numN : ∀ {l : List Nat}, (∀ b ∈ l, b < 256) → highN (numN l) l.length = l := by
  have key : ∀ (c : Nat) (m : Nat) (r : Nat), highN (c * 256 ^ m + r) m = highN r m := by
    intro c m
    have : ∀ k, ∀ r, k ≤ m → highN (c * 256 ^ m + r) k = highN r k := by
      intro k
      induction k with
      | zero => intros; rfl
      | succ k ih =>
        intro r hk
        rw [highN, highN, ih r (by omega)]
        congr 1
        obtain ⟨d, rfl⟩ : ∃ d, m = k + 1 + d := ⟨m - (k + 1), by omega⟩
        have e : c * 256 ^ (k + 1 + d) + r = r + 256 ^ k * (256 * (c * 256 ^ d)) := by
          rw [Nat.pow_add, Nat.pow_succ]
          rw [Nat.add_comm]
          congr 1
          simp only [Nat.mul_comm, Nat.mul_left_comm, Nat.mul_assoc]
        rw [e, Nat.add_mul_div_left _ _ (Nat.pow_pos (by decide)), Nat.add_mul_mod_self_left]
    intro r
    exact this m r (Nat.le_refl _)
  intro l
  induction l with
  | nil => intros; rfl
  | cons a l ih =>
    intro h
    have h1 : numN l < 256 ^ l.length := numN_lt (fun b hb => h b (List.mem_cons_of_mem _ hb))
    have h2 : a < 256 := h a (List.mem_cons_self ..)
    rw [List.length_cons, highN, numN_cons, key, ih (fun b hb => h b (List.mem_cons_of_mem _ hb))]
    congr 1
    rw [Nat.add_comm, Nat.add_mul_div_right _ _ (Nat.pow_pos (by decide)), Nat.div_eq_of_lt h1, Nat.zero_add, Nat.mod_eq_of_lt h2]

theorem highN_inj {n m k : Nat} (hn : n < 256 ^ k) (hm : m < 256 ^ k) (h : highN n k = highN m k) : n = m := by
  have := congrArg numN h
  rwa [numN_highN, numN_highN, Nat.mod_eq_of_lt hn, Nat.mod_eq_of_lt hm] at this

theorem numN_take (l : List Nat) (k : Nat) (h : k < l.length) : numN (l.take (k + 1)) = numN (l.take k) * 256 + l.getD k 0 := by
  rw [List.take_succ_eq_append_getElem h, numN_snoc]
  simp [List.getD, h]

theorem numN_take_lt {l : List Nat} (hl : ∀ b ∈ l, b < 256) (h8 : l.length ≤ 8) (k : Nat) : numN (l.take k) < 18446744073709551616 := by
  have h1 := numN_lt (l := l.take k) (fun b hb => hl b (List.mem_of_mem_take hb))
  have h2 : (l.take k).length ≤ 8 := by rw [List.length_take]; omega
  have h3 : 256 ^ (l.take k).length ≤ 256 ^ 8 := Nat.pow_le_pow_right (by decide) h2
  have h4 : (256 : Nat) ^ 8 = 18446744073709551616 := by decide
  omega

end Go.Proofs.YtcjoemkplghonaaDoor

/- Frames: what they are, which may be. -/
namespace Go.Proofs.YtcjoemkplghonaaDoor
open Go.RowKit

structure Fr where
  k : Int
  e : Int
  q : Nat
  a : Nat
  b : ByteArray
deriving DecidableEq

def Fr.v (f : Fr) : Value := .agg #[.int .i64 f.k, .int .i64 f.e, .int .u64 (f.q : Int), .int .u64 (f.a : Int), .string f.b]
def Fr.zero : Fr := ⟨0, 0, 0, 0, ⟨#[]⟩⟩

/-- the numbers are such -/
def Fr.In (f : Fr) : Prop := (-9223372036854775808 ≤ f.k ∧ f.k ≤ 9223372036854775807) ∧ (-9223372036854775808 ≤ f.e ∧ f.e ≤ 9223372036854775807) ∧ f.q < 18446744073709551616 ∧ f.a < 18446744073709551616 ∧ f.b.size ≤ 281474976710656

theorem size_zero {s : ByteArray} (h : s.size = 0) : s = ⟨#[]⟩ := by
  apply ByteArray.ext
  exact Array.eq_empty_of_size_eq_zero h

theorem empty_size (s : ByteArray) : s.toList.isEmpty = decide (s.size = 0) := by
  rw [ByteArray.toList_eq]
  have : s.data.toList.isEmpty = decide (s.data.size = 0) := by
    rw [← Array.length_toList]
    cases s.data.toList <;> simp
  exact this

/-- it may be -/
def rightB (f : Fr) : Bool := decide (0 ≤ f.e) && decide (f.e ≤ 65535) && decide (f.b.size ≤ 64) && (decide (f.k = 1) || decide (f.k = 2) && decide (f.b.size = 0))

end Go.Proofs.YtcjoemkplghonaaDoor

/- Frames: when two are the same. -/
namespace Go.Proofs.YtcjoemkplghonaaDoor
open Go.RowKit

theorem tl_iff {a b : ByteArray} : a.toList = b.toList ↔ a = b := by
  have := tl_eq a b
  constructor
  · intro h
    rw [h, beq_self_eq_true] at this
    exact of_decide_eq_true this.symm
  · intro h; rw [h]

theorem eq_f (f g : Fr) (s : Bool) (hs : decide (f = g) = s) :
    (∀ w : World, (binOp .eql 57 (.agg #[.int .i64 f.k, .int .i64 f.e, .int .u64 (f.q : Int), .int .u64 (f.a : Int), .string f.b]) (.agg #[.int .i64 g.k, .int .i64 g.e, .int .u64 (g.q : Int), .int .u64 (g.a : Int), .string g.b])).run Tryd.prog w = .ok (.bool s) w) ∧
    ∀ (a b : Operand) (w : World), (eqGuard .eql 57 a b (.agg #[.int .i64 f.k, .int .i64 f.e, .int .u64 (f.q : Int), .int .u64 (f.a : Int), .string f.b]) (.agg #[.int .i64 g.k, .int .i64 g.e, .int .u64 (g.q : Int), .int .u64 (g.a : Int), .string g.b])).run Tryd.prog w = .ok () w := by
  obtain ⟨fk, fe, fq, fa, fb⟩ := f
  obtain ⟨gk, ge, gq, ga, gb⟩ := g
  refine ⟨fun w => ?_, fun a b w => run_eqGuard_agg w _ _ a b _ _ (by kernel_rfl)⟩
  have u3 := Tryd.underlying3
  have a3 := Tryd.isAgg3
  have z3 := Tryd.sizeOf3
  have u4 := Tryd.underlying22
  have a4 := Tryd.isAgg22
  have z4 := Tryd.sizeOf22
  have u5 := Tryd.underlying9
  have a5 := Tryd.isAgg9
  have z5 := Tryd.sizeOf9
  have u6 := Tryd.underlying55
  have a6 := Tryd.isAgg55
  have z6 := Tryd.sizeOf55
  have hS : Tryd.prog.underlying 57 = some (.struct (Tryd.prog.fieldsOf 57)) := by kernel_rfl
  have hp : Tryd.prog.stoodInHeld 57 = false := by kernel_rfl
  rw [run_eql_struct, show (10000 : Nat) = 9999 + 1 from rfl, run_equalIn_agg w 9999 57 _ _ hS hp]
  simp only [Program.fieldsOf, Tryd.underlying57]
  go_simp
  subst hs
  have e1 : (fb.toList = gb.toList) = (fb = gb) := propext ⟨fun h => tl_iff.1 h, fun h => h ▸ rfl⟩
  have e2 : ((fq : Int) = (gq : Int)) = (fq = gq) := propext Int.natCast_inj
  have e3 : ((fa : Int) = (ga : Int)) = (fa = ga) := propext Int.natCast_inj
  by_cases h0 : fk = gk <;> by_cases h1 : fe = ge <;> by_cases h2 : fq = gq <;> by_cases h3 : fa = ga <;> by_cases h4 : fb = gb <;> simp [e1, e2, e3, h0, h1, h2, h3, h4]

theorem neq_f (f g : Fr) (s : Bool) (hs : decide (f = g) = s) :
    (∀ w : World, (binOp .neq 57 (.agg #[.int .i64 f.k, .int .i64 f.e, .int .u64 (f.q : Int), .int .u64 (f.a : Int), .string f.b]) (.agg #[.int .i64 g.k, .int .i64 g.e, .int .u64 (g.q : Int), .int .u64 (g.a : Int), .string g.b])).run Tryd.prog w = .ok (.bool (!s)) w) ∧
    ∀ (a b : Operand) (w : World), (eqGuard .neq 57 a b (.agg #[.int .i64 f.k, .int .i64 f.e, .int .u64 (f.q : Int), .int .u64 (f.a : Int), .string f.b]) (.agg #[.int .i64 g.k, .int .i64 g.e, .int .u64 (g.q : Int), .int .u64 (g.a : Int), .string g.b])).run Tryd.prog w = .ok () w := by
  obtain ⟨fk, fe, fq, fa, fb⟩ := f
  obtain ⟨gk, ge, gq, ga, gb⟩ := g
  refine ⟨fun w => ?_, fun a b w => run_eqGuard_agg w _ _ a b _ _ (by kernel_rfl)⟩
  have u3 := Tryd.underlying3
  have a3 := Tryd.isAgg3
  have z3 := Tryd.sizeOf3
  have u4 := Tryd.underlying22
  have a4 := Tryd.isAgg22
  have z4 := Tryd.sizeOf22
  have u5 := Tryd.underlying9
  have a5 := Tryd.isAgg9
  have z5 := Tryd.sizeOf9
  have u6 := Tryd.underlying55
  have a6 := Tryd.isAgg55
  have z6 := Tryd.sizeOf55
  have hS : Tryd.prog.underlying 57 = some (.struct (Tryd.prog.fieldsOf 57)) := by kernel_rfl
  have hp : Tryd.prog.stoodInHeld 57 = false := by kernel_rfl
  rw [run_neq_struct, show (10000 : Nat) = 9999 + 1 from rfl, run_equalIn_agg w 9999 57 _ _ hS hp]
  simp only [Program.fieldsOf, Tryd.underlying57]
  go_simp
  subst hs
  have e1 : (fb.toList = gb.toList) = (fb = gb) := propext ⟨fun h => tl_iff.1 h, fun h => h ▸ rfl⟩
  have e2 : ((fq : Int) = (gq : Int)) = (fq = gq) := propext Int.natCast_inj
  have e3 : ((fa : Int) = (ga : Int)) = (fa = ga) := propext Int.natCast_inj
  by_cases h0 : fk = gk <;> by_cases h1 : fe = ge <;> by_cases h2 : fq = gq <;> by_cases h3 : fa = ga <;> by_cases h4 : fb = gb <;> simp [e1, e2, e3, h0, h1, h2, h3, h4]
end Go.Proofs.YtcjoemkplghonaaDoor

/- Frames: which may be, their bytes; the document's answers. -/
namespace Go.Proofs.YtcjoemkplghonaaDoor
open Go.RowKit

/-- a frame's bytes, ahead of its sum -/
def putL (K E q a : Nat) (b : ByteArray) : List Nat := [78, 1, K] ++ highN E 2 ++ highN q 8 ++ highN a 8 ++ highN b.size 2 ++ bl b
def putS (K E q a : Nat) (b : ByteArray) : ByteArray := textN (putL K E q a b) ++ textN (tailN (moreN 0 (putL K E q a b)))

theorem putL_lt {K E q a : Nat} {b : ByteArray} (hK : K < 256) : ∀ x ∈ putL K E q a b, x < 256 := by
  intro x hx
  unfold putL at hx
  simp only [List.mem_append] at hx
  rcases hx with ((((hx | hx) | hx) | hx) | hx) | hx
  · simp only [List.mem_cons, List.not_mem_nil, or_false] at hx
    omega
  · exact highN_lt _ _ x hx
  · exact highN_lt _ _ x hx
  · exact highN_lt _ _ x hx
  · exact highN_lt _ _ x hx
  · exact bl_lt b x hx

end Go.Proofs.YtcjoemkplghonaaDoor

/- The frame that bytes are: the document's answer. -/
namespace Go.Proofs.YtcjoemkplghonaaDoor
open Go.RowKit

/-- the frame that stands there -/
def frOf (s : ByteArray) : Fr := ⟨((bl s).getD 2 0 : Nat), (numN (((bl s).drop 3).take 2) : Nat), numN (((bl s).drop 5).take 8), numN (((bl s).drop 13).take 8), s.extract 23 (s.size - 4)⟩

/-- what is wrong first -/
def whatN (s : ByteArray) : Nat :=
  if s.size < 27 then 61 else if (bl s).getD 0 0 ≠ 78 then 62 else if (bl s).getD 1 0 ≠ 1 then 63 else if numN (((bl s).drop 21).take 2) ≠ s.size - 27 then 64
  else if goodB s = false then 65 else if rightB (frOf s) = false then 66 else 0

/-- and where -/
def whereN (s : ByteArray) : Nat :=
  if s.size < 27 then s.size else if (bl s).getD 0 0 ≠ 78 then 0 else if (bl s).getD 1 0 ≠ 1 then 1 else if numN (((bl s).drop 21).take 2) ≠ s.size - 27 then 21
  else if goodB s = false then s.size - 4 else if rightB (frOf s) = false then 2 else 0

def getF (s : ByteArray) : Fr := if whatN s = 0 then frOf s else Fr.zero

def frV (f : Fr) : Value := .agg #[.int .i64 f.k, .int .i64 f.e, .int .u64 (f.q : Int), .int .u64 (f.a : Int), .string f.b]

/-- what the document's Get answers -/
def GetsR (s : ByteArray) (w : World) (e : Ending) (w' : World) : Prop :=
  e = .returned (.tuple #[frV (getF s), .int .i64 (whereN s : Nat), .int .i64 (whatN s : Nat)]) ∧ Ext w w'

theorem five_cells {W : World} {g : Nat} {v0 v1 v2 v3 v4 : Value} {t : TypeId} (h : W.heap[g]? = some (.cells #[v0, v1, v2, v3, v4] t (0, 0))) :
    (W.cell? ⟨g, 0, none⟩ = some v0 ∧ W.cell? ⟨g, 1, none⟩ = some v1 ∧ W.cell? ⟨g, 2, none⟩ = some v2 ∧ W.cell? ⟨g, 3, none⟩ = some v3 ∧ W.cell? ⟨g, 4, none⟩ = some v4) ∧
    (W.frozen? ⟨g, 0, none⟩ = false ∧ W.frozen? ⟨g, 1, none⟩ = false ∧ W.frozen? ⟨g, 2, none⟩ = false ∧ W.frozen? ⟨g, 3, none⟩ = false ∧ W.frozen? ⟨g, 4, none⟩ = false) :=
  ⟨⟨blk_cell h 0 rfl, blk_cell h 1 rfl, blk_cell h 2 rfl, blk_cell h 3 rfl, blk_cell h 4 rfl⟩, blk_free h 0, blk_free h 1, blk_free h 2, blk_free h 3, blk_free h 4⟩

/-- five cells stored -/
def set5 (W : World) (g : Nat) (u0 u1 u2 u3 u4 : Value) : World := ((((W.setCell ⟨g, 0, none⟩ u0).setCell ⟨g, 1, none⟩ u1).setCell ⟨g, 2, none⟩ u2).setCell ⟨g, 3, none⟩ u3).setCell ⟨g, 4, none⟩ u4

theorem set5_blk {W : World} {g : Nat} {v0 v1 v2 v3 v4 : Value} {t : TypeId} (h : W.heap[g]? = some (.cells #[v0, v1, v2, v3, v4] t (0, 0))) (u0 u1 u2 u3 u4 : Value) : (set5 W g u0 u1 u2 u3 u4).heap[g]? = some (.cells #[u0, u1, u2, u3, u4] t (0, 0)) := by
  have h0 := blk_set h 0 u0
  have h1 := blk_set h0 1 u1
  have h2 := blk_set h1 2 u2
  have h3 := blk_set h2 3 u3
  have h4 := blk_set h3 4 u4
  simpa [set5] using h4

theorem set5_other {W : World} {g b : Nat} (h : b ≠ g) (u0 u1 u2 u3 u4 : Value) : (set5 W g u0 u1 u2 u3 u4).heap[b]? = W.heap[b]? := by
  unfold set5
  rw [set_other _ _ _ _ h, set_other _ _ _ _ h, set_other _ _ _ _ h, set_other _ _ _ _ h, set_other _ _ _ _ h]

theorem set5_ext {w W : World} {g : Nat} (x : Ext w W) (hg : w.heap.size ≤ g) (u0 u1 u2 u3 u4 : Value) : Ext w (set5 W g u0 u1 u2 u3 u4) :=
  below_set (below_set (below_set (below_set (below_set x hg _) hg _) hg _) hg _) hg _

end Go.Proofs.YtcjoemkplghonaaDoor

/- The document's Get, whatever the bytes. -/
namespace Go.Proofs.YtcjoemkplghonaaDoor
open Go.RowKit

end Go.Proofs.YtcjoemkplghonaaDoor

/- Frames: what is put is got again, and nothing else; plain mathematics. -/
namespace Go.Proofs.YtcjoemkplghonaaDoor
open Go.RowKit

def putF (f : Fr) : ByteArray := if rightB f = true then putS f.k.toNat f.e.toNat f.q f.a f.b else ⟨#[]⟩
def putE (f : Fr) : Nat := if rightB f = true then 0 else 60

theorem right_spec {f : Fr} (h : rightB f = true) : 0 ≤ f.e ∧ f.e ≤ 65535 ∧ f.b.size ≤ 64 ∧ (f.k = 1 ∨ f.k = 2) := by
  simp only [rightB, Bool.and_eq_true, Bool.or_eq_true, decide_eq_true_eq] at h
  omega

theorem bl_putS {K E q a : Nat} {b : ByteArray} (hK : K < 256) : bl (putS K E q a b) = putL K E q a b ++ tailN (moreN 0 (putL K E q a b)) := by
  unfold putS
  rw [bl_append, bl_textN (putL_lt hK), bl_textN (tailN_lt (moreN_lt (by decide) (putL_lt hK)))]

theorem putL_length (K E q a : Nat) (b : ByteArray) : (putL K E q a b).length = 23 + b.size := by
  unfold putL
  simp only [List.length_append, List.length_cons, List.length_nil, highN_length, bl_length]

theorem putS_size {K E q a : Nat} {b : ByteArray} (hK : K < 256) : (putS K E q a b).size = 27 + b.size := by
  rw [← bl_length, bl_putS hK, List.length_append, putL_length]
  show 23 + b.size + 4 = _
  omega

theorem putL_is (K E q a : Nat) (b : ByteArray) : putL K E q a b = 78 :: 1 :: K :: (E / 256 ^ 1 % 256) :: (E / 256 ^ 0 % 256) :: (q / 256 ^ 7 % 256) :: (q / 256 ^ 6 % 256) :: (q / 256 ^ 5 % 256) :: (q / 256 ^ 4 % 256) :: (q / 256 ^ 3 % 256) :: (q / 256 ^ 2 % 256) :: (q / 256 ^ 1 % 256) :: (q / 256 ^ 0 % 256) :: (a / 256 ^ 7 % 256) :: (a / 256 ^ 6 % 256) :: (a / 256 ^ 5 % 256) :: (a / 256 ^ 4 % 256) :: (a / 256 ^ 3 % 256) :: (a / 256 ^ 2 % 256) :: (a / 256 ^ 1 % 256) :: (a / 256 ^ 0 % 256) :: (b.size / 256 ^ 1 % 256) :: (b.size / 256 ^ 0 % 256) :: bl b := rfl

/-- the places of a frame's bytes -/
theorem at_put (K E q a : Nat) (b : ByteArray) (t : List Nat) :
    (putL K E q a b ++ t).getD 0 0 = 78 ∧ (putL K E q a b ++ t).getD 1 0 = 1 ∧ (putL K E q a b ++ t).getD 2 0 = K ∧ ((putL K E q a b ++ t).drop 3).take 2 = highN E 2 ∧
    ((putL K E q a b ++ t).drop 5).take 8 = highN q 8 ∧ ((putL K E q a b ++ t).drop 13).take 8 = highN a 8 ∧ ((putL K E q a b ++ t).drop 21).take 2 = highN b.size 2 ∧ (putL K E q a b ++ t).drop 23 = bl b ++ t :=
  ⟨rfl, rfl, rfl, rfl, rfl, rfl, rfl, rfl⟩

theorem num_of {n m : Nat} (h : n < 256 ^ m) : numN (highN n m) = n := by rw [numN_highN, Nat.mod_eq_of_lt h]

theorem good_put {K E q a : Nat} {b : ByteArray} (hK : K < 256) : goodB (putS K E q a b) = true := by
  have := (good_with (textN (putL K E q a b))).1
  rwa [bl_textN (putL_lt hK)] at this

theorem fr_put {K E q a : Nat} {b : ByteArray} (hK : K < 256) (hE : E < 65536) (hq : q < 18446744073709551616) (ha : a < 18446744073709551616) : frOf (putS K E q a b) = ⟨K, E, q, a, b⟩ := by
  obtain ⟨_, _, h2, h3, h4, h5, _, h7⟩ := at_put K E q a b (tailN (moreN 0 (putL K E q a b)))
  have h8 : (putS K E q a b).extract 23 ((putS K E q a b).size - 4) = b := by
    apply bl_inj
    rw [bl_extract, bl_putS hK, h7, putS_size hK]
    have : 27 + b.size - 4 - 23 = (bl b).length := by rw [bl_length]; omega
    rw [this, List.take_left]
  unfold frOf
  rw [h8, bl_putS hK, h2, h3, h4, h5, num_of (show E < 256 ^ 2 by omega), num_of (show q < 256 ^ 8 by omega), num_of (show a < 256 ^ 8 by omega)]

theorem what_of {s : ByteArray} (h : ¬ s.size < 27) (h0 : (bl s).getD 0 0 = 78) (h1 : (bl s).getD 1 0 = 1) (h2 : numN (((bl s).drop 21).take 2) = s.size - 27) (h3 : goodB s = true) (h4 : rightB (frOf s) = true) : whatN s = 0 := by
  unfold whatN
  rw [if_neg h, if_neg (by simpa using h0), if_neg (by simpa using h1), if_neg (by simpa using h2), if_neg (by rw [h3]; decide), if_neg (by rw [h4]; decide)]

theorem what_zero {s : ByteArray} (h : whatN s = 0) : ¬ s.size < 27 ∧ (bl s).getD 0 0 = 78 ∧ (bl s).getD 1 0 = 1 ∧ numN (((bl s).drop 21).take 2) = s.size - 27 ∧ goodB s = true ∧ rightB (frOf s) = true := by
  unfold whatN at h
  split at h
  · cases h
  split at h
  · cases h
  split at h
  · cases h
  split at h
  · cases h
  split at h
  · cases h
  split at h
  · cases h
  rename_i h0 h1 h2 h3 h4 h5
  exact ⟨h0, by simpa using h1, by simpa using h2, by simpa using h3, by simpa using h4, by simpa using h5⟩

theorem where_zero {s : ByteArray} (h : whatN s = 0) : whereN s = 0 := by
  obtain ⟨h, h0, h1, h2, h3, h4⟩ := what_zero h
  unfold whereN
  rw [if_neg h, if_neg (by simpa using h0), if_neg (by simpa using h1), if_neg (by simpa using h2), if_neg (by rw [h3]; decide), if_neg (by rw [h4]; decide)]

theorem where_le (s : ByteArray) : whereN s ≤ s.size := by
  unfold whereN
  split
  · omega
  split
  · omega
  split
  · omega
  split
  · omega
  split
  · omega
  split <;> omega

/-- what is put is got again -/
theorem put_get {f : Fr} (hq : f.q < 18446744073709551616) (ha : f.a < 18446744073709551616) (h : rightB f = true) : whatN (putF f) = 0 ∧ getF (putF f) = f := by
  obtain ⟨h1, h2, h3, h4⟩ := right_spec h
  have hK : f.k.toNat < 256 := by omega
  have hE : f.e.toNat < 65536 := by omega
  have hp : putF f = putS f.k.toNat f.e.toNat f.q f.a f.b := by unfold putF; rw [if_pos h]
  have hf : frOf (putF f) = f := by
    rw [hp, fr_put hK hE hq ha]
    obtain ⟨k, e, q, a, b⟩ := f
    simp only [Fr.mk.injEq, and_self, and_true]
    simp only at h1 h4
    omega
  obtain ⟨g0, g1, _, _, _, _, g6, _⟩ := at_put f.k.toNat f.e.toNat f.q f.a f.b (tailN (moreN 0 (putL f.k.toNat f.e.toNat f.q f.a f.b)))
  have hw : whatN (putF f) = 0 := by
    refine what_of ?_ ?_ ?_ ?_ ?_ (by rw [hf]; exact h)
    · rw [hp, putS_size hK]; omega
    · rw [hp, bl_putS hK]; exact g0
    · rw [hp, bl_putS hK]; exact g1
    · rw [hp, bl_putS hK, g6, putS_size hK, num_of (show f.b.size < 256 ^ 2 by omega)]; omega
    · rw [hp]; exact good_put hK
  exact ⟨hw, by unfold getF; rw [if_pos hw, hf]⟩

theorem list_parts {l : List Nat} (h : 23 ≤ l.length) : l = [l.getD 0 0, l.getD 1 0, l.getD 2 0] ++ (l.drop 3).take 2 ++ (l.drop 5).take 8 ++ (l.drop 13).take 8 ++ (l.drop 21).take 2 ++ l.drop 23 := by
  obtain ⟨x0, l0, rfl⟩ : ∃ x r, l = x :: r := by
    cases l with
    | nil => simp at h
    | cons x r => exact ⟨x, r, rfl⟩
  obtain ⟨x1, l1, rfl⟩ : ∃ x r, l0 = x :: r := by
    cases l0 with
    | nil => simp at h
    | cons x r => exact ⟨x, r, rfl⟩
  obtain ⟨x2, l2, rfl⟩ : ∃ x r, l1 = x :: r := by
    cases l1 with
    | nil => simp at h
    | cons x r => exact ⟨x, r, rfl⟩
  obtain ⟨x3, l3, rfl⟩ : ∃ x r, l2 = x :: r := by
    cases l2 with
    | nil => simp at h
    | cons x r => exact ⟨x, r, rfl⟩
  obtain ⟨x4, l4, rfl⟩ : ∃ x r, l3 = x :: r := by
    cases l3 with
    | nil => simp at h
    | cons x r => exact ⟨x, r, rfl⟩
  obtain ⟨x5, l5, rfl⟩ : ∃ x r, l4 = x :: r := by
    cases l4 with
    | nil => simp at h
    | cons x r => exact ⟨x, r, rfl⟩
  obtain ⟨x6, l6, rfl⟩ : ∃ x r, l5 = x :: r := by
    cases l5 with
    | nil => simp at h
    | cons x r => exact ⟨x, r, rfl⟩
  obtain ⟨x7, l7, rfl⟩ : ∃ x r, l6 = x :: r := by
    cases l6 with
    | nil => simp at h
    | cons x r => exact ⟨x, r, rfl⟩
  obtain ⟨x8, l8, rfl⟩ : ∃ x r, l7 = x :: r := by
    cases l7 with
    | nil => simp at h
    | cons x r => exact ⟨x, r, rfl⟩
  obtain ⟨x9, l9, rfl⟩ : ∃ x r, l8 = x :: r := by
    cases l8 with
    | nil => simp at h
    | cons x r => exact ⟨x, r, rfl⟩
  obtain ⟨x10, l10, rfl⟩ : ∃ x r, l9 = x :: r := by
    cases l9 with
    | nil => simp at h
    | cons x r => exact ⟨x, r, rfl⟩
  obtain ⟨x11, l11, rfl⟩ : ∃ x r, l10 = x :: r := by
    cases l10 with
    | nil => simp at h
    | cons x r => exact ⟨x, r, rfl⟩
  obtain ⟨x12, l12, rfl⟩ : ∃ x r, l11 = x :: r := by
    cases l11 with
    | nil => simp at h
    | cons x r => exact ⟨x, r, rfl⟩
  obtain ⟨x13, l13, rfl⟩ : ∃ x r, l12 = x :: r := by
    cases l12 with
    | nil => simp at h
    | cons x r => exact ⟨x, r, rfl⟩
  obtain ⟨x14, l14, rfl⟩ : ∃ x r, l13 = x :: r := by
    cases l13 with
    | nil => simp at h
    | cons x r => exact ⟨x, r, rfl⟩
  obtain ⟨x15, l15, rfl⟩ : ∃ x r, l14 = x :: r := by
    cases l14 with
    | nil => simp at h
    | cons x r => exact ⟨x, r, rfl⟩
  obtain ⟨x16, l16, rfl⟩ : ∃ x r, l15 = x :: r := by
    cases l15 with
    | nil => simp at h
    | cons x r => exact ⟨x, r, rfl⟩
  obtain ⟨x17, l17, rfl⟩ : ∃ x r, l16 = x :: r := by
    cases l16 with
    | nil => simp at h
    | cons x r => exact ⟨x, r, rfl⟩
  obtain ⟨x18, l18, rfl⟩ : ∃ x r, l17 = x :: r := by
    cases l17 with
    | nil => simp at h
    | cons x r => exact ⟨x, r, rfl⟩
  obtain ⟨x19, l19, rfl⟩ : ∃ x r, l18 = x :: r := by
    cases l18 with
    | nil => simp at h
    | cons x r => exact ⟨x, r, rfl⟩
  obtain ⟨x20, l20, rfl⟩ : ∃ x r, l19 = x :: r := by
    cases l19 with
    | nil => simp at h
    | cons x r => exact ⟨x, r, rfl⟩
  obtain ⟨x21, l21, rfl⟩ : ∃ x r, l20 = x :: r := by
    cases l20 with
    | nil => simp at h
    | cons x r => exact ⟨x, r, rfl⟩
  obtain ⟨x22, l22, rfl⟩ : ∃ x r, l21 = x :: r := by
    cases l21 with
    | nil => simp at h
    | cons x r => exact ⟨x, r, rfl⟩
  rfl

/-- nothing else is got -/
theorem get_put {s : ByteArray} (h : whatN s = 0) : rightB (frOf s) = true ∧ putF (frOf s) = s := by
  obtain ⟨h, h0, h1, h2, h3, h4⟩ := what_zero h
  refine ⟨h4, ?_⟩
  have hlt : ∀ b ∈ bl s, b < 256 := bl_lt s
  have hl := bl_length s
  have hx : ∀ i j, ∀ b ∈ ((bl s).drop i).take j, b < 256 := fun i j b hb => hlt b (List.mem_of_mem_drop (List.mem_of_mem_take hb))
  have hh : ∀ i j, i + j ≤ s.size → highN (numN (((bl s).drop i).take j)) j = ((bl s).drop i).take j := fun i j hij => by
    have := highN_numN (hx i j)
    rwa [List.length_take, List.length_drop, hl, Nat.min_eq_left (by omega)] at this
  have hp := list_parts (l := bl s) (by omega)
  have hb : (s.extract 23 (s.size - 4)).size = s.size - 27 := by rw [ByteArray.size_extract]; omega
  have hbl : bl (s.extract 23 (s.size - 4)) = ((bl s).drop 23).take (s.size - 4 - 23) := bl_extract _ _ _
  have hg := good_is h3
  have hgs : goodS s = s.extract 0 (s.size - 4) := by unfold goodS; rw [if_pos h3]; rfl
  have hput : putL ((bl s).getD 2 0) (numN (((bl s).drop 3).take 2)) (numN (((bl s).drop 5).take 8)) (numN (((bl s).drop 13).take 8)) (s.extract 23 (s.size - 4)) = bl (goodS s) := by
    unfold putL
    rw [hb, ← h2, hh 3 2 (by omega), hh 5 8 (by omega), hh 13 8 (by omega), hh 21 2 (by omega), hbl, hgs, bl_extract, List.drop_zero, Nat.sub_zero]
    have e : s.size - 4 = 23 + (s.size - 4 - 23) := by omega
    have h23 : (bl s).take 23 = [78, 1, (bl s).getD 2 0] ++ ((bl s).drop 3).take 2 ++ ((bl s).drop 5).take 8 ++ ((bl s).drop 13).take 8 ++ ((bl s).drop 21).take 2 := by
      rw [← h0, ← h1]
      have := congrArg (List.take 23) hp
      rw [this]
      have hlen : ([(bl s).getD 0 0, (bl s).getD 1 0, (bl s).getD 2 0] ++ ((bl s).drop 3).take 2 ++ ((bl s).drop 5).take 8 ++ ((bl s).drop 13).take 8 ++ ((bl s).drop 21).take 2).length = 23 := by
        simp only [List.length_append, List.length_cons, List.length_nil, List.length_take, List.length_drop, hl]
        omega
      exact List.take_left' hlen
    conv => rhs; rw [e, List.take_add]
    rw [h23]
  have hK : (bl s).getD 2 0 < 256 := by
    have : 2 < (bl s).length := by omega
    rw [List.getD_eq_getElem?_getD, List.getElem?_eq_getElem this]
    exact hlt _ (List.getElem_mem this)
  unfold putF
  rw [if_pos h4]
  show putS ((bl s).getD 2 0) (numN (((bl s).drop 3).take 2)) (numN (((bl s).drop 5).take 8)) (numN (((bl s).drop 13).take 8)) (s.extract 23 (s.size - 4)) = s
  unfold putS
  rw [hput, textN_bl]
  exact hg

theorem one_other {l : List Nat} (hl : ∀ b ∈ l, b < 256) {k d : Nat} (hk : k < l.length) (hd : d < 256) (h0 : d ≠ 0) : moreN 0 (l.set k (l.getD k 0 ^^^ d)) ≠ moreN 0 l := by
  obtain ⟨u, m, a, rfl, rfl⟩ : ∃ u m a, l = u ++ a :: m ∧ k = u.length := by
    refine ⟨l.take k, l.drop (k + 1), l[k], ?_, by rw [List.length_take]; omega⟩
    rw [← List.drop_eq_getElem_cons hk, List.take_append_drop]
  have ha : a < 256 := hl a (by simp)
  have hu : ∀ x ∈ u, x < 256 := fun x hx => hl x (by simp [hx])
  have hm : ∀ x ∈ m, x < 256 := fun x hx => hl x (by simp [hx])
  have e1 : (u ++ a :: m).getD u.length 0 = a := by simp [List.getD]
  have e2 : ∀ y, (u ++ a :: m).set u.length y = u ++ y :: m := fun y => by simp
  rw [e1, e2]
  intro h
  have h2 : ∀ x z : Nat, x ^^^ 4294967295 = z ^^^ 4294967295 → x = z := fun x z e => by rw [← xor_twice x 4294967295, e, xor_twice]
  unfold moreN at h
  have h := h2 _ _ h
  rw [byts_append, byts_append] at h
  have hc : byts (0 ^^^ 4294967295) u < 4294967296 := byts_lt (by decide) hu
  have hx : a ^^^ d < 256 := by
    have : a ^^^ d < 2 ^ 8 := Nat.xor_lt_two_pow (by omega) (by omega)
    omega
  have h3 : byt (byts (0 ^^^ 4294967295) u) (a ^^^ d) = byt (byts (0 ^^^ 4294967295) u) a := by
    refine byts_inj (byt_lt hc hx) (byt_lt hc ha) hm ?_
    exact h
  unfold byt at h3
  generalize byts (0 ^^^ 4294967295) u = c at *
  have hb : ∀ y, y < 256 → c ^^^ y < 4294967296 := fun y hy => by
    have : c ^^^ y < 2 ^ 32 := Nat.xor_lt_two_pow (by omega) (by omega)
    omega
  have h4 := shN_inj 8 (hb _ hx) (hb _ ha) h3
  have h5 : c ^^^ (c ^^^ (a ^^^ d)) = c ^^^ (c ^^^ a) := by rw [h4]
  rw [← Nat.xor_assoc, Nat.xor_self, Nat.zero_xor, ← Nat.xor_assoc, Nat.xor_self, Nat.zero_xor] at h5
  have h6 : a ^^^ (a ^^^ d) = a ^^^ a := by rw [h5]
  rw [← Nat.xor_assoc, Nat.xor_self, Nat.zero_xor] at h6
  exact h0 h6

/-- the bytes, one of them another one -/
def oneB (s : ByteArray) (k d : Nat) : ByteArray := textN ((bl s).set k ((bl s).getD k 0 ^^^ d))

theorem xor_ne {x d : Nat} (h : d ≠ 0) : x ^^^ d ≠ x := fun e => by
  have h6 : x ^^^ (x ^^^ d) = x ^^^ x := by rw [e]
  rw [← Nat.xor_assoc, Nat.xor_self, Nat.zero_xor] at h6
  exact h h6

theorem xor_lt256 {x d : Nat} (hx : x < 256) (hd : d < 256) : x ^^^ d < 256 := by
  have : x ^^^ d < 2 ^ 8 := Nat.xor_lt_two_pow (by omega) (by omega)
  omega

theorem bl_oneB {s : ByteArray} {k d : Nat} (hd : d < 256) : bl (oneB s k d) = (bl s).set k ((bl s).getD k 0 ^^^ d) := by
  refine bl_textN fun b hb => ?_
  rcases List.mem_or_eq_of_mem_set hb with h | rfl
  · exact bl_lt s b h
  · refine xor_lt256 ?_ hd
    by_cases hk : k < (bl s).length
    · rw [List.getD_eq_getElem?_getD, List.getElem?_eq_getElem hk]
      exact bl_lt s _ (List.getElem_mem hk)
    · rw [List.getD_eq_getElem?_getD, List.getElem?_eq_none (by omega)]
      decide

/-- bytes of which one is another one are no frame -/
theorem turned_none {s : ByteArray} (hs : whatN s = 0) {k d : Nat} (hk : k < s.size) (hd : d < 256) (h0 : d ≠ 0) : whatN (oneB s k d) ≠ 0 := by
  intro h
  obtain ⟨a0, a1, a2, a3, a4, _⟩ := what_zero hs
  obtain ⟨b0, b1, b2, b3, b4, _⟩ := what_zero h
  have hl := bl_length s
  have hsz : (oneB s k d).size = s.size := by rw [← bl_length, bl_oneB hd, List.length_set, hl]
  rw [bl_oneB hd] at b1 b2 b3
  have hg : ∀ i, i < s.size → ((bl s).set k ((bl s).getD k 0 ^^^ d)).getD i 0 = if i = k then (bl s).getD k 0 ^^^ d else (bl s).getD i 0 := fun i hi => by
    by_cases hik : i = k
    · subst hik
      simp [List.getD, hl, hi]
    · rw [if_neg hik, List.getD_eq_getElem?_getD, List.getElem?_set_ne (Ne.symm hik), ← List.getD_eq_getElem?_getD]
  have two : ∀ (l : List Nat), 23 ≤ l.length → (l.drop 21).take 2 = [l.getD 21 0, l.getD 22 0] := fun l h => by
    have h1 : 21 < l.length := by omega
    have h2 : 22 < l.length := by omega
    have e : l.drop 21 = l[21] :: l[22] :: l.drop 23 := by rw [List.drop_eq_getElem_cons h1, List.drop_eq_getElem_cons h2]
    rw [e, List.getD_eq_getElem?_getD, List.getD_eq_getElem?_getD, List.getElem?_eq_getElem h1, List.getElem?_eq_getElem h2]
    rfl
  have numtwo : ∀ x y : Nat, numN [x, y] = x * 256 + y := fun x y => by simp [numN]
  have ltg : ∀ i, (bl s).getD i 0 < 256 := fun i => by
    by_cases hi : i < (bl s).length
    · rw [List.getD_eq_getElem?_getD, List.getElem?_eq_getElem hi]
      exact bl_lt s _ (List.getElem_mem hi)
    · rw [List.getD_eq_getElem?_getD, List.getElem?_eq_none (by omega)]
      decide
  by_cases k0 : k = 0
  · subst k0
    rw [hg 0 hk, if_pos rfl, a1] at b1
    exact xor_ne h0 b1
  by_cases k1 : k = 1
  · subst k1
    rw [hg 1 hk, if_pos rfl, a2] at b2
    exact xor_ne h0 b2
  by_cases k2 : k = 21
  · subst k2
    rw [two _ (by rw [List.length_set]; omega), hg 21 hk, if_pos rfl, hg 22 (by omega), if_neg (by decide), hsz, ← a3, two _ (by omega), numtwo, numtwo] at b3
    have := ltg 22
    exact xor_ne h0 (show (bl s).getD 21 0 ^^^ d = (bl s).getD 21 0 by omega)
  by_cases k3 : k = 22
  · subst k3
    rw [two _ (by rw [List.length_set]; omega), hg 22 hk, if_pos rfl, hg 21 (by omega), if_neg (by decide), hsz, ← a3, two _ (by omega), numtwo, numtwo] at b3
    exact xor_ne h0 (show (bl s).getD 22 0 ^^^ d = (bl s).getD 22 0 by omega)
  -- the sum
  unfold goodB at a4 b4
  rw [Bool.and_eq_true, decide_eq_true_eq, decide_eq_true_eq] at a4 b4
  have c1 := congrArg bl a4.2
  have c2 := congrArg bl b4.2
  have ba : ∀ t : ByteArray, bl (ahead t) = (bl t).take (t.size - 4) := fun t => by unfold ahead; rw [bl_extract, List.drop_zero, Nat.sub_zero]
  have bz : ∀ t : ByteArray, bl (last4 t) = ((bl t).drop (t.size - 4)).take 4 := fun t => by
    unfold last4
    rw [bl_extract]
    by_cases h4 : 4 ≤ t.size
    · rw [show t.size - (t.size - 4) = 4 by omega]
    · rw [show t.size - 4 = 0 by omega, List.drop_zero, Nat.sub_zero, List.take_of_length_le (by rw [bl_length]; exact Nat.le_refl _), List.take_of_length_le (by rw [bl_length]; omega)]
  have mlt : ∀ t : ByteArray, moreN 0 (bl t) < 4294967296 := sum_lt
  rw [bl_textN (tailN_lt (mlt _)), bz] at c1 c2
  rw [hsz, bl_oneB hd] at c2
  rw [ba] at c1
  have hc2 : moreN 0 (bl (ahead (oneB s k d))) = moreN 0 (((bl s).set k ((bl s).getD k 0 ^^^ d)).take (s.size - 4)) := by rw [ba, hsz, bl_oneB hd]
  rw [hc2] at c2
  by_cases hk4 : k < s.size - 4
  · rw [List.drop_set_of_lt hk4, c1] at c2
    have hlt2 : ∀ b ∈ (bl s).take (s.size - 4), b < 256 := fun b hb => bl_lt s b (List.mem_of_mem_take hb)
    have hts : ((bl s).set k ((bl s).getD k 0 ^^^ d)).take (s.size - 4) = ((bl s).take (s.size - 4)).set k (((bl s).take (s.size - 4)).getD k 0 ^^^ d) := by
      rw [List.take_set]
      congr 2
      simp [List.getD, hk4]
    rw [hts] at c2
    have hlt3 : ∀ b ∈ ((bl s).take (s.size - 4)).set k (((bl s).take (s.size - 4)).getD k 0 ^^^ d), b < 256 := fun b hb => by
      rcases List.mem_or_eq_of_mem_set hb with h | rfl
      · exact hlt2 b h
      · refine xor_lt256 ?_ hd
        rw [List.getD_eq_getElem?_getD, List.getElem?_take_of_lt hk4, ← List.getD_eq_getElem?_getD]
        exact ltg k
    have e := tail_inj (moreN_lt (c := 0) (by decide) hlt2) (moreN_lt (c := 0) (by decide) hlt3) (by rw [c2])
    exact one_other hlt2 (by rw [List.length_take]; omega) hd h0 e.symm
  · have e : (((bl s).set k ((bl s).getD k 0 ^^^ d)).take (s.size - 4)) = (bl s).take (s.size - 4) := by
      rw [List.take_set, List.set_eq_of_length_le (by rw [List.length_take]; omega)]
    rw [e, ← c1] at c2
    have hd1 : ((bl s).set k ((bl s).getD k 0 ^^^ d)).drop (s.size - 4) = ((bl s).drop (s.size - 4)).set (k - (s.size - 4)) ((bl s).getD k 0 ^^^ d) := by
      rw [List.drop_set, if_neg hk4]
    rw [hd1] at c2
    have h4 : ((bl s).drop (s.size - 4)).length = 4 := by rw [List.length_drop, hl]; omega
    rw [List.take_of_length_le (by rw [List.length_set, h4]; exact Nat.le_refl _), List.take_of_length_le (by rw [h4]; exact Nat.le_refl _)] at c2
    have c3 := congrArg (fun l => l.getD (k - (s.size - 4)) 0) c2
    have hi : k - (s.size - 4) < ((bl s).drop (s.size - 4)).length := by rw [h4]; omega
    have e3 : ((bl s).drop (s.size - 4)).getD (k - (s.size - 4)) 0 = (bl s).getD k 0 := by
      rw [List.getD_eq_getElem?_getD, List.getElem?_drop, show s.size - 4 + (k - (s.size - 4)) = k by omega, ← List.getD_eq_getElem?_getD]
    have e4 : ∀ y, (((bl s).drop (s.size - 4)).set (k - (s.size - 4)) y).getD (k - (s.size - 4)) 0 = y := fun y => by
      rw [List.getD_eq_getElem?_getD, List.getElem?_set_self hi]; rfl
    rw [e3, e4] at c3
    exact xor_ne h0 c3

/-- cut ones neither -/
theorem cut_none {s : ByteArray} (hs : whatN s = 0) {k : Nat} (hk : k < s.size) : whatN (s.extract 0 k) ≠ 0 := by
  intro h
  obtain ⟨a0, _, _, a3, _⟩ := what_zero hs
  obtain ⟨b0, _, _, b3, _⟩ := what_zero h
  have hsz : (s.extract 0 k).size = k := by rw [ByteArray.size_extract]; omega
  rw [hsz] at b0 b3
  rw [bl_extract, List.drop_zero, Nat.sub_zero, List.drop_take, List.take_take, Nat.min_eq_left (by omega), a3] at b3
  omega

/-- and longer ones -/
theorem more_none {s : ByteArray} (hs : whatN s = 0) (t : ByteArray) (ht : t.size = 1) : whatN (s ++ t) ≠ 0 := by
  intro h
  obtain ⟨a0, _, _, a3, _⟩ := what_zero hs
  obtain ⟨b0, _, _, b3, _⟩ := what_zero h
  have hsz : (s ++ t).size = s.size + 1 := by rw [ByteArray.size_append, ht]
  have hl := bl_length s
  rw [hsz] at b0 b3
  rw [bl_append, List.drop_append_of_le_length (by omega), List.take_append_of_le_length (by rw [List.length_drop]; omega), a3] at b3
  omega

theorem putF_inj {f g : Fr} (hq : f.q < 18446744073709551616) (ha : f.a < 18446744073709551616) (hf : rightB f = true) (hq2 : g.q < 18446744073709551616) (ha2 : g.a < 18446744073709551616) (hg : rightB g = true) : putF f = putF g ↔ f = g := by
  constructor
  · intro h
    rw [← (put_get hq ha hf).2, h, (put_get hq2 ha2 hg).2]
  · intro h
    rw [h]

theorem putF_size {f : Fr} (hf : rightB f = true) : (putF f).size = 27 + f.b.size := by
  obtain ⟨_, _, _, h4⟩ := right_spec hf
  unfold putF
  rw [if_pos hf, putS_size (by omega)]
end Go.Proofs.YtcjoemkplghonaaDoor

/- Frames: when two are the same; what a box holds. -/
namespace Go.Proofs.YtcjoemkplghonaaDoor
end Go.Proofs.YtcjoemkplghonaaDoor

/- Bytes being written: a slice of bytes of the call's own, what is appended to it, and the program's own numbers. -/
namespace Go.Proofs.YtcjoemkplghonaaDoor
open Go.RowKit

structure B8 where
  n : Nat

instance : Elem B8 where
  e := 5
  t := 76
  k := 1
  bytes := 1
  z := .int .u8 0
  enc := fun x => [.int .u8 (x.n : Int)]
  dflt := ⟨0⟩
  len := fun _ => rfl
  pos := by decide
  one := fun x u hu => by simp at hu; subst hu; rfl
  row := by kernel_rfl
  info := by kernel_rfl
  zsize := rfl
  few := by decide

def b8 (l : List Nat) : List B8 := l.map B8.mk
theorem b8_length (l : List Nat) : (b8 l).length = l.length := by unfold b8; rw [List.length_map]
theorem b8_append (l m : List Nat) : b8 (l ++ m) = b8 l ++ b8 m := by unfold b8; rw [List.map_append]
theorem cells_b : ∀ l : List Nat, cellsOf (b8 l) = l.map fun b : Nat => Value.int .u8 (b : Int)
  | [] => rfl
  | a :: l => by
    have ih := cells_b l
    show Elem.enc (B8.mk a) ++ cellsOf (b8 l) = _
    rw [ih]
    rfl
theorem cells_text (s : ByteArray) : Lib.strCells s = (bl s).map fun b : Nat => Value.int .u8 (b : Int) := by
  unfold Lib.strCells bl
  rw [List.map_map]
  rfl

/-- append(b, s...) -/
theorem wpList_append_text {w : World} {ops : Array Oper} {rest : List Oper} {o : Oper} {a : Act} {Q : Exit → Act → World → Prop} (hgd : o.guard = none) (s x : Operand)
    (ho : o.op = .call { callee := .builtin .append, args := #[s, x], argTypes := #[76, 9] })
    (B : Nat) (v : Value) (l : List Nat) (hs : a.eval s = v) (hown : Ow w B v (b8 l)) (t : ByteArray) (hx : a.eval x = .string t)
    (hbytes : l.length + t.size ≤ 100000000) (hbase : B ≤ w.heap.size)
    (h : ∀ v' w', Ow w' B v' (b8 (l ++ bl t)) → Below B w w' → wpList Tryd.prog ops Q rest (a.put o.dst v') w') : wpList Tryd.prog ops Q (o :: rest) a w := by
  obtain ⟨i0, hi, hz0, hz1, hz2⟩ := info_parts (Elem.info (α := B8))
  have hlow := hown.low
  have hown' := hown
  unfold Ow at hown'
  rw [b8_length, cells_b] at hown'
  refine Lib.wpList_append_own_string w hgd s x 76 9 ho B (Elem.e B8) i0 (Elem.row (α := B8)) (by kernel_rfl) hi hz0 hz1 hz2 v l.length _ hs hown' t hx (by unfold maxLen; omega) (by omega) hbase fun v' w' h1 h2 _ => h v' w' ?_ ?_
  · unfold Ow
    rw [b8_length, cells_b, List.length_append, List.map_append, bl_length, ← cells_text]
    exact h1
  · exact (Below.refl _ _).grown h2 hbase fun k hk => (hlow k hk).1

/-- string(b) -/
theorem text_ow {w : World} {B : Nat} {v : Value} {l : List Nat} (h : Ow w B v (b8 l)) (hl : l ≠ []) :
    ∃ g c, v = .slice (some ⟨g, 0, none⟩) l.length c ∧ g < w.heap.size ∧ (convert 76 9 (.slice (some ⟨g, 0, none⟩) l.length c)).run Tryd.prog w = .ok (.string (textN l)) w := by
  unfold Ow at h
  rw [b8_length, cells_b] at h
  rcases h.2 with ⟨_, h0⟩ | ⟨g, cap, cur, rfl, _, hh, _, _, _, _⟩
  · exact absurd (List.eq_nil_of_length_eq_zero h0) hl
  · have hg := (Array.getElem?_eq_some_iff.1 hh).1
    refine ⟨g, cap, rfl, hg, ?_⟩
    have := run_convert_bytes_arg (P := Tryd.prog) w 76 5 (by kernel_rfl) (by kernel_rfl) g 0 l.length cap (l.map fun b : Nat => (b : Int)) (by simp) (fun i hi => by
      rw [Nat.zero_add]
      have h3 := h.cellAt (g := g) i (by show i < l.length * 1; omega)
      rw [h3]
      simp [hi]) 9 (by kernel_rfl)
    rw [this]
    have e : strOfNums (l.map fun b : Nat => (b : Int)) = textN l := by
      unfold strOfNums textN
      rw [List.map_map]
      rfl
    rw [e]

theorem highN_take (n m k d : Nat) (h : m = k + 1 + d) : (highN n m).take (k + 1) = (highN n m).take k ++ [n / 256 ^ d % 256] := by
  have hl : k < (highN n m).length := by rw [highN_length]; omega
  rw [List.take_succ_eq_append_getElem hl]
  congr 2
  subst h
  have key : ∀ (k : Nat) (h : k < (highN n (k + 1 + d)).length), (highN n (k + 1 + d))[k] = n / 256 ^ d % 256 := by
    intro k
    induction k with
    | zero => intro h; simp only [Nat.zero_add, Nat.add_comm 1 d, highN, List.getElem_cons_zero]
    | succ k ih =>
      intro h
      have e : k + 1 + 1 + d = (k + 1 + d) + 1 := by omega
      simp only [e, highN, List.getElem_cons_succ]
      exact ih _
  exact key k hl

theorem stopat {p : Prop} (h : p ∨ False) : p := h.elim id False.elim
theorem pow256 (d : Nat) : (256 : Nat) ^ d = 2 ^ (8 * d) := by rw [Nat.pow_mul]

set_option maxHeartbeats 800000 in
theorem writeNumber_any (w : World) (B : Nat) (v : Value) (l : List Nat) (n f t m : Nat) (hm : t = f + m) (h : Ow w B v (b8 l)) (hB : B ≤ w.heap.size) (h8 : m ≤ 8) (hl : l.length ≤ 1000) :
    Calls Tryd.prog 52 #[v, .int .u64 (n : Int), .int .i64 (f : Int), .int .i64 (t : Int)] w fun e w' => ∃ v', e = .returned v' ∧ Ow w' B v' (b8 (l ++ highN n m)) ∧ Below B w w' := by
  obtain ⟨ao, nn, c, rfl⟩ := h.sh
  have HO := Lib.hid h
  clear h
  have e0 : (t : Int) - (f : Int) = (m : Int) := by omega
  replace hm := Lib.hid hm
  go_enter Tryd.func52, Tryd.ntmps52
  go_wp2
  go_loopw [0, 9] (fun b i wr => ∃ k : Nat, k ≤ m ∧ i = .int .i64 ((m : Int) - 1 - (k : Int)) ∧ (∃ ao nn c, b = .slice ao nn c) ∧ Hid (Ow wr B b (b8 (l ++ (highN n m).take k))) ∧ Hid (Below B w wr)) (fun _ i _ => (intOf i + 1).toNat)
  case atStart => exact ⟨0, Nat.zero_le _, by simp, ⟨_, _, _, rfl⟩, Lib.hid (by simpa using HO.out), Lib.hid (Below.refl _ _)⟩
  case round =>
    obtain ⟨k, hk, rfl, ⟨ao, nn, c, rfl⟩, HW, HX⟩ := hrel
    by_cases hlt : k < m
    · obtain ⟨d, hd⟩ : ∃ d, m = k + 1 + d := ⟨m - (k + 1), by omega⟩
      have e1 : (m : Int) - 1 - (k : Int) = (d : Int) := by omega
      have HT := Lib.hid (highN_take n m k d hd)
      have hd8 : d ≤ 7 := by omega
      have HD := Lib.hid hd
      clear hd
      rw [e1]
      have hs := HX.out.size
      have e2 : (n : Int) / 2 ^ (8 * d) % 256 = ((n / 256 ^ d % 256 : Nat) : Int) := by
        rw [pow256]
        simp
      obtain ⟨Y, hY⟩ : ∃ Y, Y = n / 256 ^ d % 256 := ⟨_, rfl⟩
      rw [← hY] at e2 HT
      have hY2 : Y < 256 := by rw [hY]; exact Nat.mod_lt _ (by decide)
      clear hY
      have hlen : (b8 (l ++ (highN n m).take k)).length + 1 ≤ 100000000 := by rw [b8_length, List.length_append, List.length_take]; omega
      go_wp2_with ((at_builtin; refine wpList_append_sl (α := B8) rfl (.tmp 18) (.tmp 24) rfl B _ (b8 (l ++ (highN n m).take k)) rfl ?_ (.slice (some ⟨_, 0, none⟩) 1 1) [B8.mk Y] rfl ?_ ?_ ?_ ?_; exact (HW.out.alloc _); exact (Sl.litAt wr _ rfl [B8.mk Y] (by simp)); (first | omega | (simp; omega)); (simp; omega); intro v2 W2 ho2 ha2; have O2 := Lib.hid ho2; have y2 : Hid (Below B w W2) := Lib.hid (Below.trans (HX.out.alloc (Nat.le_trans hB hs) _) ha2.below); obtain ⟨a2, n2, c2, rfl⟩ := ho2.sh; clear ho2 ha2))
      refine ⟨⟨k + 1, by omega, by go_num, ⟨_, _, _, rfl⟩, Lib.hid ?_, y2⟩, by simp [intOf]⟩
      have h2 := O2.out
      have e5 : b8 (l ++ (highN n m).take (k + 1)) = b8 (l ++ (highN n m).take k) ++ [B8.mk Y] := by rw [HT.out, ← List.append_assoc, b8_append]; rfl
      rw [e5]
      exact h2
    · have hkm : k = m := by omega
      have hw := HW.out
      rw [hkm, List.take_of_length_le (by rw [highN_length]; omega)] at hw
      have HW2 := Lib.hid hw
      have e1 : (m : Int) - 1 - (k : Int) = -1 := by omega
      rw [e1]
      clear hw HW
      go_wp2
      go_ret
      exact ⟨_, rfl, HW2.out, HX.out⟩

theorem shl_or (x b : Nat) (hb : b < 256) : x * 256 ||| b = x * 256 + b := by
  have h := Nat.shiftLeft_add_eq_or_of_lt (i := 8) (b := b) (by simpa using hb) x
  rw [Nat.shiftLeft_eq] at h
  exact h.symm

set_option maxHeartbeats 800000 in
theorem readNumber_any (w : World) (s : ByteArray) (f m t : Nat) (hm : t = f + m) (ht : t ≤ s.size) (h8 : m ≤ 8) (hs : s.size ≤ 9223372036854775807) :
    Calls Tryd.prog 60 #[.string s, .int .i64 (f : Int), .int .i64 (t : Int)] w fun e w' => e = .returned (.int .u64 (numN (((bl s).drop f).take m) : Nat)) ∧ w = w' := by
  have hl := bl_length s
  have HLT : Hid (∀ k, numN ((((bl s).drop f).take m).take k) < 18446744073709551616) := Lib.hid (numN_take_lt (fun b hb => bl_lt s b (List.mem_of_mem_drop (List.mem_of_mem_take hb))) (by rw [List.length_take]; omega))
  have HAT : Hid (∀ (k : Nat) (h : k < s.size), (s[k]'h).toNat = (bl s).getD k 0) := Lib.hid (fun k h => bl_at s h)
  have hll : (((bl s).drop f).take m).length = m := by rw [List.length_take, List.length_drop, hl]; omega
  obtain ⟨L, hL⟩ : ∃ L, L = ((bl s).drop f).take m := ⟨_, rfl⟩
  rw [← hL] at HLT hll ⊢
  have HGD : Hid (∀ k, k < m → (bl s).getD (f + k) 0 = L.getD k 0) := Lib.hid (fun k hk => by
    rw [hL]
    simp only [List.getD_eq_getElem?_getD, List.getElem?_take, List.getElem?_drop, if_pos hk])
  clear hL
  replace hm := Lib.hid hm
  have htf : (t : Int) = (f : Int) + (m : Int) := by have := hm.out; omega
  have HTF := Lib.hid htf
  have HT := Lib.hid ht
  clear htf ht
  go_enter Tryd.func60, Tryd.ntmps60
  go_wp2
  go_loop [7, 8] (fun x i => ∃ (k E a : Nat), k ≤ m ∧ a = f + k ∧ i = .int .i64 (a : Int) ∧ x = .int .u64 (E : Int) ∧ Hid (E = numN (L.take k))) (fun _ i => t - (intOf i).toNat)
  case atStart => exact ⟨0, 0, f, by omega, by omega, rfl, rfl, Lib.hid (by simp [numN])⟩
  case round =>
    obtain ⟨k, E, a, hk, ha, rfl, rfl, HE⟩ := hrel
    have hts := HT.out
    have htm := HTF.out
    by_cases hlt : k < m
    · have hat : a < s.size := by omega
      have hlt2 : (a : Int) < (t : Int) := by omega
      have hb : ((s[a]'hat).toNat) = (bl s).getD a 0 := HAT.out a hat
      have hg : (bl s).getD a 0 = L.getD k 0 := by rw [ha]; exact HGD.out k hlt
      rw [hg] at hb
      obtain ⟨B, hB⟩ : ∃ B, B = L.getD k 0 := ⟨_, rfl⟩
      rw [← hB] at hb
      have hB2 : B < 256 := by rw [← hb]; exact (s[a]'hat).toNat_lt
      have hE2 : E * 256 + B < 18446744073709551616 := by
        have := HLT.out (k + 1)
        rw [numN_take _ _ (by rw [hll]; exact hlt), ← hB, ← HE.out] at this
        exact this
      have HB := Lib.hid hB
      clear hB hg
      have hE1 : E * 256 < 18446744073709551616 := Nat.lt_of_le_of_lt (Nat.le_add_right _ _) hE2
      have e1 : bits .or .u64 ((E : Int) * 256) (B : Int) = ((E * 256 + B : Nat) : Int) := by
        have := u64_or_nat (E * 256) B hE1 (by omega)
        rw [shl_or _ _ hB2] at this
        rw [Int.natCast_mul] at this
        exact this
      obtain ⟨F, hF⟩ : ∃ F, F = E * 256 + B := ⟨_, rfl⟩
      rw [← hF] at e1
      have HF := Lib.hid hF
      clear hF hts htm
      replace ha := Lib.hid ha
      go_wp2
      have hao := ha.out
      have htm := HTF.out
      refine ⟨⟨k + 1, F, a + 1, by omega, by omega, by go_num, rfl, Lib.hid ?_⟩, by simp [intOf]; omega⟩
      rw [numN_take _ _ (by rw [hll]; exact hlt), ← HE.out, ← HB.out, ← HF.out]
    · have hkk : k = m := by omega
      have hlt2 : ¬ (a : Int) < (t : Int) := by omega
      have e5 := Lib.hid (show E = numN L by rw [HE.out, List.take_of_length_le (by rw [hll]; omega)])
      clear hts htm
      replace ha := Lib.hid ha
      go_wp2
      go_ret
      exact ⟨by rw [← e5.out]; rfl, rfl⟩
end Go.Proofs.YtcjoemkplghonaaDoor
