/- Texts of this seat. -/
import Derived.Lib.Hide
import Derived.Test.YtlakolkpfkakoaaGreatDoorMB0
import Derived.Lib.LaidTab
import Derived.Test.YtlakolkpfkakoaaGreatDoorShelf
import Derived.Deep.RegionHeld3
import Derived.Deep.QuietTactic
import Derived.BigQuiet
import Derived.Test.YtlakolkpfkakoaaGreatDoorMA
import Derived.Test.YtlakolkpfkakoaaGreatDoorMFE
import Derived.Lib.AppendStr
namespace Go.Proofs.YtlakolkpfkakoaaGreatDoor

theorem testBit_div_pow (c k i : Nat) : (c / 2 ^ k).testBit i = c.testBit (k + i) := by
  rw [Nat.testBit_div_two_pow, Nat.add_comm]

theorem xor_div_pow (a b k : Nat) : (a ^^^ b) / 2 ^ k = a / 2 ^ k ^^^ b / 2 ^ k := by
  apply Nat.eq_of_testBit_eq; intro i
  rw [testBit_div_pow, Nat.testBit_xor, Nat.testBit_xor, testBit_div_pow, testBit_div_pow]

theorem xor_mod_pow (a b k : Nat) : (a ^^^ b) % 2 ^ k = a % 2 ^ k ^^^ b % 2 ^ k := by
  apply Nat.eq_of_testBit_eq; intro i
  rw [Nat.testBit_mod_two_pow, Nat.testBit_xor, Nat.testBit_xor, Nat.testBit_mod_two_pow, Nat.testBit_mod_two_pow]
  cases decide (i < k) <;> simp

theorem xor_of_zero {a b : Nat} (h : a ^^^ b = 0) : a = b := by
  have e : a ^^^ b ^^^ b = b := by rw [h, Nat.zero_xor]
  rwa [Nat.xor_assoc, Nat.xor_self, Nat.xor_zero] at e

theorem xor_four (a b c d : Nat) : a ^^^ b ^^^ (c ^^^ d) = a ^^^ c ^^^ (b ^^^ d) := by
  rw [Nat.xor_assoc, Nat.xor_assoc, ← Nat.xor_assoc b c d, Nat.xor_comm b c, Nat.xor_assoc c b d]
def sh (c : Nat) : Nat := c / 2 ^^^ (if c % 2 = 1 then 3988292384 else 0)

theorem sh_lt {c : Nat} (h : c < 4294967296) : sh c < 4294967296 := by
  have : sh c < 2 ^ 32 := Nat.xor_lt_two_pow (by omega) (by split <;> decide)
  omega

theorem sh_xor (a b : Nat) : sh (a ^^^ b) = sh a ^^^ sh b := by
  unfold sh
  have h1 := xor_div_pow a b 1
  have h2 := xor_mod_pow a b 1
  simp only [Nat.pow_one] at h1 h2
  rw [h1, h2, xor_four]
  congr 1
  rcases Nat.mod_two_eq_zero_or_one a with ha | ha <;> rcases Nat.mod_two_eq_zero_or_one b with hb | hb <;> rw [ha, hb] <;> decide

theorem sh_eq_zero {c : Nat} (h : c < 4294967296) (e : sh c = 0) : c = 0 := by
  unfold sh at e
  have e2 := xor_of_zero e
  split at e2
  · omega
  · omega

theorem sh_inj {a b : Nat} (ha : a < 4294967296) (hb : b < 4294967296) (e : sh a = sh b) : a = b := by
  have hx : a ^^^ b < 2 ^ 32 := Nat.xor_lt_two_pow (by omega) (by omega)
  refine xor_of_zero (sh_eq_zero (by omega) ?_)
  rw [sh_xor, e, Nat.xor_self]

theorem sh_twice {y : Nat} : sh (2 * y) = y := by
  unfold sh
  have h1 : 2 * y % 2 = 0 := by omega
  have h2 : 2 * y / 2 = y := by omega
  rw [h1, h2]; simp
def shN : Nat → Nat → Nat
  | 0, c => c
  | n + 1, c => shN n (sh c)

theorem shN_lt (n : Nat) {c : Nat} (h : c < 4294967296) : shN n c < 4294967296 := by
  induction n generalizing c with
  | zero => exact h
  | succ n ih => exact ih (sh_lt h)

theorem shN_xor (n a b : Nat) : shN n (a ^^^ b) = shN n a ^^^ shN n b := by
  induction n generalizing a b with
  | zero => rfl
  | succ n ih => simp only [shN, sh_xor, ih]

theorem shN_inj (n : Nat) {a b : Nat} (ha : a < 4294967296) (hb : b < 4294967296) (e : shN n a = shN n b) : a = b := by
  induction n generalizing a b with
  | zero => exact e
  | succ n ih => exact sh_inj ha hb (ih (sh_lt ha) (sh_lt hb) e)

theorem shN_pow (n y : Nat) : shN n (2 ^ n * y) = y := by
  induction n generalizing y with
  | zero => simp [shN]
  | succ n ih =>
    have : 2 ^ (n + 1) * y = 2 * (2 ^ n * y) := by rw [Nat.pow_succ]; ac_rfl
    simp only [shN, this, sh_twice, ih]

theorem shN_add (m n c : Nat) : shN (m + n) c = shN n (shN m c) := by
  induction m generalizing c with
  | zero => simp [shN]
  | succ m ih => rw [Nat.succ_add]; simp only [shN, ih]

theorem split_pow (c n : Nat) : c = c % 2 ^ n ^^^ 2 ^ n * (c / 2 ^ n) := by
  apply Nat.eq_of_testBit_eq; intro i
  rw [Nat.testBit_xor, Nat.testBit_mod_two_pow, Nat.testBit_two_pow_mul, testBit_div_pow]
  by_cases h : i < n
  · have h2 : ¬ n ≤ i := by omega
    simp [h, h2]
  · have h2 : n ≤ i := by omega
    simp [h, h2]
theorem shN_split (n c : Nat) : shN n c = shN n (c % 2 ^ n) ^^^ c / 2 ^ n := by
  conv => lhs; rw [split_pow c n]
  rw [shN_xor, shN_pow]
def byt (c b : Nat) : Nat := shN 8 (c ^^^ b)

theorem byt_lt {c b : Nat} (hc : c < 4294967296) (hb : b < 256) : byt c b < 4294967296 := by
  have hx : c ^^^ b < 2 ^ 32 := Nat.xor_lt_two_pow (by omega) (by omega)
  exact shN_lt 8 (by omega)
def byts : Nat → List Nat → Nat
  | c, [] => c
  | c, b :: l => byts (byt c b) l

theorem byts_append (c : Nat) (l m : List Nat) : byts c (l ++ m) = byts (byts c l) m := by
  induction l generalizing c with
  | nil => rfl
  | cons b l ih => exact ih _

theorem byts_lt {c : Nat} {l : List Nat} (hc : c < 4294967296) (hl : ∀ b ∈ l, b < 256) : byts c l < 4294967296 := by
  induction l generalizing c with
  | nil => exact hc
  | cons b l ih => exact ih (byt_lt hc (hl b List.mem_cons_self)) (fun x hx => hl x (List.mem_cons_of_mem _ hx))

theorem byts_inj {c d : Nat} {l : List Nat} (hc : c < 4294967296) (hd : d < 4294967296) (hl : ∀ b ∈ l, b < 256) (e : byts c l = byts d l) : c = d := by
  induction l generalizing c d with
  | nil => exact e
  | cons b l ih =>
    have hb := hl b List.mem_cons_self
    have h := ih (byt_lt hc hb) (byt_lt hd hb) (fun x hx => hl x (List.mem_cons_of_mem _ hx)) e
    have h1 : c ^^^ b < 2 ^ 32 := Nat.xor_lt_two_pow (by omega) (by omega)
    have h2 : d ^^^ b < 2 ^ 32 := Nat.xor_lt_two_pow (by omega) (by omega)
    have h3 := shN_inj 8 (by omega) (by omega) h
    refine xor_of_zero ?_
    have : c ^^^ d = c ^^^ b ^^^ (d ^^^ b) := by rw [xor_four, Nat.xor_self, Nat.xor_zero]
    rw [this, h3, Nat.xor_self]

end Go.Proofs.YtlakolkpfkakoaaGreatDoor

/- The document's sums: bit by bit. -/
namespace Go.Proofs.YtlakolkpfkakoaaGreatDoor
open Go.RowKit
def moreN (c : Nat) (l : List Nat) : Nat := byts (c ^^^ 4294967295) l ^^^ 4294967295

theorem moreN_lt {c : Nat} {l : List Nat} (hc : c < 4294967296) (hl : ∀ b ∈ l, b < 256) : moreN c l < 4294967296 := by
  have hx : c ^^^ 4294967295 < 2 ^ 32 := Nat.xor_lt_two_pow (by omega) (by omega)
  have hb := byts_lt (l := l) (c := c ^^^ 4294967295) (by omega) hl
  have : byts (c ^^^ 4294967295) l ^^^ 4294967295 < 2 ^ 32 := Nat.xor_lt_two_pow (by omega) (by omega)
  unfold moreN; omega

theorem xor_u32 (a b : Nat) (ha : a < 4294967296) (hb : b < 4294967296) : bits .xor .u32 (a : Int) (b : Int) = ((a ^^^ b : Nat) : Int) := u32_xor_nat a b ha hb

theorem take_byts (c : Nat) (l : List Nat) (k : Nat) (h : k < l.length) : byts c (l.take (k + 1)) = byt (byts c (l.take k)) (l.getD k 0) := by
  rw [List.take_succ_eq_append_getElem h, byts_append]
  simp [byts, h]

theorem shN_succ' (j c : Nat) : shN (j + 1) c = sh (shN j c) := shN_add j 1 c

theorem sh_odd (E : Nat) (hE : E < 4294967296) (h : E % 2 = 1) : bits .xor .u32 ((E : Int) / 2) 3988292384 = ((sh E : Nat) : Int) := by
  have := xor_u32 (E / 2) 3988292384 (by omega) (by decide)
  unfold sh
  rw [if_pos h, ← this]
  congr 1

theorem sh_even (E : Nat) (h : ¬ E % 2 = 1) : ((E : Int) / 2) = ((sh E : Nat) : Int) := by
  unfold sh
  rw [if_neg h, Nat.xor_zero]
  omega

set_option maxHeartbeats 400000 in
theorem refMore_any (w : World) (c : Nat) (s : ByteArray) (hc : c < 4294967296) (hs : s.size ≤ 9223372036854775807) :
    Calls Tryz.prog 75 #[.int .u32 c, .string s] w fun e w' => e = .returned (.int .u32 (moreN c (bl s) : Nat)) ∧ w = w' := by
  have hl := bl_length s
  have hx : c ^^^ 4294967295 < 4294967296 := by
    have : c ^^^ 4294967295 < 2 ^ 32 := Nat.xor_lt_two_pow (by omega) (by omega)
    omega
  have e0 : bits .xor .u32 (c : Int) 4294967295 = ((c ^^^ 4294967295 : Nat) : Int) := xor_u32 c 4294967295 hc (by decide)
  obtain ⟨X, hX⟩ : ∃ X, X = c ^^^ 4294967295 := ⟨_, rfl⟩
  rw [← hX] at hx e0
  have HX := Lib.hid hX
  have HBL : Hid (∀ b ∈ bl s, b < 256) := Lib.hid (bl_lt s)
  have HAT : Hid (∀ (k : Nat) (h : k < s.size), (s[k]'h).toNat = (bl s).getD k 0) := Lib.hid (fun k h => bl_at s h)
  clear hX
  go_enter Tryz.func75, Tryz.ntmps75
  go_wp2
  go_loop [5, 6] (fun a i => ∃ (k : Nat) (C : Nat), k ≤ s.size ∧ i = .int .i64 k ∧ a = .int .u32 C ∧ C < 4294967296 ∧ Hid (C = byts X ((bl s).take k))) (fun _ i => s.size - (intOf i).toNat)
  case atStart => exact ⟨0, X, by omega, rfl, rfl, hx, Lib.hid (by simp [byts])⟩
  case round =>
    obtain ⟨k, C, hk, rfl, rfl, hC, HC⟩ := hrel
    by_cases hlt : k < s.size
    · have hb : ((s[k]'hlt).toNat) = (bl s).getD k 0 := HAT.out k hlt
      obtain ⟨B, hB⟩ : ∃ B, B = (bl s).getD k 0 := ⟨_, rfl⟩
      have hB2 : B < 256 := by rw [hB, ← hb]; exact (s[k]'hlt).toNat_lt
      have HB := Lib.hid hB
      rw [← hB] at hb
      clear hB
      have e1 : bits .xor .u32 (C : Int) (B : Int) = ((C ^^^ B : Nat) : Int) := xor_u32 C B hC (by omega)
      have hCB : C ^^^ B < 4294967296 := by
        have : C ^^^ B < 2 ^ 32 := Nat.xor_lt_two_pow (by omega) (by omega)
        omega
      obtain ⟨D, hD⟩ : ∃ D, D = C ^^^ B := ⟨_, rfl⟩
      rw [← hD] at e1 hCB
      have HD := Lib.hid hD
      clear hD
      go_wp2
      go_loop [5, 7] (fun a i => ∃ (j : Nat) (E : Nat), j ≤ 8 ∧ i = .int .i64 j ∧ a = .int .u32 E ∧ E < 4294967296 ∧ Hid (E = shN j D)) (fun _ i => 8 - (intOf i).toNat)
      case atStart => exact ⟨0, D, by omega, rfl, rfl, hCB, Lib.hid rfl⟩
      case round =>
        obtain ⟨j, E, hj, rfl, rfl, hE, HE⟩ := hrel
        by_cases hj8 : j < 8
        · by_cases hodd : E % 2 = 1
          · have e3 : ((E : Int) % 2) = 1 := by omega
            have e4 := sh_odd E hE hodd
            have HO := Lib.hid hodd
            clear hodd
            go_wp2
            exact ⟨⟨j + 1, sh E, by omega, by go_num, rfl, sh_lt hE, Lib.hid (by rw [HE.out, shN_succ'])⟩, by simp [intOf]; omega⟩
          · have e3 : ((E : Int) % 2) = 0 := by omega
            have e4 := sh_even E hodd
            have HO := Lib.hid hodd
            clear hodd
            go_wp2
            exact ⟨⟨j + 1, sh E, by omega, by go_num, rfl, sh_lt hE, Lib.hid (by rw [HE.out, shN_succ'])⟩, by simp [intOf]; omega⟩
        · have hjj : j = 8 := by omega
          have HE2 : Hid (E = byts X ((bl s).take (k + 1))) := Lib.hid (by
            have hkl : k < (bl s).length := by rw [hl]; exact hlt
            rw [HE.out, hjj, HD.out, HC.out, HB.out, take_byts _ _ _ hkl]; rfl)
          go_wp2
          go_round
          case rel => exact ⟨k + 1, E, by omega, by go_num, rfl, hE, HE2⟩
          case measure => simp [intOf]; omega
    · have hkk : k = s.size := by omega
      have e5 : bits .xor .u32 (C : Int) 4294967295 = ((moreN c (bl s) : Nat) : Int) := by
        have h := xor_u32 C 4294967295 hC (by decide)
        have hm : C ^^^ 4294967295 = moreN c (bl s) := by
          unfold moreN
          rw [HC.out, HX.out, List.take_of_length_le (by rw [hl]; omega)]
        rw [hm] at h
        exact h
      go_wp2
      go_ret
      exact ⟨rfl, rfl⟩
end Go.Proofs.YtlakolkpfkakoaaGreatDoor

/- The document's tails: four bytes. -/
namespace Go.Proofs.YtlakolkpfkakoaaGreatDoor
open Go.RowKit

theorem four_joined (p q r s : UInt8) : ((⟨#[p]⟩ : ByteArray) ++ ((⟨#[q]⟩ : ByteArray) ++ ((⟨#[r]⟩ : ByteArray) ++ ((⟨#[s]⟩ : ByteArray) ++ (⟨#[]⟩ : ByteArray))))) = ⟨#[p, q, r, s]⟩ := by
  apply ByteArray.ext
  simp
def tailN (c : Nat) : List Nat := [c / 16777216, c / 65536 % 256, c / 256 % 256, c % 256]

theorem tail_text (c : Nat) (hc : c < 4294967296) : ((⟨#[UInt8.ofNat (c / 256 / 256 / 256 % 256)]⟩ : ByteArray) ++ ((⟨#[UInt8.ofNat (c / 256 / 256 % 256)]⟩ : ByteArray) ++ ((⟨#[UInt8.ofNat (c / 256 % 256)]⟩ : ByteArray) ++ ((⟨#[UInt8.ofNat (c % 256)]⟩ : ByteArray) ++ (⟨#[]⟩ : ByteArray))))) = textN (tailN c) := by
  rw [four_joined]
  have h1 : c / 256 / 256 / 256 % 256 = c / 16777216 := by omega
  have h2 : c / 256 / 256 % 256 = c / 65536 % 256 := by omega
  rw [h1, h2]
  rfl

set_option maxHeartbeats 400000 in
theorem refTail_any (w : World) (c : Nat) (hc : c < 4294967296) :
    Calls Tryz.prog 74 #[.int .u32 c] w fun e w' => e = .returned (.string (textN (tailN c))) ∧ Ext w w' := by
  have HCV := text_one
  go_enter Tryz.func74, Tryz.ntmps74
  go_wp2
  refine wp_loop_rounds 5 ?_
  iterate 4 (rw [rounds_succ]; go_wp2)
  rw [rounds_succ]
  go_wp2
  go_ret
  exact ⟨congrArg (fun x => Ending.returned (.string x)) (tail_text c hc), (by repeat (first | exact Ext.refl _ | assumption | refine Ext.alloc ?_ _ | refine Ext.drew ?_ | refine Ext.drewN ?_ _))⟩
end Go.Proofs.YtlakolkpfkakoaaGreatDoor

/- The program's sums: by a table of sixteen steps. -/
namespace Go.Proofs.YtlakolkpfkakoaaGreatDoor
open Go.RowKit

def stepsL : List Int := [0, 498536548, 997073096, 651767980, 1994146192, 1802195444, 1303535960, 1342533948, 3988292384, 4027552580, 3604390888, 3412177804, 2607071920, 2262029012, 2685067896, 3183342108]

theorem steps_is : ∀ i : Nat, i < 16 → stepsL.getD i 0 = ((shN 4 i : Nat) : Int) := by decide
def Tab (w : World) : Prop := ∀ i : Nat, i < 16 → w.cell? ⟨1, i, none⟩ = some (.int .u32 ((shN 4 i : Nat) : Int))

theorem tab_of {w : World} (h : Lib.TabIs Tryz.prog w "narthex/crc.steps" .u32 stepsL) : Tab w := fun i hi => by
  have := Lib.TabIs.cell h (g := 1) (by kernel_rfl) i hi
  rw [this, steps_is i hi]

theorem Tab.ext {w w' : World} (h : Tab w) (x : Ext w w') : Tab w' := fun i hi =>
  (Below.cell x (World.block_lt_of_cell? _ _ (h i hi))).trans (h i hi)
theorem step4 (C : Nat) (hC : C < 4294967296) : bits .xor .u32 ((C : Int) / 16) ((shN 4 (C % 16) : Nat) : Int) = ((shN 4 C : Nat) : Int) := by
  have h1 : shN 4 (C % 16) < 4294967296 := shN_lt 4 (by omega)
  have h := xor_u32 (C / 16) (shN 4 (C % 16)) (by omega) h1
  have h2 : C / 16 ^^^ shN 4 (C % 16) = shN 4 C := by
    have := shN_split 4 C
    rw [show (2 : Nat) ^ 4 = 16 from rfl] at this
    rw [this, Nat.xor_comm]
  rw [h2] at h
  rw [← h]
  congr 1

theorem and15 (C : Nat) (hC : C < 4294967296) : bits .and .u32 (C : Int) 15 = ((C % 16 : Nat) : Int) := by
  have h := u32_and_nat C 15 hC (by decide)
  have h2 : C &&& 15 = C % 16 := Nat.and_two_pow_sub_one_eq_mod C 4
  rw [h2] at h
  exact h

theorem turned_u32 (C : Nat) (hC : C < 4294967296) : bits .xor .u32 IntKind.u32.max (C : Int) = ((C ^^^ 4294967295 : Nat) : Int) := by
  have h := xor_u32 4294967295 C (by decide) hC
  rw [Nat.xor_comm] at h
  exact h

set_option maxHeartbeats 400000 in
theorem down_any (w : World) (D : Nat) (ht : Tab w) (hD : D < 4294967296) :
    Calls Tryz.prog 97 #[.int .u32 D] w fun e w' => e = .returned (.int .u32 (shN 4 D : Nat)) ∧ w = w' := by
  have HT : Hid (∀ i : Nat, i < 16 → w.cell? ⟨1, i, none⟩ = some (.int .u32 ((shN 4 i : Nat) : Int))) := Lib.hid (fun i hi => ht i hi)
  clear ht
  have a1 := and15 D hD
  have s1 := step4 D hD
  have m1 : D % 16 < 16 := Nat.mod_lt _ (by decide)
  have t1 := HT.out (D % 16) m1
  obtain ⟨F, hF2⟩ : ∃ F, F = shN 4 D := ⟨_, rfl⟩
  rw [← hF2] at s1 ⊢
  clear hF2
  obtain ⟨m, hm⟩ : ∃ m, m = D % 16 := ⟨_, rfl⟩
  rw [← hm] at a1 s1 m1 t1
  clear hm
  obtain ⟨p, hp⟩ : ∃ p, p = shN 4 m := ⟨_, rfl⟩
  rw [← hp] at s1 t1
  clear hp
  go_enter Tryz.func97, Tryz.ntmps97
  go_wp2
  go_ret
  exact ⟨rfl, rfl⟩

set_option maxHeartbeats 400000 in
theorem more_any (w : World) (c : Nat) (s : ByteArray) (ht : Tab w) (hc : c < 4294967296) (hs : s.size ≤ 9223372036854775807) :
    Calls Tryz.prog 87 #[.int .u32 c, .string s] w fun e w' => e = .returned (.int .u32 (moreN c (bl s) : Nat)) ∧ w = w' := by
  have hl := bl_length s
  have HBL : Hid (∀ b ∈ bl s, b < 256) := Lib.hid (bl_lt s)
  have HAT : Hid (∀ (k : Nat) (h : k < s.size), (s[k]'h).toNat = (bl s).getD k 0) := Lib.hid (fun k h => bl_at s h)
  have HT : Hid (Tab w) := Lib.hid ht
  clear ht
  have hx : c ^^^ 4294967295 < 4294967296 := by
    have : c ^^^ 4294967295 < 2 ^ 32 := Nat.xor_lt_two_pow (by omega) (by omega)
    omega
  have e0 := turned_u32 c hc
  obtain ⟨X, hX⟩ : ∃ X, X = c ^^^ 4294967295 := ⟨_, rfl⟩
  rw [← hX] at hx e0
  have HX := Lib.hid hX
  clear hX
  go_enter Tryz.func87, Tryz.ntmps87
  go_wp2
  go_loop [5, 11] (fun a i => ∃ (k : Nat) (C : Nat), k ≤ s.size ∧ i = .int .i64 k ∧ a = .int .u32 C ∧ C < 4294967296 ∧ Hid (C = byts X ((bl s).take k))) (fun _ i => s.size - (intOf i).toNat)
  case atStart => exact ⟨0, X, by omega, rfl, rfl, hx, Lib.hid (by simp [byts])⟩
  case round =>
    obtain ⟨k, C, hk, rfl, rfl, hC, HC⟩ := hrel
    by_cases hlt : k < s.size
    · have hb : ((s[k]'hlt).toNat) = (bl s).getD k 0 := HAT.out k hlt
      obtain ⟨B, hB⟩ : ∃ B, B = (bl s).getD k 0 := ⟨_, rfl⟩
      have hB2 : B < 256 := by rw [hB, ← hb]; exact (s[k]'hlt).toNat_lt
      have HB := Lib.hid hB
      rw [← hB] at hb
      clear hB
      have e1 : bits .xor .u32 (C : Int) (B : Int) = ((C ^^^ B : Nat) : Int) := xor_u32 C B hC (by omega)
      have hCB : C ^^^ B < 4294967296 := by
        have : C ^^^ B < 2 ^ 32 := Nat.xor_lt_two_pow (by omega) (by omega)
        omega
      obtain ⟨D, hD⟩ : ∃ D, D = C ^^^ B := ⟨_, rfl⟩
      rw [← hD] at e1 hCB
      have HD := Lib.hid hD
      clear hD
      have hF : shN 4 D < 4294967296 := shN_lt 4 hCB
      obtain ⟨F, hF2⟩ : ∃ F, F = shN 4 D := ⟨_, rfl⟩
      have d1 := Lib.hid (down_any w D HT.out hCB)
      rw [← hF2] at d1 hF
      have HF := Lib.hid hF2
      clear hF2
      have hG : shN 4 F < 4294967296 := shN_lt 4 hF
      obtain ⟨G, hG2⟩ : ∃ G, G = shN 4 F := ⟨_, rfl⟩
      have d2 := Lib.hid (down_any w F HT.out hF)
      rw [← hG2] at d2 hG
      have HG := Lib.hid hG2
      clear hG2
      go_wp2_with (first
        | (go_at_call 97; have hgd := gone1; refine d2.out.mono ?_; rintro e w' ⟨rfl, rfl⟩)
        | (go_at_call 97; refine d1.out.mono ?_; rintro e w' ⟨rfl, rfl⟩; have gone1 := Lib.hid True.intro))
      exact ⟨⟨k + 1, G, by omega, by go_num, rfl, hG, Lib.hid (by
        have hkl : k < (bl s).length := by rw [hl]; exact hlt
        rw [HG.out, HF.out, HD.out, HC.out, HB.out, take_byts _ _ _ hkl]
        exact (shN_add 4 4 _).symm)⟩, by simp [intOf]; omega⟩
    · have hkk : k = s.size := by omega
      have e5 : bits .xor .u32 IntKind.u32.max (C : Int) = ((moreN c (bl s) : Nat) : Int) := by
        have h := turned_u32 C hC
        have hm : C ^^^ 4294967295 = moreN c (bl s) := by
          unfold moreN
          rw [HC.out, HX.out, List.take_of_length_le (by rw [hl]; omega)]
        rw [hm] at h
        exact h
      go_wp2
      go_ret
      exact ⟨rfl, rfl⟩
end Go.Proofs.YtlakolkpfkakoaaGreatDoor

/- The program's sums, tails, and what is good. -/
namespace Go.Proofs.YtlakolkpfkakoaaGreatDoor
open Go.RowKit

set_option maxHeartbeats 400000 in
theorem sum_any (w : World) (s : ByteArray) (ht : Tab w) (hs : s.size ≤ 9223372036854775807) :
    Calls Tryz.prog 68 #[.string s] w fun e w' => e = .returned (.int .u32 (moreN 0 (bl s) : Nat)) ∧ w = w' := by
  go_enter Tryz.func68, Tryz.ntmps68
  go_wp2_with (first | (go_at_call 87; refine (more_any _ 0 s ht (by decide) hs).mono ?_; rintro e w' ⟨rfl, rfl⟩))
  go_ret
  exact ⟨rfl, rfl⟩

set_option maxHeartbeats 400000 in
theorem tail_any (w : World) (c : Nat) (hc : c < 4294967296) :
    Calls Tryz.prog 67 #[.int .u32 c] w fun e w' => e = .returned (.string (textN (tailN c))) ∧ Ext w w' := by
  have HCV : ∀ (W : World) (x y z u : Int), (convert 114 9 (.slice (some ⟨W.heap.size, 0, none⟩) 4 4)).run Tryz.prog (W.alloc (.cells #[.int .u8 x, .int .u8 y, .int .u8 z, .int .u8 u] 5)) = .ok (.string (strOfNums [x, y, z, u])) (W.alloc (.cells #[.int .u8 x, .int .u8 y, .int .u8 z, .int .u8 u] 5)) :=
    fun W x y z u => text_of_new [x, y, z, u] 4 rfl _ rfl W 4
  go_enter Tryz.func67, Tryz.ntmps67
  go_wp2
  go_ret
  exact ⟨rfl, (by repeat (first | exact Ext.refl _ | assumption | refine Ext.alloc ?_ _ | refine Ext.drew ?_ | refine Ext.drewN ?_ _))⟩
def ahead (s : ByteArray) : ByteArray := s.extract 0 (s.size - 4)
def last4 (s : ByteArray) : ByteArray := s.extract (s.size - 4) s.size
def goodB (s : ByteArray) : Bool := decide (4 ≤ s.size) && decide (last4 s = textN (tailN (moreN 0 (bl (ahead s)))))
def goodS (s : ByteArray) : ByteArray := if goodB s = true then ahead s else ⟨#[]⟩

set_option maxHeartbeats 400000 in
theorem clone_any (w : World) (s : ByteArray) (hs : s.size ≤ 281474976710656) :
    Calls Tryz.prog 51 #[.string s] w fun e w' => e = .returned (.string s) ∧ Ext w w' := by
  go_enter Tryz.func51, Tryz.ntmps51
  go_wp2_with (first | (go_at_call 81; refine (Tryz.stringslite_Clone s _ hs).mono ?_; rintro e w' ⟨rfl, hx⟩))
  go_ret
  exact ⟨rfl, hx⟩
end Go.Proofs.YtlakolkpfkakoaaGreatDoor

/- Sums and tails of texts: plain facts. -/
namespace Go.Proofs.YtlakolkpfkakoaaGreatDoor
open Go.RowKit

theorem xor_twice (c d : Nat) : c ^^^ d ^^^ d = c := by rw [Nat.xor_assoc, Nat.xor_self, Nat.xor_zero]

theorem tailN_lt {c : Nat} (hc : c < 4294967296) : ∀ b ∈ tailN c, b < 256 := by
  intro b hb
  simp only [tailN, List.mem_cons, List.not_mem_nil, or_false] at hb
  rcases hb with rfl | rfl | rfl | rfl <;> omega

theorem tail_inj {a b : Nat} (ha : a < 4294967296) (hb : b < 4294967296) (h : textN (tailN a) = textN (tailN b)) : a = b := by
  have := textN_inj (tailN_lt ha) (tailN_lt hb) h
  simp only [tailN, List.cons.injEq, and_true] at this
  omega

theorem tail_size (c : Nat) : (textN (tailN c)).size = 4 := textN_size _

theorem ahead_joined (s t : ByteArray) (h : t.size = 4) : ahead (s ++ t) = s ∧ last4 (s ++ t) = t := by
  unfold ahead last4
  have hs : (s ++ t).size = s.size + 4 := by rw [ByteArray.size_append, h]
  rw [hs, Nat.add_sub_cancel]
  constructor
  · apply ByteArray.ext
    rw [ByteArray.data_extract, ByteArray.data_append]
    rw [show s.size = s.data.size from rfl, Array.extract_append_left]
    simp
  · apply ByteArray.ext
    rw [ByteArray.data_extract, ByteArray.data_append]
    have : s.size + 4 = s.data.size + t.data.size := by rw [← h]; rfl
    rw [this, show s.size = s.data.size from rfl, Array.extract_append_right]
    simp

theorem good_joined (s : ByteArray) (t : ByteArray) (h : t.size = 4) : goodB (s ++ t) = decide (t = textN (tailN (moreN 0 (bl s)))) := by
  unfold goodB
  obtain ⟨h1, h2⟩ := ahead_joined s t h
  rw [h1, h2]
  have hs : (s ++ t).size = s.size + 4 := by rw [ByteArray.size_append, h]
  rw [decide_eq_true (show 4 ≤ (s ++ t).size by omega), Bool.true_and]

theorem good_with (s : ByteArray) : goodB (s ++ textN (tailN (moreN 0 (bl s)))) = true ∧ goodS (s ++ textN (tailN (moreN 0 (bl s)))) = s := by
  have h := good_joined s (textN (tailN (moreN 0 (bl s)))) (tail_size _)
  have hb : goodB (s ++ textN (tailN (moreN 0 (bl s)))) = true := by rw [h]; simp
  refine ⟨hb, ?_⟩
  unfold goodS
  rw [if_pos hb]
  exact (ahead_joined s _ (tail_size _)).1

theorem sum_lt (s : ByteArray) : moreN 0 (bl s) < 4294967296 := moreN_lt (by decide) (bl_lt s)

end Go.Proofs.YtlakolkpfkakoaaGreatDoor

/- Numbers as bytes: plain mathematics, and the document's answers. -/
namespace Go.Proofs.YtlakolkpfkakoaaGreatDoor
open Go.RowKit
def highN (n : Nat) : Nat → List Nat
  | 0 => []
  | m + 1 => (n / 256 ^ m % 256) :: highN n m
def numN (l : List Nat) : Nat := l.foldl (fun n b => n * 256 + b) 0

theorem highN_length (n : Nat) : ∀ m, (highN n m).length = m
  | 0 => rfl
  | m + 1 => by rw [highN, List.length_cons, highN_length n m]

theorem highN_lt (n : Nat) : ∀ m, ∀ b ∈ highN n m, b < 256
  | 0 => fun b hb => by simp [highN] at hb
  | m + 1 => fun b hb => by
    rw [highN, List.mem_cons] at hb
    rcases hb with rfl | hb
    · exact Nat.mod_lt _ (by decide)
    · exact highN_lt n m b hb

theorem foldl_num (l : List Nat) : ∀ c, l.foldl (fun n b => n * 256 + b) c = c * 256 ^ l.length + numN l := by
  unfold numN
  induction l with
  | nil => intro c; simp
  | cons a l ih =>
    intro c
    rw [List.foldl_cons, List.foldl_cons, ih, ih (0 * 256 + a), List.length_cons, Nat.pow_succ, Nat.add_mul, Nat.add_assoc]
    congr 1
    · rw [Nat.mul_assoc, Nat.mul_comm 256]
    · simp

theorem numN_cons (a : Nat) (l : List Nat) : numN (a :: l) = a * 256 ^ l.length + numN l := by
  have := foldl_num l a
  rw [← this]
  simp [numN]

theorem numN_snoc (l : List Nat) (b : Nat) : numN (l ++ [b]) = numN l * 256 + b := by
  unfold numN
  rw [List.foldl_append]
  rfl

theorem numN_lt : ∀ {l : List Nat}, (∀ b ∈ l, b < 256) → numN l < 256 ^ l.length
  | [], _ => by simp [numN]
  | a :: l, h => by
    have h1 := numN_lt (l := l) (fun b hb => h b (List.mem_cons_of_mem _ hb))
    have h2 : a < 256 := h a (List.mem_cons_self ..)
    rw [numN_cons, List.length_cons, Nat.pow_succ]
    have : a * 256 ^ l.length + 256 ^ l.length ≤ 256 * 256 ^ l.length := by
      rw [← Nat.succ_mul]
      exact Nat.mul_le_mul_right _ h2
    rw [Nat.mul_comm (256 ^ l.length)]
    omega

theorem numN_highN (n : Nat) : ∀ m, numN (highN n m) = n % 256 ^ m
  | 0 => by rw [highN, Nat.pow_zero, Nat.mod_one]; rfl
  | m + 1 => by
    rw [highN, numN_cons, highN_length, numN_highN n m, Nat.pow_succ, Nat.mod_mul, Nat.mul_comm, Nat.add_comm]

set_option maxHeartbeats 400000 in
theorem refHigh_any (w : World) (n m : Nat) (hn : n < 18446744073709551616) (hm : m ≤ 8) :
    Calls Tryz.prog 73 #[.int .u64 n, .int .i64 m] w fun e w' => e = .returned (.string (textN (highN n m))) ∧ Ext w w' := by
  have HCV := text_one
  go_enter Tryz.func73, Tryz.ntmps73
  go_wp2
  go_loopw [0, 5, 6] (fun a o i wr => ∃ (k E : Nat), k ≤ m ∧ a = .int .u64 E ∧ E < 18446744073709551616 ∧ o = .string (textN (highN n k)) ∧ i = .int .i64 k ∧ Hid (E = n / 256 ^ k) ∧ Hid (Ext w wr)) (fun _ _ i _ => m - (intOf i).toNat)
  case atStart => exact ⟨0, n, by omega, rfl, hn, rfl, rfl, Lib.hid (by simp), Lib.hid (Ext.refl _)⟩
  case round =>
    obtain ⟨k, E, hk, rfl, hE, rfl, rfl, HE, HX⟩ := hrel
    by_cases hlt : k < m
    · have e1 : (⟨#[UInt8.ofNat (E % 256)]⟩ : ByteArray) ++ textN (highN n k) = textN (highN n (k + 1)) := by
        rw [HE.out]
        exact textN_append [n / 256 ^ k % 256] (highN n k)
      have e2 : E / 256 = n / 256 ^ (k + 1) := by rw [HE.out, Nat.div_div_eq_div_mul, Nat.pow_succ]
      have e3 : ¬ 9223372036854775807 < 1 + (textN (highN n k)).size := by rw [textN_size, highN_length]; omega
      go_wp2
      exact ⟨⟨k + 1, E / 256, by omega, by go_num, by omega, rfl, by go_num, Lib.hid e2, Lib.hid (Ext.alloc HX.out _)⟩, by simp [intOf]; omega⟩
    · have hkm : k = m := by omega
      subst hkm
      have hX := HX.out
      go_wp2
      go_ret
      exact ⟨rfl, hX⟩

theorem numN_take (l : List Nat) (k : Nat) (h : k < l.length) : numN (l.take (k + 1)) = numN (l.take k) * 256 + l.getD k 0 := by
  rw [List.take_succ_eq_append_getElem h, numN_snoc]
  simp [List.getD, h]

theorem numN_take_lt {l : List Nat} (hl : ∀ b ∈ l, b < 256) (h8 : l.length ≤ 8) (k : Nat) : numN (l.take k) < 18446744073709551616 := by
  have h1 := numN_lt (l := l.take k) (fun b hb => hl b (List.mem_of_mem_take hb))
  have h2 : (l.take k).length ≤ 8 := by rw [List.length_take]; omega
  have h3 : 256 ^ (l.take k).length ≤ 256 ^ 8 := Nat.pow_le_pow_right (by decide) h2
  have h4 : (256 : Nat) ^ 8 = 18446744073709551616 := by decide
  omega

set_option maxHeartbeats 400000 in
theorem refNumber_any (w : World) (s : ByteArray) (hs : s.size ≤ 8) :
    Calls Tryz.prog 82 #[.string s] w fun e w' => e = .returned (.int .u64 (numN (bl s) : Nat)) ∧ w = w' := by
  have hl := bl_length s
  have HLT : Hid (∀ k, numN ((bl s).take k) < 18446744073709551616) := Lib.hid (numN_take_lt (bl_lt s) (by rw [hl]; exact hs))
  have HAT : Hid (∀ (k : Nat) (h : k < s.size), (s[k]'h).toNat = (bl s).getD k 0) := Lib.hid (fun k h => bl_at s h)
  go_enter Tryz.func82, Tryz.ntmps82
  go_wp2
  go_loop [3, 4] (fun a i => ∃ (k E : Nat), k ≤ s.size ∧ i = .int .i64 k ∧ a = .int .u64 E ∧ Hid (E = numN ((bl s).take k))) (fun _ i => s.size - (intOf i).toNat)
  case atStart => exact ⟨0, 0, by omega, rfl, rfl, Lib.hid (by simp [numN])⟩
  case round =>
    obtain ⟨k, E, hk, rfl, rfl, HE⟩ := hrel
    by_cases hlt : k < s.size
    · have hb : ((s[k]'hlt).toNat) = (bl s).getD k 0 := HAT.out k hlt
      obtain ⟨B, hB⟩ : ∃ B, B = (bl s).getD k 0 := ⟨_, rfl⟩
      have hE2 : E * 256 + B < 18446744073709551616 := by
        have := HLT.out (k + 1)
        rw [numN_take _ _ (by rw [hl]; exact hlt), ← hB, ← HE.out] at this
        exact this
      have HB := Lib.hid hB
      rw [← hB] at hb
      clear hB
      have hE1 : E * 256 < 18446744073709551616 := Nat.lt_of_le_of_lt (Nat.le_add_right _ _) hE2
      go_wp2
      exact ⟨⟨k + 1, E * 256 + B, by omega, (by rw [Int.natCast_add]; rfl), (by rw [Int.natCast_add, Int.natCast_mul]; rfl), Lib.hid (by
        rw [numN_take _ _ (by rw [hl]; exact hlt), ← HE.out, ← HB.out])⟩, by simp [intOf]; omega⟩
    · have hkk : k = s.size := by omega
      have e5 := Lib.hid (show E = numN (bl s) by rw [HE.out, List.take_of_length_le (by rw [hl]; omega)])
      go_wp2
      go_ret
      exact ⟨by rw [← e5.out]; rfl, rfl⟩
end Go.Proofs.YtlakolkpfkakoaaGreatDoor

/- Frames: which may be, their bytes; the document's answers. -/
namespace Go.Proofs.YtlakolkpfkakoaaGreatDoor
open Go.RowKit
def putL (K E q a : Nat) (b : ByteArray) : List Nat := [78, 1, K] ++ highN E 2 ++ highN q 8 ++ highN a 8 ++ highN b.size 2 ++ bl b
def putS (K E q a : Nat) (b : ByteArray) : ByteArray := textN (putL K E q a b) ++ textN (tailN (moreN 0 (putL K E q a b)))

theorem putL_lt {K E q a : Nat} {b : ByteArray} (hK : K < 256) : ∀ x ∈ putL K E q a b, x < 256 := by
  intro x hx
  unfold putL at hx
  simp only [List.mem_append] at hx
  rcases hx with ((((hx | hx) | hx) | hx) | hx) | hx
  · simp only [List.mem_cons, List.not_mem_nil, or_false] at hx
    omega
  · exact highN_lt _ _ x hx
  · exact highN_lt _ _ x hx
  · exact highN_lt _ _ x hx
  · exact highN_lt _ _ x hx
  · exact bl_lt b x hx

set_option maxHeartbeats 1000000 in
theorem refPut_any (w : World) (K E q a : Nat) (b : ByteArray) (hK : K < 256) (hE : E < 65536) (hq : q < 18446744073709551616) (ha : a < 18446744073709551616) (hb : b.size ≤ 64) :
    Calls Tryz.prog 45 #[.agg #[.int .i64 K, .int .i64 E, .int .u64 q, .int .u64 a, .string b]] w fun ev w' => ev = .returned (.string (putS K E q a b)) ∧ Ext w w' := by
  have H1 : ∀ W, Ext (w.alloc (.cells #[.int .i64 K, .int .i64 E, .int .u64 q, .int .u64 a, .string b] 83)) W → W.cell? ⟨w.heap.size, 0, none⟩ = some (.int .i64 K) ∧ W.cell? ⟨w.heap.size, 1, none⟩ = some (.int .i64 E) ∧ W.cell? ⟨w.heap.size, 2, none⟩ = some (.int .u64 q) ∧ W.cell? ⟨w.heap.size, 3, none⟩ = some (.int .u64 a) ∧ W.cell? ⟨w.heap.size, 4, none⟩ = some (.string b) :=
    fun W hW => ⟨cell_at W hW rfl, cell_at W hW rfl, cell_at W hW rfl, cell_at W hW rfl, cell_at W hW rfl⟩
  have H1 := Lib.hid H1
  have s1 : IntKind.u64.wrap (E : Int) = (E : Int) := by simp [IntKind.wrap, IntKind.bits, IntKind.signed]; omega
  have s2 : IntKind.u64.wrap (b.size : Int) = (b.size : Int) := by simp [IntKind.wrap, IntKind.bits, IntKind.signed]; omega
  have s3 : IntKind.u8.wrap (K : Int) = (K : Int) := by simp [IntKind.wrap, IntKind.bits, IntKind.signed]; omega
  obtain ⟨A, hA⟩ : ∃ A, A = (⟨#[1, UInt8.ofNat K]⟩ : ByteArray) := ⟨_, rfl⟩
  obtain ⟨B, hB⟩ : ∃ B, B = textN (highN E 2) := ⟨_, rfl⟩
  obtain ⟨C, hC⟩ : ∃ C, C = textN (highN q 8) := ⟨_, rfl⟩
  obtain ⟨D, hD⟩ : ∃ D, D = textN (highN a 8) := ⟨_, rfl⟩
  obtain ⟨F, hF⟩ : ∃ F, F = textN (highN b.size 2) := ⟨_, rfl⟩
  have zA : A.size = 2 := by rw [hA]; rfl
  have zB : B.size = 2 := by rw [hB, textN_size, highN_length]
  have zC : C.size = 8 := by rw [hC, textN_size, highN_length]
  have zD : D.size = 8 := by rw [hD, textN_size, highN_length]
  have zF : F.size = 2 := by rw [hF, textN_size, highN_length]
  have cB := Lib.hid (fun W => refHigh_any W E 2 (by omega) (by decide))
  have cC := Lib.hid (fun W => refHigh_any W q 8 hq (by decide))
  have cD := Lib.hid (fun W => refHigh_any W a 8 ha (by decide))
  have cF := Lib.hid (fun W => refHigh_any W b.size 2 (by omega) (by decide))
  rw [← hB] at cB
  rw [← hC] at cC
  rw [← hD] at cD
  rw [← hF] at cF
  have HCV : ∀ W W' : World, Ext (W.alloc (.cells #[.int .u8 1, .int .u8 K] 5)) W' → (convert 114 9 (.slice (some ⟨W.heap.size, 0, none⟩) 2 2)).run Tryz.prog W' = .ok (.string A) W' := fun W W' x => by
    rw [hA]
    exact text_later [(1 : Int), (K : Int)] W W' x
  have HCV := Lib.hid HCV
  have HS := Lib.hid (show putL K E q a b = [78, 1, K] ++ highN E 2 ++ highN q 8 ++ highN a 8 ++ highN b.size 2 ++ bl b from rfl)
  have HA := Lib.hid hA
  have HB := Lib.hid hB
  have HC := Lib.hid hC
  have HD := Lib.hid hD
  have HF := Lib.hid hF
  clear hA hB hC hD hF
  go_enter Tryz.func45, Tryz.ntmps45
  go_wp2_with fail
  refine wp_region_M_lit (by kernel_rfl) ?_
  have HX : Ext (w.alloc (.cells #[.int .i64 K, .int .i64 E, .int .u64 q, .int .u64 a, .string b] 83)) _ := Ext.refl _
  refine tv 0 (h := ?_)
  refine tv 1 (hv := by intro w' hw'; have hc := H1.out w' (Ext.trans HX hw'); go_simp; first | done | with_reducible rfl) (h := ?_)
  refine tv 2 (h := ?_)
  refine tv 6 (h := ?_)
  refine tv 7 (hv := by intro w' hw'; have hc := H1.out w' (Ext.trans HX hw'); go_simp; first | done | with_reducible rfl) (h := ?_)
  refine tv 8 (h := ?_)
  (refine takeG 9 (v := ?_) (hv := fun w' hw' => ?_) (h := ?_); rotate_left; focus (go_simp; refine ⟨Ext.refl _, ?_⟩; (exact cB.out w'))); (simp only [Act.put, List.setIfInBounds_toArray, List.set])
  refine tv 11 (h := ?_)
  refine tv 12 (hv := by intro w' hw'; have hc := H1.out w' (Ext.trans HX hw'); go_simp; first | done | with_reducible rfl) (h := ?_)
  (refine takeG 13 (v := ?_) (hv := fun w' hw' => ?_) (h := ?_); rotate_left; focus (go_simp; refine ⟨Ext.refl _, ?_⟩; (exact cC.out w'))); (simp only [Act.put, List.setIfInBounds_toArray, List.set])
  refine tv 15 (h := ?_)
  refine tv 16 (hv := by intro w' hw'; have hc := H1.out w' (Ext.trans HX hw'); go_simp; first | done | with_reducible rfl) (h := ?_)
  (refine takeG 17 (v := ?_) (hv := fun w' hw' => ?_) (h := ?_); rotate_left; focus (go_simp; refine ⟨Ext.refl _, ?_⟩; (exact cD.out w'))); (simp only [Act.put, List.setIfInBounds_toArray, List.set])
  refine tv 19 (h := ?_)
  refine tv 20 (hv := by intro w' hw'; have hc := H1.out w' (Ext.trans HX hw'); go_simp; first | done | with_reducible rfl) (h := ?_)
  refine tv 21 (h := ?_)
  refine tv 22 (h := ?_)
  (refine takeG 23 (v := ?_) (hv := fun w' hw' => ?_) (h := ?_); rotate_left; focus (go_simp; refine ⟨Ext.refl _, ?_⟩; (exact cF.out w'))); (simp only [Act.put, List.setIfInBounds_toArray, List.set])
  refine tv 25 (h := ?_)
  refine tv 26 (hv := by intro w' hw'; have hc := H1.out w' (Ext.trans HX hw'); go_simp; first | done | with_reducible rfl) (h := ?_)
  (refine runOne 3 (h := ?_); intro w' hw'; go_simp; refine ⟨Ext.alloc (Ext.refl _) _, ?_⟩; try (simp only [Act.put, List.setIfInBounds_toArray, List.set]))
  have HX2 := Ext.alloc (Ext.trans HX hw') (.cells #[.int .u8 1, .int .u8 K] 5)
  have HCW := Lib.hid (HCV.out w')
  clear HX hw'
  obtain ⟨n, hn⟩ : ∃ n, n = w'.heap.size := ⟨_, rfl⟩
  obtain ⟨w1, hw1⟩ : ∃ w1, w1 = w'.alloc (.cells #[.int .u8 1, .int .u8 K] 5) := ⟨_, rfl⟩
  rw [← hn, ← hw1] at HCW
  rw [← hw1] at HX2 ⊢
  rw [← hn]
  clear hn hw1
  refine tv 4 (hv := by intro w' hw'; have hc := HCW.out w' hw'; go_simp; first | done | with_reducible rfl) (h := ?_)
  refine tv 5 (h := ?_)
  refine tv 10 (h := ?_)
  refine tv 14 (h := ?_)
  refine tv 18 (h := ?_)
  refine tv 24 (h := ?_)
  refine tv 27 (hv := by intro w' hw'; have hz : ¬ 9223372036854775807 < 23 + b.size := (by omega); go_simp; first | done | with_reducible rfl) (h := ?_)
  refine tv 28 (h := ?_)
  (refine doneM (by kernel_rfl) ?_; intro w' hw'; show _)
  obtain ⟨T, hT⟩ : ∃ T : ByteArray, T = ⟨#[78]⟩ ++ A ++ B ++ C ++ D ++ F ++ b := ⟨_, rfl⟩
  have hTT : T = textN (putL K E q a b) := by
    rw [hT, HS.out, HA.out, HB.out, HC.out, HD.out, HF.out]
    obtain ⟨U, hU⟩ : ∃ U, U = bl b := ⟨_, rfl⟩
    have hb2 : b = textN U := by rw [hU, textN_bl]
    rw [← hU, show (⟨#[78]⟩ : ByteArray) = textN [78] from rfl, show (⟨#[1, UInt8.ofNat K]⟩ : ByteArray) = textN [1, K] from rfl]
    generalize b.size = z
    rw [hb2]
    simp only [textN_append]
    rfl
  have hTs : T.size = 23 + b.size := by
    rw [hT]
    simp only [ByteArray.size_append, zA, zB, zC, zD, zF]
    show 1 + 2 + 2 + 8 + 8 + 2 + b.size = _
    omega
  have cM := Lib.hid (refMore_any w' 0 T (by decide) (by omega))
  have hbl : bl T = putL K E q a b := by
    rw [hTT]
    exact bl_textN (putL_lt hK)
  rw [hbl] at cM
  obtain ⟨M, hM⟩ : ∃ M, M = moreN 0 (putL K E q a b) := ⟨_, rfl⟩
  have hMlt : M < 4294967296 := by rw [hM]; exact moreN_lt (by decide) (putL_lt hK)
  rw [← hM] at cM
  have hsz : (textN (tailN M)).size = 4 := tail_size M
  have hz : ¬ 9223372036854775807 < T.size + 4 := by omega
  have HT := Lib.hid hTT
  have HM := Lib.hid hM
  rw [← hT]
  have y1 : Ext w w' := Ext.trans (Ext.trans ((Ext.refl w).alloc _) HX2) hw'
  clear hT hTT hM hbl
  go_wp2_with (first
    | (go_at_call 75; refine (cM.out).mono ?_; rintro e w2 ⟨rfl, rfl⟩)
    | (go_at_call 74; refine (refTail_any _ M hMlt).mono ?_; rintro e w2 ⟨rfl, x2⟩))
  go_ret
  exact ⟨by rw [HT.out, HM.out]; rfl, Ext.trans y1 x2⟩
end Go.Proofs.YtlakolkpfkakoaaGreatDoor

/- The frame that bytes are: the document's answer. -/
namespace Go.Proofs.YtlakolkpfkakoaaGreatDoor
open Go.RowKit
def frOf (s : ByteArray) : Fr := ⟨((bl s).getD 2 0 : Nat), (numN (((bl s).drop 3).take 2) : Nat), numN (((bl s).drop 5).take 8), numN (((bl s).drop 13).take 8), s.extract 23 (s.size - 4)⟩
def whatN (s : ByteArray) : Nat :=
  if s.size < 27 then 61 else if (bl s).getD 0 0 ≠ 78 then 62 else if (bl s).getD 1 0 ≠ 1 then 63 else if numN (((bl s).drop 21).take 2) ≠ s.size - 27 then 64
  else if goodB s = false then 65 else if rightB (frOf s) = false then 66 else 0
def whereN (s : ByteArray) : Nat :=
  if s.size < 27 then s.size else if (bl s).getD 0 0 ≠ 78 then 0 else if (bl s).getD 1 0 ≠ 1 then 1 else if numN (((bl s).drop 21).take 2) ≠ s.size - 27 then 21
  else if goodB s = false then s.size - 4 else if rightB (frOf s) = false then 2 else 0

def getF (s : ByteArray) : Fr := if whatN s = 0 then frOf s else Fr.zero

def frV (f : Fr) : Value := .agg #[.int .i64 f.k, .int .i64 f.e, .int .u64 f.q, .int .u64 f.a, .string f.b]
def GetsR (s : ByteArray) (w : World) (e : Ending) (w' : World) : Prop :=
  e = .returned (.tuple #[frV (getF s), .int .i64 (whereN s : Nat), .int .i64 (whatN s : Nat)]) ∧ Ext w w'

set_option maxHeartbeats 400000 in
theorem refGet_short (w : World) (s : ByteArray) (h : s.size < 27) : Calls Tryz.prog 53 #[.string s] w (GetsR s w) := by
  have e1 : (s.size : Int) < 27 := by omega
  have H1 := Lib.hid (show whatN s = 61 by unfold whatN; rw [if_pos h])
  have H2 := Lib.hid (show whereN s = s.size by unfold whereN; rw [if_pos h])
  clear h
  go_enter Tryz.func53, Tryz.ntmps53
  go_wp2
  refine bodyPost_ret (v := .tuple #[frV Fr.zero, .int .i64 s.size, .int .i64 61]) (by simp [results, Tryz.results53, go_sem, frV, Fr.zero]) rfl ⟨?_, (by repeat (first | exact Ext.refl _ | assumption | refine Ext.alloc ?_ _ | refine Ext.drew ?_ | refine Ext.drewN ?_ _))⟩
  unfold getF
  rw [H1.out, H2.out]
  rfl

set_option maxHeartbeats 400000 in
theorem refGet_magic (w : World) (s : ByteArray) (h : ¬ s.size < 27) (h0 : (bl s).getD 0 0 ≠ 78) : Calls Tryz.prog 53 #[.string s] w (GetsR s w) := by
  have e1 : ¬ (s.size : Int) < 27 := by omega
  have H1 := Lib.hid (show whatN s = 62 by unfold whatN; rw [if_neg h, if_pos h0])
  have H2 := Lib.hid (show whereN s = 0 by unfold whereN; rw [if_neg h, if_pos h0])
  have l0 : 0 < s.size := by omega
  have b0 := bl_at s l0
  obtain ⟨B0, hB0⟩ : ∃ B0, B0 = (bl s).getD 0 0 := ⟨_, rfl⟩
  rw [← hB0] at b0 h0
  clear h hB0
  have c0 : ((B0 : Int) = 78) = False := by simp; omega
  go_enter Tryz.func53, Tryz.ntmps53
  go_wp2
  refine bodyPost_ret (v := .tuple #[frV Fr.zero, .int .i64 0, .int .i64 62]) (by simp [results, Tryz.results53, go_sem, frV, Fr.zero]) rfl ⟨?_, (by repeat (first | exact Ext.refl _ | assumption | refine Ext.alloc ?_ _ | refine Ext.drew ?_ | refine Ext.drewN ?_ _))⟩
  unfold getF
  rw [H1.out, H2.out]
  rfl

set_option maxHeartbeats 400000 in
theorem refGet_version (w : World) (s : ByteArray) (h : ¬ s.size < 27) (h0 : (bl s).getD 0 0 = 78) (h1 : (bl s).getD 1 0 ≠ 1) : Calls Tryz.prog 53 #[.string s] w (GetsR s w) := by
  have e1 : ¬ (s.size : Int) < 27 := by omega
  have H1 := Lib.hid (show whatN s = 63 by unfold whatN; rw [if_neg h, if_neg (by simpa using h0), if_pos h1])
  have H2 := Lib.hid (show whereN s = 1 by unfold whereN; rw [if_neg h, if_neg (by simpa using h0), if_pos h1])
  have l0 : 0 < s.size := by omega
  have l1 : 1 < s.size := by omega
  have b0 := bl_at s l0
  have b1 := bl_at s l1
  rw [h0] at b0
  obtain ⟨B1, hB1⟩ : ∃ B1, B1 = (bl s).getD 1 0 := ⟨_, rfl⟩
  rw [← hB1] at b1 h1
  clear h hB1 h0
  have c1 : ((B1 : Int) = 1) = False := by simp; omega
  go_enter Tryz.func53, Tryz.ntmps53
  go_wp2
  refine bodyPost_ret (v := .tuple #[frV Fr.zero, .int .i64 1, .int .i64 63]) (by simp [results, Tryz.results53, go_sem, frV, Fr.zero]) rfl ⟨?_, (by repeat (first | exact Ext.refl _ | assumption | refine Ext.alloc ?_ _ | refine Ext.drew ?_ | refine Ext.drewN ?_ _))⟩
  unfold getF
  rw [H1.out, H2.out]
  rfl

theorem five_cells {W : World} {g : Nat} {v0 v1 v2 v3 v4 : Value} {t : TypeId} (h : W.heap[g]? = some (.cells #[v0, v1, v2, v3, v4] t (0, 0))) :
    (W.cell? ⟨g, 0, none⟩ = some v0 ∧ W.cell? ⟨g, 1, none⟩ = some v1 ∧ W.cell? ⟨g, 2, none⟩ = some v2 ∧ W.cell? ⟨g, 3, none⟩ = some v3 ∧ W.cell? ⟨g, 4, none⟩ = some v4) ∧
    (W.frozen? ⟨g, 0, none⟩ = false ∧ W.frozen? ⟨g, 1, none⟩ = false ∧ W.frozen? ⟨g, 2, none⟩ = false ∧ W.frozen? ⟨g, 3, none⟩ = false ∧ W.frozen? ⟨g, 4, none⟩ = false) :=
  ⟨⟨blk_cell h 0 rfl, blk_cell h 1 rfl, blk_cell h 2 rfl, blk_cell h 3 rfl, blk_cell h 4 rfl⟩, blk_free h 0, blk_free h 1, blk_free h 2, blk_free h 3, blk_free h 4⟩
def set5 (W : World) (g : Nat) (u0 u1 u2 u3 u4 : Value) : World := ((((W.setCell ⟨g, 0, none⟩ u0).setCell ⟨g, 1, none⟩ u1).setCell ⟨g, 2, none⟩ u2).setCell ⟨g, 3, none⟩ u3).setCell ⟨g, 4, none⟩ u4

theorem set5_blk {W : World} {g : Nat} {v0 v1 v2 v3 v4 : Value} {t : TypeId} (h : W.heap[g]? = some (.cells #[v0, v1, v2, v3, v4] t (0, 0))) (u0 u1 u2 u3 u4 : Value) : (set5 W g u0 u1 u2 u3 u4).heap[g]? = some (.cells #[u0, u1, u2, u3, u4] t (0, 0)) := by
  have h0 := blk_set h 0 u0
  have h1 := blk_set h0 1 u1
  have h2 := blk_set h1 2 u2
  have h3 := blk_set h2 3 u3
  have h4 := blk_set h3 4 u4
  simpa [set5] using h4

theorem set5_other {W : World} {g b : Nat} (h : b ≠ g) (u0 u1 u2 u3 u4 : Value) : (set5 W g u0 u1 u2 u3 u4).heap[b]? = W.heap[b]? := by
  unfold set5
  rw [set_other _ _ _ _ h, set_other _ _ _ _ h, set_other _ _ _ _ h, set_other _ _ _ _ h, set_other _ _ _ _ h]

theorem set5_ext {w W : World} {g : Nat} (x : Ext w W) (hg : w.heap.size ≤ g) (u0 u1 u2 u3 u4 : Value) : Ext w (set5 W g u0 u1 u2 u3 u4) :=
  below_set (below_set (below_set (below_set (below_set x hg _) hg _) hg _) hg _) hg _

set_option maxHeartbeats 400000 in
theorem refGet_length (w : World) (s : ByteArray) (hs : s.size ≤ 281474976710656) (h : ¬ s.size < 27) (h0 : (bl s).getD 0 0 = 78) (h1 : (bl s).getD 1 0 = 1) (h2 : numN (((bl s).drop 21).take 2) ≠ s.size - 27) :
    Calls Tryz.prog 53 #[.string s] w (GetsR s w) := by
  have e1 : ¬ (s.size : Int) < 27 := by omega
  have H1 := Lib.hid (show whatN s = 64 by unfold whatN; rw [if_neg h, if_neg (by simpa using h0), if_neg (by simpa using h1), if_pos h2])
  have H2 := Lib.hid (show whereN s = 21 by unfold whereN; rw [if_neg h, if_neg (by simpa using h0), if_neg (by simpa using h1), if_pos h2])
  have l0 : 0 < s.size := by omega
  have l1 : 1 < s.size := by omega
  have b0 := bl_at s l0
  have b1 := bl_at s l1
  rw [h0] at b0
  rw [h1] at b1
  have e2 : (21 : Int) ≤ (s.size : Int) := by omega
  have e3 : (23 : Int) ≤ (s.size : Int) := by omega
  have cN := fun W => refNumber_any W (s.extract 21 23) (by rw [ByteArray.size_extract]; omega)
  rw [bl_extract] at cN
  obtain ⟨N, hN⟩ : ∃ N, N = numN (((bl s).drop 21).take 2) := ⟨_, rfl⟩
  rw [← hN] at cN h2
  replace cN := Lib.hid cN
  obtain ⟨n, hn⟩ : ∃ n, s.size = n + 27 := ⟨s.size - 27, by omega⟩
  have e4 : (s.size : Int) - 4 - 23 = (n : Int) := by omega
  have e5 : IntKind.u64.wrap (n : Int) = (n : Int) := wrapU _ (by omega) (by omega)
  have c1 : ((N : Int) != (n : Int)) = true := bne_iff_ne.2 (by omega)
  clear h hN h0 h1 h2
  replace hn := Lib.hid hn
  go_enter Tryz.func53, Tryz.ntmps53
  go_wp2_with (first
    | (go_at_call 82; refine (cN.out _).mono ?_; rintro e w2 ⟨rfl, rfl⟩))
  refine bodyPost_ret (v := .tuple #[frV Fr.zero, .int .i64 21, .int .i64 64]) (by simp [results, Tryz.results53, go_sem, frV, Fr.zero]) rfl ⟨?_, (by repeat (first | exact Ext.refl _ | assumption | refine Ext.alloc ?_ _ | refine Ext.drew ?_ | refine Ext.drewN ?_ _))⟩
  unfold getF
  rw [H1.out, H2.out]
  rfl

set_option maxHeartbeats 800000 in
theorem refGet_sum (w : World) (s : ByteArray) (hs : s.size ≤ 281474976710656) (h : ¬ s.size < 27) (h0 : (bl s).getD 0 0 = 78) (h1 : (bl s).getD 1 0 = 1) (h2 : numN (((bl s).drop 21).take 2) = s.size - 27) (h3 : goodB s = false) :
    Calls Tryz.prog 53 #[.string s] w (GetsR s w) := by
  have e1 : ¬ (s.size : Int) < 27 := by omega
  have H1 := Lib.hid (show whatN s = 65 by unfold whatN; rw [if_neg h, if_neg (by simpa using h0), if_neg (by simpa using h1), if_neg (by simpa using h2), if_pos h3])
  have H2 := Lib.hid (show whereN s = s.size - 4 by unfold whereN; rw [if_neg h, if_neg (by simpa using h0), if_neg (by simpa using h1), if_neg (by simpa using h2), if_pos h3])
  have l0 : 0 < s.size := by omega
  have l1 : 1 < s.size := by omega
  have b0 := bl_at s l0
  have b1 := bl_at s l1
  rw [h0] at b0
  rw [h1] at b1
  have e2 : (21 : Int) ≤ (s.size : Int) := by omega
  have e3 : (23 : Int) ≤ (s.size : Int) := by omega
  have cN := fun W => refNumber_any W (s.extract 21 23) (by rw [ByteArray.size_extract]; omega)
  rw [bl_extract] at cN
  obtain ⟨N, hN⟩ : ∃ N, N = numN (((bl s).drop 21).take 2) := ⟨_, rfl⟩
  rw [← hN] at cN h2
  replace cN := Lib.hid cN
  obtain ⟨n, hn⟩ : ∃ n, s.size = n + 4 := ⟨s.size - 4, by omega⟩
  have e4 : (s.size : Int) - 4 = (n : Int) := by omega
  have e6 : IntKind.u64.wrap ((n : Int) - 23) = (n : Int) - 23 := wrapU _ (by omega) (by omega)
  have c1 : ((N : Int) != (n : Int) - 23) = false := by rw [bne_eq_false_iff_eq]; omega
  have hn4 : s.size - 4 = n := by omega
  have hg : goodB s = decide (s.extract n s.size = textN (tailN (moreN 0 (bl (s.extract 0 n))))) := by
    unfold goodB last4 ahead
    rw [decide_eq_true (show 4 ≤ s.size by omega), Bool.true_and, hn4]
  have hM : moreN 0 (bl (s.extract 0 n)) < 4294967296 := moreN_lt (by decide) (bl_lt _)
  have cM := fun W => refMore_any W 0 (s.extract 0 n) (by decide) (by rw [ByteArray.size_extract]; omega)
  obtain ⟨M, hM2⟩ : ∃ M, M = moreN 0 (bl (s.extract 0 n)) := ⟨_, rfl⟩
  rw [← hM2] at hg hM cM
  replace cM := Lib.hid cM
  have e7 : ((s.extract n s.size).toList == (textN (tailN M)).toList) = false := by rw [tl_eq, ← hg, h3]
  have e8 : (0 : Int) ≤ (n : Int) := by omega
  have e9 : (n : Int) ≤ (s.size : Int) := by omega
  clear h hN h0 h1 h2 hg hM2 h3
  rw [hn4] at H2
  replace hn := Lib.hid hn
  clear hn4
  go_enter Tryz.func53, Tryz.ntmps53
  go_wp2_with (first
    | (go_at_call 82; refine (cN.out _).mono ?_; rintro e w2 ⟨rfl, rfl⟩))
  refine wp_region_M_lit (by kernel_rfl) ?_
  refine tv 0 (h := ?_)
  refine tv 1 (h := ?_)
  refine tv 2 (h := ?_)
  refine tv 3 (h := ?_)
  refine tv 4 (h := ?_)
  refine tv 5 (h := ?_)
  (refine takeG 6 (v := ?_) (hv := fun w' hw' => ?_) (h := ?_); rotate_left; focus (go_simp; refine ⟨Ext.refl _, ?_⟩; (have hq := gives_same (cM.out w'); exact hq))); (simp only [Act.put, List.setIfInBounds_toArray, List.set])
  (refine takeG 7 (v := ?_) (hv := fun w' hw' => ?_) (h := ?_); rotate_left; focus (go_simp; refine ⟨Ext.refl _, ?_⟩; (exact refTail_any w' M hM))); (simp only [Act.put, List.setIfInBounds_toArray, List.set])
  refine tv 8 (hv := by intro w' hw'; skip; go_simp; first | done | with_reducible rfl) (h := ?_)
  (refine doneM (by kernel_rfl) ?_; intro w' hw'; show _)
  have hx := box2 (w := w) (Below.mono hw' (by simp))
  obtain ⟨k1, k2⟩ := five_cells hx.1
  obtain ⟨k3, k4⟩ := five_cells hx.2
  have y1 : Ext w w' := Ext.trans (((Ext.refl w).alloc _).alloc _) hw'
  have z := set5_blk hx.1 (.int .i64 0) (.int .i64 0) (.int .u64 0) (.int .u64 0) (.string ⟨#[]⟩)
  have y2 := Lib.hid (set5_ext y1 (Nat.le_refl _) (.int .i64 0) (.int .i64 0) (.int .u64 0) (.int .u64 0) (.string ⟨#[]⟩))
  replace z := Lib.hid (five_cells z).1
  clear hx hw' k4
  go_wp2
  obtain ⟨z0, z1, z2, z3, z4⟩ := z.out
  simp only [set5] at z0 z1 z2 z3 z4
  refine bodyPost_ret (v := .tuple #[frV Fr.zero, .int .i64 n, .int .i64 65]) (by simp [results, Tryz.results53, go_sem, frV, Fr.zero, z0, z1, z2, z3, z4]) rfl ⟨?_, y2.out⟩
  unfold getF
  rw [H1.out, H2.out]
  rfl
set_option maxRecDepth 100000 in
set_option maxHeartbeats 1600000 in
theorem refGet_fine (w : World) (s : ByteArray) (hs : s.size ≤ 281474976710656) (h : ¬ s.size < 27) (h0 : (bl s).getD 0 0 = 78) (h1 : (bl s).getD 1 0 = 1) (h2 : numN (((bl s).drop 21).take 2) = s.size - 27) (h3 : goodB s = true) (h4 : rightB (frOf s) = true) :
    Calls Tryz.prog 53 #[.string s] w (GetsR s w) := by
  have e1 : ¬ (s.size : Int) < 27 := by omega
  have H1 := Lib.hid (show whatN s = 0 by unfold whatN; rw [if_neg h, if_neg (by simpa using h0), if_neg (by simpa using h1), if_neg (by simpa using h2), if_neg (by rw [h3]; decide), if_neg (by rw [h4]; decide)])
  have H2 := Lib.hid (show whereN s = 0 by unfold whereN; rw [if_neg h, if_neg (by simpa using h0), if_neg (by simpa using h1), if_neg (by simpa using h2), if_neg (by rw [h3]; decide), if_neg (by rw [h4]; decide)])
  have l0 : 0 < s.size := by omega
  have l1 : 1 < s.size := by omega
  have b0 := bl_at s l0
  have b1 := bl_at s l1
  rw [h0] at b0
  rw [h1] at b1
  have e2 : (21 : Int) ≤ (s.size : Int) := by omega
  have e3 : (23 : Int) ≤ (s.size : Int) := by omega
  have cN := fun W => refNumber_any W (s.extract 21 23) (by rw [ByteArray.size_extract]; omega)
  rw [bl_extract] at cN
  obtain ⟨N, hN⟩ : ∃ N, N = numN (((bl s).drop 21).take 2) := ⟨_, rfl⟩
  rw [← hN] at cN h2
  replace cN := Lib.hid cN
  obtain ⟨n, hn⟩ : ∃ n, s.size = n + 4 := ⟨s.size - 4, by omega⟩
  have e4 : (s.size : Int) - 4 = (n : Int) := by omega
  have e6 : IntKind.u64.wrap ((n : Int) - 23) = (n : Int) - 23 := wrapU _ (by omega) (by omega)
  have c1 : ((N : Int) != (n : Int) - 23) = false := by rw [bne_eq_false_iff_eq]; omega
  have hn4 : s.size - 4 = n := by omega
  have hg : goodB s = decide (s.extract n s.size = textN (tailN (moreN 0 (bl (s.extract 0 n))))) := by
    unfold goodB last4 ahead
    rw [decide_eq_true (show 4 ≤ s.size by omega), Bool.true_and, hn4]
  have hM : moreN 0 (bl (s.extract 0 n)) < 4294967296 := moreN_lt (by decide) (bl_lt _)
  have cM := fun W => refMore_any W 0 (s.extract 0 n) (by decide) (by rw [ByteArray.size_extract]; omega)
  obtain ⟨M, hM2⟩ : ∃ M, M = moreN 0 (bl (s.extract 0 n)) := ⟨_, rfl⟩
  rw [← hM2] at hg hM cM
  replace cM := Lib.hid cM
  have e7 : ((s.extract n s.size).toList == (textN (tailN M)).toList) = true := by rw [tl_eq, ← hg, h3]
  have e8 : (0 : Int) ≤ (n : Int) := by omega
  have e9 : (n : Int) ≤ (s.size : Int) := by omega
  have l2 : 2 < s.size := by omega
  have b2 := bl_at s l2
  have cE := fun W => refNumber_any W (s.extract 3 5) (by rw [ByteArray.size_extract]; omega)
  have cQ := fun W => refNumber_any W (s.extract 5 13) (by rw [ByteArray.size_extract]; omega)
  have cA := fun W => refNumber_any W (s.extract 13 21) (by rw [ByteArray.size_extract]; omega)
  rw [bl_extract] at cE cQ cA
  have hE5 : numN (((bl s).drop 3).take (5 - 3)) < 65536 := by
    have h1 := numN_lt (l := ((bl s).drop 3).take (5 - 3)) (fun b hb => bl_lt s b (List.mem_of_mem_drop (List.mem_of_mem_take hb)))
    have h2 : (((bl s).drop 3).take (5 - 3)).length ≤ 2 := by rw [List.length_take]; omega
    have h3 : 256 ^ (((bl s).drop 3).take (5 - 3)).length ≤ 256 ^ 2 := Nat.pow_le_pow_right (by decide) h2
    omega
  have hfr : frOf s = ⟨((bl s).getD 2 0 : Nat), (numN (((bl s).drop 3).take (5 - 3)) : Nat), numN (((bl s).drop 5).take (13 - 5)), numN (((bl s).drop 13).take (21 - 13)), s.extract 23 n⟩ := by
    unfold frOf
    rw [hn4]
  obtain ⟨B2, hB2⟩ : ∃ B2, B2 = (bl s).getD 2 0 := ⟨_, rfl⟩
  obtain ⟨E, hE⟩ : ∃ E, E = numN (((bl s).drop 3).take (5 - 3)) := ⟨_, rfl⟩
  obtain ⟨q, hq⟩ : ∃ q, q = numN (((bl s).drop 5).take (13 - 5)) := ⟨_, rfl⟩
  obtain ⟨a, ha⟩ : ∃ a, a = numN (((bl s).drop 13).take (21 - 13)) := ⟨_, rfl⟩
  rw [← hB2] at b2 hfr
  rw [← hE] at cE hfr hE5
  rw [← hq] at cQ hfr
  rw [← ha] at cA hfr
  replace cE := Lib.hid cE
  replace cQ := Lib.hid cQ
  replace cA := Lib.hid cA
  have e10 : IntKind.i64.wrap (E : Int) = (E : Int) := wrapN _ (by omega) (by omega)
  have hB256 : B2 < 256 := by rw [← b2]; exact (s[2]'l2).toNat_lt
  have e11 : IntKind.i64.wrap (B2 : Int) = (B2 : Int) := wrapN _ (by omega) (by omega)
  have f0 : (2 : Int) < (s.size : Int) := by omega
  have f1 : (3 : Int) ≤ (s.size : Int) := by omega
  have f5 : (21 : Int) ≤ (s.size : Int) := by omega
  have f2 : (5 : Int) ≤ (s.size : Int) := by omega
  have f3 : (13 : Int) ≤ (s.size : Int) := by omega
  have f4 : (23 : Int) ≤ (n : Int) := by omega
  have cR := Lib.hid (fun W => refRight_any W (B2 : Int) (E : Int) q a (s.extract 23 n))
  rw [← hfr, h4] at cR
  replace hfr := Lib.hid hfr
  clear h hN h0 h1 h2 hg hM2 h3 h4 hB2 hE hq ha
  replace hn := Lib.hid hn
  clear hn4
  go_enter Tryz.func53, Tryz.ntmps53
  go_wp2_with (first
    | (go_at_call 82; refine (cN.out _).mono ?_; rintro e w2 ⟨rfl, rfl⟩))
  refine wp_region_M_lit (by kernel_rfl) ?_
  refine tv 0 (h := ?_)
  refine tv 1 (h := ?_)
  refine tv 2 (h := ?_)
  refine tv 3 (h := ?_)
  refine tv 4 (h := ?_)
  refine tv 5 (h := ?_)
  (refine takeG 6 (v := ?_) (hv := fun w' hw' => ?_) (h := ?_); rotate_left; focus (go_simp; refine ⟨Ext.refl _, ?_⟩; (have hq := gives_same (cM.out w'); exact hq))); (simp only [Act.put, List.setIfInBounds_toArray, List.set])
  (refine takeG 7 (v := ?_) (hv := fun w' hw' => ?_) (h := ?_); rotate_left; focus (go_simp; refine ⟨Ext.refl _, ?_⟩; (exact refTail_any w' M hM))); (simp only [Act.put, List.setIfInBounds_toArray, List.set])
  refine tv 8 (hv := by intro w' hw'; skip; go_simp; first | done | with_reducible rfl) (h := ?_)
  (refine doneM (by kernel_rfl) ?_; intro w' hw'; show _)
  have hx := box2 (w := w) (Below.mono hw' (by simp))
  obtain ⟨k1, k2⟩ := five_cells hx.1
  obtain ⟨k3, k4⟩ := five_cells hx.2
  have y1 : Ext w w' := Ext.trans (((Ext.refl w).alloc _).alloc _) hw'
  have H0 := Lib.hid hx
  have Y1 := Lib.hid y1
  clear hx hw' k4 y1
  go_wp2_with fail
  refine wp_region_M_lit (by kernel_rfl) ?_
  refine tv 0 (h := ?_)
  refine tv 1 (hv := by intro w' hw'; skip; go_simp; first | done | with_reducible rfl) (h := ?_)
  refine tv 2 (h := ?_)
  refine tv 3 (h := ?_)
  refine tv 4 (h := ?_)
  (refine takeG 5 (v := ?_) (hv := fun w' hw' => ?_) (h := ?_); rotate_left; focus (go_simp; refine ⟨Ext.refl _, ?_⟩; (have hq := gives_same (cE.out w'); exact hq))); (simp only [Act.put, List.setIfInBounds_toArray, List.set])
  refine tv 6 (h := ?_)
  refine tv 7 (h := ?_)
  refine tv 8 (h := ?_)
  (refine takeG 9 (v := ?_) (hv := fun w' hw' => ?_) (h := ?_); rotate_left; focus (go_simp; refine ⟨Ext.refl _, ?_⟩; (have hq := gives_same (cQ.out w'); exact hq))); (simp only [Act.put, List.setIfInBounds_toArray, List.set])
  refine tv 10 (h := ?_)
  refine tv 11 (h := ?_)
  (refine takeG 12 (v := ?_) (hv := fun w' hw' => ?_) (h := ?_); rotate_left; focus (go_simp; refine ⟨Ext.refl _, ?_⟩; (have hq := gives_same (cA.out w'); exact hq))); (simp only [Act.put, List.setIfInBounds_toArray, List.set])
  refine tv 13 (h := ?_)
  refine tv 14 (h := ?_)
  refine tv 15 (h := ?_)
  refine tv 16 (h := ?_)
  (refine runOne 17 (h := ?_); intro w' hw'; go_simp; refine ⟨Ext.alloc (Ext.refl _) _, ?_⟩; try (simp only [Act.put, List.setIfInBounds_toArray, List.set]))
  have Y2 := Lib.hid (Ext.trans Y1.out hw')
  have H1b := Lib.hid (show w'.heap[w.heap.size]? = _ ∧ w'.heap[w.heap.size + 1]? = _ from ⟨(hw'.block _ (blk_lt H0.out.1)).trans H0.out.1, (hw'.block _ (blk_lt H0.out.2)).trans H0.out.2⟩)
  clear hw' k1 k2 k3
  obtain ⟨wA, hA⟩ : ∃ wA, wA = w' := ⟨_, rfl⟩
  rw [← hA] at Y2 H1b ⊢
  clear hA
  (refine runLate 18 (h := ?_); intro w' hw'; obtain ⟨k5, k6⟩ := five_cells (late_blk hw'); go_simp; try (simp only [Act.put, List.setIfInBounds_toArray, List.set]))
  (refine lateDone (by kernel_rfl) ?_)
  have z := set5_blk (late_blk hw') (.int .i64 B2) (.int .i64 E) (.int .u64 q) (.int .u64 a) (.string (s.extract 23 n))
  have gA : w.heap.size + 1 < wA.heap.size := blk_lt H1b.out.2
  have y3 : Ext w (set5 w' wA.heap.size (.int .i64 B2) (.int .i64 E) (.int .u64 q) (.int .u64 a) (.string (s.extract 23 n))) :=
    set5_ext (Ext.trans (Y2.out.alloc _) hw') (Nat.le_of_lt (Nat.lt_of_succ_lt gA)) _ _ _ _ _
  have o1 : (set5 w' wA.heap.size (.int .i64 B2) (.int .i64 E) (.int .u64 q) (.int .u64 a) (.string (s.extract 23 n))).heap[w.heap.size]? = some (.cells #[.int .i64 0, .int .i64 0, .int .u64 0, .int .u64 0, .string ⟨#[]⟩] 83 (0, 0)) := by
    rw [set5_other (Nat.ne_of_lt (Nat.lt_of_succ_lt gA)), hw'.block _ (by rw [size_alloc]; exact Nat.lt_succ_of_lt (Nat.lt_of_succ_lt gA)), get_alloc_old (Nat.lt_of_succ_lt gA)]
    exact H1b.out.1
  have o2 : (set5 w' wA.heap.size (.int .i64 B2) (.int .i64 E) (.int .u64 q) (.int .u64 a) (.string (s.extract 23 n))).heap[w.heap.size + 1]? = some (.cells #[.int .i64 0, .int .i64 0, .int .u64 0, .int .u64 0, .string ⟨#[]⟩] 83 (0, 0)) := by
    rw [set5_other (Nat.ne_of_lt gA), hw'.block _ (by rw [size_alloc]; exact Nat.lt_succ_of_lt gA), get_alloc_old gA]
    exact H1b.out.2
  obtain ⟨W5, hW5⟩ : ∃ W5, W5 = set5 w' wA.heap.size (.int .i64 B2) (.int .i64 E) (.int .u64 q) (.int .u64 a) (.string (s.extract 23 n)) := ⟨_, rfl⟩
  rw [← hW5] at z y3 o1 o2
  simp only [set5] at hW5
  rw [← hW5]
  clear hW5 hw' Y2 H1b k5 k6
  have Y4 := Lib.hid y3
  have O1 := Lib.hid o1
  have O2 := Lib.hid o2
  have Z := Lib.hid z
  clear y3 o1 o2 z
  obtain ⟨m0, m1, m2, m3, m4⟩ := (five_cells Z.out).1
  go_wp2_with (first
    | (go_at_call 43; refine (cR.out W5).mono ?_; rintro e w7 ⟨rfl, x7⟩; have Y7 := Lib.hid x7; have hj1 := (five_cells ((x7.block _ (blk_lt O1.out)).trans O1.out)); have hj3 := (five_cells ((x7.block _ (blk_lt O2.out)).trans O2.out)).1; obtain ⟨j1, j2⟩ := hj1; obtain ⟨m0', m1', m2', m3', m4'⟩ := (five_cells ((x7.block _ (blk_lt Z.out)).trans Z.out)).1; clear x7))
  have x8 := Y7.out
  have hb8 := (x8.block _ (blk_lt O1.out)).trans O1.out
  have z := set5_blk hb8 (.int .i64 B2) (.int .i64 E) (.int .u64 q) (.int .u64 a) (.string (s.extract 23 n))
  have y5 := set5_ext (Ext.trans Y4.out x8) (Nat.le_refl _) (.int .i64 B2) (.int .i64 E) (.int .u64 q) (.int .u64 a) (.string (s.extract 23 n))
  obtain ⟨z0, z1, z2, z3, z4⟩ := (five_cells z).1
  simp only [set5] at z0 z1 z2 z3 z4
  refine bodyPost_ret (v := .tuple #[.agg #[.int .i64 B2, .int .i64 E, .int .u64 q, .int .u64 a, .string (s.extract 23 n)], .int .i64 0, .int .i64 0]) (by simp [results, Tryz.results53, go_sem, z0, z1, z2, z3, z4]) rfl ⟨?_, y5⟩
  unfold getF
  rw [if_pos H1.out, H1.out, H2.out, hfr.out]
  rfl
end Go.Proofs.YtlakolkpfkakoaaGreatDoor

/- The document's Get, whatever the bytes. -/
namespace Go.Proofs.YtlakolkpfkakoaaGreatDoor
open Go.RowKit

set_option maxRecDepth 100000 in
set_option maxHeartbeats 1600000 in
theorem refGet_kind (w : World) (s : ByteArray) (hs : s.size ≤ 281474976710656) (h : ¬ s.size < 27) (h0 : (bl s).getD 0 0 = 78) (h1 : (bl s).getD 1 0 = 1) (h2 : numN (((bl s).drop 21).take 2) = s.size - 27) (h3 : goodB s = true) (h4 : rightB (frOf s) = false) :
    Calls Tryz.prog 53 #[.string s] w (GetsR s w) := by
  have e1 : ¬ (s.size : Int) < 27 := by omega
  have H1 := Lib.hid (show whatN s = 66 by unfold whatN; rw [if_neg h, if_neg (by simpa using h0), if_neg (by simpa using h1), if_neg (by simpa using h2), if_neg (by rw [h3]; decide), if_pos h4])
  have H2 := Lib.hid (show whereN s = 2 by unfold whereN; rw [if_neg h, if_neg (by simpa using h0), if_neg (by simpa using h1), if_neg (by simpa using h2), if_neg (by rw [h3]; decide), if_pos h4])
  have l0 : 0 < s.size := by omega
  have l1 : 1 < s.size := by omega
  have b0 := bl_at s l0
  have b1 := bl_at s l1
  rw [h0] at b0
  rw [h1] at b1
  have e2 : (21 : Int) ≤ (s.size : Int) := by omega
  have e3 : (23 : Int) ≤ (s.size : Int) := by omega
  have cN := fun W => refNumber_any W (s.extract 21 23) (by rw [ByteArray.size_extract]; omega)
  rw [bl_extract] at cN
  obtain ⟨N, hN⟩ : ∃ N, N = numN (((bl s).drop 21).take 2) := ⟨_, rfl⟩
  rw [← hN] at cN h2
  replace cN := Lib.hid cN
  obtain ⟨n, hn⟩ : ∃ n, s.size = n + 4 := ⟨s.size - 4, by omega⟩
  have e4 : (s.size : Int) - 4 = (n : Int) := by omega
  have e6 : IntKind.u64.wrap ((n : Int) - 23) = (n : Int) - 23 := wrapU _ (by omega) (by omega)
  have c1 : ((N : Int) != (n : Int) - 23) = false := by rw [bne_eq_false_iff_eq]; omega
  have hn4 : s.size - 4 = n := by omega
  have hg : goodB s = decide (s.extract n s.size = textN (tailN (moreN 0 (bl (s.extract 0 n))))) := by
    unfold goodB last4 ahead
    rw [decide_eq_true (show 4 ≤ s.size by omega), Bool.true_and, hn4]
  have hM : moreN 0 (bl (s.extract 0 n)) < 4294967296 := moreN_lt (by decide) (bl_lt _)
  have cM := fun W => refMore_any W 0 (s.extract 0 n) (by decide) (by rw [ByteArray.size_extract]; omega)
  obtain ⟨M, hM2⟩ : ∃ M, M = moreN 0 (bl (s.extract 0 n)) := ⟨_, rfl⟩
  rw [← hM2] at hg hM cM
  replace cM := Lib.hid cM
  have e7 : ((s.extract n s.size).toList == (textN (tailN M)).toList) = true := by rw [tl_eq, ← hg, h3]
  have e8 : (0 : Int) ≤ (n : Int) := by omega
  have e9 : (n : Int) ≤ (s.size : Int) := by omega
  have l2 : 2 < s.size := by omega
  have b2 := bl_at s l2
  have cE := fun W => refNumber_any W (s.extract 3 5) (by rw [ByteArray.size_extract]; omega)
  have cQ := fun W => refNumber_any W (s.extract 5 13) (by rw [ByteArray.size_extract]; omega)
  have cA := fun W => refNumber_any W (s.extract 13 21) (by rw [ByteArray.size_extract]; omega)
  rw [bl_extract] at cE cQ cA
  have hE5 : numN (((bl s).drop 3).take (5 - 3)) < 65536 := by
    have h1 := numN_lt (l := ((bl s).drop 3).take (5 - 3)) (fun b hb => bl_lt s b (List.mem_of_mem_drop (List.mem_of_mem_take hb)))
    have h2 : (((bl s).drop 3).take (5 - 3)).length ≤ 2 := by rw [List.length_take]; omega
    have h3 : 256 ^ (((bl s).drop 3).take (5 - 3)).length ≤ 256 ^ 2 := Nat.pow_le_pow_right (by decide) h2
    omega
  have hfr : frOf s = ⟨((bl s).getD 2 0 : Nat), (numN (((bl s).drop 3).take (5 - 3)) : Nat), numN (((bl s).drop 5).take (13 - 5)), numN (((bl s).drop 13).take (21 - 13)), s.extract 23 n⟩ := by
    unfold frOf
    rw [hn4]
  obtain ⟨B2, hB2⟩ : ∃ B2, B2 = (bl s).getD 2 0 := ⟨_, rfl⟩
  obtain ⟨E, hE⟩ : ∃ E, E = numN (((bl s).drop 3).take (5 - 3)) := ⟨_, rfl⟩
  obtain ⟨q, hq⟩ : ∃ q, q = numN (((bl s).drop 5).take (13 - 5)) := ⟨_, rfl⟩
  obtain ⟨a, ha⟩ : ∃ a, a = numN (((bl s).drop 13).take (21 - 13)) := ⟨_, rfl⟩
  rw [← hB2] at b2 hfr
  rw [← hE] at cE hfr hE5
  rw [← hq] at cQ hfr
  rw [← ha] at cA hfr
  replace cE := Lib.hid cE
  replace cQ := Lib.hid cQ
  replace cA := Lib.hid cA
  have e10 : IntKind.i64.wrap (E : Int) = (E : Int) := wrapN _ (by omega) (by omega)
  have hB256 : B2 < 256 := by rw [← b2]; exact (s[2]'l2).toNat_lt
  have e11 : IntKind.i64.wrap (B2 : Int) = (B2 : Int) := wrapN _ (by omega) (by omega)
  have f0 : (2 : Int) < (s.size : Int) := by omega
  have f1 : (3 : Int) ≤ (s.size : Int) := by omega
  have f5 : (21 : Int) ≤ (s.size : Int) := by omega
  have f2 : (5 : Int) ≤ (s.size : Int) := by omega
  have f3 : (13 : Int) ≤ (s.size : Int) := by omega
  have f4 : (23 : Int) ≤ (n : Int) := by omega
  have cR := Lib.hid (fun W => refRight_any W (B2 : Int) (E : Int) q a (s.extract 23 n))
  rw [← hfr, h4] at cR
  replace hfr := Lib.hid hfr
  clear h hN h0 h1 h2 hg hM2 h3 h4 hB2 hE hq ha
  replace hn := Lib.hid hn
  clear hn4
  go_enter Tryz.func53, Tryz.ntmps53
  go_wp2_with (first
    | (go_at_call 82; refine (cN.out _).mono ?_; rintro e w2 ⟨rfl, rfl⟩))
  refine wp_region_M_lit (by kernel_rfl) ?_
  refine tv 0 (h := ?_)
  refine tv 1 (h := ?_)
  refine tv 2 (h := ?_)
  refine tv 3 (h := ?_)
  refine tv 4 (h := ?_)
  refine tv 5 (h := ?_)
  (refine takeG 6 (v := ?_) (hv := fun w' hw' => ?_) (h := ?_); rotate_left; focus (go_simp; refine ⟨Ext.refl _, ?_⟩; (have hq := gives_same (cM.out w'); exact hq))); (simp only [Act.put, List.setIfInBounds_toArray, List.set])
  (refine takeG 7 (v := ?_) (hv := fun w' hw' => ?_) (h := ?_); rotate_left; focus (go_simp; refine ⟨Ext.refl _, ?_⟩; (exact refTail_any w' M hM))); (simp only [Act.put, List.setIfInBounds_toArray, List.set])
  refine tv 8 (hv := by intro w' hw'; skip; go_simp; first | done | with_reducible rfl) (h := ?_)
  (refine doneM (by kernel_rfl) ?_; intro w' hw'; show _)
  have hx := box2 (w := w) (Below.mono hw' (by simp))
  obtain ⟨k1, k2⟩ := five_cells hx.1
  obtain ⟨k3, k4⟩ := five_cells hx.2
  have y1 : Ext w w' := Ext.trans (((Ext.refl w).alloc _).alloc _) hw'
  have H0 := Lib.hid hx
  have Y1 := Lib.hid y1
  clear hx hw' k4 y1
  go_wp2_with fail
  refine wp_region_M_lit (by kernel_rfl) ?_
  refine tv 0 (h := ?_)
  refine tv 1 (hv := by intro w' hw'; skip; go_simp; first | done | with_reducible rfl) (h := ?_)
  refine tv 2 (h := ?_)
  refine tv 3 (h := ?_)
  refine tv 4 (h := ?_)
  (refine takeG 5 (v := ?_) (hv := fun w' hw' => ?_) (h := ?_); rotate_left; focus (go_simp; refine ⟨Ext.refl _, ?_⟩; (have hq := gives_same (cE.out w'); exact hq))); (simp only [Act.put, List.setIfInBounds_toArray, List.set])
  refine tv 6 (h := ?_)
  refine tv 7 (h := ?_)
  refine tv 8 (h := ?_)
  (refine takeG 9 (v := ?_) (hv := fun w' hw' => ?_) (h := ?_); rotate_left; focus (go_simp; refine ⟨Ext.refl _, ?_⟩; (have hq := gives_same (cQ.out w'); exact hq))); (simp only [Act.put, List.setIfInBounds_toArray, List.set])
  refine tv 10 (h := ?_)
  refine tv 11 (h := ?_)
  (refine takeG 12 (v := ?_) (hv := fun w' hw' => ?_) (h := ?_); rotate_left; focus (go_simp; refine ⟨Ext.refl _, ?_⟩; (have hq := gives_same (cA.out w'); exact hq))); (simp only [Act.put, List.setIfInBounds_toArray, List.set])
  refine tv 13 (h := ?_)
  refine tv 14 (h := ?_)
  refine tv 15 (h := ?_)
  refine tv 16 (h := ?_)
  (refine runOne 17 (h := ?_); intro w' hw'; go_simp; refine ⟨Ext.alloc (Ext.refl _) _, ?_⟩; try (simp only [Act.put, List.setIfInBounds_toArray, List.set]))
  have Y2 := Lib.hid (Ext.trans Y1.out hw')
  have H1b := Lib.hid (show w'.heap[w.heap.size]? = _ ∧ w'.heap[w.heap.size + 1]? = _ from ⟨(hw'.block _ (blk_lt H0.out.1)).trans H0.out.1, (hw'.block _ (blk_lt H0.out.2)).trans H0.out.2⟩)
  clear hw' k1 k2 k3
  obtain ⟨wA, hA⟩ : ∃ wA, wA = w' := ⟨_, rfl⟩
  rw [← hA] at Y2 H1b ⊢
  clear hA
  (refine runLate 18 (h := ?_); intro w' hw'; obtain ⟨k5, k6⟩ := five_cells (late_blk hw'); go_simp; try (simp only [Act.put, List.setIfInBounds_toArray, List.set]))
  (refine lateDone (by kernel_rfl) ?_)
  have z := set5_blk (late_blk hw') (.int .i64 B2) (.int .i64 E) (.int .u64 q) (.int .u64 a) (.string (s.extract 23 n))
  have gA : w.heap.size + 1 < wA.heap.size := blk_lt H1b.out.2
  have y3 : Ext w (set5 w' wA.heap.size (.int .i64 B2) (.int .i64 E) (.int .u64 q) (.int .u64 a) (.string (s.extract 23 n))) :=
    set5_ext (Ext.trans (Y2.out.alloc _) hw') (Nat.le_of_lt (Nat.lt_of_succ_lt gA)) _ _ _ _ _
  have o1 : (set5 w' wA.heap.size (.int .i64 B2) (.int .i64 E) (.int .u64 q) (.int .u64 a) (.string (s.extract 23 n))).heap[w.heap.size]? = some (.cells #[.int .i64 0, .int .i64 0, .int .u64 0, .int .u64 0, .string ⟨#[]⟩] 83 (0, 0)) := by
    rw [set5_other (Nat.ne_of_lt (Nat.lt_of_succ_lt gA)), hw'.block _ (by rw [size_alloc]; exact Nat.lt_succ_of_lt (Nat.lt_of_succ_lt gA)), get_alloc_old (Nat.lt_of_succ_lt gA)]
    exact H1b.out.1
  have o2 : (set5 w' wA.heap.size (.int .i64 B2) (.int .i64 E) (.int .u64 q) (.int .u64 a) (.string (s.extract 23 n))).heap[w.heap.size + 1]? = some (.cells #[.int .i64 0, .int .i64 0, .int .u64 0, .int .u64 0, .string ⟨#[]⟩] 83 (0, 0)) := by
    rw [set5_other (Nat.ne_of_lt gA), hw'.block _ (by rw [size_alloc]; exact Nat.lt_succ_of_lt gA), get_alloc_old gA]
    exact H1b.out.2
  obtain ⟨W5, hW5⟩ : ∃ W5, W5 = set5 w' wA.heap.size (.int .i64 B2) (.int .i64 E) (.int .u64 q) (.int .u64 a) (.string (s.extract 23 n)) := ⟨_, rfl⟩
  rw [← hW5] at z y3 o1 o2
  simp only [set5] at hW5
  rw [← hW5]
  clear hW5 hw' Y2 H1b k5 k6
  have Y4 := Lib.hid y3
  have O1 := Lib.hid o1
  have O2 := Lib.hid o2
  have Z := Lib.hid z
  clear y3 o1 o2 z
  obtain ⟨m0, m1, m2, m3, m4⟩ := (five_cells Z.out).1
  go_wp2_with (first
    | (go_at_call 43; refine (cR.out W5).mono ?_; rintro e w7 ⟨rfl, x7⟩; have Y7 := Lib.hid x7; have hj1 := (five_cells ((x7.block _ (blk_lt O1.out)).trans O1.out)); have hj3 := (five_cells ((x7.block _ (blk_lt O2.out)).trans O2.out)).1; obtain ⟨j1, j2⟩ := hj1; obtain ⟨m0', m1', m2', m3', m4'⟩ := (five_cells ((x7.block _ (blk_lt Z.out)).trans Z.out)).1; clear x7))
  have x8 := Y7.out
  have hb8 := (x8.block _ (blk_lt O1.out)).trans O1.out
  have z := set5_blk hb8 (.int .i64 0) (.int .i64 0) (.int .u64 0) (.int .u64 0) (.string ⟨#[]⟩)
  have y5 := set5_ext (Ext.trans Y4.out x8) (Nat.le_refl _) (.int .i64 0) (.int .i64 0) (.int .u64 0) (.int .u64 0) (.string ⟨#[]⟩)
  obtain ⟨z0, z1, z2, z3, z4⟩ := (five_cells z).1
  simp only [set5] at z0 z1 z2 z3 z4
  refine bodyPost_ret (v := .tuple #[.agg #[.int .i64 0, .int .i64 0, .int .u64 0, .int .u64 0, .string ⟨#[]⟩], .int .i64 2, .int .i64 66]) (by simp [results, Tryz.results53, go_sem, z0, z1, z2, z3, z4]) rfl ⟨?_, y5⟩
  unfold getF
  rw [if_neg (by rw [H1.out]; decide), H1.out, H2.out]
  rfl

theorem refGet_any (w : World) (s : ByteArray) (hs : s.size ≤ 281474976710656) : Calls Tryz.prog 53 #[.string s] w (GetsR s w) := by
  by_cases h : s.size < 27
  · exact refGet_short w s h
  · by_cases h0 : (bl s).getD 0 0 = 78
    · by_cases h1 : (bl s).getD 1 0 = 1
      · by_cases h2 : numN (((bl s).drop 21).take 2) = s.size - 27
        · cases h3 : goodB s
          · exact refGet_sum w s hs h h0 h1 h2 h3
          · cases h4 : rightB (frOf s)
            · exact refGet_kind w s hs h h0 h1 h2 h3 h4
            · exact refGet_fine w s hs h h0 h1 h2 h3 h4
        · exact refGet_length w s hs h h0 h1 h2
      · exact refGet_version w s h h0 h1
    · exact refGet_magic w s h h0
end Go.Proofs.YtlakolkpfkakoaaGreatDoor

/- Frames: what is put is got again, and nothing else; plain mathematics. -/
namespace Go.Proofs.YtlakolkpfkakoaaGreatDoor
open Go.RowKit

def putF (f : Fr) : ByteArray := if rightB f = true then putS f.k.toNat f.e.toNat f.q f.a f.b else ⟨#[]⟩
theorem right_spec {f : Fr} (h : rightB f = true) : 0 ≤ f.e ∧ f.e ≤ 65535 ∧ f.b.size ≤ 64 ∧ (f.k = 1 ∨ f.k = 2) := by
  simp only [rightB, Bool.and_eq_true, Bool.or_eq_true, decide_eq_true_eq] at h
  omega

theorem bl_putS {K E q a : Nat} {b : ByteArray} (hK : K < 256) : bl (putS K E q a b) = putL K E q a b ++ tailN (moreN 0 (putL K E q a b)) := by
  unfold putS
  rw [bl_append, bl_textN (putL_lt hK), bl_textN (tailN_lt (moreN_lt (by decide) (putL_lt hK)))]

theorem putL_length (K E q a : Nat) (b : ByteArray) : (putL K E q a b).length = 23 + b.size := by
  unfold putL
  simp only [List.length_append, List.length_cons, List.length_nil, highN_length, bl_length]

theorem putS_size {K E q a : Nat} {b : ByteArray} (hK : K < 256) : (putS K E q a b).size = 27 + b.size := by
  rw [← bl_length, bl_putS hK, List.length_append, putL_length]
  show 23 + b.size + 4 = _
  omega
theorem at_put (K E q a : Nat) (b : ByteArray) (t : List Nat) :
    (putL K E q a b ++ t).getD 0 0 = 78 ∧ (putL K E q a b ++ t).getD 1 0 = 1 ∧ (putL K E q a b ++ t).getD 2 0 = K ∧ ((putL K E q a b ++ t).drop 3).take 2 = highN E 2 ∧
    ((putL K E q a b ++ t).drop 5).take 8 = highN q 8 ∧ ((putL K E q a b ++ t).drop 13).take 8 = highN a 8 ∧ ((putL K E q a b ++ t).drop 21).take 2 = highN b.size 2 ∧ (putL K E q a b ++ t).drop 23 = bl b ++ t :=
  ⟨rfl, rfl, rfl, rfl, rfl, rfl, rfl, rfl⟩

theorem num_of {n m : Nat} (h : n < 256 ^ m) : numN (highN n m) = n := by rw [numN_highN, Nat.mod_eq_of_lt h]

theorem good_put {K E q a : Nat} {b : ByteArray} (hK : K < 256) : goodB (putS K E q a b) = true := by
  have := (good_with (textN (putL K E q a b))).1
  rwa [bl_textN (putL_lt hK)] at this

theorem fr_put {K E q a : Nat} {b : ByteArray} (hK : K < 256) (hE : E < 65536) (hq : q < 18446744073709551616) (ha : a < 18446744073709551616) : frOf (putS K E q a b) = ⟨K, E, q, a, b⟩ := by
  obtain ⟨_, _, h2, h3, h4, h5, _, h7⟩ := at_put K E q a b (tailN (moreN 0 (putL K E q a b)))
  have h8 : (putS K E q a b).extract 23 ((putS K E q a b).size - 4) = b := by
    apply bl_inj
    rw [bl_extract, bl_putS hK, h7, putS_size hK]
    have : 27 + b.size - 4 - 23 = (bl b).length := by rw [bl_length]; omega
    rw [this, List.take_left]
  unfold frOf
  rw [h8, bl_putS hK, h2, h3, h4, h5, num_of (show E < 256 ^ 2 by omega), num_of (show q < 256 ^ 8 by omega), num_of (show a < 256 ^ 8 by omega)]

theorem what_of {s : ByteArray} (h : ¬ s.size < 27) (h0 : (bl s).getD 0 0 = 78) (h1 : (bl s).getD 1 0 = 1) (h2 : numN (((bl s).drop 21).take 2) = s.size - 27) (h3 : goodB s = true) (h4 : rightB (frOf s) = true) : whatN s = 0 := by
  unfold whatN
  rw [if_neg h, if_neg (by simpa using h0), if_neg (by simpa using h1), if_neg (by simpa using h2), if_neg (by rw [h3]; decide), if_neg (by rw [h4]; decide)]

theorem what_zero {s : ByteArray} (h : whatN s = 0) : ¬ s.size < 27 ∧ (bl s).getD 0 0 = 78 ∧ (bl s).getD 1 0 = 1 ∧ numN (((bl s).drop 21).take 2) = s.size - 27 ∧ goodB s = true ∧ rightB (frOf s) = true := by
  unfold whatN at h
  split at h
  · cases h
  split at h
  · cases h
  split at h
  · cases h
  split at h
  · cases h
  split at h
  · cases h
  split at h
  · cases h
  rename_i h0 h1 h2 h3 h4 h5
  exact ⟨h0, by simpa using h1, by simpa using h2, by simpa using h3, by simpa using h4, by simpa using h5⟩
theorem put_get {f : Fr} (hq : f.q < 18446744073709551616) (ha : f.a < 18446744073709551616) (h : rightB f = true) : whatN (putF f) = 0 ∧ getF (putF f) = f := by
  obtain ⟨h1, h2, h3, h4⟩ := right_spec h
  have hK : f.k.toNat < 256 := by omega
  have hE : f.e.toNat < 65536 := by omega
  have hp : putF f = putS f.k.toNat f.e.toNat f.q f.a f.b := by unfold putF; rw [if_pos h]
  have hf : frOf (putF f) = f := by
    rw [hp, fr_put hK hE hq ha]
    obtain ⟨k, e, q, a, b⟩ := f
    simp only [Fr.mk.injEq, and_self, and_true]
    simp only at h1 h4
    omega
  obtain ⟨g0, g1, _, _, _, _, g6, _⟩ := at_put f.k.toNat f.e.toNat f.q f.a f.b (tailN (moreN 0 (putL f.k.toNat f.e.toNat f.q f.a f.b)))
  have hw : whatN (putF f) = 0 := by
    refine what_of ?_ ?_ ?_ ?_ ?_ (by rw [hf]; exact h)
    · rw [hp, putS_size hK]; omega
    · rw [hp, bl_putS hK]; exact g0
    · rw [hp, bl_putS hK]; exact g1
    · rw [hp, bl_putS hK, g6, putS_size hK, num_of (show f.b.size < 256 ^ 2 by omega)]; omega
    · rw [hp]; exact good_put hK
  exact ⟨hw, by unfold getF; rw [if_pos hw, hf]⟩

theorem one_other {l : List Nat} (hl : ∀ b ∈ l, b < 256) {k d : Nat} (hk : k < l.length) (hd : d < 256) (h0 : d ≠ 0) : moreN 0 (l.set k (l.getD k 0 ^^^ d)) ≠ moreN 0 l := by
  obtain ⟨u, m, a, rfl, rfl⟩ : ∃ u m a, l = u ++ a :: m ∧ k = u.length := by
    refine ⟨l.take k, l.drop (k + 1), l[k], ?_, by rw [List.length_take]; omega⟩
    rw [← List.drop_eq_getElem_cons hk, List.take_append_drop]
  have ha : a < 256 := hl a (by simp)
  have hu : ∀ x ∈ u, x < 256 := fun x hx => hl x (by simp [hx])
  have hm : ∀ x ∈ m, x < 256 := fun x hx => hl x (by simp [hx])
  have e1 : (u ++ a :: m).getD u.length 0 = a := by simp [List.getD]
  have e2 : ∀ y, (u ++ a :: m).set u.length y = u ++ y :: m := fun y => by simp
  rw [e1, e2]
  intro h
  have h2 : ∀ x z : Nat, x ^^^ 4294967295 = z ^^^ 4294967295 → x = z := fun x z e => by rw [← xor_twice x 4294967295, e, xor_twice]
  unfold moreN at h
  have h := h2 _ _ h
  rw [byts_append, byts_append] at h
  have hc : byts (0 ^^^ 4294967295) u < 4294967296 := byts_lt (by decide) hu
  have hx : a ^^^ d < 256 := by
    have : a ^^^ d < 2 ^ 8 := Nat.xor_lt_two_pow (by omega) (by omega)
    omega
  have h3 : byt (byts (0 ^^^ 4294967295) u) (a ^^^ d) = byt (byts (0 ^^^ 4294967295) u) a := by
    refine byts_inj (byt_lt hc hx) (byt_lt hc ha) hm ?_
    exact h
  unfold byt at h3
  generalize byts (0 ^^^ 4294967295) u = c at *
  have hb : ∀ y, y < 256 → c ^^^ y < 4294967296 := fun y hy => by
    have : c ^^^ y < 2 ^ 32 := Nat.xor_lt_two_pow (by omega) (by omega)
    omega
  have h4 := shN_inj 8 (hb _ hx) (hb _ ha) h3
  have h5 : c ^^^ (c ^^^ (a ^^^ d)) = c ^^^ (c ^^^ a) := by rw [h4]
  rw [← Nat.xor_assoc, Nat.xor_self, Nat.zero_xor, ← Nat.xor_assoc, Nat.xor_self, Nat.zero_xor] at h5
  have h6 : a ^^^ (a ^^^ d) = a ^^^ a := by rw [h5]
  rw [← Nat.xor_assoc, Nat.xor_self, Nat.zero_xor] at h6
  exact h0 h6
def oneB (s : ByteArray) (k d : Nat) : ByteArray := textN ((bl s).set k ((bl s).getD k 0 ^^^ d))

theorem xor_ne {x d : Nat} (h : d ≠ 0) : x ^^^ d ≠ x := fun e => by
  have h6 : x ^^^ (x ^^^ d) = x ^^^ x := by rw [e]
  rw [← Nat.xor_assoc, Nat.xor_self, Nat.zero_xor] at h6
  exact h h6

theorem xor_lt256 {x d : Nat} (hx : x < 256) (hd : d < 256) : x ^^^ d < 256 := by
  have : x ^^^ d < 2 ^ 8 := Nat.xor_lt_two_pow (by omega) (by omega)
  omega

theorem bl_oneB {s : ByteArray} {k d : Nat} (hd : d < 256) : bl (oneB s k d) = (bl s).set k ((bl s).getD k 0 ^^^ d) := by
  refine bl_textN fun b hb => ?_
  rcases List.mem_or_eq_of_mem_set hb with h | rfl
  · exact bl_lt s b h
  · refine xor_lt256 ?_ hd
    by_cases hk : k < (bl s).length
    · rw [List.getD_eq_getElem?_getD, List.getElem?_eq_getElem hk]
      exact bl_lt s _ (List.getElem_mem hk)
    · rw [List.getD_eq_getElem?_getD, List.getElem?_eq_none (by omega)]
      decide
theorem turned_none {s : ByteArray} (hs : whatN s = 0) {k d : Nat} (hk : k < s.size) (hd : d < 256) (h0 : d ≠ 0) : whatN (oneB s k d) ≠ 0 := by
  intro h
  obtain ⟨a0, a1, a2, a3, a4, _⟩ := what_zero hs
  obtain ⟨b0, b1, b2, b3, b4, _⟩ := what_zero h
  have hl := bl_length s
  have hsz : (oneB s k d).size = s.size := by rw [← bl_length, bl_oneB hd, List.length_set, hl]
  rw [bl_oneB hd] at b1 b2 b3
  have hg : ∀ i, i < s.size → ((bl s).set k ((bl s).getD k 0 ^^^ d)).getD i 0 = if i = k then (bl s).getD k 0 ^^^ d else (bl s).getD i 0 := fun i hi => by
    by_cases hik : i = k
    · subst hik
      simp [List.getD, hl, hi]
    · rw [if_neg hik, List.getD_eq_getElem?_getD, List.getElem?_set_ne (Ne.symm hik), ← List.getD_eq_getElem?_getD]
  have two : ∀ (l : List Nat), 23 ≤ l.length → (l.drop 21).take 2 = [l.getD 21 0, l.getD 22 0] := fun l h => by
    have h1 : 21 < l.length := by omega
    have h2 : 22 < l.length := by omega
    have e : l.drop 21 = l[21] :: l[22] :: l.drop 23 := by rw [List.drop_eq_getElem_cons h1, List.drop_eq_getElem_cons h2]
    rw [e, List.getD_eq_getElem?_getD, List.getD_eq_getElem?_getD, List.getElem?_eq_getElem h1, List.getElem?_eq_getElem h2]
    rfl
  have numtwo : ∀ x y : Nat, numN [x, y] = x * 256 + y := fun x y => by simp [numN]
  have ltg : ∀ i, (bl s).getD i 0 < 256 := fun i => by
    by_cases hi : i < (bl s).length
    · rw [List.getD_eq_getElem?_getD, List.getElem?_eq_getElem hi]
      exact bl_lt s _ (List.getElem_mem hi)
    · rw [List.getD_eq_getElem?_getD, List.getElem?_eq_none (by omega)]
      decide
  by_cases k0 : k = 0
  · subst k0
    rw [hg 0 hk, if_pos rfl, a1] at b1
    exact xor_ne h0 b1
  by_cases k1 : k = 1
  · subst k1
    rw [hg 1 hk, if_pos rfl, a2] at b2
    exact xor_ne h0 b2
  by_cases k2 : k = 21
  · subst k2
    rw [two _ (by rw [List.length_set]; omega), hg 21 hk, if_pos rfl, hg 22 (by omega), if_neg (by decide), hsz, ← a3, two _ (by omega), numtwo, numtwo] at b3
    have := ltg 22
    exact xor_ne h0 (show (bl s).getD 21 0 ^^^ d = (bl s).getD 21 0 by omega)
  by_cases k3 : k = 22
  · subst k3
    rw [two _ (by rw [List.length_set]; omega), hg 22 hk, if_pos rfl, hg 21 (by omega), if_neg (by decide), hsz, ← a3, two _ (by omega), numtwo, numtwo] at b3
    exact xor_ne h0 (show (bl s).getD 22 0 ^^^ d = (bl s).getD 22 0 by omega)
  -- the sum
  unfold goodB at a4 b4
  rw [Bool.and_eq_true, decide_eq_true_eq, decide_eq_true_eq] at a4 b4
  have c1 := congrArg bl a4.2
  have c2 := congrArg bl b4.2
  have ba : ∀ t : ByteArray, bl (ahead t) = (bl t).take (t.size - 4) := fun t => by unfold ahead; rw [bl_extract, List.drop_zero, Nat.sub_zero]
  have bz : ∀ t : ByteArray, bl (last4 t) = ((bl t).drop (t.size - 4)).take 4 := fun t => by
    unfold last4
    rw [bl_extract]
    by_cases h4 : 4 ≤ t.size
    · rw [show t.size - (t.size - 4) = 4 by omega]
    · rw [show t.size - 4 = 0 by omega, List.drop_zero, Nat.sub_zero, List.take_of_length_le (by rw [bl_length]; exact Nat.le_refl _), List.take_of_length_le (by rw [bl_length]; omega)]
  have mlt : ∀ t : ByteArray, moreN 0 (bl t) < 4294967296 := sum_lt
  rw [bl_textN (tailN_lt (mlt _)), bz] at c1 c2
  rw [hsz, bl_oneB hd] at c2
  rw [ba] at c1
  have hc2 : moreN 0 (bl (ahead (oneB s k d))) = moreN 0 (((bl s).set k ((bl s).getD k 0 ^^^ d)).take (s.size - 4)) := by rw [ba, hsz, bl_oneB hd]
  rw [hc2] at c2
  by_cases hk4 : k < s.size - 4
  · rw [List.drop_set_of_lt hk4, c1] at c2
    have hlt2 : ∀ b ∈ (bl s).take (s.size - 4), b < 256 := fun b hb => bl_lt s b (List.mem_of_mem_take hb)
    have hts : ((bl s).set k ((bl s).getD k 0 ^^^ d)).take (s.size - 4) = ((bl s).take (s.size - 4)).set k (((bl s).take (s.size - 4)).getD k 0 ^^^ d) := by
      rw [List.take_set]
      congr 2
      simp [List.getD, hk4]
    rw [hts] at c2
    have hlt3 : ∀ b ∈ ((bl s).take (s.size - 4)).set k (((bl s).take (s.size - 4)).getD k 0 ^^^ d), b < 256 := fun b hb => by
      rcases List.mem_or_eq_of_mem_set hb with h | rfl
      · exact hlt2 b h
      · refine xor_lt256 ?_ hd
        rw [List.getD_eq_getElem?_getD, List.getElem?_take_of_lt hk4, ← List.getD_eq_getElem?_getD]
        exact ltg k
    have e := tail_inj (moreN_lt (c := 0) (by decide) hlt2) (moreN_lt (c := 0) (by decide) hlt3) (by rw [c2])
    exact one_other hlt2 (by rw [List.length_take]; omega) hd h0 e.symm
  · have e : (((bl s).set k ((bl s).getD k 0 ^^^ d)).take (s.size - 4)) = (bl s).take (s.size - 4) := by
      rw [List.take_set, List.set_eq_of_length_le (by rw [List.length_take]; omega)]
    rw [e, ← c1] at c2
    have hd1 : ((bl s).set k ((bl s).getD k 0 ^^^ d)).drop (s.size - 4) = ((bl s).drop (s.size - 4)).set (k - (s.size - 4)) ((bl s).getD k 0 ^^^ d) := by
      rw [List.drop_set, if_neg hk4]
    rw [hd1] at c2
    have h4 : ((bl s).drop (s.size - 4)).length = 4 := by rw [List.length_drop, hl]; omega
    rw [List.take_of_length_le (by rw [List.length_set, h4]; exact Nat.le_refl _), List.take_of_length_le (by rw [h4]; exact Nat.le_refl _)] at c2
    have c3 := congrArg (fun l => l.getD (k - (s.size - 4)) 0) c2
    have hi : k - (s.size - 4) < ((bl s).drop (s.size - 4)).length := by rw [h4]; omega
    have e3 : ((bl s).drop (s.size - 4)).getD (k - (s.size - 4)) 0 = (bl s).getD k 0 := by
      rw [List.getD_eq_getElem?_getD, List.getElem?_drop, show s.size - 4 + (k - (s.size - 4)) = k by omega, ← List.getD_eq_getElem?_getD]
    have e4 : ∀ y, (((bl s).drop (s.size - 4)).set (k - (s.size - 4)) y).getD (k - (s.size - 4)) 0 = y := fun y => by
      rw [List.getD_eq_getElem?_getD, List.getElem?_set_self hi]; rfl
    rw [e3, e4] at c3
    exact xor_ne h0 c3

theorem putF_size {f : Fr} (hf : rightB f = true) : (putF f).size = 27 + f.b.size := by
  obtain ⟨_, _, _, h4⟩ := right_spec hf
  unfold putF
  rw [if_pos hf, putS_size (by omega)]
end Go.Proofs.YtlakolkpfkakoaaGreatDoor

/- Frames: when two are the same; what a box holds. -/
namespace Go.Proofs.YtlakolkpfkakoaaGreatDoor
end Go.Proofs.YtlakolkpfkakoaaGreatDoor

/- Bytes being written: a slice of bytes of the call's own, what is appended to it, and the program's own numbers. -/
namespace Go.Proofs.YtlakolkpfkakoaaGreatDoor
open Go.RowKit

structure B8 where
  n : Nat

instance : Elem B8 where
  e := 5
  t := 114
  k := 1
  bytes := 1
  z := .int .u8 0
  enc := fun x => [.int .u8 x.n]
  dflt := ⟨0⟩
  len := fun _ => rfl
  pos := by decide
  one := fun x u hu => by simp at hu; subst hu; rfl
  row := by kernel_rfl
  info := by kernel_rfl
  zsize := rfl
  few := by decide

def b8 (l : List Nat) : List B8 := l.map B8.mk
theorem b8_length (l : List Nat) : (b8 l).length = l.length := by unfold b8; rw [List.length_map]
theorem b8_append (l m : List Nat) : b8 (l ++ m) = b8 l ++ b8 m := by unfold b8; rw [List.map_append]
theorem cells_b : ∀ l : List Nat, cellsOf (b8 l) = l.map fun b : Nat => Value.int .u8 b
  | [] => rfl
  | a :: l => by
    have ih := cells_b l
    show Elem.enc (B8.mk a) ++ cellsOf (b8 l) = _
    rw [ih]
    rfl
theorem cells_text (s : ByteArray) : Lib.strCells s = (bl s).map fun b : Nat => Value.int .u8 b := by
  unfold Lib.strCells bl
  rw [List.map_map]
  rfl
theorem wpList_append_text {w : World} {ops : Array Oper} {rest : List Oper} {o : Oper} {a : Act} {Q : Exit → Act → World → Prop} (hgd : o.guard = none) (s x : Operand)
    (ho : o.op = .call { callee := .builtin .append, args := #[s, x], argTypes := #[114, 9] })
    (B : Nat) (v : Value) (l : List Nat) (hs : a.eval s = v) (hown : Ow w B v (b8 l)) (t : ByteArray) (hx : a.eval x = .string t)
    (hbytes : l.length + t.size ≤ 100000000) (hbase : B ≤ w.heap.size)
    (h : ∀ v' w', Ow w' B v' (b8 (l ++ bl t)) → Below B w w' → wpList Tryz.prog ops Q rest (a.put o.dst v') w') : wpList Tryz.prog ops Q (o :: rest) a w := by
  obtain ⟨i0, hi, hz0, hz1, hz2⟩ := info_parts (Elem.info (α := B8))
  have hlow := hown.low
  have hown' := hown
  unfold Ow at hown'
  rw [b8_length, cells_b] at hown'
  refine Lib.wpList_append_own_string w hgd s x 114 9 ho B (Elem.e B8) i0 (Elem.row (α := B8)) (by kernel_rfl) hi hz0 hz1 hz2 v l.length _ hs hown' t hx (by unfold maxLen; omega) (by omega) hbase fun v' w' h1 h2 _ => h v' w' ?_ ?_
  · unfold Ow
    rw [b8_length, cells_b, List.length_append, List.map_append, bl_length, ← cells_text]
    exact h1
  · exact (Below.refl _ _).grown h2 hbase fun k hk => (hlow k hk).1
theorem text_ow {w : World} {B : Nat} {v : Value} {l : List Nat} (h : Ow w B v (b8 l)) (hl : l ≠ []) :
    ∃ g c, v = .slice (some ⟨g, 0, none⟩) l.length c ∧ g < w.heap.size ∧ (convert 114 9 (.slice (some ⟨g, 0, none⟩) l.length c)).run Tryz.prog w = .ok (.string (textN l)) w := by
  unfold Ow at h
  rw [b8_length, cells_b] at h
  rcases h.2 with ⟨_, h0⟩ | ⟨g, cap, cur, rfl, _, hh, _, _, _, _⟩
  · exact absurd (List.eq_nil_of_length_eq_zero h0) hl
  · have hg := (Array.getElem?_eq_some_iff.1 hh).1
    refine ⟨g, cap, rfl, hg, ?_⟩
    have := run_convert_bytes_arg (P := Tryz.prog) w 114 5 (by kernel_rfl) (by kernel_rfl) g 0 l.length cap (l.map fun b : Nat => (b : Int)) (by simp) (fun i hi => by
      rw [Nat.zero_add]
      have h3 := h.cellAt (g := g) i (by show i < l.length * 1; omega)
      rw [h3]
      simp [hi]) 9 (by kernel_rfl)
    rw [this]
    have e : strOfNums (l.map fun b : Nat => (b : Int)) = textN l := by
      unfold strOfNums textN
      rw [List.map_map]
      rfl
    rw [e]

theorem highN_take (n m k d : Nat) (h : m = k + 1 + d) : (highN n m).take (k + 1) = (highN n m).take k ++ [n / 256 ^ d % 256] := by
  have hl : k < (highN n m).length := by rw [highN_length]; omega
  rw [List.take_succ_eq_append_getElem hl]
  congr 2
  subst h
  have key : ∀ (k : Nat) (h : k < (highN n (k + 1 + d)).length), (highN n (k + 1 + d))[k] = n / 256 ^ d % 256 := by
    intro k
    induction k with
    | zero => intro h; simp only [Nat.zero_add, Nat.add_comm 1 d, highN, List.getElem_cons_zero]
    | succ k ih =>
      intro h
      have e : k + 1 + 1 + d = (k + 1 + d) + 1 := by omega
      simp only [e, highN, List.getElem_cons_succ]
      exact ih _
  exact key k hl

theorem pow256 (d : Nat) : (256 : Nat) ^ d = 2 ^ (8 * d) := by rw [Nat.pow_mul]

set_option maxHeartbeats 800000 in
theorem writeNumber_any (w : World) (B : Nat) (v : Value) (l : List Nat) (n f t m : Nat) (hm : t = f + m) (h : Ow w B v (b8 l)) (hB : B ≤ w.heap.size) (h8 : m ≤ 8) (hl : l.length ≤ 1000) :
    Calls Tryz.prog 66 #[v, .int .u64 n, .int .i64 f, .int .i64 t] w fun e w' => ∃ v', e = .returned v' ∧ Ow w' B v' (b8 (l ++ highN n m)) ∧ Below B w w' := by
  obtain ⟨ao, nn, c, rfl⟩ := h.sh
  have HO := Lib.hid h
  clear h
  have e0 : (t : Int) - (f : Int) = (m : Int) := by omega
  replace hm := Lib.hid hm
  go_enter Tryz.func66, Tryz.ntmps66
  go_wp2
  go_loopw [0, 9] (fun b i wr => ∃ k : Nat, k ≤ m ∧ i = .int .i64 ((m : Int) - 1 - (k : Int)) ∧ (∃ ao nn c, b = .slice ao nn c) ∧ Hid (Ow wr B b (b8 (l ++ (highN n m).take k))) ∧ Hid (Below B w wr)) (fun _ i _ => (intOf i + 1).toNat)
  case atStart => exact ⟨0, Nat.zero_le _, by simp, ⟨_, _, _, rfl⟩, Lib.hid (by simpa using HO.out), Lib.hid (Below.refl _ _)⟩
  case round =>
    obtain ⟨k, hk, rfl, ⟨ao, nn, c, rfl⟩, HW, HX⟩ := hrel
    by_cases hlt : k < m
    · obtain ⟨d, hd⟩ : ∃ d, m = k + 1 + d := ⟨m - (k + 1), by omega⟩
      have e1 : (m : Int) - 1 - (k : Int) = (d : Int) := by omega
      have HT := Lib.hid (highN_take n m k d hd)
      have hd8 : d ≤ 7 := by omega
      have HD := Lib.hid hd
      clear hd
      rw [e1]
      have hs := HX.out.size
      have e2 : (n : Int) / 2 ^ (8 * d) % 256 = ((n / 256 ^ d % 256 : Nat) : Int) := by
        rw [pow256]
        simp
      obtain ⟨Y, hY⟩ : ∃ Y, Y = n / 256 ^ d % 256 := ⟨_, rfl⟩
      rw [← hY] at e2 HT
      have hY2 : Y < 256 := by rw [hY]; exact Nat.mod_lt _ (by decide)
      clear hY
      have hlen : (b8 (l ++ (highN n m).take k)).length + 1 ≤ 100000000 := by rw [b8_length, List.length_append, List.length_take]; omega
      go_wp2_with ((at_builtin; refine wpList_append_sl (α := B8) rfl (.tmp 18) (.tmp 24) rfl B _ (b8 (l ++ (highN n m).take k)) rfl ?_ (.slice (some ⟨_, 0, none⟩) 1 1) [B8.mk Y] rfl ?_ ?_ ?_ ?_; exact (HW.out.alloc _); exact (Sl.litAt wr _ rfl [B8.mk Y] (by simp)); (first | omega | (simp; omega)); (simp; omega); intro v2 W2 ho2 ha2; have O2 := Lib.hid ho2; have y2 : Hid (Below B w W2) := Lib.hid (Below.trans (HX.out.alloc (Nat.le_trans hB hs) _) ha2.below); obtain ⟨a2, n2, c2, rfl⟩ := ho2.sh; clear ho2 ha2))
      refine ⟨⟨k + 1, by omega, by go_num, ⟨_, _, _, rfl⟩, Lib.hid ?_, y2⟩, by simp [intOf]⟩
      have h2 := O2.out
      have e5 : b8 (l ++ (highN n m).take (k + 1)) = b8 (l ++ (highN n m).take k) ++ [B8.mk Y] := by rw [HT.out, ← List.append_assoc, b8_append]; rfl
      rw [e5]
      exact h2
    · have hkm : k = m := by omega
      have hw := HW.out
      rw [hkm, List.take_of_length_le (by rw [highN_length]; omega)] at hw
      have HW2 := Lib.hid hw
      have e1 : (m : Int) - 1 - (k : Int) = -1 := by omega
      rw [e1]
      clear hw HW
      go_wp2
      go_ret
      exact ⟨_, rfl, HW2.out, HX.out⟩

theorem shl_or (x b : Nat) (hb : b < 256) : x * 256 ||| b = x * 256 + b := by
  have h := Nat.shiftLeft_add_eq_or_of_lt (i := 8) (b := b) (by simpa using hb) x
  rw [Nat.shiftLeft_eq] at h
  exact h.symm

set_option maxHeartbeats 800000 in
theorem readNumber_any (w : World) (s : ByteArray) (f m t : Nat) (hm : t = f + m) (ht : t ≤ s.size) (h8 : m ≤ 8) (hs : s.size ≤ 9223372036854775807) :
    Calls Tryz.prog 90 #[.string s, .int .i64 f, .int .i64 t] w fun e w' => e = .returned (.int .u64 (numN (((bl s).drop f).take m) : Nat)) ∧ w = w' := by
  have hl := bl_length s
  have HLT : Hid (∀ k, numN ((((bl s).drop f).take m).take k) < 18446744073709551616) := Lib.hid (numN_take_lt (fun b hb => bl_lt s b (List.mem_of_mem_drop (List.mem_of_mem_take hb))) (by rw [List.length_take]; omega))
  have HAT : Hid (∀ (k : Nat) (h : k < s.size), (s[k]'h).toNat = (bl s).getD k 0) := Lib.hid (fun k h => bl_at s h)
  have hll : (((bl s).drop f).take m).length = m := by rw [List.length_take, List.length_drop, hl]; omega
  obtain ⟨L, hL⟩ : ∃ L, L = ((bl s).drop f).take m := ⟨_, rfl⟩
  rw [← hL] at HLT hll ⊢
  have HGD : Hid (∀ k, k < m → (bl s).getD (f + k) 0 = L.getD k 0) := Lib.hid (fun k hk => by
    rw [hL]
    simp only [List.getD_eq_getElem?_getD, List.getElem?_take, List.getElem?_drop, if_pos hk])
  clear hL
  replace hm := Lib.hid hm
  have htf : (t : Int) = (f : Int) + (m : Int) := by have := hm.out; omega
  have HTF := Lib.hid htf
  have HT := Lib.hid ht
  clear htf ht
  go_enter Tryz.func90, Tryz.ntmps90
  go_wp2
  go_loop [7, 8] (fun x i => ∃ (k E a : Nat), k ≤ m ∧ a = f + k ∧ i = .int .i64 a ∧ x = .int .u64 E ∧ Hid (E = numN (L.take k))) (fun _ i => t - (intOf i).toNat)
  case atStart => exact ⟨0, 0, f, by omega, by omega, rfl, rfl, Lib.hid (by simp [numN])⟩
  case round =>
    obtain ⟨k, E, a, hk, ha, rfl, rfl, HE⟩ := hrel
    have hts := HT.out
    have htm := HTF.out
    by_cases hlt : k < m
    · have hat : a < s.size := by omega
      have hlt2 : (a : Int) < (t : Int) := by omega
      have hb : ((s[a]'hat).toNat) = (bl s).getD a 0 := HAT.out a hat
      have hg : (bl s).getD a 0 = L.getD k 0 := by rw [ha]; exact HGD.out k hlt
      rw [hg] at hb
      obtain ⟨B, hB⟩ : ∃ B, B = L.getD k 0 := ⟨_, rfl⟩
      rw [← hB] at hb
      have hB2 : B < 256 := by rw [← hb]; exact (s[a]'hat).toNat_lt
      have hE2 : E * 256 + B < 18446744073709551616 := by
        have := HLT.out (k + 1)
        rw [numN_take _ _ (by rw [hll]; exact hlt), ← hB, ← HE.out] at this
        exact this
      have HB := Lib.hid hB
      clear hB hg
      have hE1 : E * 256 < 18446744073709551616 := Nat.lt_of_le_of_lt (Nat.le_add_right _ _) hE2
      have e1 : bits .or .u64 ((E : Int) * 256) (B : Int) = ((E * 256 + B : Nat) : Int) := by
        have := u64_or_nat (E * 256) B hE1 (by omega)
        rw [shl_or _ _ hB2] at this
        rw [Int.natCast_mul] at this
        exact this
      obtain ⟨F, hF⟩ : ∃ F, F = E * 256 + B := ⟨_, rfl⟩
      rw [← hF] at e1
      have HF := Lib.hid hF
      clear hF hts htm
      replace ha := Lib.hid ha
      go_wp2
      have hao := ha.out
      have htm := HTF.out
      refine ⟨⟨k + 1, F, a + 1, by omega, by omega, by go_num, rfl, Lib.hid ?_⟩, by simp [intOf]; omega⟩
      rw [numN_take _ _ (by rw [hll]; exact hlt), ← HE.out, ← HB.out, ← HF.out]
    · have hkk : k = m := by omega
      have hlt2 : ¬ (a : Int) < (t : Int) := by omega
      have e5 := Lib.hid (show E = numN L by rw [HE.out, List.take_of_length_le (by rw [hll]; omega)])
      clear hts htm
      replace ha := Lib.hid ha
      go_wp2
      go_ret
      exact ⟨by rw [← e5.out]; rfl, rfl⟩
end Go.Proofs.YtlakolkpfkakoaaGreatDoor
