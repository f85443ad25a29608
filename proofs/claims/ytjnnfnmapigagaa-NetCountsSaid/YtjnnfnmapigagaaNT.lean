/- A bit turned: plain mathematics. -/
import Derived.Test.YtjnnfnmapigagaaNLOrder
namespace Go.Proofs.Ytjnnfnmapigagaa
open Go.RowKit

theorem xor_pow_lt {x j : Nat} (hx : x < 256) (hj : j < 8) : x ^^^ 2 ^ j < 256 := by
  have h1 : 2 ^ j < 2 ^ 8 := Nat.pow_lt_pow_right (by decide) hj
  exact Nat.xor_lt_two_pow (n := 8) hx h1
theorem getD_bl_lt (s : ByteArray) (k : Nat) : (bl s).getD k 0 < 256 := by
  by_cases h : k < (bl s).length
  · have hm : (bl s).getD k 0 ∈ bl s := by simp [h]
    exact bl_lt s _ hm
  · simp [List.getD, h]
theorem turned_lt (s : ByteArray) (i j : Nat) (hj : j < 8) : ∀ b ∈ (bl s).set i ((bl s).getD i 0 ^^^ 2 ^ j), b < 256 := fun b hb => by
  rcases List.mem_or_eq_of_mem_set hb with h | h
  · exact bl_lt s b h
  · rw [h]; exact xor_pow_lt (getD_bl_lt s i) hj
theorem bl_turned (s : ByteArray) (bit : Int) : bl (turned s bit) = (bl s).set (turnAt s bit / 8) ((bl s).getD (turnAt s bit / 8) 0 ^^^ 2 ^ (turnAt s bit % 8)) := by
  unfold turned
  exact bl_textN (turned_lt s _ _ (by omega))
theorem turned_size (s : ByteArray) (bit : Int) : (turned s bit).size = s.size := by
  rw [← bl_length, bl_turned, List.length_set, bl_length]
theorem turnAt_turned (s : ByteArray) (bit : Int) : turnAt (turned s bit) bit = turnAt s bit := by
  unfold turnAt
  rw [turned_size]
theorem turned_twice (s : ByteArray) (bit : Int) : turned (turned s bit) bit = s := by
  apply bl_inj
  rw [bl_turned, turnAt_turned, bl_turned]
  by_cases h : turnAt s bit / 8 < (bl s).length
  · rw [List.set_set]
    have e : ((bl s).set (turnAt s bit / 8) ((bl s).getD (turnAt s bit / 8) 0 ^^^ 2 ^ (turnAt s bit % 8))).getD (turnAt s bit / 8) 0 = (bl s).getD (turnAt s bit / 8) 0 ^^^ 2 ^ (turnAt s bit % 8) := by
      simp [List.getD, h]
    rw [e, Nat.xor_assoc, Nat.xor_self, Nat.xor_zero]
    simp [List.getD, h]
  · rw [List.set_eq_of_length_le (by rw [List.length_set]; omega), List.set_eq_of_length_le (by omega)]
/-- of a byte that is turned one bit is another one -/
theorem bit_other (x j k : Nat) : (x ^^^ 2 ^ j) / 2 ^ k % 2 = x / 2 ^ k % 2 ↔ k ≠ j := by
  have h1 : ∀ y : Nat, y / 2 ^ k % 2 = (y.testBit k).toNat := fun y => by
    rw [Nat.testBit_eq_decide_div_mod_eq]
    rcases Nat.mod_two_eq_zero_or_one (y / 2 ^ k) with h | h <;> rw [h] <;> rfl
  rw [h1, h1, Nat.testBit_xor, Nat.testBit_two_pow]
  by_cases h : j = k
  · subst h
    cases x.testBit j <;> simp
  · cases x.testBit k <;> simp [h, Ne.symm h]
theorem turned_byte (s : ByteArray) (bit : Int) (i : Nat) (hs : i < s.size) : (bl (turned s bit)).getD i 0 = if i = turnAt s bit / 8 then (bl s).getD i 0 ^^^ 2 ^ (turnAt s bit % 8) else (bl s).getD i 0 := by
  rw [bl_turned]
  have hl : i < (bl s).length := by rw [bl_length]; exact hs
  by_cases h : i = turnAt s bit / 8
  · rw [if_pos h, ← h]
    simp [List.getD, hl]
  · rw [if_neg h]
    simp [List.getD, Ne.symm h]
/-- bit k of byte i is another one only where it was turned -/
theorem turned_bit (s : ByteArray) (bit : Int) (i k : Nat) (hs : i < s.size) : (bl (turned s bit)).getD i 0 / 2 ^ k % 2 = (bl s).getD i 0 / 2 ^ k % 2 ↔ ¬ (i = turnAt s bit / 8 ∧ k = turnAt s bit % 8) := by
  rw [turned_byte s bit i hs]
  by_cases h : i = turnAt s bit / 8
  · rw [if_pos h, bit_other]
    constructor
    · intro h1 h2; exact h1 h2.2
    · intro h1 h2; exact h1 ⟨h, h2⟩
  · rw [if_neg h]
    exact ⟨fun _ h2 => h h2.1, fun _ => rfl⟩
theorem and_one_u8 (x : Nat) (hx : x < 256) : bits .and .u8 (x : Int) 1 = ((x % 2 : Nat) : Int) := by
  have h := u8_and_nat x 1 hx (by decide)
  rw [Nat.and_one_is_mod] at h
  exact h
end Go.Proofs.Ytjnnfnmapigagaa
