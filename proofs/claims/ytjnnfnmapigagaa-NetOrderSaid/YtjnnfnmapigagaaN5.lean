/- The document's nets: a bit turned; whether all is quiet. -/
import Derived.Test.YtjnnfnmapigagaaN4
namespace Go.Proofs.Ytjnnfnmapigagaa
open Go.RowKit

theorem turnAt_lt {s : ByteArray} {bit : Int} (hs : 0 < s.size) : turnAt s bit < 8 * s.size := Nat.mod_lt _ (by omega)

/-- from where the number of the bit is known -/
theorem turnAt_of {s : ByteArray} {bit y : Int} (hb : -9223372036854775808 ≤ bit) (hy : y = (if bit < 0 then (if bit = -9223372036854775808 then 0 else -bit) else bit)) : Int.tmod y (8 * (s.size : Int)) = (turnAt s bit : Int) := by
  unfold turnAt
  have e : y = (((if bit = -9223372036854775808 then 0 else bit.natAbs) : Nat) : Int) := by
    rw [hy]
    by_cases h1 : bit < 0
    · rw [if_pos h1]
      by_cases h2 : bit = -9223372036854775808
      · rw [if_pos h2, if_pos h2]; rfl
      · rw [if_neg h2, if_neg h2]; omega
    · rw [if_neg h1, if_neg (by omega)]; omega
  rw [e, Int.tmod_eq_emod_of_nonneg (by omega), Int.natCast_emod, Int.natCast_mul]
  rfl

set_option maxHeartbeats 800000 in
theorem refTurned_any (w : World) (s : ByteArray) (bit : Int) (hb : -9223372036854775808 ≤ bit) (hb2 : bit ≤ 9223372036854775807) (hs : 0 < s.size) (hl : s.size ≤ 1000) :
    Calls Try.prog 31 #[.string s, .int .i64 bit] w fun e w' => e = .returned (.string (turned s bit)) ∧ Ext w w' := by
  have hD := turnAt_lt (bit := bit) hs
  have HT := Lib.hid (show turned s bit = textN ((bl s).set (turnAt s bit / 8) ((bl s).getD (turnAt s bit / 8) 0 ^^^ 2 ^ (turnAt s bit % 8))) from rfl)
  obtain ⟨W1, hW1⟩ : ∃ W1, W1 = newB w s := ⟨_, rfl⟩
  have hbo := bytes_of w s
  have hby := newB_byt w s
  have hex := newB_ext w s
  rw [← hW1] at hbo hby hex
  clear hW1
  obtain ⟨c, hc⟩ : ∃ c, c = capB w s := ⟨_, rfl⟩
  rw [← hc] at hbo
  clear hc
  have tail : ∀ (D : Nat), D < 8 * s.size → Hid (turned s bit = textN ((bl s).set (D / 8) ((bl s).getD (D / 8) 0 ^^^ 2 ^ (D % 8)))) →
      ∃ (B X : Nat), W1.cell? ⟨w.heap.size, D / 8, none⟩ = some (.int .u8 (B : Int)) ∧ W1.frozen? ⟨w.heap.size, D / 8, none⟩ = false ∧ bits .xor .u8 (B : Int) ((2 : Int) ^ (D % 8) % 256) = (X : Int) ∧
        (convert 57 9 (.slice (some ⟨w.heap.size, 0, none⟩) s.size c)).run Try.prog (W1.setCell ⟨w.heap.size, D / 8, none⟩ (.int .u8 (X : Int))) = .ok (.string (turned s bit)) (W1.setCell ⟨w.heap.size, D / 8, none⟩ (.int .u8 (X : Int))) := by
    intro D hD HT
    have hlt : D / 8 < (bl s).length := by rw [bl_length]; omega
    refine ⟨(bl s).getD (D / 8) 0, (bl s).getD (D / 8) 0 ^^^ 2 ^ (D % 8), hby.cell _ hlt, hby.free _ hlt, ?_, ?_⟩
    · have h7 : 2 ^ (D % 8) ≤ 2 ^ 7 := Nat.pow_le_pow_right (by decide) (by omega)
      have h8 : (2 : Int) ^ (D % 8) % 256 = ((2 ^ (D % 8) : Nat) : Int) := by
        have h9 : ((2 ^ (D % 8) : Nat) : Int) = (2 : Int) ^ (D % 8) := by rw [Int.natCast_pow]; rfl
        have h10 : (0 : Int) ≤ ((2 ^ (D % 8) : Nat) : Int) := Int.natCast_nonneg _
        rw [← h9]
        omega
      rw [h8]
      refine u8_xor_nat _ _ ?_ (by omega)
      have hm : (bl s).getD (D / 8) 0 ∈ bl s := by simp [hlt]
      exact bl_lt s _ hm
    · rw [HT.out]
      exact (hby.set (D / 8) _ hlt).text s.size c (by rw [List.length_set, bl_length])
  by_cases h1 : bit < 0
  · by_cases h2 : bit = -9223372036854775808
    · have hy := turnAt_of (s := s) (bit := bit) (y := 0) hb (by rw [if_pos h1, if_pos h2])
      have h0 : turnAt s bit = 0 := by rw [Int.zero_tmod] at hy; omega
      rw [h0] at HT
      obtain ⟨B, X, k1, k2, k3, k4⟩ := tail 0 (by omega) HT
      have HEX := Lib.hid hex
      have e0 : wrap64 0 = 0 := by kernel_rfl
      have e1 : wrap64 9223372036854775808 = -9223372036854775808 := by kernel_rfl
      have k5 : bits .xor .u8 (B : Int) 1 = (X : Int) := k3
      rw [show 0 / 8 = 0 from rfl] at k1 k2 k4
      clear hby hex tail k3 hy hD h0
      go_enter Try.func31, Try.ntmps31
      go_wp2
      go_ret
      exact ⟨by rw [h2]; rfl, below_set HEX.out (Nat.le_refl _) _⟩
    · have hy := turnAt_of (s := s) (bit := bit) (y := -bit) hb (by rw [if_pos h1, if_neg h2])
      obtain ⟨D, hDD⟩ : ∃ D, D = turnAt s bit := ⟨_, rfl⟩
      rw [← hDD] at hy hD HT
      clear hDD
      obtain ⟨B, X, k1, k2, k3, k4⟩ := tail D hD HT
      have HEX := Lib.hid hex
      clear hby hex tail
      go_enter Try.func31, Try.ntmps31
      go_wp2
      go_ret
      exact ⟨rfl, below_set HEX.out (Nat.le_refl _) _⟩
  · have hy := turnAt_of (s := s) (bit := bit) (y := bit) hb (by rw [if_neg h1])
    obtain ⟨D, hDD⟩ : ∃ D, D = turnAt s bit := ⟨_, rfl⟩
    rw [← hDD] at hy hD HT
    clear hDD
    obtain ⟨B, X, k1, k2, k3, k4⟩ := tail D hD HT
    have HEX := Lib.hid hex
    clear hby hex tail
    go_enter Try.func31, Try.ntmps31
    go_wp2
    go_ret
    exact ⟨rfl, below_set HEX.out (Nat.le_refl _) _⟩
end Go.Proofs.Ytjnnfnmapigagaa
