/- The document's sums: bit by bit. -/
import Derived.Test.YtkfabocnhkmneaaDoorBytes
import Derived.Test.YtkfabocnhkmneaaDoorMath7
namespace Go.Proofs.YtkfabocnhkmneaaDoor
open Go.RowKit

/-- the document's sum -/
def moreN (c : Nat) (l : List Nat) : Nat := byts (c ^^^ 4294967295) l ^^^ 4294967295

theorem moreN_lt {c : Nat} {l : List Nat} (hc : c < 4294967296) (hl : ∀ b ∈ l, b < 256) : moreN c l < 4294967296 := by
  have hx : c ^^^ 4294967295 < 2 ^ 32 := Nat.xor_lt_two_pow (by omega) (by omega)
  have hb := byts_lt (l := l) (c := c ^^^ 4294967295) (by omega) hl
  have : byts (c ^^^ 4294967295) l ^^^ 4294967295 < 2 ^ 32 := Nat.xor_lt_two_pow (by omega) (by omega)
  unfold moreN; omega

theorem xor_u32 (a b : Nat) (ha : a < 4294967296) (hb : b < 4294967296) : bits .xor .u32 (a : Int) (b : Int) = ((a ^^^ b : Nat) : Int) := u32_xor_nat a b ha hb

theorem take_byts (c : Nat) (l : List Nat) (k : Nat) (h : k < l.length) : byts c (l.take (k + 1)) = byt (byts c (l.take k)) (l.getD k 0) := by
  rw [List.take_succ_eq_append_getElem h, byts_append]
  simp [byts, h]

theorem shN_succ' (j c : Nat) : shN (j + 1) c = sh (shN j c) := shN_add j 1 c

theorem sh_odd (E : Nat) (hE : E < 4294967296) (h : E % 2 = 1) : bits .xor .u32 ((E : Int) / 2) 3988292384 = ((sh E : Nat) : Int) := by
  have := xor_u32 (E / 2) 3988292384 (by omega) (by decide)
  unfold sh
  rw [if_pos h, ← this]
  congr 1

theorem sh_even (E : Nat) (h : ¬ E % 2 = 1) : ((E : Int) / 2) = ((sh E : Nat) : Int) := by
  unfold sh
  rw [if_neg h, Nat.xor_zero]
  omega

set_option maxHeartbeats 400000 in
theorem refMore_any (w : World) (c : Nat) (s : ByteArray) (hc : c < 4294967296) (hs : s.size ≤ 9223372036854775807) :
    Calls Tryd.prog 26 #[.int .u32 (c : Int), .string s] w fun e w' => e = .returned (.int .u32 (moreN c (bl s) : Nat)) ∧ w = w' := by
  have hl := bl_length s
  have hx : c ^^^ 4294967295 < 4294967296 := by
    have : c ^^^ 4294967295 < 2 ^ 32 := Nat.xor_lt_two_pow (by omega) (by omega)
    omega
  have e0 : bits .xor .u32 (c : Int) 4294967295 = ((c ^^^ 4294967295 : Nat) : Int) := xor_u32 c 4294967295 hc (by decide)
  obtain ⟨X, hX⟩ : ∃ X, X = c ^^^ 4294967295 := ⟨_, rfl⟩
  rw [← hX] at hx e0
  have HX := Lib.hid hX
  have HBL : Hid (∀ b ∈ bl s, b < 256) := Lib.hid (bl_lt s)
  have HAT : Hid (∀ (k : Nat) (h : k < s.size), (s[k]'h).toNat = (bl s).getD k 0) := Lib.hid (fun k h => bl_at s h)
  clear hX
  go_enter Tryd.func26, Tryd.ntmps26
  go_wp2
  go_loop [5, 6] (fun a i => ∃ (k : Nat) (C : Nat), k ≤ s.size ∧ i = .int .i64 k ∧ a = .int .u32 (C : Int) ∧ C < 4294967296 ∧ Hid (C = byts X ((bl s).take k))) (fun _ i => s.size - (intOf i).toNat)
  case atStart => exact ⟨0, X, by omega, rfl, rfl, hx, Lib.hid (by simp [byts])⟩
  case round =>
    obtain ⟨k, C, hk, rfl, rfl, hC, HC⟩ := hrel
    by_cases hlt : k < s.size
    · have hb : ((s[k]'hlt).toNat) = (bl s).getD k 0 := HAT.out k hlt
      obtain ⟨B, hB⟩ : ∃ B, B = (bl s).getD k 0 := ⟨_, rfl⟩
      have hB2 : B < 256 := by rw [hB, ← hb]; exact (s[k]'hlt).toNat_lt
      have HB := Lib.hid hB
      rw [← hB] at hb
      clear hB
      have e1 : bits .xor .u32 (C : Int) (B : Int) = ((C ^^^ B : Nat) : Int) := xor_u32 C B hC (by omega)
      have hCB : C ^^^ B < 4294967296 := by
        have : C ^^^ B < 2 ^ 32 := Nat.xor_lt_two_pow (by omega) (by omega)
        omega
      obtain ⟨D, hD⟩ : ∃ D, D = C ^^^ B := ⟨_, rfl⟩
      rw [← hD] at e1 hCB
      have HD := Lib.hid hD
      clear hD
      go_wp2
      go_loop [5, 7] (fun a i => ∃ (j : Nat) (E : Nat), j ≤ 8 ∧ i = .int .i64 j ∧ a = .int .u32 (E : Int) ∧ E < 4294967296 ∧ Hid (E = shN j D)) (fun _ i => 8 - (intOf i).toNat)
      case atStart => exact ⟨0, D, by omega, rfl, rfl, hCB, Lib.hid rfl⟩
      case round =>
        obtain ⟨j, E, hj, rfl, rfl, hE, HE⟩ := hrel
        by_cases hj8 : j < 8
        · by_cases hodd : E % 2 = 1
          · have e3 : ((E : Int) % 2) = 1 := by omega
            have e4 := sh_odd E hE hodd
            have HO := Lib.hid hodd
            clear hodd
            go_wp2
            exact ⟨⟨j + 1, sh E, by omega, by go_num, rfl, sh_lt hE, Lib.hid (by rw [HE.out, shN_succ'])⟩, by simp [intOf]; omega⟩
          · have e3 : ((E : Int) % 2) = 0 := by omega
            have e4 := sh_even E hodd
            have HO := Lib.hid hodd
            clear hodd
            go_wp2
            exact ⟨⟨j + 1, sh E, by omega, by go_num, rfl, sh_lt hE, Lib.hid (by rw [HE.out, shN_succ'])⟩, by simp [intOf]; omega⟩
        · have hjj : j = 8 := by omega
          have HE2 : Hid (E = byts X ((bl s).take (k + 1))) := Lib.hid (by
            have hkl : k < (bl s).length := by rw [hl]; exact hlt
            rw [HE.out, hjj, HD.out, HC.out, HB.out, take_byts _ _ _ hkl]; rfl)
          go_wp2
          go_round
          case rel => exact ⟨k + 1, E, by omega, by go_num, rfl, hE, HE2⟩
          case measure => simp [intOf]; omega
    · have hkk : k = s.size := by omega
      have e5 : bits .xor .u32 (C : Int) 4294967295 = ((moreN c (bl s) : Nat) : Int) := by
        have h := xor_u32 C 4294967295 hC (by decide)
        have hm : C ^^^ 4294967295 = moreN c (bl s) := by
          unfold moreN
          rw [HC.out, HX.out, List.take_of_length_le (by rw [hl]; omega)]
        rw [hm] at h
        exact h
      go_wp2
      go_ret
      exact ⟨rfl, rfl⟩
end Go.Proofs.YtkfabocnhkmneaaDoor
