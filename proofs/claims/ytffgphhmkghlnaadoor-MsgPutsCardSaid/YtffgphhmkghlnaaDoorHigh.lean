/- Numbers as bytes: plain mathematics, and the document's answers. -/
import Derived.Test.YtffgphhmkghlnaaDoorBytes
namespace Go.Proofs.YtffgphhmkghlnaaDoor
open Go.RowKit

/-- a number's lowest bytes, so many, the highest first -/
def highN (n : Nat) : Nat → List Nat
  | 0 => []
  | m + 1 => (n / 256 ^ m % 256) :: highN n m

/-- the number that bytes are -/
def numN (l : List Nat) : Nat := l.foldl (fun n b => n * 256 + b) 0

theorem highN_length (n : Nat) : ∀ m, (highN n m).length = m
  | 0 => rfl
  | m + 1 => by rw [highN, List.length_cons, highN_length n m]

theorem highN_lt (n : Nat) : ∀ m, ∀ b ∈ highN n m, b < 256
  | 0 => fun b hb => by simp [highN] at hb
  | m + 1 => fun b hb => by
    rw [highN, List.mem_cons] at hb
    rcases hb with rfl | hb
    · exact Nat.mod_lt _ (by decide)
    · exact highN_lt n m b hb

theorem foldl_num (l : List Nat) : ∀ c, l.foldl (fun n b => n * 256 + b) c = c * 256 ^ l.length + numN l := by
  unfold numN
  induction l with
  | nil => intro c; simp
  | cons a l ih =>
    intro c
    rw [List.foldl_cons, List.foldl_cons, ih, ih (0 * 256 + a), List.length_cons, Nat.pow_succ, Nat.add_mul, Nat.add_assoc]
    congr 1
    · rw [Nat.mul_assoc, Nat.mul_comm 256]
    · simp

theorem numN_cons (a : Nat) (l : List Nat) : numN (a :: l) = a * 256 ^ l.length + numN l := by
  have := foldl_num l a
  rw [← this]
  simp [numN]

theorem numN_snoc (l : List Nat) (b : Nat) : numN (l ++ [b]) = numN l * 256 + b := by
  unfold numN
  rw [List.foldl_append]
  rfl

theorem numN_lt : ∀ {l : List Nat}, (∀ b ∈ l, b < 256) → numN l < 256 ^ l.length
  | [], _ => by simp [numN]
  | a :: l, h => by
    have h1 := numN_lt (l := l) (fun b hb => h b (List.mem_cons_of_mem _ hb))
    have h2 : a < 256 := h a (List.mem_cons_self ..)
    rw [numN_cons, List.length_cons, Nat.pow_succ]
    have : a * 256 ^ l.length + 256 ^ l.length ≤ 256 * 256 ^ l.length := by
      rw [← Nat.succ_mul]
      exact Nat.mul_le_mul_right _ h2
    rw [Nat.mul_comm (256 ^ l.length)]
    omega

theorem numN_highN (n : Nat) : ∀ m, numN (highN n m) = n % 256 ^ m
  | 0 => by rw [highN, Nat.pow_zero, Nat.mod_one]; rfl
  | m + 1 => by
    rw [highN, numN_cons, highN_length, numN_highN n m, Nat.pow_succ, Nat.mod_mul, Nat.mul_comm, Nat.add_comm]

theorem highN_numN : ∀ {l : List Nat}, (∀ b ∈ l, b < 256) → highN (numN l) l.length = l := by
  have key : ∀ (c : Nat) (m : Nat) (r : Nat), highN (c * 256 ^ m + r) m = highN r m := by
    intro c m
    have : ∀ k, ∀ r, k ≤ m → highN (c * 256 ^ m + r) k = highN r k := by
      intro k
      induction k with
      | zero => intros; rfl
      | succ k ih =>
        intro r hk
        rw [highN, highN, ih r (by omega)]
        congr 1
        obtain ⟨d, rfl⟩ : ∃ d, m = k + 1 + d := ⟨m - (k + 1), by omega⟩
        have e : c * 256 ^ (k + 1 + d) + r = r + 256 ^ k * (256 * (c * 256 ^ d)) := by
          rw [Nat.pow_add, Nat.pow_succ]
          rw [Nat.add_comm]
          congr 1
          simp only [Nat.mul_comm, Nat.mul_left_comm, Nat.mul_assoc]
        rw [e, Nat.add_mul_div_left _ _ (Nat.pow_pos (by decide)), Nat.add_mul_mod_self_left]
    intro r
    exact this m r (Nat.le_refl _)
  intro l
  induction l with
  | nil => intros; rfl
  | cons a l ih =>
    intro h
    have h1 : numN l < 256 ^ l.length := numN_lt (fun b hb => h b (List.mem_cons_of_mem _ hb))
    have h2 : a < 256 := h a (List.mem_cons_self ..)
    rw [List.length_cons, highN, numN_cons, key, ih (fun b hb => h b (List.mem_cons_of_mem _ hb))]
    congr 1
    rw [Nat.add_comm, Nat.add_mul_div_right _ _ (Nat.pow_pos (by decide)), Nat.div_eq_of_lt h1, Nat.zero_add, Nat.mod_eq_of_lt h2]

theorem highN_inj {n m k : Nat} (hn : n < 256 ^ k) (hm : m < 256 ^ k) (h : highN n k = highN m k) : n = m := by
  have := congrArg numN h
  rwa [numN_highN, numN_highN, Nat.mod_eq_of_lt hn, Nat.mod_eq_of_lt hm] at this

set_option maxHeartbeats 400000 in
theorem refHigh_any (w : World) (n m : Nat) (hn : n < 18446744073709551616) (hm : m ≤ 8) :
    Calls Tryd.prog 23 #[.int .u64 (n : Int), .int .i64 (m : Int)] w fun e w' => e = .returned (.string (textN (highN n m))) ∧ Ext w w' := by
  have HCV := text_one
  go_enter Tryd.func23, Tryd.ntmps23
  go_wp2
  go_loopw [0, 5, 6] (fun a o i wr => ∃ (k E : Nat), k ≤ m ∧ a = .int .u64 (E : Int) ∧ E < 18446744073709551616 ∧ o = .string (textN (highN n k)) ∧ i = .int .i64 k ∧ Hid (E = n / 256 ^ k) ∧ Hid (Ext w wr)) (fun _ _ i _ => m - (intOf i).toNat)
  case atStart => exact ⟨0, n, by omega, rfl, hn, rfl, rfl, Lib.hid (by simp), Lib.hid (Ext.refl _)⟩
  case round =>
    obtain ⟨k, E, hk, rfl, hE, rfl, rfl, HE, HX⟩ := hrel
    by_cases hlt : k < m
    · have e1 : (⟨#[UInt8.ofNat (E % 256)]⟩ : ByteArray) ++ textN (highN n k) = textN (highN n (k + 1)) := by
        rw [HE.out]
        exact textN_append [n / 256 ^ k % 256] (highN n k)
      have e2 : E / 256 = n / 256 ^ (k + 1) := by rw [HE.out, Nat.div_div_eq_div_mul, Nat.pow_succ]
      have e3 : ¬ 9223372036854775807 < 1 + (textN (highN n k)).size := by rw [textN_size, highN_length]; omega
      go_wp2
      exact ⟨⟨k + 1, E / 256, by omega, by go_num, by omega, rfl, by go_num, Lib.hid e2, Lib.hid (Ext.alloc HX.out _)⟩, by simp [intOf]; omega⟩
    · have hkm : k = m := by omega
      subst hkm
      have hX := HX.out
      go_wp2
      go_ret
      exact ⟨rfl, hX⟩

theorem numN_take (l : List Nat) (k : Nat) (h : k < l.length) : numN (l.take (k + 1)) = numN (l.take k) * 256 + l.getD k 0 := by
  rw [List.take_succ_eq_append_getElem h, numN_snoc]
  simp [List.getD, h]

theorem numN_take_lt {l : List Nat} (hl : ∀ b ∈ l, b < 256) (h8 : l.length ≤ 8) (k : Nat) : numN (l.take k) < 18446744073709551616 := by
  have h1 := numN_lt (l := l.take k) (fun b hb => hl b (List.mem_of_mem_take hb))
  have h2 : (l.take k).length ≤ 8 := by rw [List.length_take]; omega
  have h3 : 256 ^ (l.take k).length ≤ 256 ^ 8 := Nat.pow_le_pow_right (by decide) h2
  have h4 : (256 : Nat) ^ 8 = 18446744073709551616 := by decide
  omega

set_option maxHeartbeats 400000 in
theorem refNumber_any (w : World) (s : ByteArray) (hs : s.size ≤ 8) :
    Calls Tryd.prog 25 #[.string s] w fun e w' => e = .returned (.int .u64 (numN (bl s) : Nat)) ∧ w = w' := by
  have hl := bl_length s
  have HLT : Hid (∀ k, numN ((bl s).take k) < 18446744073709551616) := Lib.hid (numN_take_lt (bl_lt s) (by rw [hl]; exact hs))
  have HAT : Hid (∀ (k : Nat) (h : k < s.size), (s[k]'h).toNat = (bl s).getD k 0) := Lib.hid (fun k h => bl_at s h)
  go_enter Tryd.func25, Tryd.ntmps25
  go_wp2
  go_loop [3, 4] (fun a i => ∃ (k E : Nat), k ≤ s.size ∧ i = .int .i64 k ∧ a = .int .u64 (E : Int) ∧ Hid (E = numN ((bl s).take k))) (fun _ i => s.size - (intOf i).toNat)
  case atStart => exact ⟨0, 0, by omega, rfl, rfl, Lib.hid (by simp [numN])⟩
  case round =>
    obtain ⟨k, E, hk, rfl, rfl, HE⟩ := hrel
    by_cases hlt : k < s.size
    · have hb : ((s[k]'hlt).toNat) = (bl s).getD k 0 := HAT.out k hlt
      obtain ⟨B, hB⟩ : ∃ B, B = (bl s).getD k 0 := ⟨_, rfl⟩
      have hE2 : E * 256 + B < 18446744073709551616 := by
        have := HLT.out (k + 1)
        rw [numN_take _ _ (by rw [hl]; exact hlt), ← hB, ← HE.out] at this
        exact this
      have HB := Lib.hid hB
      rw [← hB] at hb
      clear hB
      have hE1 : E * 256 < 18446744073709551616 := Nat.lt_of_le_of_lt (Nat.le_add_right _ _) hE2
      go_wp2
      exact ⟨⟨k + 1, E * 256 + B, by omega, (by rw [Int.natCast_add]; rfl), (by rw [Int.natCast_add, Int.natCast_mul]; rfl), Lib.hid (by
        rw [numN_take _ _ (by rw [hl]; exact hlt), ← HE.out, ← HB.out])⟩, by simp [intOf]; omega⟩
    · have hkk : k = s.size := by omega
      have e5 := Lib.hid (show E = numN (bl s) by rw [HE.out, List.take_of_length_le (by rw [hl]; omega)])
      go_wp2
      go_ret
      exact ⟨by rw [← e5.out]; rfl, rfl⟩
end Go.Proofs.YtffgphhmkghlnaaDoor
