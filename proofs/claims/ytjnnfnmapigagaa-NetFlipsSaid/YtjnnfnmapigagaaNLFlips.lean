/- NetFlips: a bit that is turned is one bit, and turned again all is as it was. -/
import Derived.Test.YtjnnfnmapigagaaNT
namespace Go.Proofs.Ytjnnfnmapigagaa
open Go.RowKit

theorem flips_long (w : World) (b c : ByteArray) (bit : Int) (h : ¬ (b.size ≤ 40 ∧ c.size ≤ 40)) :
    Calls Try.prog 6 #[.string b, .string c, .int .i64 bit] w (GivesB w (.bool true)) := by
  by_cases hb : b.size ≤ 40
  all_goals
    first
    | (have hb2 : ¬ (40 : Int) < (b.size : Int) := by omega
       have hc2 : (40 : Int) < (c.size : Int) := by omega)
    | (have hb2 : (40 : Int) < (b.size : Int) := by omega)
    clear h hb
    go_enter Try.func6, Try.ntmps6
    go_wp2_with fail
    refine (pNew w 3 5).mono ?_
    rintro e w0 ⟨p, F0, rfl, n0, hf0, x0⟩
    go_wp2_with fail
    refine (awake_any w0).mono ?_
    rintro e w1 ⟨rfl, x1⟩
    have X1 := Lib.hid (Ext.trans x0 x1)
    clear n0 hf0 x0 x1
    go_wp2_with (first
      | (go_at_call 10; refine (awake_any w1).mono ?_; rintro e w2 ⟨rfl, x2⟩; have X2 := Lib.hid (Ext.trans X1.out x2); clear x2))
    go_ret
    exact ⟨rfl, X2.out⟩

def S2 (c b : ByteArray) : NetS := one 3 5 2 1 [c, b]

set_option maxHeartbeats 1600000 in
theorem flips_some (w : World) (b c : ByteArray) (bit : Int) (hb : b.size ≤ 40) (hc : c.size ≤ 40) (hbit : -9223372036854775808 ≤ bit) (hbit2 : bit ≤ 9223372036854775807) (h0 : 0 < b.size) :
    Calls Try.prog 6 #[.string b, .string c, .int .i64 bit] w (GivesB w (.bool true)) := by
  have hb2 : ¬ (40 : Int) < (b.size : Int) := by omega
  have hc2 : ¬ (40 : Int) < (c.size : Int) := by omega
  have hh : (0 : Int) ≤ 2 ∧ (2 : Int) < (3 : Nat) ∧ (0 : Int) ≤ 1 ∧ (1 : Int) < (3 : Nat) ∧ (2 : Int) ≠ 1 := by decide
  have m1 := one_may 3 5 2 1 [] hh (by decide)
  have s1 := one_send 3 5 2 1 [] c hh (by decide)
  have m2 := one_may 3 5 2 1 [c] hh (show (1 : Nat) < 5 by decide)
  have s2 := one_send 3 5 2 1 [c] b hh (show (1 : Nat) < 5 by decide)
  have look1 : ∀ u, (one 3 5 2 1 [c, u]).look 2 1 1 = u := fun u => one_look 3 5 2 1 1 [c, u] (show (1 : Nat) < 2 by decide)
  have look0 : ∀ u, (one 3 5 2 1 [c, u]).look 2 1 0 = c := fun u => one_look 3 5 2 1 0 [c, u] (show (0 : Nat) < 2 by decide)
  have th1 : ∀ u, (one 3 5 2 1 [c, u]).there 2 1 1 = true := fun u => by rw [one_there]; rfl
  have th0 : ∀ u, (one 3 5 2 1 [c, u]).there 2 1 0 = true := fun u => by rw [one_there]; rfl
  have can : ∀ u : ByteArray, 0 < u.size → (one 3 5 2 1 [c, u]).canF 2 1 1 = true := fun u hu => canF_iff.2 ⟨th1 u, by rw [look1]; omega⟩
  have fl : ∀ u : ByteArray, 0 < u.size → (one 3 5 2 1 [c, u]).flip 2 1 1 bit = one 3 5 2 1 [c, turned u bit] := fun u hu => by
    unfold NetS.flip
    rw [if_pos (can u hu), one_row, one_put, look1]
    rfl
  have ht := turned_twice b bit
  have hts := turned_size b bit
  have htb := turned_bit b bit
  have hD := turnAt_lt (bit := bit) h0
  obtain ⟨U, hU⟩ : ∃ U, U = turned b bit := ⟨_, rfl⟩
  have fl1 := fl b h0
  have fl2 := fl U (by rw [hU, hts]; exact h0)
  have can1 := can b h0
  have can2 := can U (by rw [hU, hts]; exact h0)
  rw [← hU] at fl1 ht hts htb
  rw [ht] at fl2
  have LU := look1 U
  have LB := look1 b
  have LC := look0 b
  have TU := th1 U
  have TB := th1 b
  have TC := th0 b
  have HS1 : Hid (∀ w p F, NAt w p (one 3 5 2 1 []) F → Calls Try.prog 24 #[.pointer (some ⟨p, 0, none⟩), .int .i64 2, .int .i64 1, .string c] w (Moves p (one 3 5 2 1 [c]) F (.bool true) w)) := Lib.hid (fun w p F n => by have := pSend n 2 1 c (by omega); rw [m1, s1] at this; exact this)
  have HS2 : Hid (∀ w p F, NAt w p (one 3 5 2 1 [c]) F → Calls Try.prog 24 #[.pointer (some ⟨p, 0, none⟩), .int .i64 2, .int .i64 1, .string b] w (Moves p (one 3 5 2 1 [c, b]) F (.bool true) w)) := Lib.hid (fun w p F n => by have := pSend n 2 1 b (by omega); rw [m2, s2] at this; exact this)
  have HF1 : Hid (∀ w p F, NAt w p (one 3 5 2 1 [c, b]) F → Calls Try.prog 25 #[.pointer (some ⟨p, 0, none⟩), .int .i64 2, .int .i64 1, .int .i64 1, .int .i64 bit] w (Moves p (one 3 5 2 1 [c, U]) F (.bool true) w)) := Lib.hid (fun w p F n => by have := pFlip n 2 1 1 bit hbit hbit2; rw [fl1, can1] at this; exact this)
  have HF2 : Hid (∀ w p F, NAt w p (one 3 5 2 1 [c, U]) F → Calls Try.prog 25 #[.pointer (some ⟨p, 0, none⟩), .int .i64 2, .int .i64 1, .int .i64 1, .int .i64 bit] w (Moves p (one 3 5 2 1 [c, b]) F (.bool true) w)) := Lib.hid (fun w p F n => by have := pFlip n 2 1 1 bit hbit hbit2; rw [fl2, can2] at this; exact this)
  have HL1 : Hid (∀ w p F, NAt w p (one 3 5 2 1 [c, U]) F → Calls Try.prog 22 #[.pointer (some ⟨p, 0, none⟩), .int .i64 2, .int .i64 1, .int .i64 1] w (Moves p (one 3 5 2 1 [c, U]) F (.tuple #[.string U, .bool true]) w)) := Lib.hid (fun w p F n => by have := pLook n 2 1 1; rw [LU, TU] at this; exact this)
  have HL2 : Hid (∀ w p F, NAt w p (one 3 5 2 1 [c, b]) F → Calls Try.prog 22 #[.pointer (some ⟨p, 0, none⟩), .int .i64 2, .int .i64 1, .int .i64 1] w (Moves p (one 3 5 2 1 [c, b]) F (.tuple #[.string b, .bool true]) w)) := Lib.hid (fun w p F n => by have := pLook n 2 1 1; rw [LB, TB] at this; exact this)
  have HL3 : Hid (∀ w p F, NAt w p (one 3 5 2 1 [c, b]) F → Calls Try.prog 22 #[.pointer (some ⟨p, 0, none⟩), .int .i64 2, .int .i64 1, .int .i64 0] w (Moves p (one 3 5 2 1 [c, b]) F (.tuple #[.string c, .bool true]) w)) := Lib.hid (fun w p F n => by have := pLook n 2 1 0; rw [LC, TC] at this; exact this)
  have HC1 : Hid (∀ w p F, NAt w p (one 3 5 2 1 [c, b]) F → Calls Try.prog 19 #[.pointer (some ⟨p, 0, none⟩), .int .i64 2, .int .i64 1] w (Moves p (one 3 5 2 1 [c, b]) F (.int .i64 2) w)) := Lib.hid (fun w p F n => by have := pCount n 2 1; rw [one_row] at this; exact this)
  have HTB := Lib.hid htb
  have HAU : Hid (∀ (k : Nat) (h : k < U.size), (U[k]'h).toNat = (bl U).getD k 0) := Lib.hid (fun k h => bl_at U h)
  have HAB : Hid (∀ (k : Nat) (h : k < b.size), (b[k]'h).toNat = (bl b).getD k 0) := Lib.hid (fun k h => bl_at b h)
  obtain ⟨D, hDD⟩ : ∃ D, D = turnAt b bit := ⟨_, rfl⟩
  rw [← hDD] at HTB hD
  have HTS := Lib.hid hts
  clear m1 s1 m2 s2 look1 look0 th1 th0 can fl ht hU fl1 fl2 can1 can2 LU LB LC TU TB TC htb hDD hh
  obtain ⟨M, hM⟩ : ∃ M, M = U.size := ⟨_, rfl⟩
  have hMb : M = b.size := by rw [hM, HTS.out]
  go_enter Try.func6, Try.ntmps6
  go_wp2_with fail
  refine (pNew w 3 5).mono ?_
  rintro e w0 ⟨p, F0, rfl, n0, hf0, x0⟩
  have N0 : Hid (Net1 w w0 p (one 3 5 2 1 []) F0) := Lib.hid ⟨by rw [← one_new 3 5 3 5 2 1 rfl rfl]; exact n0, hf0, x0⟩
  clear n0 hf0 x0
  go_wp2_with fail
  refine (awake_any w0).mono ?_
  rintro e w1 ⟨rfl, x1⟩
  have N1 := Lib.hid (N0.out.ext x1)
  clear x1 N0
  go_wp2_with fail
  refine (HS1.out _ _ _ N1.out.1).mono ?_
  rintro e w2 ⟨F2, rfl, n, o, g⟩
  have N2 := Lib.hid (N1.out.step n o g)
  clear n o g N1
  go_wp2_with fail
  refine (HS2.out _ _ _ N2.out.1).mono ?_
  rintro e w3 ⟨F3, rfl, n, o, g⟩
  have N3 := Lib.hid (N2.out.step n o g)
  clear n o g N2
  go_wp2_with fail
  refine (HF1.out _ _ _ N3.out.1).mono ?_
  rintro e w4 ⟨F4, rfl, n, o, g⟩
  have N4 := Lib.hid (N3.out.step n o g)
  clear n o g N3
  go_wp2_with fail
  refine (HL1.out _ _ _ N4.out.1).mono ?_
  rintro e w5 ⟨F5, rfl, n, o, g⟩
  have N5 := Lib.hid (N4.out.step n o g)
  clear n o g N4
  go_wp2_with fail
  refine (HF2.out _ _ _ N5.out.1).mono ?_
  rintro e w6 ⟨F6, rfl, n, o, g⟩
  have N6 := Lib.hid (N5.out.step n o g)
  clear n o g N5
  go_wp2_with fail
  refine (HL2.out _ _ _ N6.out.1).mono ?_
  rintro e w7 ⟨F7, rfl, n, o, g⟩
  have N7 := Lib.hid (N6.out.step n o g)
  clear n o g N6
  go_wp2_with fail
  refine (HL3.out _ _ _ N7.out.1).mono ?_
  rintro e w8 ⟨F8, rfl, n, o, g⟩
  have N8 := Lib.hid (N7.out.step n o g)
  clear n o g N7
  go_wp2
  go_loopw [16, 17] (fun bt i wr => ∃ k : Nat, k ≤ b.size ∧ i = .int .i64 (k : Int) ∧ (∃ t : Int, bt = .int .i64 t ∧ Hid (t = if D / 8 < k then 1 else 0)) ∧ Hid (Ext w8 wr)) (fun _ i _ => b.size - (intOf i).toNat)
  case atStart => exact ⟨0, Nat.zero_le _, rfl, ⟨0, rfl, Lib.hid (by rw [if_neg (by omega)])⟩, Lib.hid (Ext.refl _)⟩
  case round =>
    obtain ⟨i, hi, rfl, ⟨t, rfl, HT⟩, HX⟩ := hrel
    by_cases hlt : i < b.size
    · have hltU : i < U.size := by rw [hts]; exact hlt
      have hu := HAU.out i hltU
      have hv := HAB.out i hlt
      obtain ⟨X, hX⟩ : ∃ X, X = (bl U).getD i 0 := ⟨_, rfl⟩
      obtain ⟨Y, hY⟩ : ∃ Y, Y = (bl b).getD i 0 := ⟨_, rfl⟩
      rw [← hX] at hu
      rw [← hY] at hv
      have hX2 : X < 256 := by rw [hX]; exact getD_bl_lt U i
      have hY2 : Y < 256 := by rw [hY]; exact getD_bl_lt b i
      have HB : Hid (∀ k, X / 2 ^ k % 2 = Y / 2 ^ k % 2 ↔ ¬ (i = D / 8 ∧ k = D % 8)) := Lib.hid (fun k => by rw [hX, hY]; exact HTB.out i k hlt)
      clear hX hY
      have hil : (i : Int) < (b.size : Int) := by omega
      go_wp2
      go_loopw [16, 18] (fun bt kk wi => ∃ k : Nat, k ≤ 8 ∧ kk = .int .i64 (k : Int) ∧ (∃ t : Int, bt = .int .i64 t ∧ Hid (t = (if D / 8 < i then 1 else 0) + if i = D / 8 ∧ D % 8 < k then 1 else 0)) ∧ Hid (Ext w8 wi)) (fun _ kk _ => 8 - (intOf kk).toNat)
      case atStart => exact ⟨0, by omega, rfl, ⟨t, rfl, Lib.hid (by rw [HT.out, if_neg (show ¬ (i = D / 8 ∧ D % 8 < 0) by omega)]; omega)⟩, HX⟩
      case round =>
        obtain ⟨k, hk, rfl, ⟨t2, rfl, HT2⟩, HX2⟩ := hrel
        by_cases hlt2 : k < 8
        · have ea : bits .and .u8 ((X : Int) / 2 ^ k) 1 = ((X / 2 ^ k % 2 : Nat) : Int) := by
            have := and_one_u8 (X / 2 ^ k) (Nat.lt_of_le_of_lt (Nat.div_le_self _ _) hX2)
            rw [Int.natCast_ediv, Int.natCast_pow] at this
            exact this
          have eb : bits .and .u8 ((Y : Int) / 2 ^ k) 1 = ((Y / 2 ^ k % 2 : Nat) : Int) := by
            have := and_one_u8 (Y / 2 ^ k) (Nat.lt_of_le_of_lt (Nat.div_le_self _ _) hY2)
            rw [Int.natCast_ediv, Int.natCast_pow] at this
            exact this
          have hab := HB.out k
          obtain ⟨A, hA⟩ : ∃ A, A = X / 2 ^ k % 2 := ⟨_, rfl⟩
          obtain ⟨B, hB⟩ : ∃ B, B = Y / 2 ^ k % 2 := ⟨_, rfl⟩
          rw [← hA] at ea hab
          rw [← hB] at eb hab
          have HAB2 := Lib.hid hab
          clear hA hB hab
          have hk8 : (k : Int) < 8 := by omega
          by_cases hn : A = B
          · have e3 : ((A : Int) != (B : Int)) = false := by simp [hn]
            have HT3 : Hid (t2 = (if D / 8 < i then 1 else 0) + if i = D / 8 ∧ D % 8 < k + 1 then 1 else 0) := Lib.hid (by
              have h1 := HAB2.out.1 hn
              rw [HT2.out]
              congr 1
              by_cases h2 : i = D / 8 ∧ D % 8 < k
              · rw [if_pos h2, if_pos (by omega)]
              · rw [if_neg h2, if_neg (by omega)])
            replace hn := Lib.hid hn
            go_wp2
            go_quiet (fail)
            go_wp2
            exact ⟨⟨k + 1, hlt2, by go_num, ⟨t2, rfl, HT3⟩, Lib.hid (HX2.out.drewN _)⟩, by simp [intOf]; omega⟩
          · have e3 : ((A : Int) != (B : Int)) = true := by simp; omega
            have ht2 : 0 ≤ t2 ∧ t2 ≤ 2 := by rw [HT2.out]; constructor <;> (split <;> split <;> omega)
            have HT3 : Hid (t2 + 1 = (if D / 8 < i then 1 else 0) + if i = D / 8 ∧ D % 8 < k + 1 then 1 else 0) := Lib.hid (by
              have h1 : i = D / 8 ∧ k = D % 8 := by
                rcases Classical.em (i = D / 8 ∧ k = D % 8) with h | h
                · exact h
                · exact absurd (HAB2.out.2 h) hn
              rw [HT2.out, if_neg (show ¬ (i = D / 8 ∧ D % 8 < k) by omega), if_pos (show i = D / 8 ∧ D % 8 < k + 1 by omega)]
              omega)
            replace hn := Lib.hid hn
            go_wp2
            go_quiet (fail)
            go_wp2
            exact ⟨⟨k + 1, hlt2, by go_num, ⟨t2 + 1, rfl, HT3⟩, Lib.hid (HX2.out.drewN _)⟩, by simp [intOf]; omega⟩
        · have hk8 : k = 8 := by omega
          have HT3 : Hid (t2 = if D / 8 < i + 1 then 1 else 0) := Lib.hid (by
            rw [HT2.out, hk8]
            split <;> split <;> split <;> omega)
          have hk9 : ¬ (k : Int) < 8 := by omega
          clear hk8
          go_wp2
          exact ⟨⟨i + 1, hlt, by go_num, ⟨t2, rfl, HT3⟩, HX2⟩, by simp [intOf]; omega⟩
    · have hii : i = b.size := by omega
      have ht1 : t = 1 := by rw [HT.out, if_pos (show D / 8 < i by omega)]
      subst ht1
      have N9 := Lib.hid (N8.out.ext HX.out)
      have hlt3 : ¬ (i : Int) < (b.size : Int) := by omega
      have hem : b.toList.isEmpty = false := by rw [empty_size, decide_eq_false (show ¬ b.size = 0 by omega)]
      clear hii HT
      go_wp2_with (first
        | (go_at_call 19; refine (HC1.out _ _ _ N9.out.1).mono ?_; rintro e w9 ⟨F9, rfl, n, o, g⟩; have N10 := Lib.hid (N9.out.step n o g); clear n o g))
      go_ret
      exact ⟨rfl, N10.out.2.2⟩

set_option maxHeartbeats 1600000 in
theorem flips_none (w : World) (c : ByteArray) (bit : Int) (hc : c.size ≤ 40) (hbit : -9223372036854775808 ≤ bit) (hbit2 : bit ≤ 9223372036854775807) :
    Calls Try.prog 6 #[.string ⟨#[]⟩, .string c, .int .i64 bit] w (GivesB w (.bool true)) := by
  have hc2 : ¬ (40 : Int) < (c.size : Int) := by omega
  have hh : (0 : Int) ≤ 2 ∧ (2 : Int) < (3 : Nat) ∧ (0 : Int) ≤ 1 ∧ (1 : Int) < (3 : Nat) ∧ (2 : Int) ≠ 1 := by decide
  obtain ⟨b, hb⟩ : ∃ b : ByteArray, b = ⟨#[]⟩ := ⟨_, rfl⟩
  have hbz : b.size = 0 := by rw [hb]; rfl
  have m1 := one_may 3 5 2 1 [] hh (by decide)
  have s1 := one_send 3 5 2 1 [] c hh (by decide)
  have m2 := one_may 3 5 2 1 [c] hh (show (1 : Nat) < 5 by decide)
  have s2 := one_send 3 5 2 1 [c] b hh (show (1 : Nat) < 5 by decide)
  have look1 : (one 3 5 2 1 [c, b]).look 2 1 1 = b := one_look 3 5 2 1 1 [c, b] (show (1 : Nat) < 2 by decide)
  have look0 : (one 3 5 2 1 [c, b]).look 2 1 0 = c := one_look 3 5 2 1 0 [c, b] (show (0 : Nat) < 2 by decide)
  have th1 : (one 3 5 2 1 [c, b]).there 2 1 1 = true := by rw [one_there]; rfl
  have th0 : (one 3 5 2 1 [c, b]).there 2 1 0 = true := by rw [one_there]; rfl
  have can : (one 3 5 2 1 [c, b]).canF 2 1 1 = false := by
    rcases Bool.eq_false_or_eq_true ((one 3 5 2 1 [c, b]).canF 2 1 1) with h | h
    · have := (canF_iff.1 h).2
      rw [look1] at this
      exact absurd hbz this
    · exact h
  have fl : (one 3 5 2 1 [c, b]).flip 2 1 1 bit = one 3 5 2 1 [c, b] := by
    unfold NetS.flip
    rw [if_neg (by rw [can]; decide)]
  rw [← hb]
  have HS1 : Hid (∀ w p F, NAt w p (one 3 5 2 1 []) F → Calls Try.prog 24 #[.pointer (some ⟨p, 0, none⟩), .int .i64 2, .int .i64 1, .string c] w (Moves p (one 3 5 2 1 [c]) F (.bool true) w)) := Lib.hid (fun w p F n => by have := pSend n 2 1 c (by omega); rw [m1, s1] at this; exact this)
  have HS2 : Hid (∀ w p F, NAt w p (one 3 5 2 1 [c]) F → Calls Try.prog 24 #[.pointer (some ⟨p, 0, none⟩), .int .i64 2, .int .i64 1, .string b] w (Moves p (one 3 5 2 1 [c, b]) F (.bool true) w)) := Lib.hid (fun w p F n => by have := pSend n 2 1 b (by omega); rw [m2, s2] at this; exact this)
  have HF1 : Hid (∀ w p F, NAt w p (one 3 5 2 1 [c, b]) F → Calls Try.prog 25 #[.pointer (some ⟨p, 0, none⟩), .int .i64 2, .int .i64 1, .int .i64 1, .int .i64 bit] w (Moves p (one 3 5 2 1 [c, b]) F (.bool false) w)) := Lib.hid (fun w p F n => by have := pFlip n 2 1 1 bit hbit hbit2; rw [fl, can] at this; exact this)
  have HL1 : Hid (∀ w p F, NAt w p (one 3 5 2 1 [c, b]) F → Calls Try.prog 22 #[.pointer (some ⟨p, 0, none⟩), .int .i64 2, .int .i64 1, .int .i64 1] w (Moves p (one 3 5 2 1 [c, b]) F (.tuple #[.string b, .bool true]) w)) := Lib.hid (fun w p F n => by have := pLook n 2 1 1; rw [look1, th1] at this; exact this)
  have HL3 : Hid (∀ w p F, NAt w p (one 3 5 2 1 [c, b]) F → Calls Try.prog 22 #[.pointer (some ⟨p, 0, none⟩), .int .i64 2, .int .i64 1, .int .i64 0] w (Moves p (one 3 5 2 1 [c, b]) F (.tuple #[.string c, .bool true]) w)) := Lib.hid (fun w p F n => by have := pLook n 2 1 0; rw [look0, th0] at this; exact this)
  have HC1 : Hid (∀ w p F, NAt w p (one 3 5 2 1 [c, b]) F → Calls Try.prog 19 #[.pointer (some ⟨p, 0, none⟩), .int .i64 2, .int .i64 1] w (Moves p (one 3 5 2 1 [c, b]) F (.int .i64 2) w)) := Lib.hid (fun w p F n => by have := pCount n 2 1; rw [one_row] at this; exact this)
  clear m1 s1 m2 s2 look1 look0 th1 th0 can fl hh
  have hem : b.toList.isEmpty = true := by rw [empty_size, decide_eq_true hbz]
  have hb40 : ¬ (40 : Int) < (b.size : Int) := by omega
  have hb0 : ¬ (0 : Int) < (b.size : Int) := by omega
  clear hb
  replace hbz := Lib.hid hbz
  go_enter Try.func6, Try.ntmps6
  go_wp2_with fail
  refine (pNew w 3 5).mono ?_
  rintro e w0 ⟨p, F0, rfl, n0, hf0, x0⟩
  have N0 : Hid (Net1 w w0 p (one 3 5 2 1 []) F0) := Lib.hid ⟨by rw [← one_new 3 5 3 5 2 1 rfl rfl]; exact n0, hf0, x0⟩
  clear n0 hf0 x0
  go_wp2_with fail
  refine (awake_any w0).mono ?_
  rintro e w1 ⟨rfl, x1⟩
  have N1 := Lib.hid (N0.out.ext x1)
  clear x1 N0
  go_wp2_with fail
  refine (HS1.out _ _ _ N1.out.1).mono ?_
  rintro e w2 ⟨F2, rfl, n, o, g⟩
  have N2 := Lib.hid (N1.out.step n o g)
  clear n o g N1
  go_wp2_with fail
  refine (HS2.out _ _ _ N2.out.1).mono ?_
  rintro e w3 ⟨F3, rfl, n, o, g⟩
  have N3 := Lib.hid (N2.out.step n o g)
  clear n o g N2
  go_wp2_with fail
  refine (HF1.out _ _ _ N3.out.1).mono ?_
  rintro e w4 ⟨F4, rfl, n, o, g⟩
  have N4 := Lib.hid (N3.out.step n o g)
  clear n o g N3
  go_wp2_with fail
  refine (HL1.out _ _ _ N4.out.1).mono ?_
  rintro e w5 ⟨F5, rfl, n, o, g⟩
  have N5 := Lib.hid (N4.out.step n o g)
  clear n o g N4
  go_wp2_with fail
  refine (HF1.out _ _ _ N5.out.1).mono ?_
  rintro e w6 ⟨F6, rfl, n, o, g⟩
  have N6 := Lib.hid (N5.out.step n o g)
  clear n o g N5
  go_wp2_with fail
  refine (HL1.out _ _ _ N6.out.1).mono ?_
  rintro e w7 ⟨F7, rfl, n, o, g⟩
  have N7 := Lib.hid (N6.out.step n o g)
  clear n o g N6
  go_wp2_with fail
  refine (HL3.out _ _ _ N7.out.1).mono ?_
  rintro e w8 ⟨F8, rfl, n, o, g⟩
  have N8 := Lib.hid (N7.out.step n o g)
  clear n o g N7
  go_wp2
  refine wp_loop_rounds 1 ?_
  rw [rounds_succ]
  go_wp2_with (first
    | (go_at_call 19; refine (HC1.out _ _ _ N8.out.1).mono ?_; rintro e w9 ⟨F9, rfl, n, o, g⟩; have N10 := Lib.hid (N8.out.step n o g); clear n o g))
  go_ret
  exact ⟨rfl, N10.out.2.2⟩
end Go.Proofs.Ytjnnfnmapigagaa
