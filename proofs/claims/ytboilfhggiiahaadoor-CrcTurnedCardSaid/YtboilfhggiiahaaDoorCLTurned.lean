/- CrcTurned: walked. -/
import Derived.Test.YtboilfhggiiahaaDoorCLMixes
namespace Go.Proofs.YtboilfhggiiahaaDoor
open Go.RowKit

/-- the bytes, k of them turned -/
def tb (l : List Nat) (p y : Nat) : Nat → List Nat
  | 0 => l
  | k + 1 => (tb l p y k).set (p + k) ((tb l p y k).getD (p + k) 0 ^^^ y / 256 ^ k % 256)

theorem tb_length (l : List Nat) (p y : Nat) : ∀ k, (tb l p y k).length = l.length
  | 0 => rfl
  | k + 1 => by rw [tb, List.length_set, tb_length l p y k]

theorem tb_lt {l : List Nat} (hl : ∀ b ∈ l, b < 256) (p y : Nat) : ∀ k, ∀ b ∈ tb l p y k, b < 256
  | 0 => hl
  | k + 1 => fun b hb => by
    rcases List.mem_or_eq_of_mem_set hb with h | rfl
    · exact tb_lt hl p y k b h
    · have h1 : (tb l p y k).getD (p + k) 0 < 256 := getD_lt (tb_lt hl p y k) _
      have : (tb l p y k).getD (p + k) 0 ^^^ y / 256 ^ k % 256 < 2 ^ 8 := Nat.xor_lt_two_pow (by omega) (by have := Nat.mod_lt (y / 256 ^ k) (show 0 < 256 by decide); omega)
      omega

theorem tb_four (u m : List Nat) (a b d e y : Nat) : tb (u ++ [a, b, d, e] ++ m) u.length y 4 = u ++ [a ^^^ y % 256, b ^^^ y / 256 % 256, d ^^^ y / 65536 % 256, e ^^^ y / 16777216 % 256] ++ m := by
  simp [tb, List.getD]

theorem tb_other {l : List Nat} (hl : ∀ b ∈ l, b < 256) (p y : Nat) (hp : p + 4 ≤ l.length) (hy : y < 4294967296) (h0 : y ≠ 0) : moreN 0 (tb l p y 4) ≠ moreN 0 l := by
  obtain ⟨u, m, a, b, d, e, rfl, rfl⟩ : ∃ u m a b d e, l = u ++ [a, b, d, e] ++ m ∧ p = u.length := by
    have h1 : (l.drop p).length = l.length - p := List.length_drop
    match h : l.drop p with
    | a :: b :: d :: e :: m => exact ⟨l.take p, m, a, b, d, e, by rw [List.append_assoc]; simp [← h], by rw [List.length_take]; omega⟩
    | [] | [_] | [_, _] | [_, _, _] => rw [h] at h1; simp at h1; omega
  rw [tb_four]
  intro h
  unfold moreN at h
  have h2 : ∀ x z : Nat, x ^^^ 4294967295 = z ^^^ 4294967295 → x = z := fun x z e => by rw [← xor_twice x 4294967295, e, xor_twice]
  have hb : ∀ x, x ∈ u ∨ x ∈ [a, b, d, e] ∨ x ∈ m → x < 256 := fun x hx => hl x (by
    rcases hx with hx | hx | hx
    · exact List.mem_append.2 (.inl (List.mem_append.2 (.inl hx)))
    · exact List.mem_append.2 (.inl (List.mem_append.2 (.inr hx)))
    · exact List.mem_append.2 (.inr hx))
  exact turned_all (c := 0 ^^^ 4294967295) (by decide) (fun x hx => hb x (.inl hx)) (fun x hx => hb x (.inr (.inr hx))) (hb a (by simp)) (hb b (by simp)) (hb d (by simp)) (hb e (by simp)) hy h0 (h2 _ _ h)

set_option maxRecDepth 100000 in
set_option maxHeartbeats 800000 in
theorem crcTurned_short (w : World) (ht : Tab w) (s : ByteArray) (p y : Nat) (hs : s.size ≤ 300) (hp : p + 4 ≤ s.size) (hy : y < 4294967296) (h0 : y ≠ 0) :
    Calls Tryd.prog 5 #[.string s, .int .i64 (p : Int), .int .u32 (y : Int)] w fun e w' => e = .returned (.bool true) ∧ Ext w w' := by
  have HT : Hid (∀ W, Ext w W → Tab W) := Lib.hid fun W x => ht.ext x
  have g1 : ¬ ((s.size : Int) > 300) := by omega
  have g2 : ¬ ((300 : Int) < (s.size : Int)) := by omega
  have g3 : ¬ ((s.size : Int) - 4 < (p : Int)) := by omega
  have g4 : ¬ ((p : Int) < 0) := by omega
  have g5 : ((y : Int) == 0) = false := beq_eq_false_iff_ne.2 (by omega)
  have g6 : ¬ ((y : Int) = 0) := by omega
  have HCV : ∀ W, (convert 9 31 (.string s)).run Tryd.prog W = .ok (.slice (some ⟨W.heap.size, 0, none⟩) s.size (capB W s)) (newB W s) := fun W => bytes_of W s
  clear ht
  go_enter Tryd.func5, Tryd.ntmps5
  go_wp2_with (first
    | (go_at_call 9; refine (awake_any _ (HT.out _ (Ext.refl _))).mono ?_; rintro e w1 ⟨rfl, x1⟩))
  have HBY := Lib.hid (newB_byt w1 s)
  have HXN : Hid (Ext w (newB w1 s)) := Lib.hid (Ext.trans x1 (newB_ext w1 s))
  obtain ⟨gd, hgd⟩ : ∃ gd, gd = w1.heap.size := ⟨_, rfl⟩
  rw [← hgd] at HBY ⊢
  have HGD : Hid (w.heap.size ≤ gd) := Lib.hid (by rw [hgd]; exact x1.size)
  clear hgd HCV g5 g6
  go_loopw [8] (fun i wr => ∃ k : Nat, k ≤ 4 ∧ i = .int .i64 k ∧ Hid (Byt wr gd (tb (bl s) p y k)) ∧ Hid (Ext w wr)) (fun i _ => 4 - (intOf i).toNat)
  case atStart => exact ⟨0, by omega, rfl, HBY, HXN⟩
  case round =>
    obtain ⟨k, hk, rfl, HD, HX⟩ := hrel
    by_cases hlt : k < 4
    · have hplen : p + k < (tb (bl s) p y k).length := by rw [tb_length, bl_length]; omega
      have cv := HD.out.cell (p + k) hplen
      have hfr := HD.out.free (p + k) hplen
      obtain ⟨A, hA2⟩ : ∃ A, A = (tb (bl s) p y k).getD (p + k) 0 := ⟨_, rfl⟩
      rw [← hA2] at cv
      have HA := Lib.hid hA2
      clear hA2 hplen
      have hA : A < 256 := by rw [HA.out]; exact getD_lt (tb_lt (bl_lt s) p y k) _
      have hk4 : k = 0 ∨ k = 1 ∨ k = 2 ∨ k = 3 := by omega
      rcases hk4 with rfl | rfl | rfl | rfl
      · simp only [Nat.add_zero] at cv hfr
        have e1 : bits .xor .u8 (A : Int) ((y : Int) % 256) = ((A ^^^ y % 256 : Nat) : Int) := by
          rw [← xor_u8 A (y % 256) hA (by omega)]
          congr 1
        go_wp2
        exact ⟨⟨1, by omega, by first | rfl | go_num, Lib.hid (by
          have h := HD.out.set (p + 0) (A ^^^ y % 256) (by rw [tb_length, bl_length]; omega)
          have h2 : tb (bl s) p y (0 + 1) = (tb (bl s) p y 0).set (p + 0) (A ^^^ y % 256) := by
            rw [HA.out]
            show (tb (bl s) p y 0).set (p + 0) ((tb (bl s) p y 0).getD (p + 0) 0 ^^^ y / 256 ^ 0 % 256) = _
            rw [Nat.pow_zero, Nat.div_one]
          rw [← h2] at h
          exact h), Lib.hid (below_set HX.out HGD.out _)⟩, by simp [intOf]⟩
      · have e1 : bits .xor .u8 (A : Int) ((y : Int) / 256 % 256) = ((A ^^^ y / 256 % 256 : Nat) : Int) := by
          rw [← xor_u8 A (y / 256 % 256) hA (by omega)]
          congr 1
        go_wp2
        exact ⟨⟨2, by omega, by first | rfl | go_num, Lib.hid (by
          have h := HD.out.set (p + 1) (A ^^^ y / 256 % 256) (by rw [tb_length, bl_length]; omega)
          have h2 : tb (bl s) p y (1 + 1) = (tb (bl s) p y 1).set (p + 1) (A ^^^ y / 256 % 256) := by
            rw [HA.out, tb]
          rw [← h2] at h
          exact h), Lib.hid (below_set HX.out HGD.out _)⟩, by simp [intOf]⟩
      · have e1 : bits .xor .u8 (A : Int) ((y : Int) / 65536 % 256) = ((A ^^^ y / 65536 % 256 : Nat) : Int) := by
          rw [← xor_u8 A (y / 65536 % 256) hA (by omega)]
          congr 1
        go_wp2
        exact ⟨⟨3, by omega, by first | rfl | go_num, Lib.hid (by
          have h := HD.out.set (p + 2) (A ^^^ y / 65536 % 256) (by rw [tb_length, bl_length]; omega)
          have h2 : tb (bl s) p y (2 + 1) = (tb (bl s) p y 2).set (p + 2) (A ^^^ y / 65536 % 256) := by
            rw [HA.out, tb]
          rw [← h2] at h
          exact h), Lib.hid (below_set HX.out HGD.out _)⟩, by simp [intOf]⟩
      · have e1 : bits .xor .u8 (A : Int) ((y : Int) / 16777216 % 256) = ((A ^^^ y / 16777216 % 256 : Nat) : Int) := by
          rw [← xor_u8 A (y / 16777216 % 256) hA (by omega)]
          congr 1
        have e2 : bits .xor .u8 (A : Int) ((y : Int) / 16777216) = ((A ^^^ y / 16777216 % 256 : Nat) : Int) := by rw [← e1]; congr 1; omega
        go_wp2
        exact ⟨⟨4, by omega, by first | rfl | go_num, Lib.hid (by
          have h := HD.out.set (p + 3) (A ^^^ y / 16777216 % 256) (by rw [tb_length, bl_length]; omega)
          have h2 : tb (bl s) p y (3 + 1) = (tb (bl s) p y 3).set (p + 3) (A ^^^ y / 16777216 % 256) := by
            rw [HA.out, tb]
          rw [← h2] at h
          exact h), Lib.hid (below_set HX.out HGD.out _)⟩, by simp [intOf]⟩
    · have hkk : k = 4 := by omega
      rw [hkk] at HD
      obtain ⟨L, hL⟩ : ∃ L, L = tb (bl s) p y 4 := ⟨_, rfl⟩
      have hne : moreN 0 L ≠ moreN 0 (bl s) := by rw [hL]; exact tb_other (bl_lt s) p y (by rw [bl_length]; exact hp) hy h0
      have hLL : L.length = s.size := by rw [hL, tb_length, bl_length]
      have hlt2 : ∀ b ∈ L, b < 256 := by rw [hL]; exact tb_lt (bl_lt s) p y 4
      rw [← hL] at HD
      have hge : ¬ ((k : Int) < 4) := by omega
      clear hL hkk
      have hbt := bl_text hlt2
      have hts : (textN L).size = s.size := by rw [textN_size, hLL]
      have hts63 : (textN L).size ≤ 9223372036854775807 := by omega
      have lt1 := sum_lt s
      have lt2 : moreN 0 L < 4294967296 := moreN_lt (by decide) hlt2
      obtain ⟨M, hM⟩ : ∃ M, M = moreN 0 (bl s) := ⟨_, rfl⟩
      obtain ⟨K, hK⟩ : ∃ K, K = moreN 0 L := ⟨_, rfl⟩
      rw [← hM] at hne lt1
      rw [← hK] at hne lt2
      have hgb : goodB (textN L ++ textN (tailN M)) = false := by
        rw [good_joined _ _ (tail_size M), hbt, ← hK]
        exact decide_eq_false fun e => hne (tail_inj lt2 lt1 e.symm)
      have HTA : ∀ W, Ext wr W → Tab W := fun W x => HT.out _ (Ext.trans HX.out x)
      have HK : Hid (∀ W, Ext wr W → Tab W ∧ (convert 31 9 (.slice (some ⟨gd, 0, none⟩) s.size (capB w1 s))).run Tryd.prog W = .ok (.string (textN L)) W) := Lib.hid fun W x => ⟨HTA W x, (HD.out.ext x).text _ _ hLL⟩
      have SL : Hid (∀ W, Tab W → Calls Tryd.prog 13 #[.string (textN L)] W fun e w' => e = .returned (.int .u32 (K : Nat)) ∧ W = w') := Lib.hid fun W h => by
        have := sum_any W _ h hts63
        rw [hbt, ← hK] at this
        exact this
      have SS : Hid (∀ W, Tab W → Calls Tryd.prog 13 #[.string s] W fun e w' => e = .returned (.int .u32 (M : Nat)) ∧ W = w') := Lib.hid fun W h => by rw [hM]; exact sum_any W _ h (by omega)
      have GG : Hid (∀ W, Tab W → Calls Tryd.prog 10 #[.string (textN L ++ textN (tailN M))] W fun e w' => e = .returned (.tuple #[.string (goodS (textN L ++ textN (tailN M))), .bool false]) ∧ Ext W w') := Lib.hid fun W h => by
        have := good_any W (textN L ++ textN (tailN M)) h (by rw [ByteArray.size_append, hts, tail_size]; omega)
        rwa [hgb] at this
      have f1 : (textN L).size = s.size := hts
      have f2 : (textN (tailN M)).size = 4 := tail_size M
      have f3 : ((K : Int) == (M : Int)) = false := beq_eq_false_iff_ne.2 (by omega)
      have f4 : s.size + 4 ≤ 9223372036854775807 := by omega
      have f5 : s.size ≤ 9223372036854775803 := by omega
      have f6 : (s.size : Int) + 4 ≤ 9223372036854775807 := by omega
      have f7 : ¬ (9223372036854775807 < s.size + 4) := by omega
      have f8 : ¬ (9223372036854775807 < (s.size : Int) + 4) := by omega
      have HNE := Lib.hid hne
      clear hM hK hgb hbt hlt2 hLL HTA hts hts63 hne lt2
      go_wp2_with fail
      go_region_held3 (fun W => Tab W ∧ (convert 31 9 (.slice (some ⟨gd, 0, none⟩) s.size (capB w1 s))).run Tryd.prog W = .ok (.string (textN L)) W) (exact HK.out _ ((by repeat (first | exact Ext.refl _ | assumption | refine Ext.alloc ?_ _ | refine Ext.drew ?_ | refine Ext.drewN ?_ _))))
        (first
        | (go_at_call 13; refine (SS.out _ (HK.out _ (by repeat (first | exact Ext.refl _ | assumption | refine Ext.alloc ?_ _ | refine Ext.drew ?_ | refine Ext.drewN ?_ _))).1).mono ?_; rintro e w3 ⟨rfl, rfl⟩)
        | (go_at_call 15; refine (tail_any _ M lt1).mono ?_; rintro e w3 ⟨rfl, x3⟩; have y3 : Ext wr w3 := Ext.trans (by exact (by repeat (first | exact Ext.refl _ | assumption | refine Ext.alloc ?_ _ | refine Ext.drew ?_ | refine Ext.drewN ?_ _))) x3; clear x3)
        | (go_at_call 10; refine (GG.out _ (HK.out _ (by repeat (first | exact Ext.refl _ | assumption | refine Ext.alloc ?_ _ | refine Ext.drew ?_ | refine Ext.drewN ?_ _))).1).mono ?_; rintro e w4 ⟨rfl, x4⟩; have y4 : Ext wr w4 := Ext.trans y3 x4; clear x4))
      all_goals
        have HC4 := (HK.out _ y4).2
        have f10 := HNE.out
        have f11 : ¬ ((K : Int) = (M : Int)) := by omega
        have f12 : decide ((K : Int) = (M : Int)) = false := decide_eq_false f11
        have f13 : ((K : Int) != (M : Int)) = true := by simp [bne, f3]
        clear f1 f2 f4 f5 f6 f7 f8 g1 g2 g3 g4 hs hp hy h0
        go_wp2_with (first
          | (go_at_call 13; have hgd := m1; refine (SS.out _ (HK.out _ y4).1).mono ?_; rintro e w5 ⟨rfl, rfl⟩)
          | (go_at_call 13; refine (SL.out _ (HK.out _ y4).1).mono ?_; rintro e w5 ⟨rfl, rfl⟩; have m1 := True.intro))
        go_ret
        exact ⟨rfl, Ext.trans HX.out y4⟩

set_option maxHeartbeats 800000 in
theorem crcTurned_long (w : World) (ht : Tab w) (s : ByteArray) (hs63 : s.size ≤ 9223372036854775807) (i : Int) (hi1 : -9223372036854775808 ≤ i) (hi2 : i ≤ 9223372036854775807) (y : Nat) (h : ¬ (s.size ≤ 300 ∧ 0 ≤ i ∧ i ≤ (s.size : Int) - 4 ∧ y ≠ 0)) :
    Calls Tryd.prog 5 #[.string s, .int .i64 i, .int .u32 (y : Int)] w fun e w' => e = .returned (.bool true) ∧ Ext w w' := by
  have HT : Hid (∀ W, Ext w W → Tab W) := Lib.hid fun W x => ht.ext x
  clear ht
  by_cases h1 : (300 : Int) < (s.size : Int)
  · clear h
    go_enter Tryd.func5, Tryd.ntmps5
    go_wp2_with (first
      | (go_at_call 9; have hgd := x1; refine (awake_any _ (HT.out _ x1)).mono ?_; rintro e w2 ⟨rfl, x2⟩)
      | (go_at_call 9; refine (awake_any _ (HT.out _ (Ext.refl _))).mono ?_; rintro e w1 ⟨rfl, x1⟩))
    go_ret
    exact ⟨rfl, Ext.trans x1 x2⟩
  by_cases h2 : i < 0
  · clear h
    go_enter Tryd.func5, Tryd.ntmps5
    go_wp2_with (first
      | (go_at_call 9; have hgd := x1; refine (awake_any _ (HT.out _ x1)).mono ?_; rintro e w2 ⟨rfl, x2⟩)
      | (go_at_call 9; refine (awake_any _ (HT.out _ (Ext.refl _))).mono ?_; rintro e w1 ⟨rfl, x1⟩))
    go_ret
    exact ⟨rfl, Ext.trans x1 x2⟩
  by_cases h3 : (s.size : Int) - 4 < i
  · clear h
    go_enter Tryd.func5, Tryd.ntmps5
    go_wp2_with (first
      | (go_at_call 9; have hgd := x1; refine (awake_any _ (HT.out _ x1)).mono ?_; rintro e w2 ⟨rfl, x2⟩)
      | (go_at_call 9; refine (awake_any _ (HT.out _ (Ext.refl _))).mono ?_; rintro e w1 ⟨rfl, x1⟩))
    go_ret
    exact ⟨rfl, Ext.trans x1 x2⟩
  have h4 : y = 0 := by omega
  subst h4
  clear h
  go_enter Tryd.func5, Tryd.ntmps5
  go_wp2_with (first
    | (go_at_call 9; have hgd := x1; refine (awake_any _ (HT.out _ x1)).mono ?_; rintro e w2 ⟨rfl, x2⟩)
    | (go_at_call 9; refine (awake_any _ (HT.out _ (Ext.refl _))).mono ?_; rintro e w1 ⟨rfl, x1⟩))
  all_goals
    go_ret
    exact ⟨rfl, Ext.trans x1 x2⟩
end Go.Proofs.YtboilfhggiiahaaDoor
