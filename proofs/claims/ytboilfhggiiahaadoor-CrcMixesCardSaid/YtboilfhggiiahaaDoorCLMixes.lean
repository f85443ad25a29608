/- CrcMixes: walked. -/
import Derived.Test.YtboilfhggiiahaaDoorC7
import Derived.StillTailTactics
import Derived.BigGuardPart
import Derived.IntWalk
namespace Go.Proofs.YtboilfhggiiahaaDoor
open Go.RowKit

theorem mix3_length : ∀ (l m n : List Nat), m.length = l.length → n.length = l.length → (mix3 l m n).length = l.length
  | [], _, _, _, _ => by cases ‹List Nat› <;> rfl
  | a :: l, [], _, h, _ => by simp at h
  | a :: l, b :: m, [], _, h => by simp at h
  | a :: l, b :: m, c :: n, h, k => by
    simp only [List.length_cons, Nat.add_right_cancel_iff] at h k
    simp only [mix3, List.length_cons, mix3_length l m n h k]

theorem mix3_getD : ∀ (l m n : List Nat) (k : Nat), m.length = l.length → n.length = l.length → k < l.length → (mix3 l m n).getD k 0 = l.getD k 0 ^^^ m.getD k 0 ^^^ n.getD k 0
  | [], _, _, k, _, _, hk => by simp at hk
  | a :: l, [], _, _, h, _, _ => by simp at h
  | a :: l, b :: m, [], _, _, h, _ => by simp at h
  | a :: l, b :: m, c :: n, k, h1, h2, hk => by
    simp only [List.length_cons, Nat.add_right_cancel_iff] at h1 h2
    cases k with
    | zero => rfl
    | succ k =>
      simp only [List.length_cons] at hk
      have := mix3_getD l m n k h1 h2 (by omega)
      simpa [mix3] using this

/-- as far as it has been turned -/
def part (l m : List Nat) (k : Nat) : List Nat := m.take k ++ l.drop k

theorem part_length (l m : List Nat) (k : Nat) (h : m.length = l.length) : (part l m k).length = l.length := by
  unfold part
  rw [List.length_append, List.length_take, List.length_drop]
  omega

theorem part_at (l m : List Nat) (k : Nat) (h : m.length = l.length) (hk : k < l.length) : (part l m k).getD k 0 = l.getD k 0 := by
  unfold part
  rw [List.getD_eq_getElem?_getD, List.getElem?_append_right (by rw [List.length_take]; omega), List.length_take, List.getElem?_drop, List.getD_eq_getElem?_getD]
  congr 2
  omega

theorem part_next (l m : List Nat) (k : Nat) (h : m.length = l.length) (hk : k < l.length) : (part l m k).set k (m.getD k 0) = part l m (k + 1) := by
  unfold part
  have hkm : k < m.length := by omega
  rw [List.set_append_right _ _ (by rw [List.length_take]; omega), List.length_take, Nat.min_eq_left (by omega), Nat.sub_self]
  rw [List.drop_eq_getElem_cons hk, List.set_cons_zero, List.take_succ_eq_append_getElem hkm, List.append_assoc]
  congr 1
  simp [List.getD, hkm]

theorem xor_u8 (a b : Nat) (ha : a < 256) (hb : b < 256) : bits .xor .u8 (a : Int) (b : Int) = ((a ^^^ b : Nat) : Int) := u8_xor_nat a b ha hb

theorem getD_lt {l : List Nat} (h : ∀ b ∈ l, b < 256) (k : Nat) : l.getD k 0 < 256 := by
  by_cases hk : k < l.length
  · rw [List.getD_eq_getElem?_getD, List.getElem?_eq_getElem hk]
    exact h _ (List.getElem_mem hk)
  · rw [List.getD_eq_getElem?_getD, List.getElem?_eq_none (by omega)]
    decide

theorem bl_text {l : List Nat} (hl : ∀ b ∈ l, b < 256) : bl (textN l) = l := by
  unfold bl textN
  show (l.map UInt8.ofNat).map UInt8.toNat = l
  rw [List.map_map]
  conv => rhs; rw [← List.map_id l]
  refine List.map_congr_left fun b hb => ?_
  have := hl b hb
  simp
  omega

theorem mix3_lt : ∀ (l m n : List Nat), (∀ b ∈ l, b < 256) → (∀ b ∈ m, b < 256) → (∀ b ∈ n, b < 256) → ∀ b ∈ mix3 l m n, b < 256
  | [], _, _, _, _, _, b, hb => by simp [mix3] at hb
  | _ :: _, [], _, _, _, _, b, hb => by simp [mix3] at hb
  | _ :: _, _ :: _, [], _, _, _, b, hb => by simp [mix3] at hb
  | x :: l, y :: m, z :: n, h1, h2, h3, b, hb => by
    rcases List.mem_cons.1 hb with rfl | hb
    · have a1 := h1 x List.mem_cons_self
      have a2 := h2 y List.mem_cons_self
      have a3 := h3 z List.mem_cons_self
      have : x ^^^ y < 2 ^ 8 := Nat.xor_lt_two_pow (by omega) (by omega)
      have : x ^^^ y ^^^ z < 2 ^ 8 := Nat.xor_lt_two_pow (by omega) (by omega)
      omega
    · exact mix3_lt l m n (fun q hq => h1 q (List.mem_cons_of_mem _ hq)) (fun q hq => h2 q (List.mem_cons_of_mem _ hq)) (fun q hq => h3 q (List.mem_cons_of_mem _ hq)) b hb

set_option maxHeartbeats 800000 in
theorem crcMixes_short (w : World) (ht : Tab w) (a b c : ByteArray) (ha : a.size ≤ 300) (hb : b.size = a.size) (hc : c.size = a.size) :
    Calls Tryd.prog 6 #[.string a, .string b, .string c] w fun e w' => e = .returned (.bool true) ∧ Ext w w' := by
  have HT : Hid (∀ W, Ext w W → Tab W) := Lib.hid fun W x => ht.ext x
  have hba : ((b.size : Int) = (a.size : Int)) := by omega
  have hca : ((c.size : Int) = (a.size : Int)) := by omega
  have HB := Lib.hid hb
  have HC := Lib.hid hc
  have g1 : ¬ ((a.size : Int) > 300) := by omega
  have g2 : ¬ ((300 : Int) < (a.size : Int)) := by omega
  have HCV : ∀ W, (convert 9 31 (.string a)).run Tryd.prog W = .ok (.slice (some ⟨W.heap.size, 0, none⟩) a.size (capB W a)) (newB W a) := fun W => bytes_of W a
  clear ht hb hc
  go_enter Tryd.func6, Tryd.ntmps6
  go_wp2_with (first
    | (go_at_call 9; refine (awake_any _ (HT.out _ (Ext.refl _))).mono ?_; rintro e w1 ⟨rfl, x1⟩))
  have HBY := Lib.hid (newB_byt w1 a)
  have HXN : Hid (Ext w (newB w1 a)) := Lib.hid (Ext.trans x1 (newB_ext w1 a))
  obtain ⟨gd, hgd⟩ : ∃ gd, gd = w1.heap.size := ⟨_, rfl⟩
  rw [← hgd] at HBY ⊢
  have HGD : Hid (w.heap.size ≤ gd) := Lib.hid (by rw [hgd]; exact x1.size)
  have hN : ∃ M, M = mix3 (bl a) (bl b) (bl c) := ⟨_, rfl⟩
  obtain ⟨M, hM⟩ := hN
  have hla : (bl a).length = a.size := bl_length a
  have hlb : (bl b).length = (bl a).length := by rw [bl_length, bl_length]; exact HB.out
  have hlc : (bl c).length = (bl a).length := by rw [bl_length, bl_length]; exact HC.out
  have HLM : Hid (M.length = (bl a).length) := Lib.hid (by rw [hM]; exact mix3_length _ _ _ hlb hlc)
  have HMA : Hid (∀ k, k < a.size → M.getD k 0 = (bl a).getD k 0 ^^^ (bl b).getD k 0 ^^^ (bl c).getD k 0) := Lib.hid fun k hk => by rw [hM]; exact mix3_getD _ _ _ k hlb hlc (by rw [hla]; exact hk)
  have HM := Lib.hid hM
  have HLA := Lib.hid hla
  have HLB := Lib.hid hlb
  have HLC := Lib.hid hlc
  have HATB : Hid (∀ (k : Nat) (h : k < b.size), (b[k]'h).toNat = (bl b).getD k 0) := Lib.hid (fun k h => bl_at b h)
  have HATC : Hid (∀ (k : Nat) (h : k < c.size), (c[k]'h).toNat = (bl c).getD k 0) := Lib.hid (fun k h => bl_at c h)
  clear hgd hM hla hlb hlc HCV
  go_loopw [8] (fun i wr => ∃ k : Nat, k ≤ a.size ∧ i = .int .i64 k ∧ Hid (Byt wr gd (part (bl a) M k)) ∧ Hid (Ext w wr)) (fun i _ => a.size - (intOf i).toNat)
  case atStart => exact ⟨0, Nat.zero_le _, rfl, Lib.hid (by unfold part; simpa using HBY.out), HXN⟩
  case round =>
    obtain ⟨k, hk, rfl, HD, HX⟩ := hrel
    by_cases hlt : k < a.size
    · have hplen : k < (part (bl a) M k).length := by rw [part_length _ _ _ HLM.out, HLA.out]; exact hlt
      have cv := HD.out.cell k hplen
      rw [part_at _ _ _ HLM.out (by rw [HLA.out]; exact hlt)] at cv
      have hfr := HD.out.free k hplen
      have hkb : k < b.size := by rw [HB.out]; exact hlt
      have hkc : k < c.size := by rw [HC.out]; exact hlt
      have hb1 := HATB.out k hkb
      have hc1 := HATC.out k hkc
      have hm1 := HMA.out k hlt
      have hA : (bl a).getD k 0 < 256 := getD_lt (bl_lt a) k
      have hB : (bl b).getD k 0 < 256 := getD_lt (bl_lt b) k
      have hC : (bl c).getD k 0 < 256 := getD_lt (bl_lt c) k
      obtain ⟨A, hA2⟩ : ∃ A, A = (bl a).getD k 0 := ⟨_, rfl⟩
      obtain ⟨B, hB2⟩ : ∃ B, B = (bl b).getD k 0 := ⟨_, rfl⟩
      obtain ⟨C, hC2⟩ : ∃ C, C = (bl c).getD k 0 := ⟨_, rfl⟩
      rw [← hA2] at cv hm1 hA
      rw [← hB2] at hb1 hm1 hB
      rw [← hC2] at hc1 hm1 hC
      have hAB : A ^^^ B < 256 := by have : A ^^^ B < 2 ^ 8 := Nat.xor_lt_two_pow (by omega) (by omega); omega
      have e1 := xor_u8 A B hA hB
      have e2 := xor_u8 (A ^^^ B) C hAB hC
      rw [← hm1] at e2
      obtain ⟨D, hD⟩ : ∃ D, D = A ^^^ B := ⟨_, rfl⟩
      rw [← hD] at e1 e2
      obtain ⟨Z, hZ⟩ : ∃ Z, Z = M.getD k 0 := ⟨_, rfl⟩
      rw [← hZ] at e2
      have HZ := Lib.hid hZ
      have HF : Hid (∃ W1 : World, W1 = { wr with drawn := wr.drawn + 1 } ∧ W1.cell? ⟨gd, k, none⟩ = some (.int .u8 (A : Int)) ∧ W1.frozen? ⟨gd, k, none⟩ = false ∧ Byt W1 gd (part (bl a) M k) ∧ Ext w W1) := Lib.hid ⟨_, rfl, cv, hfr, HD.out, HX.out.drew⟩
      have hkbi : (k : Int) < (b.size : Int) := by omega
      have hkci : (k : Int) < (c.size : Int) := by omega
      have hkai : (k : Int) < (a.size : Int) := by omega
      clear cv hfr hplen hm1 hA hB hC hA2 hB2 hC2 hAB hD hZ
      go_wp2
      refine wp_region_still_tail 15 (by kernel_rfl) (by kernel_rfl) ?_
      simp only [List.take_succ_cons, List.take_zero, List.drop_succ_cons, List.drop_zero]
      obtain ⟨W1, hW1, cv, hfr, ho1, hx1⟩ := HF.out
      rw [← hW1]
      have HO1 := Lib.hid ho1
      have HX1 := Lib.hid hx1
      clear hW1 ho1 hx1
      repeat still_step
      refine wpStill_nil ?_
      go_wp2
      exact ⟨⟨k + 1, by omega, by go_num, Lib.hid (by
        have hk2 : k < (bl a).length := by rw [HLA.out]; exact hlt
        have h := HO1.out.set k Z (by rw [part_length _ _ _ HLM.out]; exact hk2)
        rw [HZ.out, part_next _ _ _ HLM.out hk2] at h
        rw [HZ.out]
        exact h), Lib.hid (below_set HX1.out HGD.out _)⟩, by simp [intOf]; omega⟩
    · have hkk : k = a.size := by omega
      have hpm : part (bl a) M k = M := by
        unfold part
        rw [List.take_of_length_le (by rw [HLM.out, HLA.out]; omega), List.drop_of_length_le (by rw [HLA.out]; omega), List.append_nil]
      have hD := HD.out
      rw [hpm] at hD
      have HCT : (convert 31 9 (.slice (some ⟨gd, 0, none⟩) a.size (capB w1 a))).run Tryd.prog wr = .ok (.string (textN M)) wr := hD.text _ _ (by rw [HLM.out, HLA.out])
      have hML : ∀ b ∈ M, b < 256 := by rw [HM.out]; exact mix3_lt _ _ _ (bl_lt a) (bl_lt b) (bl_lt c)
      have n1 : moreN 0 (bl (textN M)) = moreN 0 (bl a) ^^^ moreN 0 (bl b) ^^^ moreN 0 (bl c) := by
        rw [bl_text hML, HM.out]
        exact moreN_mix _ _ _ HLB.out HLC.out
      have hts : (textN M).size ≤ 9223372036854775807 := by rw [textN_size, HLM.out, HLA.out]; omega
      have hbs : b.size ≤ 9223372036854775807 := by rw [HB.out]; omega
      have hcs : c.size ≤ 9223372036854775807 := by rw [HC.out]; omega
      have has : a.size ≤ 9223372036854775807 := by omega
      have l1 := sum_lt a
      have l2 := sum_lt b
      have l3 := sum_lt c
      have HTW := HT.out _ HX.out
      have S1 : Hid (∀ W, Tab W → Calls Tryd.prog 13 #[.string (textN M)] W fun e w' => e = .returned (.int .u32 ((moreN 0 (bl a) ^^^ moreN 0 (bl b) ^^^ moreN 0 (bl c) : Nat) : Int)) ∧ W = w') := Lib.hid fun W h => by rw [← n1]; exact sum_any W _ h hts
      have S2 : Hid (∀ W, Tab W → Calls Tryd.prog 13 #[.string a] W fun e w' => e = .returned (.int .u32 (moreN 0 (bl a) : Nat)) ∧ W = w') := Lib.hid fun W h => sum_any W _ h has
      have S3 : Hid (∀ W, Tab W → Calls Tryd.prog 13 #[.string b] W fun e w' => e = .returned (.int .u32 (moreN 0 (bl b) : Nat)) ∧ W = w') := Lib.hid fun W h => sum_any W _ h hbs
      have S4 : Hid (∀ W, Tab W → Calls Tryd.prog 13 #[.string c] W fun e w' => e = .returned (.int .u32 (moreN 0 (bl c) : Nat)) ∧ W = w') := Lib.hid fun W h => sum_any W _ h hcs
      have l4 : moreN 0 (bl a) ^^^ moreN 0 (bl b) < 4294967296 := by
        have : moreN 0 (bl a) ^^^ moreN 0 (bl b) < 2 ^ 32 := Nat.xor_lt_two_pow (by omega) (by omega)
        omega
      have e1 := xor_u32 _ _ l1 l2
      have e2 := xor_u32 _ _ l4 l3
      obtain ⟨X, hX⟩ : ∃ X, X = moreN 0 (bl a) ^^^ moreN 0 (bl b) ^^^ moreN 0 (bl c) := ⟨_, rfl⟩
      obtain ⟨Y, hY⟩ : ∃ Y, Y = moreN 0 (bl a) ^^^ moreN 0 (bl b) := ⟨_, rfl⟩
      rw [← hX] at S1 e2
      rw [← hY] at e1 e2
      clear hX hY n1 hML hD hpm l1 l2 l3 l4 hts hbs hcs has
      obtain ⟨SA, hSA⟩ : ∃ q, q = moreN 0 (bl a) := ⟨_, rfl⟩
      obtain ⟨SB, hSB⟩ : ∃ q, q = moreN 0 (bl b) := ⟨_, rfl⟩
      obtain ⟨SC, hSC⟩ : ∃ q, q = moreN 0 (bl c) := ⟨_, rfl⟩
      rw [← hSA] at S2 e1
      rw [← hSB] at S3 e1
      rw [← hSC] at S4 e2
      clear hSA hSB hSC
      go_wp2_with (first
        | (go_at_call 13; have hgd := m3; refine (S4.out _ HTW).mono ?_; rintro e w4 ⟨rfl, rfl⟩)
        | (go_at_call 13; have hgd := m2; refine (S3.out _ HTW).mono ?_; rintro e w4 ⟨rfl, rfl⟩; have m3 := True.intro)
        | (go_at_call 13; have hgd := m1; refine (S2.out _ HTW).mono ?_; rintro e w4 ⟨rfl, rfl⟩; have m2 := True.intro)
        | (go_at_call 13; refine (S1.out _ HTW).mono ?_; rintro e w4 ⟨rfl, rfl⟩; have m1 := True.intro))
      go_ret
      exact ⟨rfl, HX.out⟩

set_option maxHeartbeats 400000 in
theorem crcMixes_long (w : World) (ht : Tab w) (a b c : ByteArray) (h : ¬ (a.size ≤ 300 ∧ b.size = a.size ∧ c.size = a.size)) :
    Calls Tryd.prog 6 #[.string a, .string b, .string c] w fun e w' => e = .returned (.bool true) ∧ Ext w w' := by
  have HT : Hid (∀ W, Ext w W → Tab W) := Lib.hid fun W x => ht.ext x
  clear ht
  by_cases ha : (300 : Int) < (a.size : Int)
  · clear h
    go_enter Tryd.func6, Tryd.ntmps6
    go_wp2_with (first
      | (go_at_call 9; have hgd := x1; refine (awake_any _ (HT.out _ x1)).mono ?_; rintro e w2 ⟨rfl, x2⟩)
      | (go_at_call 9; refine (awake_any _ (HT.out _ (Ext.refl _))).mono ?_; rintro e w1 ⟨rfl, x1⟩))
    go_ret
    exact ⟨rfl, Ext.trans x1 x2⟩
  · by_cases hb : (b.size : Int) = (a.size : Int)
    · have hc : ¬ (c.size : Int) = (a.size : Int) := by omega
      clear h
      go_enter Tryd.func6, Tryd.ntmps6
      go_wp2_with (first
        | (go_at_call 9; have hgd := x1; refine (awake_any _ (HT.out _ x1)).mono ?_; rintro e w2 ⟨rfl, x2⟩)
        | (go_at_call 9; refine (awake_any _ (HT.out _ (Ext.refl _))).mono ?_; rintro e w1 ⟨rfl, x1⟩))
      go_ret
      exact ⟨rfl, Ext.trans x1 x2⟩
    · clear h
      go_enter Tryd.func6, Tryd.ntmps6
      go_wp2_with (first
        | (go_at_call 9; have hgd := x1; refine (awake_any _ (HT.out _ x1)).mono ?_; rintro e w2 ⟨rfl, x2⟩)
        | (go_at_call 9; refine (awake_any _ (HT.out _ (Ext.refl _))).mono ?_; rintro e w1 ⟨rfl, x1⟩))
      go_ret
      exact ⟨rfl, Ext.trans x1 x2⟩
end Go.Proofs.YtboilfhggiiahaaDoor
