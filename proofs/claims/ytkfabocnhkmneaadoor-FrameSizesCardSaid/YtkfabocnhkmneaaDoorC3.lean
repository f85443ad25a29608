/- The program's sums: by a table of sixteen steps. -/
import Derived.Test.YtkfabocnhkmneaaDoorC2
import Derived.Lib.LaidTab
namespace Go.Proofs.YtkfabocnhkmneaaDoor
open Go.RowKit

def stepsL : List Int := [0, 498536548, 997073096, 651767980, 1994146192, 1802195444, 1303535960, 1342533948, 3988292384, 4027552580, 3604390888, 3412177804, 2607071920, 2262029012, 2685067896, 3183342108]

theorem steps_is : ∀ i : Nat, i < 16 → stepsL.getD i 0 = ((shN 4 i : Nat) : Int) := by decide

/-- the table lies there -/
def Tab (w : World) : Prop := ∀ i : Nat, i < 16 → w.cell? ⟨1, i, none⟩ = some (.int .u32 ((shN 4 i : Nat) : Int))

theorem tab_of {w : World} (h : Lib.TabIs Tryd.prog w "narthex/crc.steps" .u32 stepsL) : Tab w := fun i hi => by
  have := Lib.TabIs.cell h (g := 1) (by kernel_rfl) i hi
  rw [this, steps_is i hi]

theorem Tab.ext {w w' : World} (h : Tab w) (x : Ext w w') : Tab w' := fun i hi =>
  (Below.cell x (World.block_lt_of_cell? _ _ (h i hi))).trans (h i hi)

/-- one step by the table -/
theorem step4 (C : Nat) (hC : C < 4294967296) : bits .xor .u32 ((C : Int) / 16) ((shN 4 (C % 16) : Nat) : Int) = ((shN 4 C : Nat) : Int) := by
  have h1 : shN 4 (C % 16) < 4294967296 := shN_lt 4 (by omega)
  have h := xor_u32 (C / 16) (shN 4 (C % 16)) (by omega) h1
  have h2 : C / 16 ^^^ shN 4 (C % 16) = shN 4 C := by
    have := shN_split 4 C
    rw [show (2 : Nat) ^ 4 = 16 from rfl] at this
    rw [this, Nat.xor_comm]
  rw [h2] at h
  rw [← h]
  congr 1

theorem and15 (C : Nat) (hC : C < 4294967296) : bits .and .u32 (C : Int) 15 = ((C % 16 : Nat) : Int) := by
  have h := u32_and_nat C 15 hC (by decide)
  have h2 : C &&& 15 = C % 16 := Nat.and_two_pow_sub_one_eq_mod C 4
  rw [h2] at h
  exact h

theorem turned_u32 (C : Nat) (hC : C < 4294967296) : bits .xor .u32 IntKind.u32.max (C : Int) = ((C ^^^ 4294967295 : Nat) : Int) := by
  have h := xor_u32 4294967295 C (by decide) hC
  rw [Nat.xor_comm] at h
  exact h

set_option maxHeartbeats 400000 in
theorem down_any (w : World) (D : Nat) (ht : Tab w) (hD : D < 4294967296) :
    Calls Tryd.prog 40 #[.int .u32 (D : Int)] w fun e w' => e = .returned (.int .u32 (shN 4 D : Nat)) ∧ w = w' := by
  have HT : Hid (∀ i : Nat, i < 16 → w.cell? ⟨1, i, none⟩ = some (.int .u32 ((shN 4 i : Nat) : Int))) := Lib.hid (fun i hi => ht i hi)
  clear ht
  have a1 := and15 D hD
  have s1 := step4 D hD
  have m1 : D % 16 < 16 := Nat.mod_lt _ (by decide)
  have t1 := HT.out (D % 16) m1
  obtain ⟨F, hF2⟩ : ∃ F, F = shN 4 D := ⟨_, rfl⟩
  rw [← hF2] at s1 ⊢
  clear hF2
  obtain ⟨m, hm⟩ : ∃ m, m = D % 16 := ⟨_, rfl⟩
  rw [← hm] at a1 s1 m1 t1
  clear hm
  obtain ⟨p, hp⟩ : ∃ p, p = shN 4 m := ⟨_, rfl⟩
  rw [← hp] at s1 t1
  clear hp
  go_enter Tryd.func40, Tryd.ntmps40
  go_wp2
  go_ret
  exact ⟨rfl, rfl⟩

set_option maxHeartbeats 400000 in
theorem more_any (w : World) (c : Nat) (s : ByteArray) (ht : Tab w) (hc : c < 4294967296) (hs : s.size ≤ 9223372036854775807) :
    Calls Tryd.prog 31 #[.int .u32 (c : Int), .string s] w fun e w' => e = .returned (.int .u32 (moreN c (bl s) : Nat)) ∧ w = w' := by
  have hl := bl_length s
  have HBL : Hid (∀ b ∈ bl s, b < 256) := Lib.hid (bl_lt s)
  have HAT : Hid (∀ (k : Nat) (h : k < s.size), (s[k]'h).toNat = (bl s).getD k 0) := Lib.hid (fun k h => bl_at s h)
  have HT : Hid (Tab w) := Lib.hid ht
  clear ht
  have hx : c ^^^ 4294967295 < 4294967296 := by
    have : c ^^^ 4294967295 < 2 ^ 32 := Nat.xor_lt_two_pow (by omega) (by omega)
    omega
  have e0 := turned_u32 c hc
  obtain ⟨X, hX⟩ : ∃ X, X = c ^^^ 4294967295 := ⟨_, rfl⟩
  rw [← hX] at hx e0
  have HX := Lib.hid hX
  clear hX
  go_enter Tryd.func31, Tryd.ntmps31
  go_wp2
  go_loop [5, 11] (fun a i => ∃ (k : Nat) (C : Nat), k ≤ s.size ∧ i = .int .i64 k ∧ a = .int .u32 (C : Int) ∧ C < 4294967296 ∧ Hid (C = byts X ((bl s).take k))) (fun _ i => s.size - (intOf i).toNat)
  case atStart => exact ⟨0, X, by omega, rfl, rfl, hx, Lib.hid (by simp [byts])⟩
  case round =>
    obtain ⟨k, C, hk, rfl, rfl, hC, HC⟩ := hrel
    by_cases hlt : k < s.size
    · have hb : ((s[k]'hlt).toNat) = (bl s).getD k 0 := HAT.out k hlt
      obtain ⟨B, hB⟩ : ∃ B, B = (bl s).getD k 0 := ⟨_, rfl⟩
      have hB2 : B < 256 := by rw [hB, ← hb]; exact (s[k]'hlt).toNat_lt
      have HB := Lib.hid hB
      rw [← hB] at hb
      clear hB
      have e1 : bits .xor .u32 (C : Int) (B : Int) = ((C ^^^ B : Nat) : Int) := xor_u32 C B hC (by omega)
      have hCB : C ^^^ B < 4294967296 := by
        have : C ^^^ B < 2 ^ 32 := Nat.xor_lt_two_pow (by omega) (by omega)
        omega
      obtain ⟨D, hD⟩ : ∃ D, D = C ^^^ B := ⟨_, rfl⟩
      rw [← hD] at e1 hCB
      have HD := Lib.hid hD
      clear hD
      have hF : shN 4 D < 4294967296 := shN_lt 4 hCB
      obtain ⟨F, hF2⟩ : ∃ F, F = shN 4 D := ⟨_, rfl⟩
      have d1 := Lib.hid (down_any w D HT.out hCB)
      rw [← hF2] at d1 hF
      have HF := Lib.hid hF2
      clear hF2
      have hG : shN 4 F < 4294967296 := shN_lt 4 hF
      obtain ⟨G, hG2⟩ : ∃ G, G = shN 4 F := ⟨_, rfl⟩
      have d2 := Lib.hid (down_any w F HT.out hF)
      rw [← hG2] at d2 hG
      have HG := Lib.hid hG2
      clear hG2
      go_wp2_with (first
        | (go_at_call 40; have hgd := gone1; refine d2.out.mono ?_; rintro e w' ⟨rfl, rfl⟩)
        | (go_at_call 40; refine d1.out.mono ?_; rintro e w' ⟨rfl, rfl⟩; have gone1 := Lib.hid True.intro))
      exact ⟨⟨k + 1, G, by omega, by go_num, rfl, hG, Lib.hid (by
        have hkl : k < (bl s).length := by rw [hl]; exact hlt
        rw [HG.out, HF.out, HD.out, HC.out, HB.out, take_byts _ _ _ hkl]
        exact (shN_add 4 4 _).symm)⟩, by simp [intOf]; omega⟩
    · have hkk : k = s.size := by omega
      have e5 : bits .xor .u32 IntKind.u32.max (C : Int) = ((moreN c (bl s) : Nat) : Int) := by
        have h := turned_u32 C hC
        have hm : C ^^^ 4294967295 = moreN c (bl s) := by
          unfold moreN
          rw [HC.out, HX.out, List.take_of_length_le (by rw [hl]; omega)]
        rw [hm] at h
        exact h
      go_wp2
      go_ret
      exact ⟨rfl, rfl⟩
end Go.Proofs.YtkfabocnhkmneaaDoor
