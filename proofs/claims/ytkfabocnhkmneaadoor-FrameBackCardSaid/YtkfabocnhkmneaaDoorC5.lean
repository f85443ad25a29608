/- Sums and tails of texts: plain facts. -/
import Derived.Test.YtkfabocnhkmneaaDoorC4
namespace Go.Proofs.YtkfabocnhkmneaaDoor
open Go.RowKit

theorem xor_twice (c d : Nat) : c ^^^ d ^^^ d = c := by rw [Nat.xor_assoc, Nat.xor_self, Nat.xor_zero]

theorem moreN_join (c : Nat) (l m : List Nat) : moreN (moreN c l) m = moreN c (l ++ m) := by
  unfold moreN
  rw [xor_twice, byts_append]

theorem moreN_nil (c : Nat) : moreN c [] = c := by
  unfold moreN byts
  exact xor_twice c _

theorem tailN_lt {c : Nat} (hc : c < 4294967296) : ∀ b ∈ tailN c, b < 256 := by
  intro b hb
  simp only [tailN, List.mem_cons, List.not_mem_nil, or_false] at hb
  rcases hb with rfl | rfl | rfl | rfl <;> omega

theorem tail_inj {a b : Nat} (ha : a < 4294967296) (hb : b < 4294967296) (h : textN (tailN a) = textN (tailN b)) : a = b := by
  have := textN_inj (tailN_lt ha) (tailN_lt hb) h
  simp only [tailN, List.cons.injEq, and_true] at this
  omega

theorem tail_size (c : Nat) : (textN (tailN c)).size = 4 := textN_size _

theorem ahead_joined (s t : ByteArray) (h : t.size = 4) : ahead (s ++ t) = s ∧ last4 (s ++ t) = t := by
  unfold ahead last4
  have hs : (s ++ t).size = s.size + 4 := by rw [ByteArray.size_append, h]
  rw [hs, Nat.add_sub_cancel]
  constructor
  · apply ByteArray.ext
    rw [ByteArray.data_extract, ByteArray.data_append]
    rw [show s.size = s.data.size from rfl, Array.extract_append_left]
    simp
  · apply ByteArray.ext
    rw [ByteArray.data_extract, ByteArray.data_append]
    have : s.size + 4 = s.data.size + t.data.size := by rw [← h]; rfl
    rw [this, show s.size = s.data.size from rfl, Array.extract_append_right]
    simp

theorem good_joined (s : ByteArray) (t : ByteArray) (h : t.size = 4) : goodB (s ++ t) = decide (t = textN (tailN (moreN 0 (bl s)))) := by
  unfold goodB
  obtain ⟨h1, h2⟩ := ahead_joined s t h
  rw [h1, h2]
  have hs : (s ++ t).size = s.size + 4 := by rw [ByteArray.size_append, h]
  rw [decide_eq_true (show 4 ≤ (s ++ t).size by omega), Bool.true_and]

theorem good_with (s : ByteArray) : goodB (s ++ textN (tailN (moreN 0 (bl s)))) = true ∧ goodS (s ++ textN (tailN (moreN 0 (bl s)))) = s := by
  have h := good_joined s (textN (tailN (moreN 0 (bl s)))) (tail_size _)
  have hb : goodB (s ++ textN (tailN (moreN 0 (bl s)))) = true := by rw [h]; simp
  refine ⟨hb, ?_⟩
  unfold goodS
  rw [if_pos hb]
  exact (ahead_joined s _ (tail_size _)).1

theorem ahead_last (s : ByteArray) : ahead s ++ last4 s = s := by
  unfold ahead last4
  apply ByteArray.ext
  rw [ByteArray.data_append, ByteArray.data_extract, ByteArray.data_extract, Array.extract_append_extract]
  have h : s.size = s.data.size := rfl
  rw [h]
  simp

theorem good_is {s : ByteArray} (h : goodB s = true) : goodS s ++ textN (tailN (moreN 0 (bl (goodS s)))) = s := by
  have h0 := h
  unfold goodB at h
  rw [Bool.and_eq_true, decide_eq_true_eq, decide_eq_true_eq] at h
  have hs : goodS s = ahead s := by unfold goodS; rw [if_pos h0]
  rw [hs, ← h.2]
  exact ahead_last s

theorem good_not {s : ByteArray} (h : goodB s = false) : goodS s = ⟨#[]⟩ := by
  unfold goodS
  rw [if_neg (by rw [h]; decide)]

theorem sum_lt (s : ByteArray) : moreN 0 (bl s) < 4294967296 := moreN_lt (by decide) (bl_lt s)

theorem xor_three (c : Nat) : c ^^^ c ^^^ c = c := by rw [Nat.xor_self, Nat.zero_xor]

theorem moreN_mix (l m n : List Nat) (hm : m.length = l.length) (hn : n.length = l.length) : moreN 0 (mix3 l m n) = moreN 0 l ^^^ moreN 0 m ^^^ moreN 0 n := by
  unfold moreN
  simp only [Nat.zero_xor]
  have h := byts_mix3 4294967295 4294967295 4294967295 l m n hm hn
  rw [xor_three] at h
  rw [h]
  generalize byts 4294967295 l = x
  generalize byts 4294967295 m = y
  generalize byts 4294967295 n = z
  rw [xor_four x, Nat.xor_self, Nat.xor_zero]
  rw [Nat.xor_assoc (x ^^^ y) z]

end Go.Proofs.YtkfabocnhkmneaaDoor
