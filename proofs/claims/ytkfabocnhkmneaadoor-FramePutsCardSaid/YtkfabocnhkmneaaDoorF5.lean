/- Frames: what is put is got again, and nothing else; plain mathematics. -/
import Derived.Test.YtkfabocnhkmneaaDoorF4
namespace Go.Proofs.YtkfabocnhkmneaaDoor
open Go.RowKit

def putF (f : Fr) : ByteArray := if rightB f = true then putS f.k.toNat f.e.toNat f.q f.a f.b else ⟨#[]⟩
def putE (f : Fr) : Nat := if rightB f = true then 0 else 60

theorem right_spec {f : Fr} (h : rightB f = true) : 0 ≤ f.e ∧ f.e ≤ 65535 ∧ f.b.size ≤ 64 ∧ (f.k = 1 ∨ f.k = 2) := by
  simp only [rightB, Bool.and_eq_true, Bool.or_eq_true, decide_eq_true_eq] at h
  omega

theorem bl_putS {K E q a : Nat} {b : ByteArray} (hK : K < 256) : bl (putS K E q a b) = putL K E q a b ++ tailN (moreN 0 (putL K E q a b)) := by
  unfold putS
  rw [bl_append, bl_textN (putL_lt hK), bl_textN (tailN_lt (moreN_lt (by decide) (putL_lt hK)))]

theorem putL_length (K E q a : Nat) (b : ByteArray) : (putL K E q a b).length = 23 + b.size := by
  unfold putL
  simp only [List.length_append, List.length_cons, List.length_nil, highN_length, bl_length]

theorem putS_size {K E q a : Nat} {b : ByteArray} (hK : K < 256) : (putS K E q a b).size = 27 + b.size := by
  rw [← bl_length, bl_putS hK, List.length_append, putL_length]
  show 23 + b.size + 4 = _
  omega

theorem putL_is (K E q a : Nat) (b : ByteArray) : putL K E q a b = 78 :: 1 :: K :: (E / 256 ^ 1 % 256) :: (E / 256 ^ 0 % 256) :: (q / 256 ^ 7 % 256) :: (q / 256 ^ 6 % 256) :: (q / 256 ^ 5 % 256) :: (q / 256 ^ 4 % 256) :: (q / 256 ^ 3 % 256) :: (q / 256 ^ 2 % 256) :: (q / 256 ^ 1 % 256) :: (q / 256 ^ 0 % 256) :: (a / 256 ^ 7 % 256) :: (a / 256 ^ 6 % 256) :: (a / 256 ^ 5 % 256) :: (a / 256 ^ 4 % 256) :: (a / 256 ^ 3 % 256) :: (a / 256 ^ 2 % 256) :: (a / 256 ^ 1 % 256) :: (a / 256 ^ 0 % 256) :: (b.size / 256 ^ 1 % 256) :: (b.size / 256 ^ 0 % 256) :: bl b := rfl

/-- the places of a frame's bytes -/
theorem at_put (K E q a : Nat) (b : ByteArray) (t : List Nat) :
    (putL K E q a b ++ t).getD 0 0 = 78 ∧ (putL K E q a b ++ t).getD 1 0 = 1 ∧ (putL K E q a b ++ t).getD 2 0 = K ∧ ((putL K E q a b ++ t).drop 3).take 2 = highN E 2 ∧
    ((putL K E q a b ++ t).drop 5).take 8 = highN q 8 ∧ ((putL K E q a b ++ t).drop 13).take 8 = highN a 8 ∧ ((putL K E q a b ++ t).drop 21).take 2 = highN b.size 2 ∧ (putL K E q a b ++ t).drop 23 = bl b ++ t :=
  ⟨rfl, rfl, rfl, rfl, rfl, rfl, rfl, rfl⟩

theorem num_of {n m : Nat} (h : n < 256 ^ m) : numN (highN n m) = n := by rw [numN_highN, Nat.mod_eq_of_lt h]

theorem good_put {K E q a : Nat} {b : ByteArray} (hK : K < 256) : goodB (putS K E q a b) = true := by
  have := (good_with (textN (putL K E q a b))).1
  rwa [bl_textN (putL_lt hK)] at this

theorem fr_put {K E q a : Nat} {b : ByteArray} (hK : K < 256) (hE : E < 65536) (hq : q < 18446744073709551616) (ha : a < 18446744073709551616) : frOf (putS K E q a b) = ⟨K, E, q, a, b⟩ := by
  obtain ⟨_, _, h2, h3, h4, h5, _, h7⟩ := at_put K E q a b (tailN (moreN 0 (putL K E q a b)))
  have h8 : (putS K E q a b).extract 23 ((putS K E q a b).size - 4) = b := by
    apply bl_inj
    rw [bl_extract, bl_putS hK, h7, putS_size hK]
    have : 27 + b.size - 4 - 23 = (bl b).length := by rw [bl_length]; omega
    rw [this, List.take_left]
  unfold frOf
  rw [h8, bl_putS hK, h2, h3, h4, h5, num_of (show E < 256 ^ 2 by omega), num_of (show q < 256 ^ 8 by omega), num_of (show a < 256 ^ 8 by omega)]

theorem what_of {s : ByteArray} (h : ¬ s.size < 27) (h0 : (bl s).getD 0 0 = 78) (h1 : (bl s).getD 1 0 = 1) (h2 : numN (((bl s).drop 21).take 2) = s.size - 27) (h3 : goodB s = true) (h4 : rightB (frOf s) = true) : whatN s = 0 := by
  unfold whatN
  rw [if_neg h, if_neg (by simpa using h0), if_neg (by simpa using h1), if_neg (by simpa using h2), if_neg (by rw [h3]; decide), if_neg (by rw [h4]; decide)]

theorem what_zero {s : ByteArray} (h : whatN s = 0) : ¬ s.size < 27 ∧ (bl s).getD 0 0 = 78 ∧ (bl s).getD 1 0 = 1 ∧ numN (((bl s).drop 21).take 2) = s.size - 27 ∧ goodB s = true ∧ rightB (frOf s) = true := by
  unfold whatN at h
  split at h
  · cases h
  split at h
  · cases h
  split at h
  · cases h
  split at h
  · cases h
  split at h
  · cases h
  split at h
  · cases h
  rename_i h0 h1 h2 h3 h4 h5
  exact ⟨h0, by simpa using h1, by simpa using h2, by simpa using h3, by simpa using h4, by simpa using h5⟩

theorem where_zero {s : ByteArray} (h : whatN s = 0) : whereN s = 0 := by
  obtain ⟨h, h0, h1, h2, h3, h4⟩ := what_zero h
  unfold whereN
  rw [if_neg h, if_neg (by simpa using h0), if_neg (by simpa using h1), if_neg (by simpa using h2), if_neg (by rw [h3]; decide), if_neg (by rw [h4]; decide)]

theorem where_le (s : ByteArray) : whereN s ≤ s.size := by
  unfold whereN
  split
  · omega
  split
  · omega
  split
  · omega
  split
  · omega
  split
  · omega
  split <;> omega

/-- what is put is got again -/
theorem put_get {f : Fr} (hq : f.q < 18446744073709551616) (ha : f.a < 18446744073709551616) (h : rightB f = true) : whatN (putF f) = 0 ∧ getF (putF f) = f := by
  obtain ⟨h1, h2, h3, h4⟩ := right_spec h
  have hK : f.k.toNat < 256 := by omega
  have hE : f.e.toNat < 65536 := by omega
  have hp : putF f = putS f.k.toNat f.e.toNat f.q f.a f.b := by unfold putF; rw [if_pos h]
  have hf : frOf (putF f) = f := by
    rw [hp, fr_put hK hE hq ha]
    obtain ⟨k, e, q, a, b⟩ := f
    simp only [Fr.mk.injEq, and_self, and_true]
    simp only at h1 h4
    omega
  obtain ⟨g0, g1, _, _, _, _, g6, _⟩ := at_put f.k.toNat f.e.toNat f.q f.a f.b (tailN (moreN 0 (putL f.k.toNat f.e.toNat f.q f.a f.b)))
  have hw : whatN (putF f) = 0 := by
    refine what_of ?_ ?_ ?_ ?_ ?_ (by rw [hf]; exact h)
    · rw [hp, putS_size hK]; omega
    · rw [hp, bl_putS hK]; exact g0
    · rw [hp, bl_putS hK]; exact g1
    · rw [hp, bl_putS hK, g6, putS_size hK, num_of (show f.b.size < 256 ^ 2 by omega)]; omega
    · rw [hp]; exact good_put hK
  exact ⟨hw, by unfold getF; rw [if_pos hw, hf]⟩

theorem list_parts {l : List Nat} (h : 23 ≤ l.length) : l = [l.getD 0 0, l.getD 1 0, l.getD 2 0] ++ (l.drop 3).take 2 ++ (l.drop 5).take 8 ++ (l.drop 13).take 8 ++ (l.drop 21).take 2 ++ l.drop 23 := by
  obtain ⟨x0, l0, rfl⟩ : ∃ x r, l = x :: r := by
    cases l with
    | nil => simp at h
    | cons x r => exact ⟨x, r, rfl⟩
  obtain ⟨x1, l1, rfl⟩ : ∃ x r, l0 = x :: r := by
    cases l0 with
    | nil => simp at h
    | cons x r => exact ⟨x, r, rfl⟩
  obtain ⟨x2, l2, rfl⟩ : ∃ x r, l1 = x :: r := by
    cases l1 with
    | nil => simp at h
    | cons x r => exact ⟨x, r, rfl⟩
  obtain ⟨x3, l3, rfl⟩ : ∃ x r, l2 = x :: r := by
    cases l2 with
    | nil => simp at h
    | cons x r => exact ⟨x, r, rfl⟩
  obtain ⟨x4, l4, rfl⟩ : ∃ x r, l3 = x :: r := by
    cases l3 with
    | nil => simp at h
    | cons x r => exact ⟨x, r, rfl⟩
  obtain ⟨x5, l5, rfl⟩ : ∃ x r, l4 = x :: r := by
    cases l4 with
    | nil => simp at h
    | cons x r => exact ⟨x, r, rfl⟩
  obtain ⟨x6, l6, rfl⟩ : ∃ x r, l5 = x :: r := by
    cases l5 with
    | nil => simp at h
    | cons x r => exact ⟨x, r, rfl⟩
  obtain ⟨x7, l7, rfl⟩ : ∃ x r, l6 = x :: r := by
    cases l6 with
    | nil => simp at h
    | cons x r => exact ⟨x, r, rfl⟩
  obtain ⟨x8, l8, rfl⟩ : ∃ x r, l7 = x :: r := by
    cases l7 with
    | nil => simp at h
    | cons x r => exact ⟨x, r, rfl⟩
  obtain ⟨x9, l9, rfl⟩ : ∃ x r, l8 = x :: r := by
    cases l8 with
    | nil => simp at h
    | cons x r => exact ⟨x, r, rfl⟩
  obtain ⟨x10, l10, rfl⟩ : ∃ x r, l9 = x :: r := by
    cases l9 with
    | nil => simp at h
    | cons x r => exact ⟨x, r, rfl⟩
  obtain ⟨x11, l11, rfl⟩ : ∃ x r, l10 = x :: r := by
    cases l10 with
    | nil => simp at h
    | cons x r => exact ⟨x, r, rfl⟩
  obtain ⟨x12, l12, rfl⟩ : ∃ x r, l11 = x :: r := by
    cases l11 with
    | nil => simp at h
    | cons x r => exact ⟨x, r, rfl⟩
  obtain ⟨x13, l13, rfl⟩ : ∃ x r, l12 = x :: r := by
    cases l12 with
    | nil => simp at h
    | cons x r => exact ⟨x, r, rfl⟩
  obtain ⟨x14, l14, rfl⟩ : ∃ x r, l13 = x :: r := by
    cases l13 with
    | nil => simp at h
    | cons x r => exact ⟨x, r, rfl⟩
  obtain ⟨x15, l15, rfl⟩ : ∃ x r, l14 = x :: r := by
    cases l14 with
    | nil => simp at h
    | cons x r => exact ⟨x, r, rfl⟩
  obtain ⟨x16, l16, rfl⟩ : ∃ x r, l15 = x :: r := by
    cases l15 with
    | nil => simp at h
    | cons x r => exact ⟨x, r, rfl⟩
  obtain ⟨x17, l17, rfl⟩ : ∃ x r, l16 = x :: r := by
    cases l16 with
    | nil => simp at h
    | cons x r => exact ⟨x, r, rfl⟩
  obtain ⟨x18, l18, rfl⟩ : ∃ x r, l17 = x :: r := by
    cases l17 with
    | nil => simp at h
    | cons x r => exact ⟨x, r, rfl⟩
  obtain ⟨x19, l19, rfl⟩ : ∃ x r, l18 = x :: r := by
    cases l18 with
    | nil => simp at h
    | cons x r => exact ⟨x, r, rfl⟩
  obtain ⟨x20, l20, rfl⟩ : ∃ x r, l19 = x :: r := by
    cases l19 with
    | nil => simp at h
    | cons x r => exact ⟨x, r, rfl⟩
  obtain ⟨x21, l21, rfl⟩ : ∃ x r, l20 = x :: r := by
    cases l20 with
    | nil => simp at h
    | cons x r => exact ⟨x, r, rfl⟩
  obtain ⟨x22, l22, rfl⟩ : ∃ x r, l21 = x :: r := by
    cases l21 with
    | nil => simp at h
    | cons x r => exact ⟨x, r, rfl⟩
  rfl

/-- nothing else is got -/
theorem get_put {s : ByteArray} (h : whatN s = 0) : rightB (frOf s) = true ∧ putF (frOf s) = s := by
  obtain ⟨h, h0, h1, h2, h3, h4⟩ := what_zero h
  refine ⟨h4, ?_⟩
  have hlt : ∀ b ∈ bl s, b < 256 := bl_lt s
  have hl := bl_length s
  have hx : ∀ i j, ∀ b ∈ ((bl s).drop i).take j, b < 256 := fun i j b hb => hlt b (List.mem_of_mem_drop (List.mem_of_mem_take hb))
  have hh : ∀ i j, i + j ≤ s.size → highN (numN (((bl s).drop i).take j)) j = ((bl s).drop i).take j := fun i j hij => by
    have := highN_numN (hx i j)
    rwa [List.length_take, List.length_drop, hl, Nat.min_eq_left (by omega)] at this
  have hp := list_parts (l := bl s) (by omega)
  have hb : (s.extract 23 (s.size - 4)).size = s.size - 27 := by rw [ByteArray.size_extract]; omega
  have hbl : bl (s.extract 23 (s.size - 4)) = ((bl s).drop 23).take (s.size - 4 - 23) := bl_extract _ _ _
  have hg := good_is h3
  have hgs : goodS s = s.extract 0 (s.size - 4) := by unfold goodS; rw [if_pos h3]; rfl
  have hput : putL ((bl s).getD 2 0) (numN (((bl s).drop 3).take 2)) (numN (((bl s).drop 5).take 8)) (numN (((bl s).drop 13).take 8)) (s.extract 23 (s.size - 4)) = bl (goodS s) := by
    unfold putL
    rw [hb, ← h2, hh 3 2 (by omega), hh 5 8 (by omega), hh 13 8 (by omega), hh 21 2 (by omega), hbl, hgs, bl_extract, List.drop_zero, Nat.sub_zero]
    have e : s.size - 4 = 23 + (s.size - 4 - 23) := by omega
    have h23 : (bl s).take 23 = [78, 1, (bl s).getD 2 0] ++ ((bl s).drop 3).take 2 ++ ((bl s).drop 5).take 8 ++ ((bl s).drop 13).take 8 ++ ((bl s).drop 21).take 2 := by
      rw [← h0, ← h1]
      have := congrArg (List.take 23) hp
      rw [this]
      have hlen : ([(bl s).getD 0 0, (bl s).getD 1 0, (bl s).getD 2 0] ++ ((bl s).drop 3).take 2 ++ ((bl s).drop 5).take 8 ++ ((bl s).drop 13).take 8 ++ ((bl s).drop 21).take 2).length = 23 := by
        simp only [List.length_append, List.length_cons, List.length_nil, List.length_take, List.length_drop, hl]
        omega
      exact List.take_left' hlen
    conv => rhs; rw [e, List.take_add]
    rw [h23]
  have hK : (bl s).getD 2 0 < 256 := by
    have : 2 < (bl s).length := by omega
    rw [List.getD_eq_getElem?_getD, List.getElem?_eq_getElem this]
    exact hlt _ (List.getElem_mem this)
  unfold putF
  rw [if_pos h4]
  show putS ((bl s).getD 2 0) (numN (((bl s).drop 3).take 2)) (numN (((bl s).drop 5).take 8)) (numN (((bl s).drop 13).take 8)) (s.extract 23 (s.size - 4)) = s
  unfold putS
  rw [hput, textN_bl]
  exact hg

theorem one_other {l : List Nat} (hl : ∀ b ∈ l, b < 256) {k d : Nat} (hk : k < l.length) (hd : d < 256) (h0 : d ≠ 0) : moreN 0 (l.set k (l.getD k 0 ^^^ d)) ≠ moreN 0 l := by
  obtain ⟨u, m, a, rfl, rfl⟩ : ∃ u m a, l = u ++ a :: m ∧ k = u.length := by
    refine ⟨l.take k, l.drop (k + 1), l[k], ?_, by rw [List.length_take]; omega⟩
    rw [← List.drop_eq_getElem_cons hk, List.take_append_drop]
  have ha : a < 256 := hl a (by simp)
  have hu : ∀ x ∈ u, x < 256 := fun x hx => hl x (by simp [hx])
  have hm : ∀ x ∈ m, x < 256 := fun x hx => hl x (by simp [hx])
  have e1 : (u ++ a :: m).getD u.length 0 = a := by simp [List.getD]
  have e2 : ∀ y, (u ++ a :: m).set u.length y = u ++ y :: m := fun y => by simp
  rw [e1, e2]
  intro h
  have h2 : ∀ x z : Nat, x ^^^ 4294967295 = z ^^^ 4294967295 → x = z := fun x z e => by rw [← xor_twice x 4294967295, e, xor_twice]
  unfold moreN at h
  have h := h2 _ _ h
  rw [byts_append, byts_append] at h
  have hc : byts (0 ^^^ 4294967295) u < 4294967296 := byts_lt (by decide) hu
  have hx : a ^^^ d < 256 := by
    have : a ^^^ d < 2 ^ 8 := Nat.xor_lt_two_pow (by omega) (by omega)
    omega
  have h3 : byt (byts (0 ^^^ 4294967295) u) (a ^^^ d) = byt (byts (0 ^^^ 4294967295) u) a := by
    refine byts_inj (byt_lt hc hx) (byt_lt hc ha) hm ?_
    exact h
  unfold byt at h3
  generalize byts (0 ^^^ 4294967295) u = c at *
  have hb : ∀ y, y < 256 → c ^^^ y < 4294967296 := fun y hy => by
    have : c ^^^ y < 2 ^ 32 := Nat.xor_lt_two_pow (by omega) (by omega)
    omega
  have h4 := shN_inj 8 (hb _ hx) (hb _ ha) h3
  have h5 : c ^^^ (c ^^^ (a ^^^ d)) = c ^^^ (c ^^^ a) := by rw [h4]
  rw [← Nat.xor_assoc, Nat.xor_self, Nat.zero_xor, ← Nat.xor_assoc, Nat.xor_self, Nat.zero_xor] at h5
  have h6 : a ^^^ (a ^^^ d) = a ^^^ a := by rw [h5]
  rw [← Nat.xor_assoc, Nat.xor_self, Nat.zero_xor] at h6
  exact h0 h6

/-- the bytes, one of them another one -/
def oneB (s : ByteArray) (k d : Nat) : ByteArray := textN ((bl s).set k ((bl s).getD k 0 ^^^ d))

theorem xor_ne {x d : Nat} (h : d ≠ 0) : x ^^^ d ≠ x := fun e => by
  have h6 : x ^^^ (x ^^^ d) = x ^^^ x := by rw [e]
  rw [← Nat.xor_assoc, Nat.xor_self, Nat.zero_xor] at h6
  exact h h6

theorem xor_lt256 {x d : Nat} (hx : x < 256) (hd : d < 256) : x ^^^ d < 256 := by
  have : x ^^^ d < 2 ^ 8 := Nat.xor_lt_two_pow (by omega) (by omega)
  omega

theorem bl_oneB {s : ByteArray} {k d : Nat} (hd : d < 256) : bl (oneB s k d) = (bl s).set k ((bl s).getD k 0 ^^^ d) := by
  refine bl_textN fun b hb => ?_
  rcases List.mem_or_eq_of_mem_set hb with h | rfl
  · exact bl_lt s b h
  · refine xor_lt256 ?_ hd
    by_cases hk : k < (bl s).length
    · rw [List.getD_eq_getElem?_getD, List.getElem?_eq_getElem hk]
      exact bl_lt s _ (List.getElem_mem hk)
    · rw [List.getD_eq_getElem?_getD, List.getElem?_eq_none (by omega)]
      decide

/-- bytes of which one is another one are no frame -/
theorem turned_none {s : ByteArray} (hs : whatN s = 0) {k d : Nat} (hk : k < s.size) (hd : d < 256) (h0 : d ≠ 0) : whatN (oneB s k d) ≠ 0 := by
  intro h
  obtain ⟨a0, a1, a2, a3, a4, _⟩ := what_zero hs
  obtain ⟨b0, b1, b2, b3, b4, _⟩ := what_zero h
  have hl := bl_length s
  have hsz : (oneB s k d).size = s.size := by rw [← bl_length, bl_oneB hd, List.length_set, hl]
  rw [bl_oneB hd] at b1 b2 b3
  have hg : ∀ i, i < s.size → ((bl s).set k ((bl s).getD k 0 ^^^ d)).getD i 0 = if i = k then (bl s).getD k 0 ^^^ d else (bl s).getD i 0 := fun i hi => by
    by_cases hik : i = k
    · subst hik
      simp [List.getD, hl, hi]
    · rw [if_neg hik, List.getD_eq_getElem?_getD, List.getElem?_set_ne (Ne.symm hik), ← List.getD_eq_getElem?_getD]
  have two : ∀ (l : List Nat), 23 ≤ l.length → (l.drop 21).take 2 = [l.getD 21 0, l.getD 22 0] := fun l h => by
    have h1 : 21 < l.length := by omega
    have h2 : 22 < l.length := by omega
    have e : l.drop 21 = l[21] :: l[22] :: l.drop 23 := by rw [List.drop_eq_getElem_cons h1, List.drop_eq_getElem_cons h2]
    rw [e, List.getD_eq_getElem?_getD, List.getD_eq_getElem?_getD, List.getElem?_eq_getElem h1, List.getElem?_eq_getElem h2]
    rfl
  have numtwo : ∀ x y : Nat, numN [x, y] = x * 256 + y := fun x y => by simp [numN]
  have ltg : ∀ i, (bl s).getD i 0 < 256 := fun i => by
    by_cases hi : i < (bl s).length
    · rw [List.getD_eq_getElem?_getD, List.getElem?_eq_getElem hi]
      exact bl_lt s _ (List.getElem_mem hi)
    · rw [List.getD_eq_getElem?_getD, List.getElem?_eq_none (by omega)]
      decide
  by_cases k0 : k = 0
  · subst k0
    rw [hg 0 hk, if_pos rfl, a1] at b1
    exact xor_ne h0 b1
  by_cases k1 : k = 1
  · subst k1
    rw [hg 1 hk, if_pos rfl, a2] at b2
    exact xor_ne h0 b2
  by_cases k2 : k = 21
  · subst k2
    rw [two _ (by rw [List.length_set]; omega), hg 21 hk, if_pos rfl, hg 22 (by omega), if_neg (by decide), hsz, ← a3, two _ (by omega), numtwo, numtwo] at b3
    have := ltg 22
    exact xor_ne h0 (show (bl s).getD 21 0 ^^^ d = (bl s).getD 21 0 by omega)
  by_cases k3 : k = 22
  · subst k3
    rw [two _ (by rw [List.length_set]; omega), hg 22 hk, if_pos rfl, hg 21 (by omega), if_neg (by decide), hsz, ← a3, two _ (by omega), numtwo, numtwo] at b3
    exact xor_ne h0 (show (bl s).getD 22 0 ^^^ d = (bl s).getD 22 0 by omega)
  -- the sum
  unfold goodB at a4 b4
  rw [Bool.and_eq_true, decide_eq_true_eq, decide_eq_true_eq] at a4 b4
  have c1 := congrArg bl a4.2
  have c2 := congrArg bl b4.2
  have ba : ∀ t : ByteArray, bl (ahead t) = (bl t).take (t.size - 4) := fun t => by unfold ahead; rw [bl_extract, List.drop_zero, Nat.sub_zero]
  have bz : ∀ t : ByteArray, bl (last4 t) = ((bl t).drop (t.size - 4)).take 4 := fun t => by
    unfold last4
    rw [bl_extract]
    by_cases h4 : 4 ≤ t.size
    · rw [show t.size - (t.size - 4) = 4 by omega]
    · rw [show t.size - 4 = 0 by omega, List.drop_zero, Nat.sub_zero, List.take_of_length_le (by rw [bl_length]; exact Nat.le_refl _), List.take_of_length_le (by rw [bl_length]; omega)]
  have mlt : ∀ t : ByteArray, moreN 0 (bl t) < 4294967296 := sum_lt
  rw [bl_textN (tailN_lt (mlt _)), bz] at c1 c2
  rw [hsz, bl_oneB hd] at c2
  rw [ba] at c1
  have hc2 : moreN 0 (bl (ahead (oneB s k d))) = moreN 0 (((bl s).set k ((bl s).getD k 0 ^^^ d)).take (s.size - 4)) := by rw [ba, hsz, bl_oneB hd]
  rw [hc2] at c2
  by_cases hk4 : k < s.size - 4
  · rw [List.drop_set_of_lt hk4, c1] at c2
    have hlt2 : ∀ b ∈ (bl s).take (s.size - 4), b < 256 := fun b hb => bl_lt s b (List.mem_of_mem_take hb)
    have hts : ((bl s).set k ((bl s).getD k 0 ^^^ d)).take (s.size - 4) = ((bl s).take (s.size - 4)).set k (((bl s).take (s.size - 4)).getD k 0 ^^^ d) := by
      rw [List.take_set]
      congr 2
      simp [List.getD, hk4]
    rw [hts] at c2
    have hlt3 : ∀ b ∈ ((bl s).take (s.size - 4)).set k (((bl s).take (s.size - 4)).getD k 0 ^^^ d), b < 256 := fun b hb => by
      rcases List.mem_or_eq_of_mem_set hb with h | rfl
      · exact hlt2 b h
      · refine xor_lt256 ?_ hd
        rw [List.getD_eq_getElem?_getD, List.getElem?_take_of_lt hk4, ← List.getD_eq_getElem?_getD]
        exact ltg k
    have e := tail_inj (moreN_lt (c := 0) (by decide) hlt2) (moreN_lt (c := 0) (by decide) hlt3) (by rw [c2])
    exact one_other hlt2 (by rw [List.length_take]; omega) hd h0 e.symm
  · have e : (((bl s).set k ((bl s).getD k 0 ^^^ d)).take (s.size - 4)) = (bl s).take (s.size - 4) := by
      rw [List.take_set, List.set_eq_of_length_le (by rw [List.length_take]; omega)]
    rw [e, ← c1] at c2
    have hd1 : ((bl s).set k ((bl s).getD k 0 ^^^ d)).drop (s.size - 4) = ((bl s).drop (s.size - 4)).set (k - (s.size - 4)) ((bl s).getD k 0 ^^^ d) := by
      rw [List.drop_set, if_neg hk4]
    rw [hd1] at c2
    have h4 : ((bl s).drop (s.size - 4)).length = 4 := by rw [List.length_drop, hl]; omega
    rw [List.take_of_length_le (by rw [List.length_set, h4]; exact Nat.le_refl _), List.take_of_length_le (by rw [h4]; exact Nat.le_refl _)] at c2
    have c3 := congrArg (fun l => l.getD (k - (s.size - 4)) 0) c2
    have hi : k - (s.size - 4) < ((bl s).drop (s.size - 4)).length := by rw [h4]; omega
    have e3 : ((bl s).drop (s.size - 4)).getD (k - (s.size - 4)) 0 = (bl s).getD k 0 := by
      rw [List.getD_eq_getElem?_getD, List.getElem?_drop, show s.size - 4 + (k - (s.size - 4)) = k by omega, ← List.getD_eq_getElem?_getD]
    have e4 : ∀ y, (((bl s).drop (s.size - 4)).set (k - (s.size - 4)) y).getD (k - (s.size - 4)) 0 = y := fun y => by
      rw [List.getD_eq_getElem?_getD, List.getElem?_set_self hi]; rfl
    rw [e3, e4] at c3
    exact xor_ne h0 c3

/-- cut ones neither -/
theorem cut_none {s : ByteArray} (hs : whatN s = 0) {k : Nat} (hk : k < s.size) : whatN (s.extract 0 k) ≠ 0 := by
  intro h
  obtain ⟨a0, _, _, a3, _⟩ := what_zero hs
  obtain ⟨b0, _, _, b3, _⟩ := what_zero h
  have hsz : (s.extract 0 k).size = k := by rw [ByteArray.size_extract]; omega
  rw [hsz] at b0 b3
  rw [bl_extract, List.drop_zero, Nat.sub_zero, List.drop_take, List.take_take, Nat.min_eq_left (by omega), a3] at b3
  omega

/-- and longer ones -/
theorem more_none {s : ByteArray} (hs : whatN s = 0) (t : ByteArray) (ht : t.size = 1) : whatN (s ++ t) ≠ 0 := by
  intro h
  obtain ⟨a0, _, _, a3, _⟩ := what_zero hs
  obtain ⟨b0, _, _, b3, _⟩ := what_zero h
  have hsz : (s ++ t).size = s.size + 1 := by rw [ByteArray.size_append, ht]
  have hl := bl_length s
  rw [hsz] at b0 b3
  rw [bl_append, List.drop_append_of_le_length (by omega), List.take_append_of_le_length (by rw [List.length_drop]; omega), a3] at b3
  omega

theorem putF_inj {f g : Fr} (hq : f.q < 18446744073709551616) (ha : f.a < 18446744073709551616) (hf : rightB f = true) (hq2 : g.q < 18446744073709551616) (ha2 : g.a < 18446744073709551616) (hg : rightB g = true) : putF f = putF g ↔ f = g := by
  constructor
  · intro h
    rw [← (put_get hq ha hf).2, h, (put_get hq2 ha2 hg).2]
  · intro h
    rw [h]

theorem putF_size {f : Fr} (hf : rightB f = true) : (putF f).size = 27 + f.b.size := by
  obtain ⟨_, _, _, h4⟩ := right_spec hf
  unfold putF
  rw [if_pos hf, putS_size (by omega)]
end Go.Proofs.YtkfabocnhkmneaaDoor
