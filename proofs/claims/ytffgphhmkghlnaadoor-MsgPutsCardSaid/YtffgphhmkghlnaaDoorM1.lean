/- Messages: which may be, their bytes, their texts; plain mathematics. -/
import Derived.Test.YtffgphhmkghlnaaDoorHigh
import Derived.Test.YtffgphhmkghlnaaDoorReg
import Derived.Lib.ItoaNum
import Derived.Lib.ItoaLen
namespace Go.Proofs.YtffgphhmkghlnaaDoor
open Go.RowKit

structure Mg where
  k : Int
  e : Int
  n : Int
deriving DecidableEq

def rightM (m : Mg) : Bool := decide (1 ≤ m.k) && decide (m.k ≤ 9) && decide (0 ≤ m.e) && decide (m.e ≤ 65535) && decide (0 ≤ m.n) && decide (m.n ≤ 65535) && (decide (m.n = 0) || decide (m.k = 9))

theorem rightM_spec {m : Mg} : rightM m = true ↔ (1 ≤ m.k ∧ m.k ≤ 9) ∧ (0 ≤ m.e ∧ m.e ≤ 65535) ∧ (0 ≤ m.n ∧ m.n ≤ 65535) ∧ (m.n = 0 ∨ m.k = 9) := by
  simp only [rightM, Bool.and_eq_true, Bool.or_eq_true, decide_eq_true_eq, and_assoc]

def putM (K E N : Nat) : List Nat := K :: (highN E 2 ++ if K = 9 then highN N 2 else [])
def putMs (m : Mg) : ByteArray := textN (putM m.k.toNat m.e.toNat m.n.toNat)

/-- a kind's name -/
def nameL (k : Int) : List Nat :=
  if k = 1 then [102, 111, 114, 107] else if k = 2 then [116, 111, 107, 101, 110] else if k = 3 then [98, 111, 116, 116, 108, 101] else if k = 4 then [97, 115, 107]
  else if k = 5 then [110, 101, 119] else if k = 6 then [107, 110, 111, 119, 110] else if k = 7 then [99, 108, 111, 115, 101] else if k = 8 then [99, 108, 111, 115, 101, 100]
  else if k = 9 then [99, 111, 108, 111, 117, 114] else [63]
def nameS (k : Int) : ByteArray := textN (nameL k)
def itoaS (n : Int) : ByteArray := ⟨(Lib.itoa n).toArray⟩
def showS (m : Mg) : ByteArray := if m.k = 9 then nameS m.k ++ ⟨#[64]⟩ ++ itoaS m.e ++ ⟨#[32]⟩ ++ itoaS m.n else nameS m.k ++ ⟨#[64]⟩ ++ itoaS m.e

/-- the message that bytes are -/
def msOf (s : ByteArray) : Mg := ⟨((bl s).getD 0 0 : Nat), (numN (((bl s).drop 1).take 2) : Nat), (numN ((bl s).drop 3) : Nat)⟩
def gotM (s : ByteArray) : Bool := (decide (s.size = 3) || decide (s.size = 5)) && rightM (msOf s) && decide (putMs (msOf s) = s)
def getM (s : ByteArray) : Mg := if gotM s = true then msOf s else ⟨0, 0, 0⟩

theorem putM_lt {K E N : Nat} (h : K < 256) : ∀ b ∈ putM K E N, b < 256 := by
  intro b hb
  unfold putM at hb
  rw [List.mem_cons, List.mem_append] at hb
  rcases hb with rfl | hb | hb
  · exact h
  · exact highN_lt _ _ b hb
  · split at hb
    · exact highN_lt _ _ b hb
    · cases hb

theorem bl_putMs {m : Mg} (h : rightM m = true) : bl (putMs m) = putM m.k.toNat m.e.toNat m.n.toNat := bl_textN (putM_lt (by have := rightM_spec.1 h; omega))

theorem putMs_size {m : Mg} : (putMs m).size = if m.k.toNat = 9 then 5 else 3 := by
  unfold putMs
  rw [textN_size]
  unfold putM
  split <;> simp [highN_length]

/-- what is put is got again -/
theorem putM_got {m : Mg} (h : rightM m = true) : gotM (putMs m) = true ∧ getM (putMs m) = m := by
  obtain ⟨h1, h2, h3, h4⟩ := rightM_spec.1 h
  have hms : msOf (putMs m) = m := by
    unfold msOf
    rw [bl_putMs h]
    have hE : numN (highN m.e.toNat 2) = m.e.toNat := by rw [numN_highN, Nat.mod_eq_of_lt (by omega)]
    have hN : numN (highN m.n.toNat 2) = m.n.toNat := by rw [numN_highN, Nat.mod_eq_of_lt (by omega)]
    obtain ⟨k, e, n⟩ := m
    simp only at h1 h2 h3 h4 hE hN
    have d1 : (putM k.toNat e.toNat n.toNat).getD 0 0 = k.toNat := rfl
    have d2 : ((putM k.toNat e.toNat n.toNat).drop 1).take 2 = highN e.toNat 2 := rfl
    have d3 : (putM k.toNat e.toNat n.toNat).drop 3 = if k.toNat = 9 then highN n.toNat 2 else [] := rfl
    simp only [d1, d2, d3, hE, Mg.mk.injEq]
    refine ⟨by omega, by omega, ?_⟩
    by_cases h9 : k = 9
    · rw [if_pos (by omega), hN]; omega
    · rw [if_neg (by omega)]
      show ((0 : Nat) : Int) = n
      omega
  have hg : gotM (putMs m) = true := by
    unfold gotM
    rw [hms, h, decide_eq_true (show putMs m = putMs m from rfl), putMs_size]
    split <;> rfl
  exact ⟨hg, by unfold getM; rw [if_pos hg, hms]⟩

/-- nothing else is -/
theorem gotM_put {s : ByteArray} (h : gotM s = true) : rightM (getM s) = true ∧ putMs (getM s) = s := by
  unfold getM
  rw [if_pos h]
  simp only [gotM, Bool.and_eq_true, decide_eq_true_eq] at h
  exact ⟨h.1.2, h.2⟩

theorem putMs_inj {m n : Mg} (h : rightM m = true) (h2 : rightM n = true) : putMs m = putMs n ↔ m = n := by
  constructor
  · intro e
    rw [← (putM_got h).2, e, (putM_got h2).2]
  · intro e; rw [e]

/-! Numerals. -/
theorem dec_big {u : Nat} (h : ¬ u < 10) : Lib.decDigits u = Lib.decDigits (u / 10) ++ [UInt8.ofNat (48 + u % 10)] := by rw [Lib.decDigits, dif_neg h]
theorem dec_small {u : Nat} (h : u < 10) : Lib.decDigits u = [UInt8.ofNat (48 + u)] := by rw [Lib.decDigits, dif_pos h]

theorem dec_digit (u : Nat) : ∀ c ∈ Lib.decDigits u, 48 ≤ c.toNat ∧ c.toNat ≤ 57 := by
  induction u using Nat.strongRecOn with
  | ind u ih =>
    intro c hc
    by_cases h : u < 10
    · rw [dec_small h, List.mem_singleton] at hc
      subst hc
      simp
      omega
    · rw [dec_big h, List.mem_append, List.mem_singleton] at hc
      rcases hc with hc | rfl
      · exact ih _ (by omega) c hc
      · simp
        omega

def valD (l : List UInt8) : Nat := l.foldl (fun n c => n * 10 + (c.toNat - 48)) 0

theorem valD_dec (u : Nat) : valD (Lib.decDigits u) = u := by
  induction u using Nat.strongRecOn with
  | ind u ih =>
    by_cases h : u < 10
    · rw [dec_small h]
      simp [valD]
      omega
    · rw [dec_big h]
      have := ih (u / 10) (by omega)
      unfold valD at *
      rw [List.foldl_append, this]
      simp
      omega

theorem dec_inj {u v : Nat} (h : Lib.decDigits u = Lib.decDigits v) : u = v := by rw [← valD_dec u, h, valD_dec]

theorem itoa_pos {n : Int} (h : 0 ≤ n) : Lib.itoa n = Lib.decDigits n.toNat := by unfold Lib.itoa; rw [if_neg (by omega)]

theorem cut_at {α : Type} {x : α} : ∀ {a b c d : List α}, a ++ x :: b = c ++ x :: d → x ∉ a → x ∉ c → a = c ∧ b = d
  | [], b, [], d, h, _, _ => by simpa using h
  | [], b, y :: c, d, h, _, hc => by
    simp only [List.nil_append, List.cons_append, List.cons.injEq] at h
    exact absurd (h.1 ▸ List.mem_cons_self ..) hc
  | y :: a, b, [], d, h, ha, _ => by
    simp only [List.nil_append, List.cons_append, List.cons.injEq] at h
    exact absurd (h.1 ▸ List.mem_cons_self ..) ha
  | y :: a, b, z :: c, d, h, ha, hc => by
    simp only [List.cons_append, List.cons.injEq] at h
    obtain ⟨h1, h2⟩ := cut_at h.2 (fun m => ha (List.mem_cons_of_mem _ m)) (fun m => hc (List.mem_cons_of_mem _ m))
    exact ⟨by rw [h.1, h1], h2⟩

/-- bytes of a text -/
def by8 (s : ByteArray) : List UInt8 := s.data.toList
theorem by8_append (a b : ByteArray) : by8 (a ++ b) = by8 a ++ by8 b := by unfold by8; rw [ByteArray.data_append, Array.toList_append]
theorem by8_itoa (n : Int) : by8 (itoaS n) = Lib.itoa n := rfl
theorem by8_name (k : Int) : by8 (nameS k) = (nameL k).map UInt8.ofNat := rfl

theorem name_cases {P : List Nat → Prop} (k : Int) (h1 : P [102, 111, 114, 107]) (h2 : P [116, 111, 107, 101, 110]) (h3 : P [98, 111, 116, 116, 108, 101]) (h4 : P [97, 115, 107]) (h5 : P [110, 101, 119])
    (h6 : P [107, 110, 111, 119, 110]) (h7 : P [99, 108, 111, 115, 101]) (h8 : P [99, 108, 111, 115, 101, 100]) (h9 : P [99, 111, 108, 111, 117, 114]) (h0 : P [63]) : P (nameL k) := by
  unfold nameL
  repeat' split
  all_goals assumption

theorem name_no (k : Int) : (64 : UInt8) ∉ (nameL k).map UInt8.ofNat :=
  name_cases (P := fun l => (64 : UInt8) ∉ l.map UInt8.ofNat) k (by decide) (by decide) (by decide) (by decide) (by decide) (by decide) (by decide) (by decide) (by decide) (by decide)

theorem name_inj {k j : Int} (hk : 1 ≤ k ∧ k ≤ 9) (hj : 1 ≤ j ∧ j ≤ 9) (h : (nameL k).map UInt8.ofNat = (nameL j).map UInt8.ofNat) : k = j := by
  have hk' : k = 1 ∨ k = 2 ∨ k = 3 ∨ k = 4 ∨ k = 5 ∨ k = 6 ∨ k = 7 ∨ k = 8 ∨ k = 9 := by omega
  have hj' : j = 1 ∨ j = 2 ∨ j = 3 ∨ j = 4 ∨ j = 5 ∨ j = 6 ∨ j = 7 ∨ j = 8 ∨ j = 9 := by omega
  rcases hk' with rfl | rfl | rfl | rfl | rfl | rfl | rfl | rfl | rfl <;> rcases hj' with rfl | rfl | rfl | rfl | rfl | rfl | rfl | rfl | rfl <;> first | rfl | exact absurd h (by decide)

theorem by8_show (m : Mg) : by8 (showS m) = (nameL m.k).map UInt8.ofNat ++ 64 :: (Lib.itoa m.e ++ if m.k = 9 then 32 :: Lib.itoa m.n else []) := by
  unfold showS
  split
  · simp only [by8_append, by8_name, by8_itoa, List.append_assoc]
    rfl
  · simp only [by8_append, by8_name, by8_itoa, List.append_assoc, List.append_nil]
    rfl

theorem showS_inj {m n : Mg} (h : rightM m = true) (h2 : rightM n = true) : showS m = showS n ↔ m = n := by
  constructor
  · intro e
    obtain ⟨a1, a2, a3, a4⟩ := rightM_spec.1 h
    obtain ⟨b1, b2, b3, b4⟩ := rightM_spec.1 h2
    have e8 := congrArg by8 e
    rw [by8_show, by8_show] at e8
    obtain ⟨hn, hr⟩ := cut_at e8 (name_no _) (name_no _)
    have hk := name_inj a1 b1 hn
    obtain ⟨k, e, n0⟩ := m
    obtain ⟨j, e', n'⟩ := n
    simp only at *
    subst hk
    by_cases h9 : k = 9
    · rw [if_pos h9, if_pos h9, itoa_pos a2.1, itoa_pos b2.1, itoa_pos a3.1, itoa_pos b3.1] at hr
      have no32 : ∀ u, (32 : UInt8) ∉ Lib.decDigits u := fun u hm => by have := dec_digit u _ hm; simp at this
      obtain ⟨x1, x2⟩ := cut_at hr (no32 _) (no32 _)
      have := dec_inj x1
      have := dec_inj x2
      simp only [Mg.mk.injEq, true_and]
      omega
    · rw [if_neg h9, if_neg h9, List.append_nil, List.append_nil, itoa_pos a2.1, itoa_pos b2.1] at hr
      have := dec_inj hr
      simp only [Mg.mk.injEq, true_and]
      omega
  · intro e; rw [e]
end Go.Proofs.YtffgphhmkghlnaaDoor
