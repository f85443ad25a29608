/- What the program's messages answer: numbers of two bytes, and the message that bytes are. -/
import Derived.Test.YtffgphhmkghlnaaDoorMP2
namespace Go.Proofs.YtffgphhmkghlnaaDoor
open Go.RowKit

set_option linter.unusedVariables false

theorem shl_or (x b : Nat) (hb : b < 256) : x * 256 ||| b = x * 256 + b := by
  have h := Nat.shiftLeft_add_eq_or_of_lt (i := 8) (b := b) (by simpa using hb) x
  rw [Nat.shiftLeft_eq] at h
  exact h.symm

theorem num2 {l : List Nat} {i : Nat} (h : i + 1 < l.length) : numN ((l.drop i).take 2) = l.getD i 0 * 256 + l.getD (i + 1) 0 := by
  have h1 : i < l.length := by omega
  have e : (l.drop i).take 2 = [l[i], l[i + 1]] := by rw [List.drop_eq_getElem_cons h1, List.drop_eq_getElem_cons h]; rfl
  rw [e]
  simp [numN, List.getD, h, h1]

set_option maxHeartbeats 800000 in
theorem readTwo_any (w : World) (s : ByteArray) (i : Nat) (h : i + 1 < s.size) (hs : s.size ≤ 9223372036854775807) :
    Calls Tryd.prog 24 #[.string s, .int .i64 (i : Int)] w fun ev w' => ev = .returned (.int .i64 (numN (((bl s).drop i).take 2) : Nat)) ∧ Ext w w' := by
  have h1 : i < s.size := by omega
  have b0 := bl_at s h1
  have b1 := bl_at s h
  have hn := num2 (l := bl s) (i := i) (by rw [bl_length]; exact h)
  have t0 : (s[i]'h1).toNat < 256 := (s[i]'h1).toNat_lt
  have t1 : (s[i + 1]'h).toNat < 256 := (s[i + 1]'h).toNat_lt
  obtain ⟨A, hA⟩ : ∃ A, A = (bl s).getD i 0 := ⟨_, rfl⟩
  obtain ⟨B, hB⟩ : ∃ B, B = (bl s).getD (i + 1) 0 := ⟨_, rfl⟩
  rw [← hA] at b0 hn
  rw [← hB] at b1 hn
  rw [b0] at t0
  rw [b1] at t1
  have e1 : bits .or .i64 ((A : Int) * 256) (B : Int) = ((A * 256 + B : Nat) : Int) := by
    have hx : A * 256 ||| B < 65536 := by rw [shl_or A B t1]; omega
    rw [← shl_or A B t1, show (A : Int) * 256 = ((A * 256 : Nat) : Int) by omega]
    show IntKind.i64.wrap ((BitVec.ofInt 64 ((A * 256 : Nat) : Int) ||| BitVec.ofInt 64 (B : Int)).toNat : Int) = _
    rw [BitVec.toNat_or, ofInt_u64 _ (by omega), ofInt_u64 _ (by omega), wrapN _ (by omega) (by omega)]
  have e2 : IntKind.i64.wrap ((A : Int) * 256) = (A : Int) * 256 := wrapN _ (by omega) (by omega)
  have e3 : IntKind.i64.wrap ((i : Int) + 1) = (i : Int) + 1 := wrapN _ (by omega) (by omega)
  have e4 : IntKind.i64.wrap (A : Int) = (A : Int) := wrapN _ (by omega) (by omega)
  have e5 : IntKind.i64.wrap (B : Int) = (B : Int) := wrapN _ (by omega) (by omega)
  have HN := Lib.hid hn
  obtain ⟨F, hF⟩ : ∃ F, F = A * 256 + B := ⟨_, rfl⟩
  rw [← hF] at e1
  have HF := Lib.hid hF
  clear hA hB hn hF
  have i1 : (i : Int) < (s.size : Int) := by omega
  have i3 : (0 : Int) ≤ (i : Int) + 1 := by omega
  have i2 : (i : Int) + 1 < (s.size : Int) := by omega
  go_enter Tryd.func24, Tryd.ntmps24
  go_wp2_with fail
  refine wp_region_M_lit (by kernel_rfl) ?_
  (refine takeV 0 (v := ?_) (by simp only [List.getElem?_toArray, List.getElem?_cons, reduceIte]; rfl) (by kernel_rfl) (by rfl) (fun w' hw' => ?_) ?_; rotate_left; focus (skip; go_simp; first | done | with_reducible rfl)); (simp only [Act.put, List.setIfInBounds_toArray, List.set])
  (refine takeV 1 (v := ?_) (by simp only [List.getElem?_toArray, List.getElem?_cons, reduceIte]; rfl) (by kernel_rfl) (by rfl) (fun w' hw' => ?_) ?_; rotate_left; focus (skip; go_simp; first | done | with_reducible rfl)); (simp only [Act.put, List.setIfInBounds_toArray, List.set])
  (refine takeV 2 (v := ?_) (by simp only [List.getElem?_toArray, List.getElem?_cons, reduceIte]; rfl) (by kernel_rfl) (by rfl) (fun w' hw' => ?_) ?_; rotate_left; focus (skip; go_simp; first | done | with_reducible rfl)); (simp only [Act.put, List.setIfInBounds_toArray, List.set])
  (refine takeV 3 (v := ?_) (by simp only [List.getElem?_toArray, List.getElem?_cons, reduceIte]; rfl) (by kernel_rfl) (by rfl) (fun w' hw' => ?_) ?_; rotate_left; focus (skip; go_simp; first | done | with_reducible rfl)); (simp only [Act.put, List.setIfInBounds_toArray, List.set])
  (refine takeV 4 (v := ?_) (by simp only [List.getElem?_toArray, List.getElem?_cons, reduceIte]; rfl) (by kernel_rfl) (by rfl) (fun w' hw' => ?_) ?_; rotate_left; focus (skip; go_simp; first | done | with_reducible rfl)); (simp only [Act.put, List.setIfInBounds_toArray, List.set])
  (refine takeV 5 (v := ?_) (by simp only [List.getElem?_toArray, List.getElem?_cons, reduceIte]; rfl) (by kernel_rfl) (by rfl) (fun w' hw' => ?_) ?_; rotate_left; focus (skip; go_simp; first | done | with_reducible rfl)); (simp only [Act.put, List.setIfInBounds_toArray, List.set])
  (refine takeV 6 (v := ?_) (by simp only [List.getElem?_toArray, List.getElem?_cons, reduceIte]; rfl) (by kernel_rfl) (by rfl) (fun w' hw' => ?_) ?_; rotate_left; focus (skip; go_simp; first | done | with_reducible rfl)); (simp only [Act.put, List.setIfInBounds_toArray, List.set])
  (refine takeV 7 (v := ?_) (by simp only [List.getElem?_toArray, List.getElem?_cons, reduceIte]; rfl) (by kernel_rfl) (by rfl) (fun w' hw' => ?_) ?_; rotate_left; focus (skip; go_simp; first | done | with_reducible rfl)); (simp only [Act.put, List.setIfInBounds_toArray, List.set])
  (refine takeV 8 (v := ?_) (by simp only [List.getElem?_toArray, List.getElem?_cons, reduceIte]; rfl) (by kernel_rfl) (by rfl) (fun w' hw' => ?_) ?_; rotate_left; focus (skip; go_simp; first | done | with_reducible rfl)); (simp only [Act.put, List.setIfInBounds_toArray, List.set])
  (refine takeV 9 (v := ?_) (by simp only [List.getElem?_toArray, List.getElem?_cons, reduceIte]; rfl) (by kernel_rfl) (by rfl) (fun w' hw' => ?_) ?_; rotate_left; focus (skip; go_simp; first | done | with_reducible rfl)); (simp only [Act.put, List.setIfInBounds_toArray, List.set])
  (refine takeV 10 (v := ?_) (by simp only [List.getElem?_toArray, List.getElem?_cons, reduceIte]; rfl) (by kernel_rfl) (by rfl) (fun w' hw' => ?_) ?_; rotate_left; focus (skip; go_simp; first | done | with_reducible rfl)); (simp only [Act.put, List.setIfInBounds_toArray, List.set])
  (refine takeV 11 (v := ?_) (by simp only [List.getElem?_toArray, List.getElem?_cons, reduceIte]; rfl) (by kernel_rfl) (by rfl) (fun w' hw' => ?_) ?_; rotate_left; focus (skip; go_simp; first | done | with_reducible rfl)); (simp only [Act.put, List.setIfInBounds_toArray, List.set])
  (refine doneM (by kernel_rfl) ?_; intro w' hw'; show _)
  go_wp2
  go_ret
  exact ⟨by rw [HN.out, ← HF.out, ← e1]; rfl, hw'⟩

theorem three_of {l : List Nat} (h : l.length = 3) : ∃ a b c, l = [a, b, c] := by
  match l, h with
  | [a, b, c], _ => exact ⟨a, b, c, rfl⟩
theorem five_of {l : List Nat} (h : l.length = 5) : ∃ a b c d e, l = [a, b, c, d, e] := by
  match l, h with
  | [a, b, c, d, e], _ => exact ⟨a, b, c, d, e, rfl⟩

theorem two_back {b c : Nat} (hb : b < 256) (hc : c < 256) : highN (numN [b, c]) 2 = [b, c] :=
  highN_numN (l := [b, c]) (fun x hx => by simp at hx; rcases hx with rfl | rfl <;> assumption)

theorem got_made {s : ByteArray} {m : Mg} (hr : rightM m = true) (hp : putMs m = s) : gotM s = true ∧ getM s = m := by
  rw [← hp]
  exact putM_got hr

/-- three bytes of a kind that has no number -/
theorem got_three {s : ByteArray} (h : s.size = 3) {K : Nat} (hK : (bl s).getD 0 0 = K) (h1 : 1 ≤ K ∧ K ≤ 8) : gotM s = true ∧ getM s = ⟨K, numN (((bl s).drop 1).take 2), 0⟩ := by
  have hlt := bl_lt s
  obtain ⟨a, b, c, e⟩ := three_of (l := bl s) (by rw [bl_length]; exact h)
  rw [e] at hK hlt ⊢
  obtain rfl : a = K := hK
  have hn : numN [b, c] < 65536 := num_two (fun x hx => hlt x (List.mem_cons_of_mem _ hx)) (by simp)
  refine got_made (m := ⟨(a : Int), (numN [b, c] : Nat), 0⟩) (rightM_spec.2 ⟨⟨by show 1 ≤ (a : Int); omega, by show (a : Int) ≤ 9; omega⟩, ⟨by show 0 ≤ ((numN [b, c] : Nat) : Int); omega, by show ((numN [b, c] : Nat) : Int) ≤ 65535; omega⟩, ⟨Int.le_refl 0, by show (0 : Int) ≤ 65535; decide⟩, .inl rfl⟩) ?_
  rw [← textN_bl s, e]
  unfold putMs putM
  simp only [Int.toNat_natCast]
  rw [if_neg (by omega), two_back (hlt b (by simp)) (hlt c (by simp))]
  rfl

/-- five bytes of a colour -/
theorem got_five {s : ByteArray} (h : s.size = 5) (hK : (bl s).getD 0 0 = 9) : gotM s = true ∧ getM s = ⟨9, numN (((bl s).drop 1).take 2), numN (((bl s).drop 3).take 2)⟩ := by
  have hlt := bl_lt s
  obtain ⟨a, b, c, d, f, e⟩ := five_of (l := bl s) (by rw [bl_length]; exact h)
  rw [e] at hK hlt ⊢
  obtain rfl : a = 9 := hK
  have hn : numN [b, c] < 65536 := num_two (fun x hx => hlt x (by simp at hx ⊢; rcases hx with rfl | rfl <;> simp)) (by simp)
  have hn2 : numN [d, f] < 65536 := num_two (fun x hx => hlt x (by simp at hx ⊢; rcases hx with rfl | rfl <;> simp)) (by simp)
  refine got_made (m := ⟨9, (numN [b, c] : Nat), (numN [d, f] : Nat)⟩) (rightM_spec.2 ⟨⟨by show (1 : Int) ≤ 9; decide, Int.le_refl 9⟩, ⟨by show 0 ≤ ((numN [b, c] : Nat) : Int); omega, by show ((numN [b, c] : Nat) : Int) ≤ 65535; omega⟩, ⟨by show 0 ≤ ((numN [d, f] : Nat) : Int); omega, by show ((numN [d, f] : Nat) : Int) ≤ 65535; omega⟩, .inr rfl⟩) ?_
  rw [← textN_bl s, e]
  unfold putMs putM
  simp only [Int.toNat_natCast]
  rw [if_pos (by decide), two_back (hlt b (by simp)) (hlt c (by simp)), two_back (hlt d (by simp)) (hlt f (by simp))]
  rfl

/-- bytes of another length are none -/
theorem got_len {s : ByteArray} {K : Nat} (hK : (bl s).getD 0 0 = K) (h : s.size = 0 ∨ (s.size : Int) ≠ sizeM K) : gotM s = false := by
  cases hg : gotM s
  · rfl
  · exfalso
    obtain ⟨hr, hp⟩ := gotM_put hg
    obtain ⟨h1, _⟩ := rightM_spec.1 hr
    have hz := putMs_size (m := getM s)
    rw [hp] at hz
    have hk : (getM s).k = (K : Int) := by
      rw [← hK]
      unfold getM
      rw [if_pos hg]
      rfl
    rw [hk] at hz h1
    simp only [Int.toNat_natCast] at hz
    rcases h with h | h
    · split at hz <;> omega
    · apply h
      unfold sizeM
      split at hz
      · rw [if_pos (by omega)]; omega
      · rw [if_neg (by omega), if_pos (by omega)]; omega
end Go.Proofs.YtffgphhmkghlnaaDoor
