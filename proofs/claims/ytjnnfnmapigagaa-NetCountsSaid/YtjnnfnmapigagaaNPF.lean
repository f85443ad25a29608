/- What the program's nets answer: a bit turned. -/
import Derived.Test.YtjnnfnmapigagaaNP
namespace Go.Proofs.Ytjnnfnmapigagaa
open Go.RowKit Go.Maps

theorem bitPlace_any (w : World) (s : ByteArray) (bit : Int) (hb : -9223372036854775808 ≤ bit) (hb2 : bit ≤ 9223372036854775807) (hs : 0 < s.size) (hl : s.size ≤ 1000) :
    Calls Try.prog 36 #[.int .i64 bit, .int .i64 (8 * (s.size : Int))] w fun e w' => e = .returned (.int .i64 (turnAt s bit : Int)) ∧ w = w' := by
  by_cases h2 : bit = -9223372036854775808
  · have hy := turnAt_of (s := s) (bit := bit) (y := 0) hb (by rw [if_pos (by omega), if_pos h2])
    have h0 : turnAt s bit = 0 := by rw [Int.zero_tmod] at hy; omega
    rw [h0]
    subst h2
    clear hy h0
    go_enter Try.func36, Try.ntmps36
    go_wp2
    go_ret
    exact ⟨rfl, rfl⟩
  · have h1 : (bit == -9223372036854775808) = false := beq_eq_false_iff_ne.2 h2
    have hw : IntKind.i64.wrap (-bit) = -bit := by
      simp [IntKind.wrap, IntKind.signed, IntKind.bits]
      omega
    obtain ⟨y, hY⟩ : ∃ y, y = (if bit < 0 then -bit else bit) := ⟨_, rfl⟩
    have hm : max bit (-bit) = y := by
      rw [hY]
      split <;> omega
    have hy0 : 0 ≤ y := by rw [hY]; split <;> omega
    have hy := turnAt_of (s := s) (bit := bit) (y := y) hb (by rw [hY]; by_cases h3 : bit < 0; (rw [if_pos h3, if_pos h3, if_neg h2]); rw [if_neg h3, if_neg h3])
    have hpos : ¬ (8 * (s.size : Int)) = 0 := by omega
    have hy2 : y % (8 * (s.size : Int)) = (turnAt s bit : Int) := by rw [← hy, Int.tmod_eq_emod_of_nonneg hy0]
    obtain ⟨T, hT⟩ : ∃ T, T = turnAt s bit := ⟨_, rfl⟩
    rw [← hT] at hy hy2 ⊢
    clear hT hY
    obtain ⟨Z, hZ⟩ : ∃ Z, Z = 8 * (s.size : Int) := ⟨_, rfl⟩
    rw [← hZ] at hy hy2 hpos ⊢
    clear hZ hs hl h2
    go_enter Try.func36, Try.ntmps36
    go_wp2
    go_ret
    exact ⟨rfl, rfl⟩

section
variable {w : World} {p : Nat} {S : NetS} {F : Nat → Prop}
set_option maxHeartbeats 800000 in
theorem pFlip (h0 : NAt w p S F) (a b k bit : Int) (hb : -9223372036854775808 ≤ bit) (hb2 : bit ≤ 9223372036854775807) :
    Calls Try.prog 25 #[.pointer (some ⟨p, 0, none⟩), .int .i64 a, .int .i64 b, .int .i64 k, .int .i64 bit] w (Moves p (S.flip a b k bit) F (.bool (S.canF a b k)) w) := by
  obtain ⟨m, D, G, O, h⟩ := h0
  have H := Lib.hid h
  by_cases h2 : S.two a b = true
  · obtain ⟨vs, q, R⟩ := h.rows a b h2
    have HB := Lib.hid (between_yes h a b h2)
    by_cases ht : S.there a b k = true
    · obtain ⟨hk0, hk1⟩ := there_iff.1 ht
      obtain ⟨v, g, s, hv, hs, hd, rfl', hy, ho, hcv⟩ := at_row R hk0 hk1
      clear hcv
      have HA := Lib.hid (at_yes_b R.ring k hk0 (by rw [R.all.length]; exact hk1) v hv)
      rw [rfl'] at HA
      have hlook : S.look a b k = s := by unfold NetS.look; rw [if_pos ht, hd]
      have hshort := short_look h.ok a b k
      unfold NetS.flip
      by_cases hz : s.size = 0
      · have hc : S.canF a b k = false := by unfold NetS.canF; rw [ht, hlook, decide_eq_true hz]; rfl
        rw [if_neg (by rw [hc]; simp), hc]
        rw [hz] at HA
        clear h R h2 ht hk0 hk1 hv hs hd rfl' hy ho hlook hshort hz hc hb hb2
        go_enter Try.func25, Try.ntmps25
        go_wp2_with fail
        refine HB.out.mono ?_
        rintro e w1 ⟨rfl, rfl⟩
        go_wp2_with fail
        refine HA.out.mono ?_
        rintro e w1 ⟨rfl, rfl⟩
        go_wp2
        go_ret
        exact H.out.same (Ext.refl _) _
      · have hc : S.canF a b k = true := by unfold NetS.canF; rw [ht, hlook, decide_eq_false hz]; rfl
        rw [if_pos hc, hc, hlook]
        rw [hlook] at hshort
        have hD := turnAt_lt (s := s) (bit := bit) (by omega)
        have HP := Lib.hid (fun W => bitPlace_any W s bit hb hb2 (by omega) hshort)
        have hlt : turnAt s bit / 8 < (bl s).length := by rw [bl_length]; omega
        have k1 := hy.cell _ hlt
        have k2 := hy.free _ hlt
        have hB : (bl s).getD (turnAt s bit / 8) 0 < 256 := bl_lt s _ (by simp [hlt])
        have hD8 : turnAt s bit % 8 < 8 := Nat.mod_lt _ (by decide)
        have h7 : 2 ^ (turnAt s bit % 8) ≤ 2 ^ 7 := Nat.pow_le_pow_right (by decide) (by omega)
        have hX : (bl s).getD (turnAt s bit / 8) 0 ^^^ 2 ^ (turnAt s bit % 8) < 256 := Nat.xor_lt_two_pow (n := 8) hB (by omega)
        have h8 : (2 : Int) ^ (turnAt s bit % 8) % 256 = ((2 ^ (turnAt s bit % 8) : Nat) : Int) := by
          have h9 : ((2 ^ (turnAt s bit % 8) : Nat) : Int) = (2 : Int) ^ (turnAt s bit % 8) := by rw [Int.natCast_pow]; rfl
          have h10 : (0 : Int) ≤ ((2 ^ (turnAt s bit % 8) : Nat) : Int) := Int.natCast_nonneg _
          rw [← h9]
          omega
        have k3 : bits .xor .u8 (((bl s).getD (turnAt s bit / 8) 0 : Nat) : Int) ((2 : Int) ^ (turnAt s bit % 8) % 256) = (((bl s).getD (turnAt s bit / 8) 0 ^^^ 2 ^ (turnAt s bit % 8) : Nat) : Int) := by
          rw [h8]
          exact u8_xor_nat _ _ hB (by omega)
        have HT := Lib.hid (show bl (turned s bit) = (bl s).set (turnAt s bit / 8) ((bl s).getD (turnAt s bit / 8) 0 ^^^ 2 ^ (turnAt s bit % 8)) from by
          unfold turned
          refine bl_textN fun x hx => ?_
          rcases List.mem_or_eq_of_mem_set hx with hx | rfl
          · exact bl_lt s x hx
          · exact hX)
        have hts : (turned s bit).size = s.size := by
          have := congrArg List.length HT.out
          rwa [List.length_set, bl_length, bl_length] at this
        have HOk := Lib.hid (h.ok.put h2 (l := (S.f a b).set k.toNat (turned s bit)) (by rw [List.length_set]; exact h.ok.few a b) (fun t ht => by
          rcases List.mem_or_eq_of_mem_set ht with ht | rfl
          · exact h.ok.short a b t ht
          · rw [hts]; exact hshort))
        have HR := Lib.hid R
        have H2 := Lib.hid h2
        have HV := Lib.hid hv
        have HS := Lib.hid hs
        have HE : Hid (v.ao = some ⟨g, 0, none⟩) := Lib.hid (by rw [rfl'])
        have HOw := Lib.hid ho
        have HG := Lib.hid hy.lt
        have hz0 : ¬ (s.size : Int) = 0 := by omega
        have hz1 : ((s.size : Int) == 0) = false := beq_eq_false_iff_ne.2 hz0
        have hw8 : IntKind.i64.wrap (8 * (s.size : Int)) = 8 * (s.size : Int) := by
          simp [IntKind.wrap, IntKind.signed, IntKind.bits]
          omega
        obtain ⟨N, hN⟩ : ∃ N, N = s.size := ⟨_, rfl⟩
        rw [← hN] at HA HP hD hz0 hz1 hw8 hshort
        have HJ := Lib.hid (show turnAt s bit / 8 < s.size by omega)
        obtain ⟨T, hT⟩ : ∃ T, T = turnAt s bit := ⟨_, rfl⟩
        rw [← hT] at HP hD k1 k2 k3 HT HJ
        obtain ⟨B, hBB⟩ : ∃ B, B = (bl s).getD (T / 8) 0 := ⟨_, rfl⟩
        rw [← hBB] at k1 k3 HT
        obtain ⟨X, hXX⟩ : ∃ X, X = B ^^^ 2 ^ (T % 8) := ⟨_, rfl⟩
        rw [← hXX] at k3 HT
        have hwq : IntKind.i64.wrap ((T : Int) / 8) = ((T / 8 : Nat) : Int) := by
          simp [IntKind.wrap, IntKind.bits, IntKind.signed]; omega
        have hwr : ((T : Int) % 8) = ((T % 8 : Nat) : Int) := by omega
        have hwt : Int.tmod (T : Int) 8 = ((T % 8 : Nat) : Int) := by rw [Int.tmod_eq_emod_of_nonneg (by omega)]; omega
        have hjn : ((T / 8 : Nat) : Int) < (N : Int) := by omega
        obtain ⟨J, hJ⟩ : ∃ J, J = T / 8 := ⟨_, rfl⟩
        rw [← hJ] at k1 k2 hwq HT HJ hjn
        obtain ⟨M, hM⟩ : ∃ M, M = T % 8 := ⟨_, rfl⟩
        have hM8 : M < 8 := by rw [hM]; exact Nat.mod_lt _ (by decide)
        rw [← hM] at k3 hwr hwt
        have k3w : bits .xor .u8 (B : Int) (IntKind.u8.wrap ((2 : Int) ^ M)) = (X : Int) := by
          rw [show IntKind.u8.wrap ((2 : Int) ^ M) = (2 : Int) ^ M % 256 from by simp [IntKind.wrap, IntKind.bits, IntKind.signed]]
          exact k3
        clear h R h2 ht hk0 hk1 hv hs hd rfl' hy ho hlook hz hc hb hb2 hlt hB hD8 h7 hX h8 hts hT hBB hXX hN hJ hM
        go_enter Try.func25, Try.ntmps25
        go_wp2_with fail
        refine HB.out.mono ?_
        rintro e w1 ⟨rfl, rfl⟩
        go_wp2_with fail
        refine HA.out.mono ?_
        rintro e w1 ⟨rfl, rfl⟩
        go_wp2_with fail
        refine (HP.out _).mono ?_
        rintro e w1 ⟨rfl, rfl⟩
        go_wp2_with fail
        refine wp_region_M_lit (by kernel_rfl) ?_
        (refine takeV 0 (v := ?_) (by simp only [List.getElem?_toArray, List.getElem?_cons, reduceIte]; rfl) (by kernel_rfl) (by rfl) (fun w' hw' => ?_) ?_; rotate_left; focus (skip; go_simp; first | done | with_reducible rfl)); (simp only [Act.put, List.setIfInBounds_toArray, List.set])
        (refine takeV 1 (v := ?_) (by simp only [List.getElem?_toArray, List.getElem?_cons, reduceIte]; rfl) (by kernel_rfl) (by rfl) (fun w' hw' => ?_) ?_; rotate_left; focus (skip; go_simp; first | done | with_reducible rfl)); (simp only [Act.put, List.setIfInBounds_toArray, List.set])
        (refine takeV 2 (v := ?_) (by simp only [List.getElem?_toArray, List.getElem?_cons, reduceIte]; rfl) (by kernel_rfl) (by rfl) (fun w' hw' => ?_) ?_; rotate_left; focus (skip; go_simp; first | done | with_reducible rfl)); (simp only [Act.put, List.setIfInBounds_toArray, List.set])
        (refine takeV 3 (v := ?_) (by simp only [List.getElem?_toArray, List.getElem?_cons, reduceIte]; rfl) (by kernel_rfl) (by rfl) (fun w' hw' => ?_) ?_; rotate_left; focus (skip; go_simp; first | done | with_reducible rfl)); (simp only [Act.put, List.setIfInBounds_toArray, List.set])
        (refine takeV 4 (v := ?_) (by simp only [List.getElem?_toArray, List.getElem?_cons, reduceIte]; rfl) (by kernel_rfl) (by rfl) (fun w' hw' => ?_) ?_; rotate_left; focus (have k1' := (hw'.cell HG.out).trans k1; go_simp; first | done | with_reducible rfl)); (simp only [Act.put, List.setIfInBounds_toArray, List.set])
        (refine takeV 5 (v := ?_) (by simp only [List.getElem?_toArray, List.getElem?_cons, reduceIte]; rfl) (by kernel_rfl) (by rfl) (fun w' hw' => ?_) ?_; rotate_left; focus (skip; go_simp; first | done | with_reducible rfl)); (simp only [Act.put, List.setIfInBounds_toArray, List.set])
        (refine takeV 6 (v := ?_) (by simp only [List.getElem?_toArray, List.getElem?_cons, reduceIte]; rfl) (by kernel_rfl) (by rfl) (fun w' hw' => ?_) ?_; rotate_left; focus (skip; go_simp; first | done | with_reducible rfl)); (simp only [Act.put, List.setIfInBounds_toArray, List.set])
        (refine takeV 7 (v := ?_) (by simp only [List.getElem?_toArray, List.getElem?_cons, reduceIte]; rfl) (by kernel_rfl) (by rfl) (fun w' hw' => ?_) ?_; rotate_left; focus (skip; go_simp; first | done | with_reducible rfl)); (simp only [Act.put, List.setIfInBounds_toArray, List.set])
        (refine takeV 8 (v := ?_) (by simp only [List.getElem?_toArray, List.getElem?_cons, reduceIte]; rfl) (by kernel_rfl) (by rfl) (fun w' hw' => ?_) ?_; rotate_left; focus (skip; go_simp; first | done | with_reducible rfl)); (simp only [Act.put, List.setIfInBounds_toArray, List.set])
        (refine takeV 9 (v := ?_) (by simp only [List.getElem?_toArray, List.getElem?_cons, reduceIte]; rfl) (by kernel_rfl) (by rfl) (fun w' hw' => ?_) ?_; rotate_left; focus (skip; go_simp; first | done | with_reducible rfl)); (simp only [Act.put, List.setIfInBounds_toArray, List.set])
        trace_state
        (refine runLate 10 (by simp only [List.getElem?_toArray, List.getElem?_cons, reduceIte]; rfl) (by kernel_rfl) (by kernel_rfl) (by rfl) ?_; intro w' hw'; have k1' := (hw'.cell HG.out).trans k1; have k2' := (hw'.frozen HG.out).trans k2; go_simp; try (simp only [Act.put, List.setIfInBounds_toArray, List.set]))
        (refine lateDone (by kernel_rfl) ?_)
        go_wp2
        go_ret
        have hg : g ≠ G a b ∧ q ≠ some g := by
          obtain ⟨b', e1, _, _, _, e5, e6⟩ := HR.out.all.get HV.out HS.out
          rw [HE.out] at e1
          have : g = b' := by simpa using e1
          subst this
          exact ⟨e5, e6⟩
        have row := RowAt.turn (X := X) (HR.out.ext hw') HV.out HS.out HE.out HJ.out (turned s bit) HT.out
        have fin := H.out.put (w' := w'.setCell ⟨g, J, none⟩ (.int .u8 (X : Int))) H2.out HOk.out hw'.os hw'.tape hw'.output (by rw [set_size]; exact hw'.size) (fun c hc ho => by
          rw [set_other _ _ _ _ (fun e => ho (by rw [show c = g from e]; exact HOw.out))]
          exact hw'.block c hc) (row.to (fun _ _ _ => rfl) (fun c hc => .inl hc)) (.bool true)
        first
          | exact fin
          | (rw [← k3w] at fin; exact fin)
    · have hl := R.all.length
      have hk : k < 0 ∨ (vs.length : Int) ≤ k := by
        rw [there_iff] at ht
        omega
      have hc : S.canF a b k = false := by unfold NetS.canF; rw [show S.there a b k = false from by simpa using ht]; rfl
      unfold NetS.flip
      rw [if_neg (by rw [hc]; simp), hc]
      have HA := Lib.hid (at_no_b R.ring k hk)
      clear h R h2 ht hl hk hc hb hb2
      go_enter Try.func25, Try.ntmps25
      go_wp2_with fail
      refine HB.out.mono ?_
      rintro e w1 ⟨rfl, rfl⟩
      go_wp2_with fail
      refine HA.out.mono ?_
      rintro e w1 ⟨rfl, rfl⟩
      go_wp2
      go_ret
      exact H.out.same (Ext.refl _) _
  · have h2 : S.two a b = false := by simpa using h2
    have HE := h.ok.none a b h2
    have HB := Lib.hid (between_no h a b h2)
    have ht : S.there a b k = false := by
      unfold NetS.there
      rw [HE]
      simp
    have hc : S.canF a b k = false := by unfold NetS.canF; rw [ht]; rfl
    unfold NetS.flip
    rw [if_neg (by rw [hc]; simp), hc]
    clear h h2 HE ht hc hb hb2
    go_enter Try.func25, Try.ntmps25
    go_wp2_with fail
    refine HB.out.mono ?_
    rintro e w1 ⟨rfl, hr, hx⟩
    have HX := Lib.hid hx
    clear hx
    go_wp2_with fail
    refine (at_no_b hr k (by simp; omega)).mono ?_
    rintro e w2 ⟨rfl, rfl⟩
    clear hr
    go_wp2
    go_ret
    exact H.out.same HX.out _
end
end Go.Proofs.Ytjnnfnmapigagaa
