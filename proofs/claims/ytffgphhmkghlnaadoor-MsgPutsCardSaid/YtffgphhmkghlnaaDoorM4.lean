/- Numerals, and messages as texts: the document's answers. -/
import Derived.Test.YtffgphhmkghlnaaDoorM3
namespace Go.Proofs.YtffgphhmkghlnaaDoor
open Go.RowKit

theorem dec_size {u : Nat} (h : u ≤ 9223372036854775808) : (Lib.decDigits u).length ≤ 20 := by
  by_cases h0 : u = 0
  · subst h0
    rw [dec_small (by decide)]
    decide
  · have := Lib.itoa_length_le (-(u : Int)) (by omega) (by omega)
    unfold Lib.itoa at this
    rw [if_pos (by omega), List.length_cons, Int.natAbs_neg, Int.natAbs_natCast] at this
    omega

theorem digit_is (D : Nat) : UInt8.ofNat (48 + D) = 48 + UInt8.ofNat D := by rw [UInt8.ofNat_add]; rfl

set_option maxHeartbeats 800000 in
theorem refDigits_pos (u : Nat) : ∀ w : World, u ≤ 9223372036854775807 →
    Calls Tryd.prog 22 #[.int .i64 (u : Int)] w fun ev w' => ev = .returned (.string ⟨(Lib.decDigits u).toArray⟩) ∧ Ext w w' := by
  induction u using Nat.strongRecOn with
  | ind u ih =>
    intro w hu
    have HT := text_one
    obtain ⟨D, hD⟩ : ∃ D, D = u % 10 := ⟨_, rfl⟩
    obtain ⟨U, hU⟩ : ∃ U, U = u / 10 := ⟨_, rfl⟩
    have hD10 : D < 10 := by omega
    have e1 : (u : Int) % 10 = (D : Int) := by omega
    have e2 : (u : Int) / 10 = (U : Int) := by omega
    have e3 : IntKind.u8.wrap (48 + (D : Int)) = 48 + (D : Int) := wrapB _ (by omega) (by omega)
    have e4 : IntKind.i64.wrap (48 + (D : Int)) = 48 + (D : Int) := wrapN _ (by omega) (by omega)
    have e5 : (48 + (D : Int)).toNat = 48 + D := by omega
    by_cases h10 : u < 10
    · have HS := Lib.hid (show (⟨(Lib.decDigits u).toArray⟩ : ByteArray) = ⟨#[48 + UInt8.ofNat D]⟩ by rw [dec_small h10, hD, Nat.mod_eq_of_lt h10, digit_is])
      have n1 : (u : Int) < 10 := by omega
      clear ih h10 hD hU
      go_enter Tryd.func22, Tryd.ntmps22
      go_wp2
      go_ret
      exact ⟨by rw [HS.out]; rfl, (by repeat (first | exact Ext.refl _ | assumption | refine Ext.alloc ?_ _ | refine Ext.drew ?_ | refine Ext.drewN ?_ _))⟩
    · have HS := Lib.hid (show (⟨(Lib.decDigits u).toArray⟩ : ByteArray) = ⟨(Lib.decDigits U).toArray⟩ ++ ⟨#[48 + UInt8.ofNat D]⟩ by
        rw [← digit_is]
        apply ByteArray.ext
        rw [dec_big h10, ByteArray.data_append, hD, hU]
        simp)
      have n1 : ¬ (u : Int) < 10 := by omega
      have hs : (⟨(Lib.decDigits U).toArray⟩ : ByteArray).size ≤ 20 := by
        show (Lib.decDigits U).toArray.size ≤ 20
        rw [List.size_toArray]
        exact dec_size (by omega)
      have cI := Lib.hid (fun W => ih U (by omega) W (by omega))
      obtain ⟨T, hT⟩ : ∃ T : ByteArray, T = ⟨(Lib.decDigits U).toArray⟩ := ⟨_, rfl⟩
      rw [← hT] at HS hs cI
      have n2 : ¬ 9223372036854775807 < T.size + 1 := by omega
      clear ih h10 hD hU hT
      go_enter Tryd.func22, Tryd.ntmps22
      go_wp2_with (first
        | (go_at_call 22; refine (cI.out _).mono ?_; rintro e w2 ⟨rfl, x2⟩))
      go_ret
      exact ⟨by rw [HS.out]; rfl, Ext.trans (by exact (by repeat (first | exact Ext.refl _ | assumption | refine Ext.alloc ?_ _ | refine Ext.drew ?_ | refine Ext.drewN ?_ _))) x2⟩

set_option maxHeartbeats 800000 in
theorem refDigits_neg (w : World) (u : Nat) (h1 : 1 ≤ u) (hu : u ≤ 9223372036854775808) :
    Calls Tryd.prog 22 #[.int .i64 (-(u : Int))] w fun ev w' => ev = .returned (.string (⟨#[45]⟩ ++ ⟨(Lib.decDigits u).toArray⟩)) ∧ Ext w w' := by
  have HT := text_one
  obtain ⟨x0, hx0⟩ : ∃ x0 : Int, x0 = -(u : Int) := ⟨_, rfl⟩
  rw [← hx0]
  have n0 : x0 < 0 := by omega
  have HX0 := Lib.hid hx0
  have HL := Lib.hid (dec_size hu)
  clear hx0
  go_enter Tryd.func22, Tryd.ntmps22
  go_wp2
  go_loopw [0, 3] (fun a o wr => ∃ (x : Int) (v : Nat) (S : List UInt8), a = .int .i64 x ∧ o = .string ⟨S.toArray⟩ ∧ Hid (x = -(v : Int)) ∧ v ≤ 9223372036854775808 ∧ S.length ≤ 20 ∧ Hid (v ≠ 0 → Lib.decDigits u = Lib.decDigits v ++ S) ∧ Hid (v = 0 → Lib.decDigits u = S) ∧ Hid (Ext w wr)) (fun a _ _ => (intOf a).natAbs)
  case atStart => exact ⟨x0, u, [], rfl, rfl, HX0, hu, by simp, Lib.hid (fun _ => by simp), Lib.hid (fun h => by omega), Lib.hid (Ext.refl _)⟩
  case round =>
    obtain ⟨x, v, S, rfl, rfl, HXV, hv, hS, H1, H2, HX⟩ := hrel
    by_cases h0 : v = 0
    · have t0 : (x != 0) = false := by rw [bne_eq_false_iff_eq, HXV.out, h0]; rfl
      have HF := Lib.hid (H2.out h0)
      have hY := HX.out
      have n9 : ¬ 9223372036854775807 < 1 + (⟨S.toArray⟩ : ByteArray).size := by show ¬ 9223372036854775807 < 1 + S.toArray.size; rw [List.size_toArray]; omega
      go_wp2
      go_ret
      exact ⟨by rw [HF.out]; rfl, hY⟩
    · have t0 : (x != 0) = true := bne_iff_ne.2 (by rw [HXV.out]; omega)
      obtain ⟨D, hD⟩ : ∃ D, D = v % 10 := ⟨_, rfl⟩
      obtain ⟨U, hU⟩ : ∃ U, U = v / 10 := ⟨_, rfl⟩
      obtain ⟨y, hy⟩ : ∃ y : Int, y = -(D : Int) := ⟨_, rfl⟩
      obtain ⟨x', hx'⟩ : ∃ x' : Int, x' = -(U : Int) := ⟨_, rfl⟩
      obtain ⟨z, hz⟩ : ∃ z : Int, z = 48 + (D : Int) := ⟨_, rfl⟩
      have e1 : Int.tmod x 10 = y := by rw [HXV.out, hy, hD, Int.neg_tmod]; rfl
      have e2 : Int.tdiv x 10 = x' := by rw [HXV.out, hx', hU, Int.neg_tdiv]; rfl
      have e3 : (48 : Int) - y = z := by omega
      have e4 : IntKind.u8.wrap z = z := wrapB _ (by omega) (by omega)
      have e5 : IntKind.i64.wrap z = z := wrapN _ (by omega) (by omega)
      have e6 : IntKind.i64.wrap y = y := wrapN _ (by omega) (by omega)
      have e7 : IntKind.i64.wrap x' = x' := wrapN _ (by omega) (by omega)
      have e8 : z.toNat = 48 + D := by omega
      have n9 : ¬ 9223372036854775807 < 1 + (⟨S.toArray⟩ : ByteArray).size := by show ¬ 9223372036854775807 < 1 + S.toArray.size; rw [List.size_toArray]; omega
      have HC := Lib.hid (show (⟨#[UInt8.ofNat z.toNat]⟩ : ByteArray) ++ ⟨S.toArray⟩ = ⟨(UInt8.ofNat (48 + D) :: S).toArray⟩ by
        rw [e8]
        apply ByteArray.ext
        rw [ByteArray.data_append]
        simp)
      have HV := Lib.hid hv
      have HLT : Hid (v / 10 < v) := Lib.hid (by omega)
      have Q1 : Hid (U ≠ 0 → Lib.decDigits u = Lib.decDigits U ++ (UInt8.ofNat (48 + D) :: S)) := Lib.hid fun hne => by
        rw [H1.out h0, dec_big (show ¬ v < 10 by omega), ← hU, ← hD]
        simp
      have Q2 : Hid (U = 0 → Lib.decDigits u = UInt8.ofNat (48 + D) :: S) := Lib.hid fun he => by
        rw [H1.out h0, dec_small (show v < 10 by omega), hD, Nat.mod_eq_of_lt (by omega)]
        rfl
      have hS2 : (UInt8.ofNat (48 + D) :: S).length ≤ 20 := by
        by_cases hU0 : U = 0
        · rw [← Q2.out hU0]; exact HL.out
        · have := HL.out
          rw [Q1.out hU0, List.length_append] at this
          omega
      have HXN := Lib.hid hx'
      have HUV := Lib.hid hU
      have hU3 : U ≤ 9223372036854775808 := by omega
      clear hD hU hy hx' hz e8 h0 hv
      go_wp2
      refine ⟨⟨x', U, UInt8.ofNat (48 + D) :: S, rfl, congrArg Value.string HC.out, HXN, hU3, hS2, Q1, Q2, Lib.hid (Ext.alloc HX.out _)⟩, ?_⟩
      show x'.natAbs < x.natAbs
      rw [HXN.out, HXV.out, HUV.out, Int.natAbs_neg, Int.natAbs_neg, Int.natAbs_natCast, Int.natAbs_natCast]
      exact HLT.out

theorem refDigits_any (w : World) (n : Int) (h0 : -9223372036854775808 ≤ n) (h1 : n ≤ 9223372036854775807) :
    Calls Tryd.prog 22 #[.int .i64 n] w fun ev w' => ev = .returned (.string (itoaS n)) ∧ Ext w w' := by
  by_cases h : n < 0
  · obtain ⟨u, rfl⟩ : ∃ u : Nat, n = -(u : Int) := ⟨n.natAbs, by omega⟩
    have := refDigits_neg w u (by omega) (by omega)
    have e : itoaS (-(u : Int)) = ⟨#[45]⟩ ++ ⟨(Lib.decDigits u).toArray⟩ := by
      unfold itoaS Lib.itoa
      rw [if_pos h, Int.natAbs_neg, Int.natAbs_natCast]
      apply ByteArray.ext
      rw [ByteArray.data_append]
      simp
    rwa [e]
  · obtain ⟨u, rfl⟩ : ∃ u : Nat, n = (u : Int) := ⟨n.toNat, by omega⟩
    have := refDigits_pos u w (by omega)
    have e : itoaS (u : Int) = ⟨(Lib.decDigits u).toArray⟩ := by
      unfold itoaS
      rw [itoa_pos (by omega), Int.toNat_natCast]
    rwa [e]

set_option maxHeartbeats 800000 in
theorem refShow_any (w : World) (m : Mg) (he : -9223372036854775808 ≤ m.e ∧ m.e ≤ 9223372036854775807) (hn : -9223372036854775808 ≤ m.n ∧ m.n ≤ 9223372036854775807) :
    Calls Tryd.prog 13 #[.agg #[.int .i64 m.k, .int .i64 m.e, .int .i64 m.n]] w fun ev w' => ev = .returned (.string (showS m)) ∧ Ext w w' := by
  have H1 : Hid (∀ W, Ext (w.alloc (.cells #[.int .i64 m.k, .int .i64 m.e, .int .i64 m.n] 24)) W → W.cell? ⟨w.heap.size, 0, none⟩ = some (.int .i64 m.k) ∧ W.cell? ⟨w.heap.size, 1, none⟩ = some (.int .i64 m.e) ∧ W.cell? ⟨w.heap.size, 2, none⟩ = some (.int .i64 m.n)) := Lib.hid fun W x => (three_cells (late_blk x)).1
  have cN := Lib.hid (fun W => gives_same (refName_any W m.k))
  have cE := Lib.hid (fun W => refDigits_any W m.e he.1 he.2)
  have cD := Lib.hid (fun W => refDigits_any W m.n hn.1 hn.2)
  have zA := nameS_size m.k
  have zE := itoaS_size he.1 he.2
  have zD := itoaS_size hn.1 hn.2
  have HS := Lib.hid (show showS m = if m.k = 9 then nameS m.k ++ ⟨#[64]⟩ ++ itoaS m.e ++ ⟨#[32]⟩ ++ itoaS m.n else nameS m.k ++ ⟨#[64]⟩ ++ itoaS m.e from rfl)
  obtain ⟨A, hA⟩ : ∃ A, A = nameS m.k := ⟨_, rfl⟩
  obtain ⟨E, hE⟩ : ∃ E, E = itoaS m.e := ⟨_, rfl⟩
  obtain ⟨D, hD⟩ : ∃ D, D = itoaS m.n := ⟨_, rfl⟩
  rw [← hA] at cN HS zA
  rw [← hE] at cE HS zE
  rw [← hD] at cD HS zD
  have z1 : ¬ 9223372036854775807 < A.size + 1 := by omega
  have z2 : ¬ 9223372036854775807 < A.size + 1 + E.size := by omega
  have z3 : ¬ 9223372036854775807 < A.size + 1 + E.size + 1 := by omega
  have z4 : ¬ 9223372036854775807 < A.size + 1 + E.size + 1 + D.size := by omega
  clear hA hE hD zA zE zD he hn
  by_cases h9 : m.k = 9
  · have b9 : (m.k == 9) = true := beq_iff_eq.2 h9
    rw [if_pos h9] at HS
    clear h9
    go_enter Tryd.func13, Tryd.ntmps13
    go_wp2_with fail
    refine wp_region_M_lit (by kernel_rfl) ?_
    have HX : Ext (w.alloc (.cells #[.int .i64 m.k, .int .i64 m.e, .int .i64 m.n] 24)) _ := Ext.refl _
    (refine takeV 0 (v := ?_) (by simp only [List.getElem?_toArray, List.getElem?_cons, reduceIte]; rfl) (by kernel_rfl) (by rfl) (fun w' hw' => ?_) ?_; rotate_left; focus (skip; go_simp; first | done | with_reducible rfl)); (simp only [Act.put, List.setIfInBounds_toArray, List.set])
    (refine takeV 1 (v := ?_) (by simp only [List.getElem?_toArray, List.getElem?_cons, reduceIte]; rfl) (by kernel_rfl) (by rfl) (fun w' hw' => ?_) ?_; rotate_left; focus (have hc := H1.out w' (Ext.trans HX hw'); go_simp; first | done | with_reducible rfl)); (simp only [Act.put, List.setIfInBounds_toArray, List.set])
    (refine takeG 2 (v := ?_) (by simp only [List.getElem?_toArray, List.getElem?_cons, reduceIte]; rfl) (by kernel_rfl) (by rfl) (fun w' hw' => ?_) ?_; rotate_left; focus (go_simp; refine ⟨Ext.refl _, ?_⟩; (exact cN.out w'))); (simp only [Act.put, List.setIfInBounds_toArray, List.set])
    (refine takeV 3 (v := ?_) (by simp only [List.getElem?_toArray, List.getElem?_cons, reduceIte]; rfl) (by kernel_rfl) (by rfl) (fun w' hw' => ?_) ?_; rotate_left; focus (skip; go_simp; first | done | with_reducible rfl)); (simp only [Act.put, List.setIfInBounds_toArray, List.set])
    (refine takeV 4 (v := ?_) (by simp only [List.getElem?_toArray, List.getElem?_cons, reduceIte]; rfl) (by kernel_rfl) (by rfl) (fun w' hw' => ?_) ?_; rotate_left; focus (skip; go_simp; first | done | with_reducible rfl)); (simp only [Act.put, List.setIfInBounds_toArray, List.set])
    (refine takeV 5 (v := ?_) (by simp only [List.getElem?_toArray, List.getElem?_cons, reduceIte]; rfl) (by kernel_rfl) (by rfl) (fun w' hw' => ?_) ?_; rotate_left; focus (have hc := H1.out w' (Ext.trans HX hw'); go_simp; first | done | with_reducible rfl)); (simp only [Act.put, List.setIfInBounds_toArray, List.set])
    (refine takeG 6 (v := ?_) (by simp only [List.getElem?_toArray, List.getElem?_cons, reduceIte]; rfl) (by kernel_rfl) (by rfl) (fun w' hw' => ?_) ?_; rotate_left; focus (go_simp; refine ⟨Ext.refl _, ?_⟩; (exact cE.out w'))); (simp only [Act.put, List.setIfInBounds_toArray, List.set])
    (refine takeV 7 (v := ?_) (by simp only [List.getElem?_toArray, List.getElem?_cons, reduceIte]; rfl) (by kernel_rfl) (by rfl) (fun w' hw' => ?_) ?_; rotate_left; focus (skip; go_simp; first | done | with_reducible rfl)); (simp only [Act.put, List.setIfInBounds_toArray, List.set])
    (refine takeV 8 (v := ?_) (by simp only [List.getElem?_toArray, List.getElem?_cons, reduceIte]; rfl) (by kernel_rfl) (by rfl) (fun w' hw' => ?_) ?_; rotate_left; focus (skip; go_simp; first | done | with_reducible rfl)); (simp only [Act.put, List.setIfInBounds_toArray, List.set])
    (refine doneM (by kernel_rfl) ?_; intro w' hw'; show _)
    have y1 := Lib.hid (Ext.trans HX hw')
    have k1 := H1.out w' y1.out
    clear hw' HX
    go_wp2_with (first
      | (go_at_call 22; refine (cD.out _).mono ?_; rintro e w4 ⟨rfl, x4⟩; have y4 := Lib.hid (Ext.trans y1.out x4); clear x4))
    go_ret
    exact ⟨by rw [HS.out]; rfl, Ext.trans ((Ext.refl w).alloc _) y4.out⟩
  · have b9 : (m.k == 9) = false := beq_eq_false_iff_ne.2 h9
    rw [if_neg h9] at HS
    clear h9
    go_enter Tryd.func13, Tryd.ntmps13
    go_wp2_with fail
    refine wp_region_M_lit (by kernel_rfl) ?_
    have HX : Ext (w.alloc (.cells #[.int .i64 m.k, .int .i64 m.e, .int .i64 m.n] 24)) _ := Ext.refl _
    (refine takeV 0 (v := ?_) (by simp only [List.getElem?_toArray, List.getElem?_cons, reduceIte]; rfl) (by kernel_rfl) (by rfl) (fun w' hw' => ?_) ?_; rotate_left; focus (skip; go_simp; first | done | with_reducible rfl)); (simp only [Act.put, List.setIfInBounds_toArray, List.set])
    (refine takeV 1 (v := ?_) (by simp only [List.getElem?_toArray, List.getElem?_cons, reduceIte]; rfl) (by kernel_rfl) (by rfl) (fun w' hw' => ?_) ?_; rotate_left; focus (have hc := H1.out w' (Ext.trans HX hw'); go_simp; first | done | with_reducible rfl)); (simp only [Act.put, List.setIfInBounds_toArray, List.set])
    (refine takeG 2 (v := ?_) (by simp only [List.getElem?_toArray, List.getElem?_cons, reduceIte]; rfl) (by kernel_rfl) (by rfl) (fun w' hw' => ?_) ?_; rotate_left; focus (go_simp; refine ⟨Ext.refl _, ?_⟩; (exact cN.out w'))); (simp only [Act.put, List.setIfInBounds_toArray, List.set])
    (refine takeV 3 (v := ?_) (by simp only [List.getElem?_toArray, List.getElem?_cons, reduceIte]; rfl) (by kernel_rfl) (by rfl) (fun w' hw' => ?_) ?_; rotate_left; focus (skip; go_simp; first | done | with_reducible rfl)); (simp only [Act.put, List.setIfInBounds_toArray, List.set])
    (refine takeV 4 (v := ?_) (by simp only [List.getElem?_toArray, List.getElem?_cons, reduceIte]; rfl) (by kernel_rfl) (by rfl) (fun w' hw' => ?_) ?_; rotate_left; focus (skip; go_simp; first | done | with_reducible rfl)); (simp only [Act.put, List.setIfInBounds_toArray, List.set])
    (refine takeV 5 (v := ?_) (by simp only [List.getElem?_toArray, List.getElem?_cons, reduceIte]; rfl) (by kernel_rfl) (by rfl) (fun w' hw' => ?_) ?_; rotate_left; focus (have hc := H1.out w' (Ext.trans HX hw'); go_simp; first | done | with_reducible rfl)); (simp only [Act.put, List.setIfInBounds_toArray, List.set])
    (refine takeG 6 (v := ?_) (by simp only [List.getElem?_toArray, List.getElem?_cons, reduceIte]; rfl) (by kernel_rfl) (by rfl) (fun w' hw' => ?_) ?_; rotate_left; focus (go_simp; refine ⟨Ext.refl _, ?_⟩; (exact cE.out w'))); (simp only [Act.put, List.setIfInBounds_toArray, List.set])
    (refine takeV 7 (v := ?_) (by simp only [List.getElem?_toArray, List.getElem?_cons, reduceIte]; rfl) (by kernel_rfl) (by rfl) (fun w' hw' => ?_) ?_; rotate_left; focus (skip; go_simp; first | done | with_reducible rfl)); (simp only [Act.put, List.setIfInBounds_toArray, List.set])
    (refine takeV 8 (v := ?_) (by simp only [List.getElem?_toArray, List.getElem?_cons, reduceIte]; rfl) (by kernel_rfl) (by rfl) (fun w' hw' => ?_) ?_; rotate_left; focus (skip; go_simp; first | done | with_reducible rfl)); (simp only [Act.put, List.setIfInBounds_toArray, List.set])
    (refine doneM (by kernel_rfl) ?_; intro w' hw'; show _)
    have y1 := Lib.hid (Ext.trans HX hw')
    have k1 := H1.out w' y1.out
    clear hw' HX
    go_wp2
    go_ret
    exact ⟨by rw [HS.out]; rfl, Ext.trans ((Ext.refl w).alloc _) y1.out⟩
end Go.Proofs.YtffgphhmkghlnaaDoor
