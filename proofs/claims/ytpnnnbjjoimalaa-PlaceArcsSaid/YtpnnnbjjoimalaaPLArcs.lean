/- Layer 12's law PlaceArcs, walked. -/
import Derived.Test.YtpnnnbjjoimalaaPA
import Derived.Test.YtpnnnbjjoimalaaRA
import Derived.Test.YtpnnnbjjoimalaaOD
import Derived.Test.YtpnnnbjjoimalaaME
namespace Go.Proofs.Ytpnnnbjjoimalaa
open Go.RowKit

theorem fewB_lens {L : List Dn} {m : Nat} (h : fewB L m = true) : L.length ≤ 24 ∧ m ≤ 40 ∧ ∀ d ∈ L, d.sides.length ≤ 24 := by
  simp only [fewB, Bool.and_eq_true, decide_eq_true_eq] at h
  obtain ⟨⟨h1, h2⟩, h3⟩ := h
  refine ⟨h2, h3, fun d hd => ?_⟩
  rw [List.take_of_length_le (by omega)] at h1
  simpa using List.all_eq_true.1 h1 d hd

set_option maxRecDepth 100000 in
set_option maxHeartbeats 8000000 in
theorem placeArcs_long (w : World) (ao : Option Addr) (k : Nat) (L : List Dn) (mo : Option Addr) (mk : Nat) (m : List Ml) (h : Ns DV Non w (.slice ao L.length k) L) (hm : Sl w (.slice mo m.length mk) m) (hf : fewB L m.length = false) :
    Calls Try.prog 5 #[.agg #[.slice ao L.length k, .slice mo m.length mk]] w (GivesB w (.bool true)) := by
  have BX : Ext w (w.alloc (.cells #[.slice ao L.length k, .slice mo m.length mk] 43)) := (Ext.refl w).alloc _
  have HD : Hid (∀ V, Ext (w.alloc (.cells #[.slice ao L.length k, .slice mo m.length mk] 43)) V → V.cell? ⟨w.heap.size, 0, none⟩ = some (.slice ao L.length k) ∧ V.cell? ⟨w.heap.size, 1, none⟩ = some (.slice mo m.length mk)) := Lib.hid fun V hV => ⟨cell_atD V hV rfl, cell_atD V hV rfl⟩
  have HL := Lib.hid h
  have HM := Lib.hid hm
  have l1 := h.length_le
  have l2 := hm.length_le
  have HF := Lib.hid hf
  clear h hm hf
  go_enter Try.func5, Try.ntmps5
  go_wp2_with (first
    | (have hgd := X2; clear hgd; go_at_call 9; refine (awakeP_any _).mono ?_; rintro e w3 ⟨rfl, x3⟩; have X3 : Hid (Ext (w.alloc (.cells #[.slice ao L.length k, .slice mo m.length mk] 43)) w3) := Lib.hid (by repeat (first | exact Ext.refl _ | assumption | exact Hid.out (by assumption) | refine Ext.alloc ?_ _ | refine Ext.drew ?_ | refine Ext.drewN ?_ _ | refine Ext.trans ?_ (by assumption))); have z3 := x3; clear x3; obtain ⟨y30, y31⟩ := HD.out w3 (by repeat (first | exact Ext.refl _ | assumption | exact Hid.out (by assumption) | refine Ext.alloc ?_ _ | refine Ext.drew ?_ | refine Ext.drewN ?_ _ | refine Ext.trans ?_ (by assumption))))
    | (go_at_call 9; refine (awakeP_any _).mono ?_; rintro e w1 ⟨rfl, x1⟩; have X1 : Hid (Ext (w.alloc (.cells #[.slice ao L.length k, .slice mo m.length mk] 43)) w1) := Lib.hid (by repeat (first | exact Ext.refl _ | assumption | exact Hid.out (by assumption) | refine Ext.alloc ?_ _ | refine Ext.drew ?_ | refine Ext.drewN ?_ _ | refine Ext.trans ?_ (by assumption))); have z1 := x1; clear x1; obtain ⟨y10, y11⟩ := HD.out w1 (by repeat (first | exact Ext.refl _ | assumption | exact Hid.out (by assumption) | refine Ext.alloc ?_ _ | refine Ext.drew ?_ | refine Ext.drewN ?_ _ | refine Ext.trans ?_ (by assumption))))
    | (go_at_call 16; refine (refFew_any Non _ _ mo m.length mk L (HL.out.ext (BX.trans (by repeat (first | exact Ext.refl _ | assumption | exact Hid.out (by assumption) | refine Ext.alloc ?_ _ | refine Ext.drew ?_ | refine Ext.drewN ?_ _ | refine Ext.trans ?_ (by assumption))))) (by omega) false HF.out).mono ?_; rintro e w2 ⟨rfl, x2⟩; have X2 : Hid (Ext (w.alloc (.cells #[.slice ao L.length k, .slice mo m.length mk] 43)) w2) := Lib.hid (by repeat (first | exact Ext.refl _ | assumption | exact Hid.out (by assumption) | refine Ext.alloc ?_ _ | refine Ext.drew ?_ | refine Ext.drewN ?_ _ | refine Ext.trans ?_ (by assumption))); have z2 := x2; clear x2; obtain ⟨y20, y21⟩ := HD.out w2 (by repeat (first | exact Ext.refl _ | assumption | exact Hid.out (by assumption) | refine Ext.alloc ?_ _ | refine Ext.drew ?_ | refine Ext.drewN ?_ _ | refine Ext.trans ?_ (by assumption)))))
  go_ret
  exact ⟨rfl, BX.trans (by repeat (first | exact Ext.refl _ | assumption | exact Hid.out (by assumption) | refine Ext.alloc ?_ _ | refine Ext.drew ?_ | refine Ext.drewN ?_ _ | refine Ext.trans ?_ (by assumption)))⟩

set_option maxRecDepth 100000 in
set_option maxHeartbeats 8000000 in
theorem placeArcs_short (w : World) (ao : Option Addr) (k : Nat) (L : List Dn) (mo : Option Addr) (mk : Nat) (m : List Ml) (h : Ns DV Non w (.slice ao L.length k) L) (hm : Sl w (.slice mo m.length mk) m) (hf : fewB L m.length = true) :
    Calls Try.prog 5 #[.agg #[.slice ao L.length k, .slice mo m.length mk]] w (GivesB w (.bool true)) := by
  have BX : Ext w (w.alloc (.cells #[.slice ao L.length k, .slice mo m.length mk] 43)) := (Ext.refl w).alloc _
  have HD : Hid (∀ V, Ext (w.alloc (.cells #[.slice ao L.length k, .slice mo m.length mk] 43)) V → V.cell? ⟨w.heap.size, 0, none⟩ = some (.slice ao L.length k) ∧ V.cell? ⟨w.heap.size, 1, none⟩ = some (.slice mo m.length mk)) := Lib.hid fun V hV => ⟨cell_atD V hV rfl, cell_atD V hV rfl⟩
  have HL := Lib.hid h
  have HM := Lib.hid hm
  have l1 := h.length_le
  have l2 := hm.length_le
  have HF := Lib.hid hf
  obtain ⟨k1, k3, k2⟩ := fewB_lens hf
  have LHL : Hid (∀ d ∈ L, d.sides.length ≤ 1000) := Lib.hid fun d hd => Nat.le_trans (k2 d hd) (by omega)
  clear h hm hf k2
  go_enter Try.func5, Try.ntmps5
  go_wp2_with (first
    | (go_at_call 9; refine (awakeP_any _).mono ?_; rintro e w1 ⟨rfl, x1⟩; have X1 : Hid (Ext (w.alloc (.cells #[.slice ao L.length k, .slice mo m.length mk] 43)) w1) := Lib.hid (by repeat (first | exact Ext.refl _ | assumption | exact Hid.out (by assumption) | refine Ext.alloc ?_ _ | refine Ext.drew ?_ | refine Ext.drewN ?_ _ | refine Ext.trans ?_ (by assumption))); have z1 := x1; clear x1; obtain ⟨y10, y11⟩ := HD.out w1 (by repeat (first | exact Ext.refl _ | assumption | exact Hid.out (by assumption) | refine Ext.alloc ?_ _ | refine Ext.drew ?_ | refine Ext.drewN ?_ _ | refine Ext.trans ?_ (by assumption))))
    | (go_at_call 16; refine (refFew_any Non _ _ mo m.length mk L (HL.out.ext (BX.trans (by repeat (first | exact Ext.refl _ | assumption | exact Hid.out (by assumption) | refine Ext.alloc ?_ _ | refine Ext.drew ?_ | refine Ext.drewN ?_ _ | refine Ext.trans ?_ (by assumption))))) (by omega) true HF.out).mono ?_; rintro e w2 ⟨rfl, x2⟩; have X2 : Hid (Ext (w.alloc (.cells #[.slice ao L.length k, .slice mo m.length mk] 43)) w2) := Lib.hid (by repeat (first | exact Ext.refl _ | assumption | exact Hid.out (by assumption) | refine Ext.alloc ?_ _ | refine Ext.drew ?_ | refine Ext.drewN ?_ _ | refine Ext.trans ?_ (by assumption))); have z2 := x2; clear x2; obtain ⟨y20, y21⟩ := HD.out w2 (by repeat (first | exact Ext.refl _ | assumption | exact Hid.out (by assumption) | refine Ext.alloc ?_ _ | refine Ext.drew ?_ | refine Ext.drewN ?_ _ | refine Ext.trans ?_ (by assumption)))))
  (refine wp_region_X_lit (K := fun V => Ext (w.alloc (.cells #[.slice ao L.length k, .slice mo m.length mk] 43)) V) (by kernel_rfl) (fun w1 hw1 => ?_))
  have Z1 : Hid (Ext (w.alloc (.cells #[.slice ao L.length k, .slice mo m.length mk] 43)) w1) := Lib.hid (X2.out.trans hw1)
  clear hw1
  refine xtv 0 (h := ?_)
  refine xtv 1 (hv := by intro w' hw'; have hc := (HD.out w' hw').1; go_simp; first | done | with_reducible rfl) (h := ?_)
  refine xtv 4 (h := ?_)
  refine xtv 5 (hv := by intro w' hw'; have hc := (HD.out w' hw').2; go_simp; first | done | with_reducible rfl) (h := ?_)
  refine xtv 9 (hv := by intro w' hw'; obtain ⟨hc, hc2⟩ := HD.out w' hw'; go_simp; first | done | with_reducible rfl) (h := ?_)
  refine xtwo 2 3 (hk := Z1.out) (h := RunX.of 2 (h := ?_)) (h' := RunX.of 3 (h := ?_))
  · go_simp
    refine (ownD_any Non _ _ L (HL.out.ext (BX.trans (by repeat (first | exact Ext.refl _ | assumption | exact Hid.out (by assumption) | refine Ext.alloc ?_ _ | refine Ext.drew ?_ | refine Ext.drewN ?_ _ | refine Ext.trans ?_ (by assumption))))) (by omega) LHL.out).mono ?_
    rintro e3 w3 ⟨v3, rfl, s3, x3⟩
    obtain ⟨a3, c3, rfl⟩ := s3.len
    have S3 := Lib.hid (s3.ns (G := Non) (fun _ h => h) (fun _ h => False.elim h))
    clear s3
    have X3 : Hid (Ext (w.alloc (.cells #[.slice ao L.length k, .slice mo m.length mk] 43)) w3) := Lib.hid (by repeat (first | exact Ext.refl _ | assumption | exact Hid.out (by assumption) | refine Ext.alloc ?_ _ | refine Ext.drew ?_ | refine Ext.drewN ?_ _ | refine Ext.trans ?_ (by assumption)))
    have z3 := x3
    clear x3
    dsimp only
    (try (simp only [Act.put, List.setIfInBounds_toArray, List.set]))
    refine xone 3 (hk := (by repeat (first | exact Ext.refl _ | assumption | exact Hid.out (by assumption) | refine Ext.alloc ?_ _ | refine Ext.drew ?_ | refine Ext.drewN ?_ _ | refine Ext.trans ?_ (by assumption)))) (h := RunX.of 3 (h := ?_))
    go_simp
    (try (simp only [Act.put, List.setIfInBounds_toArray, List.set]))
    refine xone 6 (hk := (by repeat (first | exact Ext.refl _ | assumption | exact Hid.out (by assumption) | refine Ext.alloc ?_ _ | refine Ext.drew ?_ | refine Ext.drewN ?_ _ | refine Ext.trans ?_ (by assumption)))) (h := RunX.of 6 (h := ?_))
    (refine wp_append_sl (α := Ml) (.tmp 14) (.tmp 16) rfl w3.heap.size (.slice (some ⟨_, 0, none⟩) 0 0) [] rfl ?_ (.slice mo m.length mk) m rfl ?_ ?_ ?_ ?_; exact (Ow.litAt w3 _ _ rfl (Nat.le_refl _) [] (by simp)); exact (HM.out.ext (BX.trans (by repeat (first | exact Ext.refl _ | assumption | exact Hid.out (by assumption) | refine Ext.alloc ?_ _ | refine Ext.drew ?_ | refine Ext.drewN ?_ _ | refine Ext.trans ?_ (by assumption))))); (first | omega | (simp; omega)); exact (by first | omega | (rw [size_alloc]; omega) | simp); intro v4 w4 ho4 ha4; have x4 : Ext w3 w4 := Below.trans ((Ext.refl w3).alloc _) ha4.below; obtain ⟨a4, n4, c4, rfl⟩ := ho4.sh; have S4 : Hid (Sl w4 (.slice a4 n4 c4) m) := Lib.hid ho4.sl; clear ho4 ha4)
    have X4 : Hid (Ext (w.alloc (.cells #[.slice ao L.length k, .slice mo m.length mk] 43)) w4) := Lib.hid (by repeat (first | exact Ext.refl _ | assumption | exact Hid.out (by assumption) | refine Ext.alloc ?_ _ | refine Ext.drew ?_ | refine Ext.drewN ?_ _ | refine Ext.trans ?_ (by assumption)))
    have z4 := x4
    clear x4
    (try (simp only [Act.put, List.setIfInBounds_toArray, List.set]))
    refine xtv 7 (h := ?_)
    refine xone 8 (hk := (by repeat (first | exact Ext.refl _ | assumption | exact Hid.out (by assumption) | refine Ext.alloc ?_ _ | refine Ext.drew ?_ | refine Ext.drewN ?_ _ | refine Ext.trans ?_ (by assumption)))) (h := RunX.of 8 (h := ?_))
    go_simp
    refine (pArcs_any _ _ _ L m (S3.out.ext (by repeat (first | exact Ext.refl _ | assumption | exact Hid.out (by assumption) | refine Ext.alloc ?_ _ | refine Ext.drew ?_ | refine Ext.drewN ?_ _ | refine Ext.trans ?_ (by assumption)))) (S4.out.ext (by repeat (first | exact Ext.refl _ | assumption | exact Hid.out (by assumption) | refine Ext.alloc ?_ _ | refine Ext.drew ?_ | refine Ext.drewN ?_ _ | refine Ext.trans ?_ (by assumption)))) (by omega)).mono ?_
    rintro e5 w5 ⟨v5, rfl, s5, x5⟩
    obtain ⟨a5, n5, c5, rfl⟩ := s5.sh
    have S5 := Lib.hid s5
    clear s5
    have X5 : Hid (Ext (w.alloc (.cells #[.slice ao L.length k, .slice mo m.length mk] 43)) w5) := Lib.hid (by repeat (first | exact Ext.refl _ | assumption | exact Hid.out (by assumption) | refine Ext.alloc ?_ _ | refine Ext.drew ?_ | refine Ext.drewN ?_ _ | refine Ext.trans ?_ (by assumption)))
    have z5 := x5
    clear x5
    dsimp only
    (try (simp only [Act.put, List.setIfInBounds_toArray, List.set]))
    refine xone 10 (hk := (by repeat (first | exact Ext.refl _ | assumption | exact Hid.out (by assumption) | refine Ext.alloc ?_ _ | refine Ext.drew ?_ | refine Ext.drewN ?_ _ | refine Ext.trans ?_ (by assumption)))) (h := RunX.of 10 (h := ?_))
    go_simp
    refine (refArcs_any Non _ _ _ L m (HL.out.ext (BX.trans (by repeat (first | exact Ext.refl _ | assumption | exact Hid.out (by assumption) | refine Ext.alloc ?_ _ | refine Ext.drew ?_ | refine Ext.drewN ?_ _ | refine Ext.trans ?_ (by assumption))))) (HM.out.ext (BX.trans (by repeat (first | exact Ext.refl _ | assumption | exact Hid.out (by assumption) | refine Ext.alloc ?_ _ | refine Ext.drew ?_ | refine Ext.drewN ?_ _ | refine Ext.trans ?_ (by assumption))))) (by omega)).mono ?_
    rintro e6 w6 ⟨v6, rfl, s6, x6⟩
    obtain ⟨a6, n6, c6, rfl⟩ := s6.sh
    have S6 := Lib.hid s6.sl
    clear s6
    have X6 : Hid (Ext (w.alloc (.cells #[.slice ao L.length k, .slice mo m.length mk] 43)) w6) := Lib.hid (by repeat (first | exact Ext.refl _ | assumption | exact Hid.out (by assumption) | refine Ext.alloc ?_ _ | refine Ext.drew ?_ | refine Ext.drewN ?_ _ | refine Ext.trans ?_ (by assumption)))
    have z6 : Ext _ w6 := x6
    clear x6
    dsimp only
    (try (simp only [Act.put, List.setIfInBounds_toArray, List.set]))
    refine xone 11 (hk := (by repeat (first | exact Ext.refl _ | assumption | exact Hid.out (by assumption) | refine Ext.alloc ?_ _ | refine Ext.drew ?_ | refine Ext.drewN ?_ _ | refine Ext.trans ?_ (by assumption)))) (h := RunX.of 11 (h := ?_))
    go_simp
    refine (refSameA_val _ _ _ (arcsOf m L) (arcsOf m L) (S5.out.ext (by repeat (first | exact Ext.refl _ | assumption | exact Hid.out (by assumption) | refine Ext.alloc ?_ _ | refine Ext.drew ?_ | refine Ext.drewN ?_ _ | refine Ext.trans ?_ (by assumption)))) (S6.out.ext (by repeat (first | exact Ext.refl _ | assumption | exact Hid.out (by assumption) | refine Ext.alloc ?_ _ | refine Ext.drew ?_ | refine Ext.drewN ?_ _ | refine Ext.trans ?_ (by assumption)))) true (by simp)).mono ?_
    rintro e7 w7 ⟨rfl, x7⟩
    have X7 : Hid (Ext (w.alloc (.cells #[.slice ao L.length k, .slice mo m.length mk] 43)) w7) := Lib.hid (by repeat (first | exact Ext.refl _ | assumption | exact Hid.out (by assumption) | refine Ext.alloc ?_ _ | refine Ext.drew ?_ | refine Ext.drewN ?_ _ | refine Ext.trans ?_ (by assumption)))
    dsimp only
    (try (simp only [Act.put, List.setIfInBounds_toArray, List.set]))
    refine xtv 12 (h := ?_)
    (refine xdone (by kernel_rfl) (X7.out) ?_)
    go_wp2
    go_ret
    exact ⟨rfl, BX.trans (by repeat (first | exact Ext.refl _ | assumption | exact Hid.out (by assumption) | refine Ext.alloc ?_ _ | refine Ext.drew ?_ | refine Ext.drewN ?_ _ | refine Ext.trans ?_ (by assumption)))⟩
  · go_simp
    (try (simp only [Act.put, List.setIfInBounds_toArray, List.set]))
    refine xone 2 (hk := (by repeat (first | exact Ext.refl _ | assumption | exact Hid.out (by assumption) | refine Ext.alloc ?_ _ | refine Ext.drew ?_ | refine Ext.drewN ?_ _ | refine Ext.trans ?_ (by assumption)))) (h := RunX.of 2 (h := ?_))
    go_simp
    refine (ownDG_any (fun k => k = w1.heap.size) Non _ _ L (HL.out.ext (BX.trans (by repeat (first | exact Ext.refl _ | assumption | exact Hid.out (by assumption) | refine Ext.alloc ?_ _ | refine Ext.drew ?_ | refine Ext.drewN ?_ _ | refine Ext.trans ?_ (by assumption))))) (fun k hk => by rw [hk, size_alloc]; omega) (by omega) LHL.out).mono ?_
    rintro e3 w3 ⟨v3, rfl, s3, x3⟩
    obtain ⟨a3, c3, rfl⟩ := s3.len
    have S3 := Lib.hid (s3.ns (G := fun k => k = w1.heap.size) (fun _ h => h) (fun k h => by rw [h, size_alloc]; omega))
    clear s3
    have X3 : Hid (Ext (w.alloc (.cells #[.slice ao L.length k, .slice mo m.length mk] 43)) w3) := Lib.hid (by repeat (first | exact Ext.refl _ | assumption | exact Hid.out (by assumption) | refine Ext.alloc ?_ _ | refine Ext.drew ?_ | refine Ext.drewN ?_ _ | refine Ext.trans ?_ (by assumption)))
    have z3 := x3
    clear x3
    dsimp only
    (try (simp only [Act.put, List.setIfInBounds_toArray, List.set]))
    refine xone 6 (hk := (by repeat (first | exact Ext.refl _ | assumption | exact Hid.out (by assumption) | refine Ext.alloc ?_ _ | refine Ext.drew ?_ | refine Ext.drewN ?_ _ | refine Ext.trans ?_ (by assumption)))) (h := RunX.of 6 (h := ?_))
    (refine wp_append_sl (α := Ml) (.tmp 14) (.tmp 16) rfl w1.heap.size (.slice (some ⟨_, 0, none⟩) 0 0) [] rfl ?_ (.slice mo m.length mk) m rfl ?_ ?_ ?_ ?_; exact ((Ow.litAt w1 _ _ rfl (Nat.le_refl _) [] (by simp)).ext (Below.mono z3 (Nat.le_refl _))); exact (HM.out.ext (BX.trans (by repeat (first | exact Ext.refl _ | assumption | exact Hid.out (by assumption) | refine Ext.alloc ?_ _ | refine Ext.drew ?_ | refine Ext.drewN ?_ _ | refine Ext.trans ?_ (by assumption))))); (first | omega | (simp; omega)); exact (by first | omega | (rw [size_alloc]; omega) | (have := z3.size; rw [size_alloc] at this; omega)); intro v4 w4 ho4 ha4; have x4 : Ext w1 w4 := Below.trans (Ext.trans ((Ext.refl w1).alloc _) z3) ha4.below; obtain ⟨a4, n4, c4, rfl⟩ := ho4.sh; have S4 : Hid (Sl w4 (.slice a4 n4 c4) m) := Lib.hid ho4.sl; have S3' : Hid (Ns DV Non w4 (.slice a3 L.length c3) L) := Lib.hid (S3.out.off ((off_grown ha4.grown).mono fun k hk => by simpa [Value.ownBlock] using hk.symm) (fun k hk => False.elim hk)); clear ho4 ha4 S3)
    have S3 := S3'
    have X4 : Hid (Ext (w.alloc (.cells #[.slice ao L.length k, .slice mo m.length mk] 43)) w4) := Lib.hid (by repeat (first | exact Ext.refl _ | assumption | exact Hid.out (by assumption) | refine Ext.alloc ?_ _ | refine Ext.drew ?_ | refine Ext.drewN ?_ _ | refine Ext.trans ?_ (by assumption)))
    have z4 := x4
    clear x4
    (try (simp only [Act.put, List.setIfInBounds_toArray, List.set]))
    refine xtv 7 (h := ?_)
    refine xone 8 (hk := (by repeat (first | exact Ext.refl _ | assumption | exact Hid.out (by assumption) | refine Ext.alloc ?_ _ | refine Ext.drew ?_ | refine Ext.drewN ?_ _ | refine Ext.trans ?_ (by assumption)))) (h := RunX.of 8 (h := ?_))
    go_simp
    refine (pArcs_any _ _ _ L m (S3.out.ext (by repeat (first | exact Ext.refl _ | assumption | exact Hid.out (by assumption) | refine Ext.alloc ?_ _ | refine Ext.drew ?_ | refine Ext.drewN ?_ _ | refine Ext.trans ?_ (by assumption)))) (S4.out.ext (by repeat (first | exact Ext.refl _ | assumption | exact Hid.out (by assumption) | refine Ext.alloc ?_ _ | refine Ext.drew ?_ | refine Ext.drewN ?_ _ | refine Ext.trans ?_ (by assumption)))) (by omega)).mono ?_
    rintro e5 w5 ⟨v5, rfl, s5, x5⟩
    obtain ⟨a5, n5, c5, rfl⟩ := s5.sh
    have S5 := Lib.hid s5
    clear s5
    have X5 : Hid (Ext (w.alloc (.cells #[.slice ao L.length k, .slice mo m.length mk] 43)) w5) := Lib.hid (by repeat (first | exact Ext.refl _ | assumption | exact Hid.out (by assumption) | refine Ext.alloc ?_ _ | refine Ext.drew ?_ | refine Ext.drewN ?_ _ | refine Ext.trans ?_ (by assumption)))
    have z5 := x5
    clear x5
    dsimp only
    (try (simp only [Act.put, List.setIfInBounds_toArray, List.set]))
    refine xone 10 (hk := (by repeat (first | exact Ext.refl _ | assumption | exact Hid.out (by assumption) | refine Ext.alloc ?_ _ | refine Ext.drew ?_ | refine Ext.drewN ?_ _ | refine Ext.trans ?_ (by assumption)))) (h := RunX.of 10 (h := ?_))
    go_simp
    refine (refArcs_any Non _ _ _ L m (HL.out.ext (BX.trans (by repeat (first | exact Ext.refl _ | assumption | exact Hid.out (by assumption) | refine Ext.alloc ?_ _ | refine Ext.drew ?_ | refine Ext.drewN ?_ _ | refine Ext.trans ?_ (by assumption))))) (HM.out.ext (BX.trans (by repeat (first | exact Ext.refl _ | assumption | exact Hid.out (by assumption) | refine Ext.alloc ?_ _ | refine Ext.drew ?_ | refine Ext.drewN ?_ _ | refine Ext.trans ?_ (by assumption))))) (by omega)).mono ?_
    rintro e6 w6 ⟨v6, rfl, s6, x6⟩
    obtain ⟨a6, n6, c6, rfl⟩ := s6.sh
    have S6 := Lib.hid s6.sl
    clear s6
    have X6 : Hid (Ext (w.alloc (.cells #[.slice ao L.length k, .slice mo m.length mk] 43)) w6) := Lib.hid (by repeat (first | exact Ext.refl _ | assumption | exact Hid.out (by assumption) | refine Ext.alloc ?_ _ | refine Ext.drew ?_ | refine Ext.drewN ?_ _ | refine Ext.trans ?_ (by assumption)))
    have z6 : Ext _ w6 := x6
    clear x6
    dsimp only
    (try (simp only [Act.put, List.setIfInBounds_toArray, List.set]))
    refine xone 11 (hk := (by repeat (first | exact Ext.refl _ | assumption | exact Hid.out (by assumption) | refine Ext.alloc ?_ _ | refine Ext.drew ?_ | refine Ext.drewN ?_ _ | refine Ext.trans ?_ (by assumption)))) (h := RunX.of 11 (h := ?_))
    go_simp
    refine (refSameA_val _ _ _ (arcsOf m L) (arcsOf m L) (S5.out.ext (by repeat (first | exact Ext.refl _ | assumption | exact Hid.out (by assumption) | refine Ext.alloc ?_ _ | refine Ext.drew ?_ | refine Ext.drewN ?_ _ | refine Ext.trans ?_ (by assumption)))) (S6.out.ext (by repeat (first | exact Ext.refl _ | assumption | exact Hid.out (by assumption) | refine Ext.alloc ?_ _ | refine Ext.drew ?_ | refine Ext.drewN ?_ _ | refine Ext.trans ?_ (by assumption)))) true (by simp)).mono ?_
    rintro e7 w7 ⟨rfl, x7⟩
    have X7 : Hid (Ext (w.alloc (.cells #[.slice ao L.length k, .slice mo m.length mk] 43)) w7) := Lib.hid (by repeat (first | exact Ext.refl _ | assumption | exact Hid.out (by assumption) | refine Ext.alloc ?_ _ | refine Ext.drew ?_ | refine Ext.drewN ?_ _ | refine Ext.trans ?_ (by assumption)))
    dsimp only
    (try (simp only [Act.put, List.setIfInBounds_toArray, List.set]))
    refine xtv 12 (h := ?_)
    (refine xdone (by kernel_rfl) (X7.out) ?_)
    go_wp2
    go_ret
    exact ⟨rfl, BX.trans (by repeat (first | exact Ext.refl _ | assumption | exact Hid.out (by assumption) | refine Ext.alloc ?_ _ | refine Ext.drew ?_ | refine Ext.drewN ?_ _ | refine Ext.trans ?_ (by assumption)))⟩

theorem placeArcs_any (w : World) (ao : Option Addr) (k : Nat) (L : List Dn) (mo : Option Addr) (mk : Nat) (m : List Ml) (h : Ns DV Non w (.slice ao L.length k) L) (hm : Sl w (.slice mo m.length mk) m) :
    Calls Try.prog 5 #[.agg #[.slice ao L.length k, .slice mo m.length mk]] w (GivesB w (.bool true)) := by
  cases hf : fewB L m.length with
  | false => exact placeArcs_long w ao k L mo mk m h hm hf
  | true => exact placeArcs_short w ao k L mo mk m h hm hf

end Go.Proofs.Ytpnnnbjjoimalaa
