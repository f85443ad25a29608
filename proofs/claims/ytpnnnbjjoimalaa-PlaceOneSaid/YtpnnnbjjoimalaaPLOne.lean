/- Layer 12's law PlaceOne, walked. -/
import Derived.Test.YtpnnnbjjoimalaaPA
import Derived.Test.YtpnnnbjjoimalaaME
namespace Go.Proofs.Ytpnnnbjjoimalaa
open Go.RowKit

theorem xM_weaken {P : Program} {ops : Array Oper} {Q : Exit → Act → World → Prop} {md : Region.Mode} {K K' : World → Prop} (hK : ∀ w, K' w → K w) : ∀ {f : Nat} {listed : Array Bool} {a : Act} {w : World}, xM P md ops Q K' f listed a w → xM P md ops Q K f listed a w
  | 0, _, _, _, h => ⟨hK _ h.1, h.2⟩
  | _ + 1, _, _, _, h => ⟨hK _ h.1, h.2.1, fun i hi => wpOp_mono (fun _ _ h2 => xM_weaken hK h2) (h.2.2 i hi)⟩
theorem Ns.rowAt {w : World} {ao : Option Addr} {n k : Nat} {N : Int} {E : List Edge} {c : List Int} (S : Ns DV Non w (.slice ao n k) (tableL N E c)) {m : Nat} (hm : m < N.toNat) :
    ∃ b off so sc, ao = some ⟨b, off, none⟩ ∧ n = (tableL N E c).length ∧ Sl w (.slice so (sidesTo E c m N.toNat).length sc) (sidesTo E c m N.toNat) ∧
      ∀ W, Ext w W → W.cell? ⟨b, off + m * 3, none⟩ = some (.int .i64 (m : Int)) ∧ W.cell? ⟨b, off + m * 3 + 1, none⟩ = some (.int .i64 0) ∧ W.cell? ⟨b, off + m * 3 + 2, none⟩ = some (.slice so (sidesTo E c m N.toNat).length sc) := by
  obtain ⟨b, off, so, sc, d, h1, h2, h3, h4, h5, h6, h7, h8⟩ := S.dinerAt (k := m) (by rw [tableL_length]; exact hm)
  have hd : d = dinerC N E c m := by
    have h := h1
    rw [tableL, List.getElem?_map, List.getElem?_range hm] at h
    simpa using h.symm
  subst hd
  exact ⟨b, off, so, sc, h2, h3, h7.sl, h8⟩
theorem side_lt {c : List Int} {a b : Int} (h : col c a < col c b) : sideC c a b = ⟨b, 1, 0, false, false, true, false, true⟩ ∧ sideC c b a = ⟨a, 1, 0, true, true, false, true, false⟩ := by
  unfold sideC
  rw [if_pos h, if_neg (by omega)]
  exact ⟨rfl, rfl⟩
theorem side_edge {N : Int} {E : List Edge} {c : List Int} {a b : Nat} (ha : a < N.toNat) (hb : b < N.toNat) (hab : a < b) (he : (⟨a, b⟩ : Edge) ∈ E) :
    sideR (sidesTo E c a N.toNat) b = (sideC c a b, true) ∧ sideR (sidesTo E c b N.toNat) a = (sideC c b a, true) := by
  have h1 : btw (a : Int) (b : Int) = ⟨a, b⟩ := by unfold btw; rw [Int.min_eq_left (by omega), Int.max_eq_right (by omega)]
  have h2 : btw (b : Int) (a : Int) = ⟨a, b⟩ := by unfold btw; rw [Int.min_eq_right (by omega), Int.max_eq_left (by omega)]
  rw [side_is hb, side_is ha, h1, h2, if_pos he, if_pos he]
  exact ⟨rfl, rfl⟩

set_option maxRecDepth 100000 in
set_option maxHeartbeats 8000000 in
theorem placeOne_longE (w : World) (N : Int) (ao : Option Addr) (k : Nat) (E : List Edge) (co : Option Addr) (cc : Nat) (c : List Int) (h : Sl w (.slice ao E.length k) E) (hc : Sl w (.slice co c.length cc) c) (hf : ¬ (E.length : Int) ≤ 60) :
    Calls Try.prog 7 #[.agg #[.int .i64 N, .slice ao E.length k], .slice co c.length cc] w (GivesB w (.bool true)) := by
  have BX : Ext w (w.alloc (.cells #[.int .i64 N, .slice ao E.length k] 24)) := (Ext.refl w).alloc _
  have HD := Lib.hid (graph_at w N (.slice ao E.length k))
  have HE := Lib.hid h
  have hEl := h.length_le
  have HC := Lib.hid hc
  have hCl := hc.length_le
  clear h hc
  go_enter Try.func7, Try.ntmps7
  go_wp2_with (first
    | (have hgd := X1; clear hgd; go_at_call 9; refine (awakeP_any _).mono ?_; rintro e w2 ⟨rfl, x2⟩; have X2 : Hid (Ext (w.alloc (.cells #[.int .i64 N, .slice ao E.length k] 24)) w2) := Lib.hid (by repeat (first | exact Ext.refl _ | assumption | exact Hid.out (by assumption) | refine Ext.alloc ?_ _ | refine Ext.drew ?_ | refine Ext.drewN ?_ _ | refine Ext.trans ?_ (by assumption))); have z2 := x2; clear x2; obtain ⟨y20, y21⟩ := HD.out w2 (by repeat (first | exact Ext.refl _ | assumption | exact Hid.out (by assumption) | refine Ext.alloc ?_ _ | refine Ext.drew ?_ | refine Ext.drewN ?_ _ | refine Ext.trans ?_ (by assumption))))
    | (go_at_call 9; refine (awakeP_any _).mono ?_; rintro e w1 ⟨rfl, x1⟩; have X1 : Hid (Ext (w.alloc (.cells #[.int .i64 N, .slice ao E.length k] 24)) w1) := Lib.hid (by repeat (first | exact Ext.refl _ | assumption | exact Hid.out (by assumption) | refine Ext.alloc ?_ _ | refine Ext.drew ?_ | refine Ext.drewN ?_ _ | refine Ext.trans ?_ (by assumption))); have z1 := x1; clear x1; obtain ⟨y10, y11⟩ := HD.out w1 (by repeat (first | exact Ext.refl _ | assumption | exact Hid.out (by assumption) | refine Ext.alloc ?_ _ | refine Ext.drew ?_ | refine Ext.drewN ?_ _ | refine Ext.trans ?_ (by assumption)))))
  go_ret
  exact ⟨rfl, BX.trans (by repeat (first | exact Ext.refl _ | assumption | exact Hid.out (by assumption) | refine Ext.alloc ?_ _ | refine Ext.drew ?_ | refine Ext.drewN ?_ _ | refine Ext.trans ?_ (by assumption)))⟩

set_option maxRecDepth 100000 in
set_option maxHeartbeats 8000000 in
theorem placeOne_longC (w : World) (N : Int) (ao : Option Addr) (k : Nat) (E : List Edge) (co : Option Addr) (cc : Nat) (c : List Int) (h : Sl w (.slice ao E.length k) E) (hc : Sl w (.slice co c.length cc) c) (hf : (E.length : Int) ≤ 60) (hg : ¬ (c.length : Int) ≤ 70) :
    Calls Try.prog 7 #[.agg #[.int .i64 N, .slice ao E.length k], .slice co c.length cc] w (GivesB w (.bool true)) := by
  have BX : Ext w (w.alloc (.cells #[.int .i64 N, .slice ao E.length k] 24)) := (Ext.refl w).alloc _
  have HD := Lib.hid (graph_at w N (.slice ao E.length k))
  have HE := Lib.hid h
  have hEl := h.length_le
  have HC := Lib.hid hc
  have hCl := hc.length_le
  clear h hc
  go_enter Try.func7, Try.ntmps7
  go_wp2_with (first
    | (have hgd := X1; clear hgd; go_at_call 9; refine (awakeP_any _).mono ?_; rintro e w2 ⟨rfl, x2⟩; have X2 : Hid (Ext (w.alloc (.cells #[.int .i64 N, .slice ao E.length k] 24)) w2) := Lib.hid (by repeat (first | exact Ext.refl _ | assumption | exact Hid.out (by assumption) | refine Ext.alloc ?_ _ | refine Ext.drew ?_ | refine Ext.drewN ?_ _ | refine Ext.trans ?_ (by assumption))); have z2 := x2; clear x2; obtain ⟨y20, y21⟩ := HD.out w2 (by repeat (first | exact Ext.refl _ | assumption | exact Hid.out (by assumption) | refine Ext.alloc ?_ _ | refine Ext.drew ?_ | refine Ext.drewN ?_ _ | refine Ext.trans ?_ (by assumption))))
    | (go_at_call 9; refine (awakeP_any _).mono ?_; rintro e w1 ⟨rfl, x1⟩; have X1 : Hid (Ext (w.alloc (.cells #[.int .i64 N, .slice ao E.length k] 24)) w1) := Lib.hid (by repeat (first | exact Ext.refl _ | assumption | exact Hid.out (by assumption) | refine Ext.alloc ?_ _ | refine Ext.drew ?_ | refine Ext.drewN ?_ _ | refine Ext.trans ?_ (by assumption))); have z1 := x1; clear x1; obtain ⟨y10, y11⟩ := HD.out w1 (by repeat (first | exact Ext.refl _ | assumption | exact Hid.out (by assumption) | refine Ext.alloc ?_ _ | refine Ext.drew ?_ | refine Ext.drewN ?_ _ | refine Ext.trans ?_ (by assumption)))))
  go_ret
  exact ⟨rfl, BX.trans (by repeat (first | exact Ext.refl _ | assumption | exact Hid.out (by assumption) | refine Ext.alloc ?_ _ | refine Ext.drew ?_ | refine Ext.drewN ?_ _ | refine Ext.trans ?_ (by assumption)))⟩

set_option maxRecDepth 100000 in
set_option maxHeartbeats 8000000 in
theorem placeOne_A (w : World) (N : Int) (ao : Option Addr) (k : Nat) (E : List Edge) (co : Option Addr) (cc : Nat) (c : List Int) (h : Sl w (.slice ao E.length k) E) (hc : Sl w (.slice co c.length cc) c) (hf : (E.length : Int) ≤ 60) (hg : (c.length : Int) ≤ 70) (ho : okG N E = false) :
    Calls Try.prog 7 #[.agg #[.int .i64 N, .slice ao E.length k], .slice co c.length cc] w (GivesB w (.bool true)) := by
  have BX : Ext w (w.alloc (.cells #[.int .i64 N, .slice ao E.length k] 24)) := (Ext.refl w).alloc _
  have HD := Lib.hid (graph_at w N (.slice ao E.length k))
  have HE := Lib.hid h
  have hEl := h.length_le
  have HC := Lib.hid hc
  have hCl := hc.length_le
  have HR : Hid (placeR N E c = 30) := Lib.hid (by unfold placeR; rw [ho]; rfl)
  have HT : Hid ((if (30 : Int) = 0 then tableL N E c else []) = []) := Lib.hid rfl
  clear h hc
  go_enter Try.func7, Try.ntmps7
  go_wp2_with (first
    | (go_at_call 9; refine (awakeP_any _).mono ?_; rintro e w1 ⟨rfl, x1⟩; have X1 : Hid (Ext (w.alloc (.cells #[.int .i64 N, .slice ao E.length k] 24)) w1) := Lib.hid (by repeat (first | exact Ext.refl _ | assumption | exact Hid.out (by assumption) | refine Ext.alloc ?_ _ | refine Ext.drew ?_ | refine Ext.drewN ?_ _ | refine Ext.trans ?_ (by assumption))); have z1 := x1; clear x1; obtain ⟨y10, y11⟩ := HD.out w1 (by repeat (first | exact Ext.refl _ | assumption | exact Hid.out (by assumption) | refine Ext.alloc ?_ _ | refine Ext.drew ?_ | refine Ext.drewN ?_ _ | refine Ext.trans ?_ (by assumption))))
    | (go_at_call 11; refine (own_any _ N _ E (HE.out.ext (BX.trans (by repeat (first | exact Ext.refl _ | assumption | exact Hid.out (by assumption) | refine Ext.alloc ?_ _ | refine Ext.drew ?_ | refine Ext.drewN ?_ _ | refine Ext.trans ?_ (by assumption))))) (by omega)).mono ?_; rintro e w3 ⟨v3, rfl, s3, x3⟩; obtain ⟨a3, n3, c3, rfl⟩ := s3.sh; have S3 := Lib.hid s3; clear s3; have X3 : Hid (Ext (w.alloc (.cells #[.int .i64 N, .slice ao E.length k] 24)) w3) := Lib.hid (by repeat (first | exact Ext.refl _ | assumption | exact Hid.out (by assumption) | refine Ext.alloc ?_ _ | refine Ext.drew ?_ | refine Ext.drewN ?_ _ | refine Ext.trans ?_ (by assumption))); have z3 := x3; clear x3)
    | (at_builtin; refine wpList_append_sl (α := Int) rfl (.tmp 31) (.tmp 32) rfl w3.heap.size (.slice (some ⟨_, 0, none⟩) 0 0) [] rfl ?_ (.slice co c.length cc) c rfl ?_ ?_ ?_ ?_; exact (Ow.litAt w3 _ _ rfl (Nat.le_refl _) [] (by simp)); exact (HC.out.ext (BX.trans (by repeat (first | exact Ext.refl _ | assumption | exact Hid.out (by assumption) | refine Ext.alloc ?_ _ | refine Ext.drew ?_ | refine Ext.drewN ?_ _ | refine Ext.trans ?_ (by assumption))))); (first | omega | (simp; omega)); exact (by first | omega | (rw [size_alloc]; omega) | simp); intro v4 w4 ho4 ha4; have x4 : Ext w3 w4 := Below.trans ((Ext.refl w3).alloc _) ha4.below; obtain ⟨a4, n4, c4, rfl⟩ := ho4.sh; have S4 : Hid (Sl w4 (.slice a4 n4 c4) c) := Lib.hid ho4.sl; have X4 : Hid (Ext (w.alloc (.cells #[.int .i64 N, .slice ao E.length k] 24)) w4) := Lib.hid (by repeat (first | exact Ext.refl _ | assumption | exact Hid.out (by assumption) | refine Ext.alloc ?_ _ | refine Ext.drew ?_ | refine Ext.drewN ?_ _ | refine Ext.trans ?_ (by assumption))); have z4 := x4; clear x4; clear ho4 ha4)
    | (go_at_call 10; refine (pTable_any _ N _ _ E c (S3.out.ext (by repeat (first | exact Ext.refl _ | assumption | exact Hid.out (by assumption) | refine Ext.alloc ?_ _ | refine Ext.drew ?_ | refine Ext.drewN ?_ _ | refine Ext.trans ?_ (by assumption)))) (S4.out.ext (by repeat (first | exact Ext.refl _ | assumption | exact Hid.out (by assumption) | refine Ext.alloc ?_ _ | refine Ext.drew ?_ | refine Ext.drewN ?_ _ | refine Ext.trans ?_ (by assumption)))) 30 HR.out [] HT.out).mono ?_; rintro e w5 ⟨v5, rfl, s5, x5⟩; obtain ⟨a5, c5, rfl⟩ := s5.len; have S5 := Lib.hid s5; clear s5; have X5 : Hid (Ext (w.alloc (.cells #[.int .i64 N, .slice ao E.length k] 24)) w5) := Lib.hid (by repeat (first | exact Ext.refl _ | assumption | exact Hid.out (by assumption) | refine Ext.alloc ?_ _ | refine Ext.drew ?_ | refine Ext.drewN ?_ _ | refine Ext.trans ?_ (by assumption))); have z5 := x5; clear x5; obtain ⟨y50, y51⟩ := HD.out w5 (by repeat (first | exact Ext.refl _ | assumption | exact Hid.out (by assumption) | refine Ext.alloc ?_ _ | refine Ext.drew ?_ | refine Ext.drewN ?_ _ | refine Ext.trans ?_ (by assumption)))))
  go_ret
  exact ⟨rfl, BX.trans (by repeat (first | exact Ext.refl _ | assumption | exact Hid.out (by assumption) | refine Ext.alloc ?_ _ | refine Ext.drew ?_ | refine Ext.drewN ?_ _ | refine Ext.trans ?_ (by assumption)))⟩

set_option maxRecDepth 100000 in
set_option maxHeartbeats 8000000 in
theorem placeOne_B (w : World) (N : Int) (ao : Option Addr) (k : Nat) (E : List Edge) (co : Option Addr) (cc : Nat) (c : List Int) (h : Sl w (.slice ao E.length k) E) (hc : Sl w (.slice co c.length cc) c) (hf : (E.length : Int) ≤ 60) (hg : (c.length : Int) ≤ 70) (ho : okG N E = true) (hr : rightB N E c = false) :
    Calls Try.prog 7 #[.agg #[.int .i64 N, .slice ao E.length k], .slice co c.length cc] w (GivesB w (.bool true)) := by
  have BX : Ext w (w.alloc (.cells #[.int .i64 N, .slice ao E.length k] 24)) := (Ext.refl w).alloc _
  have HD := Lib.hid (graph_at w N (.slice ao E.length k))
  have HE := Lib.hid h
  have hEl := h.length_le
  have HC := Lib.hid hc
  have hCl := hc.length_le
  have HR : Hid (placeR N E c = 120) := Lib.hid (by unfold placeR; rw [ho, hr]; rfl)
  have HT : Hid ((if (120 : Int) = 0 then tableL N E c else []) = []) := Lib.hid rfl
  clear h hc
  go_enter Try.func7, Try.ntmps7
  go_wp2_with (first
    | (go_at_call 9; refine (awakeP_any _).mono ?_; rintro e w1 ⟨rfl, x1⟩; have X1 : Hid (Ext (w.alloc (.cells #[.int .i64 N, .slice ao E.length k] 24)) w1) := Lib.hid (by repeat (first | exact Ext.refl _ | assumption | exact Hid.out (by assumption) | refine Ext.alloc ?_ _ | refine Ext.drew ?_ | refine Ext.drewN ?_ _ | refine Ext.trans ?_ (by assumption))); have z1 := x1; clear x1; obtain ⟨y10, y11⟩ := HD.out w1 (by repeat (first | exact Ext.refl _ | assumption | exact Hid.out (by assumption) | refine Ext.alloc ?_ _ | refine Ext.drew ?_ | refine Ext.drewN ?_ _ | refine Ext.trans ?_ (by assumption))))
    | (go_at_call 11; refine (own_any _ N _ E (HE.out.ext (BX.trans (by repeat (first | exact Ext.refl _ | assumption | exact Hid.out (by assumption) | refine Ext.alloc ?_ _ | refine Ext.drew ?_ | refine Ext.drewN ?_ _ | refine Ext.trans ?_ (by assumption))))) (by omega)).mono ?_; rintro e w3 ⟨v3, rfl, s3, x3⟩; obtain ⟨a3, n3, c3, rfl⟩ := s3.sh; have S3 := Lib.hid s3; clear s3; have X3 : Hid (Ext (w.alloc (.cells #[.int .i64 N, .slice ao E.length k] 24)) w3) := Lib.hid (by repeat (first | exact Ext.refl _ | assumption | exact Hid.out (by assumption) | refine Ext.alloc ?_ _ | refine Ext.drew ?_ | refine Ext.drewN ?_ _ | refine Ext.trans ?_ (by assumption))); have z3 := x3; clear x3)
    | (at_builtin; refine wpList_append_sl (α := Int) rfl (.tmp 31) (.tmp 32) rfl w3.heap.size (.slice (some ⟨_, 0, none⟩) 0 0) [] rfl ?_ (.slice co c.length cc) c rfl ?_ ?_ ?_ ?_; exact (Ow.litAt w3 _ _ rfl (Nat.le_refl _) [] (by simp)); exact (HC.out.ext (BX.trans (by repeat (first | exact Ext.refl _ | assumption | exact Hid.out (by assumption) | refine Ext.alloc ?_ _ | refine Ext.drew ?_ | refine Ext.drewN ?_ _ | refine Ext.trans ?_ (by assumption))))); (first | omega | (simp; omega)); exact (by first | omega | (rw [size_alloc]; omega) | simp); intro v4 w4 ho4 ha4; have x4 : Ext w3 w4 := Below.trans ((Ext.refl w3).alloc _) ha4.below; obtain ⟨a4, n4, c4, rfl⟩ := ho4.sh; have S4 : Hid (Sl w4 (.slice a4 n4 c4) c) := Lib.hid ho4.sl; have X4 : Hid (Ext (w.alloc (.cells #[.int .i64 N, .slice ao E.length k] 24)) w4) := Lib.hid (by repeat (first | exact Ext.refl _ | assumption | exact Hid.out (by assumption) | refine Ext.alloc ?_ _ | refine Ext.drew ?_ | refine Ext.drewN ?_ _ | refine Ext.trans ?_ (by assumption))); have z4 := x4; clear x4; clear ho4 ha4)
    | (go_at_call 10; refine (pTable_any _ N _ _ E c (S3.out.ext (by repeat (first | exact Ext.refl _ | assumption | exact Hid.out (by assumption) | refine Ext.alloc ?_ _ | refine Ext.drew ?_ | refine Ext.drewN ?_ _ | refine Ext.trans ?_ (by assumption)))) (S4.out.ext (by repeat (first | exact Ext.refl _ | assumption | exact Hid.out (by assumption) | refine Ext.alloc ?_ _ | refine Ext.drew ?_ | refine Ext.drewN ?_ _ | refine Ext.trans ?_ (by assumption)))) 120 HR.out [] HT.out).mono ?_; rintro e w5 ⟨v5, rfl, s5, x5⟩; obtain ⟨a5, c5, rfl⟩ := s5.len; have S5 := Lib.hid s5; clear s5; have X5 : Hid (Ext (w.alloc (.cells #[.int .i64 N, .slice ao E.length k] 24)) w5) := Lib.hid (by repeat (first | exact Ext.refl _ | assumption | exact Hid.out (by assumption) | refine Ext.alloc ?_ _ | refine Ext.drew ?_ | refine Ext.drewN ?_ _ | refine Ext.trans ?_ (by assumption))); have z5 := x5; clear x5; obtain ⟨y50, y51⟩ := HD.out w5 (by repeat (first | exact Ext.refl _ | assumption | exact Hid.out (by assumption) | refine Ext.alloc ?_ _ | refine Ext.drew ?_ | refine Ext.drewN ?_ _ | refine Ext.trans ?_ (by assumption)))))
  go_ret
  exact ⟨rfl, BX.trans (by repeat (first | exact Ext.refl _ | assumption | exact Hid.out (by assumption) | refine Ext.alloc ?_ _ | refine Ext.drew ?_ | refine Ext.drewN ?_ _ | refine Ext.trans ?_ (by assumption)))⟩

set_option maxRecDepth 100000 in
set_option maxHeartbeats 8000000 in
theorem placeOne_C (w : World) (N : Int) (ao : Option Addr) (k : Nat) (E : List Edge) (co : Option Addr) (cc : Nat) (c : List Int) (h : Sl w (.slice ao E.length k) E) (hc : Sl w (.slice co c.length cc) c) (hf : (E.length : Int) ≤ 60) (hg : (c.length : Int) ≤ 70) (ho : okG N E = true) (hr : rightB N E c = true) :
    Calls Try.prog 7 #[.agg #[.int .i64 N, .slice ao E.length k], .slice co c.length cc] w (GivesB w (.bool true)) := by
  have BX : Ext w (w.alloc (.cells #[.int .i64 N, .slice ao E.length k] 24)) := (Ext.refl w).alloc _
  have HD := Lib.hid (graph_at w N (.slice ao E.length k))
  have HE := Lib.hid h
  have hEl := h.length_le
  have HC := Lib.hid hc
  have hCl := hc.length_le
  have HR : Hid (placeR N E c = 0) := Lib.hid (by unfold placeR; rw [ho, hr]; rfl)
  have HT : Hid ((if (0 : Int) = 0 then tableL N E c else []) = tableL N E c) := Lib.hid rfl
  have OKG := Lib.hid (okG_iff.1 ho)
  have HNE := Lib.hid (right_ne hr)
  have hTl : (tableL N E c).length ≤ 64 := by rw [tableL_length]; have := (okG_iff.1 ho).n0; have := (okG_iff.1 ho).n64; omega
  have hTN : ((tableL N E c).length : Int) = N := by rw [tableL_length]; have := (okG_iff.1 ho).n0; omega
  have LT : Hid (∀ d ∈ tableL N E c, d.sides.length ≤ 64) := Lib.hid fun d hd => by
    obtain ⟨m, hm, rfl⟩ := List.mem_map.1 hd
    have h1 := sidesTo_len E c m N.toNat
    have h2 := (okG_iff.1 ho).n64
    show (sidesTo E c m N.toNat).length ≤ 64
    omega
  have HGT := Lib.hid (graph_table (c := c) (okG_iff.1 ho))
  clear h hc
  go_enter Try.func7, Try.ntmps7
  go_wp2_with (first
    | (go_at_call 9; refine (awakeP_any _).mono ?_; rintro e w1 ⟨rfl, x1⟩; have X1 : Hid (Ext (w.alloc (.cells #[.int .i64 N, .slice ao E.length k] 24)) w1) := Lib.hid (by repeat (first | exact Ext.refl _ | assumption | exact Hid.out (by assumption) | refine Ext.alloc ?_ _ | refine Ext.drew ?_ | refine Ext.drewN ?_ _ | refine Ext.trans ?_ (by assumption))); have z1 := x1; clear x1; obtain ⟨y10, y11⟩ := HD.out w1 (by repeat (first | exact Ext.refl _ | assumption | exact Hid.out (by assumption) | refine Ext.alloc ?_ _ | refine Ext.drew ?_ | refine Ext.drewN ?_ _ | refine Ext.trans ?_ (by assumption))))
    | (go_at_call 11; refine (own_any _ N _ E (HE.out.ext (BX.trans (by repeat (first | exact Ext.refl _ | assumption | exact Hid.out (by assumption) | refine Ext.alloc ?_ _ | refine Ext.drew ?_ | refine Ext.drewN ?_ _ | refine Ext.trans ?_ (by assumption))))) (by omega)).mono ?_; rintro e w3 ⟨v3, rfl, s3, x3⟩; obtain ⟨a3, n3, c3, rfl⟩ := s3.sh; have S3 := Lib.hid s3; clear s3; have X3 : Hid (Ext (w.alloc (.cells #[.int .i64 N, .slice ao E.length k] 24)) w3) := Lib.hid (by repeat (first | exact Ext.refl _ | assumption | exact Hid.out (by assumption) | refine Ext.alloc ?_ _ | refine Ext.drew ?_ | refine Ext.drewN ?_ _ | refine Ext.trans ?_ (by assumption))); have z3 := x3; clear x3)
    | (at_builtin; refine wpList_append_sl (α := Int) rfl (.tmp 31) (.tmp 32) rfl w3.heap.size (.slice (some ⟨_, 0, none⟩) 0 0) [] rfl ?_ (.slice co c.length cc) c rfl ?_ ?_ ?_ ?_; exact (Ow.litAt w3 _ _ rfl (Nat.le_refl _) [] (by simp)); exact (HC.out.ext (BX.trans (by repeat (first | exact Ext.refl _ | assumption | exact Hid.out (by assumption) | refine Ext.alloc ?_ _ | refine Ext.drew ?_ | refine Ext.drewN ?_ _ | refine Ext.trans ?_ (by assumption))))); (first | omega | (simp; omega)); exact (by first | omega | (rw [size_alloc]; omega) | simp); intro v4 w4 ho4 ha4; have x4 : Ext w3 w4 := Below.trans ((Ext.refl w3).alloc _) ha4.below; obtain ⟨a4, n4, c4, rfl⟩ := ho4.sh; have S4 : Hid (Sl w4 (.slice a4 n4 c4) c) := Lib.hid ho4.sl; have X4 : Hid (Ext (w.alloc (.cells #[.int .i64 N, .slice ao E.length k] 24)) w4) := Lib.hid (by repeat (first | exact Ext.refl _ | assumption | exact Hid.out (by assumption) | refine Ext.alloc ?_ _ | refine Ext.drew ?_ | refine Ext.drewN ?_ _ | refine Ext.trans ?_ (by assumption))); have z4 := x4; clear x4; clear ho4 ha4)
    | (go_at_call 10; refine (pTable_any _ N _ _ E c (S3.out.ext (by repeat (first | exact Ext.refl _ | assumption | exact Hid.out (by assumption) | refine Ext.alloc ?_ _ | refine Ext.drew ?_ | refine Ext.drewN ?_ _ | refine Ext.trans ?_ (by assumption)))) (S4.out.ext (by repeat (first | exact Ext.refl _ | assumption | exact Hid.out (by assumption) | refine Ext.alloc ?_ _ | refine Ext.drew ?_ | refine Ext.drewN ?_ _ | refine Ext.trans ?_ (by assumption)))) 0 HR.out (tableL N E c) HT.out).mono ?_; rintro e w5 ⟨v5, rfl, s5, x5⟩; obtain ⟨a5, c5, rfl⟩ := s5.len; have S5 := Lib.hid s5; clear s5; have X5 : Hid (Ext (w.alloc (.cells #[.int .i64 N, .slice ao E.length k] 24)) w5) := Lib.hid (by repeat (first | exact Ext.refl _ | assumption | exact Hid.out (by assumption) | refine Ext.alloc ?_ _ | refine Ext.drew ?_ | refine Ext.drewN ?_ _ | refine Ext.trans ?_ (by assumption))); have z5 := x5; clear x5; obtain ⟨y50, y51⟩ := HD.out w5 (by repeat (first | exact Ext.refl _ | assumption | exact Hid.out (by assumption) | refine Ext.alloc ?_ _ | refine Ext.drew ?_ | refine Ext.drewN ?_ _ | refine Ext.trans ?_ (by assumption))))
    | (go_at_call 18; refine (ownD_any Non _ _ (tableL N E c) (S5.out.ext (by repeat (first | exact Ext.refl _ | assumption | exact Hid.out (by assumption) | refine Ext.alloc ?_ _ | refine Ext.drew ?_ | refine Ext.drewN ?_ _ | refine Ext.trans ?_ (by assumption)))) (by omega) (fun d hd => Nat.le_trans (LT.out d hd) (by omega))).mono ?_; rintro e w6 ⟨v6, rfl, s6, x6⟩; obtain ⟨a6, c6, rfl⟩ := s6.len; have S6 := Lib.hid (s6.ns (G := Non) (fun _ h => h) (fun _ h => False.elim h)); clear s6; have X6 : Hid (Ext (w.alloc (.cells #[.int .i64 N, .slice ao E.length k] 24)) w6) := Lib.hid (by repeat (first | exact Ext.refl _ | assumption | exact Hid.out (by assumption) | refine Ext.alloc ?_ _ | refine Ext.drew ?_ | refine Ext.drewN ?_ _ | refine Ext.trans ?_ (by assumption))); have z6 := x6; clear x6; obtain ⟨y60, y61⟩ := HD.out w6 (by repeat (first | exact Ext.refl _ | assumption | exact Hid.out (by assumption) | refine Ext.alloc ?_ _ | refine Ext.drew ?_ | refine Ext.drewN ?_ _ | refine Ext.trans ?_ (by assumption))))
    | (go_at_call 17; refine (pGraph_any _ _ (tableL N E c) (S6.out.ext (by repeat (first | exact Ext.refl _ | assumption | exact Hid.out (by assumption) | refine Ext.alloc ?_ _ | refine Ext.drew ?_ | refine Ext.drewN ?_ _ | refine Ext.trans ?_ (by assumption)))) (by omega) (fun d hd => Nat.le_trans (LT.out d hd) (by omega)) N E true HGT.out).mono ?_; rintro e w7 ⟨gv, rfl, s7, x7⟩; obtain ⟨a7, n7, c7, rfl⟩ := s7.sh; have S7 := Lib.hid s7; have K7 := Lib.hid (graph_at w7 N (.slice a7 n7 c7)); clear s7; have X7 : Hid (Ext (w.alloc (.cells #[.int .i64 N, .slice ao E.length k] 24)) w7) := Lib.hid (by repeat (first | exact Ext.refl _ | assumption | exact Hid.out (by assumption) | refine Ext.alloc ?_ _ | refine Ext.drew ?_ | refine Ext.drewN ?_ _ | refine Ext.trans ?_ (by assumption))); have z7 := x7; clear x7))
  go_loopw [9] (fun i wr => ∃ j : Nat, j ≤ E.length ∧ i = .int .i64 j ∧ Hid (Ext (w7.alloc (.cells #[.int .i64 N, .slice a7 n7 c7] 24)) wr)) (fun i _ => E.length - (intOf i).toNat)
  case atStart => exact ⟨0, Nat.zero_le _, rfl, Lib.hid (Ext.refl _)⟩
  case round =>
    obtain ⟨j, hj, rfl, HX⟩ := hrel
    have X8 : Hid (Ext (w.alloc (.cells #[.int .i64 N, .slice ao E.length k] 24)) wr) := Lib.hid (Ext.trans (X7.out.alloc _) HX.out)
    have z8 := HX.out
    obtain ⟨y80, y81⟩ := HD.out wr X8.out
    obtain ⟨y82, y83⟩ := K7.out wr HX.out
    have Z5 : Hid (Ext w5 wr) := Lib.hid (by repeat (first | exact Ext.refl _ | assumption | exact Hid.out (by assumption) | refine Ext.alloc ?_ _ | refine Ext.drew ?_ | refine Ext.drewN ?_ _ | refine Ext.trans ?_ (by assumption)))
    have XW : Hid (Ext w wr) := Lib.hid (BX.trans X8.out)
    have HDW : Hid (∀ V, Ext wr V → V.cell? ⟨w.heap.size, 1, none⟩ = some (.slice ao E.length k)) := Lib.hid fun V hV => (HD.out V (Ext.trans X8.out hV)).2
    by_cases hlt : j < E.length
    · obtain ⟨b, off, rfl, hn, hnc, hc63, hb, hya0, hyb0⟩ := HE.out.edgesAt hlt
      obtain ⟨⟨ya, yb⟩, hy⟩ : ∃ y, y = E.getD j ⟨0, 0⟩ := ⟨_, rfl⟩
      rw [← hy] at hya0 hyb0
      have hmem : (⟨ya, yb⟩ : Edge) ∈ E := hy ▸ getD_mem hlt ⟨0, 0⟩
      have hed := OKG.out.each ⟨ya, yb⟩ hmem
      dsimp only at hed
      obtain ⟨hA0, hAB, hBN⟩ := hed
      obtain ⟨p, rfl⟩ : ∃ p : Nat, ya = (p : Int) := ⟨ya.toNat, by omega⟩
      obtain ⟨q, rfl⟩ : ∃ q : Nat, yb = (q : Int) := ⟨yb.toNat, by omega⟩
      have hpq : p < q := by omega
      have hqN : q < N.toNat := by omega
      have hpN : p < N.toNat := by omega
      obtain ⟨b5, o5, so, sc, rfl, h51, hs5, h52⟩ := S5.out.rowAt hpN
      obtain ⟨_, _, to_, tc, h5e, _, ht5, h53⟩ := S5.out.rowAt hqN
      simp only [Option.some.injEq, Addr.mk.injEq, and_true] at h5e
      obtain ⟨rfl, rfl⟩ := h5e
      obtain ⟨hs1, hs2⟩ := side_edge (c := c) hpN hqN hpq hmem
      have HMEM := Lib.hid hmem
      have HP5 := Lib.hid hs5
      have HQ5 := Lib.hid ht5
      have HPT := Lib.hid h52
      have HQT := Lib.hid h53
      have HCE : Hid (∀ V, Ext wr V → V.cell? ⟨b, off + j * 2, none⟩ = some (.int .i64 (p : Int)) ∧ V.cell? ⟨b, off + j * 2 + 1, none⟩ = some (.int .i64 (q : Int))) := Lib.hid fun V hV => ⟨(Below.cell (Ext.trans XW.out hV) (p := ⟨b, off + j * 2, none⟩) hb).trans hya0, (Below.cell (Ext.trans XW.out hV) (p := ⟨b, off + j * 2 + 1, none⟩) hb).trans hyb0⟩
      have hpT : (p : Int) < ((tableL N E c).length : Int) := by omega
      have hqT : (q : Int) < ((tableL N E c).length : Int) := by omega
      have hpi : (p : Int) < N := by omega
      clear hya0 hyb0 hy hs5 ht5 h52 h53 hn
      obtain ⟨u, hu⟩ : ∃ u : Bool, (sideC c p q = ⟨q, 1, 0, u, u, !u, u, !u⟩ ∧ sideC c q p = ⟨p, 1, 0, !u, !u, u, !u, u⟩) := by
        rcases Int.lt_trichotomy (col c p) (col c q) with h | h | h
        · exact ⟨false, side_lt h⟩
        · exact absurd h (HNE.out p q (by unfold btw; rw [Int.min_eq_left (by omega), Int.max_eq_right (by omega)]; exact HMEM.out))
        · exact ⟨true, (side_lt h).2, (side_lt h).1⟩
      have HS1 : Hid (sideR (sidesTo E c p N.toNat) q = (⟨q, 1, 0, u, u, !u, u, !u⟩, true)) := Lib.hid (by rw [← hu.1]; exact hs1)
      have HS2 : Hid (sideR (sidesTo E c q N.toNat) p = (⟨p, 1, 0, !u, !u, u, !u, u⟩, true)) := Lib.hid (by rw [← hu.2]; exact hs2)
      clear hs1 hs2 hu hmem
      go_upto_region 10 with (fail)
      go_cut [10, 11] (fun s10 s11 wx => ∃ BB, s10 = .pointer (some ⟨BB, 0, none⟩) ∧ s11 = .bool true ∧ Hid (Ext wr wx ∧ wx.heap[BB]? = some (.cells #[.int .i64 (q : Int), .int .i64 1, .int .i64 0, .bool u, .bool u, .bool (!u), .bool u, .bool (!u)] 49 (0, 0))))
      case first =>
        (refine wp_region_X_lit (K := fun V => Ext wr V) (by kernel_rfl) (fun w1 hw1 => ?_))
        have HW1 := Lib.hid hw1
        clear hw1
        refine xtv 0 (h := ?_)
        refine xtv 1 (h := ?_)
        refine xtv 2 (hv := by intro w' hw'; have hc := HDW.out w' hw'; go_simp; first | done | with_reducible rfl) (h := ?_)
        refine xtv 3 (h := ?_)
        refine xtv 4 (h := ?_)
        refine xtv 5 (h := ?_)
        refine xtv 6 (hv := by intro w' hw'; have hc := (HCE.out w' hw').1; go_simp; first | done | with_reducible rfl) (h := ?_)
        refine xtv 7 (h := ?_)
        refine xtv 8 (hv := by intro w' hw'; obtain ⟨c0, c1, c2⟩ := HPT.out w' (Ext.trans Z5.out hw'); go_simp; first | done | with_reducible rfl) (h := ?_)
        refine xtv 9 (h := ?_)
        refine xtv 10 (hv := by intro w' hw'; have hc := HDW.out w' hw'; go_simp; first | done | with_reducible rfl) (h := ?_)
        refine xtv 11 (h := ?_)
        refine xtv 12 (h := ?_)
        refine xtv 13 (h := ?_)
        refine xtv 14 (hv := by intro w' hw'; have hc := (HCE.out w' hw').2; go_simp; first | done | with_reducible rfl) (h := ?_)
        refine xtwo 15 19 (hk := HW1.out) (h := RunX.of 15 (h := ?_)) (h' := RunX.of 19 (h := ?_))
        · go_simp
          refine (pSide_any w1 (p : Int) 0 _ (sidesTo E c p N.toNat) (q : Int) (HP5.out.ext (Ext.trans Z5.out HW1.out)) _ true HS1.out).mono ?_
          rintro e2 wA ⟨rfl, xA⟩
          dsimp only [Sd.cs]
          (try (simp only [Act.put, List.setIfInBounds_toArray, List.set]))
          have HWA : Hid (Ext wr wA) := Lib.hid (HW1.out.trans xA)
          clear xA
          refine xtv 16 (h := ?_)
          refine xtv 17 (h := ?_)
          refine xtv 18 (h := ?_)
          refine xone 19 (hk := HWA.out) (h := RunX.of 19 (h := ?_))
          go_simp
          (try (simp only [Act.put, List.setIfInBounds_toArray, List.set]))
          have HWB : Hid (Ext wr (wA.alloc (.cells #[.int .i64 0, .int .i64 0, .int .i64 0, .bool false, .bool false, .bool false, .bool false, .bool false] 49))) := Lib.hid (HWA.out.alloc _)
          have hszA := Below.size HWA.out
          refine xone 20 (hk := HWB.out) (h := RunX.of 20 (h := ?_))
          refine wp_st 49 (.tmp 10) (.tmp 72) rfl (wA.heap.size) 0 49 #[.int .i64 0, .int .i64 0, .int .i64 0, .bool false, .bool false, .bool false, .bool false, .bool false] _ _ rfl rfl (at0 wA _) (by kernel_rfl) (by simp) rfl rfl ?_
          intro wB hbB oB
          simp only [Act.put]
          have HWC : Hid (Ext wr wB) := Lib.hid (ext_off HWB.out oB (fun k hk => by omega))
          have HBB := Lib.hid hbB
          clear hbB oB
          refine xtv 21 (h := ?_)
          (refine xdone (by kernel_rfl) (HWC.out) ?_)
          go_wp2_with fail
          go_meet
          exact ⟨_, rfl, rfl, Lib.hid ⟨HWC.out, HBB.out⟩⟩
        · go_simp
          (try (simp only [Act.put, List.setIfInBounds_toArray, List.set]))
          have HWB : Hid (Ext wr (w1.alloc (.cells #[.int .i64 0, .int .i64 0, .int .i64 0, .bool false, .bool false, .bool false, .bool false, .bool false] 49))) := Lib.hid (HW1.out.alloc _)
          have hszA := Below.size HW1.out
          refine xone 15 (hk := HWB.out) (h := RunX.of 15 (h := ?_))
          go_simp
          refine (pSide_any _ (p : Int) 0 _ (sidesTo E c p N.toNat) (q : Int) (HP5.out.ext (Ext.trans Z5.out HWB.out)) _ true HS1.out).mono ?_
          rintro e2 wA ⟨rfl, xA⟩
          dsimp only [Sd.cs]
          (try (simp only [Act.put, List.setIfInBounds_toArray, List.set]))
          have HWA : Hid (Ext wr wA) := Lib.hid (HWB.out.trans xA)
          have HBK : Hid (wA.heap[w1.heap.size]? = some (.cells #[.int .i64 0, .int .i64 0, .int .i64 0, .bool false, .bool false, .bool false, .bool false, .bool false] 49 (0, 0))) := Lib.hid ((Below.block xA _ (by rw [size_alloc]; omega)).trans (at0 w1 _))
          clear xA
          refine xtv 16 (h := ?_)
          refine xtv 17 (h := ?_)
          refine xtv 18 (h := ?_)
          refine xone 20 (hk := HWA.out) (h := RunX.of 20 (h := ?_))
          refine wp_st 49 (.tmp 10) (.tmp 72) rfl (w1.heap.size) 0 49 #[.int .i64 0, .int .i64 0, .int .i64 0, .bool false, .bool false, .bool false, .bool false, .bool false] _ _ rfl rfl HBK.out (by kernel_rfl) (by simp) rfl rfl ?_
          intro wB hbB oB
          simp only [Act.put]
          have HWC : Hid (Ext wr wB) := Lib.hid (ext_off HWA.out oB (fun k hk => by omega))
          have HBB := Lib.hid hbB
          clear hbB oB
          refine xtv 21 (h := ?_)
          (refine xdone (by kernel_rfl) (HWC.out) ?_)
          go_wp2_with fail
          go_meet
          exact ⟨_, rfl, rfl, Lib.hid ⟨HWC.out, HBB.out⟩⟩
      case rest =>
        obtain ⟨BB, rfl, rfl, HCUT⟩ := hcut
        have HT10 : Hid (∀ V, Ext wc V → ((((V.cell? ⟨BB, 0, none⟩ = some (.int .i64 (q : Int)) ∧ V.cell? ⟨BB, 1, none⟩ = some (.int .i64 1)) ∧ V.cell? ⟨BB, 2, none⟩ = some (.int .i64 0) ∧ V.cell? ⟨BB, 3, none⟩ = some (.bool u)) ∧ (V.cell? ⟨BB, 4, none⟩ = some (.bool u) ∧ V.cell? ⟨BB, 5, none⟩ = some (.bool (!u))) ∧ V.cell? ⟨BB, 6, none⟩ = some (.bool u) ∧ V.cell? ⟨BB, 7, none⟩ = some (.bool (!u))))) := Lib.hid fun V hV => cells8 ((hV.block _ (blk_lt HCUT.out.2)).trans HCUT.out.2)
        have Z9 : Hid (Ext w5 wc) := Lib.hid (Ext.trans Z5.out HCUT.out.1)
        have HDX : Hid (∀ V, Ext wc V → V.cell? ⟨w.heap.size, 1, none⟩ = some (.slice (some ⟨b, off, none⟩) E.length k)) := Lib.hid fun V hV => HDW.out V (Ext.trans HCUT.out.1 hV)
        have HCX : Hid (∀ V, Ext wc V → V.cell? ⟨b, off + j * 2, none⟩ = some (.int .i64 (p : Int)) ∧ V.cell? ⟨b, off + j * 2 + 1, none⟩ = some (.int .i64 (q : Int))) := Lib.hid fun V hV => HCE.out V (Ext.trans HCUT.out.1 hV)
        have hqi : (q : Int) < N := by omega
        cases u
        all_goals
          simp only [Bool.not_true, Bool.not_false] at HT10 HS2
          go_wp2_with fail
          (refine wp_region_X_lit (K := fun V => Ext wc V) (by kernel_rfl) (fun w1 hw1 => ?_))
          have HW1 := Lib.hid hw1
          clear hw1
          refine xtv 0 (h := ?_)
          refine xtv 1 (h := ?_)
          refine xtv 2 (hv := by intro w' hw'; have hc := HDX.out w' hw'; go_simp; first | done | with_reducible rfl) (h := ?_)
          refine xtv 3 (h := ?_)
          refine xtv 4 (h := ?_)
          refine xtv 5 (h := ?_)
          refine xtv 6 (hv := by intro w' hw'; have hc := (HCX.out w' hw').2; go_simp; first | done | with_reducible rfl) (h := ?_)
          refine xtv 7 (h := ?_)
          refine xtv 8 (hv := by intro w' hw'; obtain ⟨c0, c1, c2⟩ := HQT.out w' (Ext.trans Z9.out hw'); go_simp; first | done | with_reducible rfl) (h := ?_)
          refine xtv 9 (h := ?_)
          refine xtv 10 (hv := by intro w' hw'; have hc := HDX.out w' hw'; go_simp; first | done | with_reducible rfl) (h := ?_)
          refine xtv 11 (h := ?_)
          refine xtv 12 (h := ?_)
          refine xtv 13 (h := ?_)
          refine xtv 14 (hv := by intro w' hw'; have hc := (HCX.out w' hw').1; go_simp; first | done | with_reducible rfl) (h := ?_)
          refine xtwo 15 19 (hk := HW1.out) (h := RunX.of 15 (h := ?_)) (h' := RunX.of 19 (h := ?_))
          · go_simp
            refine (pSide_any w1 (q : Int) 0 _ (sidesTo E c q N.toNat) (p : Int) (HQ5.out.ext (Ext.trans Z9.out HW1.out)) _ true HS2.out).mono ?_
            rintro e2 wA ⟨rfl, xA⟩
            dsimp only [Sd.cs]
            (try (simp only [Act.put, List.setIfInBounds_toArray, List.set]))
            have HWA : Hid (Ext wc wA) := Lib.hid (HW1.out.trans xA)
            clear xA
            refine xtv 16 (h := ?_)
            refine xtv 17 (h := ?_)
            refine xtv 18 (h := ?_)
            refine xone 19 (hk := HWA.out) (h := RunX.of 19 (h := ?_))
            go_simp
            (try (simp only [Act.put, List.setIfInBounds_toArray, List.set]))
            have HWB : Hid (Ext wc (wA.alloc (.cells #[.int .i64 0, .int .i64 0, .int .i64 0, .bool false, .bool false, .bool false, .bool false, .bool false] 49))) := Lib.hid (HWA.out.alloc _)
            have hszA := Below.size HWA.out
            refine xone 20 (hk := HWB.out) (h := RunX.of 20 (h := ?_))
            refine wp_st 49 (.tmp 12) (.tmp 91) rfl (wA.heap.size) 0 49 #[.int .i64 0, .int .i64 0, .int .i64 0, .bool false, .bool false, .bool false, .bool false, .bool false] _ _ rfl rfl (at0 wA _) (by kernel_rfl) (by simp) rfl rfl ?_
            intro wB hbB oB
            simp only [Act.put]
            have HWC : Hid (Ext wc wB) := Lib.hid (ext_off HWB.out oB (fun k hk => by omega))
            have HBB := Lib.hid hbB
            clear hbB oB
            obtain ⟨⟨⟨f0, f1⟩, f2, f3⟩, ⟨f4, f5⟩, f6, f7⟩ := cells8 HBB.out
            obtain ⟨⟨⟨g0, g1⟩, g2, g3⟩, ⟨g4, g5⟩, g6, g7⟩ := HT10.out wB HWC.out
            refine xtv 21 (h := ?_)
            (refine xdone (by kernel_rfl) (HWC.out) ?_)
            go_upto_region 12 with (fail)
            dsimp only [List.append]
            go_wp2
            go_roundw
            case rel => exact ⟨j + 1, by omega, by go_num, Lib.hid (Ext.trans HX.out (Ext.trans HCUT.out.1 HWC.out))⟩
            case measure => simp [intOf]; omega
          · go_simp
            (try (simp only [Act.put, List.setIfInBounds_toArray, List.set]))
            have HWB : Hid (Ext wc (w1.alloc (.cells #[.int .i64 0, .int .i64 0, .int .i64 0, .bool false, .bool false, .bool false, .bool false, .bool false] 49))) := Lib.hid (HW1.out.alloc _)
            have hszA := Below.size HW1.out
            refine xone 15 (hk := HWB.out) (h := RunX.of 15 (h := ?_))
            go_simp
            refine (pSide_any _ (q : Int) 0 _ (sidesTo E c q N.toNat) (p : Int) (HQ5.out.ext (Ext.trans Z9.out HWB.out)) _ true HS2.out).mono ?_
            rintro e2 wA ⟨rfl, xA⟩
            dsimp only [Sd.cs]
            (try (simp only [Act.put, List.setIfInBounds_toArray, List.set]))
            have HWA : Hid (Ext wc wA) := Lib.hid (HWB.out.trans xA)
            have HBK : Hid (wA.heap[w1.heap.size]? = some (.cells #[.int .i64 0, .int .i64 0, .int .i64 0, .bool false, .bool false, .bool false, .bool false, .bool false] 49 (0, 0))) := Lib.hid ((Below.block xA _ (by rw [size_alloc]; omega)).trans (at0 w1 _))
            clear xA
            refine xtv 16 (h := ?_)
            refine xtv 17 (h := ?_)
            refine xtv 18 (h := ?_)
            refine xone 20 (hk := HWA.out) (h := RunX.of 20 (h := ?_))
            refine wp_st 49 (.tmp 12) (.tmp 91) rfl (w1.heap.size) 0 49 #[.int .i64 0, .int .i64 0, .int .i64 0, .bool false, .bool false, .bool false, .bool false, .bool false] _ _ rfl rfl HBK.out (by kernel_rfl) (by simp) rfl rfl ?_
            intro wB hbB oB
            simp only [Act.put]
            have HWC : Hid (Ext wc wB) := Lib.hid (ext_off HWA.out oB (fun k hk => by omega))
            have HBB := Lib.hid hbB
            clear hbB oB
            obtain ⟨⟨⟨f0, f1⟩, f2, f3⟩, ⟨f4, f5⟩, f6, f7⟩ := cells8 HBB.out
            obtain ⟨⟨⟨g0, g1⟩, g2, g3⟩, ⟨g4, g5⟩, g6, g7⟩ := HT10.out wB HWC.out
            refine xtv 21 (h := ?_)
            (refine xdone (by kernel_rfl) (HWC.out) ?_)
            go_upto_region 12 with (fail)
            dsimp only [List.append]
            go_wp2
            go_roundw
            case rel => exact ⟨j + 1, by omega, by go_num, Lib.hid (Ext.trans HX.out (Ext.trans HCUT.out.1 HWC.out))⟩
            case measure => simp [intOf]; omega
    · have hjl : j = E.length := by omega
      clear hj
      go_wp2_with (first
        | (go_at_call 22; refine (refSameG_val _ N N _ _ E E (HE.out.ext XW.out) (S7.out.ext (Ext.trans ((Ext.refl w7).alloc _) HX.out)) true (by simp)).mono ?_; rintro e w9 ⟨rfl, x9⟩))
      go_ret
      exact ⟨rfl, Ext.trans XW.out x9⟩

theorem placeOne_any (w : World) (N : Int) (ao : Option Addr) (k : Nat) (E : List Edge) (co : Option Addr) (cc : Nat) (c : List Int) (h : Sl w (.slice ao E.length k) E) (hc : Sl w (.slice co c.length cc) c) :
    Calls Try.prog 7 #[.agg #[.int .i64 N, .slice ao E.length k], .slice co c.length cc] w (GivesB w (.bool true)) := by
  refine (Decidable.em ((E.length : Int) ≤ 60)).elim (fun hf => ?_) (fun hf => placeOne_longE w N ao k E co cc c h hc hf)
  refine (Decidable.em ((c.length : Int) ≤ 70)).elim (fun hg => ?_) (fun hg => placeOne_longC w N ao k E co cc c h hc hf hg)
  cases ho : okG N E with
  | false => exact placeOne_A w N ao k E co cc c h hc hf hg ho
  | true =>
    cases hr : rightB N E c with
    | false => exact placeOne_B w N ao k E co cc c h hc hf hg ho hr
    | true => exact placeOne_C w N ao k E co cc c h hc hf hg ho hr

end Go.Proofs.Ytpnnnbjjoimalaa
