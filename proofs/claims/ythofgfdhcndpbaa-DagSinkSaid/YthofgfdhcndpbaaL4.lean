/- What the laws of layer 4 are made of; the chapter's example. -/
import Derived.Test.YthofgfdhcndpbaaR8
namespace Go.Proofs.Ythofgfdhcndpbaa
open Go.RowKit

theorem Sl.sh {α : Type} [Elem α] {w : World} {v : Value} {xs : List α} (h : Sl w v xs) : ∃ ao n c, v = .slice ao n c := by obtain ⟨ao, c, h⟩ := h.len; exact ⟨ao, _, c, h⟩

theorem own_any (w : World) (v : Value) (E : List Arc) (h : Sl w v E) (hl : E.length ≤ 1000000) : Calls Try.prog 13 #[v] w (GivesOw w E) := by
  obtain ⟨ao, c, rfl⟩ := h.len
  have HS := Lib.hid h
  clear h
  go_enter Try.func13, Try.ntmps13
  go_wp2_with ((at_builtin; refine wpList_append_sl (α := Arc) rfl (.tmp 3) (.tmp 4) rfl w.heap.size (.slice (some ⟨_, 0, none⟩) 0 0) [] rfl ?_ (.slice ao E.length c) E rfl ?_ ?_ ?_ ?_; exact (Ow.litAt w _ _ rfl (Nat.le_refl _) [] (by simp)); exact (HS.out.ext ((Ext.refl w).alloc _)); (first | omega | (simp; omega)); (simp); intro v1 W1 ho1 ha1; have O1 := Lib.hid ho1; have y1 : Ext w W1 := Below.trans ((Ext.refl w).alloc _) ha1.below; obtain ⟨ao1, n1, c1, rfl⟩ := ho1.sh; clear ho1 ha1))
  go_ret
  exact ⟨_, rfl, by have := O1.out; rwa [List.nil_append] at this, y1⟩

def fewB (N : Int) (n : Nat) : Bool := decide (n ≤ 60) && (decide (N ≤ 24) || decide (64 < N))
theorem few_val (w : World) (N : Int) (ao : Option Addr) (n c : Nat) (hn : n ≤ 9223372036854775807) (r : Bool) (hr : fewB N n = r) : Calls Try.prog 11 #[.int .i64 N, .slice ao n c] w fun e w' => e = .returned (.bool r) ∧ w = w' := by
  have HR := Lib.hid hr
  clear hr
  by_cases h1 : n ≤ 60
  · have h1i : (n : Int) ≤ 60 := by omega
    by_cases h2 : N ≤ 24
    · go_enter Try.func11, Try.ntmps11
      go_wp2
      go_ret
      exact ⟨ret_bool (by rw [← HR.out]; simp [fewB, h1, h2]), rfl⟩
    · by_cases h3 : 64 < N
      all_goals
        go_enter Try.func11, Try.ntmps11
        go_wp2
        go_ret
        exact ⟨ret_bool (by rw [← HR.out]; simp [fewB, h1, h2, h3]; try omega), rfl⟩
  · have h1i : ¬ (n : Int) ≤ 60 := by omega
    go_enter Try.func11, Try.ntmps11
    go_wp2
    go_ret
    exact ⟨ret_bool (by rw [← HR.out]; simp [fewB, h1]), rfl⟩

theorem ord_pi {N : Int} {L : List Arc} (h : ordB N L = true) : OkD N L ∧ PI N.toNat L (peeled N L).1 [] := by
  obtain ⟨ok, he⟩ := ordB_iff.1 h
  have := (peeled_spec ok).1
  rw [he] at this
  exact ⟨ok, this⟩
/-- Depths come out, or none. -/
def IsDD (N : Int) (L : List Arc) (b : Bool) (d : List Int) : Prop := (b = true → IsDepth N.toNat L d) ∧ (b = false → d = [])
theorem IsDD.uniq {N : Int} {L : List Arc} {b : Bool} {d e : List Int} (hb : ordB N L = b) (h : IsDD N L b d) (g : IsDD N L b e) : d = e := by
  cases b with
  | false => rw [h.2 rfl, g.2 rfl]
  | true =>
    obtain ⟨ok, hp⟩ := ord_pi hb
    exact (h.1 rfl).uniq ok hp (g.1 rfl)
def GivesDD (w : World) (N : Int) (L : List Arc) (b : Bool) (e : Ending) (w' : World) : Prop := ∃ v d, e = .returned (.tuple #[v, .bool b]) ∧ Ow w' w.heap.size v d ∧ IsDD N L b d ∧ Ext w w'
theorem depths_any (w : World) (N : Int) (v : Value) (E : List Arc) (h : Sl w v E) (b : Bool) (hb : ordB N E = b) : Calls Try.prog 15 #[.int .i64 N, v] w (GivesDD w N E b) := by
  cases b with
  | false => exact (depths_no w N v E h hb).mono fun e w' ⟨v', he, ho, hx⟩ => ⟨v', [], he, ho, ⟨(fun h => by cases h), fun _ => rfl⟩, hx⟩
  | true =>
    obtain ⟨ok, he⟩ := ordB_iff.1 hb
    obtain ⟨n, rfl⟩ := Int.eq_ofNat_of_zero_le ok.n0
    exact (depths_yes w n v E h ok he).mono fun e w' ⟨v', d, he, ho, hd, hx⟩ => ⟨v', d, he, ho, ⟨fun _ => hd, (fun h => by cases h)⟩, hx⟩
theorem ord_round {N : Int} {L : List Arc} : ordB N L = true ↔ OkD N L ∧ roundD N L = false := by
  constructor
  · intro h
    obtain ⟨ok, he⟩ := ordB_iff.1 h
    exact ⟨ok, (round_iff ok).2 ((peeled_iff ok).1 he)⟩
  · rintro ⟨ok, hr⟩
    exact ordB_iff.2 ⟨ok, (peeled_iff ok).2 ((round_iff ok).1 hr)⟩
theorem refDepths_any (w : World) (N : Int) (v : Value) (E : List Arc) (h : Sl w v E) (b : Bool) (hb : ordB N E = b) : Calls Try.prog 16 #[.int .i64 N, v] w (GivesDD w N E b) := by
  cases b with
  | false =>
    refine (refDepths_no w N v E h (fun hh => ?_)).mono fun e w' ⟨v', he, ho, hx⟩ => ⟨v', [], he, ho, ⟨(fun h => by cases h), fun _ => rfl⟩, hx⟩
    have := ord_round.2 hh
    rw [hb] at this
    cases this
  | true =>
    obtain ⟨ok, hr⟩ := ord_round.1 hb
    obtain ⟨n, rfl⟩ := Int.eq_ofNat_of_zero_le ok.n0
    refine (refDepths_yes w n v E h ok hr).mono fun e w' ⟨v', he, ho, hx⟩ => ⟨v', _, he, ho, ⟨fun _ => ?_, (fun h => by cases h)⟩, hx⟩
    obtain ⟨_, hp⟩ := ord_pi hb
    obtain ⟨d, hd⟩ := depth_exists hp
    have := passes_is ok hp hd
    rw [show (n : Int).toNat = n from rfl] at this
    rw [this]
    exact hd

theorem deep_start (n : Nat) (L : List Arc) : Deep n L [] (List.replicate n 0) := ⟨by simp, by simp⟩
/-! the chapter's example -/
def ex1 : List Arc := [⟨0, 1⟩, ⟨1, 2⟩]
def ex2 : List Arc := [⟨0, 1⟩, ⟨1, 2⟩, ⟨2, 0⟩]
theorem depth_ex1 {d : List Int} (h : IsDepth (3 : Int).toNat ex1 d) : d = [0, 1, 2] := by
  have hb : ordB 3 ex1 = true := by decide
  obtain ⟨ok, hp⟩ := ord_pi hb
  refine h.uniq ok hp ⟨rfl, fun v hv => ?_⟩
  have := mostOf_is [0, 1, 2] (v : Int) ex1
  have e : mostOf [0, 1, 2] (v : Int) ex1 = [0, 1, 2].getD v 0 := by
    have : v = 0 ∨ v = 1 ∨ v = 2 := by have : v < 3 := hv; omega
    rcases this with rfl | rfl | rfl <;> decide
  rwa [e] at this

set_option maxRecDepth 100000 in
set_option maxHeartbeats 4000000 in
theorem awake_any (w : World) : Calls Try.prog 10 #[] w fun e w' => e = .returned (.bool true) ∧ Ext w w' := by
  have SLI : Hid (∀ W, Ext (w.alloc (.cells #[.int .i64 0, .int .i64 1, .int .i64 1, .int .i64 2] 38)) W → Sl W (.slice (some ⟨w.heap.size, 0, none⟩) 2 2) ex1) := Lib.hid fun W hW => (Sl.litAt w _ rfl ex1 (by decide)).ext hW
  have P1 : Hid (ordL 3 ex1 = [0, 1, 2]) := Lib.hid (by decide)
  have P2 : Hid (ordB 3 ex1 = true) := Lib.hid (by decide)
  have P3 : Hid (ordL 3 ex2 = []) := Lib.hid (by decide)
  have P4 : Hid (ordB 3 ex2 = false) := Lib.hid (by decide)
  have P5 : Hid (cycL 3 ex2 = [0, 1, 2]) := Lib.hid (by decide)
  have P6 : Hid (cycB 3 ex2 = true) := Lib.hid (by decide)
  have P7 : Hid (chkD 3 ex2 = 0) := Lib.hid (by decide)
  have P8 : Hid (sinksL 3 ex1 = [2]) := Lib.hid (by decide)
  have P9 : Hid (sinksL 3 (flipD ex1 0) = [0, 2]) := Lib.hid (by decide)
  go_enter Try.func10, Try.ntmps10
  go_wp2_with fail
  generalize hw0 : w.alloc (.cells #[.int .i64 0, .int .i64 1, .int .i64 1, .int .i64 2] 38) = w0 at *
  have hex : ex1.length ≤ 2 := by decide
  have X0 : Ext w w0 := hw0 ▸ (Ext.refl w).alloc _
  obtain ⟨q0, hq0⟩ : ∃ q0, q0 = w.heap.size := ⟨_, rfl⟩
  rw [← hq0] at SLI ⊢
  clear hw0 hq0
  refine (order_any _ 3 _ ex1 (SLI.out _ (Ext.refl _)) [0, 1, 2] true P1.out P2.out).mono ?_
  rintro e w1 ⟨v1, rfl, s1, x1⟩
  obtain ⟨ao1, n1, c1, rfl⟩ := s1.sh
  have S1 := Lib.hid s1.sl
  clear s1
  go_wp2_with (first
    | (go_at_call 17; have hgd := S12; refine (refSame_val true _ _ _ [0, 2] [0, 2] (S12.out.ext (by repeat (first | exact Ext.refl _ | assumption | exact Hid.out (by assumption) | refine Ext.alloc ?_ _ | refine Ext.drew ?_ | refine Ext.drewN ?_ _ | refine Ext.trans ?_ (by assumption)))) (Sl.litAt _ _ (by simp) [0, 2] (by simp)) (by decide)).mono ?_; rintro e w13 ⟨rfl, d13⟩; have x13 := Ext.of_drew d13; clear d13; clear hgd)
    | (go_at_call 25; have hgd := S11; refine (sinks_any _ 3 _ (flipD ex1 0) (S11.out.ext (by repeat (first | exact Ext.refl _ | assumption | exact Hid.out (by assumption) | refine Ext.alloc ?_ _ | refine Ext.drew ?_ | refine Ext.drewN ?_ _ | refine Ext.trans ?_ (by assumption))))).mono ?_; rintro e w12 ⟨v12, rfl, s12, x12⟩; rw [P9.out] at s12; obtain ⟨ao12, n12, c12, rfl⟩ := s12.sh; have S12 := Lib.hid s12.sl; clear s12; clear hgd)
    | (go_at_call 23; refine (flip_any _ _ ex1 0 (SLI.out _ (by repeat (first | exact Ext.refl _ | assumption | exact Hid.out (by assumption) | refine Ext.alloc ?_ _ | refine Ext.drew ?_ | refine Ext.drewN ?_ _ | refine Ext.trans ?_ (by assumption)))) (by decide)).mono ?_; rintro e w11 ⟨v11, rfl, s11, x11⟩; obtain ⟨ao11, n11, c11, rfl⟩ := s11.sh; have S11 := Lib.hid s11.sl; clear s11)
    | (go_at_call 17; have hgd := S9; refine (refSame_val true _ _ _ [2] [2] (S9.out.ext (by repeat (first | exact Ext.refl _ | assumption | exact Hid.out (by assumption) | refine Ext.alloc ?_ _ | refine Ext.drew ?_ | refine Ext.drewN ?_ _ | refine Ext.trans ?_ (by assumption)))) (Sl.litAt _ _ (by simp) [2] (by simp)) (by decide)).mono ?_; rintro e w10 ⟨rfl, d10⟩; have x10 := Ext.of_drew d10; clear d10; clear hgd)
    | (go_at_call 25; refine (sinks_any _ 3 _ ex1 (SLI.out _ (by repeat (first | exact Ext.refl _ | assumption | exact Hid.out (by assumption) | refine Ext.alloc ?_ _ | refine Ext.drew ?_ | refine Ext.drewN ?_ _ | refine Ext.trans ?_ (by assumption))))).mono ?_; rintro e w9 ⟨v9, rfl, s9, x9⟩; rw [P8.out] at s9; obtain ⟨ao9, n9, c9, rfl⟩ := s9.sh; have S9 := Lib.hid s9.sl; clear s9)
    | (go_at_call 18; refine (check_any _ 3 _ ex2 (S3.out.ext (by repeat (first | exact Ext.refl _ | assumption | exact Hid.out (by assumption) | refine Ext.alloc ?_ _ | refine Ext.drew ?_ | refine Ext.drewN ?_ _ | refine Ext.trans ?_ (by assumption)))) 0 P7.out).mono ?_; rintro e w8 ⟨rfl, x8⟩)
    | (go_at_call 17; have hgd := x6; refine (refSame_val true _ _ _ [0, 1, 2] [0, 1, 2] (S14.out.ext (by repeat (first | exact Ext.refl _ | assumption | exact Hid.out (by assumption) | refine Ext.alloc ?_ _ | refine Ext.drew ?_ | refine Ext.drewN ?_ _ | refine Ext.trans ?_ (by assumption)))) (Sl.litAt _ _ (by simp) [0, 1, 2] (by simp)) (by decide)).mono ?_; rintro e w7 ⟨rfl, d7⟩; have x7 := Ext.of_drew d7; clear d7; clear hgd)
    | (go_at_call 17; have hgd := x5; refine (refSame_val true _ _ _ [0, 1, 2] [0, 1, 2] (S2.out.ext (by repeat (first | exact Ext.refl _ | assumption | exact Hid.out (by assumption) | refine Ext.alloc ?_ _ | refine Ext.drew ?_ | refine Ext.drewN ?_ _ | refine Ext.trans ?_ (by assumption)))) (Sl.litAt _ _ (by simp) [0, 1, 2] (by simp)) (by decide)).mono ?_; rintro e w6 ⟨rfl, d6⟩; have x6 := Ext.of_drew d6; clear d6; clear hgd)
    | (go_at_call 17; have hgd := S4; refine (refSame_val true _ _ _ [0, 1, 2] [0, 1, 2] (S1.out.ext (by repeat (first | exact Ext.refl _ | assumption | exact Hid.out (by assumption) | refine Ext.alloc ?_ _ | refine Ext.drew ?_ | refine Ext.drewN ?_ _ | refine Ext.trans ?_ (by assumption)))) (Sl.litAt _ _ (by simp) [0, 1, 2] (by simp)) (by decide)).mono ?_; rintro e w5 ⟨rfl, d5⟩; have x5 := Ext.of_drew d5; clear d5; clear hgd)
    | (go_at_call 12; have hgd := S14; refine (order_any _ 3 _ ex2 (S3.out.ext (by repeat (first | exact Ext.refl _ | assumption | exact Hid.out (by assumption) | refine Ext.alloc ?_ _ | refine Ext.drew ?_ | refine Ext.drewN ?_ _ | refine Ext.trans ?_ (by assumption)))) [] false P3.out P4.out).mono ?_; rintro e w4 ⟨v4, rfl, s4, x4⟩; obtain ⟨ao4, n4, c4, rfl⟩ := s4.sh; have S4 := Lib.hid s4.sl; clear s4; clear hgd)
    | (go_at_call 20; have hgd := S3; refine (cycle_any _ 3 _ ex2 (S3.out.ext (by repeat (first | exact Ext.refl _ | assumption | exact Hid.out (by assumption) | refine Ext.alloc ?_ _ | refine Ext.drew ?_ | refine Ext.drewN ?_ _ | refine Ext.trans ?_ (by assumption)))) [0, 1, 2] true P5.out P6.out).mono ?_; rintro e w14 ⟨v14, rfl, s14, x14⟩; obtain ⟨ao14, n14, c14, rfl⟩ := s14.sh; have S14 := Lib.hid s14.sl; clear s14; clear hgd)
    | (go_at_call 15; refine (depths_any _ 3 _ ex1 (SLI.out _ (by repeat (first | exact Ext.refl _ | assumption | exact Hid.out (by assumption) | refine Ext.alloc ?_ _ | refine Ext.drew ?_ | refine Ext.drewN ?_ _ | refine Ext.trans ?_ (by assumption)))) true P2.out).mono ?_; rintro e w2 ⟨v2, d2, rfl, s2, hd2, x2⟩; have hd3 := depth_ex1 (hd2.1 rfl); subst hd3; clear hd2; obtain ⟨ao2, n2, c2, rfl⟩ := s2.sh; have S2 := Lib.hid s2.sl; clear s2)
    | (at_builtin; refine wpList_append_sl (α := Arc) rfl (.tmp 24) (.tmp 25) rfl w2.heap.size (.slice (some ⟨_, 0, none⟩) 0 0) [] rfl ?_ _ ex1 rfl ?_ ?_ ?_ ?_; exact (Ow.litAt w2 _ _ rfl (Nat.le_refl _) [] (by simp)); exact (SLI.out _ ((x1.trans x2).alloc _)); (first | omega | (simp; omega)); (simp); intro v20 W20 ho20 ha20; have x20 : Ext w2 W20 := Below.trans ((Ext.refl w2).alloc _) ha20.below; obtain ⟨ao20, n20, c20, rfl⟩ := ho20.sh; have O20 := Lib.hid ho20; clear ho20 ha20)
    | (at_builtin; refine wpList_append_sl (α := Arc) rfl (.tmp 26) (.tmp 28) rfl w2.heap.size (.slice ao20 n20 c20) ([] ++ ex1) rfl ?_ (.slice (some ⟨_, 0, none⟩) 1 1) [Arc.mk 2 0] rfl ?_ ?_ ?_ ?_; exact (O20.out.alloc _); exact (Sl.litAt _ _ (by simp) [Arc.mk 2 0] (by simp)); (first | omega | (simp; omega)); (have h1 := x20.size; simp; omega); intro v3 W3 ho3 ha3; have x3 : Ext w2 W3 := Below.trans (x20.alloc _) ha3.below; clear x20; obtain ⟨ao3, n3, c3, rfl⟩ := ho3.sh; have S3 : Hid (Sl W3 (.slice ao3 n3 c3) ex2) := Lib.hid ho3.sl; clear ho3 ha3))
  go_ret
  exact ⟨rfl, (by repeat (first | exact Ext.refl _ | assumption | exact Hid.out (by assumption) | refine Ext.alloc ?_ _ | refine Ext.drew ?_ | refine Ext.drewN ?_ _ | refine Ext.trans ?_ (by assumption)))⟩

end Go.Proofs.Ythofgfdhcndpbaa
