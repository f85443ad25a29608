/- What the laws of layer 3 are made of; the chapter's example. -/
import Derived.Test.YtanflbjbcncklaaG13
import Derived.Test.YtanflbjbcncklaaP6
namespace Go.Proofs.Ytanflbjbcncklaa
open Go.RowKit

theorem take_eq_succ {xs ys : List Int} {k : Nat} (h1 : k < xs.length) (h2 : k < ys.length) : xs.take (k + 1) = ys.take (k + 1) ↔ xs.take k = ys.take k ∧ xs.getD k 0 = ys.getD k 0 := by
  rw [List.take_succ_eq_append_getElem h1, List.take_succ_eq_append_getElem h2]
  have e1 : xs.getD k 0 = xs[k] := by simp [h1]
  have e2 : ys.getD k 0 = ys[k] := by simp [h2]
  rw [e1, e2]
  constructor
  · intro h
    have := List.append_inj h (by simp; omega)
    exact ⟨this.1, by simpa using this.2⟩
  · rintro ⟨ha, hb⟩
    rw [ha, hb]

set_option maxHeartbeats 400000 in
theorem refSame_any (w : World) (v u : Value) (xs ys : List Int) (h : Sl w v xs) (g : Sl w u ys) :
    Calls Try.prog 22 #[v, u] w fun e w' => e = .returned (.bool (decide (xs = ys))) ∧ Drew w w' := by
  by_cases hl : xs.length = ys.length
  · rcases h.ints with ⟨rfl, ao, c, rfl⟩ | ⟨b, off, c, rfl, hc, hc63, hb, hpos, hcell⟩
    · have : ys = [] := List.eq_nil_of_length_eq_zero hl.symm
      subst this
      obtain ⟨ao', c', rfl⟩ := g.len
      go_enter Try.func22, Try.ntmps22
      go_wp2
      refine wp_loop_rounds 1 ?_
      rw [rounds_succ]
      go_wp2
      go_ret
      exact ⟨by simp, Drew.refl _⟩
    · rcases g.ints with ⟨rfl, ao, c, rfl⟩ | ⟨b', off', c', rfl, hc', hc63', hb', hpos', hcell'⟩
      · exact absurd hl (by simp only [List.length_nil]; omega)
      · have hlen : xs.length ≤ 9223372036854775807 := by omega
        have hlen' : ys.length ≤ 9223372036854775807 := by omega
        have hne : ((xs.length : Int) != (ys.length : Int)) = false := by simp [hl]
        have HC := Lib.hid hcell
        have HC' := Lib.hid hcell'
        have HL := Lib.hid hl
        clear hcell h hcell' g hl
        go_enter Try.func22, Try.ntmps22
        go_wp2
        go_loopw [5] (fun i wr => ∃ k : Nat, k ≤ xs.length ∧ i = .int .i64 k ∧ Hid (xs.take k = ys.take k) ∧ Hid (Drew w wr)) (fun i _ => xs.length - (intOf i).toNat)
        case atStart => exact ⟨0, Nat.zero_le _, rfl, Lib.hid (by simp), Lib.hid (Drew.refl _)⟩
        case round =>
          obtain ⟨k, hk, rfl, HT, HD⟩ := hrel
          by_cases hlt : k < xs.length
          · have hlt' : k < ys.length := by have := HL.out; omega
            have hck := (HD.out.cell ⟨b, off + k, none⟩).trans (HC.out k hlt)
            have hck' := (HD.out.cell ⟨b', off' + k, none⟩).trans (HC'.out k hlt')
            obtain ⟨y, hy⟩ : ∃ y, y = xs.getD k 0 := ⟨_, rfl⟩
            obtain ⟨z, hz⟩ : ∃ z, z = ys.getD k 0 := ⟨_, rfl⟩
            rw [← hy] at hck
            rw [← hz] at hck'
            have HY := Lib.hid hy
            have HZ := Lib.hid hz
            clear hy hz
            by_cases h1 : y = z
            · have hd : (y != z) = false := by simp [h1]
              have H1 := Lib.hid h1
              clear h1
              go_wp2
              go_quiet (fail)
              go_wp2
              go_roundw
              case rel => exact ⟨k + 1, by omega, by go_num, Lib.hid ((take_eq_succ hlt hlt').2 ⟨HT.out, by rw [← HY.out, ← HZ.out]; exact H1.out⟩), Lib.hid (HD.out.more _)⟩
              case measure => simp [intOf]; omega
            · have hd : (y != z) = true := by simp [h1]
              have H1 := Lib.hid h1
              clear h1
              go_wp2
              go_quiet (fail)
              go_wp2
              go_ret
              exact ⟨ret_bool (decide_eq_false (fun e => H1.out (by rw [HY.out, HZ.out, e]))).symm, HD.out.more _⟩
          · go_wp2
            go_ret
            have hkl : k = xs.length := by omega
            have hn := HT.out
            rw [hkl, List.take_length, HL.out, List.take_length] at hn
            exact ⟨ret_bool (decide_eq_true hn).symm, HD.out⟩
  · obtain ⟨ao, c, rfl⟩ := h.len
    obtain ⟨ao', c', rfl⟩ := g.len
    have hlen := h.length_le
    have hlen' := g.length_le
    have hne : ((xs.length : Int) != (ys.length : Int)) = true := by simp; omega
    have HL := Lib.hid hl
    clear hl h g
    go_enter Try.func22, Try.ntmps22
    go_wp2
    go_ret
    exact ⟨ret_bool (decide_eq_false (fun e => HL.out (by rw [e]))).symm, Drew.refl _⟩

theorem refSame_val (t : Bool) (w : World) (v u : Value) (xs ys : List Int) (h : Sl w v xs) (g : Sl w u ys) (ht : decide (xs = ys) = t) :
    Calls Try.prog 22 #[v, u] w fun e w' => e = .returned (.bool t) ∧ Drew w w' :=
  (refSame_any w v u xs ys h g).mono fun _ _ ⟨he, hw⟩ => ⟨ht ▸ he, hw⟩


theorem Sl.sh {α : Type} [Elem α] {w : World} {v : Value} {xs : List α} (h : Sl w v xs) : ∃ ao n c, v = .slice ao n c := by obtain ⟨ao, c, h⟩ := h.len; exact ⟨ao, _, c, h⟩
theorem graph_at (w : World) (N : Int) (v : Value) (V : World) (h : Ext (w.alloc (.cells #[.int .i64 N, v] 24)) V) : V.cell? ⟨w.heap.size, 0, none⟩ = some (.int .i64 N) ∧ V.cell? ⟨w.heap.size, 1, none⟩ = some v := ⟨cell_at V h rfl, cell_at V h rfl⟩

structure AddSays (N : Int) (E : List Edge) (a b N' : Int) (E' : List Edge) (r : Int) : Prop where
  is : addR N E a b = r
  yes : r = 0 → N' = N ∧ E' = insE (btw a b) E
  no : r ≠ 0 → N' = 0 ∧ E' = []
structure RemSays (N : Int) (E : List Edge) (a b N' : Int) (E' : List Edge) (r : Int) : Prop where
  is : remR N E a b = r
  yes : r = 0 → N' = N ∧ E' = E.filter fun e => e != btw a b
  no : r ≠ 0 → N' = 0 ∧ E' = []
theorem addSays (N : Int) (E : List Edge) (a b : Int) : ∃ N' E', AddSays N E a b N' E' (addR N E a b) := by
  by_cases h : addR N E a b = 0
  · exact ⟨N, _, rfl, fun _ => ⟨rfl, rfl⟩, fun e => absurd h e⟩
  · exact ⟨0, [], rfl, fun e => absurd e h, fun _ => ⟨rfl, rfl⟩⟩
theorem remSays (N : Int) (E : List Edge) (a b : Int) : ∃ N' E', RemSays N E a b N' E' (remR N E a b) := by
  by_cases h : remR N E a b = 0
  · exact ⟨N, _, rfl, fun _ => ⟨rfl, rfl⟩, fun e => absurd h e⟩
  · exact ⟨0, [], rfl, fun e => absurd e h, fun _ => ⟨rfl, rfl⟩⟩
theorem add_says (w : World) (N : Int) (v : Value) (E : List Edge) (a b N' : Int) (E' : List Edge) (r : Int) (h : Sl w v E) (s : AddSays N E a b N' E' r) : Calls Try.prog 9 #[.agg #[.int .i64 N, v], .int .i64 a, .int .i64 b] w (GivesG w N' E' r) := by
  by_cases hr : r = 0
  · obtain ⟨rfl, rfl⟩ := s.yes hr
    subst hr
    exact add_yes w _ v E a b h s.is
  · obtain ⟨rfl, rfl⟩ := s.no hr
    exact add_no w N v E a b h r s.is hr
theorem rem_says (w : World) (N : Int) (v : Value) (E : List Edge) (a b N' : Int) (E' : List Edge) (r : Int) (h : Sl w v E) (s : RemSays N E a b N' E' r) (hl : E.length ≤ 1000) : Calls Try.prog 12 #[.agg #[.int .i64 N, v], .int .i64 a, .int .i64 b] w (GivesG w N' E' r) := by
  by_cases hr : r = 0
  · obtain ⟨rfl, rfl⟩ := s.yes hr
    subst hr
    exact rem_yes w _ v E a b h s.is hl
  · obtain ⟨rfl, rfl⟩ := s.no hr
    exact rem_no w N v E a b h r s.is hr
theorem refAdd_says (w : World) (N : Int) (v : Value) (E : List Edge) (a b N' : Int) (E' : List Edge) (r : Int) (h : Sl w v E) (s : AddSays N E a b N' E' r) : Calls Try.prog 11 #[.agg #[.int .i64 N, v], .int .i64 a, .int .i64 b] w (GivesG w N' E' r) := by
  by_cases hr : r = 0
  · obtain ⟨rfl, rfl⟩ := s.yes hr
    subst hr
    exact refAdd_yes w _ v E a b h s.is
  · obtain ⟨rfl, rfl⟩ := s.no hr
    exact refAdd_no w N v E a b h r s.is hr
theorem refRem_says (w : World) (N : Int) (v : Value) (E : List Edge) (a b N' : Int) (E' : List Edge) (r : Int) (h : Sl w v E) (s : RemSays N E a b N' E' r) : Calls Try.prog 13 #[.agg #[.int .i64 N, v], .int .i64 a, .int .i64 b] w (GivesG w N' E' r) := by
  by_cases hr : r = 0
  · obtain ⟨rfl, rfl⟩ := s.yes hr
    subst hr
    exact refRemove_yes w _ v E a b h s.is
  · obtain ⟨rfl, rfl⟩ := s.no hr
    exact refRemove_no w N v E a b h r s.is hr

/-! the chapter's example -/
theorem ok02 : OkG 3 [⟨0, 2⟩] := okG_iff.1 (by decide)
theorem near02 : nearOf [⟨0, 2⟩] 2 = [0] := by
  refine (norm_SS _).ext (by decide) fun x => ?_
  show x ∈ nearOf [⟨0, 2⟩] 2 ↔ _
  rw [mem_nearOf (by simp)]
  simp only [List.mem_singleton, btw, Edge.mk.injEq]
  omega
theorem parts02 {p : List Int} (h : IsParts [⟨0, 2⟩] 3 p) : p = [0, 1, 0] := by
  have hl : p.length = 3 := by have := h.1; omega
  have l0 := h.2 0 (by omega)
  have l1 := h.2 1 (by omega)
  have l2 := h.2 2 (by omega)
  have m0 : Least [⟨0, 2⟩] ((0 : Nat) : Int) 0 := ⟨.refl, by omega, fun j hj _ => hj⟩
  have m2 : Least [⟨0, 2⟩] ((2 : Nat) : Int) 0 := ⟨Join.one (by decide), by omega, fun j hj _ => hj⟩
  have m1 : Least [⟨0, 2⟩] ((1 : Nat) : Int) 1 := ⟨.refl, by omega, fun j hj hji => by
    rcases Int.lt_or_le j 1 with h | h
    · have h0 : j = 0 := by omega
      subst h0
      have := hji.closed (P := fun x => x ≠ 1) (fun x hx z hz => by simp [btw] at hz; omega) (by omega)
      exact absurd rfl this
    · exact h⟩
  match p, hl with
  | [x, y, z], _ =>
    have e0 := l0.uniq m0
    have e1 := l1.uniq m1
    have e2 := l2.uniq m2
    simp at e0 e1 e2
    rw [e0, e1, e2]

set_option maxHeartbeats 4000000 in
theorem awake_any (w : World) : Calls Try.prog 8 #[] w fun e w' => e = .returned (.bool true) ∧ Ext w w' := by
  have A0 : Hid (AddSays 3 [] 2 0 3 [⟨0, 2⟩] 0) := Lib.hid ⟨by decide, fun _ => ⟨rfl, by decide⟩, fun h => absurd rfl h⟩
  have R0 : Hid (RemSays 3 [⟨0, 2⟩] 0 2 3 [] 0) := Lib.hid ⟨by decide, fun _ => ⟨rfl, by decide⟩, fun h => absurd rfl h⟩
  have A1 : Hid (AddSays 3 [⟨0, 2⟩] 0 2 0 [] 32) := Lib.hid ⟨by decide, fun h => by omega, fun _ => ⟨rfl, rfl⟩⟩
  have C1 : Hid (chk 3 [⟨0, 2⟩] = 0) := Lib.hid (chk_of ok02)
  have H1 : Hid (decide (btw 2 0 ∈ [(⟨0, 2⟩ : Edge)]) = true) := Lib.hid (by decide)
  have H2 : Hid (decide (btw 1 0 ∈ [(⟨0, 2⟩ : Edge)]) = false) := Lib.hid (by decide)
  have OK := Lib.hid ok02
  have SA : Hid ((decide ((3 : Int) = 3) && decide (([] : List Edge) = [])) = true) := Lib.hid (by decide)
  have SB : Hid ((decide ((3 : Int) = 3) && decide ([(⟨0, 2⟩ : Edge)] = [])) = false) := Lib.hid (by decide)
  go_enter Try.func8, Try.ntmps8
  go_wp2_with (first
    | (go_at_call 9; have hgd := HG2; refine (add_says _ 3 _ [⟨0, 2⟩] 0 2 _ _ _ (S1.out.ext (by repeat (first | exact Ext.refl _ | assumption | exact Hid.out (by assumption) | refine Ext.alloc ?_ _ | refine Ext.drew ?_ | refine Ext.drewN ?_ _ | refine Ext.trans ?_ (by assumption)))) A1.out).mono ?_; rintro e w3 ⟨v3, rfl, s3, x3⟩; obtain ⟨ao3, n3, c3, rfl⟩ := s3.sh; have S3 := Lib.hid s3; clear s3; obtain ⟨c10_3, c11_3⟩ := HG1.out (w3.alloc (.cells #[.int .i64 0, .slice ao3 n3 c3] 24)) (by repeat (first | exact Ext.refl _ | assumption | exact Hid.out (by assumption) | refine Ext.alloc ?_ _ | refine Ext.drew ?_ | refine Ext.drewN ?_ _ | refine Ext.trans ?_ (by assumption))); obtain ⟨c20_3, c21_3⟩ := HG2.out (w3.alloc (.cells #[.int .i64 0, .slice ao3 n3 c3] 24)) (by repeat (first | exact Ext.refl _ | assumption | exact Hid.out (by assumption) | refine Ext.alloc ?_ _ | refine Ext.drew ?_ | refine Ext.drewN ?_ _ | refine Ext.trans ?_ (by assumption))); clear hgd)
    | (go_at_call 9; refine (add_says _ 3 _ [] 2 0 _ _ _ (Sl.nilg _) A0.out).mono ?_; rintro e w1 ⟨v1, rfl, s1, x1⟩; obtain ⟨ao1, n1, c1, rfl⟩ := s1.sh; have S1 := Lib.hid s1; clear s1; have HG1 := Lib.hid (graph_at w1 3 (.slice ao1 n1 c1)))
    | (go_at_call 12; refine (rem_says _ 3 _ [⟨0, 2⟩] 0 2 _ _ _ (S1.out.ext (by repeat (first | exact Ext.refl _ | assumption | exact Hid.out (by assumption) | refine Ext.alloc ?_ _ | refine Ext.drew ?_ | refine Ext.drewN ?_ _ | refine Ext.trans ?_ (by assumption)))) R0.out (by simp)).mono ?_; rintro e w2 ⟨v2, rfl, s2, x2⟩; obtain ⟨ao2, n2, c2, rfl⟩ := s2.sh; have S2 := Lib.hid s2; clear s2; have HG2 := Lib.hid (graph_at w2 3 (.slice ao2 n2 c2)); obtain ⟨c10_2, c11_2⟩ := HG1.out (w2.alloc (.cells #[.int .i64 3, .slice ao2 n2 c2] 24)) (by repeat (first | exact Ext.refl _ | assumption | exact Hid.out (by assumption) | refine Ext.alloc ?_ _ | refine Ext.drew ?_ | refine Ext.drewN ?_ _ | refine Ext.trans ?_ (by assumption))))
    | (go_at_call 15; refine (check_any _ 3 _ [⟨0, 2⟩] (S1.out.ext (by repeat (first | exact Ext.refl _ | assumption | exact Hid.out (by assumption) | refine Ext.alloc ?_ _ | refine Ext.drew ?_ | refine Ext.drewN ?_ _ | refine Ext.trans ?_ (by assumption)))) 0 C1.out).mono ?_; rintro e w4 ⟨rfl, x4⟩; obtain ⟨c10_4, c11_4⟩ := HG1.out w4 (by repeat (first | exact Ext.refl _ | assumption | exact Hid.out (by assumption) | refine Ext.alloc ?_ _ | refine Ext.drew ?_ | refine Ext.drewN ?_ _ | refine Ext.trans ?_ (by assumption))); obtain ⟨c20_4, c21_4⟩ := HG2.out w4 (by repeat (first | exact Ext.refl _ | assumption | exact Hid.out (by assumption) | refine Ext.alloc ?_ _ | refine Ext.drew ?_ | refine Ext.drewN ?_ _ | refine Ext.trans ?_ (by assumption))))
    | (go_at_call 16; have hgd := x5; refine (has_any _ 3 _ [⟨0, 2⟩] 1 0 (S1.out.ext (by repeat (first | exact Ext.refl _ | assumption | exact Hid.out (by assumption) | refine Ext.alloc ?_ _ | refine Ext.drew ?_ | refine Ext.drewN ?_ _ | refine Ext.trans ?_ (by assumption)))) false H2.out).mono ?_; rintro e w6 ⟨rfl, x6⟩; obtain ⟨c10_6, c11_6⟩ := HG1.out w6 (by repeat (first | exact Ext.refl _ | assumption | exact Hid.out (by assumption) | refine Ext.alloc ?_ _ | refine Ext.drew ?_ | refine Ext.drewN ?_ _ | refine Ext.trans ?_ (by assumption))); obtain ⟨c20_6, c21_6⟩ := HG2.out w6 (by repeat (first | exact Ext.refl _ | assumption | exact Hid.out (by assumption) | refine Ext.alloc ?_ _ | refine Ext.drew ?_ | refine Ext.drewN ?_ _ | refine Ext.trans ?_ (by assumption))); clear hgd)
    | (go_at_call 16; refine (has_any _ 3 _ [⟨0, 2⟩] 2 0 (S1.out.ext (by repeat (first | exact Ext.refl _ | assumption | exact Hid.out (by assumption) | refine Ext.alloc ?_ _ | refine Ext.drew ?_ | refine Ext.drewN ?_ _ | refine Ext.trans ?_ (by assumption)))) true H1.out).mono ?_; rintro e w5 ⟨rfl, x5⟩; obtain ⟨c10_5, c11_5⟩ := HG1.out w5 (by repeat (first | exact Ext.refl _ | assumption | exact Hid.out (by assumption) | refine Ext.alloc ?_ _ | refine Ext.drew ?_ | refine Ext.drewN ?_ _ | refine Ext.trans ?_ (by assumption))); obtain ⟨c20_5, c21_5⟩ := HG2.out w5 (by repeat (first | exact Ext.refl _ | assumption | exact Hid.out (by assumption) | refine Ext.alloc ?_ _ | refine Ext.drew ?_ | refine Ext.drewN ?_ _ | refine Ext.trans ?_ (by assumption))))
    | (go_at_call 17; refine (near_any _ 3 _ [⟨0, 2⟩] 2 (S1.out.ext (by repeat (first | exact Ext.refl _ | assumption | exact Hid.out (by assumption) | refine Ext.alloc ?_ _ | refine Ext.drew ?_ | refine Ext.drewN ?_ _ | refine Ext.trans ?_ (by assumption)))) OK.out).mono ?_; rintro e w7 ⟨v7, rfl, o7, x7⟩; rw [near02] at o7; obtain ⟨ao7, n7, c7, rfl⟩ := o7.sh; have S7 := Lib.hid o7.sl; clear o7; obtain ⟨c10_7, c11_7⟩ := HG1.out w7 (by repeat (first | exact Ext.refl _ | assumption | exact Hid.out (by assumption) | refine Ext.alloc ?_ _ | refine Ext.drew ?_ | refine Ext.drewN ?_ _ | refine Ext.trans ?_ (by assumption))); obtain ⟨c20_7, c21_7⟩ := HG2.out w7 (by repeat (first | exact Ext.refl _ | assumption | exact Hid.out (by assumption) | refine Ext.alloc ?_ _ | refine Ext.drew ?_ | refine Ext.drewN ?_ _ | refine Ext.trans ?_ (by assumption))))
    | (go_at_call 22; have hgd := S9; refine (refSame_val true _ _ _ [0, 1, 0] [0, 1, 0] (S9.out.ext (by repeat (first | exact Ext.refl _ | assumption | exact Hid.out (by assumption) | refine Ext.alloc ?_ _ | refine Ext.drew ?_ | refine Ext.drewN ?_ _ | refine Ext.trans ?_ (by assumption)))) (Sl.litAt _ _ (by simp) [0, 1, 0] (by simp)) (by decide)).mono ?_; rintro e w10 ⟨rfl, d10⟩; have x10 := Ext.of_drew d10; clear d10; obtain ⟨c10_10, c11_10⟩ := HG1.out w10 (by repeat (first | exact Ext.refl _ | assumption | exact Hid.out (by assumption) | refine Ext.alloc ?_ _ | refine Ext.drew ?_ | refine Ext.drewN ?_ _ | refine Ext.trans ?_ (by assumption))); obtain ⟨c20_10, c21_10⟩ := HG2.out w10 (by repeat (first | exact Ext.refl _ | assumption | exact Hid.out (by assumption) | refine Ext.alloc ?_ _ | refine Ext.drew ?_ | refine Ext.drewN ?_ _ | refine Ext.trans ?_ (by assumption))); clear hgd)
    | (go_at_call 22; refine (refSame_val true _ _ _ [0] [0] (S7.out.ext (by repeat (first | exact Ext.refl _ | assumption | exact Hid.out (by assumption) | refine Ext.alloc ?_ _ | refine Ext.drew ?_ | refine Ext.drewN ?_ _ | refine Ext.trans ?_ (by assumption)))) (Sl.litAt _ _ (by simp) [0] (by simp)) (by decide)).mono ?_; rintro e w8 ⟨rfl, d8⟩; have x8 := Ext.of_drew d8; clear d8; obtain ⟨c10_8, c11_8⟩ := HG1.out w8 (by repeat (first | exact Ext.refl _ | assumption | exact Hid.out (by assumption) | refine Ext.alloc ?_ _ | refine Ext.drew ?_ | refine Ext.drewN ?_ _ | refine Ext.trans ?_ (by assumption))); obtain ⟨c20_8, c21_8⟩ := HG2.out w8 (by repeat (first | exact Ext.refl _ | assumption | exact Hid.out (by assumption) | refine Ext.alloc ?_ _ | refine Ext.drew ?_ | refine Ext.drewN ?_ _ | refine Ext.trans ?_ (by assumption))))
    | (go_at_call 20; refine (parts_any _ 3 _ [⟨0, 2⟩] (S1.out.ext (by repeat (first | exact Ext.refl _ | assumption | exact Hid.out (by assumption) | refine Ext.alloc ?_ _ | refine Ext.drew ?_ | refine Ext.drewN ?_ _ | refine Ext.trans ?_ (by assumption)))) OK.out).mono ?_; rintro e w9 ⟨v9, p9, rfl, o9, x9, ip⟩; have hp9 := parts02 ip; subst hp9; obtain ⟨ao9, n9, c9, rfl⟩ := o9.sh; have S9 := Lib.hid o9.sl; clear o9 ip; obtain ⟨c10_9, c11_9⟩ := HG1.out w9 (by repeat (first | exact Ext.refl _ | assumption | exact Hid.out (by assumption) | refine Ext.alloc ?_ _ | refine Ext.drew ?_ | refine Ext.drewN ?_ _ | refine Ext.trans ?_ (by assumption))); obtain ⟨c20_9, c21_9⟩ := HG2.out w9 (by repeat (first | exact Ext.refl _ | assumption | exact Hid.out (by assumption) | refine Ext.alloc ?_ _ | refine Ext.drew ?_ | refine Ext.drewN ?_ _ | refine Ext.trans ?_ (by assumption))))
    | (go_at_call 21; have hgd := x11; refine (same_any _ 3 3 _ _ [⟨0, 2⟩] [] (S1.out.ext (by repeat (first | exact Ext.refl _ | assumption | exact Hid.out (by assumption) | refine Ext.alloc ?_ _ | refine Ext.drew ?_ | refine Ext.drewN ?_ _ | refine Ext.trans ?_ (by assumption)))) (S2.out.ext (by repeat (first | exact Ext.refl _ | assumption | exact Hid.out (by assumption) | refine Ext.alloc ?_ _ | refine Ext.drew ?_ | refine Ext.drewN ?_ _ | refine Ext.trans ?_ (by assumption)))) false SB.out).mono ?_; rintro e w12 ⟨rfl, x12⟩; clear hgd)
    | (go_at_call 21; refine (same_any _ 3 3 _ _ [] [] (S2.out.ext (by repeat (first | exact Ext.refl _ | assumption | exact Hid.out (by assumption) | refine Ext.alloc ?_ _ | refine Ext.drew ?_ | refine Ext.drewN ?_ _ | refine Ext.trans ?_ (by assumption)))) (Sl.nilg _) true SA.out).mono ?_; rintro e w11 ⟨rfl, x11⟩; obtain ⟨c10_11, c11_11⟩ := HG1.out w11 (by repeat (first | exact Ext.refl _ | assumption | exact Hid.out (by assumption) | refine Ext.alloc ?_ _ | refine Ext.drew ?_ | refine Ext.drewN ?_ _ | refine Ext.trans ?_ (by assumption))); obtain ⟨c20_11, c21_11⟩ := HG2.out w11 (by repeat (first | exact Ext.refl _ | assumption | exact Hid.out (by assumption) | refine Ext.alloc ?_ _ | refine Ext.drew ?_ | refine Ext.drewN ?_ _ | refine Ext.trans ?_ (by assumption)))))
  go_ret
  exact ⟨rfl, (by repeat (first | exact Ext.refl _ | assumption | exact Hid.out (by assumption) | refine Ext.alloc ?_ _ | refine Ext.drew ?_ | refine Ext.drewN ?_ _ | refine Ext.trans ?_ (by assumption)))⟩

end Go.Proofs.Ytanflbjbcncklaa
