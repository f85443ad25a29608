/- An order, if there is one; a way turned round. -/
import Derived.Test.YthofgfdhcndpbaaD5
import Derived.Deep.RegionWith
namespace Go.Proofs.Ythofgfdhcndpbaa
open Go.RowKit Go.Sort

def ordB (N : Int) (L : List Arc) : Bool := okD N L && decide ((peeled N L).2 = [])
def ordL (N : Int) (L : List Arc) : List Int := if ordB N L = true then (peeled N L).1 else []
theorem ordB_iff {N : Int} {L : List Arc} : ordB N L = true ↔ OkD N L ∧ (peeled N L).2 = [] := by simp [ordB, okD_iff]
/-- A new slice, and whether there is such a one. -/
def GivesT (w : World) (xs : List Int) (b : Bool) (e : Ending) (w' : World) : Prop := ∃ v, e = .returned (.tuple #[v, .bool b]) ∧ Ow w' w.heap.size v xs ∧ Ext w w'

theorem order_any (w : World) (N : Int) (v : Value) (E : List Arc) (h : Sl w v E) (xs : List Int) (b : Bool) (hx : ordL N E = xs) (hb : ordB N E = b) :
    Calls Try.prog 12 #[.int .i64 N, v] w (GivesT w xs b) := by
  obtain ⟨ao, c, rfl⟩ := h.len
  have HS := Lib.hid h
  clear h
  by_cases ok : OkD N E
  · have HC := Lib.hid (chkD_of ok)
    have h0 := ok.n0
    have h64 := ok.n64
    have HO := Lib.hid ok
    obtain ⟨hp, _⟩ := peeled_spec ok
    have hlen := hp.len
    clear ok hp
    obtain ⟨n, rfl⟩ := Int.eq_ofNat_of_zero_le h0
    by_cases e : (peeled (n : Int) E).2 = []
    · have hb' : b = true := by rw [← hb]; exact ordB_iff.2 ⟨HO.out, e⟩
      subst hb'
      have HX : Hid ((peeled (n : Int) E).1 = xs) := Lib.hid (by rw [← hx]; unfold ordL; rw [if_pos hb])
      have HE : Hid ((peeled (n : Int) E).2.length = 0) := Lib.hid (by rw [e]; rfl)
      clear e hx hb hlen
      go_enter Try.func12, Try.ntmps12
      go_wp2_with (first
        | (go_at_call 18; refine (check_any _ _ _ E (HS.out.ext (by repeat (first | exact Ext.refl _ | assumption | refine Ext.alloc ?_ _ | refine Ext.drew ?_ | refine Ext.drewN ?_ _))) 0 HC.out).mono ?_; rintro e w1 ⟨rfl, x1⟩)
        | (go_at_call 34; refine (asker_any _ _ _ E (HS.out.ext (by repeat (first | exact Ext.refl _ | assumption | exact Hid.out (by assumption) | refine Ext.alloc ?_ _ | refine Ext.drew ?_ | refine Ext.drewN ?_ _ | refine Ext.trans ?_ (by assumption)))) HO.out).mono ?_; rintro e w2 ⟨fv, rfl, ht, x2⟩; have y2 := Ext.trans x1 x2; obtain ⟨g, lb, rfl⟩ := ht.sh; have HT := Lib.hid ht; clear ht)
        | (go_at_call 33; refine (peel_any _ n _ _ E HO.out (by omega) HT.out).mono ?_; rintro e w3 ⟨v1, v2, rfl, ho1, ho2, x3⟩; have y3 := Ext.trans y2 x3; obtain ⟨ao2, c2, rfl⟩ := ho2.sl.len; rw [HE.out]; rw [HX.out] at ho1; obtain ⟨ao1, n1, c1, rfl⟩ := ho1.sh; have O1 := Lib.hid ho1; clear ho1 ho2))
      go_ret2
      exact ⟨_, rfl, O1.out.mono y2.size, y3⟩
    · have hb' : b = false := by rw [← hb]; cases q : ordB (n : Int) E with
        | false => rfl
        | true => exact absurd (ordB_iff.1 q).2 e
      subst hb'
      have hx' : xs = [] := by rw [← hx]; unfold ordL; rw [if_neg (by rw [hb]; simp)]
      subst hx'
      have hp : 0 < (peeled (n : Int) E).2.length := List.length_pos_iff.2 e
      obtain ⟨m, hm⟩ : ∃ m, m = (peeled (n : Int) E).2.length := ⟨_, rfl⟩
      have HM := Lib.hid hm
      rw [← hm] at hp hlen
      clear e hx hb hm
      go_enter Try.func12, Try.ntmps12
      go_wp2_with (first
        | (go_at_call 18; refine (check_any _ _ _ E (HS.out.ext (by repeat (first | exact Ext.refl _ | assumption | refine Ext.alloc ?_ _ | refine Ext.drew ?_ | refine Ext.drewN ?_ _))) 0 HC.out).mono ?_; rintro e w1 ⟨rfl, x1⟩)
        | (go_at_call 34; refine (asker_any _ _ _ E (HS.out.ext (by repeat (first | exact Ext.refl _ | assumption | exact Hid.out (by assumption) | refine Ext.alloc ?_ _ | refine Ext.drew ?_ | refine Ext.drewN ?_ _ | refine Ext.trans ?_ (by assumption)))) HO.out).mono ?_; rintro e w2 ⟨fv, rfl, ht, x2⟩; have y2 := Ext.trans x1 x2; obtain ⟨g, lb, rfl⟩ := ht.sh; have HT := Lib.hid ht; clear ht)
        | (go_at_call 33; refine (peel_any _ n _ _ E HO.out (by omega) HT.out).mono ?_; rintro e w3 ⟨v1, v2, rfl, ho1, ho2, x3⟩; have y3 := Ext.trans y2 x3; obtain ⟨ao2, c2, rfl⟩ := ho2.sl.len; rw [← HM.out]; obtain ⟨ao1, n1, c1, rfl⟩ := ho1.sh; clear ho1 ho2))
      go_ret2
      exact ⟨_, rfl, Ow.nil _ _, y3⟩
  · have HC := Lib.hid (chkD_not ok)
    have hb' : b = false := by rw [← hb]; cases q : ordB N E with
      | false => rfl
      | true => exact absurd (ordB_iff.1 q).1 ok
    subst hb'
    have hx' : xs = [] := by rw [← hx]; unfold ordL; rw [if_neg (by rw [hb]; simp)]
    subst hx'
    clear ok hx hb
    go_enter Try.func12, Try.ntmps12
    go_wp2_with (first
      | (go_at_call 18; refine (check_any _ _ _ E (HS.out.ext (by repeat (first | exact Ext.refl _ | assumption | refine Ext.alloc ?_ _ | refine Ext.drew ?_ | refine Ext.drewN ?_ _))) 40 HC.out).mono ?_; rintro e w1 ⟨rfl, x1⟩))
    go_ret2
    exact ⟨_, rfl, Ow.nil _ _, x1⟩

/-- A part of a block of the call's own. -/
structure Piece (w : World) (g off : Nat) (c : Nat) (xs : List Int) : Prop where
  lt : g < w.heap.size
  cap : xs.length ≤ c
  c63 : c ≤ 9223372036854775807
  holds : Holds (Value.int .i64) w g off xs.toArray
theorem Piece.sl {w : World} {g off c : Nat} {xs : List Int} (h : Piece w g off c xs) : Sl w (.slice (some ⟨g, off, none⟩) xs.length c) xs := by
  refine ⟨cellsOf_length _, _, c, rfl, h.cap, by unfold maxLen; exact h.c63, by simp, .inr ⟨g, off, rfl, h.lt, fun j u hj => ?_⟩⟩
  rw [cells_i, List.getElem?_map] at hj
  have hjl : j < xs.length := by
    rcases Nat.lt_or_ge j xs.length with h | h
    · exact h
    · rw [List.getElem?_eq_none h] at hj; cases hj
  rw [List.getElem?_eq_getElem hjl] at hj
  simp only [Option.map_some, Option.some.injEq] at hj
  subst hj
  have := (h.holds j (by simpa using hjl)).1
  simpa [hjl] using this
theorem Piece.of {w : World} {B g c : Nat} {xs : List Int} (h : Ow w B (.slice (some ⟨g, 0, none⟩) xs.length c) xs) (i : Nat) (hi : i < xs.length) : Piece w g i (c - i) (xs.drop i) := by
  rcases h.2 with ⟨hv, _⟩ | ⟨g', cap, cur, hv, hg, hh, h1, h2, h3, h4⟩
  · cases hv
  · simp only [Value.slice.injEq, Option.some.injEq, Addr.mk.injEq, and_true] at hv
    obtain ⟨rfl, _, rfl⟩ := hv
    have hc63 : c ≤ 9223372036854775807 := by simpa only [maxLen] using h2
    refine ⟨blk_lt hh, by rw [List.length_drop]; omega, by omega, fun j hj => ?_⟩
    have hjl : i + j < xs.length := by simp at hj; omega
    have hH := holds_of_blockI (ss := xs) hh (by have h5 := h4; rw [show xs.length * Elem.k Int = xs.length from Nat.mul_one _, cells_i] at h5; exact h5)
    have := hH (i + j) (by simpa using hjl)
    rw [Nat.zero_add] at this
    have hjd : j < xs.length - i := by omega
    refine ⟨this.1.trans ?_, this.2⟩
    congr 2
    simp [hjl, hjd]

theorem reverse_any (w : World) (g off c : Nat) (xs : List Int) (h : Piece w g off c xs) :
    Calls Try.prog 54 #[.slice (some ⟨g, off, none⟩) xs.length c] w fun e w' => e = .returned (.tuple #[]) ∧ Piece w' g off c xs.reverse ∧ w.grownBy w' (some g) := by
  refine (Try.slices_Reverse_int g off c xs w h.holds (by have := h.cap; have := h.c63; omega)).mono ?_
  rintro e w' ⟨rfl, q, rfl⟩
  have e0 : ∀ d : Array Int, Sort.putRow (Value.int .i64) (Sort.ahead w q) g off d = Sort.grow (Sort.putRow (Value.int .i64) (Sort.ahead w q) g off d) #[] := fun d => by simp
  refine ⟨rfl, ⟨by simpa [putRow, mapBlock, Sort.ahead] using h.lt, by simpa using h.cap, h.c63, holds_putRow _ _ g off _ _ (holds_ahead _ w q g off _ h.holds) (by simp)⟩, ?_⟩
  refine ⟨rfl, rfl, rfl, by simp [putRow, mapBlock, Sort.ahead], fun k hk hne => ?_⟩
  have : g ≠ k := fun e => hne (by rw [e])
  simp [putRow, mapBlock, Sort.ahead, Array.getElem?_modify, this]

set_option maxHeartbeats 1000000 in
theorem turned_any (w : World) (B g off c : Nat) (xs : List Int) (h : Piece w g off c xs) (hB : B ≤ g) (hBw : B ≤ w.heap.size) (hne : xs ≠ []) (hl : xs.length ≤ 1000) :
    Calls Try.prog 41 #[.slice (some ⟨g, off, none⟩) xs.length c] w fun e w' => ∃ v, e = .returned v ∧ Ow w' w.heap.size v (turnedOf xs) ∧ Below B w w' := by
  have HP := Lib.hid h
  have hr : xs.reverse ≠ [] := by simpa using hne
  have hcap := h.cap
  have hc63 := h.c63
  obtain ⟨R, hR⟩ : ∃ R, R = xs.reverse := ⟨_, rfl⟩
  have hRl : R.length = xs.length := by rw [hR]; simp
  rw [← hR] at hr
  obtain ⟨m1, m2⟩ := min_is R hr
  obtain ⟨k, hk⟩ : ∃ k, k = R.idxOf (minI R) := ⟨_, rfl⟩
  have hkl : k < R.length := by rw [hk]; exact List.idxOf_lt_length_of_mem m1
  have HI : Hid (placeIn R (minI R) = (k : Int)) := Lib.hid (by rw [(place_some m1).1, hk])
  have HTU : Hid (turnedOf xs = R.drop k ++ R.take k) := Lib.hid (by unfold turnedOf rotate; rw [← hR, ← hk])
  have HN := Lib.hid hr
  have HR := Lib.hid hR
  clear h hne hr hR m1 m2 hk
  obtain ⟨M, hM⟩ : ∃ M, M = minI R := ⟨_, rfl⟩
  rw [← hM] at HI
  have HM := Lib.hid hM
  clear hM
  have HLL := Lib.hid hRl
  have hk0 : (0 : Int) ≤ (k : Int) := by omega
  have hkx : (k : Int) ≤ (xs.length : Int) := by omega
  have hkc : (k : Int) ≤ (c : Int) := by omega
  have hkx2 : k ≤ xs.length := by omega
  have hkc2 : k ≤ c := by omega
  have hck : ¬ c = k := by omega
  clear hRl hkl
  go_enter Try.func41, Try.ntmps41
  go_wp2_with (first
    | (go_at_call 54; refine (reverse_any _ g off c xs HP.out).mono ?_; rintro e w1 ⟨rfl, hp1, hg1⟩; rw [← HR.out] at hp1; have P1 := Lib.hid hp1.sl; rw [HLL.out] at P1; have PP := Lib.hid hp1; have G1 := Lib.hid hg1; clear hp1 hg1)
    | (go_at_call 55; refine (min_any _ _ R P1.out HN.out).mono ?_; rintro e w2 ⟨rfl, rfl⟩; rw [← HM.out])
    | (go_at_call 40; refine (index_i _ _ R M P1.out).mono ?_; rintro e w2 ⟨rfl, rfl⟩; rw [HI.out]))
  have HD : Hid (∀ W, Ext w2 W → Sl W (.slice (some ⟨g, off + k, none⟩) (xs.length - k) (c - k)) (R.drop k)) := Lib.hid fun W hW => by
    have h1 := PP.out.sl
    have := (h1.ext hW).cut k (xs.length - k) (by rw [HLL.out]; omega) (by omega)
    rw [show off + k * Elem.k Int = off + k from by show off + k * 1 = _; omega] at this
    rwa [List.take_of_length_le (by rw [List.length_drop, HLL.out]; omega)] at this
  have HT : Hid (∀ W, Ext w2 W → Sl W (.slice (some ⟨g, off, none⟩) k c) (R.take k)) := Lib.hid fun W hW => by
    have h1 := PP.out.sl
    have := (h1.ext hW).cut 0 k (by rw [HLL.out]; omega) (by omega)
    simpa using this
  have HL1 : Hid ((R.drop k).length ≤ 1000 ∧ (R.take k).length ≤ 1000) := Lib.hid (by rw [List.length_drop, List.length_take, HLL.out]; omega)
  have HBX : Hid (∀ W, Ext (w2.alloc (.cells #[.slice (some ⟨g, off + k, none⟩) (xs.length - k) (c - k), .slice (some ⟨g, off, none⟩) k c] 25)) W → W.cell? ⟨w2.heap.size, 0, none⟩ = some (.slice (some ⟨g, off + k, none⟩) (xs.length - k) (c - k)) ∧ W.cell? ⟨w2.heap.size, 1, none⟩ = some (.slice (some ⟨g, off, none⟩) k c) ∧ w2.heap.size < W.heap.size) := Lib.hid fun W hW => ⟨cell_at W hW rfl, cell_at W hW rfl, by have := hW.size; rw [size_alloc] at this; omega⟩
  go_region_with ((go_at_call 56; refine (concat_i _ w2.heap.size _ _ (R.drop k) (R.take k) (HBX.out _ (Ext.drew (Ext.refl _))).2.2 (HBX.out _ (Ext.drew (Ext.refl _))).1 (HBX.out _ (Ext.drew (Ext.refl _))).2.1 (HD.out _ (by repeat (first | exact Ext.refl _ | assumption | refine Ext.alloc ?_ _ | refine Ext.drew ?_ | refine Ext.drewN ?_ _))) (HT.out _ (by repeat (first | exact Ext.refl _ | assumption | refine Ext.alloc ?_ _ | refine Ext.drew ?_ | refine Ext.drewN ?_ _))) HL1.out.1 HL1.out.2).mono ?_; rintro e w3 ⟨v3, rfl, ho3, hx3⟩; have x3 : Ext w2 w3 := Ext.trans (by exact (by repeat (first | exact Ext.refl _ | assumption | refine Ext.alloc ?_ _ | refine Ext.drew ?_ | refine Ext.drewN ?_ _))) hx3; obtain ⟨ao3, n3, c3, rfl⟩ := ho3.sh; have O3 := Lib.hid ho3; clear ho3 hx3))
  all_goals go_wp2
  all_goals go_ret
  all_goals
    have hs : w.heap.size ≤ w2.heap.size := G1.out.size
    refine ⟨_, rfl, by rw [HTU.out]; exact O3.out.mono (by simp; omega), ?_⟩
    exact ((Below.refl B w).grown G1.out hBw (fun q e => by cases e; exact hB)).trans (x3.mono (by omega))

end Go.Proofs.Ythofgfdhcndpbaa
