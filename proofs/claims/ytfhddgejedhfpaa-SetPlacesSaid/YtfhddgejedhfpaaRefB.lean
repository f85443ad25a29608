/- The document's answers for sets: those that make new sets. -/
import Derived.Test.YtfhddgejedhfpaaRefA
import Derived.Deep.RegionLaw
namespace Go.Proofs.Ytfhddgejedhfpaa
open Go.RowKit

theorem norm_next_mem {xs : List Int} {k : Nat} {y : Int} {S : List Int} (hlt : k < xs.length) (hy : y = xs.getD k 0) (hS : S = norm (xs.take k)) (h : y ∈ S) : norm (xs.take (k + 1)) = S := by
  have e : xs.getD k 0 = xs[k] := by simp [hlt]
  rw [hS, mem_norm, hy, e] at h
  rw [List.take_succ_eq_append_getElem hlt, norm_snoc_mem h, hS]

theorem norm_next_new {xs : List Int} {k : Nat} {y : Int} {S : List Int} {p : Nat} (hlt : k < xs.length) (hy : y = xs.getD k 0) (hS : S = norm (xs.take k)) (h : ¬ y ∈ S) (hp : p = placeOf S y) :
    norm (xs.take (k + 1)) = [] ++ S.take p ++ [y] ++ S.drop p := by
  have e : xs.getD k 0 = xs[k] := by simp [hlt]
  rw [hS, mem_norm, hy, e] at h
  rw [List.take_succ_eq_append_getElem hlt, ← putIn_norm h, ← hS, ← e, ← hy, hp, List.nil_append]
  rfl

theorem cutTail {w : World} {g : Nat} {S : List Int} (hb : g < w.heap.size) (hcell : ∀ j, j < S.length → w.cell? ⟨g, 0 + j, none⟩ = some (.int .i64 (S.getD j 0))) (p cap : Nat) (hp : p ≤ S.length) (hc : S.length ≤ cap) (hcap : cap ≤ 9223372036854775807) :
    Sl w (.slice (if cap = p then some ⟨g, 0, none⟩ else some ⟨g, p, none⟩) (S.length - p) (cap - p)) (S.drop p) := by
  have h1 := Sl.cut hb hcell p (S.length - p) (by omega) (by omega : S.length - p ≤ cap - p) (by omega)
  rw [List.take_of_length_le (by simp)] at h1
  by_cases e : cap = p
  · have e0 : S.length - p = 0 := by omega
    rw [if_pos e, e0]
    have e1 : S.drop p = [] := List.drop_eq_nil_of_le (by omega)
    rw [e1]
    exact ⟨by simp, some ⟨g, 0, none⟩, cap - p, rfl, by simp, by unfold maxLen; omega, by simp, .inl rfl⟩
  · rw [if_neg e]
    simpa using h1

set_option maxHeartbeats 1000000 in
theorem refOf_any (w : World) (v : Value) (xs : List Int) (h : Sl w v xs) (hlen : xs.length ≤ 1000000) :
    Calls Try.prog 14 #[v] w (GivesOw w (norm xs)) := by
  rcases h.parts with ⟨rfl, ao, c, rfl⟩ | ⟨b, off, c, rfl, hc, hc63, hb, hpos, hcell⟩
  · go_enter Try.func14, Try.ntmps14
    go_wp2
    refine wp_loop_rounds 1 ?_
    rw [rounds_succ]
    go_wp2
    go_ret
    exact ⟨_, rfl, by rw [norm_nil]; exact Ow.empty _ _ (Nat.le_refl _), (Below.refl _ _).alloc (Nat.le_refl _) _⟩
  · have HC := Lib.hid hcell
    clear hcell h
    go_enter Try.func14, Try.ntmps14
    go_wp2
    go_loopw [3, 4] (fun u i wr => ∃ k : Nat, k ≤ xs.length ∧ i = .int .i64 k ∧ Hid (Ow wr w.heap.size u (norm (xs.take k))) ∧ Hid (u ≠ .slice none 0 0) ∧ Hid (Below w.heap.size w wr)) (fun _ i _ => xs.length - (intOf i).toNat)
    case atStart => exact ⟨0, Nat.zero_le _, rfl, Lib.hid (by rw [List.take_zero, norm_nil]; exact Ow.empty _ _ (Nat.le_refl _)), Lib.hid (by simp), Lib.hid ((Below.refl _ _).alloc (Nat.le_refl _) _)⟩
    case round =>
      obtain ⟨k, hk, rfl, HO, HN, HB⟩ := hrel
      by_cases hlt : k < xs.length
      · have hck := (HB.out.cell (p := ⟨b, off + k, none⟩) hb).trans (HC.out k hlt)
        obtain ⟨y, hy⟩ : ∃ y, y = xs.getD k 0 := ⟨_, rfl⟩
        rw [← hy] at hck
        have HY := Lib.hid hy
        clear hy
        have hck0 := hck
        obtain ⟨S, hS⟩ : ∃ S, S = norm (xs.take k) := ⟨_, rfl⟩
        rw [← hS] at HO
        have HS := Lib.hid hS
        have hSl : S.length ≤ 1000000 := by
          have := norm_length (xs.take k)
          rw [← hS] at this
          simp at this
          omega
        clear hS
        obtain ⟨g, cap, rfl, hg, hgl, hncap, hcap, hcS⟩ := HO.out.shape HN.out
        have HCS := Lib.hid hcS
        clear hcS
        have HH : Hid (∀ t, decide (y ∈ S) = t → Calls Try.prog 16 #[.slice (some ⟨g, 0, none⟩) S.length cap, .int .i64 y] wr fun e w' => e = .returned (.bool t) ∧ wr = w') :=
          Lib.hid fun t ht => (refHas_any wr _ S y HO.out.sl).mono fun e w' ⟨he, hw⟩ => ⟨ht ▸ he, hw⟩
        by_cases h2 : y ∈ S
        · have HT : Hid (decide (y ∈ S) = true) := Lib.hid (decide_eq_true h2)
          have H2 := Lib.hid h2
          clear h2
          go_wp2_with (go_at_call 16; refine (HH.out true HT.out).mono ?_; rintro e w' ⟨rfl, rfl⟩)
          go_roundw
          case rel => exact ⟨k + 1, by omega, by go_num, Lib.hid (by rw [norm_next_mem hlt HY.out HS.out H2.out]; exact HO.out), HN, HB⟩
          case measure => simp [intOf]; omega
        · have HT : Hid (decide (y ∈ S) = false) := Lib.hid (decide_eq_false h2)
          have H2 := Lib.hid h2
          clear h2
          obtain ⟨p, hp⟩ : ∃ p : Nat, p = placeOf S y := ⟨_, rfl⟩
          have hpl : p ≤ S.length := by rw [hp]; exact placeOf_le _ _
          have hpc : p ≤ cap := by omega
          have HPl : Hid (∀ W, Sl W (.slice (some ⟨g, 0, none⟩) S.length cap) S → Calls Try.prog 18 #[.slice (some ⟨g, 0, none⟩) S.length cap, .int .i64 y] W fun e w' => e = .returned (.int .i64 p) ∧ Hid (Drew W w')) :=
            Lib.hid fun W hW => (refPlace_any W _ S y hW).mono fun e w' ⟨he, hw⟩ => ⟨hp ▸ he, hw⟩
          have HP := Lib.hid hp
          clear hp
          have HX1 : Hid (∀ W, Below wr.heap.size wr W → Sl W (.slice (some ⟨g, 0, none⟩) p cap) (S.take p)) :=
            Lib.hid fun W hW => (by simpa using Sl.cut hgl HCS.out 0 p (by omega) (by omega) hcap : Sl wr (.slice (some ⟨g, 0, none⟩) p cap) (S.take p)).below hW (Nat.le_refl _)
          have HX2 : Hid (∀ W, Below wr.heap.size wr W → Sl W (.slice (if cap = p then some ⟨g, 0, none⟩ else some ⟨g, p, none⟩) (S.length - p) (cap - p)) (S.drop p)) :=
            Lib.hid fun W hW => (cutTail hgl HCS.out p cap (by omega) (by omega) hcap).below hW (Nat.le_refl _)
          have HCK : Hid (∀ W, Below wr.heap.size wr W → W.cell? ⟨b, off + k, none⟩ = some (.int .i64 y)) :=
            Lib.hid fun W hW => (hW.cell (p := ⟨b, off + k, none⟩) (by show b < wr.heap.size; have := HB.out.size; omega)).trans hck0
          clear hck0
          go_wp2_with (first | (go_at_call 16; refine (HH.out false HT.out).mono ?_; rintro e w' ⟨rfl, rfl⟩) | (go_at_call 18; refine (HPl.out _ HO.out.sl).mono ?_; rintro e w1 ⟨rfl, HD⟩; have hck1 := (HD.out.cell ⟨b, off + k, none⟩).trans hck; clear hck; have hw1 : wr.heap.size ≤ w1.heap.size := Nat.le_of_eq HD.out.size.symm; have HW1 : Hid (Below wr.heap.size wr w1) := Lib.hid (HD.out.below _); have hck1a := HCK.out (w1.alloc (.cells #[] 3)) (HW1.out.alloc hw1 _)))
          go_region_law (first
            | (refine step_append_sl rfl (.tmp 25) (.tmp 28) rfl wr.heap.size (.slice (some ⟨_, 0, none⟩) 0 0) [] rfl ?_ _ (S.take p) rfl (HX1.out _ ?_) (by simp; omega) (by simp; omega) ?_; rotate_right; (intro v1 W1 ho1 hg1 hb1 hn1; have HN1 := Lib.hid (hn1 (by simp)); clear hn1; have HO1 := Lib.hid ho1; have HG1 := Lib.hid hg1; have hw2 : wr.heap.size ≤ W1.heap.size := (by have := hb1.size; (try simp at this); omega); have HW2 : Hid (Below wr.heap.size wr W1) := Lib.hid (Below.trans (by first | exact ((HW1.out.alloc hw1 _).drew) | exact (((HW1.out.alloc hw1 _).alloc (by simp; omega) _).drew)) hb1); have hck2 := HCK.out W1 HW2.out; clear ho1 hg1 hb1); rotate_left; (first | exact (Ow.emptyAt _ _ _ hw1 (by simp)).drew | exact ((Ow.emptyAt _ _ _ hw1 (by simp)).alloc _).drew | exact (Ow.emptyAt _ _ _ (by simp; omega) (by simp)).drew); (first | exact ((HW1.out.alloc hw1 _).drew) | exact (((HW1.out.alloc hw1 _).alloc (by simp; omega) _).drew)))
            | (refine step_append_sl rfl (.tmp 29) (.tmp 34) rfl wr.heap.size _ _ rfl (by first | exact HO1.out | exact HO1.out.alloc _) (.slice (some ⟨_, 0, none⟩) 1 1) [y] rfl ?_ (by simp; omega) (by first | exact hw2 | (simp; omega)) ?_; rotate_right; (intro v2 W2 ho2 hg2 hb2 hn2; have HN2 := Lib.hid (hn2 HN1.out); clear hn2; have HO2 := Lib.hid ho2; have hw3 : wr.heap.size ≤ W2.heap.size := (by have := hb2.size; (try simp at this); omega); have HW3 : Hid (Below wr.heap.size wr W2) := Lib.hid (Below.trans (by first | exact HW2.out | exact HW2.out.alloc hw2 _) hb2); clear ho2 hg2 hb2); rotate_left; (first | exact Sl.oneAt _ y _ (by simp) | (refine Sl.grown ?_ HG1.out (.inl (by simp [Value.ownBlock])); first | exact (Sl.oneAt _ y _ (by simp)).drew | exact ((Sl.oneAt _ y _ (by simp)).alloc _).drew)))
            | (refine step_append_sl rfl (.tmp 35) (.tmp 38) rfl wr.heap.size _ _ rfl HO2.out _ (S.drop p) rfl (HX2.out _ HW3.out) (by simp; omega) hw3 ?_; (intro v3 W3 ho3 hg3 hb3 hn3; have HN3 := Lib.hid (hn3 HN2.out); clear hn3; have HO3 := Lib.hid ho3; have HW4 : Hid (Below wr.heap.size wr W3) := Lib.hid (Below.trans HW3.out hb3); clear ho3 hg3 hb3)))
          all_goals
            go_wp2
            go_roundw
            case rel => exact ⟨k + 1, by omega, by go_num, Lib.hid (by rw [norm_next_new hlt HY.out HS.out H2.out HP.out]; exact HO3.out.mono HB.out.size), HN3, Lib.hid (HB.out.trans (HW4.out.mono HB.out.size))⟩
            case measure => simp [intOf]; omega
      · go_wp2
        go_ret
        have hkl : k = xs.length := by omega
        have ho := HO.out
        rw [hkl, List.take_length] at ho
        exact ⟨_, rfl, ho, HB.out⟩


theorem wof {w w' : World} (h : Below w.heap.size w w') : w.heap.size ≤ w'.heap.size := h.size

set_option maxHeartbeats 400000 in
theorem refUnion_any (w : World) (v u : Value) (xs ys : List Int) (h : Sl w v xs) (g : Sl w u ys) (hlen : xs.length + ys.length ≤ 1000000) :
    Calls Try.prog 21 #[v, u] w (GivesOw w (norm (xs ++ ys))) := by
  have hb0 : Below w.heap.size w (w.alloc (.cells #[] 3)) := (Below.refl _ _).alloc (Nat.le_refl _) _
  have HS := Lib.hid h
  have HG := Lib.hid g
  clear h g
  have HB0 := Lib.hid hb0
  clear hb0
  go_enter Try.func21, Try.ntmps21
  go_wp2_with (first
    | (at_builtin; refine wpList_append_sl rfl (.tmp 5) (.tmp 6) rfl w.heap.size (.slice (some ⟨_, 0, none⟩) 0 0) [] rfl (Ow.empty _ _ (Nat.le_refl _)) _ xs rfl (HS.out.below HB0.out (Nat.le_refl _)) (by simp; omega) (by simp) ?_; intro v1 W1 ho1 hg1 hb1 _; have HO1 := Lib.hid ho1; have HB1 := Lib.hid (HB0.out.trans hb1); have hw1 := hb1.size; clear ho1 hg1 hb1)
    | (at_builtin; refine wpList_append_sl rfl (.tmp 7) (.tmp 8) rfl w.heap.size _ _ rfl HO1.out _ ys rfl (HG.out.below HB1.out (Nat.le_refl _)) (by simp; omega) (by (try simp at hw1); omega) ?_; intro v2 W2 ho2 hg2 hb2 _; have HO2 := Lib.hid ho2; have HB2 := Lib.hid (HB1.out.trans hb2); clear ho2 hg2 hb2)
    | (go_at_call 14; refine (refOf_any _ _ _ HO2.out.sl (by simp; omega)).mono ?_; rintro e w' ⟨v3, rfl, ho3, hb3⟩; have HO3 := Lib.hid ho3; have HB3 := Lib.hid hb3; clear ho3 hb3))
  go_ret
  exact ⟨_, rfl, HO3.out.mono HB2.out.size, HB2.out.trans (HB3.out.mono HB2.out.size)⟩

theorem pick_next {xs : List Int} {k : Nat} (p : Int → Bool) (hlt : k < xs.length) : (xs.take (k + 1)).filter p = (xs.take k).filter p ++ (if p (xs.getD k 0) then [xs.getD k 0] else []) := by
  have e : xs.getD k 0 = xs[k] := by simp [hlt]
  rw [List.take_succ_eq_append_getElem hlt, List.filter_append, e]
  by_cases hp : p xs[k] <;> simp [hp]

set_option maxHeartbeats 1000000 in
theorem refPick_any (w : World) (v u : Value) (xs ys : List Int) (t : Bool) (h : Sl w v xs) (g : Sl w u ys) (hlen : xs.length ≤ 1000000) :
    Calls Try.prog 23 #[v, u, .bool t] w (GivesOw w (norm (xs.filter fun y => decide (y ∈ ys) == t))) := by
  rcases h.parts with ⟨rfl, ao, c, rfl⟩ | ⟨b, off, c, rfl, hc, hc63, hb, hpos, hcell⟩
  · go_enter Try.func23, Try.ntmps23
    go_wp2
    refine wp_loop_rounds 1 ?_
    rw [rounds_succ]
    go_wp2_with (go_at_call 14; refine (refOf_any _ _ _ (Ow.empty w w.heap.size (Nat.le_refl _)).sl (by simp)).mono ?_; rintro e w' ⟨v3, rfl, ho3, hb3⟩; have HO3 := Lib.hid ho3; have HB3 := Lib.hid hb3; clear ho3 hb3)
    go_ret
    exact ⟨_, rfl, HO3.out.mono (by simp), ((Below.refl _ w).alloc (Nat.le_refl _) _).trans (HB3.out.mono (by simp))⟩
  · have HC := Lib.hid hcell
    have HG := Lib.hid g
    clear hcell h g
    go_enter Try.func23, Try.ntmps23
    go_wp2
    go_loopw [7, 8] (fun q i wr => ∃ k : Nat, k ≤ xs.length ∧ i = .int .i64 k ∧ Hid (Ow wr w.heap.size q ((xs.take k).filter fun y => decide (y ∈ ys) == t)) ∧ Hid (Below w.heap.size w wr)) (fun _ i _ => xs.length - (intOf i).toNat)
    case atStart => exact ⟨0, Nat.zero_le _, rfl, Lib.hid (by simpa using Ow.empty w w.heap.size (Nat.le_refl _)), Lib.hid ((Below.refl _ _).alloc (Nat.le_refl _) _)⟩
    case round =>
      obtain ⟨k, hk, rfl, HO, HB⟩ := hrel
      by_cases hlt : k < xs.length
      · have hck := (HB.out.cell (p := ⟨b, off + k, none⟩) hb).trans (HC.out k hlt)
        obtain ⟨y, hy⟩ : ∃ y, y = xs.getD k 0 := ⟨_, rfl⟩
        rw [← hy] at hck
        have HN : Hid ((xs.take (k + 1)).filter (fun y => decide (y ∈ ys) == t) = (xs.take k).filter (fun y => decide (y ∈ ys) == t) ++ (if (decide (y ∈ ys) == t) then [y] else [])) := Lib.hid (by rw [pick_next _ hlt, ← hy])
        clear hy
        obtain ⟨L, hL⟩ : ∃ L, L = (xs.take k).filter (fun y => decide (y ∈ ys) == t) := ⟨_, rfl⟩
        have hLl : L.length ≤ 1000000 := by
          have := List.length_filter_le (fun y => decide (y ∈ ys) == t) (xs.take k)
          rw [← hL] at this
          simp at this
          omega
        rw [← hL] at HO HN
        clear hL
        have hwr : w.heap.size ≤ wr.heap.size := HB.out.size
        have HG' := Lib.hid (HG.out.below HB.out (Nat.le_refl _))
        have HH : Hid (∀ s, decide (y ∈ ys) = s → Calls Try.prog 16 #[u, .int .i64 y] wr fun e w' => e = .returned (.bool s) ∧ wr = w') :=
          Lib.hid fun s hs => (refHas_any wr u ys y HG'.out).mono fun e w' ⟨he, hw⟩ => ⟨hs ▸ he, hw⟩
        obtain ⟨s, hs⟩ : ∃ s, decide (y ∈ ys) = s := ⟨_, rfl⟩
        rw [hs] at HN
        have HS := Lib.hid hs
        clear hs
        cases s <;> cases t
        all_goals
          go_wp2_with (first
            | (go_at_call 16; refine (HH.out _ HS.out).mono ?_; rintro e w' ⟨rfl, rfl⟩)
            | (at_builtin; refine wpList_append_sl rfl (.tmp 24) (.tmp 29) rfl w.heap.size _ L rfl (HO.out.alloc _) (.slice (some ⟨_, 0, none⟩) 1 1) [y] rfl (Sl.one wr y) (by simp; omega) (by simp; omega) ?_; intro v1 W1 ho1 hg1 hb1 _; have HO1 := Lib.hid ho1; have HB1 := Lib.hid ((HB.out.alloc hwr _).trans hb1); clear ho1 hg1 hb1))
          go_roundw
          case rel => exact ⟨k + 1, by omega, by go_num, Lib.hid (by rw [HN.out]; first | exact HO1.out | simpa using HO.out), by first | exact HB1 | exact HB⟩
          case measure => simp [intOf]; omega
      · have hkl : k = xs.length := by omega
        have ho := HO.out
        rw [hkl, List.take_length] at ho
        have HO' := Lib.hid ho
        clear ho
        have HL := Lib.hid hkl
        clear hkl
        have hfl : (xs.filter fun y => decide (y ∈ ys) == t).length ≤ 1000000 := Nat.le_trans (List.length_filter_le _ _) hlen
        obtain ⟨L, hL⟩ : ∃ L, L = xs.filter (fun y => decide (y ∈ ys) == t) := ⟨_, rfl⟩
        rw [← hL] at HO' hfl
        have HL2 := Lib.hid hL
        clear hL HO
        go_wp2_with (go_at_call 14; refine (refOf_any _ _ L HO'.out.sl hfl).mono ?_; rintro e w' ⟨v3, rfl, ho3, hb3⟩; have HO3 := Lib.hid ho3; have HB3 := Lib.hid hb3; clear ho3 hb3)
        go_ret
        exact ⟨_, rfl, by rw [← HL2.out]; exact HO3.out.mono HB.out.size, HB.out.trans (HB3.out.mono HB.out.size)⟩

end Go.Proofs.Ytfhddgejedhfpaa
