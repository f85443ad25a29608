/- The document's answers for sets of numbers, over XBase: whether one is there, its place, the set, whether two are the same. -/
import Derived.Test.YtgcnjkabpcbkgaaS3
import Derived.Test.YtgcnjkabpcbkgaaMath3
import Derived.Deep.RegionLaw
import Derived.Deep.QuietTactic
import Derived.BigQuiet
namespace Go.Proofs.Ytgcnjkabpcbkgaa
open Go.RowKit

theorem take_succ_mem {xs : List Int} {k : Nat} (hk : k < xs.length) (x : Int) : x ∈ xs.take (k + 1) ↔ x ∈ xs.take k ∨ x = xs.getD k 0 := by
  rw [List.take_succ_eq_append_getElem hk, List.mem_append]
  simp [hk]

theorem getD_mem {xs : List Int} {k : Nat} (hk : k < xs.length) : xs.getD k 0 ∈ xs := by
  rw [List.getD_eq_getElem?_getD, List.getElem?_eq_getElem hk]
  exact List.getElem_mem hk

set_option maxHeartbeats 400000 in
theorem refHas_any (w : World) (v : Value) (xs : List Int) (x : Int) (h : Sl w v xs) :
    Calls Try.prog 22 #[v, .int .i64 x] w fun e w' => e = .returned (.bool (decide (x ∈ xs))) ∧ w = w' := by
  rcases h.ints with ⟨rfl, ao, c, rfl⟩ | ⟨b, off, c, rfl, hc, hc63, hb, hpos, hcell⟩
  · go_enter Try.func22, Try.ntmps22
    go_wp2
    refine wp_loop_rounds 1 ?_
    rw [rounds_succ]
    go_wp2
    go_ret
    exact ⟨by simp, rfl⟩
  · have hlen : xs.length ≤ 9223372036854775807 := by omega
    have HC := Lib.hid hcell
    clear hcell h
    go_enter Try.func22, Try.ntmps22
    go_wp2
    go_loop [5] (fun i => ∃ k : Nat, k ≤ xs.length ∧ i = .int .i64 k ∧ Hid (x ∉ xs.take k)) (fun i => xs.length - (intOf i).toNat)
    case atStart => exact ⟨0, Nat.zero_le _, rfl, Lib.hid (by simp)⟩
    case round =>
      obtain ⟨k, hk, rfl, hnot⟩ := hrel
      by_cases hlt : k < xs.length
      · have hck := HC.out k hlt
        obtain ⟨y, hy⟩ : ∃ y, y = xs.getD k 0 := ⟨_, rfl⟩
        rw [← hy] at hck
        have HY := Lib.hid hy
        clear hy
        by_cases heq : y = x
        · have hd : (y == x) = true := by simpa using heq
          have HE := Lib.hid heq
          clear heq
          go_wp2
          go_ret
          exact ⟨ret_bool (decide_eq_true (by rw [← HE.out, HY.out]; exact getD_mem hlt)).symm, rfl⟩
        · have hd : (y == x) = false := by simpa using heq
          have HE := Lib.hid heq
          clear heq
          go_wp2
          go_round
          case rel => exact ⟨k + 1, by omega, by go_num, Lib.hid (by rw [take_succ_mem hlt, ← HY.out]; intro hh; rcases hh with hh | hh; exact hnot.out hh; exact HE.out hh.symm)⟩
          case measure => simp [intOf]; omega
      · go_wp2
        go_ret
        have hkl : k = xs.length := by omega
        have hn := hnot.out
        rw [hkl, List.take_length] at hn
        exact ⟨ret_bool (decide_eq_false hn).symm, rfl⟩


theorem lessOnce_yes {xs : List Int} {x : Int} {k : Nat} (h1 : xs.getD k 0 < x) (h2 : xs.getD k 0 ∉ xs.take k) : lessOnce xs x (k + 1) = lessOnce xs x k + 1 := by
  simp only [lessOnce]; rw [if_pos ⟨h1, h2⟩]
theorem lessOnce_no {xs : List Int} {x : Int} {k : Nat} (h : ¬ (xs.getD k 0 < x ∧ xs.getD k 0 ∉ xs.take k)) : lessOnce xs x (k + 1) = lessOnce xs x k := by
  simp only [lessOnce]; rw [if_neg h]; rfl

set_option maxHeartbeats 400000 in
theorem refPlace_any (w : World) (v : Value) (xs : List Int) (x : Int) (h : Sl w v xs) :
    Calls Try.prog 61 #[v, .int .i64 x] w fun e w' => e = .returned (.int .i64 (placeOf xs x)) ∧ Drew w w' := by
  have HSL0 := Lib.hid h
  rcases h.ints with ⟨rfl, ao, c, rfl⟩ | ⟨b, off, c, rfl, hc, hc63, hb, hpos, hcell⟩
  · go_enter Try.func61, Try.ntmps61
    go_wp2
    refine wp_loop_rounds 1 ?_
    rw [rounds_succ]
    go_wp2
    go_ret
    exact ⟨ret_int (by simp [placeOf, norm_nil]), Drew.refl _⟩
  · have hlen : xs.length ≤ 9223372036854775807 := by omega
    have HC := Lib.hid hcell
    have HSL := HSL0
    clear hcell h
    go_enter Try.func61, Try.ntmps61
    go_wp2
    go_loopw [5, 6] (fun n i wr => ∃ k m : Nat, k ≤ xs.length ∧ m ≤ k ∧ i = .int .i64 k ∧ n = .int .i64 m ∧ Hid (m = lessOnce xs x k) ∧ Hid (Drew w wr)) (fun _ i _ => xs.length - (intOf i).toNat)
    case atStart => exact ⟨0, 0, Nat.zero_le _, Nat.le_refl _, rfl, rfl, Lib.hid rfl, Lib.hid (Drew.refl _)⟩
    case round =>
      obtain ⟨k, m, hk, hmk, rfl, rfl, HM, HD⟩ := hrel
      by_cases hlt : k < xs.length
      · have hck := (HD.out.cell ⟨b, off + k, none⟩).trans (HC.out k hlt)
        obtain ⟨y, hy⟩ : ∃ y, y = xs.getD k 0 := ⟨_, rfl⟩
        rw [← hy] at hck
        have HY := Lib.hid hy
        clear hy
        have hsl : Sl w (.slice (some ⟨b, off, none⟩) k c) (xs.take k) := by simpa using HSL.out.cut 0 k (by omega) (by omega)
        have hsl' : Sl wr (.slice (some ⟨b, off, none⟩) k c) (xs.take k) := hsl.ext (Ext.of_drew HD.out)
        have HH : Hid (∀ q t, decide (y ∈ xs.take k) = t → Calls Try.prog 22 #[.slice (some ⟨b, off, none⟩) k c, .int .i64 y] (wr.drewN q) fun e w' => e = .returned (.bool t) ∧ ∃ m, w' = wr.drewN m) :=
          Lib.hid fun q t ht => (refHas_any (wr.drewN q) _ _ y hsl').mono fun e w' ⟨he, hw⟩ => ⟨ht ▸ he, q, hw.symm⟩
        clear hsl hsl'
        by_cases h1 : y < x
        · by_cases h2 : y ∈ xs.take k
          · have HT : Hid (decide (y ∈ xs.take k) = true) := Lib.hid (decide_eq_true h2)
            have H2 := Lib.hid h2
            clear h2
            go_wp2
            go_quiet ((go_at_call 22; exact HH.out _ true HT.out))
            go_wp2
            go_roundw
            case rel => exact ⟨k + 1, m, by omega, by omega, by go_num, rfl, Lib.hid (by rw [lessOnce_no (fun hh => hh.2 (HY.out ▸ H2.out))]; exact HM.out), Lib.hid (HD.out.more _)⟩
            case measure => simp [intOf]; omega
          · have HT : Hid (decide (y ∈ xs.take k) = false) := Lib.hid (decide_eq_false h2)
            have H2 := Lib.hid h2
            clear h2
            go_wp2
            go_quiet ((go_at_call 22; exact HH.out _ false HT.out))
            go_wp2
            go_roundw
            case rel => exact ⟨k + 1, m + 1, by omega, by omega, by go_num, by go_num, Lib.hid (by rw [lessOnce_yes (HY.out ▸ h1) (HY.out ▸ H2.out)]; rw [← HM.out]), Lib.hid (HD.out.more _)⟩
            case measure => simp [intOf]; omega
        · have hd : decide (y < x) = false := decide_eq_false h1
          go_wp2
          go_quiet (fail)
          go_wp2
          go_roundw
          case rel => exact ⟨k + 1, m, by omega, by omega, by go_num, rfl, Lib.hid (by rw [lessOnce_no (fun hh => by have e := hh.1; rw [← HY.out] at e; omega)]; exact HM.out), Lib.hid (HD.out.more _)⟩
          case measure => simp [intOf]; omega
      · go_wp2
        go_ret
        have hkl : k = xs.length := by omega
        have hn := HM.out
        rw [hkl, lessOnce_all] at hn
        exact ⟨ret_int (by rw [hn]), HD.out⟩


theorem take_eq_succ {xs ys : List Int} {k : Nat} (h1 : k < xs.length) (h2 : k < ys.length) : xs.take (k + 1) = ys.take (k + 1) ↔ xs.take k = ys.take k ∧ xs.getD k 0 = ys.getD k 0 := by
  rw [List.take_succ_eq_append_getElem h1, List.take_succ_eq_append_getElem h2]
  have e1 : xs.getD k 0 = xs[k] := by simp [h1]
  have e2 : ys.getD k 0 = ys[k] := by simp [h2]
  rw [e1, e2]
  constructor
  · intro h
    have := List.append_inj h (by simp; omega)
    exact ⟨this.1, by simpa using this.2⟩
  · rintro ⟨ha, hb⟩
    rw [ha, hb]

set_option maxHeartbeats 400000 in
theorem refSame_any (w : World) (v u : Value) (xs ys : List Int) (h : Sl w v xs) (g : Sl w u ys) :
    Calls Try.prog 19 #[v, u] w fun e w' => e = .returned (.bool (decide (xs = ys))) ∧ Drew w w' := by
  by_cases hl : xs.length = ys.length
  · rcases h.ints with ⟨rfl, ao, c, rfl⟩ | ⟨b, off, c, rfl, hc, hc63, hb, hpos, hcell⟩
    · have : ys = [] := List.eq_nil_of_length_eq_zero hl.symm
      subst this
      obtain ⟨ao', c', rfl⟩ := g.len
      go_enter Try.func19, Try.ntmps19
      go_wp2
      refine wp_loop_rounds 1 ?_
      rw [rounds_succ]
      go_wp2
      go_ret
      exact ⟨by simp, Drew.refl _⟩
    · rcases g.ints with ⟨rfl, ao, c, rfl⟩ | ⟨b', off', c', rfl, hc', hc63', hb', hpos', hcell'⟩
      · exact absurd hl (by simp only [List.length_nil]; omega)
      · have hlen : xs.length ≤ 9223372036854775807 := by omega
        have hlen' : ys.length ≤ 9223372036854775807 := by omega
        have hne : ((xs.length : Int) != (ys.length : Int)) = false := by simp [hl]
        have HC := Lib.hid hcell
        have HC' := Lib.hid hcell'
        have HL := Lib.hid hl
        clear hcell h hcell' g hl
        go_enter Try.func19, Try.ntmps19
        go_wp2
        go_loopw [5] (fun i wr => ∃ k : Nat, k ≤ xs.length ∧ i = .int .i64 k ∧ Hid (xs.take k = ys.take k) ∧ Hid (Drew w wr)) (fun i _ => xs.length - (intOf i).toNat)
        case atStart => exact ⟨0, Nat.zero_le _, rfl, Lib.hid (by simp), Lib.hid (Drew.refl _)⟩
        case round =>
          obtain ⟨k, hk, rfl, HT, HD⟩ := hrel
          by_cases hlt : k < xs.length
          · have hlt' : k < ys.length := by have := HL.out; omega
            have hck := (HD.out.cell ⟨b, off + k, none⟩).trans (HC.out k hlt)
            have hck' := (HD.out.cell ⟨b', off' + k, none⟩).trans (HC'.out k hlt')
            obtain ⟨y, hy⟩ : ∃ y, y = xs.getD k 0 := ⟨_, rfl⟩
            obtain ⟨z, hz⟩ : ∃ z, z = ys.getD k 0 := ⟨_, rfl⟩
            rw [← hy] at hck
            rw [← hz] at hck'
            have HY := Lib.hid hy
            have HZ := Lib.hid hz
            clear hy hz
            by_cases h1 : y = z
            · have hd : (y != z) = false := by simp [h1]
              have H1 := Lib.hid h1
              clear h1
              go_wp2
              go_quiet (fail)
              go_wp2
              go_roundw
              case rel => exact ⟨k + 1, by omega, by go_num, Lib.hid ((take_eq_succ hlt hlt').2 ⟨HT.out, by rw [← HY.out, ← HZ.out]; exact H1.out⟩), Lib.hid (HD.out.more _)⟩
              case measure => simp [intOf]; omega
            · have hd : (y != z) = true := by simp [h1]
              have H1 := Lib.hid h1
              clear h1
              go_wp2
              go_quiet (fail)
              go_wp2
              go_ret
              exact ⟨ret_bool (decide_eq_false (fun e => H1.out (by rw [HY.out, HZ.out, e]))).symm, HD.out.more _⟩
          · go_wp2
            go_ret
            have hkl : k = xs.length := by omega
            have hn := HT.out
            rw [hkl, List.take_length, HL.out, List.take_length] at hn
            exact ⟨ret_bool (decide_eq_true hn).symm, HD.out⟩
  · obtain ⟨ao, c, rfl⟩ := h.len
    obtain ⟨ao', c', rfl⟩ := g.len
    have hlen := h.length_le
    have hlen' := g.length_le
    have hne : ((xs.length : Int) != (ys.length : Int)) = true := by simp; omega
    have HL := Lib.hid hl
    clear hl h g
    go_enter Try.func19, Try.ntmps19
    go_wp2
    go_ret
    exact ⟨ret_bool (decide_eq_false (fun e => HL.out (by rw [e]))).symm, Drew.refl _⟩

theorem refSame_val (t : Bool) (w : World) (v u : Value) (xs ys : List Int) (h : Sl w v xs) (g : Sl w u ys) (ht : decide (xs = ys) = t) :
    Calls Try.prog 19 #[v, u] w fun e w' => e = .returned (.bool t) ∧ Drew w w' :=
  (refSame_any w v u xs ys h g).mono fun _ _ ⟨he, hw⟩ => ⟨ht ▸ he, hw⟩

theorem norm_next_mem {xs : List Int} {k : Nat} {y : Int} {S : List Int} (hlt : k < xs.length) (hy : y = xs.getD k 0) (hS : S = norm (xs.take k)) (h : y ∈ S) : norm (xs.take (k + 1)) = S := by
  have e : xs.getD k 0 = xs[k] := by simp [hlt]
  rw [hS, mem_norm, hy, e] at h
  rw [List.take_succ_eq_append_getElem hlt, norm_snoc_mem h, hS]

theorem norm_next_new {xs : List Int} {k : Nat} {y : Int} {S : List Int} {p : Nat} (hlt : k < xs.length) (hy : y = xs.getD k 0) (hS : S = norm (xs.take k)) (h : ¬ y ∈ S) (hp : p = placeOf S y) :
    norm (xs.take (k + 1)) = [] ++ S.take p ++ [y] ++ S.drop p := by
  have e : xs.getD k 0 = xs[k] := by simp [hlt]
  rw [hS, mem_norm, hy, e] at h
  rw [List.take_succ_eq_append_getElem hlt, ← putIn_norm h, ← hS, ← e, ← hy, hp, List.nil_append]
  rfl

set_option maxHeartbeats 1000000 in
theorem refOf_any (w : World) (v : Value) (xs : List Int) (h : Sl w v xs) (hlen : xs.length ≤ 1000000) :
    Calls Try.prog 50 #[v] w (GivesOw w (norm xs)) := by
  rcases h.ints with ⟨rfl, ao, c, rfl⟩ | ⟨b, off, c, rfl, hc, hc63, hb, hpos, hcell⟩
  · go_enter Try.func50, Try.ntmps50
    go_wp2
    refine wp_loop_rounds 1 ?_
    rw [rounds_succ]
    go_wp2
    go_ret
    exact ⟨_, rfl, by rw [norm_nil]; exact Ow.lit w _ (Nat.le_refl _) [] (by simp), (Below.refl _ _).alloc (Nat.le_refl _) _⟩
  · have HC := Lib.hid hcell
    clear hcell h
    go_enter Try.func50, Try.ntmps50
    go_wp2
    go_loopw [3, 4] (fun u i wr => ∃ k : Nat, k ≤ xs.length ∧ i = .int .i64 k ∧ Hid (Ow wr w.heap.size u (norm (xs.take k))) ∧ Hid (u ≠ .slice none 0 0) ∧ Hid (Below w.heap.size w wr)) (fun _ i _ => xs.length - (intOf i).toNat)
    case atStart => exact ⟨0, Nat.zero_le _, rfl, Lib.hid (by rw [List.take_zero, norm_nil]; exact Ow.lit w _ (Nat.le_refl _) [] (by simp)), Lib.hid (by simp), Lib.hid ((Below.refl _ _).alloc (Nat.le_refl _) _)⟩
    case round =>
      obtain ⟨k, hk, rfl, HO, HN, HB⟩ := hrel
      by_cases hlt : k < xs.length
      · have hck := (HB.out.cell (p := ⟨b, off + k, none⟩) hb).trans (HC.out k hlt)
        obtain ⟨y, hy⟩ : ∃ y, y = xs.getD k 0 := ⟨_, rfl⟩
        rw [← hy] at hck
        have HY := Lib.hid hy
        clear hy
        have hck0 := hck
        obtain ⟨S, hS⟩ : ∃ S, S = norm (xs.take k) := ⟨_, rfl⟩
        rw [← hS] at HO
        have HS := Lib.hid hS
        have hSl : S.length ≤ 1000000 := by
          have := norm_length (xs.take k)
          rw [← hS] at this
          simp at this
          omega
        clear hS
        obtain ⟨g, cap, rfl, hg, hgl, hncap, hcap⟩ := HO.out.shape HN.out
        have HH : Hid (∀ t, decide (y ∈ S) = t → Calls Try.prog 22 #[.slice (some ⟨g, 0, none⟩) S.length cap, .int .i64 y] wr fun e w' => e = .returned (.bool t) ∧ wr = w') :=
          Lib.hid fun t ht => (refHas_any wr _ S y HO.out.sl).mono fun e w' ⟨he, hw⟩ => ⟨ht ▸ he, hw⟩
        by_cases h2 : y ∈ S
        · have HT : Hid (decide (y ∈ S) = true) := Lib.hid (decide_eq_true h2)
          have H2 := Lib.hid h2
          clear h2
          go_wp2_with (go_at_call 22; refine (HH.out true HT.out).mono ?_; rintro e w' ⟨rfl, rfl⟩)
          go_roundw
          case rel => exact ⟨k + 1, by omega, by go_num, Lib.hid (by rw [norm_next_mem hlt HY.out HS.out H2.out]; exact HO.out), HN, HB⟩
          case measure => simp [intOf]; omega
        · have HT : Hid (decide (y ∈ S) = false) := Lib.hid (decide_eq_false h2)
          have H2 := Lib.hid h2
          clear h2
          obtain ⟨p, hp⟩ : ∃ p : Nat, p = placeOf S y := ⟨_, rfl⟩
          have hpl : p ≤ S.length := by rw [hp]; exact placeOf_le _ _
          have hpc : p ≤ cap := by omega
          have HPl : Hid (∀ W, Sl W (.slice (some ⟨g, 0, none⟩) S.length cap) S → Calls Try.prog 61 #[.slice (some ⟨g, 0, none⟩) S.length cap, .int .i64 y] W fun e w' => e = .returned (.int .i64 p) ∧ Hid (Drew W w')) :=
            Lib.hid fun W hW => (refPlace_any W _ S y hW).mono fun e w' ⟨he, hw⟩ => ⟨hp ▸ he, hw⟩
          have HP := Lib.hid hp
          clear hp
          have HX1 : Hid (∀ W, Below wr.heap.size wr W → Sl W (.slice (some ⟨g, 0, none⟩) p cap) (S.take p)) :=
            Lib.hid fun W hW => (by simpa using HO.out.sl.cut 0 p (by omega) (by omega) : Sl wr (.slice (some ⟨g, 0, none⟩) p cap) (S.take p)).below hW (Nat.le_refl _)
          have HX2 : Hid (∀ W, Below wr.heap.size wr W → Sl W (.slice (if cap = p then some ⟨g, 0, none⟩ else some ⟨g, p, none⟩) (S.length - p) (cap - p)) (S.drop p)) :=
            Lib.hid fun W hW => (by have := HO.out.sl.tail p (by omega); rwa [show 0 + p * Elem.k Int = p from by show 0 + p * 1 = _; omega] at this : Sl wr (.slice (if cap = p then some ⟨g, 0, none⟩ else some ⟨g, p, none⟩) (S.length - p) (cap - p)) (S.drop p)).below hW (Nat.le_refl _)
          have HCK : Hid (∀ W, Below wr.heap.size wr W → W.cell? ⟨b, off + k, none⟩ = some (.int .i64 y)) :=
            Lib.hid fun W hW => (hW.cell (p := ⟨b, off + k, none⟩) (by show b < wr.heap.size; have := HB.out.size; omega)).trans hck0
          clear hck0
          go_wp2_with (first | (go_at_call 22; refine (HH.out false HT.out).mono ?_; rintro e w' ⟨rfl, rfl⟩) | (go_at_call 61; refine (HPl.out _ HO.out.sl).mono ?_; rintro e w1 ⟨rfl, HD⟩; have hck1 := (HD.out.cell ⟨b, off + k, none⟩).trans hck; clear hck; have hw1 : wr.heap.size ≤ w1.heap.size := Nat.le_of_eq HD.out.size.symm; have HW1 : Hid (Below wr.heap.size wr w1) := Lib.hid (HD.out.below _); have hck1a := HCK.out (w1.alloc (.cells #[] 3)) (HW1.out.alloc hw1 _)))
          go_region_law (first
            | (refine step_append_sl (α := Int) rfl (.tmp 25) (.tmp 28) rfl wr.heap.size (.slice (some ⟨_, 0, none⟩) 0 0) [] rfl ?_ _ (S.take p) rfl (HX1.out _ ?_) (by simp; omega) (by simp; omega) ?_; rotate_right; (intro v1 W1 ho1 ha1; have hg1 := ha1.grown; have hb1 := ha1.below; have hn1 := ha1.kept; clear ha1; have HN1 := Lib.hid (hn1 (by simp)); clear hn1; have HO1 := Lib.hid ho1; have HG1 := Lib.hid hg1; have hw2 : wr.heap.size ≤ W1.heap.size := (by have := hb1.size; (try simp at this); omega); have HW2 : Hid (Below wr.heap.size wr W1) := Lib.hid (Below.trans (by first | exact ((HW1.out.alloc hw1 _).drew) | exact (((HW1.out.alloc hw1 _).alloc (by simp; omega) _).drew)) hb1); have hck2 := HCK.out W1 HW2.out; clear ho1 hg1 hb1); rotate_left; (first | exact (Ow.litAt _ _ _ (by simp) hw1 [] (by simp)).drew | exact ((Ow.litAt _ _ _ (by simp) hw1 [] (by simp)).alloc _).drew | exact (Ow.litAt _ _ _ (by simp) (by simp; omega) [] (by simp)).drew); (first | exact ((HW1.out.alloc hw1 _).drew) | exact (((HW1.out.alloc hw1 _).alloc (by simp; omega) _).drew)))
            | (refine step_append_sl (α := Int) rfl (.tmp 29) (.tmp 34) rfl wr.heap.size _ _ rfl (by first | exact HO1.out | exact HO1.out.alloc _) (.slice (some ⟨_, 0, none⟩) 1 1) [y] rfl ?_ (by simp; omega) (by first | exact hw2 | (simp; omega)) ?_; rotate_right; (intro v2 W2 ho2 ha2; have hg2 := ha2.grown; have hb2 := ha2.below; have hn2 := ha2.kept; clear ha2; have HN2 := Lib.hid (hn2 HN1.out); clear hn2; have HO2 := Lib.hid ho2; have hw3 : wr.heap.size ≤ W2.heap.size := (by have := hb2.size; (try simp at this); omega); have HW3 : Hid (Below wr.heap.size wr W2) := Lib.hid (Below.trans (by first | exact HW2.out | exact HW2.out.alloc hw2 _) hb2); clear ho2 hg2 hb2); rotate_left; (first | exact Sl.litAt _ _ (by simp) [y] (by simp) | (refine Sl.grown ?_ HG1.out (.inl (by simp [Value.ownBlock])); first | exact (Sl.litAt _ _ (by simp) [y] (by simp)).drew | exact ((Sl.litAt _ _ (by simp) [y] (by simp)).alloc _).drew)))
            | (refine step_append_sl (α := Int) rfl (.tmp 35) (.tmp 38) rfl wr.heap.size _ _ rfl HO2.out _ (S.drop p) rfl (HX2.out _ HW3.out) (by simp; omega) hw3 ?_; (intro v3 W3 ho3 ha3; have hg3 := ha3.grown; have hb3 := ha3.below; have hn3 := ha3.kept; clear ha3; have HN3 := Lib.hid (hn3 HN2.out); clear hn3; have HO3 := Lib.hid ho3; have HW4 : Hid (Below wr.heap.size wr W3) := Lib.hid (Below.trans HW3.out hb3); clear ho3 hg3 hb3)))
          all_goals
            go_wp2
            go_roundw
            case rel => exact ⟨k + 1, by omega, by go_num, Lib.hid (by rw [norm_next_new hlt HY.out HS.out H2.out HP.out]; exact HO3.out.mono HB.out.size), HN3, Lib.hid (HB.out.trans (HW4.out.mono HB.out.size))⟩
            case measure => simp [intOf]; omega
      · go_wp2
        go_ret
        have hkl : k = xs.length := by omega
        have ho := HO.out
        rw [hkl, List.take_length] at ho
        exact ⟨_, rfl, ho, HB.out⟩



theorem refHas_val (w : World) (v : Value) (xs : List Int) (x : Int) (h : Sl w v xs) (r : Bool) (hr : decide (x ∈ xs) = r) : Calls Try.prog 22 #[v, .int .i64 x] w fun e w' => e = .returned (.bool r) ∧ w = w' :=
  (refHas_any w v xs x h).mono fun _ _ ⟨he, hw⟩ => ⟨hr ▸ he, hw⟩

end Go.Proofs.Ytgcnjkabpcbkgaa
