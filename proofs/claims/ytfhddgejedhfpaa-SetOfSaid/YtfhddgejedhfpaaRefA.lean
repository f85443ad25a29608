/- The document's answers for sets: what each of them returns. -/
import Derived.Test.YtfhddgejedhfpaaInts
namespace Go.Proofs.Ytfhddgejedhfpaa
open Go.RowKit

theorem take_succ_mem {xs : List Int} {k : Nat} (hk : k < xs.length) (x : Int) : x ∈ xs.take (k + 1) ↔ x ∈ xs.take k ∨ x = xs.getD k 0 := by
  rw [List.take_succ_eq_append_getElem hk, List.mem_append]
  simp [hk]

theorem ret_bool {a b : Bool} (h : a = b) : Ending.returned (.bool a) = .returned (.bool b) := by rw [h]
theorem ret_int {k : IntKind} {a b : Int} (h : a = b) : Ending.returned (.int k a) = .returned (.int k b) := by rw [h]

theorem getD_mem {xs : List Int} {k : Nat} (hk : k < xs.length) : xs.getD k 0 ∈ xs := by
  rw [List.getD_eq_getElem?_getD, List.getElem?_eq_getElem hk]
  exact List.getElem_mem hk

set_option maxHeartbeats 400000 in
theorem refHas_any (w : World) (v : Value) (xs : List Int) (x : Int) (h : Sl w v xs) :
    Calls Try.prog 16 #[v, .int .i64 x] w fun e w' => e = .returned (.bool (decide (x ∈ xs))) ∧ w = w' := by
  rcases h.parts with ⟨rfl, ao, c, rfl⟩ | ⟨b, off, c, rfl, hc, hc63, hb, hpos, hcell⟩
  · go_enter Try.func16, Try.ntmps16
    go_wp2
    refine wp_loop_rounds 1 ?_
    rw [rounds_succ]
    go_wp2
    go_ret
    exact ⟨by simp, rfl⟩
  · have hlen : xs.length ≤ 9223372036854775807 := by omega
    have HC := Lib.hid hcell
    clear hcell h
    go_enter Try.func16, Try.ntmps16
    go_wp2
    go_loop [5] (fun i => ∃ k : Nat, k ≤ xs.length ∧ i = .int .i64 k ∧ Hid (x ∉ xs.take k)) (fun i => xs.length - (intOf i).toNat)
    case atStart => exact ⟨0, Nat.zero_le _, rfl, Lib.hid (by simp)⟩
    case round =>
      obtain ⟨k, hk, rfl, hnot⟩ := hrel
      by_cases hlt : k < xs.length
      · have hck := HC.out k hlt
        obtain ⟨y, hy⟩ : ∃ y, y = xs.getD k 0 := ⟨_, rfl⟩
        rw [← hy] at hck
        have HY := Lib.hid hy
        clear hy
        by_cases heq : y = x
        · have hd : (y == x) = true := by simpa using heq
          have HE := Lib.hid heq
          clear heq
          go_wp2
          go_ret
          exact ⟨ret_bool (decide_eq_true (by rw [← HE.out, HY.out]; exact getD_mem hlt)).symm, rfl⟩
        · have hd : (y == x) = false := by simpa using heq
          have HE := Lib.hid heq
          clear heq
          go_wp2
          go_round
          case rel => exact ⟨k + 1, by omega, by go_num, Lib.hid (by rw [take_succ_mem hlt, ← HY.out]; intro hh; rcases hh with hh | hh; exact hnot.out hh; exact HE.out hh.symm)⟩
          case measure => simp [intOf]; omega
      · go_wp2
        go_ret
        have hkl : k = xs.length := by omega
        have hn := hnot.out
        rw [hkl, List.take_length] at hn
        exact ⟨ret_bool (decide_eq_false hn).symm, rfl⟩


theorem lessOnce_yes {xs : List Int} {x : Int} {k : Nat} (h1 : xs.getD k 0 < x) (h2 : xs.getD k 0 ∉ xs.take k) : lessOnce xs x (k + 1) = lessOnce xs x k + 1 := by
  simp only [lessOnce]; rw [if_pos ⟨h1, h2⟩]
theorem lessOnce_no {xs : List Int} {x : Int} {k : Nat} (h : ¬ (xs.getD k 0 < x ∧ xs.getD k 0 ∉ xs.take k)) : lessOnce xs x (k + 1) = lessOnce xs x k := by
  simp only [lessOnce]; rw [if_neg h]; rfl

/-- The same world but for draws. -/
def Drew (w w' : World) : Prop := ∃ q, w' = w.drewN q
theorem Drew.refl (w : World) : Drew w w := ⟨0, rfl⟩
theorem Drew.more {w w' : World} (h : Drew w w') (q : Nat) : Drew w (w'.drewN q) := by
  obtain ⟨m, rfl⟩ := h
  exact ⟨m + q, by rw [World.drewN_drewN]⟩
theorem Drew.cell {w w' : World} (h : Drew w w') (a : Addr) : w'.cell? a = w.cell? a := by
  obtain ⟨m, rfl⟩ := h
  rfl
theorem Drew.size {w w' : World} (h : Drew w w') : w'.heap.size = w.heap.size := by
  obtain ⟨m, rfl⟩ := h
  rfl
theorem Drew.sl {w w' : World} (h : Drew w w') {v : Value} {xs : List Int} (hs : Sl w v xs) : Sl w' v xs := by
  obtain ⟨m, rfl⟩ := h
  exact hs
theorem Drew.below {w w' : World} (h : Drew w w') (B : Nat) : Below B w w' := by
  obtain ⟨m, rfl⟩ := h
  exact below_drewN (Below.refl _ _) m

set_option maxHeartbeats 400000 in
theorem refPlace_any (w : World) (v : Value) (xs : List Int) (x : Int) (h : Sl w v xs) :
    Calls Try.prog 18 #[v, .int .i64 x] w fun e w' => e = .returned (.int .i64 (placeOf xs x)) ∧ Drew w w' := by
  rcases h.parts with ⟨rfl, ao, c, rfl⟩ | ⟨b, off, c, rfl, hc, hc63, hb, hpos, hcell⟩
  · go_enter Try.func18, Try.ntmps18
    go_wp2
    refine wp_loop_rounds 1 ?_
    rw [rounds_succ]
    go_wp2
    go_ret
    exact ⟨ret_int (by simp [placeOf, norm_nil]), Drew.refl _⟩
  · have hlen : xs.length ≤ 9223372036854775807 := by omega
    have HC := Lib.hid hcell
    clear hcell h
    go_enter Try.func18, Try.ntmps18
    go_wp2
    go_loopw [5, 6] (fun n i wr => ∃ k m : Nat, k ≤ xs.length ∧ m ≤ k ∧ i = .int .i64 k ∧ n = .int .i64 m ∧ Hid (m = lessOnce xs x k) ∧ Hid (Drew w wr)) (fun _ i _ => xs.length - (intOf i).toNat)
    case atStart => exact ⟨0, 0, Nat.zero_le _, Nat.le_refl _, rfl, rfl, Lib.hid rfl, Lib.hid (Drew.refl _)⟩
    case round =>
      obtain ⟨k, m, hk, hmk, rfl, rfl, HM, HD⟩ := hrel
      by_cases hlt : k < xs.length
      · have hck := (HD.out.cell ⟨b, off + k, none⟩).trans (HC.out k hlt)
        obtain ⟨y, hy⟩ : ∃ y, y = xs.getD k 0 := ⟨_, rfl⟩
        rw [← hy] at hck
        have HY := Lib.hid hy
        clear hy
        have hsl : Sl w (.slice (some ⟨b, off, none⟩) k c) (xs.take k) := by simpa using Sl.cut hb HC.out 0 k (by omega) (by omega) hc63
        have hsl' := HD.out.sl hsl
        have HH : Hid (∀ q t, decide (y ∈ xs.take k) = t → Calls Try.prog 16 #[.slice (some ⟨b, off, none⟩) k c, .int .i64 y] (wr.drewN q) fun e w' => e = .returned (.bool t) ∧ ∃ m, w' = wr.drewN m) :=
          Lib.hid fun q t ht => (refHas_any (wr.drewN q) _ _ y hsl').mono fun e w' ⟨he, hw⟩ => ⟨ht ▸ he, q, hw.symm⟩
        clear hsl hsl'
        by_cases h1 : y < x
        · by_cases h2 : y ∈ xs.take k
          · have HT : Hid (decide (y ∈ xs.take k) = true) := Lib.hid (decide_eq_true h2)
            have H2 := Lib.hid h2
            clear h2
            go_wp2
            go_quiet ((go_at_call 16; exact HH.out _ true HT.out))
            go_wp2
            go_roundw
            case rel => exact ⟨k + 1, m, by omega, by omega, by go_num, rfl, Lib.hid (by rw [lessOnce_no (fun hh => hh.2 (HY.out ▸ H2.out))]; exact HM.out), Lib.hid (HD.out.more _)⟩
            case measure => simp [intOf]; omega
          · have HT : Hid (decide (y ∈ xs.take k) = false) := Lib.hid (decide_eq_false h2)
            have H2 := Lib.hid h2
            clear h2
            go_wp2
            go_quiet ((go_at_call 16; exact HH.out _ false HT.out))
            go_wp2
            go_roundw
            case rel => exact ⟨k + 1, m + 1, by omega, by omega, by go_num, by go_num, Lib.hid (by rw [lessOnce_yes (HY.out ▸ h1) (HY.out ▸ H2.out)]; rw [← HM.out]), Lib.hid (HD.out.more _)⟩
            case measure => simp [intOf]; omega
        · have hd : decide (y < x) = false := decide_eq_false h1
          go_wp2
          go_quiet (fail)
          go_wp2
          go_roundw
          case rel => exact ⟨k + 1, m, by omega, by omega, by go_num, rfl, Lib.hid (by rw [lessOnce_no (fun hh => by have e := hh.1; rw [← HY.out] at e; omega)]; exact HM.out), Lib.hid (HD.out.more _)⟩
          case measure => simp [intOf]; omega
      · go_wp2
        go_ret
        have hkl : k = xs.length := by omega
        have hn := HM.out
        rw [hkl, lessOnce_all] at hn
        exact ⟨ret_int (by rw [hn]), HD.out⟩


theorem take_eq_succ {xs ys : List Int} {k : Nat} (h1 : k < xs.length) (h2 : k < ys.length) : xs.take (k + 1) = ys.take (k + 1) ↔ xs.take k = ys.take k ∧ xs.getD k 0 = ys.getD k 0 := by
  rw [List.take_succ_eq_append_getElem h1, List.take_succ_eq_append_getElem h2]
  have e1 : xs.getD k 0 = xs[k] := by simp [h1]
  have e2 : ys.getD k 0 = ys[k] := by simp [h2]
  rw [e1, e2]
  constructor
  · intro h
    have := List.append_inj h (by simp; omega)
    exact ⟨this.1, by simpa using this.2⟩
  · rintro ⟨ha, hb⟩
    rw [ha, hb]

set_option maxHeartbeats 400000 in
theorem refSame_any (w : World) (v u : Value) (xs ys : List Int) (h : Sl w v xs) (g : Sl w u ys) :
    Calls Try.prog 11 #[v, u] w fun e w' => e = .returned (.bool (decide (xs = ys))) ∧ Drew w w' := by
  by_cases hl : xs.length = ys.length
  · rcases h.parts with ⟨rfl, ao, c, rfl⟩ | ⟨b, off, c, rfl, hc, hc63, hb, hpos, hcell⟩
    · have : ys = [] := List.eq_nil_of_length_eq_zero hl.symm
      subst this
      obtain ⟨ao', c', rfl⟩ := g.len
      go_enter Try.func11, Try.ntmps11
      go_wp2
      refine wp_loop_rounds 1 ?_
      rw [rounds_succ]
      go_wp2
      go_ret
      exact ⟨by simp, Drew.refl _⟩
    · rcases g.parts with ⟨rfl, ao, c, rfl⟩ | ⟨b', off', c', rfl, hc', hc63', hb', hpos', hcell'⟩
      · exact absurd hl (by simp only [List.length_nil]; omega)
      · have hlen : xs.length ≤ 9223372036854775807 := by omega
        have hlen' : ys.length ≤ 9223372036854775807 := by omega
        have hne : ((xs.length : Int) != (ys.length : Int)) = false := by simp [hl]
        have HC := Lib.hid hcell
        have HC' := Lib.hid hcell'
        have HL := Lib.hid hl
        clear hcell h hcell' g hl
        go_enter Try.func11, Try.ntmps11
        go_wp2
        go_loopw [5] (fun i wr => ∃ k : Nat, k ≤ xs.length ∧ i = .int .i64 k ∧ Hid (xs.take k = ys.take k) ∧ Hid (Drew w wr)) (fun i _ => xs.length - (intOf i).toNat)
        case atStart => exact ⟨0, Nat.zero_le _, rfl, Lib.hid (by simp), Lib.hid (Drew.refl _)⟩
        case round =>
          obtain ⟨k, hk, rfl, HT, HD⟩ := hrel
          by_cases hlt : k < xs.length
          · have hlt' : k < ys.length := by have := HL.out; omega
            have hck := (HD.out.cell ⟨b, off + k, none⟩).trans (HC.out k hlt)
            have hck' := (HD.out.cell ⟨b', off' + k, none⟩).trans (HC'.out k hlt')
            obtain ⟨y, hy⟩ : ∃ y, y = xs.getD k 0 := ⟨_, rfl⟩
            obtain ⟨z, hz⟩ : ∃ z, z = ys.getD k 0 := ⟨_, rfl⟩
            rw [← hy] at hck
            rw [← hz] at hck'
            have HY := Lib.hid hy
            have HZ := Lib.hid hz
            clear hy hz
            by_cases h1 : y = z
            · have hd : (y != z) = false := by simp [h1]
              have H1 := Lib.hid h1
              clear h1
              go_wp2
              go_quiet (fail)
              go_wp2
              go_roundw
              case rel => exact ⟨k + 1, by omega, by go_num, Lib.hid ((take_eq_succ hlt hlt').2 ⟨HT.out, by rw [← HY.out, ← HZ.out]; exact H1.out⟩), Lib.hid (HD.out.more _)⟩
              case measure => simp [intOf]; omega
            · have hd : (y != z) = true := by simp [h1]
              have H1 := Lib.hid h1
              clear h1
              go_wp2
              go_quiet (fail)
              go_wp2
              go_ret
              exact ⟨ret_bool (decide_eq_false (fun e => H1.out (by rw [HY.out, HZ.out, e]))).symm, HD.out.more _⟩
          · go_wp2
            go_ret
            have hkl : k = xs.length := by omega
            have hn := HT.out
            rw [hkl, List.take_length, HL.out, List.take_length] at hn
            exact ⟨ret_bool (decide_eq_true hn).symm, HD.out⟩
  · obtain ⟨ao, c, rfl⟩ := h.len
    obtain ⟨ao', c', rfl⟩ := g.len
    have hlen := h.length_le
    have hlen' := g.length_le
    have hne : ((xs.length : Int) != (ys.length : Int)) = true := by simp; omega
    have HL := Lib.hid hl
    clear hl h g
    go_enter Try.func11, Try.ntmps11
    go_wp2
    go_ret
    exact ⟨ret_bool (decide_eq_false (fun e => HL.out (by rw [e]))).symm, Drew.refl _⟩

end Go.Proofs.Ytfhddgejedhfpaa
