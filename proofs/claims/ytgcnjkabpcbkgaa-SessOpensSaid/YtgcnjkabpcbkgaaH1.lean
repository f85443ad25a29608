/- Layer 17, the document's answers: whether needs, and a book, may be; the place of a session; whether the first one is granted. -/
import Derived.Test.YtgcnjkabpcbkgaaH0
import Derived.Deep.RegionLaw
import Derived.Deep.QuietTactic
import Derived.BigQuiet
namespace Go.Proofs.Ytgcnjkabpcbkgaa
open Go.RowKit

set_option maxHeartbeats 1000000 in
theorem refNeed_any (w : World) (v : Value) (xs : List Int) (h : Sl w v xs) (t : Bool) (ht : needH xs = t) :
    Calls Try.prog 36 #[v] w fun e w' => e = .returned (.bool t) ∧ Drew w w' := by
  have HT := Lib.hid ht
  clear ht
  rcases h.ints with ⟨rfl, ao, c, rfl⟩ | ⟨b, off, c, rfl, hc, hc63, hb, hpos, hcell⟩
  · have HF : Hid (true = t) := Lib.hid (by rw [← HT.out]; exact (need_at.2 ⟨fun k hk => absurd hk (Nat.not_lt_zero _), by simp⟩).symm)
    go_enter Try.func36, Try.ntmps36
    go_wp2
    refine wp_loop_rounds 1 ?_
    rw [rounds_succ]
    go_wp2
    go_ret
    exact ⟨ret_bool HF.out, Drew.refl _⟩
  · have hlen : xs.length ≤ 9223372036854775807 := by omega
    have HC := Lib.hid hcell
    clear hcell h
    go_enter Try.func36, Try.ntmps36
    go_wp2
    go_loopw [3] (fun i wr => ∃ k : Nat, k ≤ xs.length ∧ i = .int .i64 k ∧ Hid (∀ j, j < k → NeedAt xs j) ∧ Hid (Drew w wr)) (fun i _ => xs.length - (intOf i).toNat)
    case atStart => exact ⟨0, Nat.zero_le _, rfl, Lib.hid (fun j hj => absurd hj (Nat.not_lt_zero _)), Lib.hid (Drew.refl _)⟩
    case round =>
      obtain ⟨k, hk, rfl, HQ, HD⟩ := hrel
      by_cases hlt : k < xs.length
      · have hck := (HD.out.cell ⟨b, off + k, none⟩).trans (HC.out k hlt)
        obtain ⟨y, hy⟩ : ∃ y, y = xs.getD k 0 := ⟨_, rfl⟩
        rw [← hy] at hck
        have HY := Lib.hid hy
        clear hy
        by_cases h0 : y < 0
        · have HB : Hid (false = t) := Lib.hid (by rw [← HT.out]; exact (Bool.eq_false_iff.2 fun q => by have := ((need_at.1 q).1 k hlt).1; rw [← HY.out] at this; omega).symm)
          have H0 := Lib.hid (decide_eq_true h0)
          clear h0
          go_wp2
          have qH0 := H0.out
          go_quiet (fail)
          go_wp2
          go_ret
          exact ⟨ret_bool HB.out, HD.out.more _⟩
        have H0 := Lib.hid (decide_eq_false h0)
        by_cases hk1 : 1 ≤ k
        · have hck' := (HD.out.cell ⟨b, off + (k - 1), none⟩).trans (HC.out (k - 1) (by omega))
          obtain ⟨z, hz⟩ : ∃ z, z = xs.getD (k - 1) 0 := ⟨_, rfl⟩
          rw [← hz] at hck'
          have HZ := Lib.hid hz
          clear hz
          have H2 : Hid (decide (0 < k) = true) := Lib.hid (decide_eq_true (by omega))
          by_cases h1 : y ≤ z
          · have HB : Hid (false = t) := Lib.hid (by rw [← HT.out]; exact (Bool.eq_false_iff.2 fun q => by have := ((need_at.1 q).1 k hlt).2 (by omega); rw [← HY.out, ← HZ.out] at this; omega).symm)
            have H1 := Lib.hid (decide_eq_true h1)
            go_wp2
            have qH0 := H0.out ; have qH2 := H2.out ; have qH1 := H1.out
            go_quiet (fail)
            go_wp2
            go_ret
            exact ⟨ret_bool HB.out, HD.out.more _⟩
          · have H1 := Lib.hid (decide_eq_false h1)
            have HG : Hid (NeedAt xs k) := Lib.hid ⟨by rw [← HY.out]; omega, fun _ => by rw [← HY.out, ← HZ.out]; omega⟩
            go_wp2
            have qH0 := H0.out ; have qH2 := H2.out ; have qH1 := H1.out
            go_quiet (fail)
            go_wp2
            go_roundw
            case rel => exact ⟨k + 1, by omega, by go_num, Lib.hid (fun j hj => by
              rcases Nat.lt_or_ge j k with q | q
              · exact HQ.out j q
              · obtain rfl : j = k := by omega
                exact HG.out), Lib.hid (HD.out.more _)⟩
            case measure => simp [intOf]; omega
        · have H2 : Hid (decide (0 < k) = false) := Lib.hid (decide_eq_false (by omega))
          have HG : Hid (NeedAt xs k) := Lib.hid ⟨by rw [← HY.out]; omega, fun q => by omega⟩
          go_wp2
          have qH0 := H0.out ; have qH2 := H2.out
          go_quiet (fail)
          go_wp2
          go_roundw
          case rel => exact ⟨k + 1, by omega, by go_num, Lib.hid (fun j hj => by
            rcases Nat.lt_or_ge j k with q | q
            · exact HQ.out j q
            · obtain rfl : j = k := by omega
              exact HG.out), Lib.hid (HD.out.more _)⟩
          case measure => simp [intOf]; omega
      · have hkl : k = xs.length := by omega
        by_cases h64 : xs.length ≤ 64
        · have h64' : (xs.length : Int) ≤ 64 := by omega
          have HB : Hid (true = t) := Lib.hid (by rw [← HT.out]; exact (need_at.2 ⟨fun j hj => HQ.out j (by omega), h64⟩).symm)
          go_wp2
          go_ret
          exact ⟨ret_bool HB.out, HD.out⟩
        · have h64' : ¬ (xs.length : Int) ≤ 64 := by omega
          have HB : Hid (false = t) := Lib.hid (by rw [← HT.out]; exact (Bool.eq_false_iff.2 fun q => h64 (need_at.1 q).2).symm)
          go_wp2
          go_ret
          exact ⟨ret_bool HB.out, HD.out⟩
end Go.Proofs.Ytgcnjkabpcbkgaa
