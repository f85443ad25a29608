/- The document's answer of arcs: whether two rows are the same. -/
import Derived.Test.YtpnnnbjjoimalaaD1
import Derived.Test.YtpnnnbjjoimalaaYR
import Derived.Deep.RegionLaw
import Derived.Deep.RegionHeld3
import Derived.Deep.QuietTactic
import Derived.BigQuiet
namespace Go.Proofs.Ytpnnnbjjoimalaa
open Go.RowKit

set_option maxHeartbeats 1000000 in
theorem refSameA_any (w : World) (v u : Value) (xs ys : List Arc) (h : Sl w v xs) (g : Sl w u ys) (t : Bool) (ht : decide (xs = ys) = t) :
    Calls Try.prog 24 #[v, u] w fun e w' => e = .returned (.bool t) ∧ Drew w w' := by
  subst ht
  by_cases hl : xs.length = ys.length
  · rcases Sl.arcs h with ⟨rfl, ao, c, rfl⟩ | ⟨b, off, c, rfl, hc, hc63, hb, hpos, hcell⟩
    · have : ys = [] := List.eq_nil_of_length_eq_zero hl.symm
      subst this
      obtain ⟨ao', c', rfl⟩ := g.len
      go_enter Try.func24, Try.ntmps24
      go_wp2
      refine wp_loop_rounds 1 ?_
      rw [rounds_succ]
      go_wp2
      go_ret
      exact ⟨by simp, Drew.refl _⟩
    · rcases Sl.arcs g with ⟨rfl, ao', c', rfl⟩ | ⟨b', off', c', rfl, hc', hc63', hb', hpos', hcell'⟩
      · exact absurd hl (by simp only [List.length_nil]; omega)
      · have hlen : xs.length ≤ 9223372036854775807 := by omega
        have hlen' : ys.length ≤ 9223372036854775807 := by omega
        have hne : ((xs.length : Int) != (ys.length : Int)) = false := by simp [hl]
        have HC := Lib.hid hcell
        have HC' := Lib.hid hcell'
        have HL := Lib.hid hl
        clear hcell h hcell' g hl
        go_enter Try.func24, Try.ntmps24
        go_wp2
        go_loopw [5] (fun i wr => ∃ k : Nat, k ≤ xs.length ∧ i = .int .i64 k ∧ Hid (xs.take k = ys.take k) ∧ Hid (Drew w wr)) (fun i _ => xs.length - (intOf i).toNat)
        case atStart => exact ⟨0, Nat.zero_le _, rfl, Lib.hid (by simp), Lib.hid (Drew.refl _)⟩
        case round =>
          obtain ⟨k, hk, rfl, HT, HD⟩ := hrel
          by_cases hlt : k < xs.length
          · have hlt' : k < ys.length := by have := HL.out; omega
            have hya := (HD.out.cell ⟨b, off + k * 2, none⟩).trans (HC.out k hlt).1
            have hyb := (HD.out.cell ⟨b, off + k * 2 + 1, none⟩).trans (HC.out k hlt).2
            have hza := (HD.out.cell ⟨b', off' + k * 2, none⟩).trans (HC'.out k hlt').1
            have hzb := (HD.out.cell ⟨b', off' + k * 2 + 1, none⟩).trans (HC'.out k hlt').2
            obtain ⟨⟨ya, yb⟩, hy⟩ : ∃ y, y = xs.getD k ⟨0, 0⟩ := ⟨_, rfl⟩
            obtain ⟨⟨za, zb⟩, hz⟩ : ∃ z, z = ys.getD k ⟨0, 0⟩ := ⟨_, rfl⟩
            rw [← hy] at hya hyb
            rw [← hz] at hza hzb
            have HS : Hid (xs.take (k + 1) = ys.take (k + 1) ↔ xs.take k = ys.take k ∧ (⟨ya, yb⟩ : Arc) = ⟨za, zb⟩) := Lib.hid (by rw [take_eq_next hlt hlt' ⟨0, 0⟩, ← hy, ← hz])
            clear hy hz
            have HK : Hid (∀ W, Drew wr W → W.cell? ⟨b, off + k * 2, none⟩ = some (.int .i64 ya) ∧ W.cell? ⟨b, off + k * 2 + 1, none⟩ = some (.int .i64 yb) ∧ W.cell? ⟨b', off' + k * 2, none⟩ = some (.int .i64 za) ∧ W.cell? ⟨b', off' + k * 2 + 1, none⟩ = some (.int .i64 zb)) := Lib.hid fun W d => ⟨(d.cell _).trans hya, (d.cell _).trans hyb, (d.cell _).trans hza, (d.cell _).trans hzb⟩
            obtain ⟨s, hs⟩ : ∃ s, decide ((⟨ya, yb⟩ : Arc) = ⟨za, zb⟩) = s := ⟨_, rfl⟩
            have HQ := Lib.hid (neq_a ya yb za zb s hs)
            have HB := Lib.hid hs
            clear hs
            cases s
            · obtain ⟨hq, hq2⟩ := HQ.out
              go_wp2_with fail
              go_region_held3 (fun W => W.cell? ⟨b, off + k * 2, none⟩ = some (.int .i64 ya) ∧ W.cell? ⟨b, off + k * 2 + 1, none⟩ = some (.int .i64 yb) ∧ W.cell? ⟨b', off' + k * 2, none⟩ = some (.int .i64 za) ∧ W.cell? ⟨b', off' + k * 2 + 1, none⟩ = some (.int .i64 zb)) (exact HK.out _ (by first | exact ⟨0, rfl⟩ | exact ⟨1, rfl⟩ | assumption)) (fail)
              go_wp2
              go_ret
              exact ⟨ret_bool (decide_eq_false (fun e => of_decide_eq_false HB.out (HS.out.1 (by rw [e])).2)).symm, HD.out.more 1⟩
            · obtain ⟨hq, hq2⟩ := HQ.out
              go_wp2_with fail
              go_region_held3 (fun W => W.cell? ⟨b, off + k * 2, none⟩ = some (.int .i64 ya) ∧ W.cell? ⟨b, off + k * 2 + 1, none⟩ = some (.int .i64 yb) ∧ W.cell? ⟨b', off' + k * 2, none⟩ = some (.int .i64 za) ∧ W.cell? ⟨b', off' + k * 2 + 1, none⟩ = some (.int .i64 zb)) (exact HK.out _ (by first | exact ⟨0, rfl⟩ | exact ⟨1, rfl⟩ | assumption)) (fail)
              go_wp2
              go_roundw
              case rel => exact ⟨k + 1, by omega, by go_num, Lib.hid (HS.out.2 ⟨HT.out, of_decide_eq_true HB.out⟩), Lib.hid (HD.out.more 1)⟩
              case measure => simp [intOf]; omega
          · go_wp2
            go_ret
            have hkl : k = xs.length := by omega
            have hn := HT.out
            rw [hkl, List.take_length, HL.out, List.take_length] at hn
            exact ⟨ret_bool (decide_eq_true hn).symm, HD.out⟩
  · obtain ⟨ao, c, rfl⟩ := h.len
    obtain ⟨ao', c', rfl⟩ := g.len
    have hlen := h.length_le
    have hlen' := g.length_le
    have hne : ((xs.length : Int) != (ys.length : Int)) = true := by simp; omega
    have HL := Lib.hid hl
    clear hl h g
    go_enter Try.func24, Try.ntmps24
    go_wp2
    go_ret
    exact ⟨ret_bool (decide_eq_false (fun e => HL.out (by rw [e]))).symm, Drew.refl _⟩

theorem refSameA_val (w : World) (v u : Value) (xs ys : List Arc) (h : Sl w v xs) (g : Sl w u ys) (t : Bool) (ht : decide (xs = ys) = t) : Calls Try.prog 24 #[v, u] w fun e w' => e = .returned (.bool t) ∧ Ext w w' :=
  (refSameA_any w v u xs ys h g t ht).mono fun _ _ ⟨he, hd⟩ => ⟨he, Ext.of_drew hd⟩

end Go.Proofs.Ytpnnnbjjoimalaa
