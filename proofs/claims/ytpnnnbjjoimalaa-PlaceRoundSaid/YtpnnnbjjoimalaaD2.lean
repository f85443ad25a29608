/- Whether arcs may be; whether there is one from a node to another one. -/
import Derived.Test.YtpnnnbjjoimalaaD1
import Derived.Deep.QuietTactic
import Derived.BigQuiet
namespace Go.Proofs.Ytpnnnbjjoimalaa
open Go.RowKit

theorem node_any (w : World) (C : Nat) (N x : Int) (r : Bool) (hr : (decide (0 ≤ x) && decide (x < N)) = r) (hc : w.cell? ⟨C, 0, none⟩ = some (.int .i64 N)) :
    Calls Try.prog 75 #[.int .i64 x, .pointer (some ⟨C, 0, none⟩)] w fun e w' => e = .returned (.bool r) ∧ w' = w := by
  have HR := Lib.hid hr
  clear hr
  by_cases h1 : 0 ≤ x
  · by_cases h2 : x < N
    all_goals
      go_enter Try.func75, Try.ntmps75
      go_wp2
      go_ret
      exact ⟨ret_bool (by rw [← HR.out]; simp; omega), rfl⟩
  · go_enter Try.func75, Try.ntmps75
    go_wp2
    go_ret
    exact ⟨ret_bool (by rw [← HR.out]; simp; omega), rfl⟩

theorem node_two (w : World) (C : Nat) (N x a b : Int) (r s t : Bool) (hx : (x = a ∧ t = r) ∨ (x = b ∧ t = s)) (ha : (decide (0 ≤ a) && decide (a < N)) = r) (hb : (decide (0 ≤ b) && decide (b < N)) = s) (hc : w.cell? ⟨C, 0, none⟩ = some (.int .i64 N)) :
    Calls Try.prog 75 #[.int .i64 x, .pointer (some ⟨C, 0, none⟩)] w fun e w' => e = .returned (.bool t) ∧ w' = w := by
  rcases hx with ⟨rfl, rfl⟩ | ⟨rfl, rfl⟩
  · exact node_any w C N x _ ha hc
  · exact node_any w C N x _ hb hc

theorem pre_ok {N : Int} {L : List Arc} {k : Nat} (h0 : 0 ≤ N) (h1 : N ≤ 64) (h2 : L.length ≤ 400) (h : ∀ x ∈ L.take k, okA N x = true) (hn : (L.take k).Nodup) (hk : L.length ≤ k) : OkD N L := by
  rw [List.take_of_length_le hk] at h hn
  exact okD_iff.1 (by simp only [okD, Bool.and_eq_true, decide_eq_true_eq, List.all_eq_true]; exact ⟨⟨⟨⟨h0, h1⟩, h2⟩, h⟩, hn⟩)
theorem okA_iff {N : Int} {x : Arc} : okA N x = true ↔ (0 ≤ x.a ∧ x.a < N) ∧ (0 ≤ x.b ∧ x.b < N) ∧ x.a ≠ x.b := by
  simp only [okA, Bool.and_eq_true, decide_eq_true_eq, Bool.not_eq_true', decide_eq_false_iff_not]
  omega
theorem bad_arc {N : Int} {L : List Arc} {k : Nat} (hk : k < L.length) (h : okA N (L.getD k ⟨0, 0⟩) = false) : ¬ OkD N L := fun o => by
  have hm : L.getD k ⟨0, 0⟩ ∈ L := by rw [getD_at hk]; exact List.getElem_mem hk
  have := o.each _ hm
  have := okA_iff.2 ⟨⟨this.1, this.2.1⟩, ⟨this.2.2.1, this.2.2.2.1⟩, this.2.2.2.2⟩
  rw [h] at this
  cases this
theorem twice_arc {N : Int} {L : List Arc} {k : Nat} (hk : k < L.length) (h : L.getD k ⟨0, 0⟩ ∈ L.take k) : ¬ OkD N L := fun o => by
  have hn : (L.take (k + 1)).Nodup := List.Nodup.sublist (List.take_sublist _ _) o.nodup
  rw [take_next hk ⟨0, 0⟩] at hn
  exact (List.nodup_append.1 hn).2.2 _ h _ (by simp) rfl
theorem pre_next {N : Int} {L : List Arc} {k : Nat} (hk : k < L.length) (h : ∀ x ∈ L.take k, okA N x = true) (hn : (L.take k).Nodup) (h1 : okA N (L.getD k ⟨0, 0⟩) = true) (h2 : L.getD k ⟨0, 0⟩ ∉ L.take k) :
    (∀ x ∈ L.take (k + 1), okA N x = true) ∧ (L.take (k + 1)).Nodup := by
  rw [take_next hk ⟨0, 0⟩]
  refine ⟨fun x hx => ?_, List.nodup_append.2 ⟨hn, by simp, fun x hx y hy => by rw [List.mem_singleton] at hy; subst hy; exact fun e => h2 (e ▸ hx)⟩⟩
  rcases List.mem_append.1 hx with hx | hx
  · exact h x hx
  · rw [List.mem_singleton] at hx; subst hx; exact h1

set_option maxHeartbeats 2000000 in
theorem checkA_any (w : World) (N : Int) (v : Value) (E : List Arc) (h : Sl w v E) (r : Int) (hr : chkD N E = r) :
    Calls Try.prog 66 #[.int .i64 N, v] w fun e w' => e = .returned (.int .i64 r) ∧ Ext w w' := by
  have HR := Lib.hid hr
  obtain ⟨ao, c, rfl⟩ := h.len
  have hlen := h.length_le
  have HS := Lib.hid h
  clear hr h
  by_cases h1 : N < 0
  · go_enter Try.func66, Try.ntmps66
    go_wp2
    go_ret
    exact ⟨ret_int (by rw [← HR.out, chkD_not (fun o => by have := o.n0; omega)]), (by repeat (first | exact Ext.refl _ | assumption | refine Ext.alloc ?_ _ | refine Ext.drew ?_ | refine Ext.drewN ?_ _))⟩
  by_cases h2 : 64 < N
  · go_enter Try.func66, Try.ntmps66
    go_wp2
    go_ret
    exact ⟨ret_int (by rw [← HR.out, chkD_not (fun o => by have := o.n64; omega)]), (by repeat (first | exact Ext.refl _ | assumption | refine Ext.alloc ?_ _ | refine Ext.drew ?_ | refine Ext.drewN ?_ _))⟩
  by_cases h3 : 400 < E.length
  · go_enter Try.func66, Try.ntmps66
    go_wp2
    go_ret
    exact ⟨ret_int (by rw [← HR.out, chkD_not (fun o => by have := o.few; omega)]), (by repeat (first | exact Ext.refl _ | assumption | refine Ext.alloc ?_ _ | refine Ext.drew ?_ | refine Ext.drewN ?_ _))⟩
  have hmf : ∀ (fn : Fn) (first cap : Array Value) (w : World), (Instr.makeFunc fn first cap).run Try.prog w = .ok (.func fn first cap) w := fun _ _ _ _ => rfl
  have HB : Hid (∀ W, Ext (w.alloc (.cells #[.int .i64 N] 3)) W → W.cell? ⟨w.heap.size, 0, none⟩ = some (.int .i64 N)) := Lib.hid fun W hW => cell_at W hW rfl
  go_enter Try.func66, Try.ntmps66
  go_wp2
  go_loopw [22] (fun i wr => ∃ k : Nat, k ≤ E.length ∧ i = .int .i64 k ∧ Hid ((∀ x ∈ E.take k, okA N x = true) ∧ (E.take k).Nodup) ∧ Hid (Ext (w.alloc (.cells #[.int .i64 N] 3)) wr)) (fun i _ => E.length - (intOf i).toNat)
  case atStart => exact ⟨0, Nat.zero_le _, rfl, Lib.hid (by simp), Lib.hid (Ext.refl _)⟩
  case round =>
    obtain ⟨k, hk, rfl, HT, HX⟩ := hrel
    by_cases hlt : k < E.length
    · obtain ⟨b, off, hao, _, hnc, hc63, hb, hya0, hyb0⟩ := HS.out.arcsAt hlt
      subst hao
      have X := Ext.trans ((Ext.refl w).alloc _) HX.out
      have hya := (X.cell (p := ⟨b, off + k * 2, none⟩) hb).trans hya0
      have hyb := (X.cell (p := ⟨b, off + k * 2 + 1, none⟩) hb).trans hyb0
      obtain ⟨⟨ya, yb⟩, hy⟩ : ∃ y, y = E.getD k ⟨0, 0⟩ := ⟨_, rfl⟩
      rw [← hy] at hya hyb
      have HY := Lib.hid hy
      have HXX := Lib.hid X
      clear hy hya0 hyb0 X
      have hN := HB.out wr HX.out
      have HT1 : Hid (Sl wr (.slice (some ⟨b, off, none⟩) k c) (E.take k)) := Lib.hid (by have := (HS.out.ext HXX.out).cut 0 k (by omega) (by omega); simpa using this)
      have HK : Hid (∀ W, Ext (wr.alloc (.cells #[.int .i64 ya, .int .i64 yb] 60)) W → W.cell? ⟨wr.heap.size, 0, none⟩ = some (.int .i64 ya) ∧ W.cell? ⟨wr.heap.size, 1, none⟩ = some (.int .i64 yb) ∧ W.cell? ⟨w.heap.size, 0, none⟩ = some (.int .i64 N)) := Lib.hid fun W hW =>
        ⟨cell_at W hW rfl, cell_at W hW rfl, HB.out W (HX.out.trans (Ext.trans ((Ext.refl wr).alloc _) hW))⟩
      have hwl : w.heap.size < wr.heap.size := by have := HX.out.size; rw [size_alloc] at this; omega
      have hwl2 : w.heap.size ≠ wr.heap.size := by omega
      have HL : Hid (w.heap.size < wr.heap.size) := Lib.hid hwl
      by_cases g1 : 0 ≤ ya ∧ ya < N
      · have G1 : Hid ((decide (0 ≤ ya) && decide (ya < N)) = true) := Lib.hid (by simp [g1])
        by_cases g2 : 0 ≤ yb ∧ yb < N
        · have G2 : Hid ((decide (0 ≤ yb) && decide (yb < N)) = true) := Lib.hid (by simp [g2])
          by_cases g3 : ya = yb
          · have q3 : (ya == yb) = true := by simp [g3]
            have G3 := Lib.hid g3
            have HZ : Hid (okA N ⟨ya, yb⟩ = false) := Lib.hid (by cases e : okA N ⟨ya, yb⟩ with
              | false => rfl
              | true => exact absurd g3 (okA_iff.1 e).2.2)
            clear g1 g2 g3
            go_wp2
            go_quiet ((go_at_call 75; exact Calls.quiet_of_same (node_any _ _ N _ true (by first | exact G1.out | exact G2.out) (HK.out _ (Ext.drewN (Ext.refl _) _)).2.2)))
            all_goals go_wp2
            all_goals go_ret
            all_goals exact ⟨ret_int (by rw [← HR.out, chkD_not (bad_arc hlt (by rw [← HY.out]; exact HZ.out))]), Ext.trans HXX.out (Ext.drewN ((Ext.refl wr).alloc _) _)⟩
          · have q3 : (ya == yb) = false := by simp [g3]
            have G3 := Lib.hid g3
            have HO : Hid (okA N ⟨ya, yb⟩ = true) := Lib.hid (okA_iff.2 ⟨g1, g2, g3⟩)
            obtain ⟨t, ht⟩ : ∃ t, decide ((⟨ya, yb⟩ : Arc) ∈ E.take k) = t := ⟨_, rfl⟩
            have HC := Lib.hid ht
            clear g1 g2 g3 ht
            have hk0 : (0 : Int) ≤ (k : Int) := by omega
            have hkc : (k : Int) ≤ (c : Int) := by omega
            have hkc2 : k ≤ c := by omega
            cases t
            all_goals
              go_wp2
              go_region_held3 (fun W => W.cell? ⟨wr.heap.size, 0, none⟩ = some (.int .i64 ya) ∧ W.cell? ⟨wr.heap.size, 1, none⟩ = some (.int .i64 yb) ∧ W.cell? ⟨w.heap.size, 0, none⟩ = some (.int .i64 N)) (exact HK.out _ (by repeat (first | exact Ext.refl _ | assumption | refine Ext.alloc ?_ _ | refine Ext.drew ?_ | refine Ext.drewN ?_ _)))
                (first
                | (go_at_call 75; refine (node_any _ _ N _ true (by first | exact G1.out | exact G2.out) (HK.out _ (by repeat (first | exact Ext.refl _ | assumption | refine Ext.alloc ?_ _ | refine Ext.drew ?_ | refine Ext.drewN ?_ _))).2.2).mono ?_; rintro e w1 ⟨rfl, rfl⟩)
                | (go_at_call 76; refine (contains_a _ _ (E.take k) ya yb (HT1.out.ext (Ext.trans ((Ext.refl wr).alloc _) (by repeat (first | exact Ext.refl _ | assumption | refine Ext.alloc ?_ _ | refine Ext.drew ?_ | refine Ext.drewN ?_ _)))) _ HC.out).mono ?_; rintro e w1 ⟨rfl, hx⟩; have y1 : Ext (wr.alloc (.cells #[.int .i64 ya, .int .i64 yb] 60)) w1 := Ext.trans (by exact (by repeat (first | exact Ext.refl _ | assumption | refine Ext.alloc ?_ _ | refine Ext.drew ?_ | refine Ext.drewN ?_ _))) hx; clear hx))
              all_goals go_wp2
            · go_roundw
              case rel => exact ⟨k + 1, by omega, by go_num, Lib.hid (pre_next hlt HT.out.1 HT.out.2 (by rw [← HY.out]; exact HO.out) (by rw [← HY.out]; exact of_decide_eq_false HC.out)), Lib.hid (HX.out.trans (Ext.trans ((Ext.refl wr).alloc _) (by first | exact y1 | exact Ext.drew y1)))⟩
              case measure => simp [intOf]; omega
            · go_ret
              exact ⟨ret_int (by rw [← HR.out, chkD_not (twice_arc hlt (by rw [← HY.out]; exact of_decide_eq_true HC.out))]), HXX.out.trans (Ext.trans ((Ext.refl wr).alloc _) (by first | exact y1 | exact Ext.drew y1))⟩
        · have G2 : Hid ((decide (0 ≤ yb) && decide (yb < N)) = false) := Lib.hid (by simp; omega)
          have HZ : Hid (okA N ⟨ya, yb⟩ = false) := Lib.hid (by cases e : okA N ⟨ya, yb⟩ with
            | false => rfl
            | true => exact absurd (okA_iff.1 e).2.1 g2)
          clear g1 g2
          go_wp2
          go_quiet ((go_at_call 75; exact Calls.quiet_of_same (node_two _ _ N _ ya yb true false _ (by first | exact .inl ⟨rfl, rfl⟩ | exact .inr ⟨rfl, rfl⟩) G1.out G2.out (HK.out _ (Ext.drewN (Ext.refl _) _)).2.2)))
          all_goals go_wp2
          all_goals go_ret
          all_goals exact ⟨ret_int (by rw [← HR.out, chkD_not (bad_arc hlt (by rw [← HY.out]; exact HZ.out))]), Ext.trans HXX.out (Ext.drewN ((Ext.refl wr).alloc _) _)⟩
      · have G1 : Hid ((decide (0 ≤ ya) && decide (ya < N)) = false) := Lib.hid (by simp; omega)
        have HZ : Hid (okA N ⟨ya, yb⟩ = false) := Lib.hid (by cases e : okA N ⟨ya, yb⟩ with
          | false => rfl
          | true => exact absurd (okA_iff.1 e).1 g1)
        clear g1
        go_wp2
        go_quiet ((go_at_call 75; exact Calls.quiet_of_same (node_any _ _ N _ false G1.out (HK.out _ (Ext.drewN (Ext.refl _) _)).2.2)))
        all_goals go_wp2
        all_goals go_ret
        all_goals exact ⟨ret_int (by rw [← HR.out, chkD_not (bad_arc hlt (by rw [← HY.out]; exact HZ.out))]), Ext.trans HXX.out (Ext.drewN ((Ext.refl wr).alloc _) _)⟩
    · have hkl : E.length ≤ k := by omega
      go_wp2
      go_ret
      exact ⟨ret_int (by rw [← HR.out, chkD_of (pre_ok (by omega) (by omega) (by omega) HT.out.1 HT.out.2 hkl)]), Ext.trans ((Ext.refl w).alloc _) HX.out⟩

end Go.Proofs.Ytpnnnbjjoimalaa
