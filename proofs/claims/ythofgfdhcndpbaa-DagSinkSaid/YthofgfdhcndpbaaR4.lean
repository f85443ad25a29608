/- The document's answers: whether arcs may be; flipped; whether two rows are the same; who is free; from whom no arc goes. -/
import Derived.Test.YthofgfdhcndpbaaR1
import Derived.Test.YthofgfdhcndpbaaD9
namespace Go.Proofs.Ythofgfdhcndpbaa
open Go.RowKit
set_option maxHeartbeats 1000000 in
theorem refSameA_any (w : World) (v u : Value) (xs ys : List Arc) (h : Sl w v xs) (g : Sl w u ys) (t : Bool) (ht : decide (xs = ys) = t) :
    Calls Try.prog 22 #[v, u] w fun e w' => e = .returned (.bool t) ∧ Drew w w' := by
  subst ht
  by_cases hl : xs.length = ys.length
  · rcases Sl.arcs h with ⟨rfl, ao, c, rfl⟩ | ⟨b, off, c, rfl, hc, hc63, hb, hpos, hcell⟩
    · have : ys = [] := List.eq_nil_of_length_eq_zero hl.symm
      subst this
      obtain ⟨ao', c', rfl⟩ := g.len
      go_enter Try.func22, Try.ntmps22
      go_wp2
      refine wp_loop_rounds 1 ?_
      rw [rounds_succ]
      go_wp2
      go_ret
      exact ⟨by simp, Drew.refl _⟩
    · rcases Sl.arcs g with ⟨rfl, ao', c', rfl⟩ | ⟨b', off', c', rfl, hc', hc63', hb', hpos', hcell'⟩
      · exact absurd hl (by simp only [List.length_nil]; omega)
      · have hlen : xs.length ≤ 9223372036854775807 := by omega
        have hlen' : ys.length ≤ 9223372036854775807 := by omega
        have hne : ((xs.length : Int) != (ys.length : Int)) = false := by simp [hl]
        have HC := Lib.hid hcell
        have HC' := Lib.hid hcell'
        have HL := Lib.hid hl
        clear hcell h hcell' g hl
        go_enter Try.func22, Try.ntmps22
        go_wp2
        go_loopw [5] (fun i wr => ∃ k : Nat, k ≤ xs.length ∧ i = .int .i64 k ∧ Hid (xs.take k = ys.take k) ∧ Hid (Drew w wr)) (fun i _ => xs.length - (intOf i).toNat)
        case atStart => exact ⟨0, Nat.zero_le _, rfl, Lib.hid (by simp), Lib.hid (Drew.refl _)⟩
        case round =>
          obtain ⟨k, hk, rfl, HT, HD⟩ := hrel
          by_cases hlt : k < xs.length
          · have hlt' : k < ys.length := by have := HL.out; omega
            have hya := (HD.out.cell ⟨b, off + k * 2, none⟩).trans (HC.out k hlt).1
            have hyb := (HD.out.cell ⟨b, off + k * 2 + 1, none⟩).trans (HC.out k hlt).2
            have hza := (HD.out.cell ⟨b', off' + k * 2, none⟩).trans (HC'.out k hlt').1
            have hzb := (HD.out.cell ⟨b', off' + k * 2 + 1, none⟩).trans (HC'.out k hlt').2
            obtain ⟨⟨ya, yb⟩, hy⟩ : ∃ y, y = xs.getD k ⟨0, 0⟩ := ⟨_, rfl⟩
            obtain ⟨⟨za, zb⟩, hz⟩ : ∃ z, z = ys.getD k ⟨0, 0⟩ := ⟨_, rfl⟩
            rw [← hy] at hya hyb
            rw [← hz] at hza hzb
            have HS : Hid (xs.take (k + 1) = ys.take (k + 1) ↔ xs.take k = ys.take k ∧ (⟨ya, yb⟩ : Arc) = ⟨za, zb⟩) := Lib.hid (by rw [take_eq_next hlt hlt' ⟨0, 0⟩, ← hy, ← hz])
            clear hy hz
            have HK : Hid (∀ W, Drew wr W → W.cell? ⟨b, off + k * 2, none⟩ = some (.int .i64 ya) ∧ W.cell? ⟨b, off + k * 2 + 1, none⟩ = some (.int .i64 yb) ∧ W.cell? ⟨b', off' + k * 2, none⟩ = some (.int .i64 za) ∧ W.cell? ⟨b', off' + k * 2 + 1, none⟩ = some (.int .i64 zb)) := Lib.hid fun W d => ⟨(d.cell _).trans hya, (d.cell _).trans hyb, (d.cell _).trans hza, (d.cell _).trans hzb⟩
            obtain ⟨s, hs⟩ : ∃ s, decide ((⟨ya, yb⟩ : Arc) = ⟨za, zb⟩) = s := ⟨_, rfl⟩
            have HQ := Lib.hid (neq_a ya yb za zb s hs)
            have HB := Lib.hid hs
            clear hs
            cases s
            · obtain ⟨hq, hq2⟩ := HQ.out
              go_wp2_with fail
              go_region_held3 (fun W => W.cell? ⟨b, off + k * 2, none⟩ = some (.int .i64 ya) ∧ W.cell? ⟨b, off + k * 2 + 1, none⟩ = some (.int .i64 yb) ∧ W.cell? ⟨b', off' + k * 2, none⟩ = some (.int .i64 za) ∧ W.cell? ⟨b', off' + k * 2 + 1, none⟩ = some (.int .i64 zb)) (exact HK.out _ (by first | exact ⟨0, rfl⟩ | exact ⟨1, rfl⟩ | assumption)) (fail)
              go_wp2
              go_ret
              exact ⟨ret_bool (decide_eq_false (fun e => of_decide_eq_false HB.out (HS.out.1 (by rw [e])).2)).symm, HD.out.more 1⟩
            · obtain ⟨hq, hq2⟩ := HQ.out
              go_wp2_with fail
              go_region_held3 (fun W => W.cell? ⟨b, off + k * 2, none⟩ = some (.int .i64 ya) ∧ W.cell? ⟨b, off + k * 2 + 1, none⟩ = some (.int .i64 yb) ∧ W.cell? ⟨b', off' + k * 2, none⟩ = some (.int .i64 za) ∧ W.cell? ⟨b', off' + k * 2 + 1, none⟩ = some (.int .i64 zb)) (exact HK.out _ (by first | exact ⟨0, rfl⟩ | exact ⟨1, rfl⟩ | assumption)) (fail)
              go_wp2
              go_roundw
              case rel => exact ⟨k + 1, by omega, by go_num, Lib.hid (HS.out.2 ⟨HT.out, of_decide_eq_true HB.out⟩), Lib.hid (HD.out.more 1)⟩
              case measure => simp [intOf]; omega
          · go_wp2
            go_ret
            have hkl : k = xs.length := by omega
            have hn := HT.out
            rw [hkl, List.take_length, HL.out, List.take_length] at hn
            exact ⟨ret_bool (decide_eq_true hn).symm, HD.out⟩
  · obtain ⟨ao, c, rfl⟩ := h.len
    obtain ⟨ao', c', rfl⟩ := g.len
    have hlen := h.length_le
    have hlen' := g.length_le
    have hne : ((xs.length : Int) != (ys.length : Int)) = true := by simp; omega
    have HL := Lib.hid hl
    clear hl h g
    go_enter Try.func22, Try.ntmps22
    go_wp2
    go_ret
    exact ⟨ret_bool (decide_eq_false (fun e => HL.out (by rw [e]))).symm, Drew.refl _⟩

theorem refSameA_val (w : World) (v u : Value) (xs ys : List Arc) (h : Sl w v xs) (g : Sl w u ys) (t : Bool) (ht : decide (xs = ys) = t) : Calls Try.prog 22 #[v, u] w fun e w' => e = .returned (.bool t) ∧ Ext w w' :=
  (refSameA_any w v u xs ys h g t ht).mono fun _ _ ⟨he, hd⟩ => ⟨he, Ext.of_drew hd⟩

set_option maxHeartbeats 1000000 in
theorem refFlip_any (w : World) (v : Value) (E : List Arc) (x : Int) (h : Sl w v E) (hl : E.length ≤ 1000000) :
    Calls Try.prog 24 #[v, .int .i64 x] w (GivesOw w (flipD E x)) := by
  obtain ⟨ao, c, rfl⟩ := h.len
  have HS := Lib.hid h
  clear h
  go_enter Try.func24, Try.ntmps24
  go_wp2
  go_loopw [5, 6] (fun q i wr => ∃ k : Nat, k ≤ E.length ∧ i = .int .i64 k ∧ Hid (Ow wr w.heap.size q (flipD (E.take k) x)) ∧ Hid (Ext w wr)) (fun _ i _ => E.length - (intOf i).toNat)
  case atStart => exact ⟨0, Nat.zero_le _, rfl, Lib.hid (Ow.lit w _ (Nat.le_refl _) [] (by simp)), Lib.hid ((Ext.refl _).alloc _)⟩
  case round =>
    obtain ⟨k, hk, rfl, HO, HX⟩ := hrel
    by_cases hlt : k < E.length
    · obtain ⟨b, off, hao, hq1, hnc, hc63, hb, hya0, hyb0⟩ := HS.out.arcsAt hlt
      subst hao
      have hya := (HX.out.cell (p := ⟨b, off + k * 2, none⟩) hb).trans hya0
      have hyb := (HX.out.cell (p := ⟨b, off + k * 2 + 1, none⟩) hb).trans hyb0
      obtain ⟨⟨ya, yb⟩, hy⟩ : ∃ y, y = E.getD k ⟨0, 0⟩ := ⟨_, rfl⟩
      rw [← hy] at hya hyb
      have HN : Hid (flipD (E.take (k + 1)) x = flipD (E.take k) x ++ [flipA x ⟨ya, yb⟩]) := Lib.hid (by unfold flipD; rw [take_next hlt ⟨0, 0⟩, ← hy, List.map_append]; rfl)
      obtain ⟨L, hL⟩ : ∃ L, L = flipD (E.take k) x := ⟨_, rfl⟩
      have hLl : L.length ≤ 1000000 := by rw [hL]; unfold flipD; rw [List.length_map, List.length_take]; omega
      rw [← hL] at HO HN
      have hwr : w.heap.size ≤ wr.heap.size := HX.out.size
      clear hy hya0 hyb0 hL hq1
      by_cases g1 : ya = x
      · have q1 : (ya == x) = true := by simp [g1]
        have HF : Hid (flipA x ⟨ya, yb⟩ = ⟨yb, ya⟩) := Lib.hid (by simp [flipA, g1])
        clear g1
        go_wp2_with ((at_builtin; refine wpList_append_sl (α := Arc) rfl (.tmp 28) (.tmp 30) rfl w.heap.size _ L rfl ?_ (.slice (some ⟨_, 0, none⟩) 1 1) [Arc.mk yb ya] rfl ?_ ?_ ?_ ?_; exact ((HO.out.alloc _).alloc _); exact (Sl.litAt _ _ (by simp) [Arc.mk yb ya] (by simp)); (first | omega | (simp; omega)); exact (by first | (simp; done) | (simp; omega)); intro v2 W2 ho2 ha2; have O2 := Lib.hid ho2; have y2 : Hid (Ext w W2) := Lib.hid (Below.trans ((HX.out.alloc _).alloc _) ha2.below); clear ho2 ha2))
        go_roundw
        case rel => exact ⟨k + 1, by omega, by go_num, Lib.hid (by rw [HN.out, HF.out]; exact O2.out), y2⟩
        case measure => simp [intOf]; omega
      · have q1 : (ya == x) = false := by simp [g1]
        have HF : Hid (flipA x ⟨ya, yb⟩ = ⟨ya, yb⟩) := Lib.hid (by simp [flipA, g1])
        clear g1
        go_wp2_with ((at_builtin; refine wpList_append_sl (α := Arc) rfl (.tmp 28) (.tmp 30) rfl w.heap.size _ L rfl ?_ (.slice (some ⟨_, 0, none⟩) 1 1) [Arc.mk ya yb] rfl ?_ ?_ ?_ ?_; exact ((HO.out.alloc _).alloc _); exact (Sl.litAt _ _ (by simp) [Arc.mk ya yb] (by simp)); (first | omega | (simp; omega)); exact (by first | (simp; done) | (simp; omega)); intro v2 W2 ho2 ha2; have O2 := Lib.hid ho2; have y2 : Hid (Ext w W2) := Lib.hid (Below.trans ((HX.out.alloc _).alloc _) ha2.below); clear ho2 ha2))
        go_roundw
        case rel => exact ⟨k + 1, by omega, by go_num, Lib.hid (by rw [HN.out, HF.out]; exact O2.out), y2⟩
        case measure => simp [intOf]; omega
    · have hkl : k = E.length := by omega
      have ho := HO.out
      rw [hkl, List.take_length] at ho
      have HO' := Lib.hid ho
      clear ho HO hkl
      go_wp2
      go_ret
      exact ⟨_, rfl, HO'.out, HX.out⟩


theorem okD_no {N : Int} {L : List Arc} (h : ¬ OkD N L) : okD N L = false := by
  cases e : okD N L with
  | false => rfl
  | true => exact absurd (okD_iff.1 e) h

set_option maxHeartbeats 2000000 in
theorem refCheck_val (w : World) (N : Int) (v : Value) (E : List Arc) (h : Sl w v E) (r : Bool) (hr : okD N E = r) :
    Calls Try.prog 19 #[.int .i64 N, v] w fun e w' => e = .returned (.bool r) ∧ Ext w w' := by
  have HR := Lib.hid hr
  obtain ⟨ao, c, rfl⟩ := h.len
  have hlen := h.length_le
  have HS := Lib.hid h
  clear hr h
  by_cases h1 : N < 0
  · go_enter Try.func19, Try.ntmps19
    go_wp2
    go_ret
    exact ⟨ret_bool (by rw [← HR.out, okD_no (fun o => by have := o.n0; omega)]), (by repeat (first | exact Ext.refl _ | assumption | refine Ext.alloc ?_ _ | refine Ext.drew ?_ | refine Ext.drewN ?_ _))⟩
  by_cases h2 : 64 < N
  · go_enter Try.func19, Try.ntmps19
    go_wp2
    go_ret
    exact ⟨ret_bool (by rw [← HR.out, okD_no (fun o => by have := o.n64; omega)]), (by repeat (first | exact Ext.refl _ | assumption | refine Ext.alloc ?_ _ | refine Ext.drew ?_ | refine Ext.drewN ?_ _))⟩
  by_cases h3 : 400 < E.length
  · go_enter Try.func19, Try.ntmps19
    go_wp2
    go_ret
    exact ⟨ret_bool (by rw [← HR.out, okD_no (fun o => by have := o.few; omega)]), (by repeat (first | exact Ext.refl _ | assumption | refine Ext.alloc ?_ _ | refine Ext.drew ?_ | refine Ext.drewN ?_ _))⟩
  go_enter Try.func19, Try.ntmps19
  go_wp2
  go_loopw [5] (fun i wr => ∃ k : Nat, k ≤ E.length ∧ i = .int .i64 k ∧ Hid ((∀ x ∈ E.take k, okA N x = true) ∧ (E.take k).Nodup) ∧ Hid (Ext w wr)) (fun i _ => E.length - (intOf i).toNat)
  case atStart => exact ⟨0, Nat.zero_le _, rfl, Lib.hid (by simp), Lib.hid (Ext.refl _)⟩
  case round =>
    obtain ⟨k, hk, rfl, HT, HX⟩ := hrel
    by_cases hlt : k < E.length
    · obtain ⟨b, off, hao, hq1, hnc, hc63, hb, hya0, hyb0⟩ := HS.out.arcsAt hlt
      subst hao
      have hya := (HX.out.cell (p := ⟨b, off + k * 2, none⟩) hb).trans hya0
      have hyb := (HX.out.cell (p := ⟨b, off + k * 2 + 1, none⟩) hb).trans hyb0
      obtain ⟨⟨ya, yb⟩, hy⟩ : ∃ y, y = E.getD k ⟨0, 0⟩ := ⟨_, rfl⟩
      rw [← hy] at hya hyb
      have HY := Lib.hid hy
      clear hy hya0 hyb0 hq1
      have bad : okA N ⟨ya, yb⟩ = false → okD N E = false := fun hz => okD_no (bad_arc hlt (by rw [← HY.out]; exact hz))
      have hok : okA N ⟨ya, yb⟩ = true ↔ (0 ≤ ya ∧ ya < N) ∧ (0 ≤ yb ∧ yb < N) ∧ ya ≠ yb := okA_iff
      have nok : ¬ ((0 ≤ ya ∧ ya < N) ∧ (0 ≤ yb ∧ yb < N) ∧ ya ≠ yb) → r = false := fun hn => by
        rw [← HR.out]
        exact bad (by cases e : okA N ⟨ya, yb⟩ with
          | false => rfl
          | true => exact absurd (hok.1 e) hn)
      by_cases g1 : ya < 0
      · have HZ := Lib.hid (nok (by omega))
        clear bad hok nok
        go_wp2
        go_ret
        exact ⟨ret_bool HZ.out.symm, HX.out.alloc _⟩
      by_cases g2 : N ≤ ya
      · have HZ := Lib.hid (nok (by omega))
        clear bad hok nok
        go_wp2
        go_ret
        exact ⟨ret_bool HZ.out.symm, HX.out.alloc _⟩
      by_cases g3 : yb < 0
      · have HZ := Lib.hid (nok (by omega))
        clear bad hok nok
        go_wp2
        go_ret
        exact ⟨ret_bool HZ.out.symm, HX.out.alloc _⟩
      by_cases g4 : N ≤ yb
      · have HZ := Lib.hid (nok (by omega))
        clear bad hok nok
        go_wp2
        go_ret
        exact ⟨ret_bool HZ.out.symm, HX.out.alloc _⟩
      by_cases g5 : ya = yb
      · have HZ := Lib.hid (nok (by omega))
        have q5 : (ya == yb) = true := by simp [g5]
        clear bad hok nok g5
        go_wp2
        go_ret
        exact ⟨ret_bool HZ.out.symm, HX.out.alloc _⟩
      have HZ : Hid (okA N ⟨ya, yb⟩ = true) := Lib.hid (hok.2 (by omega))
      have q5 : (ya == yb) = false := by simp [g5]
      have HB : Hid (∀ W, Ext (wr.alloc (.cells #[.int .i64 ya, .int .i64 yb] 38)) W → W.cell? ⟨wr.heap.size, 0, none⟩ = some (.int .i64 ya) ∧ W.cell? ⟨wr.heap.size, 1, none⟩ = some (.int .i64 yb)) := Lib.hid fun W hW => ⟨cell_at W hW rfl, cell_at W hW rfl⟩
      clear bad hok nok g5
      go_wp2
      generalize hbx : wr.heap.size = bx
      have HBX := Lib.hid hbx
      clear hbx
      go_loopw [7] (fun s7 wi => ∃ j : Nat, j ≤ k ∧ s7 = .int .i64 j ∧ Hid ((⟨ya, yb⟩ : Arc) ∉ E.take j) ∧ Hid (Ext (wr.alloc (.cells #[.int .i64 ya, .int .i64 yb] 38)) wi)) (fun s7 _ => k - (intOf s7).toNat)
      case atStart => exact ⟨0, Nat.zero_le _, rfl, Lib.hid (by simp), Lib.hid (Ext.refl _)⟩
      case round =>
        obtain ⟨j, hj, rfl, HJ, HXI⟩ := hrel
        by_cases hjk : j < k
        · have hjl : j < E.length := by omega
          obtain ⟨b2, off2, hao2, hq2, _, _, _, hza0, hzb0⟩ := HS.out.arcsAt hjl
          simp only [Option.some.injEq, Addr.mk.injEq, and_true] at hao2
          obtain ⟨rfl, rfl⟩ := hao2
          obtain ⟨⟨za, zb⟩, hz⟩ : ∃ z, z = E.getD j ⟨0, 0⟩ := ⟨_, rfl⟩
          rw [← hz] at hza0 hzb0
          have HN : Hid (E.take (j + 1) = E.take j ++ [⟨za, zb⟩]) := Lib.hid (by rw [take_next hjl ⟨0, 0⟩, ← hz])
          have HM : Hid ((⟨za, zb⟩ : Arc) ∈ E.take k) := Lib.hid (by rw [hz, getD_at hjl]; exact List.mem_take_iff_getElem.2 ⟨j, by omega, rfl⟩)
          have hx0 := Ext.trans (HX.out.alloc (.cells #[.int .i64 ya, .int .i64 yb] 38)) HXI.out
          have HK : Hid (∀ W, Ext wr W → (W.cell? ⟨b, off + j * 2, none⟩ = some (.int .i64 za) ∧ W.cell? ⟨b, off + j * 2 + 1, none⟩ = some (.int .i64 zb)) ∧ W.cell? ⟨bx, 0, none⟩ = some (.int .i64 ya) ∧ W.cell? ⟨bx, 1, none⟩ = some (.int .i64 yb)) := Lib.hid fun W hW =>
            ⟨⟨((hx0.trans hW).cell (p := ⟨b, off + j * 2, none⟩) hb).trans hza0, ((hx0.trans hW).cell (p := ⟨b, off + j * 2 + 1, none⟩) hb).trans hzb0⟩, by rw [← HBX.out]; exact HB.out W (HXI.out.trans hW)⟩
          clear hz hza0 hzb0 hq2 hx0
          obtain ⟨s, hs⟩ : ∃ s, decide ((⟨za, zb⟩ : Arc) = ⟨ya, yb⟩) = s := ⟨_, rfl⟩
          have HQ := Lib.hid (eq_a za zb ya yb s hs)
          have HE := Lib.hid hs
          clear hs
          cases s
          all_goals
            obtain ⟨hq, hq2⟩ := HQ.out
            go_wp2_with fail
            go_region_held3 (fun W => (W.cell? ⟨b, off + j * 2, none⟩ = some (.int .i64 za) ∧ W.cell? ⟨b, off + j * 2 + 1, none⟩ = some (.int .i64 zb)) ∧ W.cell? ⟨bx, 0, none⟩ = some (.int .i64 ya) ∧ W.cell? ⟨bx, 1, none⟩ = some (.int .i64 yb)) (exact HK.out _ (by repeat (first | exact Ext.refl _ | assumption | refine Ext.alloc ?_ _ | refine Ext.drew ?_ | refine Ext.drewN ?_ _))) (fail)
            go_wp2
          · go_roundw
            case rel => exact ⟨j + 1, by omega, by go_num, Lib.hid (by rw [HN.out]; simp only [List.mem_append, List.mem_singleton]; exact fun e => e.elim HJ.out (fun e => of_decide_eq_false HE.out e.symm)), Lib.hid (by first | exact HXI.out.drew | exact HXI.out.drewN _ | exact HXI.out)⟩
            case measure => simp [intOf]; omega
          · go_ret
            exact ⟨ret_bool (by rw [← HR.out, okD_no (twice_arc hlt (by rw [← HY.out, ← of_decide_eq_true HE.out]; exact HM.out))]), (HX.out.alloc _).trans (by first | exact HXI.out.drew | exact HXI.out.drewN _ | exact HXI.out)⟩
        · have hjk2 : j = k := by omega
          have HJ2 : Hid ((⟨ya, yb⟩ : Arc) ∉ E.take k) := Lib.hid (by rw [← hjk2]; exact HJ.out)
          clear hjk2
          go_wp2
          go_roundw
          case rel => exact ⟨k + 1, by omega, by go_num, Lib.hid (pre_next hlt HT.out.1 HT.out.2 (by rw [← HY.out]; exact HZ.out) (by rw [← HY.out]; exact HJ2.out)), Lib.hid ((HX.out.alloc _).trans HXI.out)⟩
          case measure => simp [intOf]; omega
    · have hkl : E.length ≤ k := by omega
      go_wp2
      go_ret
      exact ⟨ret_bool (by rw [← HR.out, okD_iff.2 (pre_ok (by omega) (by omega) (by omega) HT.out.1 HT.out.2 hkl)]), HX.out⟩

end Go.Proofs.Ythofgfdhcndpbaa
