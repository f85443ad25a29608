/- Whether two are the same; a graph of its own memory. -/
import Derived.Test.YtanflbjbcncklaaG7
import Derived.Deep.QuietTactic
import Derived.Laws.StructEq
namespace Go.Proofs.Ytanflbjbcncklaa
open Go.RowKit

theorem neq_e (ya yb za zb : Int) (s : Bool) (hs : decide ((⟨ya, yb⟩ : Edge) = ⟨za, zb⟩) = s) :
    (∀ w : World, (binOp .neq 40 (.agg #[.int .i64 ya, .int .i64 yb]) (.agg #[.int .i64 za, .int .i64 zb])).run Try.prog w = .ok (.bool (!s)) w) ∧ ∀ (a b : Operand) (w : World), (eqGuard .neq 40 a b (.agg #[.int .i64 ya, .int .i64 yb]) (.agg #[.int .i64 za, .int .i64 zb])).run Try.prog w = .ok () w := by
  refine ⟨fun w => ?_, fun a b w => run_eqGuard_agg w _ _ a b _ _ (by kernel_rfl)⟩
  have u3 := Try.underlying3
  have a3 := Try.isAgg3
  have z3 := Try.sizeOf3
  have hS : Try.prog.underlying 40 = some (.struct (Try.prog.fieldsOf 40)) := by kernel_rfl
  have hp : Try.prog.stoodInHeld 40 = false := by kernel_rfl
  rw [run_neq_struct, show (10000 : Nat) = 9999 + 1 from rfl, run_equalIn_agg w 9999 40 _ _ hS hp]
  simp only [Program.fieldsOf, Try.underlying40]
  go_simp
  subst hs
  by_cases h0 : ya = za <;> by_cases h1 : yb = zb <;> simp [h0, h1]

set_option maxHeartbeats 1000000 in
theorem equal_e (w : World) (v u : Value) (xs ys : List Edge) (h : Sl w v xs) (g : Sl w u ys) (t : Bool) (ht : decide (xs = ys) = t) :
    Calls Try.prog 40 #[v, u] w fun e w' => e = .returned (.bool t) ∧ Drew w w' := by
  subst ht
  by_cases hl : xs.length = ys.length
  · rcases Sl.edges h with ⟨rfl, ao, c, rfl⟩ | ⟨b, off, c, rfl, hc, hc63, hb, hpos, hcell⟩
    · have : ys = [] := List.eq_nil_of_length_eq_zero hl.symm
      subst this
      obtain ⟨ao', c', rfl⟩ := g.len
      go_enter Try.func40, Try.ntmps40
      go_wp2
      refine wp_loop_rounds 1 ?_
      rw [rounds_succ]
      go_wp2
      go_ret
      exact ⟨by simp, Drew.refl _⟩
    · rcases Sl.edges g with ⟨rfl, ao', c', rfl⟩ | ⟨b', off', c', rfl, hc', hc63', hb', hpos', hcell'⟩
      · exact absurd hl (by simp only [List.length_nil]; omega)
      · have hlen : xs.length ≤ 9223372036854775807 := by omega
        have hlen' : ys.length ≤ 9223372036854775807 := by omega
        have hne : ((xs.length : Int) != (ys.length : Int)) = false := by simp [hl]
        have HC := Lib.hid hcell
        have HC' := Lib.hid hcell'
        have HL := Lib.hid hl
        clear hcell h hcell' g hl
        go_enter Try.func40, Try.ntmps40
        go_wp2
        go_loopw [13] (fun i wr => ∃ k : Nat, k ≤ xs.length ∧ i = .int .i64 k ∧ Hid (xs.take k = ys.take k) ∧ Hid (Drew w wr)) (fun i _ => xs.length - (intOf i).toNat)
        case atStart => exact ⟨0, Nat.zero_le _, rfl, Lib.hid (by simp), Lib.hid (Drew.refl _)⟩
        case round =>
          obtain ⟨k, hk, rfl, HT, HD⟩ := hrel
          by_cases hlt : k < xs.length
          · have hlt' : k < ys.length := by have := HL.out; omega
            have hya := (HD.out.cell ⟨b, off + k * 2, none⟩).trans (HC.out k hlt).1
            have hyb := (HD.out.cell ⟨b, off + k * 2 + 1, none⟩).trans (HC.out k hlt).2
            have hza := (HD.out.cell ⟨b', off' + k * 2, none⟩).trans (HC'.out k hlt').1
            have hzb := (HD.out.cell ⟨b', off' + k * 2 + 1, none⟩).trans (HC'.out k hlt').2
            obtain ⟨⟨ya, yb⟩, hy⟩ : ∃ y, y = xs.getD k ⟨0, 0⟩ := ⟨_, rfl⟩
            obtain ⟨⟨za, zb⟩, hz⟩ : ∃ z, z = ys.getD k ⟨0, 0⟩ := ⟨_, rfl⟩
            rw [← hy] at hya hyb
            rw [← hz] at hza hzb
            have HS : Hid (xs.take (k + 1) = ys.take (k + 1) ↔ xs.take k = ys.take k ∧ (⟨ya, yb⟩ : Edge) = ⟨za, zb⟩) := Lib.hid (by rw [take_eq_next hlt hlt' ⟨0, 0⟩, ← hy, ← hz])
            clear hy hz
            have HK : Hid (∀ W, Drew wr W → W.cell? ⟨b, off + k * 2, none⟩ = some (.int .i64 ya) ∧ W.cell? ⟨b, off + k * 2 + 1, none⟩ = some (.int .i64 yb) ∧ W.cell? ⟨b', off' + k * 2, none⟩ = some (.int .i64 za) ∧ W.cell? ⟨b', off' + k * 2 + 1, none⟩ = some (.int .i64 zb)) := Lib.hid fun W d => ⟨(d.cell _).trans hya, (d.cell _).trans hyb, (d.cell _).trans hza, (d.cell _).trans hzb⟩
            obtain ⟨s, hs⟩ : ∃ s, decide ((⟨ya, yb⟩ : Edge) = ⟨za, zb⟩) = s := ⟨_, rfl⟩
            have HQ := Lib.hid (neq_e ya yb za zb s hs)
            have HB := Lib.hid hs
            clear hs
            cases s
            · obtain ⟨hq, hq2⟩ := HQ.out
              go_wp2_with fail
              go_region_held3 (fun W => W.cell? ⟨b, off + k * 2, none⟩ = some (.int .i64 ya) ∧ W.cell? ⟨b, off + k * 2 + 1, none⟩ = some (.int .i64 yb) ∧ W.cell? ⟨b', off' + k * 2, none⟩ = some (.int .i64 za) ∧ W.cell? ⟨b', off' + k * 2 + 1, none⟩ = some (.int .i64 zb)) (exact HK.out _ (by first | exact ⟨0, rfl⟩ | exact ⟨1, rfl⟩ | assumption)) (fail)
              go_wp2
              go_ret
              exact ⟨ret_bool (decide_eq_false (fun e => of_decide_eq_false HB.out (HS.out.1 (by rw [e])).2)).symm, HD.out.more 1⟩
            · obtain ⟨hq, hq2⟩ := HQ.out
              go_wp2_with fail
              go_region_held3 (fun W => W.cell? ⟨b, off + k * 2, none⟩ = some (.int .i64 ya) ∧ W.cell? ⟨b, off + k * 2 + 1, none⟩ = some (.int .i64 yb) ∧ W.cell? ⟨b', off' + k * 2, none⟩ = some (.int .i64 za) ∧ W.cell? ⟨b', off' + k * 2 + 1, none⟩ = some (.int .i64 zb)) (exact HK.out _ (by first | exact ⟨0, rfl⟩ | exact ⟨1, rfl⟩ | assumption)) (fail)
              go_wp2
              go_roundw
              case rel => exact ⟨k + 1, by omega, by go_num, Lib.hid (HS.out.2 ⟨HT.out, of_decide_eq_true HB.out⟩), Lib.hid (HD.out.more 1)⟩
              case measure => simp [intOf]; omega
          · go_wp2
            go_ret
            have hkl : k = xs.length := by omega
            have hn := HT.out
            rw [hkl, List.take_length, HL.out, List.take_length] at hn
            exact ⟨ret_bool (decide_eq_true hn).symm, HD.out⟩
  · obtain ⟨ao, c, rfl⟩ := h.len
    obtain ⟨ao', c', rfl⟩ := g.len
    have hlen := h.length_le
    have hlen' := g.length_le
    have hne : ((xs.length : Int) != (ys.length : Int)) = true := by simp; omega
    have HL := Lib.hid hl
    clear hl h g
    go_enter Try.func40, Try.ntmps40
    go_wp2
    go_ret
    exact ⟨ret_bool (decide_eq_false (fun e => HL.out (by rw [e]))).symm, Drew.refl _⟩

/-- A graph comes out. -/
def GivesV (w : World) (N : Int) (E : List Edge) (e : Ending) (w' : World) : Prop := ∃ v, e = .returned (.agg #[.int .i64 N, v]) ∧ Sl w' v E ∧ Ext w w'

set_option maxHeartbeats 1000000 in
theorem same_any (w : World) (N M : Int) (v u : Value) (E D : List Edge) (h : Sl w v E) (g : Sl w u D) (t : Bool) (ht : (decide (N = M) && decide (E = D)) = t) :
    Calls Try.prog 21 #[.agg #[.int .i64 N, v], .agg #[.int .i64 M, u]] w fun e w' => e = .returned (.bool t) ∧ Ext w w' := by
  obtain ⟨ao, c, rfl⟩ := h.len
  obtain ⟨ao', c', rfl⟩ := g.len
  have H := Lib.hid h
  have G := Lib.hid g
  clear h g
  by_cases hn : N = M
  · have hnn : (N == M) = true := by simp [hn]
    have HT : Hid (decide (E = D) = t) := Lib.hid (by simpa [hn] using ht)
    clear ht hn
    go_enter Try.func21, Try.ntmps21
    go_wp2_with (go_at_call 40; refine (equal_e _ _ _ E D (H.out.ext (by repeat (first | exact Ext.refl _ | assumption | refine Ext.alloc ?_ _ | refine Ext.drew ?_ | refine Ext.drewN ?_ _))) (G.out.ext (by repeat (first | exact Ext.refl _ | assumption | refine Ext.alloc ?_ _ | refine Ext.drew ?_ | refine Ext.drewN ?_ _))) t HT.out).mono ?_; rintro e w1 ⟨rfl, d⟩; have x1 := Ext.trans (ext_two w _ _) (Ext.of_drew d); clear d)
    go_ret
    exact ⟨rfl, x1⟩
  · have hnn : (N == M) = false := by simp [hn]
    have HT : Hid (t = false) := Lib.hid (by simpa [hn] using ht.symm)
    clear ht hn
    go_enter Try.func21, Try.ntmps21
    go_wp2
    go_ret
    exact ⟨ret_bool HT.out.symm, (by repeat (first | exact Ext.refl _ | assumption | refine Ext.alloc ?_ _ | refine Ext.drew ?_ | refine Ext.drewN ?_ _))⟩

theorem own_any (w : World) (N : Int) (v : Value) (E : List Edge) (h : Sl w v E) (hlen : E.length ≤ 1000) : Calls Try.prog 10 #[.agg #[.int .i64 N, v]] w (GivesV w N E) := by
  obtain ⟨ao, c, rfl⟩ := h.len
  have HS := Lib.hid (h.ext (ext_two w (.cells #[.int .i64 N, .slice ao E.length c] 24) (.cells #[.int .i64 0, .slice none 0 0] 24)))
  clear h
  have HK := Lib.hid (two_graphs w N (.slice ao E.length c))
  have HK1 := Lib.hid (one_graph w N (.slice ao E.length c))
  go_enter Try.func10, Try.ntmps10
  go_wp2_with fail
  go_region_held3 (fun V => V.cell? ⟨w.heap.size, 0, none⟩ = some (.int .i64 N) ∧ V.cell? ⟨w.heap.size, 1, none⟩ = some (.slice ao E.length c)) (exact HK1.out _ (by first | exact low_two (by repeat (first | exact Ext.refl _ | assumption | exact Hid.out (by assumption) | refine Ext.alloc ?_ _ | refine Ext.drew ?_ | refine Ext.drewN ?_ _ | refine Ext.trans ?_ (by assumption))) | exact below_set (low_two (by repeat (first | exact Ext.refl _ | assumption | exact Hid.out (by assumption) | refine Ext.alloc ?_ _ | refine Ext.drew ?_ | refine Ext.drewN ?_ _ | refine Ext.trans ?_ (by assumption)))) (by simp) _ | exact below_set (below_set (low_two (by repeat (first | exact Ext.refl _ | assumption | exact Hid.out (by assumption) | refine Ext.alloc ?_ _ | refine Ext.drew ?_ | refine Ext.drewN ?_ _ | refine Ext.trans ?_ (by assumption)))) (by simp) _) (by simp) _))
    (first
    | (refine step_append_sl (α := Edge) rfl (.tmp 5) (.tmp 7) rfl (w.heap.size + 2) (.slice (some ⟨_, 0, none⟩) 0 0) [] rfl ?_ (.slice ao E.length c) E rfl ?_ ?_ ?_ ?_; (first | exact Ow.drew (Ow.litAt _ _ _ (by simp) (by simp) [] (by simp)) | exact Ow.litAt _ _ _ (by simp) (by simp) [] (by simp)); exact HS.out.ext (by repeat (first | exact Ext.refl _ | assumption | exact Hid.out (by assumption) | refine Ext.alloc ?_ _ | refine Ext.drew ?_ | refine Ext.drewN ?_ _ | refine Ext.trans ?_ (by assumption))); (simp; omega); exact (by simp); intro v1 W1 ho1 ha1; obtain ⟨ao1, n1, c1, rfl⟩ := ho1.sh; have O1 := Lib.hid ho1; have x1 : Ext ((w.alloc (.cells #[.int .i64 N, .slice ao E.length c] 24)).alloc (.cells #[.int .i64 0, .slice none 0 0] 24)) W1 := Below.trans (by exact (by repeat (first | exact Ext.refl _ | assumption | exact Hid.out (by assumption) | refine Ext.alloc ?_ _ | refine Ext.drew ?_ | refine Ext.drewN ?_ _ | refine Ext.trans ?_ (by assumption)))) (ha1.below.mono (by simp)); obtain ⟨⟨i0, i1⟩, ⟨j0, j1⟩, l0, l1⟩ := HK.out W1 x1; clear ho1 ha1))
  all_goals go_wp2
  all_goals exact bodyPost_ret (v := .agg #[.int .i64 N, .slice ao1 n1 c1]) (by simp [results, Try.results10, go_sem, j0, j1]) rfl ⟨_, rfl, ((O1.out.set (by simp) _).set (by simp) _).sl, below_set (below_set ((ext_two w _ _).trans x1) (by simp) _) (by simp) _⟩

end Go.Proofs.Ytanflbjbcncklaa
