/- The document's answers: whether two are the same; a graph without an edge. -/
import Derived.Test.YtdfleocknaackaaGreatMG9
namespace Go.Proofs.YtdfleocknaackaaGreat
open Go.RowKit

theorem two_args (w : World) (N M : Int) (v u : Value) (W : World) (h : Ext ((w.alloc (.cells #[.int .i64 N, v] 24)).alloc (.cells #[.int .i64 M, u] 24)) W) :
    W.cell? ⟨w.heap.size, 0, none⟩ = some (.int .i64 N) ∧ W.cell? ⟨w.heap.size, 1, none⟩ = some v ∧ W.cell? ⟨w.heap.size + 1, 0, none⟩ = some (.int .i64 M) ∧ W.cell? ⟨w.heap.size + 1, 1, none⟩ = some u := by
  obtain ⟨hA, hB⟩ := box2 (h.mono (by rw [size_alloc, size_alloc]; omega))
  exact ⟨blk_cell hA 0 rfl, blk_cell hA 1 rfl, blk_cell hB 0 rfl, blk_cell hB 1 rfl⟩

set_option maxHeartbeats 1000000 in
theorem refSameG_val (w : World) (N M : Int) (v u : Value) (E D : List Edge) (h : Sl w v E) (g : Sl w u D) (t : Bool) (ht : (decide (N = M) && decide (E = D)) = t) :
    Calls Tryz.prog 15 #[.agg #[.int .i64 N, v], .agg #[.int .i64 M, u]] w fun e w' => e = .returned (.bool t) ∧ Ext w w' := by
  have HT := Lib.hid ht
  clear ht
  by_cases hn : N = M
  · have hnn : (N != M) = false := by simp [hn]
    have HN := Lib.hid (decide_eq_true hn)
    clear hn
    by_cases hl : E.length = D.length
    · rcases h.edges with ⟨rfl, ao, c, rfl⟩ | ⟨b, off, c, rfl, hc, hc63, hb, hpos, hcell⟩
      · have : D = [] := List.eq_nil_of_length_eq_zero hl.symm
        subst this
        obtain ⟨ao', c', rfl⟩ := g.len
        clear h g
        go_enter Tryz.func15, Tryz.ntmps15
        go_wp2
        refine wp_loop_rounds 1 ?_
        rw [rounds_succ]
        go_wp2
        go_ret
        exact ⟨ret_bool (by rw [← HT.out, HN.out]; simp), (by repeat (first | exact Ext.refl _ | assumption | refine Ext.alloc ?_ _ | refine Ext.drew ?_ | refine Ext.drewN ?_ _))⟩
      · rcases g.edges with ⟨rfl, ao', c', rfl⟩ | ⟨b', off', c', rfl, hc', hc63', hb', hpos', hcell'⟩
        · exact absurd hl (by simp only [List.length_nil]; omega)
        · have hlen : E.length ≤ 9223372036854775807 := by omega
          have hlen' : D.length ≤ 9223372036854775807 := by omega
          have hne : ((E.length : Int) != (D.length : Int)) = false := by simp [hl]
          have HC := Lib.hid hcell
          have HC' := Lib.hid hcell'
          have HL := Lib.hid hl
          clear hcell h hcell' g hl
          have HK := Lib.hid (two_args w N M (.slice (some ⟨b, off, none⟩) E.length c) (.slice (some ⟨b', off', none⟩) D.length c'))
          go_enter Tryz.func15, Tryz.ntmps15
          go_wp2
          go_loopw [5] (fun i wr => ∃ k : Nat, k ≤ E.length ∧ i = .int .i64 k ∧ Hid (E.take k = D.take k) ∧ Hid (Drew ((w.alloc (.cells #[.int .i64 N, .slice (some ⟨b, off, none⟩) E.length c] 24)).alloc (.cells #[.int .i64 M, .slice (some ⟨b', off', none⟩) D.length c'] 24)) wr)) (fun i _ => E.length - (intOf i).toNat)
          case atStart => exact ⟨0, Nat.zero_le _, rfl, Lib.hid (by simp), Lib.hid (Drew.refl _)⟩
          case round =>
            obtain ⟨k, hk, rfl, HE, HD⟩ := hrel
            have HX : Hid (Ext ((w.alloc (.cells #[.int .i64 N, .slice (some ⟨b, off, none⟩) E.length c] 24)).alloc (.cells #[.int .i64 M, .slice (some ⟨b', off', none⟩) D.length c'] 24)) wr) := Lib.hid (Ext.of_drew HD.out)
            obtain ⟨g0, g1, g2, g3⟩ := HK.out wr HX.out
            by_cases hlt : k < E.length
            · have hlt' : k < D.length := by have := HL.out; omega
              have Y := Ext.trans (ext_two w _ _) HX.out
              have hya := (Y.cell (p := ⟨b, off + k * 2, none⟩) hb).trans (HC.out k hlt).1
              have hyb := (Y.cell (p := ⟨b, off + k * 2 + 1, none⟩) hb).trans (HC.out k hlt).2
              have hza := (Y.cell (p := ⟨b', off' + k * 2, none⟩) hb').trans (HC'.out k hlt').1
              have hzb := (Y.cell (p := ⟨b', off' + k * 2 + 1, none⟩) hb').trans (HC'.out k hlt').2
              obtain ⟨⟨ya, yb⟩, hy⟩ : ∃ y, y = E.getD k ⟨0, 0⟩ := ⟨_, rfl⟩
              obtain ⟨⟨za, zb⟩, hz⟩ : ∃ z, z = D.getD k ⟨0, 0⟩ := ⟨_, rfl⟩
              rw [← hy] at hya hyb
              rw [← hz] at hza hzb
              have HS : Hid (E.take (k + 1) = D.take (k + 1) ↔ E.take k = D.take k ∧ (⟨ya, yb⟩ : Edge) = ⟨za, zb⟩) := Lib.hid (by rw [take_eq_next hlt hlt' ⟨0, 0⟩, ← hy, ← hz])
              clear hy hz Y
              have HB : Hid (∀ W, Drew wr W → W.cell? ⟨w.heap.size, 0, none⟩ = some (.int .i64 N) ∧ W.cell? ⟨w.heap.size, 1, none⟩ = some (.slice (some ⟨b, off, none⟩) E.length c) ∧ W.cell? ⟨w.heap.size + 1, 0, none⟩ = some (.int .i64 M) ∧ W.cell? ⟨w.heap.size + 1, 1, none⟩ = some (.slice (some ⟨b', off', none⟩) D.length c') ∧ W.cell? ⟨b, off + k * 2, none⟩ = some (.int .i64 ya) ∧ W.cell? ⟨b, off + k * 2 + 1, none⟩ = some (.int .i64 yb) ∧ W.cell? ⟨b', off' + k * 2, none⟩ = some (.int .i64 za) ∧ W.cell? ⟨b', off' + k * 2 + 1, none⟩ = some (.int .i64 zb)) := Lib.hid fun W d => ⟨(d.cell _).trans g0, (d.cell _).trans g1, (d.cell _).trans g2, (d.cell _).trans g3, (d.cell _).trans hya, (d.cell _).trans hyb, (d.cell _).trans hza, (d.cell _).trans hzb⟩
              obtain ⟨s, hs⟩ : ∃ s, decide ((⟨ya, yb⟩ : Edge) = ⟨za, zb⟩) = s := ⟨_, rfl⟩
              have HQ := Lib.hid (neq_e ya yb za zb s hs)
              have HV := Lib.hid hs
              clear hs
              cases s
              all_goals
                obtain ⟨hq, hq2⟩ := HQ.out
                go_wp2_with fail
                go_region_held3 (fun W => W.cell? ⟨w.heap.size, 0, none⟩ = some (.int .i64 N) ∧ W.cell? ⟨w.heap.size, 1, none⟩ = some (.slice (some ⟨b, off, none⟩) E.length c) ∧ W.cell? ⟨w.heap.size + 1, 0, none⟩ = some (.int .i64 M) ∧ W.cell? ⟨w.heap.size + 1, 1, none⟩ = some (.slice (some ⟨b', off', none⟩) D.length c') ∧ W.cell? ⟨b, off + k * 2, none⟩ = some (.int .i64 ya) ∧ W.cell? ⟨b, off + k * 2 + 1, none⟩ = some (.int .i64 yb) ∧ W.cell? ⟨b', off' + k * 2, none⟩ = some (.int .i64 za) ∧ W.cell? ⟨b', off' + k * 2 + 1, none⟩ = some (.int .i64 zb)) (exact HB.out _ (by first | exact ⟨0, rfl⟩ | exact ⟨1, rfl⟩ | assumption)) (fail)
                go_wp2
              · go_ret
                refine ⟨ret_bool ?_, Ext.trans (Ext.trans (ext_two w _ _) HX.out) (by repeat (first | exact Ext.refl _ | assumption | refine Ext.alloc ?_ _ | refine Ext.drew ?_ | refine Ext.drewN ?_ _))⟩
                rw [← HT.out, HN.out, decide_eq_false (fun e => of_decide_eq_false HV.out (HS.out.1 (by rw [e])).2)]
                rfl
              · go_roundw
                case rel => exact ⟨k + 1, by omega, by go_num, Lib.hid (HS.out.2 ⟨HE.out, of_decide_eq_true HV.out⟩), Lib.hid (HD.out.more 1)⟩
                case measure => simp [intOf]; omega
            · go_wp2
              go_ret
              have hkl : k = E.length := by omega
              have hn := HE.out
              rw [hkl, List.take_length, HL.out, List.take_length] at hn
              exact ⟨ret_bool (by rw [← HT.out, HN.out, decide_eq_true hn]; rfl), Ext.trans (ext_two w _ _) HX.out⟩
    · obtain ⟨ao, c, rfl⟩ := h.len
      obtain ⟨ao', c', rfl⟩ := g.len
      have hlen := h.length_le
      have hlen' := g.length_le
      have hne : ((E.length : Int) != (D.length : Int)) = true := by simp; omega
      have HL := Lib.hid hl
      clear hl h g
      go_enter Tryz.func15, Tryz.ntmps15
      go_wp2
      go_ret
      refine ⟨ret_bool ?_, (by repeat (first | exact Ext.refl _ | assumption | refine Ext.alloc ?_ _ | refine Ext.drew ?_ | refine Ext.drewN ?_ _))⟩
      rw [← HT.out, decide_eq_false (fun e : E = D => HL.out (by rw [e]))]
      simp
  · have hnn : (N != M) = true := by simp [hn]
    have HN := Lib.hid (decide_eq_false hn)
    obtain ⟨ao, c, rfl⟩ := h.len
    obtain ⟨ao', c', rfl⟩ := g.len
    clear hn h g
    go_enter Tryz.func15, Tryz.ntmps15
    go_wp2
    go_ret
    exact ⟨ret_bool (by rw [← HT.out, HN.out]; rfl), (by repeat (first | exact Ext.refl _ | assumption | refine Ext.alloc ?_ _ | refine Ext.drew ?_ | refine Ext.drewN ?_ _))⟩

end Go.Proofs.YtdfleocknaackaaGreat
