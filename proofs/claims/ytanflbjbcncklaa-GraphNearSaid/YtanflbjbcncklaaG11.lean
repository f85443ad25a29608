/- The document's answers: whether two are the same; a graph without an edge. -/
import Derived.Test.YtanflbjbcncklaaG10
namespace Go.Proofs.Ytanflbjbcncklaa
open Go.RowKit

theorem two_args (w : World) (N M : Int) (v u : Value) (W : World) (h : Ext ((w.alloc (.cells #[.int .i64 N, v] 24)).alloc (.cells #[.int .i64 M, u] 24)) W) :
    W.cell? ⟨w.heap.size, 0, none⟩ = some (.int .i64 N) ∧ W.cell? ⟨w.heap.size, 1, none⟩ = some v ∧ W.cell? ⟨w.heap.size + 1, 0, none⟩ = some (.int .i64 M) ∧ W.cell? ⟨w.heap.size + 1, 1, none⟩ = some u := by
  obtain ⟨hA, hB⟩ := box2 (h.mono (by rw [size_alloc, size_alloc]; omega))
  exact ⟨blk_cell hA 0 rfl, blk_cell hA 1 rfl, blk_cell hB 0 rfl, blk_cell hB 1 rfl⟩

set_option maxHeartbeats 1000000 in
theorem refSameG_val (w : World) (N M : Int) (v u : Value) (E D : List Edge) (h : Sl w v E) (g : Sl w u D) (t : Bool) (ht : (decide (N = M) && decide (E = D)) = t) :
    Calls Try.prog 14 #[.agg #[.int .i64 N, v], .agg #[.int .i64 M, u]] w fun e w' => e = .returned (.bool t) ∧ Ext w w' := by
  have HT := Lib.hid ht
  clear ht
  by_cases hn : N = M
  · have hnn : (N != M) = false := by simp [hn]
    have HN := Lib.hid (decide_eq_true hn)
    clear hn
    by_cases hl : E.length = D.length
    · rcases h.edges with ⟨rfl, ao, c, rfl⟩ | ⟨b, off, c, rfl, hc, hc63, hb, hpos, hcell⟩
      · have : D = [] := List.eq_nil_of_length_eq_zero hl.symm
        subst this
        obtain ⟨ao', c', rfl⟩ := g.len
        clear h g
        go_enter Try.func14, Try.ntmps14
        go_wp2
        refine wp_loop_rounds 1 ?_
        rw [rounds_succ]
        go_wp2
        go_ret
        exact ⟨ret_bool (by rw [← HT.out, HN.out]; simp), (by repeat (first | exact Ext.refl _ | assumption | refine Ext.alloc ?_ _ | refine Ext.drew ?_ | refine Ext.drewN ?_ _))⟩
      · rcases g.edges with ⟨rfl, ao', c', rfl⟩ | ⟨b', off', c', rfl, hc', hc63', hb', hpos', hcell'⟩
        · exact absurd hl (by simp only [List.length_nil]; omega)
        · have hlen : E.length ≤ 9223372036854775807 := by omega
          have hlen' : D.length ≤ 9223372036854775807 := by omega
          have hne : ((E.length : Int) != (D.length : Int)) = false := by simp [hl]
          have HC := Lib.hid hcell
          have HC' := Lib.hid hcell'
          have HL := Lib.hid hl
          clear hcell h hcell' g hl
          have HK := Lib.hid (two_args w N M (.slice (some ⟨b, off, none⟩) E.length c) (.slice (some ⟨b', off', none⟩) D.length c'))
          go_enter Try.func14, Try.ntmps14
          go_wp2
          go_loopw [5] (fun i wr => ∃ k : Nat, k ≤ E.length ∧ i = .int .i64 k ∧ Hid (E.take k = D.take k) ∧ Hid (Drew ((w.alloc (.cells #[.int .i64 N, .slice (some ⟨b, off, none⟩) E.length c] 24)).alloc (.cells #[.int .i64 M, .slice (some ⟨b', off', none⟩) D.length c'] 24)) wr)) (fun i _ => E.length - (intOf i).toNat)
          case atStart => exact ⟨0, Nat.zero_le _, rfl, Lib.hid (by simp), Lib.hid (Drew.refl _)⟩
          case round =>
            obtain ⟨k, hk, rfl, HE, HD⟩ := hrel
            have HX : Hid (Ext ((w.alloc (.cells #[.int .i64 N, .slice (some ⟨b, off, none⟩) E.length c] 24)).alloc (.cells #[.int .i64 M, .slice (some ⟨b', off', none⟩) D.length c'] 24)) wr) := Lib.hid (Ext.of_drew HD.out)
            obtain ⟨g0, g1, g2, g3⟩ := HK.out wr HX.out
            by_cases hlt : k < E.length
            · have hlt' : k < D.length := by have := HL.out; omega
              have Y := Ext.trans (ext_two w _ _) HX.out
              have hya := (Y.cell (p := ⟨b, off + k * 2, none⟩) hb).trans (HC.out k hlt).1
              have hyb := (Y.cell (p := ⟨b, off + k * 2 + 1, none⟩) hb).trans (HC.out k hlt).2
              have hza := (Y.cell (p := ⟨b', off' + k * 2, none⟩) hb').trans (HC'.out k hlt').1
              have hzb := (Y.cell (p := ⟨b', off' + k * 2 + 1, none⟩) hb').trans (HC'.out k hlt').2
              obtain ⟨⟨ya, yb⟩, hy⟩ : ∃ y, y = E.getD k ⟨0, 0⟩ := ⟨_, rfl⟩
              obtain ⟨⟨za, zb⟩, hz⟩ : ∃ z, z = D.getD k ⟨0, 0⟩ := ⟨_, rfl⟩
              rw [← hy] at hya hyb
              rw [← hz] at hza hzb
              have HS : Hid (E.take (k + 1) = D.take (k + 1) ↔ E.take k = D.take k ∧ (⟨ya, yb⟩ : Edge) = ⟨za, zb⟩) := Lib.hid (by rw [take_eq_next hlt hlt' ⟨0, 0⟩, ← hy, ← hz])
              clear hy hz Y
              have HB : Hid (∀ W, Drew wr W → W.cell? ⟨w.heap.size, 0, none⟩ = some (.int .i64 N) ∧ W.cell? ⟨w.heap.size, 1, none⟩ = some (.slice (some ⟨b, off, none⟩) E.length c) ∧ W.cell? ⟨w.heap.size + 1, 0, none⟩ = some (.int .i64 M) ∧ W.cell? ⟨w.heap.size + 1, 1, none⟩ = some (.slice (some ⟨b', off', none⟩) D.length c') ∧ W.cell? ⟨b, off + k * 2, none⟩ = some (.int .i64 ya) ∧ W.cell? ⟨b, off + k * 2 + 1, none⟩ = some (.int .i64 yb) ∧ W.cell? ⟨b', off' + k * 2, none⟩ = some (.int .i64 za) ∧ W.cell? ⟨b', off' + k * 2 + 1, none⟩ = some (.int .i64 zb)) := Lib.hid fun W d => ⟨(d.cell _).trans g0, (d.cell _).trans g1, (d.cell _).trans g2, (d.cell _).trans g3, (d.cell _).trans hya, (d.cell _).trans hyb, (d.cell _).trans hza, (d.cell _).trans hzb⟩
              obtain ⟨s, hs⟩ : ∃ s, decide ((⟨ya, yb⟩ : Edge) = ⟨za, zb⟩) = s := ⟨_, rfl⟩
              have HQ := Lib.hid (neq_e ya yb za zb s hs)
              have HV := Lib.hid hs
              clear hs
              cases s
              all_goals
                obtain ⟨hq, hq2⟩ := HQ.out
                go_wp2_with fail
                go_region_held3 (fun W => W.cell? ⟨w.heap.size, 0, none⟩ = some (.int .i64 N) ∧ W.cell? ⟨w.heap.size, 1, none⟩ = some (.slice (some ⟨b, off, none⟩) E.length c) ∧ W.cell? ⟨w.heap.size + 1, 0, none⟩ = some (.int .i64 M) ∧ W.cell? ⟨w.heap.size + 1, 1, none⟩ = some (.slice (some ⟨b', off', none⟩) D.length c') ∧ W.cell? ⟨b, off + k * 2, none⟩ = some (.int .i64 ya) ∧ W.cell? ⟨b, off + k * 2 + 1, none⟩ = some (.int .i64 yb) ∧ W.cell? ⟨b', off' + k * 2, none⟩ = some (.int .i64 za) ∧ W.cell? ⟨b', off' + k * 2 + 1, none⟩ = some (.int .i64 zb)) (exact HB.out _ (by first | exact ⟨0, rfl⟩ | exact ⟨1, rfl⟩ | assumption)) (fail)
                go_wp2
              · go_ret
                refine ⟨ret_bool ?_, Ext.trans (Ext.trans (ext_two w _ _) HX.out) (by repeat (first | exact Ext.refl _ | assumption | refine Ext.alloc ?_ _ | refine Ext.drew ?_ | refine Ext.drewN ?_ _))⟩
                rw [← HT.out, HN.out, decide_eq_false (fun e => of_decide_eq_false HV.out (HS.out.1 (by rw [e])).2)]
                rfl
              · go_roundw
                case rel => exact ⟨k + 1, by omega, by go_num, Lib.hid (HS.out.2 ⟨HE.out, of_decide_eq_true HV.out⟩), Lib.hid (HD.out.more 1)⟩
                case measure => simp [intOf]; omega
            · go_wp2
              go_ret
              have hkl : k = E.length := by omega
              have hn := HE.out
              rw [hkl, List.take_length, HL.out, List.take_length] at hn
              exact ⟨ret_bool (by rw [← HT.out, HN.out, decide_eq_true hn]; rfl), Ext.trans (ext_two w _ _) HX.out⟩
    · obtain ⟨ao, c, rfl⟩ := h.len
      obtain ⟨ao', c', rfl⟩ := g.len
      have hlen := h.length_le
      have hlen' := g.length_le
      have hne : ((E.length : Int) != (D.length : Int)) = true := by simp; omega
      have HL := Lib.hid hl
      clear hl h g
      go_enter Try.func14, Try.ntmps14
      go_wp2
      go_ret
      refine ⟨ret_bool ?_, (by repeat (first | exact Ext.refl _ | assumption | refine Ext.alloc ?_ _ | refine Ext.drew ?_ | refine Ext.drewN ?_ _))⟩
      rw [← HT.out, decide_eq_false (fun e : E = D => HL.out (by rw [e]))]
      simp
  · have hnn : (N != M) = true := by simp [hn]
    have HN := Lib.hid (decide_eq_false hn)
    obtain ⟨ao, c, rfl⟩ := h.len
    obtain ⟨ao', c', rfl⟩ := g.len
    clear hn h g
    go_enter Try.func14, Try.ntmps14
    go_wp2
    go_ret
    exact ⟨ret_bool (by rw [← HT.out, HN.out]; rfl), (by repeat (first | exact Ext.refl _ | assumption | refine Ext.alloc ?_ _ | refine Ext.drew ?_ | refine Ext.drewN ?_ _))⟩

set_option maxHeartbeats 1000000 in
theorem refRemove_no (w : World) (N : Int) (v : Value) (E : List Edge) (a b : Int) (h : Sl w v E) (r : Int) (hr : remR N E a b = r) (h0 : r ≠ 0) :
    Calls Try.prog 13 #[.agg #[.int .i64 N, v], .int .i64 a, .int .i64 b] w (GivesG w 0 [] r) := by
  obtain ⟨ao, c, rfl⟩ := h.len
  have HS := Lib.hid (h.ext (ext_two w (.cells #[.int .i64 N, .slice ao E.length c] 24) (.cells #[.int .i64 0, .slice none 0 0] 24)))
  have HK := Lib.hid (two_graphs w N (.slice ao E.length c))
  clear h
  by_cases ho : OkG N E
  · have HC := Lib.hid (okG_iff.2 ho)
    by_cases hd : badEnds N a b = true
    · have he : ends N E a b = 31 := by rw [ends_ok ho, if_pos hd]
      have hr' : r = 31 := by rw [← hr]; unfold remR; rw [he]; rfl
      subst hr'
      have HD : Hid ((!badEnds N a b) = false) := Lib.hid (by rw [hd]; rfl)
      clear hr h0 ho hd he
      go_enter Try.func13, Try.ntmps13
      go_wp2_with (first
        | (go_at_call 28; refine (refCheck_val _ N _ E (HS.out.ext (by repeat (first | exact Ext.refl _ | assumption | refine Ext.alloc ?_ _ | refine Ext.drew ?_ | refine Ext.drewN ?_ _))) _ HC.out).mono ?_; rintro e w1 ⟨rfl, x1⟩; obtain ⟨⟨p0, p1⟩, ⟨q0, q1⟩, f0, f1⟩ := HK.out w1 x1)
        | (go_at_call 29; refine (refNodes_val _ N _ a b _ HD.out ⟨_, _, _, rfl⟩).mono ?_; rintro e w2 ⟨rfl, x2⟩; have y2 := x1.trans x2; obtain ⟨⟨r0, r1⟩, ⟨s0, s1⟩, g0, g1⟩ := HK.out w2 y2))
      refine bodyPost_ret (v := .tuple #[.agg #[.int .i64 0, .slice none 0 0], .int .i64 31]) (by simp [results, Try.results13, go_sem, s0, s1]) rfl ⟨_, rfl, Sl.nilg _, ?_⟩
      exact below_set (below_set ((ext_two w _ _).trans y2) (by simp) _) (by simp) _
    · have he : ends N E a b = 0 := by rw [ends_ok ho, if_neg hd]
      have HD : Hid ((!badEnds N a b) = true) := Lib.hid (by rw [Bool.not_eq_true] at hd; rw [hd]; rfl)
      unfold remR at hr
      rw [if_pos he] at hr
      clear ho hd he
      by_cases hm : btw a b ∈ E
      · rw [if_pos hm] at hr
        exact absurd hr.symm h0
      · rw [if_neg hm] at hr
        subst hr
        clear h0
        have HM := Lib.hid (decide_eq_false hm)
        clear hm
        go_enter Try.func13, Try.ntmps13
        go_wp2_with (first
          | (go_at_call 28; refine (refCheck_val _ N _ E (HS.out.ext (by repeat (first | exact Ext.refl _ | assumption | refine Ext.alloc ?_ _ | refine Ext.drew ?_ | refine Ext.drewN ?_ _))) _ HC.out).mono ?_; rintro e w1 ⟨rfl, x1⟩; obtain ⟨⟨p0, p1⟩, ⟨q0, q1⟩, f0, f1⟩ := HK.out w1 x1)
          | (go_at_call 29; refine (refNodes_val _ N _ a b _ HD.out ⟨_, _, _, rfl⟩).mono ?_; rintro e w2 ⟨rfl, x2⟩; have y2 := x1.trans x2; obtain ⟨⟨r0, r1⟩, ⟨s0, s1⟩, g0, g1⟩ := HK.out w2 y2)
          | (go_at_call 30; refine (refHas_val _ N _ E a b (HS.out.ext (by repeat (first | exact Ext.refl _ | assumption | exact Hid.out (by assumption) | refine Ext.alloc ?_ _ | refine Ext.drew ?_ | refine Ext.drewN ?_ _ | refine Ext.trans ?_ (by assumption)))) _ HM.out).mono ?_; rintro e w3 ⟨rfl, x3⟩; have y3 := y2.trans x3; obtain ⟨⟨t0, t1⟩, ⟨u0, u1⟩, h0, h1⟩ := HK.out w3 y3))
        refine bodyPost_ret (v := .tuple #[.agg #[.int .i64 0, .slice none 0 0], .int .i64 33]) (by simp [results, Try.results13, go_sem, u0, u1]) rfl ⟨_, rfl, Sl.nilg _, ?_⟩
        exact below_set (below_set ((ext_two w _ _).trans y3) (by simp) _) (by simp) _
  · have he : ends N E a b = 30 := ends_bad ho
    have hr' : r = 30 := by rw [← hr]; unfold remR; rw [he]; rfl
    subst hr'
    have HC := Lib.hid (okG_not ho)
    clear hr h0 ho he
    go_enter Try.func13, Try.ntmps13
    go_wp2_with (first
      | (go_at_call 28; refine (refCheck_val _ N _ E (HS.out.ext (by repeat (first | exact Ext.refl _ | assumption | refine Ext.alloc ?_ _ | refine Ext.drew ?_ | refine Ext.drewN ?_ _))) _ HC.out).mono ?_; rintro e w1 ⟨rfl, x1⟩; obtain ⟨⟨p0, p1⟩, ⟨q0, q1⟩, f0, f1⟩ := HK.out w1 x1))
    refine bodyPost_ret (v := .tuple #[.agg #[.int .i64 0, .slice none 0 0], .int .i64 30]) (by simp [results, Try.results13, go_sem, q0, q1]) rfl ⟨_, rfl, Sl.nilg _, ?_⟩
    exact below_set (below_set ((ext_two w _ _).trans x1) (by simp) _) (by simp) _

set_option maxHeartbeats 1000000 in
theorem refAdd_no (w : World) (N : Int) (v : Value) (E : List Edge) (a b : Int) (h : Sl w v E) (r : Int) (hr : addR N E a b = r) (h0 : r ≠ 0) :
    Calls Try.prog 11 #[.agg #[.int .i64 N, v], .int .i64 a, .int .i64 b] w (GivesG w 0 [] r) := by
  obtain ⟨ao, c, rfl⟩ := h.len
  have HS := Lib.hid (h.ext (ext_two w (.cells #[.int .i64 N, .slice ao E.length c] 24) (.cells #[.int .i64 0, .slice none 0 0] 24)))
  have HK := Lib.hid (two_graphs w N (.slice ao E.length c))
  clear h
  by_cases ho : OkG N E
  · have HC := Lib.hid (okG_iff.2 ho)
    by_cases hd : badEnds N a b = true
    · have he : ends N E a b = 31 := by rw [ends_ok ho, if_pos hd]
      have hr' : r = 31 := by rw [← hr]; unfold addR; rw [he]; rfl
      subst hr'
      have HD : Hid ((!badEnds N a b) = false) := Lib.hid (by rw [hd]; rfl)
      clear hr h0 ho hd he
      go_enter Try.func11, Try.ntmps11
      go_wp2_with (first
        | (go_at_call 28; refine (refCheck_val _ N _ E (HS.out.ext (by repeat (first | exact Ext.refl _ | assumption | refine Ext.alloc ?_ _ | refine Ext.drew ?_ | refine Ext.drewN ?_ _))) _ HC.out).mono ?_; rintro e w1 ⟨rfl, x1⟩; obtain ⟨⟨p0, p1⟩, ⟨q0, q1⟩, f0, f1⟩ := HK.out w1 x1)
        | (go_at_call 29; refine (refNodes_val _ N _ a b _ HD.out ⟨_, _, _, rfl⟩).mono ?_; rintro e w2 ⟨rfl, x2⟩; have y2 := x1.trans x2; obtain ⟨⟨r0, r1⟩, ⟨s0, s1⟩, g0, g1⟩ := HK.out w2 y2))
      refine bodyPost_ret (v := .tuple #[.agg #[.int .i64 0, .slice none 0 0], .int .i64 31]) (by simp [results, Try.results11, go_sem, s0, s1]) rfl ⟨_, rfl, Sl.nilg _, ?_⟩
      exact below_set (below_set ((ext_two w _ _).trans y2) (by simp) _) (by simp) _
    · have he : ends N E a b = 0 := by rw [ends_ok ho, if_neg hd]
      have HD : Hid ((!badEnds N a b) = true) := Lib.hid (by rw [Bool.not_eq_true] at hd; rw [hd]; rfl)
      unfold addR at hr
      rw [if_pos he] at hr
      clear ho hd he
      by_cases hm : btw a b ∈ E
      · rw [if_pos hm] at hr
        subst hr
        clear h0
        have HM := Lib.hid (decide_eq_true hm)
        clear hm
        go_enter Try.func11, Try.ntmps11
        go_wp2_with (first
          | (go_at_call 28; refine (refCheck_val _ N _ E (HS.out.ext (by repeat (first | exact Ext.refl _ | assumption | refine Ext.alloc ?_ _ | refine Ext.drew ?_ | refine Ext.drewN ?_ _))) _ HC.out).mono ?_; rintro e w1 ⟨rfl, x1⟩; obtain ⟨⟨p0, p1⟩, ⟨q0, q1⟩, f0, f1⟩ := HK.out w1 x1)
          | (go_at_call 29; refine (refNodes_val _ N _ a b _ HD.out ⟨_, _, _, rfl⟩).mono ?_; rintro e w2 ⟨rfl, x2⟩; have y2 := x1.trans x2; obtain ⟨⟨r0, r1⟩, ⟨s0, s1⟩, g0, g1⟩ := HK.out w2 y2)
          | (go_at_call 30; refine (refHas_val _ N _ E a b (HS.out.ext (by repeat (first | exact Ext.refl _ | assumption | exact Hid.out (by assumption) | refine Ext.alloc ?_ _ | refine Ext.drew ?_ | refine Ext.drewN ?_ _ | refine Ext.trans ?_ (by assumption)))) _ HM.out).mono ?_; rintro e w3 ⟨rfl, x3⟩; have y3 := y2.trans x3; obtain ⟨⟨t0, t1⟩, ⟨u0, u1⟩, h0, h1⟩ := HK.out w3 y3))
        refine bodyPost_ret (v := .tuple #[.agg #[.int .i64 0, .slice none 0 0], .int .i64 32]) (by simp [results, Try.results11, go_sem, u0, u1]) rfl ⟨_, rfl, Sl.nilg _, ?_⟩
        exact below_set (below_set ((ext_two w _ _).trans y3) (by simp) _) (by simp) _
      · rw [if_neg hm] at hr
        by_cases hl : E.length = 400
        · rw [if_pos hl] at hr
          subst hr
          clear h0
          have HM := Lib.hid (decide_eq_false hm)
          clear hm
          have hll : ((E.length : Int) == 400) = true := by simp; omega
          clear hl
          go_enter Try.func11, Try.ntmps11
          go_wp2_with (first
            | (go_at_call 28; refine (refCheck_val _ N _ E (HS.out.ext (by repeat (first | exact Ext.refl _ | assumption | refine Ext.alloc ?_ _ | refine Ext.drew ?_ | refine Ext.drewN ?_ _))) _ HC.out).mono ?_; rintro e w1 ⟨rfl, x1⟩; obtain ⟨⟨p0, p1⟩, ⟨q0, q1⟩, f0, f1⟩ := HK.out w1 x1)
            | (go_at_call 29; refine (refNodes_val _ N _ a b _ HD.out ⟨_, _, _, rfl⟩).mono ?_; rintro e w2 ⟨rfl, x2⟩; have y2 := x1.trans x2; obtain ⟨⟨r0, r1⟩, ⟨s0, s1⟩, g0, g1⟩ := HK.out w2 y2)
            | (go_at_call 30; refine (refHas_val _ N _ E a b (HS.out.ext (by repeat (first | exact Ext.refl _ | assumption | exact Hid.out (by assumption) | refine Ext.alloc ?_ _ | refine Ext.drew ?_ | refine Ext.drewN ?_ _ | refine Ext.trans ?_ (by assumption)))) _ HM.out).mono ?_; rintro e w3 ⟨rfl, x3⟩; have y3 := y2.trans x3; obtain ⟨⟨t0, t1⟩, ⟨u0, u1⟩, h0, h1⟩ := HK.out w3 y3))
          refine bodyPost_ret (v := .tuple #[.agg #[.int .i64 0, .slice none 0 0], .int .i64 30]) (by simp [results, Try.results11, go_sem, u0, u1]) rfl ⟨_, rfl, Sl.nilg _, ?_⟩
          exact below_set (below_set ((ext_two w _ _).trans y3) (by simp) _) (by simp) _
        · rw [if_neg hl] at hr
          exact absurd hr.symm h0
  · have he : ends N E a b = 30 := ends_bad ho
    have hr' : r = 30 := by rw [← hr]; unfold addR; rw [he]; rfl
    subst hr'
    have HC := Lib.hid (okG_not ho)
    clear hr h0 ho he
    go_enter Try.func11, Try.ntmps11
    go_wp2_with (first
      | (go_at_call 28; refine (refCheck_val _ N _ E (HS.out.ext (by repeat (first | exact Ext.refl _ | assumption | refine Ext.alloc ?_ _ | refine Ext.drew ?_ | refine Ext.drewN ?_ _))) _ HC.out).mono ?_; rintro e w1 ⟨rfl, x1⟩; obtain ⟨⟨p0, p1⟩, ⟨q0, q1⟩, f0, f1⟩ := HK.out w1 x1))
    refine bodyPost_ret (v := .tuple #[.agg #[.int .i64 0, .slice none 0 0], .int .i64 30]) (by simp [results, Try.results11, go_sem, q0, q1]) rfl ⟨_, rfl, Sl.nilg _, ?_⟩
    exact below_set (below_set ((ext_two w _ _).trans x1) (by simp) _) (by simp) _

end Go.Proofs.Ytanflbjbcncklaa
