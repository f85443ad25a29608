/- Texts of this seat. -/
import Derived.Lib.SlicesCompact
import Derived.Sort.OwnSortedInts
import Derived.Test.YtfbambemjokmgaaGreatNAH
namespace Go.Proofs.YtfbambemjokmgaaGreat
open Go.RowKit
set_option maxRecDepth 100000 in
set_option maxHeartbeats 2000000 in
theorem meant_one (W : World) (g1 g2 : Nat) (p k me n : Int) (s : Sd) (h1 : W.heap[g1]? = some (.cells #[.int .i64 p] 3 (0, 0))) (h2 : W.heap[g2]? = some (.cells #[.int .i64 k, .int .i64 me, .int .i64 n] 93 (0, 0))) (t : Bool) (ht : (s.peer == p && s.epoch == me) = t) :
    Calls Tryz.prog 163 #[.agg s.cs, .pointer (some ⟨g1, 0, none⟩), .pointer (some ⟨g2, 0, none⟩)] W fun e W' => e = .returned (.bool t) ∧ Ext W W' := by
  obtain ⟨y0, y1, y2, y3, y4, y5, y6, y7⟩ := s
  unfold Sd.cs
  dsimp only at ht ⊢
  obtain ⟨W1, hW1⟩ : ∃ W1, W1 = W.alloc (.cells #[.int .i64 y0, .int .i64 y1, .int .i64 y2, .bool y3, .bool y4, .bool y5, .bool y6, .bool y7] 66) := ⟨_, rfl⟩
  have X1 : Hid (Ext W W1) := Lib.hid (hW1 ▸ (Ext.refl W).alloc _)
  have d1 : W1.heap[W.heap.size]? = some (.cells #[.int .i64 y0, .int .i64 y1, .int .i64 y2, .bool y3, .bool y4, .bool y5, .bool y6, .bool y7] 66 (0, 0)) := hW1 ▸ at0 W _
  have HW1 := Lib.hid hW1
  have x0 := blk_cell d1 0 rfl
  have x1 := blk_cell d1 1 rfl
  have k1 := blk_cell (keepU h1 X1.out) 0 rfl
  have k2 := blk_cell (keepU h2 X1.out) 1 rfl
  have HT := Lib.hid ht
  clear ht h1 h2 hW1 d1
  by_cases e1 : y0 = p
  · have t1 : (y0 == p) = true := by simp [e1]
    by_cases e2 : y1 = me
    · have t2 : (y1 == me) = true := by simp [e2]
      have HF : Hid (true = t) := Lib.hid (by rw [← HT.out, t1, t2]; rfl)
      clear e1 e2 HT
      go_enter Tryz.func163, Tryz.ntmps163
      go_upto_region 1 with (fail)
      rw [← HW1.out]
      go_wp2
      go_ret
      exact ⟨ret_bool HF.out, X1.out⟩
    · have t2 : (y1 == me) = false := by simp [e2]
      have HF : Hid (false = t) := Lib.hid (by rw [← HT.out, t1, t2]; rfl)
      clear e1 e2 HT
      go_enter Tryz.func163, Tryz.ntmps163
      go_upto_region 1 with (fail)
      rw [← HW1.out]
      go_wp2
      go_ret
      exact ⟨ret_bool HF.out, X1.out⟩
  · have t1 : (y0 == p) = false := by simp [e1]
    have HF : Hid (false = t) := Lib.hid (by rw [← HT.out, t1]; rfl)
    clear e1 HT
    go_enter Tryz.func163, Tryz.ntmps163
    go_upto_region 1 with (fail)
    rw [← HW1.out]
    go_wp2
    go_ret
    exact ⟨ret_bool HF.out, X1.out⟩
theorem index_meant (w : World) (v : Value) (L : List Sd) (g1 g2 : Nat) (p k me n : Int) (h : Sl w v L) (h1 : w.heap[g1]? = some (.cells #[.int .i64 p] 3 (0, 0))) (h2 : w.heap[g2]? = some (.cells #[.int .i64 k, .int .i64 me, .int .i64 n] 93 (0, 0))) :
    Calls Tryz.prog 162 #[v, .func (.func 163) #[] #[.pointer (some ⟨g1, 0, none⟩), .pointer (some ⟨g2, 0, none⟩)]] w fun e w' => ∃ r : Int, e = .returned (.int .i64 r) ∧ ((r = -1 ∧ findS (fun s => s.peer == p && s.epoch == me) L = none) ∨ ∃ (i : Nat) (s : Sd), r = (i : Int) ∧ L[i]? = some s ∧ findS (fun s => s.peer == p && s.epoch == me) L = some (i, s)) ∧ Ext w w' := by
  refine (indexFunc_sd w v L 163 #[.pointer (some ⟨g1, 0, none⟩), .pointer (some ⟨g2, 0, none⟩)] (fun _ V => Ext w V) (fun _ s => s.peer == p && s.epoch == me) (enters_of Tryz.func163 (by kernel_rfl) rfl) (fun _ W hW => h.ext hW) ?_ (Ext.refl w)).mono ?_
  · intro i s W hi hW
    refine (meant_one W g1 g2 p k me n s (keepU h1 hW) (keepU h2 hW) _ rfl).mono ?_
    rintro e W' ⟨rfl, hx⟩
    exact ⟨rfl, Ext.trans hW hx⟩
  · rintro e w' ⟨r, rfl, hr, i, hx⟩
    refine ⟨r, rfl, ?_, hx⟩
    rcases hr with ⟨e, hn⟩ | ⟨i, s, e, hs, hq, hn⟩
    · exact .inl ⟨e, findS_none hn⟩
    · exact .inr ⟨i, s, e, hs, findS_some hs hq hn⟩
set_option maxRecDepth 100000 in
set_option maxHeartbeats 8000000 in
theorem get_any (w : World) (id ph p k me n : Int) (v : Value) (L : List Sd) (h : Sl w v L) (hl : L.length ≤ 1000) :
    Calls Tryz.prog 135 #[.agg #[.int .i64 id, .int .i64 ph, v], .int .i64 p, .agg #[.int .i64 k, .int .i64 me, .int .i64 n]] w (GivesE w (getR ⟨id, ph, L⟩ p k me n)) := by
  obtain ⟨ao, c, rfl⟩ := h.len
  have hmf : ∀ (fn : Fn) (first cap : Array Value) (w : World), (Instr.makeFunc fn first cap).run Tryz.prog w = .ok (.func fn first cap) w := fun _ _ _ _ => rfl
  have hlen := h.length_le
  obtain ⟨W0, hW0⟩ : ∃ W0, W0 = (((w.alloc (.cells #[.int .i64 id, .int .i64 ph, .slice ao L.length c] 61)).alloc (.cells #[.int .i64 p] 3)).alloc (.cells #[.int .i64 k, .int .i64 me, .int .i64 n] 93)).alloc (.cells #[.int .i64 0, .int .i64 0, .slice none 0 0] 61) := ⟨_, rfl⟩
  have X0 : Hid (Ext w W0) := Lib.hid (hW0 ▸ ((((Ext.refl w).alloc _).alloc _).alloc _).alloc _)
  have D0 : Hid (W0.heap[w.heap.size]? = some (.cells #[.int .i64 id, .int .i64 ph, .slice ao L.length c] 61 (0, 0))) := Lib.hid (hW0 ▸ old1 (old1 (old1 (at0 w _) _) _) _)
  have P0 : Hid (W0.heap[w.heap.size + 1]? = some (.cells #[.int .i64 p] 3 (0, 0))) := Lib.hid (hW0 ▸ old1 (old1 (at1 w _ _) _) _)
  have M0 : Hid (W0.heap[w.heap.size + 2]? = some (.cells #[.int .i64 k, .int .i64 me, .int .i64 n] 93 (0, 0))) := Lib.hid (hW0 ▸ old1 (at2 w _ _ _) _)
  have R0 : Hid (W0.heap[w.heap.size + 3]? = some (.cells #[.int .i64 0, .int .i64 0, .slice none 0 0] 61 (0, 0))) := Lib.hid (hW0 ▸ at3 w _ _ _ _)
  have hs0 : W0.heap.size = w.heap.size + 4 := by rw [hW0, size_alloc, size_alloc, size_alloc, size_alloc]
  have HW0 := Lib.hid hW0
  have HS := Lib.hid (h.ext X0.out)
  clear h hW0
  obtain ⟨d0, d1, d2⟩ := cells3U D0.out
  obtain ⟨t, ht⟩ : ∃ t, dnOk ⟨id, ph, L⟩ = t := ⟨_, rfl⟩
  have HT := Lib.hid ht
  clear ht
  go_enter Tryz.func135, Tryz.ntmps135
  go_upto_region 1 with (fail)
  rw [← HW0.out]
  cases t
  · have HR : Hid (getR ⟨id, ph, L⟩ p k me n = (noD, 130)) := Lib.hid (by unfold getR; rw [HT.out]; rfl)
    go_upto_region 3 with (first
      | (go_at_call 103; refine (dCheck_any W0 id ph _ L HS.out false HT.out).mono ?_; rintro e w1 ⟨rfl, hx⟩; dsimp only [cond]; have X1 := Lib.hid hx; clear hx))
    go_wp2_with (first | refine haltst 61 ?_)
    refine .inl ?_
    refine st_l 61 (.tmp 6) (.tmp 17) (w.heap.size + 3) 0 61 #[.int .i64 0, .int .i64 0, .slice none 0 0] #[.int .i64 0, .int .i64 0, .slice none 0 0] #[.int .i64 0, .int .i64 0, .slice none 0 0] rfl rfl (keepU R0.out X1.out) (by kernel_rfl) (by simp) rfl rfl ?_
    intro W9 hW9 o9
    simp only [Act.put]
    go_wp2
    exact bodyPost_ret (v := .tuple #[.agg #[.int .i64 0, .int .i64 0, .slice none 0 0], .int .i64 130]) (res_ct 7 rfl rfl hW9 uDiner (by kernel_rfl)) rfl (givesNo HR.out (ext_off (X0.out.trans X1.out) o9 (fun b hb => by omega)))
  · go_upto_region 4 with (first
      | (go_at_call 103; refine (dCheck_any W0 id ph _ L HS.out true HT.out).mono ?_; rintro e w1 ⟨rfl, hx⟩; dsimp only [cond]; have X1 := Lib.hid hx; clear hx))
    clear d0 d1 d2
    obtain ⟨d0, d1, d2⟩ := cells3U (keepU D0.out X1.out)
    go_upto_region 6 with (first
      | (go_at_call 162; refine (index_meant w1 _ L (w.heap.size + 1) (w.heap.size + 2) p k me n (HS.out.ext X1.out) (keepU P0.out X1.out) (keepU M0.out X1.out)).mono ?_; rintro e w2 ⟨r, rfl, hr, hx⟩; have X2 := Lib.hid (X1.out.trans hx); have HRR := Lib.hid hr; clear hx hr))
    clear d0 d1 d2
    obtain ⟨d0, d1, d2⟩ := cells3U (keepU D0.out X2.out)
    rcases HRR.out with ⟨rfl, hf⟩ | ⟨i, s, rfl, hsi, hf⟩
    · have HR : Hid (getR ⟨id, ph, L⟩ p k me n = (noD, 131)) := Lib.hid (by unfold getR; rw [HT.out, if_pos rfl]; dsimp only; rw [hf])
      clear hf HRR
      go_upto_region 7 with (fail)
      go_wp2_with (first | refine haltst 61 ?_)
      refine .inl ?_
      refine st_l 61 (.tmp 6) (.tmp 26) (w.heap.size + 3) 0 61 #[.int .i64 0, .int .i64 0, .slice none 0 0] #[.int .i64 0, .int .i64 0, .slice none 0 0] #[.int .i64 0, .int .i64 0, .slice none 0 0] rfl rfl (keepU R0.out X2.out) (by kernel_rfl) (by simp) rfl rfl ?_
      intro W9 hW9 o9
      simp only [Act.put]
      go_wp2
      exact bodyPost_ret (v := .tuple #[.agg #[.int .i64 0, .int .i64 0, .slice none 0 0], .int .i64 131]) (res_ct 7 rfl rfl hW9 uDiner (by kernel_rfl)) rfl (givesNo HR.out (ext_off (X0.out.trans X2.out) o9 (fun b hb => by omega)))
    · have hlt : i < L.length := (List.getElem?_eq_some_iff.1 hsi).1
      have ho1 : ¬ ((i : Int) < 0) := by omega
      obtain ⟨⟨s', er⟩, hwr⟩ : ∃ r, withR s k n = r := ⟨_, rfl⟩
      have HWI := Lib.hid (fun W => hwr ▸ with_any W s k me n)
      have HRR2 : Hid (getR ⟨id, ph, L⟩ p k me n = if er = 0 then (⟨id, ph, L.set i s'⟩, 0) else (noD, er)) := Lib.hid (by unfold getR; rw [HT.out, if_pos rfl]; dsimp only; rw [hf]; dsimp only; rw [hwr])
      clear hf HRR hwr
      obtain ⟨b1, off, s2, hsy, hsj, rfl, hn1, hnc, hc63, hb, hcs⟩ := HS.out.sidesAt hlt
      obtain rfl : s2 = s := by have := hsj.symm.trans hsi; simpa using this
      have HCS := Lib.hid hcs
      clear hsy hsj hsi hcs hn1
      obtain ⟨y0, y1, y2, y3, y4, y5, y6, y7⟩ := s2
      obtain ⟨u0, u1, u2, u3, u4, u5, u6, u7⟩ := s'
      unfold Sd.cs at HWI
      dsimp only at HCS HWI
      go_upto_region 8 with (fail)
      go_cut [11, 12] (fun s11 s12 wx => ∃ g, s11 = .pointer (some ⟨g, 0, none⟩) ∧ s12 = .int .i64 er ∧ Hid (wx.heap[g]? = some (.cells #[.int .i64 u0, .int .i64 u1, .int .i64 u2, .bool u3, .bool u4, .bool u5, .bool u6, .bool u7] 66 (0, 0))) ∧ Hid (Ext W0 wx) ∧ W0.heap.size ≤ g)
      case first =>
        (refine wp_region_X_lit (K := fun V => Ext W0 V) (by kernel_rfl) (fun w1 hw1 => ?_))
        have HV1 : Hid (Ext W0 w1) := Lib.hid (X2.out.trans hw1)
        clear hw1
        refine xtv 0 (h := ?_)
        refine xtv 1 (hv := by intro w' hw'; have q2 := blk_cell (keepU D0.out hw') 2 rfl; go_simp; first | done | with_reducible rfl) (h := ?_)
        refine xtv 2 (h := ?_)
        refine xtv 3 (h := ?_)
        refine xtv 4 (hv := by intro w' hw'; obtain ⟨⟨⟨x0, x1⟩, x2, x3⟩, ⟨x4, x5⟩, x6, x7⟩ := HCS.out w' hw'; go_simp; first | done | with_reducible rfl) (h := ?_)
        refine xtv 5 (hv := by intro w' hw'; obtain ⟨m0, m1, m2⟩ := cells3U (keepU M0.out hw'); go_simp; first | done | with_reducible rfl) (h := ?_)
        refine xtwo 6 10 (hk := HV1.out) (h := RunX.of 6 (h := ?_)) (h' := RunX.of 10 (h := ?_))
        · go_simp
          refine (HWI.out w1).mono ?_
          rintro e6 w6 ⟨rfl, x6⟩
          have Y6 : Hid (Ext W0 w6) := Lib.hid (Ext.trans HV1.out x6)
          clear x6
          dsimp only
          (try (simp only [Act.put, List.setIfInBounds_toArray, List.set]))
          refine xtv 7 (h := ?_)
          refine xtv 8 (h := ?_)
          refine xtv 9 (h := ?_)
          refine xone 10 (hk := Y6.out) (h := RunX.of 10 (h := ?_))
          go_simp
          (try (simp only [Act.put, List.setIfInBounds_toArray, List.set]))
          obtain ⟨W7, hW7⟩ : ∃ W7, W7 = w6.alloc (.cells #[.int .i64 0, .int .i64 0, .int .i64 0, .bool false, .bool false, .bool false, .bool false, .bool false] 66) := ⟨_, rfl⟩
          have Y7 : Hid (Ext W0 W7) := Lib.hid (hW7 ▸ Y6.out.alloc _)
          have B7 : Hid (W7.heap[w6.heap.size]? = some (.cells #[.int .i64 0, .int .i64 0, .int .i64 0, .bool false, .bool false, .bool false, .bool false, .bool false] 66 (0, 0))) := Lib.hid (hW7 ▸ at0 w6 _)
          have hg7 : W0.heap.size ≤ w6.heap.size := Below.size Y6.out
          rw [← hW7]
          clear hW7
          refine xone 11 (hk := Y7.out) (h := RunX.of 11 (h := ?_))
          refine wp_st 66 (.tmp 11) (.tmp 35) rfl w6.heap.size 0 66 #[.int .i64 0, .int .i64 0, .int .i64 0, .bool false, .bool false, .bool false, .bool false, .bool false] #[.int .i64 u0, .int .i64 u1, .int .i64 u2, .bool u3, .bool u4, .bool u5, .bool u6, .bool u7] #[.int .i64 u0, .int .i64 u1, .int .i64 u2, .bool u3, .bool u4, .bool u5, .bool u6, .bool u7] rfl rfl B7.out (by kernel_rfl) (by simp) rfl rfl ?_
          intro WB hWB oB
          simp only [Act.put]
          have YB : Hid (Ext W0 WB) := Lib.hid (ext_off Y7.out oB (fun b hb => by omega))
          have RB := Lib.hid hWB
          clear hWB oB
          refine xtv 12 (h := ?_)
          (refine xdone (by kernel_rfl) (YB.out) ?_)
          go_wp2_with fail
          go_meet
          exact ⟨_, rfl, rfl, RB, YB, hg7⟩
        · go_simp
          (try (simp only [Act.put, List.setIfInBounds_toArray, List.set]))
          obtain ⟨W7, hW7⟩ : ∃ W7, W7 = w1.alloc (.cells #[.int .i64 0, .int .i64 0, .int .i64 0, .bool false, .bool false, .bool false, .bool false, .bool false] 66) := ⟨_, rfl⟩
          have Y7 : Hid (Ext W0 W7) := Lib.hid (hW7 ▸ HV1.out.alloc _)
          have B7 : Hid (W7.heap[w1.heap.size]? = some (.cells #[.int .i64 0, .int .i64 0, .int .i64 0, .bool false, .bool false, .bool false, .bool false, .bool false] 66 (0, 0))) := Lib.hid (hW7 ▸ at0 w1 _)
          have hg7 : W0.heap.size ≤ w1.heap.size := Below.size HV1.out
          rw [← hW7]
          clear hW7
          refine xone 6 (hk := Y7.out) (h := RunX.of 6 (h := ?_))
          go_simp
          refine (HWI.out W7).mono ?_
          rintro e6 w6 ⟨rfl, x6⟩
          have Y6 : Hid (Ext W0 w6) := Lib.hid (Ext.trans Y7.out x6)
          have B6 : Hid (w6.heap[w1.heap.size]? = some (.cells #[.int .i64 0, .int .i64 0, .int .i64 0, .bool false, .bool false, .bool false, .bool false, .bool false] 66 (0, 0))) := Lib.hid (keepU B7.out x6)
          clear x6
          dsimp only
          (try (simp only [Act.put, List.setIfInBounds_toArray, List.set]))
          refine xtv 7 (h := ?_)
          refine xtv 8 (h := ?_)
          refine xtv 9 (h := ?_)
          refine xone 11 (hk := Y6.out) (h := RunX.of 11 (h := ?_))
          refine wp_st 66 (.tmp 11) (.tmp 35) rfl w1.heap.size 0 66 #[.int .i64 0, .int .i64 0, .int .i64 0, .bool false, .bool false, .bool false, .bool false, .bool false] #[.int .i64 u0, .int .i64 u1, .int .i64 u2, .bool u3, .bool u4, .bool u5, .bool u6, .bool u7] #[.int .i64 u0, .int .i64 u1, .int .i64 u2, .bool u3, .bool u4, .bool u5, .bool u6, .bool u7] rfl rfl B6.out (by kernel_rfl) (by simp) rfl rfl ?_
          intro WB hWB oB
          simp only [Act.put]
          have YB : Hid (Ext W0 WB) := Lib.hid (ext_off Y6.out oB (fun b hb => by omega))
          have RB := Lib.hid hWB
          clear hWB oB
          refine xtv 12 (h := ?_)
          (refine xdone (by kernel_rfl) (YB.out) ?_)
          go_wp2_with fail
          go_meet
          exact ⟨_, rfl, rfl, RB, YB, hg7⟩
      case rest =>
        obtain ⟨g, rfl, rfl, HG, HXC, hg⟩ := hcut
        clear d0 d1 d2
        by_cases he : er = 0
        · subst he
          have HR : Hid (getR ⟨id, ph, L⟩ p k me n = (⟨id, ph, L.set i ⟨u0, u1, u2, u3, u4, u5, u6, u7⟩⟩, 0)) := Lib.hid (by rw [HRR2.out, if_pos rfl])
          have d2 := blk_cell (keepU D0.out HXC.out) 2 rfl
          go_upto_region 11 with (fail)
          go_upto_region 12 with (first
            | (go_at_call 72; refine (clone_sd wc _ L (HS.out.ext HXC.out) hl).mono ?_; rintro e w5 ⟨v5, rfl, o5, x5⟩; obtain ⟨a5, n5, c5, rfl⟩ := o5.sh; have X5 : Hid (Ext wc w5) := Lib.hid x5; have O5 := Lib.hid o5; have hcc := blk_cell (keepU (keepU D0.out HXC.out) x5) 2 rfl; have f5 := blk_free (keepU (keepU D0.out HXC.out) x5) 2; clear o5 x5))
          have hcs : W0.heap.size ≤ wc.heap.size := Below.size HXC.out
          have hgc : g < wc.heap.size := blk_lt HG.out
          obtain ⟨W6, hW6⟩ : ∃ W6, W6 = w5.setCell ⟨w.heap.size, 2, none⟩ (.slice a5 n5 c5) := ⟨_, rfl⟩
          have D6 : Hid (W6.heap[w.heap.size]? = some (.cells #[.int .i64 id, .int .i64 ph, .slice a5 n5 c5] 61 (0, 0))) := Lib.hid (by rw [hW6, blk_set (keepU (keepU D0.out HXC.out) X5.out)]; rfl)
          have R6 : Hid (W6.heap[w.heap.size + 3]? = some (.cells #[.int .i64 0, .int .i64 0, .slice none 0 0] 61 (0, 0))) := Lib.hid (by rw [hW6, set_other _ _ _ _ (by show w.heap.size + 3 ≠ w.heap.size; omega)]; exact keepU (keepU R0.out HXC.out) X5.out)
          have G6 : Hid (W6.heap[g]? = some (.cells #[.int .i64 u0, .int .i64 u1, .int .i64 u2, .bool u3, .bool u4, .bool u5, .bool u6, .bool u7] 66 (0, 0))) := Lib.hid (by rw [hW6, set_other _ _ _ _ (by show g ≠ w.heap.size; omega)]; exact keepU HG.out X5.out)
          have X6 : Hid (Ext w W6) := Lib.hid (hW6 ▸ below_set (X0.out.trans (HXC.out.trans X5.out)) (Nat.le_refl _) _)
          have S6 : Ow W6 wc.heap.size (.slice a5 n5 c5) L := hW6 ▸ O5.out.set (d := ⟨w.heap.size, 2, none⟩) (by show w.heap.size < _; omega) _
          rw [← hW6]
          clear hW6 d2 f5 hcc O5
          obtain ⟨gs, cur, rfl, hgs, rfl, hnc6, hc636, hcur, hcsz, hput⟩ := S6.setAt hlt ⟨u0, u1, u2, u3, u4, u5, u6, u7⟩
          have HCUR := Lib.hid hcur
          have HPUT := Lib.hid hput
          have HCZ : Hid (i * 8 + 8 ≤ cur.size) := Lib.hid hcsz
          have d2 := blk_cell D6.out 2 rfl
          obtain ⟨⟨⟨z0, z1⟩, z2, z3⟩, ⟨z4, z5⟩, z6, z7⟩ := cells8U G6.out
          clear hcur hput hcsz S6
          go_wp2_with (first | refine haltst 66 ?_)
          refine .inl ?_
          refine st_l 66 (.tmp 49) (.tmp 48) gs (i * 8) 66 cur #[.int .i64 u0, .int .i64 u1, .int .i64 u2, .bool u3, .bool u4, .bool u5, .bool u6, .bool u7] _ rfl rfl HCUR.out (by kernel_rfl) HCZ.out rfl rfl ?_
          intro W8 hW8 o8
          simp only [Act.put]
          have O8 := Lib.hid (HPUT.out W8 hW8)
          have X8 := Lib.hid (ext_off X6.out o8 (fun b hb => by omega))
          have R8 := Lib.hid ((o8.block (w.heap.size + 3) (blk_lt R6.out) (by omega)).trans R6.out)
          have hd8 := (o8.block w.heap.size (blk_lt D6.out) (by omega)).trans D6.out
          obtain ⟨e0, e1, e2⟩ := cells3U hd8
          clear hW8 o8 hd8 d2 z0 z1 z2 z3 z4 z5 z6 z7
          go_wp2_with (first | refine haltst 61 ?_)
          refine .inl ?_
          refine st_l 61 (.tmp 6) (.tmp 50) (w.heap.size + 3) 0 61 #[.int .i64 0, .int .i64 0, .slice none 0 0] #[.int .i64 id, .int .i64 ph, .slice (some ⟨gs, 0, none⟩) L.length c5] #[.int .i64 id, .int .i64 ph, .slice (some ⟨gs, 0, none⟩) L.length c5] rfl rfl R8.out (by kernel_rfl) (by simp) rfl rfl ?_
          intro W9 hW9 o9
          simp only [Act.put]
          go_wp2
          exact bodyPost_ret (v := .tuple #[.agg #[.int .i64 id, .int .i64 ph, .slice (some ⟨gs, 0, none⟩) L.length c5], .int .i64 0]) (res_ct 7 rfl rfl hW9 uDiner (by kernel_rfl)) rfl (by
            rw [HR.out]
            exact ⟨_, rfl, slOffU O8.out.sl (fun b hb => (O8.out.low b hb).1) o9 (by omega), ext_off X8.out o9 (fun b hb => by omega), fun b hb => by have := (O8.out.low b hb).1; omega⟩)
        · have HR : Hid (getR ⟨id, ph, L⟩ p k me n = (noD, er)) := Lib.hid (by rw [HRR2.out, if_neg he])
          have t9 : (er != 0) = true := by simp [he]
          clear he
          go_upto_region 10 with (fail)
          go_wp2_with (first | refine haltst 61 ?_)
          refine .inl ?_
          refine st_l 61 (.tmp 6) (.tmp 39) (w.heap.size + 3) 0 61 #[.int .i64 0, .int .i64 0, .slice none 0 0] #[.int .i64 0, .int .i64 0, .slice none 0 0] #[.int .i64 0, .int .i64 0, .slice none 0 0] rfl rfl (keepU R0.out HXC.out) (by kernel_rfl) (by simp) rfl rfl ?_
          intro W9 hW9 o9
          simp only [Act.put]
          go_wp2
          exact bodyPost_ret (v := .tuple #[.agg #[.int .i64 0, .int .i64 0, .slice none 0 0], .int .i64 er]) (res_ct 7 rfl rfl hW9 uDiner (by kernel_rfl)) rfl (givesNo HR.out (ext_off (X0.out.trans HXC.out) o9 (fun b hb => by omega)))
end Go.Proofs.YtfbambemjokmgaaGreat
namespace Go.Proofs.YtfbambemjokmgaaGreat
section
variable {n : Nat} {nb : Nat → List Nat} {ep : Int} {X : Nat → Nat → Sd} {P : Nat → Int} {ms : List Ml} {i : Nat}
theorem up_len : ∀ {l : List Nat} {a b : Nat}, l.Pairwise (· < ·) → (∀ x ∈ l, a ≤ x ∧ x < b) → l.length ≤ b - a
  | [], _, _, _, _ => Nat.zero_le _
  | x :: l, a, b, h, hx => by
    obtain ⟨h1, h2⟩ := List.pairwise_cons.1 h
    have q := hx x (List.mem_cons_self ..)
    have := up_len (a := x + 1) (b := b) h2 fun y hy => ⟨h1 y hy, (hx y (List.mem_cons_of_mem _ hy)).2⟩
    rw [List.length_cons]
    omega
theorem nb_len (hn : NB n nb) (hi : i < n) : (nb i).length ≤ n - 1 := by
  -- all are below n, and i isn't one
  have h1 : (nb i).length = ((nb i).map fun k => if k < i then k else k - 1).length := by rw [List.length_map]
  rw [h1]
  refine up_len (a := 0) (b := n - 1) ?_ fun x hx => ?_
  · rw [List.pairwise_map]
    refine (hn.up i).imp_of_mem fun {a b} ha hb hab => ?_
    have q1 := (hn.back i a hi ha).2.1
    have q2 := (hn.back i b hi hb).2.1
    split <;> split <;> omega
  · obtain ⟨k, hk, rfl⟩ := List.mem_map.1 hx
    have q := hn.back i k hi hk
    split <;> omega
theorem sidesD_nb {id : Int} (f : Nat → Sd) : ∀ {l : List Nat} {last : Int}, l.Pairwise (· < ·) → (∀ k ∈ l, last < k ∧ (f k).peer = k ∧ (k : Int) ≠ id ∧ 0 ≤ (f k).epoch ∧ (f k).epoch ≤ 65535 ∧ (f k).state = 0 ∧ ((f k).dirty && !(f k).fork) = false) → sidesD id last (l.map f) = true
  | [], _, _, _ => rfl
  | k :: l, last, h, hf => by
    obtain ⟨h1, h2⟩ := List.pairwise_cons.1 h
    obtain ⟨q1, q2, q3, q4, q5, q6, q7⟩ := hf k (List.mem_cons_self ..)
    rw [List.map_cons]
    refine sidesD_cons.2 ⟨?_, ?_⟩
    · unfold sideD
      rw [q2, q6, q7]
      simp only [Bool.and_eq_true, decide_eq_true_eq]
      exact ⟨q1, q3, q4, q5, by decide, by decide, rfl⟩
    · rw [q2]
      exact sidesD_nb f h2 fun j hj => ⟨by have := h1 j hj; omega, (hf j (List.mem_cons_of_mem _ hj)).2⟩
theorem Cl.dx {x y : Sd} {pa : Int} (c : Cl x y pa) : (x.dirty && !x.fork) = false ∧ (y.dirty && !y.fork) = false := by
  refine ⟨?_, by rw [c.yd]; rfl⟩
  cases h : x.fork
  · rw [c.xd h]; rfl
  · simp
theorem EO.dx {a b ep : Int} {x y : Sd} {mab mba : List Ml} {pa pb : Int} (h : EO a b ep x y mab mba pa pb) : (x.dirty && !x.fork) = false := by
  rcases h with h | h
  · exact h.c.dx.1
  · exact h.c.dx.2
theorem TB.ok (hn : NB n nb) (h64 : n ≤ 64) (h0 : 0 ≤ ep) (h1 : ep ≤ 65535) (h : TB n nb ep X P ms) (hi : i < n) : dnOk ⟨i, P i, (nb i).map (X i)⟩ = true := by
  unfold dnOk headD
  dsimp only
  have hl := nb_len hn hi
  rw [Bool.and_eq_true, Bool.and_eq_true, Bool.and_eq_true]
  refine ⟨⟨by rw [decide_eq_true_eq]; omega, ?_, by rw [decide_eq_true_eq, List.length_map]; omega⟩, ?_⟩
  · have := h.ph i hi
    simp only [Bool.or_eq_true, decide_eq_true_eq]
    omega
  · refine sidesD_nb (X i) (hn.up i) fun k hk => ?_
    have q := h.pr i k hi hk
    have b := hn.back i k hi hk
    exact ⟨by omega, q.1, by omega, by rw [q.2]; exact h0, by rw [q.2]; exact h1, h.lv i k hi hk, (h.edge i k hi hk).dx⟩
theorem set_nb (f : Nat → Sd) (s : Sd) {k : Nat} : ∀ {l : List Nat} {j : Nat}, l.Pairwise (· < ·) → l[j]? = some k → (l.map f).set j s = l.map fun a => if a = k then s else f a
  | [], _, _, h => by simp at h
  | a :: l, 0, hp, h => by
    obtain rfl : a = k := by simpa using h
    obtain ⟨h1, h2⟩ := List.pairwise_cons.1 hp
    rw [List.map_cons, List.set_cons_zero, List.map_cons, if_pos rfl]
    congr 1
    refine List.map_congr_left fun b hb => ?_
    rw [if_neg (by have := h1 b hb; omega)]
  | a :: l, j + 1, hp, h => by
    obtain ⟨h1, h2⟩ := List.pairwise_cons.1 hp
    have h' : l[j]? = some k := by simpa using h
    have hk : a ≠ k := by have := h1 k (List.mem_of_getElem? h'); omega
    rw [List.map_cons, List.set_cons_succ, List.map_cons, if_neg hk, set_nb f s h2 h']
theorem find_nb (f : Nat → Sd) (q : Sd → Bool) {k : Nat} {l : List Nat} (hk : k ∈ l) (hp : l.Pairwise (· < ·)) (h1 : q (f k) = true) (h2 : ∀ j, j ∈ l → j ≠ k → q (f j) = false) : ∃ j, l[j]? = some k ∧ findS q (l.map f) = some (j, f k) := by
  obtain ⟨j, hj⟩ := List.getElem?_of_mem hk
  refine ⟨j, hj, findS_some (by rw [List.getElem?_map, hj]; rfl) h1 fun a u ha hu => ?_⟩
  rw [List.getElem?_map, Option.map_eq_some_iff] at hu
  obtain ⟨b, hb, rfl⟩ := hu
  refine h2 b (List.mem_of_getElem? hb) fun e => ?_
  subst e
  obtain ⟨q1, e1⟩ := List.getElem?_eq_some_iff.1 hb
  obtain ⟨q2, e2⟩ := List.getElem?_eq_some_iff.1 hj
  have := List.pairwise_iff_getElem.1 hp a j q1 q2 ha
  omega
end
end Go.Proofs.YtfbambemjokmgaaGreat
namespace Go.Proofs.YtfbambemjokmgaaGreat
section
variable {n : Nat} {nb : Nat → List Nat} {ep : Int} {X : Nat → Nat → Sd} {P : Nat → Int} {ms : List Ml} {i : Nat}
def act (n : Nat) (P : Nat → Int) : Nat := (List.range n).countP fun i => P i != 0
theorem act_same {P P' : Nat → Int} (h : ∀ i, i < n → (P' i = 0 ↔ P i = 0)) : act n P' = act n P := by
  unfold act
  refine List.countP_congr fun i hi => ?_
  have := h i (List.mem_range.1 hi)
  simp only [bne_iff_ne, ne_eq]
  rw [this]
theorem act_le (n : Nat) (P : Nat → Int) : act n P ≤ n := by
  unfold act
  have := List.countP_le_length (p := fun i => P i != 0) (l := List.range n)
  rwa [List.length_range] at this
theorem countP_one {α : Type} [DecidableEq α] {p q : α → Bool} {x : α} (hq : q x = true) (hp : p x = false) : ∀ {l : List α}, l.Nodup → (∀ y ∈ l, y ≠ x → p y = q y) → x ∈ l → l.countP p + 1 = l.countP q
  | [], _, _, hx => by cases hx
  | y :: l, hn, h, hx => by
    obtain ⟨h1, h2⟩ := List.nodup_cons.1 hn
    rw [List.countP_cons, List.countP_cons]
    by_cases e : y = x
    · subst e
      have : l.countP p = l.countP q := List.countP_congr fun z hz => by
        rw [h z (List.mem_cons_of_mem _ hz) (fun e => h1 (e ▸ hz))]
      rw [this, hq, hp]; simp
    · have ih := countP_one hq hp h2 (fun z hz => h z (List.mem_cons_of_mem _ hz)) ((List.mem_cons.1 hx).resolve_left fun e2 => e e2.symm)
      rw [h y (List.mem_cons_self ..) e]
      omega
theorem act_less {P P' : Nat → Int} (hi : i < n) (h : P i ≠ 0) (h' : P' i = 0) (hs : ∀ a, a ≠ i → P' a = P a) : act n P' + 1 = act n P := by
  unfold act
  refine countP_one (by simpa using h) (by simp [h']) List.nodup_range (fun a _ hne => by rw [hs a hne]) (List.mem_range.2 hi)
theorem act_none {P : Nat → Int} : act n P = 0 ↔ ∀ i, i < n → P i = 0 := by
  unfold act
  rw [List.countP_eq_zero]
  constructor
  · intro h i hi
    have := h i (List.mem_range.2 hi)
    simpa using this
  · intro h i hi
    have := h i (List.mem_range.1 hi)
    simp [this]
theorem EO.few {a b ep : Int} {x y : Sd} {mab mba : List Ml} {pa pb : Int} (h : EO a b ep x y mab mba pa pb) : mab.length + mba.length ≤ 2 := by
  rcases h with ⟨st, c⟩ | ⟨st, c⟩ <;> cases st with
  | f1 xf xt yt m n hb => rw [m, n]; simp
  | f2 xf xt yt m n hb hc => rw [m, n]; simp
  | f3 xf xt yt m n hb => rw [m, n]; simp
  | f4 xf xt yt m n hb ha => rw [m, n]; simp
  | f5 xf xt yt m n hb ha => rw [m, n]; simp
def tot (Es : List (Nat × Nat)) (ms : List Ml) : Nat := (Es.map fun e => (chan ms e.1 e.2).length + (chan ms e.2 e.1).length).sum
theorem chan_more (m : Ml) (ms : List Ml) (a b : Int) : (chan ms a b).length ≤ (chan (m :: ms) a b).length ∧ (m.from_ = a ∧ m.to_ = b → (chan ms a b).length + 1 = (chan (m :: ms) a b).length) := by
  unfold chan
  rw [List.filter_cons]
  constructor
  · split
    · rw [List.length_cons]; omega
    · exact Nat.le_refl _
  · intro h
    rw [if_pos (by simp [h.1, h.2]), List.length_cons]
theorem sum_le {α : Type} {f g : α → Nat} : ∀ {l : List α}, (∀ x ∈ l, f x ≤ g x) → (l.map f).sum ≤ (l.map g).sum
  | [], _ => Nat.le_refl _
  | x :: l, h => by
    rw [List.map_cons, List.map_cons, List.sum_cons, List.sum_cons]
    have := h x (List.mem_cons_self ..)
    have := sum_le (l := l) fun y hy => h y (List.mem_cons_of_mem _ hy)
    omega
theorem sum_lt {α : Type} {f g : α → Nat} {e : α} (he : f e < g e) : ∀ {l : List α}, (∀ x ∈ l, f x ≤ g x) → e ∈ l → (l.map f).sum < (l.map g).sum
  | [], _, hm => by cases hm
  | x :: l, h, hm => by
    rw [List.map_cons, List.map_cons, List.sum_cons, List.sum_cons]
    have h1 := h x (List.mem_cons_self ..)
    rcases List.mem_cons.1 hm with rfl | hm
    · have := sum_le (l := l) fun y hy => h y (List.mem_cons_of_mem _ hy)
      omega
    · have := sum_lt he (l := l) (fun y hy => h y (List.mem_cons_of_mem _ hy)) hm
      omega
theorem len_tot {Es : List (Nat × Nat)} : ∀ {ms : List Ml}, (∀ m ∈ ms, ∃ e ∈ Es, (m.from_ = (e.1 : Int) ∧ m.to_ = (e.2 : Int)) ∨ (m.from_ = (e.2 : Int) ∧ m.to_ = (e.1 : Int))) → ms.length ≤ tot Es ms
  | [], _ => Nat.zero_le _
  | m :: ms, h => by
    have ih := len_tot (Es := Es) (ms := ms) fun x hx => h x (List.mem_cons_of_mem _ hx)
    obtain ⟨e, he, hm⟩ := h m (List.mem_cons_self ..)
    have : tot Es ms < tot Es (m :: ms) := by
      refine sum_lt (e := e) ?_ (fun x _ => ?_) he
      · have q1 := chan_more m ms e.1 e.2
        have q2 := chan_more m ms e.2 e.1
        rcases hm with hm | hm
        · have := q1.2 hm; omega
        · have := q2.2 hm; omega
      · have q1 := chan_more m ms x.1 x.2
        have q2 := chan_more m ms x.2 x.1
        omega
    rw [List.length_cons]
    omega
theorem sum_const {α : Type} {f : α → Nat} {c : Nat} : ∀ {l : List α}, (∀ x ∈ l, f x ≤ c) → (l.map f).sum ≤ c * l.length
  | [], _ => Nat.zero_le _
  | x :: l, h => by
    rw [List.map_cons, List.sum_cons, List.length_cons, Nat.mul_succ]
    have := h x (List.mem_cons_self ..)
    have := sum_const (l := l) fun y hy => h y (List.mem_cons_of_mem _ hy)
    omega
theorem TB.mailFew (h : TB n nb ep X P ms) {Es : List (Nat × Nat)} (h1 : ∀ e ∈ Es, e.1 < n ∧ e.2 ∈ nb e.1) (h2 : ∀ i k, i < n → k ∈ nb i → (i, k) ∈ Es ∨ (k, i) ∈ Es) : ms.length ≤ 2 * Es.length ∧ wt X P ms ≤ 6 * Es.length := by
  have q : ms.length ≤ tot Es ms := len_tot fun m hm => by
    obtain ⟨i, k, hi, hk, e1, e2⟩ := h.mail m hm
    rcases h2 i k hi hk with e | e
    · exact ⟨_, e, .inl ⟨e1, e2⟩⟩
    · exact ⟨_, e, .inr ⟨e1, e2⟩⟩
  have q2 : tot Es ms ≤ 2 * Es.length := sum_const fun e he => (h.edge e.1 e.2 (h1 e he).1 (h1 e he).2).few
  have q3 := (wt_len X P ms).2
  omega
end
end Go.Proofs.YtfbambemjokmgaaGreat
namespace Go.Proofs.YtfbambemjokmgaaGreat
def sideN (c : Nat → Int) (i k : Nat) : Sd := if c i < c k then ⟨k, 1, 0, false, false, true, false, true⟩ else ⟨k, 1, 0, true, true, false, true, false⟩
section
variable {n : Nat} {nb : Nat → List Nat} {ep : Int} {X : Nat → Nat → Sd} {P : Nat → Int} {ms : List Ml} {i : Nat}
theorem NB.of {q : Nat → Nat → Bool} (hs : ∀ i k, q i k = q k i) (hi : ∀ i, q i i = false) : NB n fun i => (List.range n).filter (q i) where
  up i := List.Pairwise.sublist List.filter_sublist List.pairwise_lt_range
  back i k hin hk := by
    obtain ⟨h1, h2⟩ := List.mem_filter.1 hk
    refine ⟨List.mem_range.1 h1, fun e => ?_, List.mem_filter.2 ⟨List.mem_range.2 hin, by rw [hs]; exact h2⟩⟩
    rw [e, hi] at h2
    cases h2
theorem sideN_bits (c : Nat → Int) (i k : Nat) : (sideN c i k).fork = !decide (c i < c k) ∧ (sideN c i k).dirty = !decide (c i < c k) ∧ (sideN c i k).token = decide (c i < c k) := by
  unfold sideN
  by_cases h : c i < c k
  · rw [if_pos h, decide_eq_true h]; exact ⟨rfl, rfl, rfl⟩
  · rw [if_neg h, decide_eq_false h]; exact ⟨rfl, rfl, rfl⟩
theorem TB.first {c : Nat → Int} (hc : ∀ i k, i < n → k ∈ nb i → c i ≠ c k) : TB n nb 1 (sideN c) (fun _ => 0) [] where
  pr i k hi hk := by unfold sideN; split <;> exact ⟨rfl, rfl⟩
  lv i k hi hk := by unfold sideN; split <;> rfl
  ph i hi := .inl rfl
  edge i k hi hk := by
    have hne := hc i k hi hk
    obtain ⟨a1, a2, a3⟩ := sideN_bits c i k
    obtain ⟨b1, b2, b3⟩ := sideN_bits c k i
    by_cases h : c i < c k
    · have h' : ¬ c k < c i := by omega
      rw [decide_eq_true h] at a1 a2 a3
      rw [decide_eq_false h'] at b1 b2 b3
      refine .inr ⟨.f1 b1 b3 a3 rfl rfl rfl, ⟨a1, a2, fun e => ?_, fun _ e => ?_, fun e => ?_⟩⟩
      · rw [b1] at e; cases e
      · rw [b2] at e; cases e
      · omega
    · have h' : c k < c i := by omega
      rw [decide_eq_false h] at a1 a2 a3
      rw [decide_eq_true h'] at b1 b2 b3
      refine .inl ⟨.f1 a1 a3 b3 rfl rfl rfl, ⟨b1, b2, fun e => ?_, fun _ e => ?_, fun e => ?_⟩⟩
      · rw [a1] at e; cases e
      · rw [a2] at e; cases e
      · omega
  calm i hi := by unfold eats; simp
  mail m hm := by cases hm
theorem NoRound.first {c : Nat → Int} (hn : NB n nb) (h0 : ∀ i, i < n → 0 ≤ c i) (hc : ∀ i k, i < n → k ∈ nb i → c i ≠ c k) : NoRound n nb (sideN c) [] := by
  refine ⟨fun i => (c i).toNat, fun a k ha hk h => ?_⟩
  obtain ⟨a1, a2, _⟩ := sideN_bits c a k
  obtain ⟨b1, b2, _⟩ := sideN_bits c k a
  unfold ah ahd chan at h
  rw [a1, a2, b1, b2] at h
  have q1 := h0 a ha
  have q2 := h0 k (hn.back a k ha hk).1
  simp only [List.filter_nil, List.any_nil, Bool.and_false, Bool.or_false, Bool.not_not, Bool.and_self, Bool.or_eq_true, Bool.and_eq_true, Bool.not_eq_true', decide_eq_false_iff_not, decide_eq_true_eq] at h
  show (c a).toNat < (c k).toNat
  by_cases e : c a < c k
  · omega
  · exfalso
    by_cases e2 : c k < c a
    · omega
    · have := hc a k ha hk
      omega
def betweenB (a b : Int) (m : Ml) : Bool := (m.from_ == a && m.to_ == b) || (m.from_ == b && m.to_ == a)
def cntS (x y : Sd) (ms : List Ml) (a b k : Int) : Nat :=
  (cond ((k == 1 && x.fork) || (k == 2 && x.token)) 1 0) + (cond ((k == 1 && y.fork) || (k == 2 && y.token)) 1 0) + ms.countP fun m => betweenB a b m && m.kind == k && m.epoch == x.epoch
theorem countP_chan {a b : Int} (hne : a ≠ b) (q : Ml → Bool) : ∀ ms : List Ml, (ms.countP fun m => betweenB a b m && q m) = (chan ms a b).countP q + (chan ms b a).countP q
  | [] => rfl
  | m :: l => by
    have ih := countP_chan hne q l
    unfold chan at *
    rw [List.countP_cons, List.filter_cons, List.filter_cons, ih]
    unfold betweenB
    by_cases h1 : m.from_ = a ∧ m.to_ = b
    · have e1 : (m.from_ == a && m.to_ == b) = true := by simp [h1.1, h1.2]
      have e2 : (m.from_ == b && m.to_ == a) = false := by
        rw [h1.1]; simp [hne]
      simp only [e1, e2, Bool.or_false, Bool.true_and, if_true, Bool.false_eq_true, if_false, List.countP_cons]
      omega
    · have e1 : (m.from_ == a && m.to_ == b) = false := by
        by_cases h2 : m.from_ = a
        · simp [h2]; exact fun h3 => h1 ⟨h2, h3⟩
        · simp [h2]
      rw [e1]
      by_cases h2 : m.from_ = b ∧ m.to_ = a
      · have e2 : (m.from_ == b && m.to_ == a) = true := by simp [h2.1, h2.2]
        simp only [e2, Bool.false_or, Bool.true_and, if_true, Bool.false_eq_true, if_false, List.countP_cons]
        omega
      · have e2 : (m.from_ == b && m.to_ == a) = false := by
          by_cases h3 : m.from_ = b
          · simp [h3]; exact fun h4 => h2 ⟨h3, h4⟩
          · simp [h3]
        simp [e2]
end
end Go.Proofs.YtfbambemjokmgaaGreat
namespace Go.Proofs.YtfbambemjokmgaaGreat
open Go.RowKit
theorem compare_any (w : World) (a b : Int) : Calls Tryz.prog 209 #[.int .i64 a, .int .i64 b] w fun e w' => e = .returned (.int .i64 (cmpI a b)) ∧ w' = w := by
  rcases Int.lt_trichotomy a b with h | h | h
  · have e : cmpI a b = -1 := by unfold cmpI; rw [if_pos h]
    have E := Lib.hid e
    clear e
    go_enter Tryz.func209, Tryz.ntmps209
    go_wp2
    go_ret
    exact ⟨by rw [E.out]; rfl, rfl⟩
  · have e : cmpI a b = 0 := by unfold cmpI; rw [if_neg (by omega), if_neg (by omega)]
    have h1 : ¬ a < b := by omega
    have h2 : ¬ b < a := by omega
    have E := Lib.hid e
    clear e h
    go_enter Tryz.func209, Tryz.ntmps209
    go_wp2
    go_ret
    exact ⟨by rw [E.out]; rfl, rfl⟩
  · have e : cmpI a b = 1 := by unfold cmpI; rw [if_neg (by omega), if_pos h]
    have h1 : ¬ a < b := by omega
    have E := Lib.hid e
    clear e
    go_enter Tryz.func209, Tryz.ntmps209
    go_wp2
    go_ret
    exact ⟨by rw [E.out]; rfl, rfl⟩
theorem or_any (w : World) (v : Value) (a b : Int) (h : Sl w v [a, b]) :
    Calls Tryz.prog 208 #[v] w fun e w' => e = .returned (.int .i64 (if a ≠ 0 then a else b)) ∧ w' = w := by
  rcases h.ints with ⟨h, _⟩ | ⟨B, off, c, rfl, hc, hc63, hB, _, hcell⟩
  · simp at h
  have h0 : w.cell? ⟨B, off, none⟩ = some (.int .i64 a) := hcell 0 (by simp)
  have h1 : w.cell? ⟨B, off + 1, none⟩ = some (.int .i64 b) := hcell 1 (by simp)
  have hl : ([a, b] : List Int).length = 2 := rfl
  rw [hl]
  clear hcell h hl hc
  by_cases ha : a = 0
  · by_cases hb : b = 0
    · subst ha hb
      go_enter Tryz.func208, Tryz.ntmps208
      go_wp2
      refine wp_loop_rounds 3 ?_
      rw [rounds_succ]; go_wp2
      rw [rounds_succ]; go_wp2
      rw [rounds_succ]; go_wp2
      go_ret
      exact ⟨rfl, rfl⟩
    · subst ha
      have hb' : (b != 0) = true := by simp [hb]
      have e : (if (0 : Int) ≠ 0 then (0 : Int) else b) = b := by simp
      rw [e]
      clear e
      have HB := Lib.hid hb
      clear hb
      go_enter Tryz.func208, Tryz.ntmps208
      go_wp2
      refine wp_loop_rounds 3 ?_
      rw [rounds_succ]; go_wp2
      rw [rounds_succ]; go_wp2
      go_ret
      exact ⟨rfl, rfl⟩
  · have ha' : (a != 0) = true := by simp [ha]
    have e : (if a ≠ 0 then a else b) = a := by simp [ha]
    rw [e]
    clear e ha
    go_enter Tryz.func208, Tryz.ntmps208
    go_wp2
    refine wp_loop_rounds 3 ?_
    rw [rounds_succ]; go_wp2
    go_ret
    exact ⟨rfl, rfl⟩
theorem or_val (w : World) (v : Value) (a b r : Int) (h : Sl w v [a, b]) (hr : (if a ≠ 0 then a else b) = r) :
    Calls Tryz.prog 208 #[v] w fun e w' => e = .returned (.int .i64 r) ∧ w' = w := hr ▸ or_any w v a b h
theorem ord_def (xa xb ya yb : Int) : (if cmpI xa ya ≠ 0 then cmpI xa ya else cmpI xb yb) = ord ⟨xa, xb⟩ ⟨ya, yb⟩ := by unfold ord; rfl
theorem two_edges (w : World) (xa xb ya yb : Int) (W : World) (h : Ext ((w.alloc (.cells #[.int .i64 xa, .int .i64 xb] 30)).alloc (.cells #[.int .i64 ya, .int .i64 yb] 30)) W) :
    (W.cell? ⟨w.heap.size, 0, none⟩ = some (.int .i64 xa) ∧ W.cell? ⟨w.heap.size, 1, none⟩ = some (.int .i64 xb)) ∧ W.cell? ⟨w.heap.size + 1, 0, none⟩ = some (.int .i64 ya) ∧ W.cell? ⟨w.heap.size + 1, 1, none⟩ = some (.int .i64 yb) := by
  obtain ⟨hA, hB⟩ := box2 (h.mono (by rw [size_alloc, size_alloc]; omega))
  exact ⟨⟨blk_cell hA 0 rfl, blk_cell hA 1 rfl⟩, blk_cell hB 0 rfl, blk_cell hB 1 rfl⟩
set_option maxHeartbeats 1000000 in
theorem order_any (w : World) (xa xb ya yb : Int) : Calls Tryz.prog 200 #[.agg #[.int .i64 xa, .int .i64 xb], .agg #[.int .i64 ya, .int .i64 yb]] w fun e w' => e = .returned (.int .i64 (ord ⟨xa, xb⟩ ⟨ya, yb⟩)) ∧ Ext w w' := by
  have HK := Lib.hid (two_edges w xa xb ya yb)
  go_enter Tryz.func200, Tryz.ntmps200
  go_wp2_with fail
  go_region_held3 (fun W => (W.cell? ⟨w.heap.size, 0, none⟩ = some (.int .i64 xa) ∧ W.cell? ⟨w.heap.size, 1, none⟩ = some (.int .i64 xb)) ∧ W.cell? ⟨w.heap.size + 1, 0, none⟩ = some (.int .i64 ya) ∧ W.cell? ⟨w.heap.size + 1, 1, none⟩ = some (.int .i64 yb)) (exact HK.out _ ((by repeat (first | exact Ext.refl _ | assumption | refine Ext.alloc ?_ _ | refine Ext.drew ?_ | refine Ext.drewN ?_ _))))
    (first
    | (go_at_call 209; refine (compare_any _ _ _).mono ?_; rintro e w1 ⟨rfl, rfl⟩)
    | (go_at_call 208; refine (or_val _ _ (cmpI xa ya) (cmpI xb yb) (ord ⟨xa, xb⟩ ⟨ya, yb⟩) (by first | exact Sl.litAt _ _ rfl [cmpI xa ya, cmpI xb yb] (by simp) | exact Sl.litAt _ _ (by simp) [cmpI xa ya, cmpI xb yb] (by simp) | exact Sl.drew (Sl.litAt _ _ (by simp) [cmpI xa ya, cmpI xb yb] (by simp))) (ord_def _ _ _ _)).mono ?_; rintro e w1 ⟨rfl, rfl⟩))
  all_goals go_wp2
  all_goals go_ret
  all_goals exact ⟨rfl, (by repeat (first | exact Ext.refl _ | assumption | refine Ext.alloc ?_ _ | refine Ext.drew ?_ | refine Ext.drewN ?_ _))⟩
end Go.Proofs.YtfbambemjokmgaaGreat
namespace Go.Proofs.YtfbambemjokmgaaGreat
open Go.RowKit
structure SV (w : World) (vd vm : Value) (ds : List Dn) (ms : List Ml) : Prop where
  ds : Ns DV Non w vd ds
  ms : Sl w vm ms
def GivesS (w : World) (r : (List Dn × List Ml) × Int) (e : Ending) (w' : World) : Prop := ∃ vd vm, e = .returned (.tuple #[.agg #[vd, vm], .int .i64 r.2]) ∧ SV w' vd vm r.1.1 r.1.2 ∧ Ext w w'
section
variable {w w' : World} {vd vm : Value} {ds : List Dn} {ms : List Ml}
theorem SV.ext (h : SV w vd vm ds ms) (e : Ext w w') : SV w' vd vm ds ms := ⟨h.ds.ext e, h.ms.ext e⟩
theorem SV.len (h : SV w vd vm ds ms) : ∃ ao c bo d, vd = .slice ao ds.length c ∧ vm = .slice bo ms.length d := by
  obtain ⟨ao, c, e1⟩ := h.ds.len
  obtain ⟨bo, d, e2⟩ := h.ms.len
  exact ⟨ao, c, bo, d, e1, e2⟩
theorem SV.sh (h : SV w vd vm ds ms) : ∃ ao n c bo m d, vd = .slice ao n c ∧ vm = .slice bo m d := by
  obtain ⟨ao, c, bo, d, e1, e2⟩ := h.len
  exact ⟨ao, _, c, bo, _, d, e1, e2⟩
theorem SV.nil (w : World) : SV w (.slice none 0 0) (.slice none 0 0) [] [] := ⟨Ns.nil _ _, slNoneU _⟩
theorem apart_box {α : Type} [Elem α] {W : World} {g : Nat} {v : Value} {xs : List α} {cs : Array Value} {t : TypeId} {fr : Nat × Nat} (h : Sl W v xs) (hg : W.heap[g]? = some (.cells cs t fr))
    (hcs : ∀ (i : Nat) (u : Value), cs[i]? = some u → ∃ (a : Option Addr) (n c : Nat), u = Value.slice a n c) (hf : ∀ x : α, ∃ k, (Elem.enc x)[0]? = some (.int .i64 k)) : Sa (fun k => k = g) W v xs := by
  refine ⟨h, ?_⟩
  rcases h.parts with ⟨rfl, _⟩ | ⟨b, off, c', rfl, h1, h2, h3, _, h4⟩
  · exact .inl rfl
  · cases xs with
    | nil => exact .inl rfl
    | cons x l =>
      refine .inr fun b' hb' hbg => ?_
      obtain rfl : b = b' := by simpa [Value.ownBlock] using hb'
      subst hbg
      obtain ⟨k, hk⟩ := hf x
      have := h4 0 x rfl 0 _ hk
      replace this : cs[off + (0 * Elem.k α + 0)]? = some (.int .i64 k) := by simpa [World.cell?, hg] using this
      obtain ⟨a, n, c, hu⟩ := hcs _ _ this
      cases hu
theorem two_slices (a : Option Addr) (n c : Nat) (a' : Option Addr) (n' c' : Nat) : ∀ (i : Nat) (u : Value), (#[.slice a n c, .slice a' n' c'] : Array Value)[i]? = some u → ∃ (a : Option Addr) (n c : Nat), u = Value.slice a n c := fun i u hu => by
  rcases i with _ | _ | i
  · simp at hu; exact ⟨_, _, _, hu.symm⟩
  · simp at hu; exact ⟨_, _, _, hu.symm⟩
  · simp at hu
theorem SV.off {g : Nat} {a a' : Option Addr} {n c n' c' : Nat} {t : TypeId} {fr : Nat × Nat} (h : SV w vd vm ds ms) (hg : w.heap[g]? = some (.cells #[.slice a n c, .slice a' n' c'] t fr)) (o : Off (fun k => k = g) w w') : SV w' vd vm ds ms := by
  have hn : Grows (fun k => k = g) Non w := fun k hk => hk.elim
  refine ⟨?_, ?_⟩
  · obtain ⟨xs, h1, h2, h3⟩ := h.ds
    refine ⟨xs, (apart_box h1.sl hg (two_slices _ _ _ _ _ _) fun x => ⟨x.id, rfl⟩).off o hn, h2, fun j x d hx hd => ?_⟩
    obtain ⟨e1, e2, e3⟩ : RdD Non w x d := h3 j x d hx hd
    exact (⟨e1, e2, (apart_box e3.sl hg (two_slices _ _ _ _ _ _) fun x => ⟨x.peer, rfl⟩).off o hn⟩ : RdD Non w' x d)
  · exact ((apart_box h.ms hg (two_slices _ _ _ _ _ _) fun x => ⟨x.from_, rfl⟩).off o hn).sl
end
theorem givesS_no {w W : World} {r : (List Dn × List Ml) × Int} {er : Int} (h : r = (([], []), er)) (x : Ext w W) : GivesS w r (.returned (.tuple #[.agg #[.slice none 0 0, .slice none 0 0], .int .i64 er])) W := by
  subst h
  exact ⟨_, _, rfl, SV.nil _, x⟩
theorem uScene : ∃ fs, Tryz.prog.underlying 48 = some (.struct fs) := ⟨_, Tryz.underlying48⟩
theorem cells2S {w : World} {g : Nat} {u0 u1 : Value} {t : TypeId} (h : w.heap[g]? = some (.cells #[u0, u1] t (0, 0))) : w.cell? ⟨g, 0, none⟩ = some u0 ∧ w.cell? ⟨g, 1, none⟩ = some u1 := ⟨blk_cell h 0 rfl, blk_cell h 1 rfl⟩
end Go.Proofs.YtfbambemjokmgaaGreat
