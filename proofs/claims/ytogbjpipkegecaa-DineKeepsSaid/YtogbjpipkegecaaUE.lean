/- Layer 13, the program: a message that comes. -/
import Derived.Test.YtogbjpipkegecaaUD
namespace Go.Proofs.Ytogbjpipkegecaa
open Go.RowKit

set_option maxRecDepth 100000 in
set_option maxHeartbeats 2000000 in
theorem meant_one (W : World) (g1 g2 : Nat) (p k me n : Int) (s : Sd) (h1 : W.heap[g1]? = some (.cells #[.int .i64 p] 3 (0, 0))) (h2 : W.heap[g2]? = some (.cells #[.int .i64 k, .int .i64 me, .int .i64 n] 40 (0, 0))) (t : Bool) (ht : (s.peer == p && s.epoch == me) = t) :
    Calls Try.prog 30 #[.agg s.cs, .pointer (some ⟨g1, 0, none⟩), .pointer (some ⟨g2, 0, none⟩)] W fun e W' => e = .returned (.bool t) ∧ Ext W W' := by
  obtain ⟨y0, y1, y2, y3, y4, y5, y6, y7⟩ := s
  unfold Sd.cs
  dsimp only at ht ⊢
  obtain ⟨W1, hW1⟩ : ∃ W1, W1 = W.alloc (.cells #[.int .i64 y0, .int .i64 y1, .int .i64 y2, .bool y3, .bool y4, .bool y5, .bool y6, .bool y7] 47) := ⟨_, rfl⟩
  have X1 : Hid (Ext W W1) := Lib.hid (hW1 ▸ (Ext.refl W).alloc _)
  have d1 : W1.heap[W.heap.size]? = some (.cells #[.int .i64 y0, .int .i64 y1, .int .i64 y2, .bool y3, .bool y4, .bool y5, .bool y6, .bool y7] 47 (0, 0)) := hW1 ▸ at0 W _
  have HW1 := Lib.hid hW1
  have x0 := blk_cell d1 0 rfl
  have x1 := blk_cell d1 1 rfl
  have k1 := blk_cell (keepU h1 X1.out) 0 rfl
  have k2 := blk_cell (keepU h2 X1.out) 1 rfl
  have HT := Lib.hid ht
  clear ht h1 h2 hW1 d1
  by_cases e1 : y0 = p
  · have t1 : (y0 == p) = true := by simp [e1]
    by_cases e2 : y1 = me
    · have t2 : (y1 == me) = true := by simp [e2]
      have HF : Hid (true = t) := Lib.hid (by rw [← HT.out, t1, t2]; rfl)
      clear e1 e2 HT
      go_enter Try.func30, Try.ntmps30
      go_upto_region 1 with (fail)
      rw [← HW1.out]
      go_wp2
      go_ret
      exact ⟨ret_bool HF.out, X1.out⟩
    · have t2 : (y1 == me) = false := by simp [e2]
      have HF : Hid (false = t) := Lib.hid (by rw [← HT.out, t1, t2]; rfl)
      clear e1 e2 HT
      go_enter Try.func30, Try.ntmps30
      go_upto_region 1 with (fail)
      rw [← HW1.out]
      go_wp2
      go_ret
      exact ⟨ret_bool HF.out, X1.out⟩
  · have t1 : (y0 == p) = false := by simp [e1]
    have HF : Hid (false = t) := Lib.hid (by rw [← HT.out, t1]; rfl)
    clear e1 HT
    go_enter Try.func30, Try.ntmps30
    go_upto_region 1 with (fail)
    rw [← HW1.out]
    go_wp2
    go_ret
    exact ⟨ret_bool HF.out, X1.out⟩

theorem index_meant (w : World) (v : Value) (L : List Sd) (g1 g2 : Nat) (p k me n : Int) (h : Sl w v L) (h1 : w.heap[g1]? = some (.cells #[.int .i64 p] 3 (0, 0))) (h2 : w.heap[g2]? = some (.cells #[.int .i64 k, .int .i64 me, .int .i64 n] 40 (0, 0))) :
    Calls Try.prog 31 #[v, .func (.func 30) #[] #[.pointer (some ⟨g1, 0, none⟩), .pointer (some ⟨g2, 0, none⟩)]] w fun e w' => ∃ r : Int, e = .returned (.int .i64 r) ∧ ((r = -1 ∧ findS (fun s => s.peer == p && s.epoch == me) L = none) ∨ ∃ (i : Nat) (s : Sd), r = (i : Int) ∧ L[i]? = some s ∧ findS (fun s => s.peer == p && s.epoch == me) L = some (i, s)) ∧ Ext w w' := by
  refine (indexFunc_sd w v L 30 #[.pointer (some ⟨g1, 0, none⟩), .pointer (some ⟨g2, 0, none⟩)] (fun _ V => Ext w V) (fun _ s => s.peer == p && s.epoch == me) (enters_of Try.func30 (by kernel_rfl) rfl) (fun _ W hW => h.ext hW) ?_ (Ext.refl w)).mono ?_
  · intro i s W hi hW
    refine (meant_one W g1 g2 p k me n s (keepU h1 hW) (keepU h2 hW) _ rfl).mono ?_
    rintro e W' ⟨rfl, hx⟩
    exact ⟨rfl, Ext.trans hW hx⟩
  · rintro e w' ⟨r, rfl, hr, i, hx⟩
    refine ⟨r, rfl, ?_, hx⟩
    rcases hr with ⟨e, hn⟩ | ⟨i, s, e, hs, hq, hn⟩
    · exact .inl ⟨e, findS_none hn⟩
    · exact .inr ⟨i, s, e, hs, findS_some hs hq hn⟩

set_option maxRecDepth 100000 in
set_option maxHeartbeats 8000000 in
theorem get_any (w : World) (id ph p k me n : Int) (v : Value) (L : List Sd) (h : Sl w v L) (hl : L.length ≤ 1000) :
    Calls Try.prog 19 #[.agg #[.int .i64 id, .int .i64 ph, v], .int .i64 p, .agg #[.int .i64 k, .int .i64 me, .int .i64 n]] w (GivesE w (getR ⟨id, ph, L⟩ p k me n)) := by
  obtain ⟨ao, c, rfl⟩ := h.len
  have hmf : ∀ (fn : Fn) (first cap : Array Value) (w : World), (Instr.makeFunc fn first cap).run Try.prog w = .ok (.func fn first cap) w := fun _ _ _ _ => rfl
  have hlen := h.length_le
  obtain ⟨W0, hW0⟩ : ∃ W0, W0 = (((w.alloc (.cells #[.int .i64 id, .int .i64 ph, .slice ao L.length c] 25)).alloc (.cells #[.int .i64 p] 3)).alloc (.cells #[.int .i64 k, .int .i64 me, .int .i64 n] 40)).alloc (.cells #[.int .i64 0, .int .i64 0, .slice none 0 0] 25) := ⟨_, rfl⟩
  have X0 : Hid (Ext w W0) := Lib.hid (hW0 ▸ ((((Ext.refl w).alloc _).alloc _).alloc _).alloc _)
  have D0 : Hid (W0.heap[w.heap.size]? = some (.cells #[.int .i64 id, .int .i64 ph, .slice ao L.length c] 25 (0, 0))) := Lib.hid (hW0 ▸ old1 (old1 (old1 (at0 w _) _) _) _)
  have P0 : Hid (W0.heap[w.heap.size + 1]? = some (.cells #[.int .i64 p] 3 (0, 0))) := Lib.hid (hW0 ▸ old1 (old1 (at1 w _ _) _) _)
  have M0 : Hid (W0.heap[w.heap.size + 2]? = some (.cells #[.int .i64 k, .int .i64 me, .int .i64 n] 40 (0, 0))) := Lib.hid (hW0 ▸ old1 (at2 w _ _ _) _)
  have R0 : Hid (W0.heap[w.heap.size + 3]? = some (.cells #[.int .i64 0, .int .i64 0, .slice none 0 0] 25 (0, 0))) := Lib.hid (hW0 ▸ at3 w _ _ _ _)
  have hs0 : W0.heap.size = w.heap.size + 4 := by rw [hW0, size_alloc, size_alloc, size_alloc, size_alloc]
  have HW0 := Lib.hid hW0
  have HS := Lib.hid (h.ext X0.out)
  clear h hW0
  obtain ⟨d0, d1, d2⟩ := cells3U D0.out
  obtain ⟨t, ht⟩ : ∃ t, dnOk ⟨id, ph, L⟩ = t := ⟨_, rfl⟩
  have HT := Lib.hid ht
  clear ht
  go_enter Try.func19, Try.ntmps19
  go_upto_region 1 with (fail)
  rw [← HW0.out]
  cases t
  · have HR : Hid (getR ⟨id, ph, L⟩ p k me n = (noD, 130)) := Lib.hid (by unfold getR; rw [HT.out]; rfl)
    go_upto_region 3 with (first
      | (go_at_call 16; refine (dCheck_any W0 id ph _ L HS.out false HT.out).mono ?_; rintro e w1 ⟨rfl, hx⟩; dsimp only [cond]; have X1 := Lib.hid hx; clear hx))
    go_wp2_with (first | refine haltst 25 ?_)
    refine .inl ?_
    refine st_l 25 (.tmp 6) (.tmp 17) (w.heap.size + 3) 0 25 #[.int .i64 0, .int .i64 0, .slice none 0 0] #[.int .i64 0, .int .i64 0, .slice none 0 0] #[.int .i64 0, .int .i64 0, .slice none 0 0] rfl rfl (keepU R0.out X1.out) (by kernel_rfl) (by simp) rfl rfl ?_
    intro W9 hW9 o9
    simp only [Act.put]
    go_wp2
    exact bodyPost_ret (v := .tuple #[.agg #[.int .i64 0, .int .i64 0, .slice none 0 0], .int .i64 130]) (res_ct 7 rfl rfl hW9 uDiner (by kernel_rfl)) rfl (givesNo HR.out (ext_off (X0.out.trans X1.out) o9 (fun b hb => by omega)))
  · go_upto_region 4 with (first
      | (go_at_call 16; refine (dCheck_any W0 id ph _ L HS.out true HT.out).mono ?_; rintro e w1 ⟨rfl, hx⟩; dsimp only [cond]; have X1 := Lib.hid hx; clear hx))
    clear d0 d1 d2
    obtain ⟨d0, d1, d2⟩ := cells3U (keepU D0.out X1.out)
    go_upto_region 6 with (first
      | (go_at_call 31; refine (index_meant w1 _ L (w.heap.size + 1) (w.heap.size + 2) p k me n (HS.out.ext X1.out) (keepU P0.out X1.out) (keepU M0.out X1.out)).mono ?_; rintro e w2 ⟨r, rfl, hr, hx⟩; have X2 := Lib.hid (X1.out.trans hx); have HRR := Lib.hid hr; clear hx hr))
    clear d0 d1 d2
    obtain ⟨d0, d1, d2⟩ := cells3U (keepU D0.out X2.out)
    rcases HRR.out with ⟨rfl, hf⟩ | ⟨i, s, rfl, hsi, hf⟩
    · have HR : Hid (getR ⟨id, ph, L⟩ p k me n = (noD, 131)) := Lib.hid (by unfold getR; rw [HT.out, if_pos rfl]; dsimp only; rw [hf])
      clear hf HRR
      go_upto_region 7 with (fail)
      go_wp2_with (first | refine haltst 25 ?_)
      refine .inl ?_
      refine st_l 25 (.tmp 6) (.tmp 26) (w.heap.size + 3) 0 25 #[.int .i64 0, .int .i64 0, .slice none 0 0] #[.int .i64 0, .int .i64 0, .slice none 0 0] #[.int .i64 0, .int .i64 0, .slice none 0 0] rfl rfl (keepU R0.out X2.out) (by kernel_rfl) (by simp) rfl rfl ?_
      intro W9 hW9 o9
      simp only [Act.put]
      go_wp2
      exact bodyPost_ret (v := .tuple #[.agg #[.int .i64 0, .int .i64 0, .slice none 0 0], .int .i64 131]) (res_ct 7 rfl rfl hW9 uDiner (by kernel_rfl)) rfl (givesNo HR.out (ext_off (X0.out.trans X2.out) o9 (fun b hb => by omega)))
    · have hlt : i < L.length := (List.getElem?_eq_some_iff.1 hsi).1
      have ho1 : ¬ ((i : Int) < 0) := by omega
      obtain ⟨⟨s', er⟩, hwr⟩ : ∃ r, withR s k n = r := ⟨_, rfl⟩
      have HWI := Lib.hid (fun W => hwr ▸ with_any W s k me n)
      have HRR2 : Hid (getR ⟨id, ph, L⟩ p k me n = if er = 0 then (⟨id, ph, L.set i s'⟩, 0) else (noD, er)) := Lib.hid (by unfold getR; rw [HT.out, if_pos rfl]; dsimp only; rw [hf]; dsimp only; rw [hwr])
      clear hf HRR hwr
      obtain ⟨b1, off, s2, hsy, hsj, rfl, hn1, hnc, hc63, hb, hcs⟩ := HS.out.sidesAt hlt
      obtain rfl : s2 = s := by have := hsj.symm.trans hsi; simpa using this
      have HCS := Lib.hid hcs
      clear hsy hsj hsi hcs hn1
      obtain ⟨y0, y1, y2, y3, y4, y5, y6, y7⟩ := s2
      obtain ⟨u0, u1, u2, u3, u4, u5, u6, u7⟩ := s'
      unfold Sd.cs at HWI
      dsimp only at HCS HWI
      go_upto_region 8 with (fail)
      go_cut [11, 12] (fun s11 s12 wx => ∃ g, s11 = .pointer (some ⟨g, 0, none⟩) ∧ s12 = .int .i64 er ∧ Hid (wx.heap[g]? = some (.cells #[.int .i64 u0, .int .i64 u1, .int .i64 u2, .bool u3, .bool u4, .bool u5, .bool u6, .bool u7] 47 (0, 0))) ∧ Hid (Ext W0 wx) ∧ W0.heap.size ≤ g)
      case first =>
        (refine wp_region_X_lit (K := fun V => Ext W0 V) (by kernel_rfl) (fun w1 hw1 => ?_))
        have HV1 : Hid (Ext W0 w1) := Lib.hid (X2.out.trans hw1)
        clear hw1
        refine xtv 0 (h := ?_)
        refine xtv 1 (hv := by intro w' hw'; have q2 := blk_cell (keepU D0.out hw') 2 rfl; go_simp; first | done | with_reducible rfl) (h := ?_)
        refine xtv 2 (h := ?_)
        refine xtv 3 (h := ?_)
        refine xtv 4 (hv := by intro w' hw'; obtain ⟨⟨⟨x0, x1⟩, x2, x3⟩, ⟨x4, x5⟩, x6, x7⟩ := HCS.out w' hw'; go_simp; first | done | with_reducible rfl) (h := ?_)
        refine xtv 5 (hv := by intro w' hw'; obtain ⟨m0, m1, m2⟩ := cells3U (keepU M0.out hw'); go_simp; first | done | with_reducible rfl) (h := ?_)
        refine xtwo 6 10 (hk := HV1.out) (h := RunX.of 6 (h := ?_)) (h' := RunX.of 10 (h := ?_))
        · go_simp
          refine (HWI.out w1).mono ?_
          rintro e6 w6 ⟨rfl, x6⟩
          have Y6 : Hid (Ext W0 w6) := Lib.hid (Ext.trans HV1.out x6)
          clear x6
          dsimp only
          (try (simp only [Act.put, List.setIfInBounds_toArray, List.set]))
          refine xtv 7 (h := ?_)
          refine xtv 8 (h := ?_)
          refine xtv 9 (h := ?_)
          refine xone 10 (hk := Y6.out) (h := RunX.of 10 (h := ?_))
          go_simp
          (try (simp only [Act.put, List.setIfInBounds_toArray, List.set]))
          obtain ⟨W7, hW7⟩ : ∃ W7, W7 = w6.alloc (.cells #[.int .i64 0, .int .i64 0, .int .i64 0, .bool false, .bool false, .bool false, .bool false, .bool false] 47) := ⟨_, rfl⟩
          have Y7 : Hid (Ext W0 W7) := Lib.hid (hW7 ▸ Y6.out.alloc _)
          have B7 : Hid (W7.heap[w6.heap.size]? = some (.cells #[.int .i64 0, .int .i64 0, .int .i64 0, .bool false, .bool false, .bool false, .bool false, .bool false] 47 (0, 0))) := Lib.hid (hW7 ▸ at0 w6 _)
          have hg7 : W0.heap.size ≤ w6.heap.size := Below.size Y6.out
          rw [← hW7]
          clear hW7
          refine xone 11 (hk := Y7.out) (h := RunX.of 11 (h := ?_))
          refine wp_st 47 (.tmp 11) (.tmp 35) rfl w6.heap.size 0 47 #[.int .i64 0, .int .i64 0, .int .i64 0, .bool false, .bool false, .bool false, .bool false, .bool false] #[.int .i64 u0, .int .i64 u1, .int .i64 u2, .bool u3, .bool u4, .bool u5, .bool u6, .bool u7] #[.int .i64 u0, .int .i64 u1, .int .i64 u2, .bool u3, .bool u4, .bool u5, .bool u6, .bool u7] rfl rfl B7.out (by kernel_rfl) (by simp) rfl rfl ?_
          intro WB hWB oB
          simp only [Act.put]
          have YB : Hid (Ext W0 WB) := Lib.hid (ext_off Y7.out oB (fun b hb => by omega))
          have RB := Lib.hid hWB
          clear hWB oB
          refine xtv 12 (h := ?_)
          (refine xdone (by kernel_rfl) (YB.out) ?_)
          go_wp2_with fail
          go_meet
          exact ⟨_, rfl, rfl, RB, YB, hg7⟩
        · go_simp
          (try (simp only [Act.put, List.setIfInBounds_toArray, List.set]))
          obtain ⟨W7, hW7⟩ : ∃ W7, W7 = w1.alloc (.cells #[.int .i64 0, .int .i64 0, .int .i64 0, .bool false, .bool false, .bool false, .bool false, .bool false] 47) := ⟨_, rfl⟩
          have Y7 : Hid (Ext W0 W7) := Lib.hid (hW7 ▸ HV1.out.alloc _)
          have B7 : Hid (W7.heap[w1.heap.size]? = some (.cells #[.int .i64 0, .int .i64 0, .int .i64 0, .bool false, .bool false, .bool false, .bool false, .bool false] 47 (0, 0))) := Lib.hid (hW7 ▸ at0 w1 _)
          have hg7 : W0.heap.size ≤ w1.heap.size := Below.size HV1.out
          rw [← hW7]
          clear hW7
          refine xone 6 (hk := Y7.out) (h := RunX.of 6 (h := ?_))
          go_simp
          refine (HWI.out W7).mono ?_
          rintro e6 w6 ⟨rfl, x6⟩
          have Y6 : Hid (Ext W0 w6) := Lib.hid (Ext.trans Y7.out x6)
          have B6 : Hid (w6.heap[w1.heap.size]? = some (.cells #[.int .i64 0, .int .i64 0, .int .i64 0, .bool false, .bool false, .bool false, .bool false, .bool false] 47 (0, 0))) := Lib.hid (keepU B7.out x6)
          clear x6
          dsimp only
          (try (simp only [Act.put, List.setIfInBounds_toArray, List.set]))
          refine xtv 7 (h := ?_)
          refine xtv 8 (h := ?_)
          refine xtv 9 (h := ?_)
          refine xone 11 (hk := Y6.out) (h := RunX.of 11 (h := ?_))
          refine wp_st 47 (.tmp 11) (.tmp 35) rfl w1.heap.size 0 47 #[.int .i64 0, .int .i64 0, .int .i64 0, .bool false, .bool false, .bool false, .bool false, .bool false] #[.int .i64 u0, .int .i64 u1, .int .i64 u2, .bool u3, .bool u4, .bool u5, .bool u6, .bool u7] #[.int .i64 u0, .int .i64 u1, .int .i64 u2, .bool u3, .bool u4, .bool u5, .bool u6, .bool u7] rfl rfl B6.out (by kernel_rfl) (by simp) rfl rfl ?_
          intro WB hWB oB
          simp only [Act.put]
          have YB : Hid (Ext W0 WB) := Lib.hid (ext_off Y6.out oB (fun b hb => by omega))
          have RB := Lib.hid hWB
          clear hWB oB
          refine xtv 12 (h := ?_)
          (refine xdone (by kernel_rfl) (YB.out) ?_)
          go_wp2_with fail
          go_meet
          exact ⟨_, rfl, rfl, RB, YB, hg7⟩
      case rest =>
        obtain ⟨g, rfl, rfl, HG, HXC, hg⟩ := hcut
        clear d0 d1 d2
        by_cases he : er = 0
        · subst he
          have HR : Hid (getR ⟨id, ph, L⟩ p k me n = (⟨id, ph, L.set i ⟨u0, u1, u2, u3, u4, u5, u6, u7⟩⟩, 0)) := Lib.hid (by rw [HRR2.out, if_pos rfl])
          have d2 := blk_cell (keepU D0.out HXC.out) 2 rfl
          go_upto_region 11 with (fail)
          go_upto_region 12 with (first
            | (go_at_call 33; refine (clone_sd wc _ L (HS.out.ext HXC.out) hl).mono ?_; rintro e w5 ⟨v5, rfl, o5, x5⟩; obtain ⟨a5, n5, c5, rfl⟩ := o5.sh; have X5 : Hid (Ext wc w5) := Lib.hid x5; have O5 := Lib.hid o5; have hcc := blk_cell (keepU (keepU D0.out HXC.out) x5) 2 rfl; have f5 := blk_free (keepU (keepU D0.out HXC.out) x5) 2; clear o5 x5))
          have hcs : W0.heap.size ≤ wc.heap.size := Below.size HXC.out
          have hgc : g < wc.heap.size := blk_lt HG.out
          obtain ⟨W6, hW6⟩ : ∃ W6, W6 = w5.setCell ⟨w.heap.size, 2, none⟩ (.slice a5 n5 c5) := ⟨_, rfl⟩
          have D6 : Hid (W6.heap[w.heap.size]? = some (.cells #[.int .i64 id, .int .i64 ph, .slice a5 n5 c5] 25 (0, 0))) := Lib.hid (by rw [hW6, blk_set (keepU (keepU D0.out HXC.out) X5.out)]; rfl)
          have R6 : Hid (W6.heap[w.heap.size + 3]? = some (.cells #[.int .i64 0, .int .i64 0, .slice none 0 0] 25 (0, 0))) := Lib.hid (by rw [hW6, set_other _ _ _ _ (by show w.heap.size + 3 ≠ w.heap.size; omega)]; exact keepU (keepU R0.out HXC.out) X5.out)
          have G6 : Hid (W6.heap[g]? = some (.cells #[.int .i64 u0, .int .i64 u1, .int .i64 u2, .bool u3, .bool u4, .bool u5, .bool u6, .bool u7] 47 (0, 0))) := Lib.hid (by rw [hW6, set_other _ _ _ _ (by show g ≠ w.heap.size; omega)]; exact keepU HG.out X5.out)
          have X6 : Hid (Ext w W6) := Lib.hid (hW6 ▸ below_set (X0.out.trans (HXC.out.trans X5.out)) (Nat.le_refl _) _)
          have S6 : Ow W6 wc.heap.size (.slice a5 n5 c5) L := hW6 ▸ O5.out.set (d := ⟨w.heap.size, 2, none⟩) (by show w.heap.size < _; omega) _
          rw [← hW6]
          clear hW6 d2 f5 hcc O5
          obtain ⟨gs, cur, rfl, hgs, rfl, hnc6, hc636, hcur, hcsz, hput⟩ := S6.setAt hlt ⟨u0, u1, u2, u3, u4, u5, u6, u7⟩
          have HCUR := Lib.hid hcur
          have HPUT := Lib.hid hput
          have HCZ : Hid (i * 8 + 8 ≤ cur.size) := Lib.hid hcsz
          have d2 := blk_cell D6.out 2 rfl
          obtain ⟨⟨⟨z0, z1⟩, z2, z3⟩, ⟨z4, z5⟩, z6, z7⟩ := cells8U G6.out
          clear hcur hput hcsz S6
          go_wp2_with (first | refine haltst 47 ?_)
          refine .inl ?_
          refine st_l 47 (.tmp 49) (.tmp 48) gs (i * 8) 47 cur #[.int .i64 u0, .int .i64 u1, .int .i64 u2, .bool u3, .bool u4, .bool u5, .bool u6, .bool u7] _ rfl rfl HCUR.out (by kernel_rfl) HCZ.out rfl rfl ?_
          intro W8 hW8 o8
          simp only [Act.put]
          have O8 := Lib.hid (HPUT.out W8 hW8)
          have X8 := Lib.hid (ext_off X6.out o8 (fun b hb => by omega))
          have R8 := Lib.hid ((o8.block (w.heap.size + 3) (blk_lt R6.out) (by omega)).trans R6.out)
          have hd8 := (o8.block w.heap.size (blk_lt D6.out) (by omega)).trans D6.out
          obtain ⟨e0, e1, e2⟩ := cells3U hd8
          clear hW8 o8 hd8 d2 z0 z1 z2 z3 z4 z5 z6 z7
          go_wp2_with (first | refine haltst 25 ?_)
          refine .inl ?_
          refine st_l 25 (.tmp 6) (.tmp 50) (w.heap.size + 3) 0 25 #[.int .i64 0, .int .i64 0, .slice none 0 0] #[.int .i64 id, .int .i64 ph, .slice (some ⟨gs, 0, none⟩) L.length c5] #[.int .i64 id, .int .i64 ph, .slice (some ⟨gs, 0, none⟩) L.length c5] rfl rfl R8.out (by kernel_rfl) (by simp) rfl rfl ?_
          intro W9 hW9 o9
          simp only [Act.put]
          go_wp2
          exact bodyPost_ret (v := .tuple #[.agg #[.int .i64 id, .int .i64 ph, .slice (some ⟨gs, 0, none⟩) L.length c5], .int .i64 0]) (res_ct 7 rfl rfl hW9 uDiner (by kernel_rfl)) rfl (by
            rw [HR.out]
            exact ⟨_, rfl, slOffU O8.out.sl (fun b hb => (O8.out.low b hb).1) o9 (by omega), ext_off X8.out o9 (fun b hb => by omega), fun b hb => by have := (O8.out.low b hb).1; omega⟩)
        · have HR : Hid (getR ⟨id, ph, L⟩ p k me n = (noD, er)) := Lib.hid (by rw [HRR2.out, if_neg he])
          have t9 : (er != 0) = true := by simp [he]
          clear he
          go_upto_region 10 with (fail)
          go_wp2_with (first | refine haltst 25 ?_)
          refine .inl ?_
          refine st_l 25 (.tmp 6) (.tmp 39) (w.heap.size + 3) 0 25 #[.int .i64 0, .int .i64 0, .slice none 0 0] #[.int .i64 0, .int .i64 0, .slice none 0 0] #[.int .i64 0, .int .i64 0, .slice none 0 0] rfl rfl (keepU R0.out HXC.out) (by kernel_rfl) (by simp) rfl rfl ?_
          intro W9 hW9 o9
          simp only [Act.put]
          go_wp2
          exact bodyPost_ret (v := .tuple #[.agg #[.int .i64 0, .int .i64 0, .slice none 0 0], .int .i64 er]) (res_ct 7 rfl rfl hW9 uDiner (by kernel_rfl)) rfl (givesNo HR.out (ext_off (X0.out.trans HXC.out) o9 (fun b hb => by omega)))

end Go.Proofs.Ytogbjpipkegecaa
