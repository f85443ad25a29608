/- Layer 13: a law. -/
import Derived.Test.YtogbjpipkegecaaUN
namespace Go.Proofs.Ytogbjpipkegecaa
open Go.RowKit

set_option maxRecDepth 100000 in
set_option maxHeartbeats 16000000 in
theorem dineGets_any (w : World) (id ph : Int) (ao : Option Addr) (c : Nat) (L : List Sd) (peer k me n : Int) (h : Sl w (.slice ao L.length c) L) :
    Calls Try.prog 4 #[.agg #[.int .i64 id, .int .i64 ph, .slice ao L.length c], .int .i64 peer, .agg #[.int .i64 k, .int .i64 me, .int .i64 n]] w fun e w' => e = .returned (.bool true) ∧ Ext w w' := by
  have hlen := h.length_le
  obtain ⟨W0, hW0⟩ : ∃ W0, W0 = (w.alloc (.cells #[.int .i64 id, .int .i64 ph, .slice ao L.length c] 25)).alloc (.cells #[.int .i64 k, .int .i64 me, .int .i64 n] 40) := ⟨_, rfl⟩
  have X0 : Hid (Ext w W0) := Lib.hid (hW0 ▸ ((Ext.refl w).alloc _).alloc _)
  have D0 : Hid (W0.heap[w.heap.size]? = some (.cells #[.int .i64 id, .int .i64 ph, .slice ao L.length c] 25 (0, 0))) := Lib.hid (hW0 ▸ old1 (at0 w _) _)
  have M0 : Hid (W0.heap[w.heap.size + 1]? = some (.cells #[.int .i64 k, .int .i64 me, .int .i64 n] 40 (0, 0))) := Lib.hid (hW0 ▸ at1 w _ _)
  have HW0 := Lib.hid hW0
  have HS := Lib.hid (h.ext X0.out)
  clear h hW0
  obtain ⟨d0, d1, d2⟩ := cells3U D0.out
  by_cases h70 : (70 : Int) < (L.length : Int)
  · go_enter Try.func4, Try.ntmps4
    go_upto_region 1 with (fail)
    rw [← HW0.out]
    go_wp2_with (first
      | (go_at_call 10; have hgd := XA; refine (awake_any _).mono ?_; rintro e wb ⟨rfl, hx⟩; have XB : Hid (Ext W0 wb) := Lib.hid (XA.out.trans hx); clear hx hgd)
      | (go_at_call 10; refine (awake_any _).mono ?_; rintro e wa ⟨rfl, hx⟩; have XA : Hid (Ext W0 wa) := Lib.hid hx; clear d0 d1 d2; obtain ⟨d0, d1, d2⟩ := cells3U (keepU D0.out hx); clear hx))
    go_ret
    exact ⟨rfl, X0.out.trans XB.out⟩
  have hL : L.length ≤ 1000 := by omega
  obtain ⟨⟨⟨i, p, M⟩, er⟩, hr⟩ : ∃ r, getR ⟨id, ph, L⟩ peer k me n = r := ⟨_, rfl⟩
  have HR := Lib.hid hr
  clear hr
  go_enter Try.func4, Try.ntmps4
  go_upto_region 1 with (fail)
  rw [← HW0.out]
  go_upto_region 3 with (first
    | (go_at_call 10; refine (awake_any _).mono ?_; rintro e wa ⟨rfl, hx⟩; have XA : Hid (Ext W0 wa) := Lib.hid hx; clear d0 d1 d2; obtain ⟨d0, d1, d2⟩ := cells3U (keepU D0.out hx); clear hx))
  clear d0 d1 d2
  go_cut [7, 8] (fun s7 s8 wx => ∃ g7 a2 c2, s7 = .pointer (some ⟨g7, 0, none⟩) ∧ s8 = .int .i64 er ∧ Hid (wx.heap[g7]? = some (.cells #[.int .i64 i, .int .i64 p, .slice a2 M.length c2] 25 (0, 0))) ∧ Hid (Sl wx (.slice a2 M.length c2) M) ∧ Hid (Ext W0 wx))
  case first =>
    (refine wp_region_X_lit (K := fun V => Ext W0 V) (by kernel_rfl) (fun w1 hw1 => ?_))
    have HV1 : Hid (Ext W0 w1) := Lib.hid (XA.out.trans hw1)
    clear hw1
    refine xtv 0 (hv := by intro w' hw'; obtain ⟨q0, q1, q2⟩ := cells3U (keepU D0.out hw'); go_simp; first | done | with_reducible rfl) (h := ?_)
    refine xtv 2 (h := ?_)
    refine xtv 3 (hv := by intro w' hw'; obtain ⟨q0, q1, q2⟩ := cells3U (keepU M0.out hw'); go_simp; first | done | with_reducible rfl) (h := ?_)
    refine xtwo 1 8 (hk := HV1.out) (h := RunX.of 1 (h := ?_)) (h' := RunX.of 8 (h := ?_))
    · go_simp
      refine (ownL_any w1 id ph _ L (HS.out.ext HV1.out) hL).mono ?_
      rintro e wO ⟨a1, c1, rfl, s1, x1⟩
      have S1 := Lib.hid s1
      have YO : Hid (Ext W0 wO) := Lib.hid (HV1.out.trans x1)
      clear s1 x1
      dsimp only
      (try (simp only [Act.put, List.setIfInBounds_toArray, List.set]))
      refine xtwo 4 8 (hk := YO.out) (h := RunX.of 4 (h := ?_)) (h' := RunX.of 8 (h := ?_))
      · go_simp
        refine (get_any wO id ph peer k me n _ L (S1.out) hL).mono ?_
        intro e wG hge
        obtain ⟨a2, c2, rfl, s2, x2, n2⟩ := givesE_new hge HR.out
        have S2 := Lib.hid s2
        have YG : Hid (Ext W0 wG) := Lib.hid (YO.out.trans x2)
        clear hge s2 x2 n2
        dsimp only
        (try (simp only [Act.put, List.setIfInBounds_toArray, List.set]))
        refine xtv 5 (h := ?_)
        refine xtv 6 (h := ?_)
        refine xtv 7 (h := ?_)
        refine xone 8 (hk := YG.out) (h := RunX.of 8 (h := ?_))
        go_simp
        (try (simp only [Act.put, List.setIfInBounds_toArray, List.set]))
        obtain ⟨g7, hg7⟩ : ∃ g7, g7 = wG.heap.size := ⟨_, rfl⟩
        obtain ⟨W7, hW7⟩ : ∃ W7, W7 = wG.alloc (.cells #[.int .i64 0, .int .i64 0, .slice none 0 0] 25) := ⟨_, rfl⟩
        have Y7 : Hid (Ext W0 W7) := Lib.hid (hW7 ▸ YG.out.alloc _)
        have B7 : Hid (W7.heap[g7]? = some (.cells #[.int .i64 0, .int .i64 0, .slice none 0 0] 25 (0, 0))) := Lib.hid (by rw [hW7, hg7]; exact at0 wG _)
        have Z7 : Hid (Ext wG W7) := Lib.hid (hW7 ▸ (Ext.refl _).alloc _)
        have hgw : W0.heap.size ≤ g7 := by have := Below.size YG.out; omega
        have AV : Hid (M = [] ∨ ∀ b, (Value.slice a2 M.length c2).ownBlock = some b → b ≠ g7) := Lib.hid (S2.out.low.imp (fun h => h) fun h b hb => by have := h b hb; omega)
        have S2' := Lib.hid (S2.out.ext Z7.out)
        rw [← hW7, ← hg7]
        clear hW7 hg7
        refine xone 9 (hk := Y7.out) (h := RunX.of 9 (h := ?_))
        refine wp_st 25 (.tmp 7) (.tmp 26) rfl g7 0 25 #[.int .i64 0, .int .i64 0, .slice none 0 0] #[.int .i64 i, .int .i64 p, .slice a2 M.length c2] #[.int .i64 i, .int .i64 p, .slice a2 M.length c2] rfl rfl B7.out (by kernel_rfl) (by simp) rfl rfl ?_
        intro WE hWE oE
        simp only [Act.put]
        have YE : Hid (Ext W0 WE) := Lib.hid (ext_off Y7.out oE (fun b hb => by omega))
        have SE : Hid (Sl WE (.slice a2 M.length c2) M) := Lib.hid (slOffW S2'.out AV.out oE)
        have RE := Lib.hid hWE
        clear hWE oE
        refine xtv 10 (h := ?_)
        (refine xdone (by kernel_rfl) (YE.out) ?_)
        go_wp2_with fail
        go_meet
        exact ⟨_, _, _, rfl, rfl, RE, SE, YE⟩
      · go_simp
        (try (simp only [Act.put, List.setIfInBounds_toArray, List.set]))
        obtain ⟨g7, hg7⟩ : ∃ g7, g7 = wO.heap.size := ⟨_, rfl⟩
        obtain ⟨W7, hW7⟩ : ∃ W7, W7 = wO.alloc (.cells #[.int .i64 0, .int .i64 0, .slice none 0 0] 25) := ⟨_, rfl⟩
        have Y7 : Hid (Ext W0 W7) := Lib.hid (hW7 ▸ YO.out.alloc _)
        have B7 : Hid (W7.heap[g7]? = some (.cells #[.int .i64 0, .int .i64 0, .slice none 0 0] 25 (0, 0))) := Lib.hid (by rw [hW7, hg7]; exact at0 wO _)
        have Z7 : Hid (Ext wO W7) := Lib.hid (hW7 ▸ (Ext.refl _).alloc _)
        have hgw : W0.heap.size ≤ g7 := by have := Below.size YO.out; omega
        rw [← hW7, ← hg7]
        clear hW7 hg7
        refine xone 4 (hk := Y7.out) (h := RunX.of 4 (h := ?_))
        go_simp
        refine (get_any W7 id ph peer k me n _ L (S1.out.ext Z7.out) hL).mono ?_
        intro e wG hge
        obtain ⟨a2, c2, rfl, s2, x2, n2⟩ := givesE_new hge HR.out
        have S2 := Lib.hid s2
        have YG : Hid (Ext W0 wG) := Lib.hid (Y7.out.trans x2)
        have B7'' := Lib.hid (keepU B7.out x2)
        have AV : Hid (M = [] ∨ ∀ b, (Value.slice a2 M.length c2).ownBlock = some b → b ≠ g7) := Lib.hid (.inr fun b hb => by have := n2 b hb; have := blk_lt B7.out; omega)
        clear hge s2 x2 n2
        dsimp only
        (try (simp only [Act.put, List.setIfInBounds_toArray, List.set]))
        refine xtv 5 (h := ?_)
        refine xtv 6 (h := ?_)
        refine xtv 7 (h := ?_)
        refine xone 9 (hk := YG.out) (h := RunX.of 9 (h := ?_))
        refine wp_st 25 (.tmp 7) (.tmp 26) rfl g7 0 25 #[.int .i64 0, .int .i64 0, .slice none 0 0] #[.int .i64 i, .int .i64 p, .slice a2 M.length c2] #[.int .i64 i, .int .i64 p, .slice a2 M.length c2] rfl rfl B7''.out (by kernel_rfl) (by simp) rfl rfl ?_
        intro WE hWE oE
        simp only [Act.put]
        have YE : Hid (Ext W0 WE) := Lib.hid (ext_off YG.out oE (fun b hb => by omega))
        have SE : Hid (Sl WE (.slice a2 M.length c2) M) := Lib.hid (slOffW S2.out AV.out oE)
        have RE := Lib.hid hWE
        clear hWE oE
        refine xtv 10 (h := ?_)
        (refine xdone (by kernel_rfl) (YE.out) ?_)
        go_wp2_with fail
        go_meet
        exact ⟨_, _, _, rfl, rfl, RE, SE, YE⟩
    · go_simp
      (try (simp only [Act.put, List.setIfInBounds_toArray, List.set]))
      obtain ⟨g7, hg7⟩ : ∃ g7, g7 = w1.heap.size := ⟨_, rfl⟩
      obtain ⟨W7, hW7⟩ : ∃ W7, W7 = w1.alloc (.cells #[.int .i64 0, .int .i64 0, .slice none 0 0] 25) := ⟨_, rfl⟩
      have Y7 : Hid (Ext W0 W7) := Lib.hid (hW7 ▸ HV1.out.alloc _)
      have B7 : Hid (W7.heap[g7]? = some (.cells #[.int .i64 0, .int .i64 0, .slice none 0 0] 25 (0, 0))) := Lib.hid (by rw [hW7, hg7]; exact at0 w1 _)
      have Z7 : Hid (Ext w1 W7) := Lib.hid (hW7 ▸ (Ext.refl _).alloc _)
      have hgw : W0.heap.size ≤ g7 := by have := Below.size HV1.out; omega
      rw [← hW7, ← hg7]
      clear hW7 hg7
      refine xone 1 (hk := Y7.out) (h := RunX.of 1 (h := ?_))
      go_simp
      refine (ownL_any W7 id ph _ L (HS.out.ext Y7.out) hL).mono ?_
      rintro e wO ⟨a1, c1, rfl, s1, x1⟩
      have S1 := Lib.hid s1
      have YO : Hid (Ext W0 wO) := Lib.hid (Y7.out.trans x1)
      have B7' := Lib.hid (keepU B7.out x1)
      clear s1 x1
      dsimp only
      (try (simp only [Act.put, List.setIfInBounds_toArray, List.set]))
      refine xone 4 (hk := YO.out) (h := RunX.of 4 (h := ?_))
      go_simp
      refine (get_any wO id ph peer k me n _ L (S1.out) hL).mono ?_
      intro e wG hge
      obtain ⟨a2, c2, rfl, s2, x2, n2⟩ := givesE_new hge HR.out
      have S2 := Lib.hid s2
      have YG : Hid (Ext W0 wG) := Lib.hid (YO.out.trans x2)
      have B7'' := Lib.hid (keepU B7'.out x2)
      have AV : Hid (M = [] ∨ ∀ b, (Value.slice a2 M.length c2).ownBlock = some b → b ≠ g7) := Lib.hid (.inr fun b hb => by have := n2 b hb; have := blk_lt B7'.out; omega)
      clear hge s2 x2 n2
      dsimp only
      (try (simp only [Act.put, List.setIfInBounds_toArray, List.set]))
      refine xtv 5 (h := ?_)
      refine xtv 6 (h := ?_)
      refine xtv 7 (h := ?_)
      refine xone 9 (hk := YG.out) (h := RunX.of 9 (h := ?_))
      refine wp_st 25 (.tmp 7) (.tmp 26) rfl g7 0 25 #[.int .i64 0, .int .i64 0, .slice none 0 0] #[.int .i64 i, .int .i64 p, .slice a2 M.length c2] #[.int .i64 i, .int .i64 p, .slice a2 M.length c2] rfl rfl B7''.out (by kernel_rfl) (by simp) rfl rfl ?_
      intro WE hWE oE
      simp only [Act.put]
      have YE : Hid (Ext W0 WE) := Lib.hid (ext_off YG.out oE (fun b hb => by omega))
      have SE : Hid (Sl WE (.slice a2 M.length c2) M) := Lib.hid (slOffW S2.out AV.out oE)
      have RE := Lib.hid hWE
      clear hWE oE
      refine xtv 10 (h := ?_)
      (refine xdone (by kernel_rfl) (YE.out) ?_)
      go_wp2_with fail
      go_meet
      exact ⟨_, _, _, rfl, rfl, RE, SE, YE⟩
  case rest =>
    obtain ⟨g7, a2, c2, rfl, rfl, G7, S7, X7⟩ := hcut
    obtain ⟨d0, d1, d2⟩ := cells3U (keepU D0.out X7.out)
    obtain ⟨m0, m1, m2⟩ := cells3U (keepU M0.out X7.out)
    go_upto_region 5 with (first
      | (go_at_call 20; refine (refGet_any wc id ph peer k me n _ L (HS.out.ext X7.out) hL).mono ?_; intro e w5 hge; obtain ⟨a5, c5, rfl, s5, x5⟩ := givesE_spec hge HR.out; have S5 := Lib.hid s5; have X5 : Hid (Ext wc w5) := Lib.hid x5; clear hge s5 x5))
    obtain ⟨g9, hg9⟩ : ∃ g9, g9 = w5.heap.size := ⟨_, rfl⟩
    obtain ⟨W6, hW6⟩ : ∃ W6, W6 = w5.alloc (.cells #[.int .i64 i, .int .i64 p, .slice a5 M.length c5] 25) := ⟨_, rfl⟩
    have X6 : Hid (Ext wc W6) := Lib.hid (hW6 ▸ X5.out.alloc _)
    have G9 : Hid (W6.heap[g9]? = some (.cells #[.int .i64 i, .int .i64 p, .slice a5 M.length c5] 25 (0, 0))) := Lib.hid (by rw [hW6, hg9]; exact at0 w5 _)
    have S9 : Hid (Sl W6 (.slice a5 M.length c5) M) := Lib.hid (hW6 ▸ S5.out.alloc _)
    rw [← hW6, ← hg9]
    clear hW6 hg9 d0 d1 d2 m0 m1 m2
    obtain ⟨d0, d1, d2⟩ := cells3U (keepU G7.out X6.out)
    obtain ⟨e0, e1, e2⟩ := cells3U G9.out
    have hee : (er == er) = true := by simp
    go_wp2_with (first
      | (go_at_call 14; refine (refSameOne_any W6 i p i p _ _ M M (S7.out.ext X6.out) S9.out true (by simp)).mono ?_; rintro e w9 ⟨rfl, hx⟩; have X9 : Hid (Ext W6 w9) := Lib.hid hx; clear hx))
    go_ret
    exact ⟨rfl, X0.out.trans (X7.out.trans (X6.out.trans X9.out))⟩

end Go.Proofs.Ytogbjpipkegecaa
