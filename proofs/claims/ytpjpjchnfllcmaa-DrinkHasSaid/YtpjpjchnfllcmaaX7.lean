/- Layer 15, the document's answers: Open, Close, Get. -/
import Derived.Test.YtpjpjchnfllcmaaX2
import Derived.Test.YtpjpjchnfllcmaaXV
import Derived.Test.YtpjpjchnfllcmaaW3
import Derived.Test.YtpjpjchnfllcmaaMUL
namespace Go.Proofs.Ytpjpjchnfllcmaa
open Go.RowKit

theorem sideAt_ways (p : Int) : ∀ L : List Sd, (sideAt p L = -1 ∧ ∀ s ∈ L, s.peer ≠ p) ∨ ∃ (k : Nat) (s : Sd), sideAt p L = (k : Int) ∧ k < L.length ∧ L[k]? = some s ∧ s.peer = p
  | [] => .inl ⟨rfl, by simp⟩
  | s :: L => by
    unfold sideAt
    by_cases h : s.peer = p
    · right
      exact ⟨0, s, by rw [if_pos h]; rfl, by simp, rfl, h⟩
    · rw [if_neg h]
      rcases sideAt_ways p L with ⟨e, hn⟩ | ⟨k, u, e, hk, hu, hp⟩
      · left
        rw [e]
        exact ⟨rfl, fun x hx => by rcases List.mem_cons.1 hx with rfl | hx; exact h; exact hn x hx⟩
      · right
        refine ⟨k + 1, u, ?_, by simp; omega, hu, hp⟩
        rw [e, if_neg (by omega)]; omega
theorem peer_one {id ph : Int} {L : List Sd} (h : dnOk ⟨id, ph, L⟩ = true) {j k : Nat} {s t : Sd} (hs : L[k]? = some s) (ht : L[j]? = some t) (e : t.peer = s.peer) : j = k := by
  apply Classical.byContradiction
  intro hj
  exact peers_apart (d := ⟨id, ph, L⟩) h hs j t hj ht e
theorem live_yes {L : List Sd} {p : Int} {k : Nat} {s : Sd} (hs : L[k]? = some s) (hp : s.peer = p) (h0 : s.state = 0) : p ∈ peersL (fun s => decide (s.state = 0)) L := by
  unfold peersL
  exact List.mem_map.2 ⟨s, List.mem_filter.2 ⟨List.mem_of_getElem? hs, by simpa using h0⟩, hp⟩
theorem live_no {id ph : Int} {L : List Sd} {p : Int} (h : dnOk ⟨id, ph, L⟩ = true) {k : Nat} {s : Sd} (hs : L[k]? = some s) (hp : s.peer = p) (h0 : s.state ≠ 0) : p ∉ peersL (fun s => decide (s.state = 0)) L := by
  unfold peersL
  intro hm
  obtain ⟨t, ht, e⟩ := List.mem_map.1 hm
  obtain ⟨ht, hl⟩ := List.mem_filter.1 ht
  obtain ⟨j, hj⟩ := List.getElem?_of_mem ht
  have := peer_one h hs hj (e.trans hp.symm)
  subst this
  rw [hs] at hj
  cases hj
  exact h0 (by simpa using hl)
theorem live_none {L : List Sd} {p : Int} (h : ∀ s ∈ L, s.peer ≠ p) : p ∉ peersL (fun s => decide (s.state = 0)) L := by
  unfold peersL
  intro hm
  obtain ⟨t, ht, e⟩ := List.mem_map.1 hm
  exact h t (List.mem_filter.1 ht).1 e
theorem find_none {L : List Sd} {p me : Int} (h : ∀ s ∈ L, s.peer ≠ p) : findS (fun s => s.peer == p && s.epoch == me) L = none := findS_none fun k s hk => by
  have := h s (List.mem_of_getElem? hk)
  simp [this]
theorem find_other {id ph : Int} {L : List Sd} {p me : Int} (h : dnOk ⟨id, ph, L⟩ = true) {k : Nat} {s : Sd} (hs : L[k]? = some s) (hp : s.peer = p) (he : s.epoch ≠ me) : findS (fun s => s.peer == p && s.epoch == me) L = none := findS_none fun j t hj => by
  by_cases e : t.peer = p
  · have := peer_one h hs hj (e.trans hp.symm)
    subst this
    rw [hs] at hj
    cases hj
    simp [he]
  · simp [e]
theorem find_here {id ph : Int} {L : List Sd} {p me : Int} (h : dnOk ⟨id, ph, L⟩ = true) {k : Nat} {s : Sd} (hs : L[k]? = some s) (hp : s.peer = p) (he : s.epoch = me) : findS (fun s => s.peer == p && s.epoch == me) L = some (k, s) := findS_some hs (by simp [hp, he]) fun j t hj ht => by
  have : t.peer ≠ p := fun e => by have := peer_one h hs ht (e.trans hp.symm); omega
  simp [this]
theorem chk_dn {d : Dk} (h : chkK d = true) : dnOk d.dn = true := by
  unfold chkK at h
  simp only [Bool.and_eq_true] at h
  exact h.1.1.1.1

set_option maxRecDepth 100000 in
set_option maxHeartbeats 8000000 in
theorem refDkClose_any (w : World) (id ph th : Int) (v nv : Value) (L : List Sd) (N : List Int) (h : Sl w v L) (hN : Sl w nv N) :
    Calls Try.prog 25 #[.agg #[.int .i64 id, .int .i64 ph, v, .int .i64 th, nv]] w (GivesD w (closeR ⟨id, ph, L, th, N⟩)) := by
  obtain ⟨ao, c, rfl⟩ := h.len
  obtain ⟨na, nc, rfl⟩ := hN.len
  obtain ⟨W0, hW0⟩ : ∃ W0, W0 = (w.alloc (.cells #[.int .i64 id, .int .i64 ph, .slice ao L.length c, .int .i64 th, .slice na N.length nc] 29)).alloc (.cells #[.int .i64 0, .int .i64 0, .slice none 0 0, .int .i64 0, .slice none 0 0] 29) := ⟨_, rfl⟩
  have X0 : Hid (Ext w W0) := Lib.hid (hW0 ▸ ((Ext.refl w).alloc _).alloc _)
  have D0 : Hid (W0.heap[w.heap.size]? = some (.cells #[.int .i64 id, .int .i64 ph, .slice ao L.length c, .int .i64 th, .slice na N.length nc] 29 (0, 0))) := Lib.hid (hW0 ▸ old1 (at0 w _) _)
  have R0 : Hid (W0.heap[w.heap.size + 1]? = some (.cells #[.int .i64 0, .int .i64 0, .slice none 0 0, .int .i64 0, .slice none 0 0] 29 (0, 0))) := Lib.hid (hW0 ▸ at1 w _ _)
  have HW0 := Lib.hid hW0
  have HS := Lib.hid (h.ext X0.out)
  have HSw := Lib.hid h
  have HN := Lib.hid (hN.ext X0.out)
  have HNw := Lib.hid hN
  obtain ⟨t, ht⟩ : ∃ t, chkK ⟨id, ph, L, th, N⟩ = t := ⟨_, rfl⟩
  have HT := Lib.hid ht
  clear h hN hW0 ht
  obtain ⟨⟨d0, d1, d2⟩, d3, d4⟩ := cells5 D0.out
  have HC := Lib.hid (refDkCheck_any W0 id ph th _ _ L N HS.out HN.out t HT.out)
  go_enter Try.func25, Try.ntmps25
  go_upto_region 1 with (fail)
  rw [← HW0.out]
  cases t
  · have HR : Hid (closeR ⟨id, ph, L, th, N⟩ = (noK, 150)) := Lib.hid (by unfold closeR; rw [HT.out]; rfl)
    go_upto_region 2 with (first
      | (go_at_call 16; refine HC.out.mono ?_; rintro e w1 ⟨rfl, hx⟩; have X1 : Hid (Ext W0 w1) := Lib.hid hx; clear hx))
    go_wp2_with (first | refine haltst 29 ?_)
    refine .inl ?_
    refine st_l 29 (.tmp 2) (.tmp 7) (w.heap.size + 1) 0 29 #[.int .i64 0, .int .i64 0, .slice none 0 0, .int .i64 0, .slice none 0 0] #[.int .i64 0, .int .i64 0, .slice none 0 0, .int .i64 0, .slice none 0 0] #[.int .i64 0, .int .i64 0, .slice none 0 0, .int .i64 0, .slice none 0 0] rfl rfl (keepU R0.out X1.out) (by kernel_rfl) (by simp) rfl rfl ?_
    intro W9 hW9 o9
    simp only [Act.put]
    go_wp2
    exact bodyPost_ret (v := .tuple #[.agg #[.int .i64 0, .int .i64 0, .slice none 0 0, .int .i64 0, .slice none 0 0], .int .i64 150]) (res_ct 3 rfl rfl hW9 uDrinker (by kernel_rfl)) rfl (givesDNo HR.out (ext_off (X0.out.trans X1.out) o9 (fun b hb => by omega)))
  · go_upto_region 3 with (first
      | (go_at_call 16; refine HC.out.mono ?_; rintro e w1 ⟨rfl, hx⟩; have X1 : Hid (Ext W0 w1) := Lib.hid hx; clear hx))
    clear d0 d1 d2 d3 d4 HC
    obtain ⟨⟨d0, d1, d2⟩, d3, d4⟩ := cells5 (keepU D0.out X1.out)
    by_cases e1 : th = 0
    · have t1 : (th == 0) = true := by simp [e1]
      have HR : Hid (closeR ⟨id, ph, L, th, N⟩ = (noK, 152)) := Lib.hid (by unfold closeR; rw [HT.out, if_pos rfl, if_pos (by dsimp only; exact e1)])
      clear e1
      go_upto_region 4 with (fail)
      go_wp2_with (first | refine haltst 29 ?_)
      refine .inl ?_
      refine st_l 29 (.tmp 2) (.tmp 11) (w.heap.size + 1) 0 29 #[.int .i64 0, .int .i64 0, .slice none 0 0, .int .i64 0, .slice none 0 0] #[.int .i64 0, .int .i64 0, .slice none 0 0, .int .i64 0, .slice none 0 0] #[.int .i64 0, .int .i64 0, .slice none 0 0, .int .i64 0, .slice none 0 0] rfl rfl (keepU R0.out X1.out) (by kernel_rfl) (by simp) rfl rfl ?_
      intro W9 hW9 o9
      simp only [Act.put]
      go_wp2
      exact bodyPost_ret (v := .tuple #[.agg #[.int .i64 0, .int .i64 0, .slice none 0 0, .int .i64 0, .slice none 0 0], .int .i64 152]) (res_ct 3 rfl rfl hW9 uDrinker (by kernel_rfl)) rfl (givesDNo HR.out (ext_off (X0.out.trans X1.out) o9 (fun b hb => by omega)))
    · have t1 : (th == 0) = false := by simp [e1]
      have HR : Hid (closeR ⟨id, ph, L, th, N⟩ = (⟨id, ph, L, 0, []⟩, 0)) := Lib.hid (by unfold closeR; rw [HT.out, if_pos rfl, if_neg (by dsimp only; exact e1)])
      clear e1
      have f3 := blk_free (keepU D0.out X1.out) 3
      have f4 := blk_free (keepU D0.out X1.out) 4
      go_upto_region 5 with (fail)
      go_upto_region 6 with (fail)
      obtain ⟨Wc, hWc⟩ : ∃ Wc, Wc = (w1.setCell ⟨w.heap.size, 3, none⟩ (.int .i64 0)).setCell ⟨w.heap.size, 4, none⟩ (.slice none 0 0) := ⟨_, rfl⟩
      have BC : Hid (Wc.heap[w.heap.size]? = some (.cells #[.int .i64 id, .int .i64 ph, .slice ao L.length c, .int .i64 0, .slice none 0 0] 29 (0, 0))) := Lib.hid (by rw [hWc, blk_set (blk_set (keepU D0.out X1.out) 3 _) 4 _]; rfl)
      have QC : Hid (Wc.heap[w.heap.size + 1]? = some (.cells #[.int .i64 0, .int .i64 0, .slice none 0 0, .int .i64 0, .slice none 0 0] 29 (0, 0))) := Lib.hid (by rw [hWc, set_other _ _ _ _ (by show w.heap.size + 1 ≠ w.heap.size; omega), set_other _ _ _ _ (by show w.heap.size + 1 ≠ w.heap.size; omega)]; exact keepU R0.out X1.out)
      have XC : Hid (Ext w Wc) := Lib.hid (hWc ▸ below_set (below_set (X0.out.trans X1.out) (Nat.le_refl _) _) (Nat.le_refl _) _)
      rw [← hWc]
      clear hWc f3 f4 d0 d1 d2 d3 d4
      obtain ⟨⟨d0, d1, d2⟩, d3, d4⟩ := cells5 BC.out
      go_wp2_with (first | refine haltst 29 ?_)
      refine .inl ?_
      refine st_l 29 (.tmp 2) (.tmp 14) (w.heap.size + 1) 0 29 #[.int .i64 0, .int .i64 0, .slice none 0 0, .int .i64 0, .slice none 0 0] #[.int .i64 id, .int .i64 ph, .slice ao L.length c, .int .i64 0, .slice none 0 0] #[.int .i64 id, .int .i64 ph, .slice ao L.length c, .int .i64 0, .slice none 0 0] rfl rfl QC.out (by kernel_rfl) (by simp) rfl rfl ?_
      intro W9 hW9 o9
      simp only [Act.put]
      go_wp2
      exact bodyPost_ret (v := .tuple #[.agg #[.int .i64 id, .int .i64 ph, .slice ao L.length c, .int .i64 0, .slice none 0 0], .int .i64 0]) (res_ct 3 rfl rfl hW9 uDrinker (by kernel_rfl)) rfl (by
        rw [HR.out]
        have x9 := ext_off XC.out o9 (fun b hb => by omega)
        exact ⟨_, _, rfl, HSw.out.ext x9, slNoneU _, x9⟩)

set_option maxRecDepth 100000 in
set_option maxHeartbeats 8000000 in
theorem refDkOpen_any (w : World) (id ph th : Int) (v nv qv : Value) (L : List Sd) (N Q : List Int) (h : Sl w v L) (hN : Sl w nv N) (hQ : Sl w qv Q) (hq : Q.length ≤ 1000) :
    Calls Try.prog 23 #[.agg #[.int .i64 id, .int .i64 ph, v, .int .i64 th, nv], qv] w (GivesD w (openR ⟨id, ph, L, th, N⟩ Q)) := by
  obtain ⟨ao, c, rfl⟩ := h.len
  obtain ⟨na, nc, rfl⟩ := hN.len
  obtain ⟨qa, qc, rfl⟩ := hQ.len
  have hlen := h.length_le
  obtain ⟨W0, hW0⟩ : ∃ W0, W0 = (w.alloc (.cells #[.int .i64 id, .int .i64 ph, .slice ao L.length c, .int .i64 th, .slice na N.length nc] 29)).alloc (.cells #[.int .i64 0, .int .i64 0, .slice none 0 0, .int .i64 0, .slice none 0 0] 29) := ⟨_, rfl⟩
  have X0 : Hid (Ext w W0) := Lib.hid (hW0 ▸ ((Ext.refl w).alloc _).alloc _)
  have D0 : Hid (W0.heap[w.heap.size]? = some (.cells #[.int .i64 id, .int .i64 ph, .slice ao L.length c, .int .i64 th, .slice na N.length nc] 29 (0, 0))) := Lib.hid (hW0 ▸ old1 (at0 w _) _)
  have R0 : Hid (W0.heap[w.heap.size + 1]? = some (.cells #[.int .i64 0, .int .i64 0, .slice none 0 0, .int .i64 0, .slice none 0 0] 29 (0, 0))) := Lib.hid (hW0 ▸ at1 w _ _)
  have HW0 := Lib.hid hW0
  have HS := Lib.hid (h.ext X0.out)
  have HSw := Lib.hid h
  have HN := Lib.hid (hN.ext X0.out)
  have HNw := Lib.hid hN
  have HQ := Lib.hid (hQ.ext X0.out)
  have HQL : Hid (Q.length ≤ 1000) := Lib.hid hq
  obtain ⟨t, ht⟩ : ∃ t, chkK ⟨id, ph, L, th, N⟩ = t := ⟨_, rfl⟩
  have HT := Lib.hid ht
  clear h hN hQ hW0 ht
  obtain ⟨⟨d0, d1, d2⟩, d3, d4⟩ := cells5 D0.out
  have HC := Lib.hid (refDkCheck_any W0 id ph th _ _ L N HS.out HN.out t HT.out)
  go_enter Try.func23, Try.ntmps23
  go_upto_region 1 with (fail)
  rw [← HW0.out]
  cases t
  · have HR : Hid (openR ⟨id, ph, L, th, N⟩ Q = (noK, 150)) := Lib.hid (by unfold openR; rw [HT.out]; rfl)
    go_upto_region 2 with (first
      | (go_at_call 16; refine HC.out.mono ?_; rintro e w1 ⟨rfl, hx⟩; have X1 : Hid (Ext W0 w1) := Lib.hid hx; clear hx))
    go_wp2_with (first | refine haltst 29 ?_)
    refine .inl ?_
    refine st_l 29 (.tmp 4) (.tmp 11) (w.heap.size + 1) 0 29 #[.int .i64 0, .int .i64 0, .slice none 0 0, .int .i64 0, .slice none 0 0] #[.int .i64 0, .int .i64 0, .slice none 0 0, .int .i64 0, .slice none 0 0] #[.int .i64 0, .int .i64 0, .slice none 0 0, .int .i64 0, .slice none 0 0] rfl rfl (keepU R0.out X1.out) (by kernel_rfl) (by simp) rfl rfl ?_
    intro W9 hW9 o9
    simp only [Act.put]
    go_wp2
    exact bodyPost_ret (v := .tuple #[.agg #[.int .i64 0, .int .i64 0, .slice none 0 0, .int .i64 0, .slice none 0 0], .int .i64 150]) (res_ct 5 rfl rfl hW9 uDrinker (by kernel_rfl)) rfl (givesDNo HR.out (ext_off (X0.out.trans X1.out) o9 (fun b hb => by omega)))
  · go_upto_region 3 with (first
      | (go_at_call 16; refine HC.out.mono ?_; rintro e w1 ⟨rfl, hx⟩; have X1 : Hid (Ext W0 w1) := Lib.hid hx; clear hx))
    have HDN : Hid (dnOk ⟨id, ph, L⟩ = true) := Lib.hid (chk_dn HT.out)
    clear d0 d1 d2 d3 d4 HC
    obtain ⟨⟨d0, d1, d2⟩, d3, d4⟩ := cells5 (keepU D0.out X1.out)
    by_cases e1 : th = 0
    · have t1 : (th != 0) = false := by simp [e1]
      have HR1 : Hid (openR ⟨id, ph, L, th, N⟩ Q = if (Q.all fun p => decide (p ∈ peersL (fun s => decide (s.state = 0)) L)) = true then (⟨id, ph, L, 1, norm Q⟩, 0) else (noK, 151)) := Lib.hid (by unfold openR; rw [HT.out, if_pos rfl, if_neg (by dsimp only; rw [e1]; simp)])
      clear e1
      go_wp2
      go_loopw [6] (fun i wr => ∃ k : Nat, k ≤ Q.length ∧ i = .int .i64 k ∧ Hid (∀ j, j < k → Q.getD j 0 ∈ peersL (fun s => decide (s.state = 0)) L) ∧ Hid (Ext W0 wr)) (fun i _ => Q.length - (intOf i).toNat)
      case atStart => exact ⟨0, Nat.zero_le _, rfl, Lib.hid (fun j hj => by omega), X1⟩
      case round =>
        obtain ⟨k, hk, rfl, HJ, HX⟩ := hrel
        clear d0 d1 d2 d3 d4
        obtain ⟨⟨d0, d1, d2⟩, d3, d4⟩ := cells5 (keepU D0.out HX.out)
        by_cases hlt : k < Q.length
        · rcases HQ.out.ints with ⟨e, _⟩ | ⟨b1, off, c', e, hnc, hc63, hb, hpos, hcell⟩
          · rw [e] at hlt; exact absurd hlt (Nat.not_lt_zero _)
          simp only [Value.slice.injEq] at e
          obtain ⟨rfl, _, rfl⟩ := e
          obtain ⟨y, hy⟩ : ∃ y, y = Q.getD k 0 := ⟨_, rfl⟩
          have HCY : Hid (∀ V, Ext W0 V → V.cell? ⟨b1, off + k, none⟩ = some (.int .i64 y)) := Lib.hid fun V hV => by rw [hy]; exact (Below.cell hV (p := ⟨b1, off + k, none⟩) hb).trans (hcell k hlt)
          obtain ⟨r, hr⟩ : ∃ r, sideAt y L = r := ⟨_, rfl⟩
          have HSD : Hid (∀ V, Ext W0 V → Calls Try.prog 36 #[.agg #[.int .i64 id, .int .i64 ph, .slice ao L.length c, .int .i64 th, .slice na N.length nc], .int .i64 y] V fun e w' => e = .returned (.int .i64 r) ∧ Ext V w') := Lib.hid fun V hV => by rw [← hr]; exact refDSide_any V id ph th y _ _ L N (HS.out.ext hV) (HN.out.ext hV)
          have HY := Lib.hid hy
          have HRR := Lib.hid hr
          clear hy hr hcell hpos
          go_upto_region 8 with (fail)
          clear d0 d1 d2 d3 d4
          refine wp_region_M_lit (by kernel_rfl) ?_
          refine tv 0 (hv := by intro w' hw'; obtain ⟨⟨d0, d1, d2⟩, d3, d4⟩ := cells5 (keepU D0.out (HX.out.trans hw')); go_simp; first | done | with_reducible rfl) (h := ?_)
          refine tv 1 (h := ?_)
          refine tv 2 (h := ?_)
          refine tv 3 (h := ?_)
          refine tv 4 (hv := by intro w' hw'; have hc := HCY.out w' (HX.out.trans hw'); go_simp; first | done | with_reducible rfl) (h := ?_)
          (refine takeG 5 (v := ?_) (hv := fun w' hw' => ?_) (h := ?_); rotate_left; focus (go_simp; refine ⟨Ext.refl _, ?_⟩; (exact HSD.out w' (HX.out.trans hw')))); (simp only [Act.put, List.setIfInBounds_toArray, List.set])
          refine tv 6 (h := ?_)
          (refine doneM (by kernel_rfl) ?_; intro w' hw'; show _)
          have HW := Lib.hid (HX.out.trans hw')
          clear hw'
          obtain ⟨⟨d0, d1, d2⟩, d3, d4⟩ := cells5 (keepU D0.out HW.out)
          by_cases hneg : r < 0
          · have HNO : Hid (y ∉ peersL (fun s => decide (s.state = 0)) L) := Lib.hid (by
              rcases sideAt_ways y L with ⟨_, hn⟩ | ⟨k2, s, e, _⟩
              · exact live_none hn
              · rw [HRR.out] at e; omega)
            have HR : Hid (openR ⟨id, ph, L, th, N⟩ Q = (noK, 151)) := Lib.hid (by
              rw [HR1.out, if_neg]
              intro hall
              have := List.all_eq_true.1 hall y (by rw [HY.out]; exact getD_mem hlt)
              exact HNO.out (by simpa using this))
            go_upto_region 10 with (fail)
            go_wp2_with (first | refine haltst 29 ?_)
            refine .inl ?_
            refine st_l 29 (.tmp 4) (.tmp 40) (w.heap.size + 1) 0 29 #[.int .i64 0, .int .i64 0, .slice none 0 0, .int .i64 0, .slice none 0 0] #[.int .i64 0, .int .i64 0, .slice none 0 0, .int .i64 0, .slice none 0 0] #[.int .i64 0, .int .i64 0, .slice none 0 0, .int .i64 0, .slice none 0 0] rfl rfl (keepU R0.out HW.out) (by kernel_rfl) (by simp) rfl rfl ?_
            intro W9 hW9 o9
            simp only [Act.put]
            go_wp2
            exact bodyPost_ret (v := .tuple #[.agg #[.int .i64 0, .int .i64 0, .slice none 0 0, .int .i64 0, .slice none 0 0], .int .i64 151]) (res_ct 5 rfl rfl hW9 uDrinker (by kernel_rfl)) rfl (givesDNo HR.out (ext_off (X0.out.trans HW.out) o9 (fun b hb => by omega)))
          · obtain ⟨s, hsk, hkl, hpe⟩ : ∃ s, L[r.toNat]? = some s ∧ r < (L.length : Int) ∧ s.peer = y := by
              rcases sideAt_ways y L with ⟨e, _⟩ | ⟨k2, s, e, hk2, hs, hp⟩
              · rw [HRR.out] at e; omega
              · rw [HRR.out] at e
                obtain rfl : r.toNat = k2 := by omega
                exact ⟨s, hs, by omega, hp⟩
            have hr0 : 0 ≤ r := by omega
            obtain ⟨b2, off2, s', hsy, hsj, rfl, hn2, hnc2, hc632, hb2, hcs⟩ := HS.out.sidesAt (k := r.toNat) (by omega)
            obtain rfl : s' = s := by have := hsj.symm.trans hsk; simpa using this
            obtain ⟨⟨⟨x0, x1⟩, x2, x3⟩, ⟨x4, x5⟩, x6, x7⟩ := hcs _ HW.out
            have HSK := Lib.hid hsk
            have HPE := Lib.hid hpe
            clear hsy hsj hcs hn2 hsk hpe x0 x1 x3 x4 x5 x6 x7
            obtain ⟨y0, y1, y2, y3, y4, y5, y6, y7⟩ := s'
            dsimp only at x2
            by_cases e2 : y2 = 0
            · have t2 : (y2 != 0) = false := by simp [e2]
              have HOK : Hid (y ∈ peersL (fun s => decide (s.state = 0)) L) := Lib.hid (live_yes HSK.out HPE.out e2)
              clear e2
              go_wp2
              go_roundw
              case rel => exact ⟨k + 1, by omega, by go_num, Lib.hid (fun j hj => by
                rcases Nat.lt_or_ge j k with h | h
                · exact HJ.out j h
                · obtain rfl : j = k := by omega
                  rw [← HY.out]; exact HOK.out), HW⟩
              case measure => simp [intOf]; omega
            · have t2 : (y2 != 0) = true := by simp [e2]
              have HR : Hid (openR ⟨id, ph, L, th, N⟩ Q = (noK, 151)) := Lib.hid (by
                rw [HR1.out, if_neg]
                intro hall
                have := List.all_eq_true.1 hall y (by rw [HY.out]; exact getD_mem hlt)
                exact live_no HDN.out HSK.out HPE.out e2 (by simpa using this))
              clear e2
              go_upto_region 10 with (fail)
              go_wp2_with (first | refine haltst 29 ?_)
              refine .inl ?_
              refine st_l 29 (.tmp 4) (.tmp 40) (w.heap.size + 1) 0 29 #[.int .i64 0, .int .i64 0, .slice none 0 0, .int .i64 0, .slice none 0 0] #[.int .i64 0, .int .i64 0, .slice none 0 0, .int .i64 0, .slice none 0 0] #[.int .i64 0, .int .i64 0, .slice none 0 0, .int .i64 0, .slice none 0 0] rfl rfl (keepU R0.out HW.out) (by kernel_rfl) (by simp) rfl rfl ?_
              intro W9 hW9 o9
              simp only [Act.put]
              go_wp2
              exact bodyPost_ret (v := .tuple #[.agg #[.int .i64 0, .int .i64 0, .slice none 0 0, .int .i64 0, .slice none 0 0], .int .i64 151]) (res_ct 5 rfl rfl hW9 uDrinker (by kernel_rfl)) rfl (givesDNo HR.out (ext_off (X0.out.trans HW.out) o9 (fun b hb => by omega)))
        · have hkl : k = Q.length := by omega
          have HR : Hid (openR ⟨id, ph, L, th, N⟩ Q = (⟨id, ph, L, 1, norm Q⟩, 0)) := Lib.hid (by
            rw [HR1.out, if_pos]
            rw [List.all_eq_true]
            intro p hp
            obtain ⟨j, hj, e⟩ := List.getElem_of_mem hp
            have := HJ.out j (by omega)
            rw [show Q.getD j 0 = p from by simp [hj, e]] at this
            simpa using this)
          clear hkl
          go_upto_region 12 with (first
            | (go_at_call 50; refine (refOf_any wr _ Q (HQ.out.ext HX.out) (by have := HQL.out; omega)).mono ?_; rintro e w5 ⟨v5, rfl, o5, x5⟩; obtain ⟨fa, fn, fc, rfl⟩ := o5.sh; have X5 : Hid (Ext W0 w5) := Lib.hid (Ext.trans HX.out x5); have O5 := Lib.hid o5; have B5 := Lib.hid (keepU D0.out X5.out); have c3 := blk_cell B5.out 3 rfl; have c4 := blk_cell B5.out 4 rfl; have f3 := blk_free B5.out 3; have f4 := blk_free B5.out 4; clear o5 x5))
          obtain ⟨Wc, hWc⟩ : ∃ Wc, Wc = (w5.setCell ⟨w.heap.size, 3, none⟩ (.int .i64 1)).setCell ⟨w.heap.size, 4, none⟩ (.slice fa fn fc) := ⟨_, rfl⟩
          have BC : Hid (Wc.heap[w.heap.size]? = some (.cells #[.int .i64 id, .int .i64 ph, .slice ao L.length c, .int .i64 1, .slice fa fn fc] 29 (0, 0))) := Lib.hid (by rw [hWc, blk_set (blk_set B5.out 3 _) 4 _]; rfl)
          have QC : Hid (Wc.heap[w.heap.size + 1]? = some (.cells #[.int .i64 0, .int .i64 0, .slice none 0 0, .int .i64 0, .slice none 0 0] 29 (0, 0))) := Lib.hid (by rw [hWc, set_other _ _ _ _ (by show w.heap.size + 1 ≠ w.heap.size; omega), set_other _ _ _ _ (by show w.heap.size + 1 ≠ w.heap.size; omega)]; exact keepU R0.out X5.out)
          have XC : Hid (Ext w Wc) := Lib.hid (hWc ▸ below_set (below_set (X0.out.trans X5.out) (Nat.le_refl _) _) (Nat.le_refl _) _)
          have hzr : w.heap.size + 2 ≤ wr.heap.size := by have := blk_lt (keepU R0.out HX.out); omega
          have SC : Hid (Ow Wc wr.heap.size (.slice fa fn fc) (norm Q)) := Lib.hid (hWc ▸ (O5.out.set (d := ⟨w.heap.size, 3, none⟩) (by show w.heap.size < _; omega) _).set (d := ⟨w.heap.size, 4, none⟩) (by show w.heap.size < _; omega) _)
          rw [← hWc]
          clear hWc c3 c4 f3 f4 d0 d1 d2 d3 d4
          obtain ⟨⟨d0, d1, d2⟩, d3, d4⟩ := cells5 BC.out
          go_wp2_with (first | refine haltst 29 ?_)
          refine .inl ?_
          refine st_l 29 (.tmp 4) (.tmp 45) (w.heap.size + 1) 0 29 #[.int .i64 0, .int .i64 0, .slice none 0 0, .int .i64 0, .slice none 0 0] #[.int .i64 id, .int .i64 ph, .slice ao L.length c, .int .i64 1, .slice fa fn fc] #[.int .i64 id, .int .i64 ph, .slice ao L.length c, .int .i64 1, .slice fa fn fc] rfl rfl QC.out (by kernel_rfl) (by simp) rfl rfl ?_
          intro W9 hW9 o9
          simp only [Act.put]
          go_wp2
          exact bodyPost_ret (v := .tuple #[.agg #[.int .i64 id, .int .i64 ph, .slice ao L.length c, .int .i64 1, .slice fa fn fc], .int .i64 0]) (res_ct 5 rfl rfl hW9 uDrinker (by kernel_rfl)) rfl (by
            rw [HR.out]
            have x9 := ext_off XC.out o9 (fun b hb => by omega)
            exact ⟨_, _, rfl, HSw.out.ext x9, (owU SC.out (fun b hb => o9.block b (SC.out.low b hb).2 (by have := (SC.out.low b hb).1; omega))).sl, x9⟩)
    · have t1 : (th != 0) = true := by simp [e1]
      have HR : Hid (openR ⟨id, ph, L, th, N⟩ Q = (noK, 152)) := Lib.hid (by unfold openR; rw [HT.out, if_pos rfl, if_pos (by dsimp only; exact e1)])
      clear e1
      go_upto_region 4 with (fail)
      go_wp2_with (first | refine haltst 29 ?_)
      refine .inl ?_
      refine st_l 29 (.tmp 4) (.tmp 15) (w.heap.size + 1) 0 29 #[.int .i64 0, .int .i64 0, .slice none 0 0, .int .i64 0, .slice none 0 0] #[.int .i64 0, .int .i64 0, .slice none 0 0, .int .i64 0, .slice none 0 0] #[.int .i64 0, .int .i64 0, .slice none 0 0, .int .i64 0, .slice none 0 0] rfl rfl (keepU R0.out X1.out) (by kernel_rfl) (by simp) rfl rfl ?_
      intro W9 hW9 o9
      simp only [Act.put]
      go_wp2
      exact bodyPost_ret (v := .tuple #[.agg #[.int .i64 0, .int .i64 0, .slice none 0 0, .int .i64 0, .slice none 0 0], .int .i64 152]) (res_ct 5 rfl rfl hW9 uDrinker (by kernel_rfl)) rfl (givesDNo HR.out (ext_off (X0.out.trans X1.out) o9 (fun b hb => by omega)))
end Go.Proofs.Ytpjpjchnfllcmaa
