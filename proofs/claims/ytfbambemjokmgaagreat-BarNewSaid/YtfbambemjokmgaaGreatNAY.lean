/- Texts of this seat. -/
import Derived.Test.YtfbambemjokmgaaGreatNAW
namespace Go.Proofs.YtfbambemjokmgaaGreat
open Go.RowKit
set_option maxRecDepth 100000 in
set_option maxHeartbeats 1000000 in
theorem hasB_any (w : World) (vk vm : Value) (L : List Dk) (M : List Ml) (a : Int) (h : BV w vk vm L M) (t : Bool) (ht : hasK L a = t) :
    Calls Tryz.prog 115 #[.agg #[vk, vm], .int .i64 a] w fun e w' => e = .returned (.bool t) ∧ Ext w w' := by
  obtain ⟨ao, c, bo, d, rfl, rfl⟩ := h.len
  have HT := Lib.hid ht
  have X0 : Hid (Ext w (w.alloc (.cells #[.slice ao L.length c, .slice bo M.length d] 25))) := Lib.hid ((Ext.refl w).alloc _)
  obtain ⟨c0, c1⟩ := cells2S (at0 w (.cells #[.slice ao L.length c, .slice bo M.length d] 25))
  clear h ht
  unfold hasK at HT
  go_enter Tryz.func115, Tryz.ntmps115
  by_cases h0 : 0 ≤ a
  · by_cases h1 : a < (L.length : Int)
    · go_wp2
      go_ret
      exact ⟨ret_bool (by rw [← HT.out, decide_eq_true h0, decide_eq_true h1]; simp), X0.out⟩
    · go_wp2
      go_ret
      exact ⟨ret_bool (by rw [← HT.out, decide_eq_true h0, decide_eq_false (by omega)]; simp), X0.out⟩
  · go_wp2
    go_ret
    exact ⟨ret_bool (by rw [← HT.out, decide_eq_false (by omega)]; rfl), X0.out⟩
set_option maxHeartbeats 1000000 in
theorem spoiltK_one (w : World) (id ph th : Int) (v nv : Value) (L : List Sd) (N : List Int) (h : Sl w v L) (hN : Sl w nv N) (hl : L.length ≤ 1000) (t : Bool) (ht : chkK ⟨id, ph, L, th, N⟩ = t) :
    Calls Tryz.prog 57 #[.agg #[.int .i64 id, .int .i64 ph, v, .int .i64 th, nv]] w fun e w' => e = .returned (.bool (!t)) ∧ Ext w w' := by
  obtain ⟨ao, c, rfl⟩ := h.len
  obtain ⟨na, nc, rfl⟩ := hN.len
  have X0 : Hid (Ext w (w.alloc (.cells #[.int .i64 id, .int .i64 ph, .slice ao L.length c, .int .i64 th, .slice na N.length nc] 63))) := Lib.hid ((Ext.refl w).alloc _)
  have HC := Lib.hid (dkCheck_any _ id ph th _ _ L N (h.ext X0.out) (hN.ext X0.out) hl t ht)
  obtain ⟨⟨d0, d1, d2⟩, d3, d4⟩ := cells5 (at0 w (.cells #[.int .i64 id, .int .i64 ph, .slice ao L.length c, .int .i64 th, .slice na N.length nc] 63))
  clear h hN ht
  go_enter Tryz.func57, Tryz.ntmps57
  go_wp2_with (go_at_call 58; refine HC.out.mono ?_; rintro e w1 ⟨rfl, hx⟩; have X1 := Lib.hid (X0.out.trans hx); clear hx)
  cases t
  · go_ret
    exact ⟨rfl, X1.out⟩
  · go_ret
    exact ⟨rfl, X1.out⟩
theorem SmB.sm {L : List Dk} {M : List Ml} (h : SmB L M) : Sm (sceneK L) M := ⟨by unfold sceneK; rw [List.length_map]; exact h.n, fun d hd => by
  unfold sceneK at hd
  obtain ⟨x, hx, rfl⟩ := List.mem_map.1 hd
  exact h.s x hx, h.m⟩
theorem chkB_bits (L : List Dk) (M : List Ml) : chkB L M = (chkT (sceneK L) M && !(L.any fun d => !chkK d)) := by
  unfold chkB
  rw [any_not]
  cases L.all chkK <;> cases chkT (sceneK L) M <;> rfl
set_option maxRecDepth 100000 in
set_option maxHeartbeats 8000000 in
theorem bCheck_any (w : World) (vk vm : Value) (L : List Dk) (M : List Ml) (h : BV w vk vm L M) (hl : SmB L M) (t : Bool) (ht : chkB L M = t) :
    Calls Tryz.prog 17 #[.agg #[vk, vm]] w fun e w' => e = .returned (.int .i64 (cond t 0 160)) ∧ Ext w w' := by
  obtain ⟨ao, c, bo, d, rfl, rfl⟩ := h.len
  obtain ⟨W1, hW1⟩ : ∃ W1, W1 = w.alloc (.cells #[.slice ao L.length c, .slice bo M.length d] 25) := ⟨_, rfl⟩
  have X0 : Hid (Ext w W1) := Lib.hid (hW1 ▸ (Ext.refl w).alloc _)
  have B1 : Hid (W1.heap[w.heap.size]? = some (.cells #[.slice ao L.length c, .slice bo M.length d] 25 (0, 0))) := Lib.hid (hW1 ▸ at0 w _)
  have HK : Hid (∀ V, Ext W1 V → V.cell? ⟨w.heap.size, 0, none⟩ = some (.slice ao L.length c) ∧ V.cell? ⟨w.heap.size, 1, none⟩ = some (.slice bo M.length d)) := Lib.hid fun V hV => cells2S (keepU B1.out hV)
  have HV := Lib.hid (h.ext X0.out)
  have HL := Lib.hid hl
  have HW1 := Lib.hid hW1
  obtain ⟨t1, ht1⟩ : ∃ t, chkT (sceneK L) M = t := ⟨_, rfl⟩
  obtain ⟨n1, hn1⟩ : ∃ t, (L.any fun d => !chkK d) = t := ⟨_, rfl⟩
  have HT1 := Lib.hid ht1
  have HN1 := Lib.hid hn1
  have HR : Hid (t = (t1 && !n1)) := Lib.hid (by rw [← ht, chkB_bits, ht1, hn1])
  have hn := hl.n
  obtain ⟨k0, k1⟩ := HK.out W1 (Ext.refl _)
  clear h hl ht hW1 ht1 hn1
  cases t1
  · go_enter Tryz.func17, Tryz.ntmps17
    go_upto_region 2 with (fail)
    rw [← HW1.out]
    refine wp_region_M_lit (by kernel_rfl) ?_
    refine tv 0 (hv := by intro w' hw'; have hc := HK.out w' hw'; go_simp; first | done | with_reducible rfl) (h := ?_)
    refine tv 2 (h := ?_)
    refine tv 3 (hv := by intro w' hw'; have hc := HK.out w' hw'; go_simp; first | done | with_reducible rfl) (h := ?_)
    refine runOne 1 (h := ?_)
    intro w5 hw5
    go_simp
    refine (diners_any w5 _ _ L M (HV.out.ext hw5) (by omega)).mono ?_
    rintro e6 w6 ⟨a6, c6, rfl, o6, x6⟩
    have X6 : Hid (Ext W1 w6) := Lib.hid (hw5.trans x6)
    have S6 : Hid (SV w6 (.slice a6 L.length c6) (.slice bo M.length d) (sceneK L) M) := Lib.hid ⟨o6.ns (fun k hk => hk.elim) (fun k hk => hk.elim), (HV.out.ext X6.out).ms⟩
    have HC : Hid (∀ V, Ext w6 V → Calls Tryz.prog 59 #[.agg #[.slice a6 L.length c6, .slice bo M.length d]] V fun e w' => e = .returned (.int .i64 142) ∧ Ext V w') := Lib.hid fun V hV => tCheck_any V _ _ (sceneK L) M (S6.out.ext hV) HL.out.sm false HT1.out
    refine ⟨x6, ?_⟩
    clear o6 x6 hw5
    (try (simp only [Act.put, List.setIfInBounds_toArray, List.set]))
    refine tv 4 (h := ?_)
    (refine takeG 5 (v := ?_) (hv := fun w' hw' => ?_) (h := ?_); rotate_left; focus (go_simp; refine ⟨Ext.refl _, ?_⟩; (exact HC.out w' hw'))); (simp only [Act.put, List.setIfInBounds_toArray, List.set])
    refine tv 6 (h := ?_)
    refine tv 7 (h := ?_)
    (refine takeU 8 (h := ?_); (simp only [Act.put, List.setIfInBounds_toArray, List.set]))
    (refine takeU 9 (h := ?_); (simp only [Act.put, List.setIfInBounds_toArray, List.set]))
    (refine takeU 10 (h := ?_); (simp only [Act.put, List.setIfInBounds_toArray, List.set]))
    (refine takeU 11 (h := ?_); (simp only [Act.put, List.setIfInBounds_toArray, List.set]))
    refine tv 12 (h := ?_)
    (refine doneM (by kernel_rfl) ?_; intro w' hw'; show _)
    have XL : Hid (Ext W1 w') := Lib.hid (X6.out.trans hw')
    clear hw'
    go_wp2
    go_ret
    exact ⟨by rw [HR.out]; rfl, X0.out.trans XL.out⟩
  · go_enter Tryz.func17, Tryz.ntmps17
    go_upto_region 2 with (fail)
    rw [← HW1.out]
    refine wp_region_M_lit (by kernel_rfl) ?_
    refine tv 0 (hv := by intro w' hw'; have hc := HK.out w' hw'; go_simp; first | done | with_reducible rfl) (h := ?_)
    refine tv 2 (h := ?_)
    refine tv 3 (hv := by intro w' hw'; have hc := HK.out w' hw'; go_simp; first | done | with_reducible rfl) (h := ?_)
    refine runOne 1 (h := ?_)
    intro w5 hw5
    go_simp
    refine (diners_any w5 _ _ L M (HV.out.ext hw5) (by omega)).mono ?_
    rintro e6 w6 ⟨a6, c6, rfl, o6, x6⟩
    have X6 : Hid (Ext W1 w6) := Lib.hid (hw5.trans x6)
    have S6 : Hid (SV w6 (.slice a6 L.length c6) (.slice bo M.length d) (sceneK L) M) := Lib.hid ⟨o6.ns (fun k hk => hk.elim) (fun k hk => hk.elim), (HV.out.ext X6.out).ms⟩
    have HC : Hid (∀ V, Ext w6 V → Calls Tryz.prog 59 #[.agg #[.slice a6 L.length c6, .slice bo M.length d]] V fun e w' => e = .returned (.int .i64 0) ∧ Ext V w') := Lib.hid fun V hV => tCheck_any V _ _ (sceneK L) M (S6.out.ext hV) HL.out.sm true HT1.out
    have HF : Hid (∀ V, Ext w6 V → Calls Tryz.prog 61 #[.slice ao L.length c, .func (.func 57) #[] #[]] V fun e w' => e = .returned (.bool n1) ∧ Ext V w') := Lib.hid fun V hV => containsFunc_dk V _ L 57 #[] (fun d => !chkK d) (enters_of Tryz.func57 (by kernel_rfl) rfl) (HV.out.ds.ext (X6.out.trans hV)) (fun id ph th u nu S Q W hm _ hu hnu => spoiltK_one W id ph th u nu S Q hu hnu (by have := HL.out.s _ hm; dsimp only at this; omega) _ rfl) n1 HN1.out
    refine ⟨x6, ?_⟩
    clear o6 x6 hw5
    (try (simp only [Act.put, List.setIfInBounds_toArray, List.set]))
    refine tv 4 (h := ?_)
    (refine takeG 5 (v := ?_) (hv := fun w' hw' => ?_) (h := ?_); rotate_left; focus (go_simp; refine ⟨Ext.refl _, ?_⟩; (exact HC.out w' hw'))); (simp only [Act.put, List.setIfInBounds_toArray, List.set])
    refine tv 6 (h := ?_)
    refine tv 7 (h := ?_)
    refine tv 8 (h := ?_)
    refine tv 9 (hv := by intro w' hw'; have hc := HK.out w' (X6.out.trans hw'); go_simp; first | done | with_reducible rfl) (h := ?_)
    refine tv 10 (h := ?_)
    (refine takeG 11 (v := ?_) (hv := fun w' hw' => ?_) (h := ?_); rotate_left; focus (go_simp; refine ⟨Ext.refl _, ?_⟩; (exact HF.out w' hw'))); (simp only [Act.put, List.setIfInBounds_toArray, List.set])
    refine tv 12 (h := ?_)
    (refine doneM (by kernel_rfl) ?_; intro w' hw'; show _)
    have XL : Hid (Ext W1 w') := Lib.hid (X6.out.trans hw')
    clear hw'
    cases n1
    · go_wp2
      go_ret
      exact ⟨by rw [HR.out]; rfl, X0.out.trans XL.out⟩
    · go_wp2
      go_ret
      exact ⟨by rw [HR.out]; rfl, X0.out.trans XL.out⟩
set_option maxHeartbeats 1000000 in
theorem missingB_one (W : World) (g : Nat) (vk vm : Value) (L : List Dk) (M : List Ml) (h : BV W vk vm L M) (hg : W.heap[g]? = some (.cells #[vk, vm] 25 (0, 0))) (a : Int) (t : Bool) (ht : hasK L a = t) :
    Calls Tryz.prog 124 #[.int .i64 a, .pointer (some ⟨g, 0, none⟩)] W fun e W' => e = .returned (.bool (!t)) ∧ Ext W W' := by
  obtain ⟨ao, c, bo, d, rfl, rfl⟩ := h.len
  have HC := Lib.hid (hasB_any W _ _ L M a h t ht)
  obtain ⟨k0, k1⟩ := cells2S hg
  clear h hg ht
  go_enter Tryz.func124, Tryz.ntmps124
  go_wp2_with (go_at_call 115; refine HC.out.mono ?_; rintro e w1 ⟨rfl, hx⟩; have X1 := Lib.hid hx; clear hx)
  go_ret
  exact ⟨rfl, X1.out⟩
set_option maxRecDepth 100000 in
set_option maxHeartbeats 2000000 in
theorem faultB_any (w : World) (vk vm vn : Value) (L : List Dk) (M : List Ml) (xs : List Int) (h : BV w vk vm L M) (hl : SmB L M) (hn : Sl w vn xs) (r : Int) (hr : faultB L M xs = r) :
    Calls Tryz.prog 79 #[.agg #[vk, vm], vn] w fun e w' => e = .returned (.int .i64 r) ∧ Ext w w' := by
  have hmf : ∀ (fn : Fn) (first cap : Array Value) (w : World), (Instr.makeFunc fn first cap).run Tryz.prog w = .ok (.func fn first cap) w := fun _ _ _ _ => rfl
  obtain ⟨ao, c, bo, d, rfl, rfl⟩ := h.len
  obtain ⟨no, nc, rfl⟩ := hn.len
  obtain ⟨W1, hW1⟩ : ∃ W1, W1 = w.alloc (.cells #[.slice ao L.length c, .slice bo M.length d] 25) := ⟨_, rfl⟩
  have X0 : Hid (Ext w W1) := Lib.hid (hW1 ▸ (Ext.refl w).alloc _)
  have B1 : Hid (W1.heap[w.heap.size]? = some (.cells #[.slice ao L.length c, .slice bo M.length d] 25 (0, 0))) := Lib.hid (hW1 ▸ at0 w _)
  have HV := Lib.hid (h.ext X0.out)
  have HN := Lib.hid (hn.ext X0.out)
  have HW1 := Lib.hid hW1
  obtain ⟨t, ht⟩ : ∃ t, chkB L M = t := ⟨_, rfl⟩
  obtain ⟨t2, ht2⟩ : ∃ t, (xs.any fun a => !hasK L a) = t := ⟨_, rfl⟩
  have HC := Lib.hid (bCheck_any W1 _ _ L M HV.out hl t ht)
  have HR : Hid (r = cond t (cond t2 161 0) 160) := Lib.hid (by
    rw [← hr]; unfold faultB; rw [ht]
    rw [any_not] at ht2
    cases t
    · rfl
    · rw [if_pos rfl]
      cases hq : xs.all (hasK L)
      · rw [hq] at ht2; rw [← ht2]; rfl
      · rw [hq] at ht2; rw [← ht2]; rfl)
  have HT2 := Lib.hid ht2
  obtain ⟨k0, k1⟩ := cells2S B1.out
  clear h hl hn hr ht ht2 hW1
  go_enter Tryz.func79, Tryz.ntmps79
  go_upto_region 1 with (fail)
  rw [← HW1.out]
  cases t
  · go_wp2_with (go_at_call 17; refine HC.out.mono ?_; rintro e w1 ⟨rfl, hx⟩; dsimp only [cond]; have X1 := Lib.hid (X0.out.trans hx); clear hx)
    go_ret
    exact ⟨by rw [HR.out]; rfl, X1.out⟩
  · cases t2
    all_goals
      go_wp2_with (first
        | (go_at_call 17; refine HC.out.mono ?_; rintro e w1 ⟨rfl, hx⟩; dsimp only [cond]; have X1 := Lib.hid hx; clear hx)
        | (go_at_call 125; refine (containsFunc_p w1 _ _ xs (fun _ => True) (fun a => !hasK L a) (HN.out.ext X1.out) ⟨124, #[.pointer (some ⟨w.heap.size, 0, none⟩)], rfl, enters_of Tryz.func124 (by kernel_rfl) rfl, fun W x hW _ => missingB_one W w.heap.size _ _ L M (HV.out.ext (X1.out.trans hW)) (keepU B1.out (X1.out.trans hW)) x _ rfl⟩ (fun _ _ => trivial) _ HT2.out).mono ?_; rintro e w2 ⟨rfl, hx⟩; have X2 := Lib.hid (X0.out.trans (X1.out.trans hx)); clear hx))
      go_ret
      exact ⟨by rw [HR.out]; rfl, X2.out⟩
end Go.Proofs.YtfbambemjokmgaaGreat
namespace Go.Proofs.YtfbambemjokmgaaGreat
open Go.RowKit
theorem contains_tells (w : World) (v fv : Value) (L : List Sd) (p : Sd → Bool) (h : Sl w v L) (ht : Tells sval w fv p) (t : Bool) (hr : L.any p = t) :
    Calls Tryz.prog 142 #[v, fv] w fun e w' => e = .returned (.bool t) ∧ Ext w w' := by
  obtain ⟨g, lb, rfl, eg, hp⟩ := ht.any
  refine (containsFunc_sd w v L g lb (fun _ V => Ext w V) (fun _ s => p s) eg (fun _ W hW => h.ext hW) ?_ (Ext.refl w) t ?_ ?_).mono ?_
  · intro i s W hi hW
    exact (hp W s hW).mono fun e w' hh => ⟨hh.1, Ext.trans hW hh.2⟩
  · intro hall
    rw [← hr, List.any_eq_false]
    intro s hs
    obtain ⟨k, hk⟩ := List.getElem?_of_mem hs
    simpa using hall k s hk
  · intro k s hk hq _
    rw [← hr, List.any_eq_true]
    exact ⟨s, List.mem_of_getElem? hk, hq⟩
  · rintro e w' ⟨rfl, _, hx⟩
    exact ⟨rfl, hx⟩
theorem tellsOpens (w : World) : Tells sval w (.func (.func 201) #[] #[]) (fun s => decide (s.state = 1)) :=
  ⟨201, _, rfl, enters_of Tryz.func201 (by kernel_rfl) rfl, fun W s hb => by
    obtain ⟨y0, y1, y2, y3, y4, y5, y6, y7⟩ := s
    change Calls Tryz.prog _ #[.agg #[.int .i64 y0, .int .i64 y1, .int .i64 y2, .bool y3, .bool y4, .bool y5, .bool y6, .bool y7]] W _
    dsimp only
    have x2 := blk_cell (at0 W (.cells #[.int .i64 y0, .int .i64 y1, .int .i64 y2, .bool y3, .bool y4, .bool y5, .bool y6, .bool y7] 66)) 2 rfl
    have HX : Hid (Ext W (W.alloc (.cells #[.int .i64 y0, .int .i64 y1, .int .i64 y2, .bool y3, .bool y4, .bool y5, .bool y6, .bool y7] 66))) := Lib.hid ((Ext.refl W).alloc _)
    clear hb
    go_enter Tryz.func201, Tryz.ntmps201
    go_wp2
    go_ret
    exact ⟨rfl, HX.out⟩⟩
set_option maxRecDepth 100000 in
set_option maxHeartbeats 4000000 in
theorem due_any (w : World) (id ph th : Int) (v nv : Value) (L : List Sd) (N : List Int) (h : Sl w v L) (hN : Sl w nv N) :
    Calls Tryz.prog 174 #[.agg #[.int .i64 id, .int .i64 ph, v, .int .i64 th, nv]] w fun e w' => e = .returned (.int .i64 (turnK th (isOpening L) ph)) ∧ Ext w w' := by
  obtain ⟨ao, c, rfl⟩ := h.len
  obtain ⟨na, nc, rfl⟩ := hN.len
  obtain ⟨W0, hW0⟩ : ∃ W0, W0 = w.alloc (.cells #[.int .i64 id, .int .i64 ph, .slice ao L.length c, .int .i64 th, .slice na N.length nc] 63) := ⟨_, rfl⟩
  have X0 : Hid (Ext w W0) := Lib.hid (hW0 ▸ (Ext.refl w).alloc _)
  have b0 : W0.heap[w.heap.size]? = some (.cells #[.int .i64 id, .int .i64 ph, .slice ao L.length c, .int .i64 th, .slice na N.length nc] 63 (0, 0)) := hW0 ▸ at0 w _
  obtain ⟨⟨d0, d1, d2⟩, d3, d4⟩ := cells5 b0
  have HW0 := Lib.hid hW0
  have HS := Lib.hid (h.ext X0.out)
  obtain ⟨op, hop⟩ : ∃ op, isOpening L = op := ⟨_, rfl⟩
  have HOP := Lib.hid hop
  rw [hop]
  clear h hN hW0 b0 hop
  by_cases e1 : th = 1
  · have t1 : (th == 1) = true := by simp [e1]
    have t1n : (th != 1) = false := by simp [e1]
    by_cases e2 : ph = 0
    · have t2 : (ph == 0) = true := by simp [e2]
      have HR : Hid (turnK th op ph = 1) := Lib.hid (by unfold turnK; rw [if_pos ⟨e1, e2⟩])
      clear e1 e2
      go_enter Tryz.func174, Tryz.ntmps174
      go_upto_region 1 with (fail)
      rw [← HW0.out]
      go_wp2
      go_ret
      exact ⟨ret_int HR.out.symm, X0.out⟩
    · have t2 : (ph == 0) = false := by simp [e2]
      have HR : Hid (turnK th op ph = ph) := Lib.hid (by unfold turnK; rw [if_neg (fun q => e2 q.2), if_neg (fun q => q.1 e1)])
      clear e1 e2
      go_enter Tryz.func174, Tryz.ntmps174
      go_upto_region 1 with (fail)
      rw [← HW0.out]
      go_wp2
      go_ret
      exact ⟨ret_int HR.out.symm, X0.out⟩
  · have t1 : (th == 1) = false := by simp [e1]
    have t1n : (th != 1) = true := by simp [e1]
    by_cases e2 : ph = 2
    · have t2 : (ph == 2) = true := by simp [e2]
      have HR : Hid (turnK th op ph = if op = true then ph else 0) := Lib.hid (by
        unfold turnK; rw [if_neg (fun q => e1 q.1)]
        cases op
        · rw [if_pos ⟨e1, e2, rfl⟩]; rfl
        · rw [if_neg (fun q => by have := q.2.2; simp at this)]; rfl)
      have HC := Lib.hid (contains_tells W0 _ _ L _ HS.out (tellsOpens W0) op HOP.out)
      clear e1 e2
      cases op
      · go_enter Tryz.func174, Tryz.ntmps174
        go_upto_region 1 with (fail)
        rw [← HW0.out]
        go_wp2_with (first
          | (go_at_call 142; refine HC.out.mono ?_; rintro e w1 ⟨rfl, hx⟩; have X1 := Lib.hid hx; have d1' := blk_cell (keepU (W := w1) (g := w.heap.size) (by rw [HW0.out]; exact at0 w _) hx) 1 rfl; clear hx))
        go_ret
        exact ⟨ret_int (by rw [HR.out]; rfl), X0.out.trans X1.out⟩
      · go_enter Tryz.func174, Tryz.ntmps174
        go_upto_region 1 with (fail)
        rw [← HW0.out]
        go_wp2_with (first
          | (go_at_call 142; refine HC.out.mono ?_; rintro e w1 ⟨rfl, hx⟩; have X1 := Lib.hid hx; have d1' := blk_cell (keepU (W := w1) (g := w.heap.size) (by rw [HW0.out]; exact at0 w _) hx) 1 rfl; clear hx))
        go_ret
        exact ⟨ret_int (by rw [HR.out]; rfl), X0.out.trans X1.out⟩
    · have t2 : (ph == 2) = false := by simp [e2]
      have HR : Hid (turnK th op ph = ph) := Lib.hid (by unfold turnK; rw [if_neg (fun q => e1 q.1), if_neg (fun q => e2 q.2.1)])
      clear e1 e2
      go_enter Tryz.func174, Tryz.ntmps174
      go_upto_region 1 with (fail)
      rw [← HW0.out]
      go_wp2
      go_ret
      exact ⟨ret_int HR.out.symm, X0.out⟩
structure Looks (gd gn : Nat) (id ph th : Int) (sv nv : Value) (N : List Int) (W : World) : Prop where
  dbox : W.heap[gd]? = some (.cells #[.int .i64 id, .int .i64 ph, sv, .int .i64 th, nv] 63 (0, 0))
  nbox : W.heap[gn]? = some (.cells #[.func (.func 176) #[] #[.pointer (some ⟨gd, 0, none⟩)]] 141 (0, 0))
  need : Sl W nv N
theorem Looks.ext {gd gn : Nat} {id ph th : Int} {sv nv : Value} {N : List Int} {W W' : World} (h : Looks gd gn id ph th sv nv N W) (x : Ext W W') : Looks gd gn id ph th sv nv N W' := ⟨keepU h.dbox x, keepU h.nbox x, h.need.ext x⟩
set_option maxRecDepth 100000 in
set_option maxHeartbeats 2000000 in
theorem needs_one (W : World) (gd gn : Nat) (id ph th : Int) (sv nv : Value) (N : List Int) (s : Sd) (h : Looks gd gn id ph th sv nv N W) (t : Bool) (ht : needsB N s = t) :
    Calls Tryz.prog 176 #[.agg s.cs, .pointer (some ⟨gd, 0, none⟩)] W fun e W' => e = .returned (.bool t) ∧ Ext W W' := by
  obtain ⟨na, nc, rfl⟩ := h.need.len
  obtain ⟨y0, y1, y2, y3, y4, y5, y6, y7⟩ := s
  unfold Sd.cs
  unfold needsB at ht
  dsimp only at ht ⊢
  obtain ⟨W1, hW1⟩ : ∃ W1, W1 = W.alloc (.cells #[.int .i64 y0, .int .i64 y1, .int .i64 y2, .bool y3, .bool y4, .bool y5, .bool y6, .bool y7] 66) := ⟨_, rfl⟩
  have X1 : Hid (Ext W W1) := Lib.hid (hW1 ▸ (Ext.refl W).alloc _)
  have d1 : W1.heap[W.heap.size]? = some (.cells #[.int .i64 y0, .int .i64 y1, .int .i64 y2, .bool y3, .bool y4, .bool y5, .bool y6, .bool y7] 66 (0, 0)) := hW1 ▸ at0 W _
  have HW1 := Lib.hid hW1
  have x0 := blk_cell d1 0 rfl
  have h1 := h.ext X1.out
  have k4 := blk_cell h1.dbox 4 rfl
  have HC := Lib.hid (setHas_val W1 _ N y0 h1.need t ht)
  clear ht h hW1 d1 h1
  go_enter Tryz.func176, Tryz.ntmps176
  go_upto_region 1 with (fail)
  rw [← HW1.out]
  go_wp2_with (go_at_call 177; refine HC.out.mono ?_; rintro e w2 ⟨rfl, hx⟩; have X2 := Lib.hid hx; clear hx)
  go_ret
  exact ⟨rfl, X1.out.trans X2.out⟩
set_option maxRecDepth 100000 in
set_option maxHeartbeats 4000000 in
theorem keeps_one (W : World) (gd gn : Nat) (id ph th : Int) (sv nv : Value) (N : List Int) (s : Sd) (h : Looks gd gn id ph th sv nv N W) (t : Bool) (ht : keptB th N s = t) :
    Calls Tryz.prog 178 #[.agg s.cs, .pointer (some ⟨gn, 0, none⟩), .pointer (some ⟨gd, 0, none⟩)] W fun e W' => e = .returned (.bool t) ∧ Ext W W' := by
  obtain ⟨na, nc, rfl⟩ := h.need.len
  obtain ⟨q, hq⟩ : ∃ q, needsB N s = q := ⟨_, rfl⟩
  have HNO := Lib.hid (fun V (hV : Ext W V) => needs_one V gd gn id ph th sv _ N s (h.ext hV) q hq)
  obtain ⟨y0, y1, y2, y3, y4, y5, y6, y7⟩ := s
  unfold Sd.cs at HNO ⊢
  unfold keptB at ht
  rw [hq] at ht
  dsimp only at ht HNO ⊢
  obtain ⟨W1, hW1⟩ : ∃ W1, W1 = W.alloc (.cells #[.int .i64 y0, .int .i64 y1, .int .i64 y2, .bool y3, .bool y4, .bool y5, .bool y6, .bool y7] 66) := ⟨_, rfl⟩
  have X1 : Hid (Ext W W1) := Lib.hid (hW1 ▸ (Ext.refl W).alloc _)
  have d1 : W1.heap[W.heap.size]? = some (.cells #[.int .i64 y0, .int .i64 y1, .int .i64 y2, .bool y3, .bool y4, .bool y5, .bool y6, .bool y7] 66 (0, 0)) := hW1 ▸ at0 W _
  have HW1 := Lib.hid hW1
  have HK : Hid (∀ V, Ext W1 V → _) := Lib.hid fun V hV => cells8U (keepU d1 hV)
  have HD : Hid (∀ V, Ext W1 V → _) := Lib.hid fun V hV => cells5 (keepU (keepU h.dbox X1.out) hV)
  have HG : Hid (∀ V, Ext W1 V → V.cell? ⟨gn, 0, none⟩ = some (.func (.func 176) #[] #[.pointer (some ⟨gd, 0, none⟩)])) := Lib.hid fun V hV => blk_cell (keepU (keepU h.nbox X1.out) hV) 0 rfl
  have HT := Lib.hid ht
  clear ht h hW1 d1 hq
  cases q
  · go_enter Tryz.func178, Tryz.ntmps178
    go_upto_region 1 with (fail)
    rw [← HW1.out]
    obtain ⟨⟨⟨x0, x1⟩, x2, x3⟩, ⟨x4, x5⟩, x6, x7⟩ := HK.out W1 (Ext.refl _)
    obtain ⟨⟨d0, d1, d2⟩, d3, d4⟩ := HD.out W1 (Ext.refl _)
    have g0 := HG.out W1 (Ext.refl _)
    go_wp2_with (first
      | (go_at_call 176; refine (HNO.out W1 X1.out).mono ?_; rintro e w2 ⟨rfl, hx⟩; have X2 : Hid (Ext W1 w2) := Lib.hid hx; clear x0 x1 x2 x3 x4 x5 x6 x7 d0 d1 d2 d3 d4; obtain ⟨⟨⟨x0, x1⟩, x2, x3⟩, ⟨x4, x5⟩, x6, x7⟩ := HK.out w2 hx; obtain ⟨⟨d0, d1, d2⟩, d3, d4⟩ := HD.out w2 hx; clear hx))
    go_ret
    exact ⟨ret_bool (by rw [← HT.out]; simp), X1.out.trans X2.out⟩
  by_cases e2 : th = 2
  · have t2 : (th == 2) = true := by simp [e2]
    have HT2 : Hid (true = t) := Lib.hid (by rw [← HT.out, decide_eq_true e2]; rfl)
    clear HT e2
    go_enter Tryz.func178, Tryz.ntmps178
    go_upto_region 1 with (fail)
    rw [← HW1.out]
    obtain ⟨⟨⟨x0, x1⟩, x2, x3⟩, ⟨x4, x5⟩, x6, x7⟩ := HK.out W1 (Ext.refl _)
    obtain ⟨⟨d0, d1, d2⟩, d3, d4⟩ := HD.out W1 (Ext.refl _)
    have g0 := HG.out W1 (Ext.refl _)
    go_wp2_with (first
      | (go_at_call 176; refine (HNO.out W1 X1.out).mono ?_; rintro e w2 ⟨rfl, hx⟩; have X2 : Hid (Ext W1 w2) := Lib.hid hx; clear x0 x1 x2 x3 x4 x5 x6 x7 d0 d1 d2 d3 d4; obtain ⟨⟨⟨x0, x1⟩, x2, x3⟩, ⟨x4, x5⟩, x6, x7⟩ := HK.out w2 hx; obtain ⟨⟨d0, d1, d2⟩, d3, d4⟩ := HD.out w2 hx; clear hx))
    go_ret
    exact ⟨ret_bool HT2.out, X1.out.trans X2.out⟩
  · have t2 : (th == 2) = false := by simp [e2]
    by_cases e1 : th = 1
    · have t1 : (th == 1) = true := by simp [e1]
      have HT2 : Hid (y3 = t) := Lib.hid (by rw [← HT.out, decide_eq_false e2, decide_eq_true e1]; rfl)
      clear HT e1 e2
      go_enter Tryz.func178, Tryz.ntmps178
      go_upto_region 1 with (fail)
      rw [← HW1.out]
      obtain ⟨⟨⟨x0, x1⟩, x2, x3⟩, ⟨x4, x5⟩, x6, x7⟩ := HK.out W1 (Ext.refl _)
      obtain ⟨⟨d0, d1, d2⟩, d3, d4⟩ := HD.out W1 (Ext.refl _)
      have g0 := HG.out W1 (Ext.refl _)
      go_wp2_with (first
        | (go_at_call 176; refine (HNO.out W1 X1.out).mono ?_; rintro e w2 ⟨rfl, hx⟩; have X2 : Hid (Ext W1 w2) := Lib.hid hx; clear x0 x1 x2 x3 x4 x5 x6 x7 d0 d1 d2 d3 d4; obtain ⟨⟨⟨x0, x1⟩, x2, x3⟩, ⟨x4, x5⟩, x6, x7⟩ := HK.out w2 hx; obtain ⟨⟨d0, d1, d2⟩, d3, d4⟩ := HD.out w2 hx; clear hx))
      go_ret
      exact ⟨ret_bool HT2.out, X1.out.trans X2.out⟩
    · have t1 : (th == 1) = false := by simp [e1]
      have HT2 : Hid (false = t) := Lib.hid (by rw [← HT.out, decide_eq_false e2, decide_eq_false e1]; rfl)
      clear HT e1 e2
      go_enter Tryz.func178, Tryz.ntmps178
      go_upto_region 1 with (fail)
      rw [← HW1.out]
      obtain ⟨⟨⟨x0, x1⟩, x2, x3⟩, ⟨x4, x5⟩, x6, x7⟩ := HK.out W1 (Ext.refl _)
      obtain ⟨⟨d0, d1, d2⟩, d3, d4⟩ := HD.out W1 (Ext.refl _)
      have g0 := HG.out W1 (Ext.refl _)
      go_wp2_with (first
        | (go_at_call 176; refine (HNO.out W1 X1.out).mono ?_; rintro e w2 ⟨rfl, hx⟩; have X2 : Hid (Ext W1 w2) := Lib.hid hx; clear x0 x1 x2 x3 x4 x5 x6 x7 d0 d1 d2 d3 d4; obtain ⟨⟨⟨x0, x1⟩, x2, x3⟩, ⟨x4, x5⟩, x6, x7⟩ := HK.out w2 hx; obtain ⟨⟨d0, d1, d2⟩, d3, d4⟩ := HD.out w2 hx; clear hx))
      go_ret
      exact ⟨ret_bool HT2.out, X1.out.trans X2.out⟩
set_option maxRecDepth 100000 in
set_option maxHeartbeats 4000000 in
theorem lacks_K (W : World) (gd gn : Nat) (id ph th : Int) (sv nv : Value) (N : List Int) (s : Sd) (h : Looks gd gn id ph th sv nv N W) (t : Bool) (ht : (decide (th = 1) && needsB N s && !s.bottle) = t) :
    Calls Tryz.prog 179 #[.agg s.cs, .pointer (some ⟨gd, 0, none⟩), .pointer (some ⟨gn, 0, none⟩)] W fun e W' => e = .returned (.bool t) ∧ Ext W W' := by
  obtain ⟨na, nc, rfl⟩ := h.need.len
  obtain ⟨q, hq⟩ : ∃ q, needsB N s = q := ⟨_, rfl⟩
  have HNO := Lib.hid (fun V (hV : Ext W V) => needs_one V gd gn id ph th sv _ N s (h.ext hV) q hq)
  obtain ⟨y0, y1, y2, y3, y4, y5, y6, y7⟩ := s
  unfold Sd.cs at HNO ⊢
  rw [hq] at ht
  dsimp only at ht HNO ⊢
  obtain ⟨W1, hW1⟩ : ∃ W1, W1 = W.alloc (.cells #[.int .i64 y0, .int .i64 y1, .int .i64 y2, .bool y3, .bool y4, .bool y5, .bool y6, .bool y7] 66) := ⟨_, rfl⟩
  have X1 : Hid (Ext W W1) := Lib.hid (hW1 ▸ (Ext.refl W).alloc _)
  have d1 : W1.heap[W.heap.size]? = some (.cells #[.int .i64 y0, .int .i64 y1, .int .i64 y2, .bool y3, .bool y4, .bool y5, .bool y6, .bool y7] 66 (0, 0)) := hW1 ▸ at0 W _
  have HW1 := Lib.hid hW1
  have HK : Hid (∀ V, Ext W1 V → _) := Lib.hid fun V hV => cells8U (keepU d1 hV)
  have HD : Hid (∀ V, Ext W1 V → _) := Lib.hid fun V hV => cells5 (keepU (keepU h.dbox X1.out) hV)
  have HG : Hid (∀ V, Ext W1 V → V.cell? ⟨gn, 0, none⟩ = some (.func (.func 176) #[] #[.pointer (some ⟨gd, 0, none⟩)])) := Lib.hid fun V hV => blk_cell (keepU (keepU h.nbox X1.out) hV) 0 rfl
  have HT := Lib.hid ht
  clear ht h hW1 d1 hq
  by_cases e1 : th = 1
  · have t1 : (th == 1) = true := by simp [e1]
    have HT2 : Hid ((q && !y6) = t) := Lib.hid (by rw [← HT.out, decide_eq_true e1]; rfl)
    clear HT e1
    cases q
    · go_enter Tryz.func179, Tryz.ntmps179
      go_upto_region 1 with (fail)
      rw [← HW1.out]
      obtain ⟨⟨⟨x0, x1⟩, x2, x3⟩, ⟨x4, x5⟩, x6, x7⟩ := HK.out W1 (Ext.refl _)
      obtain ⟨⟨d0, d1, d2⟩, d3, d4⟩ := HD.out W1 (Ext.refl _)
      have g0 := HG.out W1 (Ext.refl _)
      go_wp2_with (first
        | (go_at_call 176; refine (HNO.out W1 X1.out).mono ?_; rintro e w2 ⟨rfl, hx⟩; have X2 : Hid (Ext W1 w2) := Lib.hid hx; clear x0 x1 x2 x3 x4 x5 x6 x7 d0 d1 d2 d3 d4; obtain ⟨⟨⟨x0, x1⟩, x2, x3⟩, ⟨x4, x5⟩, x6, x7⟩ := HK.out w2 hx; obtain ⟨⟨d0, d1, d2⟩, d3, d4⟩ := HD.out w2 hx; clear hx))
      go_ret
      exact ⟨ret_bool (by rw [← HT2.out]; rfl), X1.out.trans X2.out⟩
    · go_enter Tryz.func179, Tryz.ntmps179
      go_upto_region 1 with (fail)
      rw [← HW1.out]
      obtain ⟨⟨⟨x0, x1⟩, x2, x3⟩, ⟨x4, x5⟩, x6, x7⟩ := HK.out W1 (Ext.refl _)
      obtain ⟨⟨d0, d1, d2⟩, d3, d4⟩ := HD.out W1 (Ext.refl _)
      have g0 := HG.out W1 (Ext.refl _)
      go_wp2_with (first
        | (go_at_call 176; refine (HNO.out W1 X1.out).mono ?_; rintro e w2 ⟨rfl, hx⟩; have X2 : Hid (Ext W1 w2) := Lib.hid hx; clear x0 x1 x2 x3 x4 x5 x6 x7 d0 d1 d2 d3 d4; obtain ⟨⟨⟨x0, x1⟩, x2, x3⟩, ⟨x4, x5⟩, x6, x7⟩ := HK.out w2 hx; obtain ⟨⟨d0, d1, d2⟩, d3, d4⟩ := HD.out w2 hx; clear hx))
      go_ret
      exact ⟨ret_bool (by rw [← HT2.out]; rfl), X1.out.trans X2.out⟩
  · have t1 : (th == 1) = false := by simp [e1]
    have HT2 : Hid (false = t) := Lib.hid (by rw [← HT.out, decide_eq_false e1]; rfl)
    clear HT e1
    go_enter Tryz.func179, Tryz.ntmps179
    go_upto_region 1 with (fail)
    rw [← HW1.out]
    obtain ⟨⟨⟨x0, x1⟩, x2, x3⟩, ⟨x4, x5⟩, x6, x7⟩ := HK.out W1 (Ext.refl _)
    obtain ⟨⟨d0, d1, d2⟩, d3, d4⟩ := HD.out W1 (Ext.refl _)
    have g0 := HG.out W1 (Ext.refl _)
    go_wp2
    go_ret
    exact ⟨ret_bool HT2.out, X1.out⟩
set_option maxRecDepth 100000 in
set_option maxHeartbeats 4000000 in
theorem sendK_any (W : World) (go gd B : Nat) (id ph th kd : Int) (sv nv ov : Value) (M : List Ml) (s : Sd) (hd : W.heap[gd]? = some (.cells #[.int .i64 id, .int .i64 ph, sv, .int .i64 th, nv] 63 (0, 0))) (ho : W.heap[go]? = some (.cells #[ov] 23 (0, 0))) (hw : Ow W B ov M) (hB : B ≤ W.heap.size) (hne : ov.ownBlock ≠ some go) (hl : M.length ≤ 20000) :
    Calls Tryz.prog 180 #[.agg s.cs, .int .i64 kd, .pointer (some ⟨go, 0, none⟩), .pointer (some ⟨gd, 0, none⟩)] W fun e W' => e = .returned (.tuple #[]) ∧ ∃ ov', W'.heap[go]? = some (.cells #[ov'] 23 (0, 0)) ∧ Ow W' B ov' (M ++ [⟨id, s.peer, kd, s.epoch, 0⟩]) ∧ Off (fun i => i = go ∨ ov.ownBlock = some i) W W' ∧ (ov'.ownBlock = ov.ownBlock ∨ ∀ b, ov'.ownBlock = some b → W.heap.size ≤ b) := by
  obtain ⟨fo, fn, fc, rfl⟩ := hw.sh
  obtain ⟨y0, y1, y2, y3, y4, y5, y6, y7⟩ := s
  unfold Sd.cs
  dsimp only
  obtain ⟨W1, hW1⟩ : ∃ W1, W1 = W.alloc (.cells #[.int .i64 y0, .int .i64 y1, .int .i64 y2, .bool y3, .bool y4, .bool y5, .bool y6, .bool y7] 66) := ⟨_, rfl⟩
  have X1 : Hid (Ext W W1) := Lib.hid (hW1 ▸ (Ext.refl W).alloc _)
  have d1 : W1.heap[W.heap.size]? = some (.cells #[.int .i64 y0, .int .i64 y1, .int .i64 y2, .bool y3, .bool y4, .bool y5, .bool y6, .bool y7] 66 (0, 0)) := hW1 ▸ at0 W _
  have hgo : go < W.heap.size := blk_lt ho
  have hs1 : W1.heap.size = W.heap.size + 1 := by rw [hW1, size_alloc]
  have HW1 := Lib.hid hW1
  have HO := Lib.hid (keepU ho X1.out)
  have HD := Lib.hid (keepU hd X1.out)
  have HOW := Lib.hid (hw.ext X1.out)
  have HNE := Lib.hid hne
  have x0 := blk_cell d1 0 rfl
  have x1 := blk_cell d1 1 rfl
  have k0 := blk_cell HO.out 0 rfl
  have k1 := blk_cell HD.out 0 rfl
  clear ho hd hw hW1 d1 hne
  go_enter Tryz.func180, Tryz.ntmps180
  go_upto_region 1 with (fail)
  rw [← HW1.out]
  go_wp2_with (first
    | (at_builtin; refine wpList_append_sl (α := Ml) rfl (.tmp 6) (.tmp 17) rfl B (.slice fo fn fc) M rfl ?_ (.slice (some ⟨_, 0, none⟩) 1 1) [(⟨id, y0, kd, y1, 0⟩ : Ml)] rfl ?_ ?_ ?_ ?_; exact (HOW.out.alloc _); exact (Sl.litAt W1 _ hs1.symm [(⟨id, y0, kd, y1, 0⟩ : Ml)] (show (1 : Nat) ≤ 1000000 by decide)); (first | omega | (simp; omega)); (rw [size_alloc]; omega); intro v2 W7 ho2 ha2; obtain ⟨a2, n2, c2, rfl⟩ := ho2.sh; have O2 := Lib.hid ho2; have A2 := Lib.hid ha2; have b2 := (ha2.grown.block go (by rw [size_alloc]; omega) (fun e => HNE.out e.symm)).trans (old1 HO.out _); have B2 := Lib.hid b2; have c7 := blk_cell b2 0 rfl; have f7 := blk_free b2 0; clear ho2 ha2 b2))
  refine bodyPost_end (results_none rfl _ _ _) rfl ?_
  have hn2 : (Value.slice a2 n2 c2).ownBlock ≠ some go := by
    rcases A2.out.block with h | h
    · rw [h]; exact HNE.out
    · intro e; have := h go e; rw [size_alloc] at this; omega
  refine ⟨rfl, .slice a2 n2 c2, blk_set B2.out 0 _, owU O2.out (fun b hb => set_other _ _ _ _ (fun e => hn2 (by rw [hb]; exact congrArg some e))), ?_, ?_⟩
  · have o1 : Off (fun i => i = go ∨ (Value.slice fo fn fc).ownBlock = some i) W (W1.alloc (.cells #[.int .i64 id, .int .i64 y0, .int .i64 kd, .int .i64 y1, .int .i64 0] 95)) := Off.of_ext (Ext.alloc X1.out _)
    have o2 : Off (fun i => i = go ∨ (Value.slice fo fn fc).ownBlock = some i) (W1.alloc (.cells #[.int .i64 id, .int .i64 y0, .int .i64 kd, .int .i64 y1, .int .i64 0] 95)) W7 := (off_grown A2.out.grown).mono fun i hi => .inr hi
    exact (o1.trans o2 (Grows.refl _ _)).trans ((off_set W7 ⟨go, 0, none⟩ _).mono fun i hi => .inl hi) (Grows.refl _ _)
  · rcases A2.out.block with h | h
    · exact .inl h
    · exact .inr fun b hb => by have := h b hb; rw [size_alloc] at this; omega
end Go.Proofs.YtfbambemjokmgaaGreat
namespace Go.Proofs.YtfbambemjokmgaaGreat
open Go.RowKit
theorem TellsP.imp {w : World} {fv : Value} {P Q : Int → Prop} {p : Int → Bool} (h : TellsP w fv P p) (g : ∀ x, Q x → P x) : TellsP w fv Q p := by
  obtain ⟨f, lb, rfl, h2, h3⟩ := h.any
  exact ⟨f, lb, rfl, h2, fun W x hW hq => h3 W x hW (g x hq)⟩
set_option maxHeartbeats 1000000 in
theorem least_any (w : World) (fv : Value) (t : Int → Bool) (m : Int) (ht : TellsP w fv (fun _ => True) t) (hm : IsLeast t m) (hb : m ≤ 1000000) :
    Calls Tryz.prog 188 #[fv] w fun e w' => e = .returned (.int .i64 m) ∧ Ext w w' := by
  obtain ⟨g, lb, rfl, eg, hp⟩ := ht.any
  have HP := Lib.hid hp
  have HM := Lib.hid hm
  have h1 := hm.pos
  clear ht hp hm
  go_enter Tryz.func188, Tryz.ntmps188
  go_wp2
  go_loopw [3] (fun i wr => ∃ k : Int, 1 ≤ k ∧ k ≤ m ∧ i = .int .i64 k ∧ Hid (Ext w wr)) (fun i _ => (m - intOf i).toNat)
  case atStart => exact ⟨1, by omega, h1, rfl, Lib.hid (Ext.refl _)⟩
  case round =>
    obtain ⟨k, hk1, hk, rfl, HX⟩ := hrel
    by_cases hlt : k < m
    · have HH : Hid (Calls Tryz.prog g (#[.int .i64 k] ++ lb) wr fun e w' => e = .returned (.bool true) ∧ Ext wr w') := Lib.hid (by have := HP.out wr k HX.out trivial; rwa [HM.out.low k hk1 hlt] at this)
      have hw1 : IntKind.i64.wrap (k + 1) = k + 1 := wrapN _ (by omega) (by omega)
      go_wp2_with (go_at_fn g; refine HH.out.mono ?_; rintro e w1 ⟨rfl, hx⟩; have HX1 := Lib.hid (HX.out.trans hx); clear hx)
      go_roundw
      case rel => exact ⟨k + 1, by omega, by omega, rfl, HX1⟩
      case measure => simp [intOf]; omega
    · have hkm : k = m := by omega
      subst hkm
      have HH : Hid (Calls Tryz.prog g (#[.int .i64 k] ++ lb) wr fun e w' => e = .returned (.bool false) ∧ Ext wr w') := Lib.hid (by have := HP.out wr k HX.out trivial; rwa [HM.out.free] at this)
      go_wp2_with (go_at_fn g; refine HH.out.mono ?_; rintro e w1 ⟨rfl, hx⟩; have HX1 := Lib.hid (HX.out.trans hx); clear hx)
      go_ret
      exact ⟨rfl, HX1.out⟩
theorem Sl.colAt {w : World} {v : Value} {c : List Int} (h : Sl w v c) {x : Int} (h0 : 0 ≤ x) (h1 : x < c.length) :
    ∃ b off n k, v = .slice (some ⟨b, off, none⟩) n k ∧ n = c.length ∧ n ≤ k ∧ k ≤ 9223372036854775807 ∧ b < w.heap.size ∧ w.cell? ⟨b, off + x.toNat, none⟩ = some (.int .i64 (col c x)) := by
  obtain ⟨ao, k, rfl⟩ := h.len
  obtain ⟨b, off, rfl, _, h2, h3, h4, h5⟩ := h.intsAt (k := x.toNat) (by omega)
  exact ⟨b, off, _, k, rfl, rfl, h2, h3, h4, h5⟩
theorem ahead_tells (w : World) (V C : Nat) (cv : Value) (c : List Int) (a : Int) (hV : V < w.heap.size) (hC : C < w.heap.size) (k0 : w.cell? ⟨V, 0, none⟩ = some (.int .i64 a)) (k1 : w.cell? ⟨C, 0, none⟩ = some cv) (h : Sl w cv c) :
    TellsP w (.func (.func 185) #[] #[.pointer (some ⟨V, 0, none⟩), .pointer (some ⟨C, 0, none⟩)]) (fun x => 0 ≤ x ∧ x < c.length) (fun x => decide (a < x) && (col c x == 0)) :=
  ⟨185, _, rfl, enters_of Tryz.func185 (by kernel_rfl) rfl, fun W x hW hx => by
    obtain ⟨b, off, n, k, rfl, hn, hnk, hk63, hb, hcell⟩ := h.colAt hx.1 hx.2
    have g0 := (hW.cell (p := ⟨V, 0, none⟩) hV).trans k0
    have g1 := (hW.cell (p := ⟨C, 0, none⟩) hC).trans k1
    have g2 := (hW.cell (p := ⟨b, off + x.toNat, none⟩) hb).trans hcell
    obtain ⟨hx0, hx1⟩ := hx
    have hxn : x < (n : Int) := by omega
    clear hW h hV hC k0 k1 hcell hb hn hx1
    change Calls Tryz.prog _ #[.int .i64 x, .pointer (some ⟨V, 0, none⟩), .pointer (some ⟨C, 0, none⟩)] W _
    obtain ⟨y, hy⟩ : ∃ y, y = col c x := ⟨_, rfl⟩
    rw [← hy] at g2 ⊢
    clear hy
    by_cases hlt : a < x
    · by_cases e : y = 0
      · subst e
        go_enter Tryz.func185, Tryz.ntmps185
        go_wp2
        go_ret
        exact ⟨ret_bool (by simp [hlt]), (by repeat (first | exact Ext.refl _ | assumption | refine Ext.alloc ?_ _ | refine Ext.drew ?_ | refine Ext.drewN ?_ _))⟩
      · have e2 : (y == 0) = false := by simp [e]
        rw [e2]
        clear e
        go_enter Tryz.func185, Tryz.ntmps185
        go_wp2
        go_ret
        exact ⟨ret_bool (by simp), (by repeat (first | exact Ext.refl _ | assumption | refine Ext.alloc ?_ _ | refine Ext.drew ?_ | refine Ext.drewN ?_ _))⟩
    · rw [decide_eq_false hlt]
      go_enter Tryz.func185, Tryz.ntmps185
      go_wp2
      go_ret
      exact ⟨ret_bool (by simp), (by repeat (first | exact Ext.refl _ | assumption | refine Ext.alloc ?_ _ | refine Ext.drew ?_ | refine Ext.drewN ?_ _))⟩⟩
theorem inner_tells (w : World) (C B : Nat) (cv : Value) (c : List Int) (a : Int) (hC : C < w.heap.size) (hB : B < w.heap.size) (k0 : w.cell? ⟨C, 0, none⟩ = some cv) (k1 : w.cell? ⟨B, 0, none⟩ = some (.int .i64 a)) (h : Sl w cv c) :
    TellsP w (.func (.func 187) #[] #[.pointer (some ⟨C, 0, none⟩), .pointer (some ⟨B, 0, none⟩)]) (fun x => 0 ≤ x ∧ x < c.length) (fun x => col c x == a) :=
  ⟨187, _, rfl, enters_of Tryz.func187 (by kernel_rfl) rfl, fun W x hW hx => by
    obtain ⟨b, off, n, k, rfl, hn, hnk, hk63, hb, hcell⟩ := h.colAt hx.1 hx.2
    have g0 := (hW.cell (p := ⟨C, 0, none⟩) hC).trans k0
    have g1 := (hW.cell (p := ⟨B, 0, none⟩) hB).trans k1
    have g2 := (hW.cell (p := ⟨b, off + x.toNat, none⟩) hb).trans hcell
    obtain ⟨hx0, hx1⟩ := hx
    have hxn : x < (n : Int) := by omega
    clear hW h hB hC k0 k1 hcell hb hn hx1
    change Calls Tryz.prog _ #[.int .i64 x, .pointer (some ⟨C, 0, none⟩), .pointer (some ⟨B, 0, none⟩)] W _
    obtain ⟨y, hy⟩ : ∃ y, y = col c x := ⟨_, rfl⟩
    rw [← hy] at g2 ⊢
    clear hy
    go_enter Tryz.func187, Tryz.ntmps187
    go_wp2
    go_quiet (fail)
    go_wp2
    go_ret
    exact ⟨rfl, (by repeat (first | exact Ext.refl _ | assumption | refine Ext.alloc ?_ _ | refine Ext.drew ?_ | refine Ext.drewN ?_ _))⟩⟩
theorem right_tells (w : World) (C B : Nat) (cv : Value) (c : List Int) (a : Int) (hC : C < w.heap.size) (hB : B < w.heap.size) (k0 : w.cell? ⟨C, 0, none⟩ = some cv) (k1 : w.cell? ⟨B, 0, none⟩ = some (.int .i64 a)) (h : Sl w cv c) :
    TellsP w (.func (.func 189) #[] #[.pointer (some ⟨C, 0, none⟩), .pointer (some ⟨B, 0, none⟩)]) (fun x => 0 ≤ x ∧ x < c.length) (fun x => col c x == a) :=
  ⟨189, _, rfl, enters_of Tryz.func189 (by kernel_rfl) rfl, fun W x hW hx => by
    obtain ⟨b, off, n, k, rfl, hn, hnk, hk63, hb, hcell⟩ := h.colAt hx.1 hx.2
    have g0 := (hW.cell (p := ⟨C, 0, none⟩) hC).trans k0
    have g1 := (hW.cell (p := ⟨B, 0, none⟩) hB).trans k1
    have g2 := (hW.cell (p := ⟨b, off + x.toNat, none⟩) hb).trans hcell
    obtain ⟨hx0, hx1⟩ := hx
    have hxn : x < (n : Int) := by omega
    clear hW h hB hC k0 k1 hcell hb hn hx1
    change Calls Tryz.prog _ #[.int .i64 x, .pointer (some ⟨C, 0, none⟩), .pointer (some ⟨B, 0, none⟩)] W _
    obtain ⟨y, hy⟩ : ∃ y, y = col c x := ⟨_, rfl⟩
    rw [← hy] at g2 ⊢
    clear hy
    go_enter Tryz.func189, Tryz.ntmps189
    go_wp2
    go_quiet (fail)
    go_wp2
    go_ret
    exact ⟨rfl, (by repeat (first | exact Ext.refl _ | assumption | refine Ext.alloc ?_ _ | refine Ext.drew ?_ | refine Ext.drewN ?_ _))⟩⟩
set_option maxHeartbeats 1000000 in
theorem taken_tells (w : World) (M V C : Nat) (fv cv : Value) (N : Int) (E : List Edge) (c : List Int) (a : Int) (ok : OkG N E) (hM : M < w.heap.size) (hV : V < w.heap.size) (hC : C < w.heap.size)
    (k0 : w.cell? ⟨M, 0, none⟩ = some fv) (k1 : w.cell? ⟨V, 0, none⟩ = some (.int .i64 a)) (k2 : w.cell? ⟨C, 0, none⟩ = some cv) (h : Sl w cv c) (hl : (c.length : Int) = N) (ha : Asks w fv N E) (h0 : 0 ≤ a) (h1 : a < N) :
    TellsP w (.func (.func 186) #[] #[.pointer (some ⟨M, 0, none⟩), .pointer (some ⟨V, 0, none⟩), .pointer (some ⟨C, 0, none⟩)]) (fun _ => True) (takenB c (rnear N E a)) :=
  ⟨186, _, rfl, enters_of Tryz.func186 (by kernel_rfl) rfl, fun W x hW _ => by
    have g0 := (hW.cell (p := ⟨M, 0, none⟩) hM).trans k0
    have g1 := (hW.cell (p := ⟨V, 0, none⟩) hV).trans k1
    have g2 := (hW.cell (p := ⟨C, 0, none⟩) hC).trans k2
    have hMW : M < W.heap.size := Nat.lt_of_lt_of_le hM hW.size
    have hVW : V < W.heap.size := Nat.lt_of_lt_of_le hV hW.size
    have hCW : C < W.heap.size := Nat.lt_of_lt_of_le hC hW.size
    obtain ⟨g, lb, rfl, eg, hq⟩ := ha.any
    have hS := h.ext hW
    have hin := inner_tells (W.alloc (.cells #[.int .i64 x] 3)) C W.heap.size cv c x (by rw [size_alloc]; omega) (by rw [size_alloc]; omega) ((World.cell?_alloc_past _ _ _ (by simpa using hCW)).trans g2) (blk_cell (get_alloc_new _ _) 0 rfl) (hS.alloc _)
    have HQ := Lib.hid (hq (W.alloc (.cells #[.int .i64 x] 3)) a _ (fun y => col c y == x) (hW.alloc _) h0 h1 (hin.imp fun y hy => by have := near_in ok hy; omega))
    have hmf : ∀ (fn : Fn) (first cap : Array Value) (w : World), (Instr.makeFunc fn first cap).run Tryz.prog w = .ok (.func fn first cap) w := fun _ _ _ _ => rfl
    clear hW h ha ok hM hV hC k0 k1 k2 hq hin hS hl
    change Calls Tryz.prog _ #[.int .i64 x, .pointer (some ⟨M, 0, none⟩), .pointer (some ⟨V, 0, none⟩), .pointer (some ⟨C, 0, none⟩)] W _
    go_enter Tryz.func186, Tryz.ntmps186
    go_wp2_with (go_at_fn g; refine HQ.out.mono ?_; rintro e w1 ⟨rfl, hx⟩; have HX := Lib.hid (Ext.trans ((Ext.refl W).alloc _) hx); clear hx)
    go_ret
    exact ⟨rfl, HX.out⟩⟩
end Go.Proofs.YtfbambemjokmgaaGreat
