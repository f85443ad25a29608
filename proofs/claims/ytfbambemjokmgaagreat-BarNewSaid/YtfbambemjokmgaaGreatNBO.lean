/- Texts of this seat. -/
import Derived.Test.YtfbambemjokmgaaGreatNBM
namespace Go.Proofs.YtfbambemjokmgaaGreat
open Go.RowKit
set_option maxHeartbeats 1000000 in
theorem indexFunc_dk (w : World) (v : Value) (L : List Dk) (g : FuncId) (lb : Array Value) (p : Dk → Bool) (eg : ∀ args w, (callFunc g args).run Tryz.prog w = .ok (.enter g args) w)
    (h : Ns KV Non w v L) (hs : ∀ (id ph th : Int) (u nu : Value) (S : List Sd) (Q : List Int) W, (⟨id, ph, S, th, Q⟩ : Dk) ∈ L → Ext w W → Sl W u S → Sl W nu Q → Calls Tryz.prog g (#[.agg #[.int .i64 id, .int .i64 ph, u, .int .i64 th, nu]] ++ lb) W fun e W' => e = .returned (.bool (p ⟨id, ph, S, th, Q⟩)) ∧ Ext W W') :
    Calls Tryz.prog 110 #[v, .func (.func g) #[] lb] w fun e w' => ∃ r : Int, e = .returned (.int .i64 r) ∧ FirstOf p L r ∧ Ext w w' := by
  obtain ⟨ao, c, rfl⟩ := h.len
  have hlen := h.length_le
  have HI := Lib.hid h
  have HS := Lib.hid hs
  clear hs h
  go_enter Tryz.func110, Tryz.ntmps110
  go_wp2
  go_loopw [8] (fun i wr => ∃ k : Nat, k ≤ L.length ∧ i = .int .i64 k ∧ Hid (∀ (j : Nat) (u : Dk), j < k → L[j]? = some u → p u = false) ∧ Hid (Ext w wr)) (fun i _ => L.length - (intOf i).toNat)
  case atStart => exact ⟨0, Nat.zero_le _, rfl, Lib.hid (fun j u hj => by omega), Lib.hid (Ext.refl _)⟩
  case round =>
    obtain ⟨k, hk, rfl, HT, HX⟩ := hrel
    by_cases hlt : k < L.length
    · obtain ⟨b, off, so, sc, no, nc, y, hyk, rfl, hn, hnc, hc63, hb, hsl, hnl, hcell⟩ := HI.out.drinkerAt hlt
      obtain ⟨⟨x0, x1, x2⟩, x3, x4⟩ := hcell wr HX.out
      have HY := Lib.hid hyk
      obtain ⟨y0, y1, y2, y3, y4⟩ := y
      dsimp only at x0 x1 x2 x3 x4 hsl hnl
      obtain ⟨s, hs⟩ : ∃ s, p ⟨y0, y1, y2, y3, y4⟩ = s := ⟨_, rfl⟩
      have HH := Lib.hid (hs ▸ HS.out y0 y1 y3 (.slice so y2.length sc) (.slice no y4.length nc) y2 y4 wr (List.mem_of_getElem? hyk) HX.out (hsl.sl.ext HX.out) (hnl.sl.ext HX.out))
      have HP := Lib.hid hs
      clear hs hcell hyk hn hsl hnl
      cases s
      · go_wp2_with (go_at_fn g; refine HH.out.mono ?_; rintro e w1 ⟨rfl, hx⟩; have HX1 := Lib.hid (HX.out.trans hx); clear hx)
        go_roundw
        case rel => exact ⟨k + 1, by omega, by go_num, Lib.hid (first_up HT.out HY.out HP.out), HX1⟩
        case measure => simp [intOf]; omega
      · go_wp2_with (go_at_fn g; refine HH.out.mono ?_; rintro e w1 ⟨rfl, hx⟩; have HX1 := Lib.hid (HX.out.trans hx); clear hx)
        go_ret
        exact ⟨_, rfl, .inr ⟨k, _, rfl, HY.out, HP.out, HT.out⟩, HX1.out⟩
    · have hkl : k = L.length := by omega
      go_wp2
      go_ret
      exact ⟨_, rfl, .inl ⟨rfl, first_no hkl HT.out⟩, HX.out⟩
set_option maxHeartbeats 1000000 in
theorem containsFunc_dk (w : World) (v : Value) (L : List Dk) (g : FuncId) (lb : Array Value) (p : Dk → Bool) (eg : ∀ args w, (callFunc g args).run Tryz.prog w = .ok (.enter g args) w)
    (h : Ns KV Non w v L) (hs : ∀ (id ph th : Int) (u nu : Value) (S : List Sd) (Q : List Int) W, (⟨id, ph, S, th, Q⟩ : Dk) ∈ L → Ext w W → Sl W u S → Sl W nu Q → Calls Tryz.prog g (#[.agg #[.int .i64 id, .int .i64 ph, u, .int .i64 th, nu]] ++ lb) W fun e W' => e = .returned (.bool (p ⟨id, ph, S, th, Q⟩)) ∧ Ext W W') (t : Bool) (ht : L.any p = t) :
    Calls Tryz.prog 61 #[v, .func (.func g) #[] lb] w fun e w' => e = .returned (.bool t) ∧ Ext w w' := by
  have HC := Lib.hid (indexFunc_dk w v L g lb p eg h hs)
  have HT := Lib.hid ht
  clear hs h eg ht
  go_enter Tryz.func61, Tryz.ntmps61
  go_wp2_with (go_at_call 110; refine HC.out.mono ?_; rintro e w1 ⟨r, rfl, hr, hx⟩; have HR := Lib.hid hr; have HX := Lib.hid hx; clear hr hx)
  go_ret
  exact ⟨ret_bool (HR.out.any.symm.trans HT.out), HX.out⟩
theorem take_next_map {L : List Dk} {k : Nat} {d : Dk} (h : L[k]? = some d) : (L.map Dk.dn).take (k + 1) = (L.map Dk.dn).take k ++ [d.dn] := by
  obtain ⟨hk, e⟩ := List.getElem?_eq_some_iff.1 h
  rw [List.take_succ_eq_append_getElem (by simpa using hk)]
  simp [e]
theorem Sa.old {α : Type} [Elem α] {w W : World} {v q : Value} {xs : List α} (h : Sa Non w v xs) (e : Ext w W) (ho : ∀ b, q.ownBlock = some b → w.heap.size ≤ b) : Sa (Own1 Non q) W v xs := by
  refine ⟨h.sl.ext e, ?_⟩
  by_cases hx : xs = []
  · exact .inl hx
  · refine .inr fun b hb hf => ?_
    have hb1 := h.sl.block_lt hx b hb
    rcases hf with hf | hf
    · exact hf.elim
    · have := ho b hf
      omega
set_option maxRecDepth 100000 in
set_option maxHeartbeats 4000000 in
theorem diners_any (w : World) (vk vm : Value) (L : List Dk) (M : List Ml) (h : BV w vk vm L M) (hl : L.length ≤ 1000) :
    Calls Tryz.prog 60 #[.agg #[vk, vm]] w fun e w' => ∃ ao c, e = .returned (.slice ao L.length c) ∧ Nw DV Non w' w.heap.size (.slice ao L.length c) (L.map Dk.dn) ∧ Ext w w' := by
  obtain ⟨ao, c, bo, d, rfl, rfl⟩ := h.len
  obtain ⟨W0, hW0⟩ : ∃ W0, W0 = w.alloc (.cells #[.slice ao L.length c, .slice bo M.length d] 25) := ⟨_, rfl⟩
  have X0 : Hid (Ext w W0) := Lib.hid (hW0 ▸ (Ext.refl w).alloc _)
  have B0 : Hid (W0.heap[w.heap.size]? = some (.cells #[.slice ao L.length c, .slice bo M.length d] 25 (0, 0))) := Lib.hid (hW0 ▸ at0 w _)
  have HD := Lib.hid h.ds
  have HW0 := Lib.hid hW0
  obtain ⟨k0, k1⟩ := cells2S B0.out
  clear h hW0
  go_enter Tryz.func60, Tryz.ntmps60
  go_upto_region 1 with (fail)
  rw [← HW0.out]
  go_wp2
  go_loopw [3, 9] (fun q i wr => ∃ k : Nat, k ≤ L.length ∧ i = .int .i64 k ∧ Hid (Nw DV Non wr w.heap.size q ((L.map Dk.dn).take k)) ∧ Hid (Ext w wr)) (fun _ i _ => L.length - (intOf i).toNat)
  case atStart => exact ⟨0, Nat.zero_le _, rfl, Lib.hid (by rw [List.take_zero]; exact Nw.nil _ _ _), X0⟩
  case round =>
    obtain ⟨k, hk, rfl, HQ, HX⟩ := hrel
    by_cases hlt : k < L.length
    · obtain ⟨b2, off2, so2, sc2, no2, nc2, dd, hyk, hao2, hn2, hnc2, hc632, hb2, hsl2, hnl2, hcell2⟩ := HD.out.drinkerAt hlt
      obtain ⟨⟨a0, a1, a2⟩, a3, a4⟩ := hcell2 wr HX.out
      subst hao2
      have HSL := Lib.hid hsl2
      have HTK := Lib.hid (take_next_map hyk)
      obtain ⟨xs, hown, hxl, hel⟩ := HQ.out.any
      have HOW := Lib.hid hown
      have HXL := Lib.hid hxl
      have HEL := Lib.hid hel
      have hxs : xs.length ≤ 1000 := by rw [hxl]; simp; omega
      clear hcell2 hyk hn2 hsl2 hnl2 hown hxl hel
      obtain ⟨d0, d1, d2, d3, d4⟩ := dd
      dsimp only [Dk.dn] at a0 a1 a2 a3 a4 HSL HTK
      go_wp2_with (first
        | (at_builtin; refine wpList_append_sl (α := DV) rfl (.tmp 13) (.tmp 16) rfl w.heap.size _ xs rfl ?_ (.slice (some ⟨_, 0, none⟩) 1 1) [(⟨d0, d1, so2, d2.length, sc2⟩ : DV)] rfl ?_ ?_ ?_ ?_; exact ((HOW.out.alloc _).alloc _); exact (Sl.litAt _ _ (by simp) [(⟨d0, d1, so2, d2.length, sc2⟩ : DV)] (show (1 : Nat) ≤ 1000000 by decide)); (first | omega | (simp; omega)); exact (by have := Below.size HX.out; first | omega | (rw [size_alloc, size_alloc]; omega)); intro v3 W3 ho3 ha3; have hx : Nest.rd (Own1 Non _) _ (⟨d0, d1, so2, d2.length, sc2⟩ : DV) (⟨d0, d1, d2⟩ : Dn) := (⟨rfl, rfl, Sa.old HSL.out ((HX.out.alloc (.cells #[.int .i64 d0, .int .i64 d1, .slice so2 d2.length sc2, .int .i64 d3, .slice no2 d4.length nc2] 63)).alloc (.cells #[.int .i64 d0, .int .i64 d1, .slice so2 d2.length sc2] 61)) (fun b hb => (HOW.out.low b hb).1)⟩ : RdD _ _ _ _); have hst := Nw.step (α := DV) (δ := Dn) (F := Non) (L := (L.map Dk.dn).take k) HXL.out (fun j x e hx he => Nest.ext (HEL.out j x e hx he) (Ext.alloc (Ext.alloc (Ext.refl _) _) _)) hx ho3 ha3; have HST := Lib.hid hst; have HX3 : Hid (Ext w W3) := Lib.hid (Below.trans (HX.out.trans (Ext.alloc (Ext.alloc (Ext.refl _) _) _)) (ha3.below.mono (Nat.le_refl _))); clear ho3 ha3 hx hst))
      go_roundw
      case rel => exact ⟨k + 1, by omega, by go_num, Lib.hid (by rw [HTK.out]; exact HST.out), HX3⟩
      case measure => simp [intOf]; omega
    · have hkl : k = L.length := by omega
      have hq := HQ.out
      rw [hkl, show L.length = (L.map Dk.dn).length from (List.length_map ..).symm, List.take_length] at hq
      have HQ' := Lib.hid hq
      clear hq HQ hkl
      obtain ⟨la, lc, rfl⟩ := HQ'.out.len
      rw [List.length_map] at HQ' ⊢
      go_wp2
      go_ret
      exact ⟨_, _, rfl, HQ'.out, HX.out⟩
end Go.Proofs.YtfbambemjokmgaaGreat
namespace Go.Proofs.YtfbambemjokmgaaGreat
open Go.RowKit
set_option maxRecDepth 100000 in
set_option maxHeartbeats 1000000 in
theorem hasB_any (w : World) (vk vm : Value) (L : List Dk) (M : List Ml) (a : Int) (h : BV w vk vm L M) (t : Bool) (ht : hasK L a = t) :
    Calls Tryz.prog 115 #[.agg #[vk, vm], .int .i64 a] w fun e w' => e = .returned (.bool t) ∧ Ext w w' := by
  obtain ⟨ao, c, bo, d, rfl, rfl⟩ := h.len
  have HT := Lib.hid ht
  have X0 : Hid (Ext w (w.alloc (.cells #[.slice ao L.length c, .slice bo M.length d] 25))) := Lib.hid ((Ext.refl w).alloc _)
  obtain ⟨c0, c1⟩ := cells2S (at0 w (.cells #[.slice ao L.length c, .slice bo M.length d] 25))
  clear h ht
  unfold hasK at HT
  go_enter Tryz.func115, Tryz.ntmps115
  by_cases h0 : 0 ≤ a
  · by_cases h1 : a < (L.length : Int)
    · go_wp2
      go_ret
      exact ⟨ret_bool (by rw [← HT.out, decide_eq_true h0, decide_eq_true h1]; simp), X0.out⟩
    · go_wp2
      go_ret
      exact ⟨ret_bool (by rw [← HT.out, decide_eq_true h0, decide_eq_false (by omega)]; simp), X0.out⟩
  · go_wp2
    go_ret
    exact ⟨ret_bool (by rw [← HT.out, decide_eq_false (by omega)]; rfl), X0.out⟩
set_option maxHeartbeats 1000000 in
theorem spoiltK_one (w : World) (id ph th : Int) (v nv : Value) (L : List Sd) (N : List Int) (h : Sl w v L) (hN : Sl w nv N) (hl : L.length ≤ 1000) (t : Bool) (ht : chkK ⟨id, ph, L, th, N⟩ = t) :
    Calls Tryz.prog 57 #[.agg #[.int .i64 id, .int .i64 ph, v, .int .i64 th, nv]] w fun e w' => e = .returned (.bool (!t)) ∧ Ext w w' := by
  obtain ⟨ao, c, rfl⟩ := h.len
  obtain ⟨na, nc, rfl⟩ := hN.len
  have X0 : Hid (Ext w (w.alloc (.cells #[.int .i64 id, .int .i64 ph, .slice ao L.length c, .int .i64 th, .slice na N.length nc] 63))) := Lib.hid ((Ext.refl w).alloc _)
  have HC := Lib.hid (dkCheck_any _ id ph th _ _ L N (h.ext X0.out) (hN.ext X0.out) hl t ht)
  obtain ⟨⟨d0, d1, d2⟩, d3, d4⟩ := cells5 (at0 w (.cells #[.int .i64 id, .int .i64 ph, .slice ao L.length c, .int .i64 th, .slice na N.length nc] 63))
  clear h hN ht
  go_enter Tryz.func57, Tryz.ntmps57
  go_wp2_with (go_at_call 58; refine HC.out.mono ?_; rintro e w1 ⟨rfl, hx⟩; have X1 := Lib.hid (X0.out.trans hx); clear hx)
  cases t
  · go_ret
    exact ⟨rfl, X1.out⟩
  · go_ret
    exact ⟨rfl, X1.out⟩
theorem SmB.sm {L : List Dk} {M : List Ml} (h : SmB L M) : Sm (sceneK L) M := ⟨by unfold sceneK; rw [List.length_map]; exact h.n, fun d hd => by
  unfold sceneK at hd
  obtain ⟨x, hx, rfl⟩ := List.mem_map.1 hd
  exact h.s x hx, h.m⟩
theorem chkB_bits (L : List Dk) (M : List Ml) : chkB L M = (chkT (sceneK L) M && !(L.any fun d => !chkK d)) := by
  unfold chkB
  rw [any_not]
  cases L.all chkK <;> cases chkT (sceneK L) M <;> rfl
set_option maxRecDepth 100000 in
set_option maxHeartbeats 8000000 in
theorem bCheck_any (w : World) (vk vm : Value) (L : List Dk) (M : List Ml) (h : BV w vk vm L M) (hl : SmB L M) (t : Bool) (ht : chkB L M = t) :
    Calls Tryz.prog 17 #[.agg #[vk, vm]] w fun e w' => e = .returned (.int .i64 (cond t 0 160)) ∧ Ext w w' := by
  obtain ⟨ao, c, bo, d, rfl, rfl⟩ := h.len
  obtain ⟨W1, hW1⟩ : ∃ W1, W1 = w.alloc (.cells #[.slice ao L.length c, .slice bo M.length d] 25) := ⟨_, rfl⟩
  have X0 : Hid (Ext w W1) := Lib.hid (hW1 ▸ (Ext.refl w).alloc _)
  have B1 : Hid (W1.heap[w.heap.size]? = some (.cells #[.slice ao L.length c, .slice bo M.length d] 25 (0, 0))) := Lib.hid (hW1 ▸ at0 w _)
  have HK : Hid (∀ V, Ext W1 V → V.cell? ⟨w.heap.size, 0, none⟩ = some (.slice ao L.length c) ∧ V.cell? ⟨w.heap.size, 1, none⟩ = some (.slice bo M.length d)) := Lib.hid fun V hV => cells2S (keepU B1.out hV)
  have HV := Lib.hid (h.ext X0.out)
  have HL := Lib.hid hl
  have HW1 := Lib.hid hW1
  obtain ⟨t1, ht1⟩ : ∃ t, chkT (sceneK L) M = t := ⟨_, rfl⟩
  obtain ⟨n1, hn1⟩ : ∃ t, (L.any fun d => !chkK d) = t := ⟨_, rfl⟩
  have HT1 := Lib.hid ht1
  have HN1 := Lib.hid hn1
  have HR : Hid (t = (t1 && !n1)) := Lib.hid (by rw [← ht, chkB_bits, ht1, hn1])
  have hn := hl.n
  obtain ⟨k0, k1⟩ := HK.out W1 (Ext.refl _)
  clear h hl ht hW1 ht1 hn1
  cases t1
  · go_enter Tryz.func17, Tryz.ntmps17
    go_upto_region 2 with (fail)
    rw [← HW1.out]
    refine wp_region_M_lit (by kernel_rfl) ?_
    refine tv 0 (hv := by intro w' hw'; have hc := HK.out w' hw'; go_simp; first | done | with_reducible rfl) (h := ?_)
    refine tv 2 (h := ?_)
    refine tv 3 (hv := by intro w' hw'; have hc := HK.out w' hw'; go_simp; first | done | with_reducible rfl) (h := ?_)
    refine runOne 1 (h := ?_)
    intro w5 hw5
    go_simp
    refine (diners_any w5 _ _ L M (HV.out.ext hw5) (by omega)).mono ?_
    rintro e6 w6 ⟨a6, c6, rfl, o6, x6⟩
    have X6 : Hid (Ext W1 w6) := Lib.hid (hw5.trans x6)
    have S6 : Hid (SV w6 (.slice a6 L.length c6) (.slice bo M.length d) (sceneK L) M) := Lib.hid ⟨o6.ns (fun k hk => hk.elim) (fun k hk => hk.elim), (HV.out.ext X6.out).ms⟩
    have HC : Hid (∀ V, Ext w6 V → Calls Tryz.prog 59 #[.agg #[.slice a6 L.length c6, .slice bo M.length d]] V fun e w' => e = .returned (.int .i64 142) ∧ Ext V w') := Lib.hid fun V hV => tCheck_any V _ _ (sceneK L) M (S6.out.ext hV) HL.out.sm false HT1.out
    refine ⟨x6, ?_⟩
    clear o6 x6 hw5
    (try (simp only [Act.put, List.setIfInBounds_toArray, List.set]))
    refine tv 4 (h := ?_)
    (refine takeG 5 (v := ?_) (hv := fun w' hw' => ?_) (h := ?_); rotate_left; focus (go_simp; refine ⟨Ext.refl _, ?_⟩; (exact HC.out w' hw'))); (simp only [Act.put, List.setIfInBounds_toArray, List.set])
    refine tv 6 (h := ?_)
    refine tv 7 (h := ?_)
    (refine takeU 8 (h := ?_); (simp only [Act.put, List.setIfInBounds_toArray, List.set]))
    (refine takeU 9 (h := ?_); (simp only [Act.put, List.setIfInBounds_toArray, List.set]))
    (refine takeU 10 (h := ?_); (simp only [Act.put, List.setIfInBounds_toArray, List.set]))
    (refine takeU 11 (h := ?_); (simp only [Act.put, List.setIfInBounds_toArray, List.set]))
    refine tv 12 (h := ?_)
    (refine doneM (by kernel_rfl) ?_; intro w' hw'; show _)
    have XL : Hid (Ext W1 w') := Lib.hid (X6.out.trans hw')
    clear hw'
    go_wp2
    go_ret
    exact ⟨by rw [HR.out]; rfl, X0.out.trans XL.out⟩
  · go_enter Tryz.func17, Tryz.ntmps17
    go_upto_region 2 with (fail)
    rw [← HW1.out]
    refine wp_region_M_lit (by kernel_rfl) ?_
    refine tv 0 (hv := by intro w' hw'; have hc := HK.out w' hw'; go_simp; first | done | with_reducible rfl) (h := ?_)
    refine tv 2 (h := ?_)
    refine tv 3 (hv := by intro w' hw'; have hc := HK.out w' hw'; go_simp; first | done | with_reducible rfl) (h := ?_)
    refine runOne 1 (h := ?_)
    intro w5 hw5
    go_simp
    refine (diners_any w5 _ _ L M (HV.out.ext hw5) (by omega)).mono ?_
    rintro e6 w6 ⟨a6, c6, rfl, o6, x6⟩
    have X6 : Hid (Ext W1 w6) := Lib.hid (hw5.trans x6)
    have S6 : Hid (SV w6 (.slice a6 L.length c6) (.slice bo M.length d) (sceneK L) M) := Lib.hid ⟨o6.ns (fun k hk => hk.elim) (fun k hk => hk.elim), (HV.out.ext X6.out).ms⟩
    have HC : Hid (∀ V, Ext w6 V → Calls Tryz.prog 59 #[.agg #[.slice a6 L.length c6, .slice bo M.length d]] V fun e w' => e = .returned (.int .i64 0) ∧ Ext V w') := Lib.hid fun V hV => tCheck_any V _ _ (sceneK L) M (S6.out.ext hV) HL.out.sm true HT1.out
    have HF : Hid (∀ V, Ext w6 V → Calls Tryz.prog 61 #[.slice ao L.length c, .func (.func 57) #[] #[]] V fun e w' => e = .returned (.bool n1) ∧ Ext V w') := Lib.hid fun V hV => containsFunc_dk V _ L 57 #[] (fun d => !chkK d) (enters_of Tryz.func57 (by kernel_rfl) rfl) (HV.out.ds.ext (X6.out.trans hV)) (fun id ph th u nu S Q W hm _ hu hnu => spoiltK_one W id ph th u nu S Q hu hnu (by have := HL.out.s _ hm; dsimp only at this; omega) _ rfl) n1 HN1.out
    refine ⟨x6, ?_⟩
    clear o6 x6 hw5
    (try (simp only [Act.put, List.setIfInBounds_toArray, List.set]))
    refine tv 4 (h := ?_)
    (refine takeG 5 (v := ?_) (hv := fun w' hw' => ?_) (h := ?_); rotate_left; focus (go_simp; refine ⟨Ext.refl _, ?_⟩; (exact HC.out w' hw'))); (simp only [Act.put, List.setIfInBounds_toArray, List.set])
    refine tv 6 (h := ?_)
    refine tv 7 (h := ?_)
    refine tv 8 (h := ?_)
    refine tv 9 (hv := by intro w' hw'; have hc := HK.out w' (X6.out.trans hw'); go_simp; first | done | with_reducible rfl) (h := ?_)
    refine tv 10 (h := ?_)
    (refine takeG 11 (v := ?_) (hv := fun w' hw' => ?_) (h := ?_); rotate_left; focus (go_simp; refine ⟨Ext.refl _, ?_⟩; (exact HF.out w' hw'))); (simp only [Act.put, List.setIfInBounds_toArray, List.set])
    refine tv 12 (h := ?_)
    (refine doneM (by kernel_rfl) ?_; intro w' hw'; show _)
    have XL : Hid (Ext W1 w') := Lib.hid (X6.out.trans hw')
    clear hw'
    cases n1
    · go_wp2
      go_ret
      exact ⟨by rw [HR.out]; rfl, X0.out.trans XL.out⟩
    · go_wp2
      go_ret
      exact ⟨by rw [HR.out]; rfl, X0.out.trans XL.out⟩
set_option maxHeartbeats 1000000 in
theorem missingB_one (W : World) (g : Nat) (vk vm : Value) (L : List Dk) (M : List Ml) (h : BV W vk vm L M) (hg : W.heap[g]? = some (.cells #[vk, vm] 25 (0, 0))) (a : Int) (t : Bool) (ht : hasK L a = t) :
    Calls Tryz.prog 124 #[.int .i64 a, .pointer (some ⟨g, 0, none⟩)] W fun e W' => e = .returned (.bool (!t)) ∧ Ext W W' := by
  obtain ⟨ao, c, bo, d, rfl, rfl⟩ := h.len
  have HC := Lib.hid (hasB_any W _ _ L M a h t ht)
  obtain ⟨k0, k1⟩ := cells2S hg
  clear h hg ht
  go_enter Tryz.func124, Tryz.ntmps124
  go_wp2_with (go_at_call 115; refine HC.out.mono ?_; rintro e w1 ⟨rfl, hx⟩; have X1 := Lib.hid hx; clear hx)
  go_ret
  exact ⟨rfl, X1.out⟩
set_option maxRecDepth 100000 in
set_option maxHeartbeats 2000000 in
theorem faultB_any (w : World) (vk vm vn : Value) (L : List Dk) (M : List Ml) (xs : List Int) (h : BV w vk vm L M) (hl : SmB L M) (hn : Sl w vn xs) (r : Int) (hr : faultB L M xs = r) :
    Calls Tryz.prog 79 #[.agg #[vk, vm], vn] w fun e w' => e = .returned (.int .i64 r) ∧ Ext w w' := by
  have hmf : ∀ (fn : Fn) (first cap : Array Value) (w : World), (Instr.makeFunc fn first cap).run Tryz.prog w = .ok (.func fn first cap) w := fun _ _ _ _ => rfl
  obtain ⟨ao, c, bo, d, rfl, rfl⟩ := h.len
  obtain ⟨no, nc, rfl⟩ := hn.len
  obtain ⟨W1, hW1⟩ : ∃ W1, W1 = w.alloc (.cells #[.slice ao L.length c, .slice bo M.length d] 25) := ⟨_, rfl⟩
  have X0 : Hid (Ext w W1) := Lib.hid (hW1 ▸ (Ext.refl w).alloc _)
  have B1 : Hid (W1.heap[w.heap.size]? = some (.cells #[.slice ao L.length c, .slice bo M.length d] 25 (0, 0))) := Lib.hid (hW1 ▸ at0 w _)
  have HV := Lib.hid (h.ext X0.out)
  have HN := Lib.hid (hn.ext X0.out)
  have HW1 := Lib.hid hW1
  obtain ⟨t, ht⟩ : ∃ t, chkB L M = t := ⟨_, rfl⟩
  obtain ⟨t2, ht2⟩ : ∃ t, (xs.any fun a => !hasK L a) = t := ⟨_, rfl⟩
  have HC := Lib.hid (bCheck_any W1 _ _ L M HV.out hl t ht)
  have HR : Hid (r = cond t (cond t2 161 0) 160) := Lib.hid (by
    rw [← hr]; unfold faultB; rw [ht]
    rw [any_not] at ht2
    cases t
    · rfl
    · rw [if_pos rfl]
      cases hq : xs.all (hasK L)
      · rw [hq] at ht2; rw [← ht2]; rfl
      · rw [hq] at ht2; rw [← ht2]; rfl)
  have HT2 := Lib.hid ht2
  obtain ⟨k0, k1⟩ := cells2S B1.out
  clear h hl hn hr ht ht2 hW1
  go_enter Tryz.func79, Tryz.ntmps79
  go_upto_region 1 with (fail)
  rw [← HW1.out]
  cases t
  · go_wp2_with (go_at_call 17; refine HC.out.mono ?_; rintro e w1 ⟨rfl, hx⟩; dsimp only [cond]; have X1 := Lib.hid (X0.out.trans hx); clear hx)
    go_ret
    exact ⟨by rw [HR.out]; rfl, X1.out⟩
  · cases t2
    all_goals
      go_wp2_with (first
        | (go_at_call 17; refine HC.out.mono ?_; rintro e w1 ⟨rfl, hx⟩; dsimp only [cond]; have X1 := Lib.hid hx; clear hx)
        | (go_at_call 125; refine (containsFunc_p w1 _ _ xs (fun _ => True) (fun a => !hasK L a) (HN.out.ext X1.out) ⟨124, #[.pointer (some ⟨w.heap.size, 0, none⟩)], rfl, enters_of Tryz.func124 (by kernel_rfl) rfl, fun W x hW _ => missingB_one W w.heap.size _ _ L M (HV.out.ext (X1.out.trans hW)) (keepU B1.out (X1.out.trans hW)) x _ rfl⟩ (fun _ _ => trivial) _ HT2.out).mono ?_; rintro e w2 ⟨rfl, hx⟩; have X2 := Lib.hid (X0.out.trans (X1.out.trans hx)); clear hx))
      go_ret
      exact ⟨by rw [HR.out]; rfl, X2.out⟩
end Go.Proofs.YtfbambemjokmgaaGreat
namespace Go.Proofs.YtfbambemjokmgaaGreat
open Go.RowKit
theorem take_eqK {L M : List Dk} {k : Nat} {y z : Dk} (hy : L[k]? = some y) (hz : M[k]? = some z) : L.take (k + 1) = M.take (k + 1) ↔ L.take k = M.take k ∧ y = z := by
  obtain ⟨h1, e1⟩ := List.getElem?_eq_some_iff.1 hy
  obtain ⟨h2, e2⟩ := List.getElem?_eq_some_iff.1 hz
  rw [List.take_succ_eq_append_getElem h1, List.take_succ_eq_append_getElem h2, e1, e2]
  constructor
  · intro h
    obtain ⟨q1, q2⟩ := List.append_inj' h rfl
    exact ⟨q1, by simpa using q2⟩
  · rintro ⟨q1, q2⟩
    rw [q1, q2]
theorem filter_nextK {L : List Dk} {k : Nat} {y : Dk} (p : Int) (h : L[k]? = some y) : whoK (L.take (k + 1)) p = whoK (L.take k) p ++ (if (y.thirst == p) = true then [y.id] else []) := by
  obtain ⟨h1, e1⟩ := List.getElem?_eq_some_iff.1 h
  unfold whoK
  rw [List.take_succ_eq_append_getElem h1, List.filter_append, List.map_append, e1]
  congr 1
  rw [List.filter_cons]
  split <;> rfl
set_option maxRecDepth 100000 in
set_option maxHeartbeats 4000000 in
theorem whoB_any (w : World) (vd vm : Value) (L : List Dk) (M : List Ml) (h : BV w vd vm L M) (hl : L.length ≤ 1000) (p : Int) :
    Calls Tryz.prog 22 #[.agg #[vd, vm], .int .i64 p] w (GivesOw w (whoK L p)) := by
  obtain ⟨ao, c, bo, d, rfl, rfl⟩ := h.len
  obtain ⟨W0, hW0⟩ : ∃ W0, W0 = w.alloc (.cells #[.slice ao L.length c, .slice bo M.length d] 25) := ⟨_, rfl⟩
  have X0 : Hid (Ext w W0) := Lib.hid (hW0 ▸ (Ext.refl w).alloc _)
  have B0 : Hid (W0.heap[w.heap.size]? = some (.cells #[.slice ao L.length c, .slice bo M.length d] 25 (0, 0))) := Lib.hid (hW0 ▸ at0 w _)
  have HW0 := Lib.hid hW0
  have HS := Lib.hid (h.ds.ext X0.out)
  obtain ⟨k0, k1⟩ := cells2S B0.out
  clear h hW0
  go_enter Tryz.func22, Tryz.ntmps22
  go_upto_region 1 with (fail)
  rw [← HW0.out]
  go_wp2
  go_loopw [5, 11] (fun q i wr => ∃ k : Nat, k ≤ L.length ∧ i = .int .i64 k ∧ Hid (Ow wr W0.heap.size q (whoK (L.take k) p)) ∧ Hid (Ext W0 wr)) (fun _ i _ => L.length - (intOf i).toNat)
  case atStart => exact ⟨0, Nat.zero_le _, rfl, Lib.hid (Ow.nil _ _), Lib.hid (Ext.refl _)⟩
  case round =>
    obtain ⟨k, hk, rfl, HQ, HX⟩ := hrel
    have hwr : W0.heap.size ≤ wr.heap.size := Below.size HX.out
    by_cases hlt : k < L.length
    · obtain ⟨b1, o1, so, sc, no, nc, dd, hyk, rfl, hn, hnc, hc63, hb, hsl, hnl, hcell⟩ := HS.out.drinkerAt hlt
      obtain ⟨⟨a0, a1, a2⟩, a3, a4⟩ := hcell wr HX.out
      have HN := Lib.hid (filter_nextK p hyk)
      have hpl : (whoK (L.take k) p).length ≤ 1000 := by
        unfold whoK
        rw [List.length_map]
        exact Nat.le_trans (List.length_filter_le _ _) (by rw [List.length_take]; omega)
      obtain ⟨P, hP⟩ : ∃ P, P = whoK (L.take k) p := ⟨_, rfl⟩
      rw [← hP] at HQ HN hpl
      clear hcell hyk hn hsl hnl hP
      obtain ⟨d0, d1, d2, d3, d4⟩ := dd
      dsimp only at a0 a1 a2 a3 a4 HN
      by_cases e : d3 = p
      · have q : (d3 == p) = true := by simp [e]
        have HF : Hid (whoK (L.take (k + 1)) p = P ++ [d0]) := Lib.hid (by rw [HN.out, q]; rfl)
        clear e
        go_wp2_with ((at_builtin; refine wpList_append_sl (α := Int) rfl (.tmp 19) (.tmp 23) rfl W0.heap.size _ P rfl ?_ (.slice (some ⟨_, 0, none⟩) 1 1) [d0] rfl ?_ ?_ ?_ ?_; exact ((HQ.out.alloc _).alloc _); exact (Sl.litAt _ _ (by simp) [d0] (by simp)); (first | omega | (simp; omega)); exact (by first | omega | (simp; omega) | (rw [size_alloc, size_alloc]; omega)); intro v2 W2 ho2 ha2; have O2 := Lib.hid ho2; have Y2 : Hid (Ext W0 W2) := Lib.hid (Below.trans ((HX.out.alloc _).alloc _) ha2.below); clear ho2 ha2))
        go_roundw
        case rel => exact ⟨k + 1, by omega, by go_num, Lib.hid (by rw [HF.out]; exact O2.out), Y2⟩
        case measure => simp [intOf]; omega
      · have q : (d3 == p) = false := by simp [e]
        have HF : Hid (whoK (L.take (k + 1)) p = P) := Lib.hid (by rw [HN.out, q]; simp)
        clear e
        go_wp2
        go_roundw
        case rel => exact ⟨k + 1, by omega, by go_num, Lib.hid (by rw [HF.out]; exact HQ.out.alloc _), Lib.hid (HX.out.alloc _)⟩
        case measure => simp [intOf]; omega
    · have hkl : k = L.length := by omega
      have hq := HQ.out
      rw [hkl, List.take_length] at hq
      have HQ' := Lib.hid hq
      clear hq HQ hkl
      go_wp2
      go_ret
      exact ⟨_, rfl, HQ'.out.mono (Below.size X0.out), X0.out.trans HX.out⟩
set_option maxRecDepth 100000 in
set_option maxHeartbeats 2000000 in
theorem equalFunc_dk (F : Nat → Prop) (w : World) (v1 v2 fv : Value) (L M : List Dk) (h : Ns KV F w v1 L) (h' : Ns KV F w v2 M) (g : FuncId) (hfv : fv = .func (.func g) #[] #[]) (eg : ∀ args w, (callFunc g args).run Tryz.prog w = .ok (.enter g args) w)
    (hp : ∀ (W : World) (i1 p1 t1 i2 p2 t2 : Int) (u1 u2 m1 m2 : Value) (A B : List Sd) (C D : List Int) (t : Bool), Sl W u1 A → Sl W u2 B → Sl W m1 C → Sl W m2 D → decide ((⟨i1, p1, A, t1, C⟩ : Dk) = ⟨i2, p2, B, t2, D⟩) = t → Calls Tryz.prog g #[.agg #[.int .i64 i1, .int .i64 p1, u1, .int .i64 t1, m1], .agg #[.int .i64 i2, .int .i64 p2, u2, .int .i64 t2, m2]] W fun e w' => e = .returned (.bool t) ∧ Ext W w') (t : Bool) (ht : decide (L = M) = t) :
    Calls Tryz.prog 68 #[v1, v2, fv] w fun e w' => e = .returned (.bool t) ∧ Ext w w' := by
  subst hfv
  obtain ⟨ao1, c1, rfl⟩ := h.len
  obtain ⟨ao2, c2, rfl⟩ := h'.len
  have l1 := h.length_le
  have l2 := h'.length_le
  have HS := Lib.hid h
  have HM := Lib.hid h'
  have HP := Lib.hid hp
  have HE := Lib.hid ht
  clear h h' hp ht
  by_cases e3 : L.length = M.length
  · have q3 : ((L.length : Int) != (M.length : Int)) = false := by simp [e3]
    have HL3 := Lib.hid e3
    clear e3
    go_enter Tryz.func68, Tryz.ntmps68
    go_wp2
    go_loopw [17] (fun i wr => ∃ k : Nat, k ≤ L.length ∧ i = .int .i64 k ∧ Hid (L.take k = M.take k) ∧ Hid (Ext w wr)) (fun i _ => L.length - (intOf i).toNat)
    case atStart => exact ⟨0, Nat.zero_le _, rfl, Lib.hid rfl, Lib.hid (Ext.refl _)⟩
    case round =>
      obtain ⟨k, hk, rfl, HQ, HX⟩ := hrel
      by_cases hlt : k < L.length
      · have hltM : k < M.length := by have := HL3.out; omega
        obtain ⟨b1, o1, so1, sc1, no1, nc1, d, hyk, rfl, hn, hnc, hc63, hb, hsl, hnl, hcell⟩ := HS.out.drinkerAt hlt
        obtain ⟨b2, o2, so2, sc2, no2, nc2, f, hzk, rfl, hn', hnc', hc63', hb', hsl', hnl', hcell'⟩ := HM.out.drinkerAt hltM
        have HN := Lib.hid (take_eqK hyk hzk)
        obtain ⟨s, hs⟩ : ∃ s, decide (d = f) = s := ⟨_, rfl⟩
        have HYZ := Lib.hid hs
        obtain ⟨d0, d1, d2, d3, d4⟩ := d
        obtain ⟨f0, f1, f2, f3, f4⟩ := f
        dsimp only at hcell hcell' hsl hsl' hnl hnl'
        obtain ⟨W1, hW1⟩ : ∃ W1, W1 = wr.alloc (.cells #[.int .i64 d0, .int .i64 d1, .slice so1 d2.length sc1, .int .i64 d3, .slice no1 d4.length nc1] 63) := ⟨_, rfl⟩
        have x1 : Ext wr W1 := hW1 ▸ (Ext.refl _).alloc _
        have b1' : W1.heap[wr.heap.size]? = some (.cells #[.int .i64 d0, .int .i64 d1, .slice so1 d2.length sc1, .int .i64 d3, .slice no1 d4.length nc1] 63 (0, 0)) := hW1 ▸ at0 wr _
        obtain ⟨W2, hW2⟩ : ∃ W2, W2 = W1.alloc (.cells #[.int .i64 f0, .int .i64 f1, .slice so2 f2.length sc2, .int .i64 f3, .slice no2 f4.length nc2] 63) := ⟨_, rfl⟩
        have x2 : Ext W1 W2 := hW2 ▸ (Ext.refl _).alloc _
        have b2' : W2.heap[W1.heap.size]? = some (.cells #[.int .i64 f0, .int .i64 f1, .slice so2 f2.length sc2, .int .i64 f3, .slice no2 f4.length nc2] 63 (0, 0)) := hW2 ▸ at0 W1 _
        have b3' := keepM b1' x2
        have HX1 := Lib.hid (HX.out.trans x1)
        have HX2 := Lib.hid (HX1.out.trans x2)
        have HSL := Lib.hid (And.intro (hsl.sl.ext HX2.out) (hsl'.sl.ext HX2.out))
        have HNL := Lib.hid (And.intro (hnl.sl.ext HX2.out) (hnl'.sl.ext HX2.out))
        obtain ⟨⟨a0, a1, a2⟩, a3, a4⟩ := hcell wr HX.out
        obtain ⟨⟨z0, z1, z2⟩, z3, z4⟩ := hcell' W1 HX1.out
        have j0 := blk_cell b3' 0 rfl
        have j1 := blk_cell b3' 1 rfl
        have j2 := blk_cell b3' 2 rfl
        have j3 := blk_cell b3' 3 rfl
        have j4 := blk_cell b3' 4 rfl
        have i0 := blk_cell b2' 0 rfl
        have i1 := blk_cell b2' 1 rfl
        have i2 := blk_cell b2' 2 rfl
        have i3 := blk_cell b2' 3 rfl
        have i4 := blk_cell b2' 4 rfl
        have HW1 := Lib.hid hW1
        have HW2 := Lib.hid hW2
        clear hcell hcell' hyk hzk hn hn' hs hsl hsl' hnl hnl' x1 x2 b1' b2' b3' hW1 hW2
        go_upto_region 6 with (fail)
        rw [← HW1.out]
        go_upto_region 7 with (fail)
        rw [← HW2.out]
        cases s
        · go_wp2_with (go_at_fn g; refine (HP.out W2 d0 d1 d3 f0 f1 f3 _ _ _ _ d2 f2 d4 f4 _ HSL.out.1 HSL.out.2 HNL.out.1 HNL.out.2 HYZ.out).mono ?_; rintro e w1 ⟨rfl, hx⟩; have HX3 := Lib.hid (HX2.out.trans hx); clear hx)
          go_ret
          exact ⟨ret_bool (by
            rw [← HE.out]
            exact (decide_eq_false fun e => of_decide_eq_false HYZ.out ((HN.out.1 (by rw [e])).2)).symm), HX3.out⟩
        · go_wp2_with (go_at_fn g; refine (HP.out W2 d0 d1 d3 f0 f1 f3 _ _ _ _ d2 f2 d4 f4 _ HSL.out.1 HSL.out.2 HNL.out.1 HNL.out.2 HYZ.out).mono ?_; rintro e w1 ⟨rfl, hx⟩; have HX3 := Lib.hid (HX2.out.trans hx); clear hx)
          go_roundw
          case rel => exact ⟨k + 1, by omega, by go_num, Lib.hid (HN.out.2 ⟨HQ.out, of_decide_eq_true HYZ.out⟩), HX3⟩
          case measure => simp [intOf]; omega
      · have hkl : k = L.length := by omega
        have HF : Hid (true = t) := Lib.hid (by
          have hq := HQ.out
          rw [hkl, List.take_length, HL3.out, List.take_length] at hq
          rw [← HE.out, decide_eq_true hq])
        go_wp2
        go_ret
        exact ⟨ret_bool HF.out, HX.out⟩
  · have q3 : ((L.length : Int) != (M.length : Int)) = true := by simp; omega
    have HF : Hid (false = t) := Lib.hid (by rw [← HE.out, decide_eq_false fun e => e3 (by rw [e])])
    clear e3
    go_enter Tryz.func68, Tryz.ntmps68
    go_wp2
    go_ret
    exact ⟨ret_bool HF.out, Ext.refl _⟩
set_option maxRecDepth 100000 in
set_option maxHeartbeats 2000000 in
theorem bSame_any (w : World) (v1 m1 v2 m2 : Value) (L L2 : List Dk) (M M2 : List Ml) (h : BV w v1 m1 L M) (g : BV w v2 m2 L2 M2) (t : Bool) (ht : (decide (L = L2) && decide (M = M2)) = t) :
    Calls Tryz.prog 24 #[.agg #[v1, m1], .agg #[v2, m2]] w fun e w' => e = .returned (.bool t) ∧ Ext w w' := by
  obtain ⟨ao, c, bo, d, rfl, rfl⟩ := h.len
  obtain ⟨ao2, c2, bo2, d2, rfl, rfl⟩ := g.len
  obtain ⟨W0, hW0⟩ : ∃ W0, W0 = (w.alloc (.cells #[.slice ao L.length c, .slice bo M.length d] 25)).alloc (.cells #[.slice ao2 L2.length c2, .slice bo2 M2.length d2] 25) := ⟨_, rfl⟩
  have X0 : Hid (Ext w W0) := Lib.hid (hW0 ▸ ((Ext.refl w).alloc _).alloc _)
  have B0 : Hid (W0.heap[w.heap.size]? = some (.cells #[.slice ao L.length c, .slice bo M.length d] 25 (0, 0))) := Lib.hid (hW0 ▸ old1 (at0 w _) _)
  have C0 : Hid (W0.heap[w.heap.size + 1]? = some (.cells #[.slice ao2 L2.length c2, .slice bo2 M2.length d2] 25 (0, 0))) := Lib.hid (hW0 ▸ at1 w _ _)
  have HW0 := Lib.hid hW0
  have HV := Lib.hid (h.ext X0.out)
  have HG := Lib.hid (g.ext X0.out)
  obtain ⟨t1, ht1⟩ : ∃ t, decide (L = L2) = t := ⟨_, rfl⟩
  obtain ⟨t2, ht2⟩ : ∃ t, decide (M = M2) = t := ⟨_, rfl⟩
  have HT : Hid ((t1 && t2) = t) := Lib.hid (by rw [← ht1, ← ht2]; exact ht)
  have H1 := Lib.hid (equalFunc_dk Non W0 _ _ _ L L2 HV.out.ds HG.out.ds 69 rfl (by intro args w; rfl) (fun W i1 p1 t1 i2 p2 t2 u1 u2 m1 m2 A B C D t h1 h2 h3 h4 h5 => dkSame_any W i1 p1 t1 i2 p2 t2 u1 u2 m1 m2 A B C D h1 h2 h3 h4 t h5) t1 ht1)
  have H2 := Lib.hid ht2
  obtain ⟨k0, k1⟩ := cells2S B0.out
  obtain ⟨k2, k3⟩ := cells2S C0.out
  clear h g hW0 ht ht1 ht2
  go_enter Tryz.func24, Tryz.ntmps24
  go_upto_region 1 with (fail)
  rw [← HW0.out]
  cases t1
  · go_wp2_with (go_at_call 68; refine H1.out.mono ?_; rintro e w1 ⟨rfl, hx⟩; have X1 := Lib.hid (X0.out.trans hx); clear hx)
    go_ret
    exact ⟨ret_bool (by rw [← HT.out]; rfl), X1.out⟩
  · go_wp2_with (first
      | (go_at_call 68; refine H1.out.mono ?_; rintro e w1 ⟨rfl, hx⟩; have X1 := Lib.hid hx; obtain ⟨j0, j1⟩ := cells2S (keepU B0.out hx); obtain ⟨j2, j3⟩ := cells2S (keepU C0.out hx); clear hx)
      | (go_at_call 70; refine (equal_m w1 _ _ M M2 (HV.out.ms.ext X1.out) (HG.out.ms.ext X1.out) t2 H2.out).mono ?_; rintro e w2 ⟨rfl, hx⟩; have X2 := Lib.hid (X0.out.trans (X1.out.trans hx)); clear hx))
    go_ret
    exact ⟨ret_bool (by rw [← HT.out]; rfl), X2.out⟩
end Go.Proofs.YtfbambemjokmgaaGreat
namespace Go.Proofs.YtfbambemjokmgaaGreat
open Go.RowKit
def bw0 : List Dk := [⟨0, 0, [⟨1, 1, 0, true, true, false, true, false⟩], 0, []⟩, ⟨1, 0, [⟨0, 1, 0, false, false, true, false, true⟩], 0, []⟩]
def bw1 : List Dk × List Ml := (stepBB bw0 [] 0 0 0 []).1
def bw2 : List Dk × List Ml := (stepBB bw1.1 bw1.2 0 1 0 []).1
def bw3 : List Dk × List Ml := (stepBB bw0 [] 0 0 0 [1]).1
def bw4 : List Dk × List Ml := (stepBB bw2.1 bw2.2 1 0 0 []).1
theorem bw_new : firstB (tableL 2 awE (itr 2 awE 2)) = bw0 := by rw [aw_new]; rfl
theorem pair_eq {α : Type} {p : α × Int} {n : Int} (h : p.2 = n) : p = (p.1, n) := by rw [← h]
theorem bw_1 : stepBB bw0 [] 0 0 0 [] = (bw1, 0) := pair_eq (by decide +kernel)
theorem bw_2 : stepBB bw1.1 bw1.2 0 1 0 [] = (bw2, 0) := pair_eq (by decide +kernel)
theorem bw_3 : stepBB bw0 [] 0 0 0 [1] = (bw3, 0) := pair_eq (by decide +kernel)
theorem bw_4 : stepBB bw2.1 bw2.2 1 0 0 [] = (bw4, 0) := pair_eq (by decide +kernel)
theorem bw_5 : stepBB bw0 [] 2 0 1 [] = (noB, 162) := by decide +kernel
theorem bw_w2 : whoK bw2.1 2 = [0, 1] := by decide +kernel
theorem bw_w3 : whoK bw3.1 0 = [1] := by decide +kernel
theorem bw_w4 : whoK bw4.1 2 = [1] := by decide +kernel
theorem bw_k : chkB bw0 [] = true := by decide +kernel
theorem bw_c : cntB ⟨1, 1, 0, true, true, false, true, false⟩ ⟨0, 1, 0, false, false, true, false, true⟩ [] 0 1 3 = 1 := by decide +kernel
theorem bw_s : (decide (bw0 = bw2.1) && decide (([] : List Ml) = bw2.2)) = false := by decide +kernel
def smB (L : List Dk) (M : List Ml) : Bool := decide (L.length ≤ 100) && L.all (fun d => decide (d.sides.length ≤ 100) && decide (d.need.length ≤ 100)) && decide (M.length ≤ 1000)
theorem SmB.of {L : List Dk} {M : List Ml} (h : smB L M = true) : SmB L M := by
  unfold smB at h
  simp only [Bool.and_eq_true, decide_eq_true_eq, List.all_eq_true] at h
  exact ⟨h.1.1, fun d hd => (h.1.2 d hd).1, fun d hd => (h.1.2 d hd).2, h.2⟩
theorem field_scene (a : Option Addr) (n c : Nat) (u : Value) (w : World) : (Instr.field 48 (.agg #[.slice a n c, u]) 0).run Tryz.prog w = .ok (.slice a n c) w := by kernel_rfl
theorem bw_s0 : SmB bw0 [] := .of (by decide +kernel)
theorem bw_s1 : SmB bw1.1 bw1.2 := .of (by decide +kernel)
theorem bw_s2 : SmB bw2.1 bw2.2 := .of (by decide +kernel)
theorem bw_s3 : SmB bw3.1 bw3.2 := .of (by decide +kernel)
theorem bw_s4 : SmB bw4.1 bw4.2 := .of (by decide +kernel)
end Go.Proofs.YtfbambemjokmgaaGreat
