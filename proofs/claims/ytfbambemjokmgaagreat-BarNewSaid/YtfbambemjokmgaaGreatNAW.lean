/- Texts of this seat. -/
import Derived.Test.YtfbambemjokmgaaGreatNAV
namespace Go.Proofs.YtfbambemjokmgaaGreat
open Go.RowKit
set_option maxHeartbeats 1000000 in
theorem indexFunc_dk (w : World) (v : Value) (L : List Dk) (g : FuncId) (lb : Array Value) (p : Dk → Bool) (eg : ∀ args w, (callFunc g args).run Tryz.prog w = .ok (.enter g args) w)
    (h : Ns KV Non w v L) (hs : ∀ (id ph th : Int) (u nu : Value) (S : List Sd) (Q : List Int) W, (⟨id, ph, S, th, Q⟩ : Dk) ∈ L → Ext w W → Sl W u S → Sl W nu Q → Calls Tryz.prog g (#[.agg #[.int .i64 id, .int .i64 ph, u, .int .i64 th, nu]] ++ lb) W fun e W' => e = .returned (.bool (p ⟨id, ph, S, th, Q⟩)) ∧ Ext W W') :
    Calls Tryz.prog 110 #[v, .func (.func g) #[] lb] w fun e w' => ∃ r : Int, e = .returned (.int .i64 r) ∧ FirstOf p L r ∧ Ext w w' := by
  obtain ⟨ao, c, rfl⟩ := h.len
  have hlen := h.length_le
  have HI := Lib.hid h
  have HS := Lib.hid hs
  clear hs h
  go_enter Tryz.func110, Tryz.ntmps110
  go_wp2
  go_loopw [8] (fun i wr => ∃ k : Nat, k ≤ L.length ∧ i = .int .i64 k ∧ Hid (∀ (j : Nat) (u : Dk), j < k → L[j]? = some u → p u = false) ∧ Hid (Ext w wr)) (fun i _ => L.length - (intOf i).toNat)
  case atStart => exact ⟨0, Nat.zero_le _, rfl, Lib.hid (fun j u hj => by omega), Lib.hid (Ext.refl _)⟩
  case round =>
    obtain ⟨k, hk, rfl, HT, HX⟩ := hrel
    by_cases hlt : k < L.length
    · obtain ⟨b, off, so, sc, no, nc, y, hyk, rfl, hn, hnc, hc63, hb, hsl, hnl, hcell⟩ := HI.out.drinkerAt hlt
      obtain ⟨⟨x0, x1, x2⟩, x3, x4⟩ := hcell wr HX.out
      have HY := Lib.hid hyk
      obtain ⟨y0, y1, y2, y3, y4⟩ := y
      dsimp only at x0 x1 x2 x3 x4 hsl hnl
      obtain ⟨s, hs⟩ : ∃ s, p ⟨y0, y1, y2, y3, y4⟩ = s := ⟨_, rfl⟩
      have HH := Lib.hid (hs ▸ HS.out y0 y1 y3 (.slice so y2.length sc) (.slice no y4.length nc) y2 y4 wr (List.mem_of_getElem? hyk) HX.out (hsl.sl.ext HX.out) (hnl.sl.ext HX.out))
      have HP := Lib.hid hs
      clear hs hcell hyk hn hsl hnl
      cases s
      · go_wp2_with (go_at_fn g; refine HH.out.mono ?_; rintro e w1 ⟨rfl, hx⟩; have HX1 := Lib.hid (HX.out.trans hx); clear hx)
        go_roundw
        case rel => exact ⟨k + 1, by omega, by go_num, Lib.hid (first_up HT.out HY.out HP.out), HX1⟩
        case measure => simp [intOf]; omega
      · go_wp2_with (go_at_fn g; refine HH.out.mono ?_; rintro e w1 ⟨rfl, hx⟩; have HX1 := Lib.hid (HX.out.trans hx); clear hx)
        go_ret
        exact ⟨_, rfl, .inr ⟨k, _, rfl, HY.out, HP.out, HT.out⟩, HX1.out⟩
    · have hkl : k = L.length := by omega
      go_wp2
      go_ret
      exact ⟨_, rfl, .inl ⟨rfl, first_no hkl HT.out⟩, HX.out⟩
set_option maxHeartbeats 1000000 in
theorem containsFunc_dk (w : World) (v : Value) (L : List Dk) (g : FuncId) (lb : Array Value) (p : Dk → Bool) (eg : ∀ args w, (callFunc g args).run Tryz.prog w = .ok (.enter g args) w)
    (h : Ns KV Non w v L) (hs : ∀ (id ph th : Int) (u nu : Value) (S : List Sd) (Q : List Int) W, (⟨id, ph, S, th, Q⟩ : Dk) ∈ L → Ext w W → Sl W u S → Sl W nu Q → Calls Tryz.prog g (#[.agg #[.int .i64 id, .int .i64 ph, u, .int .i64 th, nu]] ++ lb) W fun e W' => e = .returned (.bool (p ⟨id, ph, S, th, Q⟩)) ∧ Ext W W') (t : Bool) (ht : L.any p = t) :
    Calls Tryz.prog 61 #[v, .func (.func g) #[] lb] w fun e w' => e = .returned (.bool t) ∧ Ext w w' := by
  have HC := Lib.hid (indexFunc_dk w v L g lb p eg h hs)
  have HT := Lib.hid ht
  clear hs h eg ht
  go_enter Tryz.func61, Tryz.ntmps61
  go_wp2_with (go_at_call 110; refine HC.out.mono ?_; rintro e w1 ⟨r, rfl, hr, hx⟩; have HR := Lib.hid hr; have HX := Lib.hid hx; clear hr hx)
  go_ret
  exact ⟨ret_bool (HR.out.any.symm.trans HT.out), HX.out⟩
theorem take_next_map {L : List Dk} {k : Nat} {d : Dk} (h : L[k]? = some d) : (L.map Dk.dn).take (k + 1) = (L.map Dk.dn).take k ++ [d.dn] := by
  obtain ⟨hk, e⟩ := List.getElem?_eq_some_iff.1 h
  rw [List.take_succ_eq_append_getElem (by simpa using hk)]
  simp [e]
theorem Sa.old {α : Type} [Elem α] {w W : World} {v q : Value} {xs : List α} (h : Sa Non w v xs) (e : Ext w W) (ho : ∀ b, q.ownBlock = some b → w.heap.size ≤ b) : Sa (Own1 Non q) W v xs := by
  refine ⟨h.sl.ext e, ?_⟩
  by_cases hx : xs = []
  · exact .inl hx
  · refine .inr fun b hb hf => ?_
    have hb1 := h.sl.block_lt hx b hb
    rcases hf with hf | hf
    · exact hf.elim
    · have := ho b hf
      omega
set_option maxRecDepth 100000 in
set_option maxHeartbeats 4000000 in
theorem diners_any (w : World) (vk vm : Value) (L : List Dk) (M : List Ml) (h : BV w vk vm L M) (hl : L.length ≤ 1000) :
    Calls Tryz.prog 60 #[.agg #[vk, vm]] w fun e w' => ∃ ao c, e = .returned (.slice ao L.length c) ∧ Nw DV Non w' w.heap.size (.slice ao L.length c) (L.map Dk.dn) ∧ Ext w w' := by
  obtain ⟨ao, c, bo, d, rfl, rfl⟩ := h.len
  obtain ⟨W0, hW0⟩ : ∃ W0, W0 = w.alloc (.cells #[.slice ao L.length c, .slice bo M.length d] 25) := ⟨_, rfl⟩
  have X0 : Hid (Ext w W0) := Lib.hid (hW0 ▸ (Ext.refl w).alloc _)
  have B0 : Hid (W0.heap[w.heap.size]? = some (.cells #[.slice ao L.length c, .slice bo M.length d] 25 (0, 0))) := Lib.hid (hW0 ▸ at0 w _)
  have HD := Lib.hid h.ds
  have HW0 := Lib.hid hW0
  obtain ⟨k0, k1⟩ := cells2S B0.out
  clear h hW0
  go_enter Tryz.func60, Tryz.ntmps60
  go_upto_region 1 with (fail)
  rw [← HW0.out]
  go_wp2
  go_loopw [3, 9] (fun q i wr => ∃ k : Nat, k ≤ L.length ∧ i = .int .i64 k ∧ Hid (Nw DV Non wr w.heap.size q ((L.map Dk.dn).take k)) ∧ Hid (Ext w wr)) (fun _ i _ => L.length - (intOf i).toNat)
  case atStart => exact ⟨0, Nat.zero_le _, rfl, Lib.hid (by rw [List.take_zero]; exact Nw.nil _ _ _), X0⟩
  case round =>
    obtain ⟨k, hk, rfl, HQ, HX⟩ := hrel
    by_cases hlt : k < L.length
    · obtain ⟨b2, off2, so2, sc2, no2, nc2, dd, hyk, hao2, hn2, hnc2, hc632, hb2, hsl2, hnl2, hcell2⟩ := HD.out.drinkerAt hlt
      obtain ⟨⟨a0, a1, a2⟩, a3, a4⟩ := hcell2 wr HX.out
      subst hao2
      have HSL := Lib.hid hsl2
      have HTK := Lib.hid (take_next_map hyk)
      obtain ⟨xs, hown, hxl, hel⟩ := HQ.out.any
      have HOW := Lib.hid hown
      have HXL := Lib.hid hxl
      have HEL := Lib.hid hel
      have hxs : xs.length ≤ 1000 := by rw [hxl]; simp; omega
      clear hcell2 hyk hn2 hsl2 hnl2 hown hxl hel
      obtain ⟨d0, d1, d2, d3, d4⟩ := dd
      dsimp only [Dk.dn] at a0 a1 a2 a3 a4 HSL HTK
      go_wp2_with (first
        | (at_builtin; refine wpList_append_sl (α := DV) rfl (.tmp 13) (.tmp 16) rfl w.heap.size _ xs rfl ?_ (.slice (some ⟨_, 0, none⟩) 1 1) [(⟨d0, d1, so2, d2.length, sc2⟩ : DV)] rfl ?_ ?_ ?_ ?_; exact ((HOW.out.alloc _).alloc _); exact (Sl.litAt _ _ (by simp) [(⟨d0, d1, so2, d2.length, sc2⟩ : DV)] (show (1 : Nat) ≤ 1000000 by decide)); (first | omega | (simp; omega)); exact (by have := Below.size HX.out; first | omega | (rw [size_alloc, size_alloc]; omega)); intro v3 W3 ho3 ha3; have hx : Nest.rd (Own1 Non _) _ (⟨d0, d1, so2, d2.length, sc2⟩ : DV) (⟨d0, d1, d2⟩ : Dn) := (⟨rfl, rfl, Sa.old HSL.out ((HX.out.alloc (.cells #[.int .i64 d0, .int .i64 d1, .slice so2 d2.length sc2, .int .i64 d3, .slice no2 d4.length nc2] 63)).alloc (.cells #[.int .i64 d0, .int .i64 d1, .slice so2 d2.length sc2] 61)) (fun b hb => (HOW.out.low b hb).1)⟩ : RdD _ _ _ _); have hst := Nw.step (α := DV) (δ := Dn) (F := Non) (L := (L.map Dk.dn).take k) HXL.out (fun j x e hx he => Nest.ext (HEL.out j x e hx he) (Ext.alloc (Ext.alloc (Ext.refl _) _) _)) hx ho3 ha3; have HST := Lib.hid hst; have HX3 : Hid (Ext w W3) := Lib.hid (Below.trans (HX.out.trans (Ext.alloc (Ext.alloc (Ext.refl _) _) _)) (ha3.below.mono (Nat.le_refl _))); clear ho3 ha3 hx hst))
      go_roundw
      case rel => exact ⟨k + 1, by omega, by go_num, Lib.hid (by rw [HTK.out]; exact HST.out), HX3⟩
      case measure => simp [intOf]; omega
    · have hkl : k = L.length := by omega
      have hq := HQ.out
      rw [hkl, show L.length = (L.map Dk.dn).length from (List.length_map ..).symm, List.take_length] at hq
      have HQ' := Lib.hid hq
      clear hq HQ hkl
      obtain ⟨la, lc, rfl⟩ := HQ'.out.len
      rw [List.length_map] at HQ' ⊢
      go_wp2
      go_ret
      exact ⟨_, _, rfl, HQ'.out, HX.out⟩
end Go.Proofs.YtfbambemjokmgaaGreat
namespace Go.Proofs.YtfbambemjokmgaaGreat
open Go.RowKit
set_option maxRecDepth 100000 in
set_option maxHeartbeats 2000000 in
theorem equal_m (w : World) (v1 v2 : Value) (L M : List Ml) (h : Sl w v1 L) (g : Sl w v2 M) (t : Bool) (ht : decide (L = M) = t) :
    Calls Tryz.prog 70 #[v1, v2] w fun e w' => e = .returned (.bool t) ∧ Ext w w' := by
  obtain ⟨ao1, c1, rfl⟩ := h.len
  obtain ⟨ao2, c2, rfl⟩ := g.len
  have l1 := h.length_le
  have l2 := g.length_le
  have HS := Lib.hid h
  have HM := Lib.hid g
  have HE := Lib.hid ht
  clear h g ht
  by_cases e3 : L.length = M.length
  · have q3 : ((L.length : Int) != (M.length : Int)) = false := by simp [e3]
    have HL3 := Lib.hid e3
    clear e3
    go_enter Tryz.func70, Tryz.ntmps70
    go_wp2
    go_loopw [13] (fun i wr => ∃ k : Nat, k ≤ L.length ∧ i = .int .i64 k ∧ Hid (L.take k = M.take k) ∧ Hid (Ext w wr)) (fun i _ => L.length - (intOf i).toNat)
    case atStart => exact ⟨0, Nat.zero_le _, rfl, Lib.hid rfl, Lib.hid (Ext.refl _)⟩
    case round =>
      obtain ⟨k, hk, rfl, HQ, HX⟩ := hrel
      by_cases hlt : k < L.length
      · have hltM : k < M.length := by have := HL3.out; omega
        obtain ⟨b1, o1, y, _, hyk, rfl, hn, hnc, hc63, hb, hcell⟩ := HS.out.mailAt hlt
        obtain ⟨b2, o2, z, _, hzk, rfl, hn', hnc', hc63', hb', hcell'⟩ := HM.out.mailAt hltM
        have HCY : Hid (∀ V, Ext wr V → _) := Lib.hid fun V hV => hcell V (HX.out.trans hV)
        have HCZ : Hid (∀ V, Ext wr V → _) := Lib.hid fun V hV => hcell' V (HX.out.trans hV)
        have HN := Lib.hid (take_eqD hyk hzk)
        obtain ⟨s, hs⟩ : ∃ s, decide (y = z) = s := ⟨_, rfl⟩
        have HYZ := Lib.hid hs
        obtain ⟨y0, y1, y2, y3, y4⟩ := y
        obtain ⟨z0, z1, z2, z3, z4⟩ := z
        have HNQ := Lib.hid (neq_Ml y0 y1 y2 y3 y4 z0 z1 z2 z3 z4 s hs)
        clear hcell hcell' hyk hzk hn hn' hs
        dsimp only at HCY HCZ
        cases s
        all_goals
          go_wp2_with fail
          (refine wp_region_X_lit (K := fun W => Ext wr W) (by kernel_rfl) (fun w1 hw1 => ?_))
          have HX1 := Lib.hid (HX.out.trans hw1)
          have HW1 := Lib.hid hw1
          clear hw1
          refine xtv 0 (h := ?_)
          refine xtv 1 (h := ?_)
          refine xtv 2 (h := ?_)
          refine xtv 3 (hv := by intro w' hw'; obtain ⟨⟨a0, a1⟩, a2, a3, a4⟩ := HCY.out w' hw'; go_simp; first | done | with_reducible rfl) (h := ?_)
          refine xtv 4 (h := ?_)
          refine xtv 5 (h := ?_)
          refine xtv 6 (h := ?_)
          refine xtv 7 (hv := by intro w' hw'; obtain ⟨⟨a0, a1⟩, a2, a3, a4⟩ := HCZ.out w' hw'; go_simp; first | done | with_reducible rfl) (h := ?_)
          refine xtv 8 (hv := by intro w' hw'; obtain ⟨q1, q2⟩ := HNQ.out; go_simp; first | done | with_reducible rfl) (h := ?_)
          (refine xdone (by kernel_rfl) (HW1.out) ?_)
        · go_wp2
          go_ret
          exact ⟨ret_bool (by
            rw [← HE.out]
            exact (decide_eq_false fun e => of_decide_eq_false HYZ.out ((HN.out.1 (by rw [e])).2)).symm), HX1.out⟩
        · go_wp2
          go_roundw
          case rel => exact ⟨k + 1, by omega, by go_num, Lib.hid (HN.out.2 ⟨HQ.out, of_decide_eq_true HYZ.out⟩), HX1⟩
          case measure => simp [intOf]; omega
      · have hkl : k = L.length := by omega
        have HF : Hid (true = t) := Lib.hid (by
          have hq := HQ.out
          rw [hkl, List.take_length, HL3.out, List.take_length] at hq
          rw [← HE.out, decide_eq_true hq])
        go_wp2
        go_ret
        exact ⟨ret_bool HF.out, HX.out⟩
  · have q3 : ((L.length : Int) != (M.length : Int)) = true := by simp; omega
    have HF : Hid (false = t) := Lib.hid (by rw [← HE.out, decide_eq_false fun e => e3 (by rw [e])])
    clear e3
    go_enter Tryz.func70, Tryz.ntmps70
    go_wp2
    go_ret
    exact ⟨ret_bool HF.out, Ext.refl _⟩
theorem grow_m (w : World) (n : Nat) (hn : n ≤ 2000000) : Calls Tryz.prog 136 #[.slice none 0 0, .int .i64 n] w (GivesOw w ([] : List Ml)) := by
  by_cases h0 : n = 0
  · subst h0
    refine (Any8.slices_Grow_room Tryz.grow136 none 0 0 0 w (by omega) (by omega) (by omega) (by omega)).mono ?_
    rintro e w' ⟨rfl, rfl⟩
    exact ⟨_, rfl, Ow.nil _ _, Below.refl _ _⟩
  · obtain ⟨i0, hi, hz0, hz1, hz2⟩ := info_parts (Elem.info (α := Ml))
    have hz1 : i0.size = 5 := hz1
    have hz2 : i0.bytes = 40 := hz2
    have hz0 : i0.zero = some (.agg #[.int .i64 0, .int .i64 0, .int .i64 0, .int .i64 0, .int .i64 0]) := hz0
    refine (Any8.slices_Grow_grow Tryz.grow136 i0 (.agg #[.int .i64 0, .int .i64 0, .int .i64 0, .int .i64 0, .int .i64 0]) hi hz0 (by omega) none 0 0 n [] w (by omega) (by omega) (by rw [hz2]; omega) (by omega) (by simp) (by simp) (by simp)).mono ?_
    rintro e w' ⟨rfl, rfl⟩
    have hm := grownCap_le_maxLen w (0 + n) 0 95 (by unfold maxLen; omega)
    have hge := grownCap_ge w (0 + n) 0 95
    refine ⟨_, rfl, ?_, ((Below.refl _ w).drew).alloc (Nat.le_refl _) _⟩
    refine World.ownsRow_made w.drew _ _ (Nat.le_refl _) hm ?_
    simp [size_zeroCells]
    have : (Value.agg #[.int .i64 0, .int .i64 0, .int .i64 0, .int .i64 0, .int .i64 0]).cells.size = 5 := rfl
    rw [this]
    have e1 : Tryz.grow136_ren.t 25 = 95 := rfl
    rw [e1]
    rw [Nat.zero_add] at hge
    show _ = _ * 5
    omega
theorem growI_m (w : World) (m : Int) (h0 : 0 ≤ m) (h1 : m ≤ 2000000) : Calls Tryz.prog 136 #[.slice none 0 0, .int .i64 m] w (GivesOw w ([] : List Ml)) := by
  have := grow_m w m.toNat (by omega)
  rwa [show ((m.toNat : Nat) : Int) = m from by omega] at this
set_option maxHeartbeats 1000000 in
set_option maxHeartbeats 2000000 in
theorem concat_m (w : World) (B : Nat) (v0 v1 : Value) (xs ys : List Ml) (hB : B < w.heap.size) (c0 : w.cell? ⟨B, 0, none⟩ = some v0) (c1 : w.cell? ⟨B, 1, none⟩ = some v1)
    (h0 : Sl w v0 xs) (h1 : Sl w v1 ys) (l0 : xs.length ≤ 1000) (l1 : ys.length ≤ 1000) :
    Calls Tryz.prog 92 #[.slice (some ⟨B, 0, none⟩) 2 2] w (GivesOw w (xs ++ ys)) := by
  obtain ⟨a0, k0, rfl⟩ := h0.len
  obtain ⟨a1, k1, rfl⟩ := h1.len
  have H0 := Lib.hid h0
  have H1 := Lib.hid h1
  clear h0 h1
  have HK : Hid (∀ V, Ext w V → V.cell? ⟨B, 0, none⟩ = some (.slice a0 xs.length k0) ∧ V.cell? ⟨B, 1, none⟩ = some (.slice a1 ys.length k1)) := Lib.hid fun V x =>
    ⟨(x.cell (p := ⟨B, 0, none⟩) hB).trans c0, (x.cell (p := ⟨B, 1, none⟩) hB).trans c1⟩
  go_enter Tryz.func92, Tryz.ntmps92
  go_wp2
  refine wp_loop_rounds 3 ?_
  rw [rounds_succ]; go_wp2
  rw [rounds_succ]; go_wp2
  rw [rounds_succ]
  clear c0 c1
  go_wp2_with (go_at_call 136; refine (growI_m _ _ (by omega) (by omega)).mono ?_; rintro e w1 ⟨v1, rfl, ho, x1⟩; obtain ⟨ao1, n1, q1, rfl⟩ := ho.sh; have O1 := Lib.hid ho; obtain ⟨c0, c1⟩ := HK.out w1 x1; have hs1 : w.heap.size ≤ w1.heap.size := x1.size; clear ho)
  refine wp_loop_rounds 3 ?_
  rw [rounds_succ]
  go_wp2_with ((at_builtin; refine wpList_append_sl (α := Ml) rfl (.tmp 31) (.tmp 32) rfl w.heap.size _ [] rfl ?_ _ xs rfl ?_ ?_ ?_ ?_; exact O1.out; exact (H0.out.ext x1); (first | omega | (simp; omega)); omega; intro v2 W2 ho2 ha2; obtain ⟨ao2, n2, q2, rfl⟩ := ho2.sh; have O2 := Lib.hid ho2; have x2 : Ext w W2 := Below.trans x1 ha2.below; obtain ⟨d0, d1⟩ := HK.out W2 x2; have hs2 : w.heap.size ≤ W2.heap.size := x2.size; clear ho2 ha2))
  rw [rounds_succ]
  go_wp2_with ((at_builtin; refine wpList_append_sl (α := Ml) rfl (.tmp 31) (.tmp 32) rfl w.heap.size _ ([] ++ xs) rfl ?_ _ ys rfl ?_ ?_ ?_ ?_; exact O2.out; exact (H1.out.ext x2); (first | omega | (simp; omega)); omega; intro v3 W3 ho3 ha3; obtain ⟨ao3, n3, q3, rfl⟩ := ho3.sh; have O3 := Lib.hid ho3; have x3 : Ext w W3 := Below.trans x2 ha3.below; have hs3 : w.heap.size ≤ W3.heap.size := x3.size; clear ho3 ha3))
  rw [rounds_succ]
  go_wp2
  go_ret
  exact ⟨_, rfl, by have := O3.out; simpa using this, x3⟩
end Go.Proofs.YtfbambemjokmgaaGreat
namespace Go.Proofs.YtfbambemjokmgaaGreat
open Go.RowKit
set_option maxRecDepth 100000 in
set_option maxHeartbeats 2000000 in
theorem meantK_one (W : World) (g1 g2 : Nat) (p k me n : Int) (s : Sd) (h1 : W.heap[g1]? = some (.cells #[.int .i64 p] 3 (0, 0))) (h2 : W.heap[g2]? = some (.cells #[.int .i64 k, .int .i64 me, .int .i64 n] 93 (0, 0))) (t : Bool) (ht : (s.peer == p && s.epoch == me) = t) :
    Calls Tryz.prog 161 #[.agg s.cs, .pointer (some ⟨g1, 0, none⟩), .pointer (some ⟨g2, 0, none⟩)] W fun e W' => e = .returned (.bool t) ∧ Ext W W' := by
  obtain ⟨y0, y1, y2, y3, y4, y5, y6, y7⟩ := s
  unfold Sd.cs
  dsimp only at ht ⊢
  obtain ⟨W1, hW1⟩ : ∃ W1, W1 = W.alloc (.cells #[.int .i64 y0, .int .i64 y1, .int .i64 y2, .bool y3, .bool y4, .bool y5, .bool y6, .bool y7] 66) := ⟨_, rfl⟩
  have X1 : Hid (Ext W W1) := Lib.hid (hW1 ▸ (Ext.refl W).alloc _)
  have d1 : W1.heap[W.heap.size]? = some (.cells #[.int .i64 y0, .int .i64 y1, .int .i64 y2, .bool y3, .bool y4, .bool y5, .bool y6, .bool y7] 66 (0, 0)) := hW1 ▸ at0 W _
  have HW1 := Lib.hid hW1
  have x0 := blk_cell d1 0 rfl
  have x1 := blk_cell d1 1 rfl
  have k1 := blk_cell (keepU h1 X1.out) 0 rfl
  have k2 := blk_cell (keepU h2 X1.out) 1 rfl
  have HT := Lib.hid ht
  clear ht h1 h2 hW1 d1
  by_cases e1 : y0 = p
  · have t1 : (y0 == p) = true := by simp [e1]
    by_cases e2 : y1 = me
    · have t2 : (y1 == me) = true := by simp [e2]
      have HF : Hid (true = t) := Lib.hid (by rw [← HT.out, t1, t2]; rfl)
      clear e1 e2 HT
      go_enter Tryz.func161, Tryz.ntmps161
      go_upto_region 1 with (fail)
      rw [← HW1.out]
      go_wp2
      go_ret
      exact ⟨ret_bool HF.out, X1.out⟩
    · have t2 : (y1 == me) = false := by simp [e2]
      have HF : Hid (false = t) := Lib.hid (by rw [← HT.out, t1, t2]; rfl)
      clear e1 e2 HT
      go_enter Tryz.func161, Tryz.ntmps161
      go_upto_region 1 with (fail)
      rw [← HW1.out]
      go_wp2
      go_ret
      exact ⟨ret_bool HF.out, X1.out⟩
  · have t1 : (y0 == p) = false := by simp [e1]
    have HF : Hid (false = t) := Lib.hid (by rw [← HT.out, t1]; rfl)
    clear e1 HT
    go_enter Tryz.func161, Tryz.ntmps161
    go_upto_region 1 with (fail)
    rw [← HW1.out]
    go_wp2
    go_ret
    exact ⟨ret_bool HF.out, X1.out⟩
theorem indexK_meant (w : World) (v : Value) (L : List Sd) (g1 g2 : Nat) (p k me n : Int) (h : Sl w v L) (h1 : w.heap[g1]? = some (.cells #[.int .i64 p] 3 (0, 0))) (h2 : w.heap[g2]? = some (.cells #[.int .i64 k, .int .i64 me, .int .i64 n] 93 (0, 0))) :
    Calls Tryz.prog 162 #[v, .func (.func 161) #[] #[.pointer (some ⟨g1, 0, none⟩), .pointer (some ⟨g2, 0, none⟩)]] w fun e w' => ∃ r : Int, e = .returned (.int .i64 r) ∧ ((r = -1 ∧ findS (fun s => s.peer == p && s.epoch == me) L = none) ∨ ∃ (i : Nat) (s : Sd), r = (i : Int) ∧ L[i]? = some s ∧ findS (fun s => s.peer == p && s.epoch == me) L = some (i, s)) ∧ Ext w w' := by
  refine (indexFunc_sd w v L 161 #[.pointer (some ⟨g1, 0, none⟩), .pointer (some ⟨g2, 0, none⟩)] (fun _ V => Ext w V) (fun _ s => s.peer == p && s.epoch == me) (enters_of Tryz.func161 (by kernel_rfl) rfl) (fun _ W hW => h.ext hW) ?_ (Ext.refl w)).mono ?_
  · intro i s W hi hW
    refine (meantK_one W g1 g2 p k me n s (keepU h1 hW) (keepU h2 hW) _ rfl).mono ?_
    rintro e W' ⟨rfl, hx⟩
    exact ⟨rfl, Ext.trans hW hx⟩
  · rintro e w' ⟨r, rfl, hr, i, hx⟩
    refine ⟨r, rfl, ?_, hx⟩
    rcases hr with ⟨e, hn⟩ | ⟨i, s, e, hs, hq, hn⟩
    · exact .inl ⟨e, findS_none hn⟩
    · exact .inr ⟨i, s, e, hs, findS_some hs hq hn⟩
def withK (L : List Sd) (p k me : Int) : List Sd × Int := match findS (fun s => s.peer == p && s.epoch == me) L with
  | none => ([], 131)
  | some (i, s) => if k = 4 then (if s.ask = true then ([], 132) else (L.set i { s with ask := true }, 0)) else (if s.bottle = true then ([], 132) else (L.set i { s with bottle := true }, 0))
def GivesW (w : World) (r : List Sd × Int) (e : Ending) (w' : World) : Prop := ∃ v', e = .returned (.tuple #[v', .int .i64 r.2]) ∧ Sl w' v' r.1 ∧ Ext w w' ∧ ∀ b, v'.ownBlock = some b → w.heap.size ≤ b
set_option maxRecDepth 100000 in
set_option maxHeartbeats 8000000 in
theorem withK_any (w : World) (v : Value) (L : List Sd) (p k me n : Int) (h : Sl w v L) (hl : L.length ≤ 1000) :
    Calls Tryz.prog 134 #[v, .int .i64 p, .agg #[.int .i64 k, .int .i64 me, .int .i64 n]] w (GivesW w (withK L p k me)) := by
  obtain ⟨ao, c, rfl⟩ := h.len
  have hmf : ∀ (fn : Fn) (first cap : Array Value) (w : World), (Instr.makeFunc fn first cap).run Tryz.prog w = .ok (.func fn first cap) w := fun _ _ _ _ => rfl
  have hlen := h.length_le
  obtain ⟨W0, hW0⟩ : ∃ W0, W0 = (w.alloc (.cells #[.int .i64 p] 3)).alloc (.cells #[.int .i64 k, .int .i64 me, .int .i64 n] 93) := ⟨_, rfl⟩
  have X0 : Hid (Ext w W0) := Lib.hid (hW0 ▸ ((Ext.refl w).alloc _).alloc _)
  have P0 : Hid (W0.heap[w.heap.size]? = some (.cells #[.int .i64 p] 3 (0, 0))) := Lib.hid (hW0 ▸ old1 (at0 w _) _)
  have M0 : Hid (W0.heap[w.heap.size + 1]? = some (.cells #[.int .i64 k, .int .i64 me, .int .i64 n] 93 (0, 0))) := Lib.hid (hW0 ▸ at1 w _ _)
  have HW0 := Lib.hid hW0
  have HS := Lib.hid (h.ext X0.out)
  clear h hW0
  go_enter Tryz.func134, Tryz.ntmps134
  go_upto_region 1 with (fail)
  rw [← HW0.out]
  go_upto_region 3 with (first
    | (go_at_call 162; refine (indexK_meant W0 _ L w.heap.size (w.heap.size + 1) p k me n HS.out P0.out M0.out).mono ?_; rintro e w2 ⟨r, rfl, hr, hx⟩; have X2 : Hid (Ext W0 w2) := Lib.hid hx; have HRR := Lib.hid hr; clear hx hr))
  rcases HRR.out with ⟨rfl, hf⟩ | ⟨i, s, rfl, hsi, hf⟩
  · have HR : Hid (withK L p k me = ([], 131)) := Lib.hid (by unfold withK; rw [hf])
    clear hf HRR
    go_wp2
    go_ret2
    exact ⟨_, by rw [HR.out]; rfl, by rw [HR.out]; exact slNoneU _, X0.out.trans X2.out, fun b hb => by simp [Value.ownBlock] at hb⟩
  · have hlt : i < L.length := (List.getElem?_eq_some_iff.1 hsi).1
    have ho1 : ¬ ((i : Int) < 0) := by omega
    have HR : Hid (withK L p k me = if k = 4 then (if s.ask = true then ([], 132) else (L.set i { s with ask := true }, 0)) else (if s.bottle = true then ([], 132) else (L.set i { s with bottle := true }, 0))) := Lib.hid (by unfold withK; rw [hf])
    clear hf HRR
    go_upto_region 6 with (first
      | (go_at_call 72; refine (clone_sd w2 _ L (HS.out.ext X2.out) hl).mono ?_; rintro e w5 ⟨v5, rfl, o5, x5⟩; obtain ⟨a5, n5, c5, rfl⟩ := o5.sh; have X5 : Hid (Ext w2 w5) := Lib.hid x5; have O5 := Lib.hid o5; clear o5 x5))
    have hz2 : w.heap.size + 2 ≤ w2.heap.size := by have := blk_lt (keepU M0.out X2.out); omega
    obtain ⟨b1, off, s', hsy, hsj, hao, hn1, hnc, hc63, hb, hcs⟩ := O5.out.sl.sidesAt hlt
    subst hao
    obtain rfl : s' = s := by have := hsj.symm.trans hsi; simpa using this
    obtain ⟨⟨⟨x0, x1⟩, x2, x3⟩, ⟨x4, x5⟩, x6, x7⟩ := hcs _ (Ext.refl _)
    subst hn1
    obtain ⟨p0, m0, m1, m2⟩ : w5.cell? ⟨w.heap.size, 0, none⟩ = some (.int .i64 p) ∧ _ := ⟨blk_cell (keepU P0.out (X2.out.trans X5.out)) 0 rfl, cells3U (keepU M0.out (X2.out.trans X5.out))⟩
    obtain ⟨z1, z2, z3, z4⟩ := Ow.setCell1 (i := 6) (x' := { s' with bottle := true }) (u := .bool true) O5.out hsj (by decide) rfl
    obtain ⟨_, _, u3, u4⟩ := Ow.setCell1 (i := 7) (x' := { s' with ask := true }) (u := .bool true) O5.out hsj (by decide) rfl
    subst z1
    change w5.frozen? ⟨b1, 0 + i * 8 + 6, none⟩ = false at z3
    change w5.frozen? ⟨b1, 0 + i * 8 + 7, none⟩ = false at u3
    simp only [Nat.zero_add] at x6 x7 z3 u3
    rw [show (0 + i * Elem.k Sd + 6 : Nat) = i * 8 + 6 from by show 0 + i * 8 + 6 = _; omega] at z4
    rw [show (0 + i * Elem.k Sd + 7 : Nat) = i * 8 + 7 from by show 0 + i * 8 + 7 = _; omega] at u4
    have Z4 := Lib.hid z4
    have U4 := Lib.hid u4
    have HB1 : Hid (w2.heap.size ≤ b1) := Lib.hid z2
    have hnn : ∀ q : Nat, (Value.pointer (some ⟨b1, q, none⟩)) ≠ .pointer none := fun _ h => by cases h
    clear hsy hsj hcs hsi z4 u4 z2 hnn
    obtain ⟨y0, y1, y2, y3, y4, y5, y6, y7⟩ := s'
    dsimp only at x0 x1 x2 x3 x4 x5 x6 x7 HR Z4 U4
    by_cases e4 : k = 4
    · have t4 : (k == 4) = true := by simp [e4]
      have HR2 := Lib.hid (HR.out.trans (if_pos e4))
      clear e4 HR
      cases y7
      · go_wp2
        go_ret2
        exact ⟨_, by rw [HR2.out]; rfl, by rw [HR2.out]; exact U4.out.sl, below_set (X0.out.trans (X2.out.trans X5.out)) (by have := HB1.out; show w.heap.size ≤ b1; omega) _, fun b hb => by have := (U4.out.low b hb).1; omega⟩
      · go_wp2
        go_ret2
        exact ⟨_, by rw [HR2.out]; rfl, by rw [HR2.out]; exact slNoneU _, X0.out.trans (X2.out.trans X5.out), fun b hb => by simp [Value.ownBlock] at hb⟩
    · have t4 : (k == 4) = false := by simp [e4]
      have HR2 := Lib.hid (HR.out.trans (if_neg e4))
      clear e4 HR
      cases y6
      · go_wp2
        go_ret2
        exact ⟨_, by rw [HR2.out]; rfl, by rw [HR2.out]; exact Z4.out.sl, below_set (X0.out.trans (X2.out.trans X5.out)) (by have := HB1.out; show w.heap.size ≤ b1; omega) _, fun b hb => by have := (Z4.out.low b hb).1; omega⟩
      · go_wp2
        go_ret2
        exact ⟨_, by rw [HR2.out]; rfl, by rw [HR2.out]; exact slNoneU _, X0.out.trans (X2.out.trans X5.out), fun b hb => by simp [Value.ownBlock] at hb⟩
end Go.Proofs.YtfbambemjokmgaaGreat
namespace Go.Proofs.YtfbambemjokmgaaGreat
def hasK (L : List Dk) (a : Int) : Bool := decide (0 ≤ a) && decide (a < (L.length : Int))
theorem hasK_iff {L : List Dk} {a : Int} : hasK L a = true ↔ 0 ≤ a ∧ a < L.length := by unfold hasK; simp
def faultB (L : List Dk) (M : List Ml) (xs : List Int) : Int := if chkB L M = true then (if xs.all (hasK L) = true then 0 else 161) else 160
def behB (L : List Dk) (M : List Ml) (A : Nat) (r : Dk × Int) : (List Dk × List Ml) × Int := if r.2 = 0 then (if chkK r.1 = true then ((L.set A (fireAll r.1).1, M ++ (fireAll r.1).2), 0) else (noB, 150)) else (noB, r.2)
theorem peersL_all {p : Sd → Bool} {L : List Sd} {x : Int} (h : x ∈ peersL p L) : (L.any fun s => s.peer == x) = true := by
  unfold peersL at h
  obtain ⟨s, hs, rfl⟩ := List.mem_map.1 h
  exact List.any_eq_true.2 ⟨s, (List.mem_filter.1 hs).1, by simp⟩
theorem chk_open {d : Dk} {Q : List Int} (h0 : (openR d Q).2 = 0) : chkK (openR d Q).1 = true := by
  unfold openR at *
  by_cases hc : chkK d = true
  · rw [if_pos hc] at h0 ⊢
    by_cases ht : d.thirst ≠ 0
    · rw [if_pos ht] at h0; simp at h0
    · rw [if_neg ht] at h0 ⊢
      by_cases hq : (Q.all fun p => decide (p ∈ peersL (fun s => decide (s.state = 0)) d.sides)) = true
      · rw [if_pos hq]
        dsimp only
        unfold chkK at *
        simp only [Bool.and_eq_true] at hc ⊢
        refine ⟨⟨⟨⟨hc.1.1.1.1, by simp⟩, by simp⟩, ?_⟩, (riseB_iff _).2 (norm_SS Q)⟩
        rw [List.all_eq_true] at hq ⊢
        intro p hp
        exact peersL_all (of_decide_eq_true (hq p ((mem_norm _ _).1 hp)))
      · rw [if_neg hq] at h0; simp at h0
  · rw [if_neg hc] at h0; simp at h0
theorem chk_close {d : Dk} (h0 : (closeR d).2 = 0) : chkK (closeR d).1 = true := by
  unfold closeR at *
  by_cases hc : chkK d = true
  · rw [if_pos hc] at h0 ⊢
    by_cases ht : d.thirst = 0
    · rw [if_pos ht] at h0; simp at h0
    · rw [if_neg ht]
      dsimp only
      unfold chkK at *
      simp only [Bool.and_eq_true] at hc ⊢
      exact ⟨⟨⟨⟨hc.1.1.1.1, by simp⟩, by simp⟩, by simp⟩, rfl⟩
  · rw [if_neg hc] at h0; simp at h0
theorem any_put {L : List Sd} {i : Nat} {s t : Sd} (hs : L[i]? = some s) (ht : t.peer = s.peer) {x : Int} (h : (L.any fun s => s.peer == x) = true) : ((L.set i t).any fun s => s.peer == x) = true := by
  obtain ⟨u, hu, hx⟩ := List.any_eq_true.1 h
  obtain ⟨j, hj⟩ := List.getElem?_of_mem hu
  refine List.any_eq_true.2 ?_
  by_cases e : i = j
  · subst e
    have := hs.symm.trans hj
    simp only [Option.some.injEq] at this
    subst this
    exact ⟨t, List.mem_of_getElem? (by rw [List.getElem?_set_self (List.getElem?_eq_some_iff.1 hs).1]), by rw [ht]; exact hx⟩
  · exact ⟨u, List.mem_of_getElem? (i := j) (by rw [List.getElem?_set_ne e]; exact hj), hx⟩
theorem chk_put {d : Dk} {i : Nat} {s t : Sd} (hc : chkK d = true) (hs : d.sides[i]? = some s) (ht : t.peer = s.peer) (hd : ∀ la, sideD d.id la s = true → sideD d.id la t = true) : chkK ⟨d.id, d.phase, d.sides.set i t, d.thirst, d.need⟩ = true := by
  unfold chkK at *
  simp only [Bool.and_eq_true] at hc ⊢
  refine ⟨⟨⟨⟨?_, hc.1.1.1.2⟩, hc.1.1.2⟩, ?_⟩, hc.2⟩
  · have h1 := hc.1.1.1.1
    unfold Dk.dn at *
    unfold dnOk at *
    rw [Bool.and_eq_true] at *
    exact ⟨head_len h1.1 (by rw [List.length_set]), sidesD_put hs ht hd h1.2⟩
  · have h2 := hc.1.2
    rw [List.all_eq_true] at h2 ⊢
    exact fun p hp => any_put hs ht (h2 p hp)
theorem chk_get {d : Dk} {p k me n : Int} (h0 : (getK d p k me n).2 = 0) : chkK (getK d p k me n).1 = true := by
  unfold getK at *
  by_cases hc : chkK d = true
  · rw [if_pos hc] at h0 ⊢
    cases hf : findS (fun s => s.peer == p && s.epoch == me) d.sides with
    | none => rw [hf] at h0; simp at h0
    | some x =>
      obtain ⟨i, s⟩ := x
      rw [hf] at h0
      dsimp only at h0 ⊢
      obtain ⟨h1, _⟩ := findS_spec hf
      split
      · next q =>
        rw [if_pos q] at h0
        split
        · next q2 => rw [if_pos q2] at h0; simp at h0
        · exact chk_put hc h1 rfl fun la hla => hla
      · next q =>
        rw [if_neg q] at h0
        split
        · next q2 =>
          rw [if_pos q2] at h0
          split
          · next q3 => rw [if_pos q3] at h0; simp at h0
          · exact chk_put hc h1 rfl fun la hla => hla
        · next q2 =>
          rw [if_neg q2] at h0
          split
          · next q3 => exact chk_put hc h1 (with_peer q3) (fun la hla => (with_side q3 hla).1)
          · next q3 => rw [if_neg q3] at h0; exact absurd h0 q3
  · rw [if_neg hc] at h0; simp at h0
theorem beh_open {L : List Dk} {M : List Ml} {A : Nat} {d : Dk} (hA : L[A]? = some d) (b : Int) (Q : List Int) : behB L M A (openR d Q) = stepB L M 0 A b Q := by
  have hAL := (List.getElem?_eq_some_iff.1 hA).1
  unfold stepB
  rw [if_neg (show ¬ (¬ (0 ≤ (A : Int) ∧ (A : Int) < (L.length : Int)) ∨ (0 : Int) = 2 ∧ ¬ (0 ≤ b ∧ b < (L.length : Int))) from by omega), if_neg (show ¬ ((0 : Int) = 2) from by omega), Int.toNat_natCast, hA]
  dsimp only
  rw [if_pos (show (0 : Int) = 0 from rfl)]
  unfold behB
  by_cases e : (openR d Q).2 = 0
  · rw [if_pos e, if_pos e, if_pos (chk_open e)]
    rfl
  · rw [if_neg e, if_neg e]
theorem beh_close {L : List Dk} {M : List Ml} {A : Nat} {d : Dk} (hA : L[A]? = some d) (b : Int) (Q : List Int) : behB L M A (closeR d) = stepB L M 1 A b Q := by
  have hAL := (List.getElem?_eq_some_iff.1 hA).1
  unfold stepB
  rw [if_neg (show ¬ (¬ (0 ≤ (A : Int) ∧ (A : Int) < (L.length : Int)) ∨ (1 : Int) = 2 ∧ ¬ (0 ≤ b ∧ b < (L.length : Int))) from by omega), if_neg (show ¬ ((1 : Int) = 2) from by omega), Int.toNat_natCast, hA]
  dsimp only
  rw [if_neg (show ¬ ((1 : Int) = 0) from by omega)]
  unfold behB
  by_cases e : (closeR d).2 = 0
  · rw [if_pos e, if_pos e, if_pos (chk_close e)]
    rfl
  · rw [if_neg e, if_neg e]
theorem beh_getK {L : List Dk} {M : List Ml} {B : Nat} {d : Dk} (hB : L[B]? = some d) {a : Int} (ha : 0 ≤ a ∧ a < L.length) {l1 l2 : List Ml} {m : Ml} (hp : pick a B M = some (l1, m, l2)) (Q : List Int) :
    behB L (l1 ++ l2) B (getK d a m.kind m.epoch m.num) = stepB L M 2 a B Q := by
  have hBL := (List.getElem?_eq_some_iff.1 hB).1
  unfold stepB
  rw [if_neg (by omega), if_pos rfl, hp]
  dsimp only
  rw [Int.toNat_natCast, hB]
  dsimp only
  unfold behB
  by_cases e : (getK d a m.kind m.epoch m.num).2 = 0
  · rw [if_pos e, if_pos e, if_pos (chk_get e)]
    rfl
  · rw [if_neg e, if_neg e]
theorem stepBB_no {L : List Dk} {M : List Ml} (h : chkB L M = false) (k a b : Int) (Q : List Int) : stepBB L M k a b Q = (noB, 160) := by unfold stepBB; rw [h]; rfl
theorem stepBB_yes {L : List Dk} {M : List Ml} (h : chkB L M = true) (k a b : Int) (Q : List Int) : stepBB L M k a b Q = stepB L M k a b Q := by unfold stepBB; rw [if_pos h]
theorem stepB_node {L : List Dk} {M : List Ml} {k a b : Int} {Q : List Int} (hn : ¬ (0 ≤ a ∧ a < L.length) ∨ k = 2 ∧ ¬ (0 ≤ b ∧ b < L.length)) : stepB L M k a b Q = (noB, 161) := by
  unfold stepB; rw [if_pos hn]
theorem stepB_mail {L : List Dk} {M : List Ml} {a b : Int} {Q : List Int} (hn : ¬ (¬ (0 ≤ a ∧ a < L.length) ∨ (2 : Int) = 2 ∧ ¬ (0 ≤ b ∧ b < L.length))) (hp : pick a b M = none) : stepB L M 2 a b Q = (noB, 162) := by
  unfold stepB; rw [if_neg hn, if_pos rfl, hp]
theorem getK_few {d : Dk} {p k me n : Int} : (getK d p k me n).1.sides.length ≤ d.sides.length ∧ (getK d p k me n).1.need.length ≤ d.need.length := by
  unfold getK
  split
  · split
    · simp [noK]
    · split
      · split <;> simp [noK]
      · split
        · split <;> simp [noK]
        · split <;> simp [noK]
  · simp [noK]
theorem closeR_few {d : Dk} : (closeR d).1.sides.length ≤ d.sides.length ∧ (closeR d).1.need.length ≤ 0 := by
  unfold closeR
  split
  · split <;> simp [noK]
  · simp [noK]
theorem openR_few {d : Dk} {Q : List Int} : (openR d Q).1.sides.length ≤ d.sides.length ∧ (openR d Q).1.need.length ≤ Q.length := by
  unfold openR
  split
  · split
    · simp [noK]
    · split
      · exact ⟨Nat.le_refl _, norm_length _⟩
      · simp [noK]
  · simp [noK]
end Go.Proofs.YtfbambemjokmgaaGreat
namespace Go.Proofs.YtfbambemjokmgaaGreat
open Go.RowKit
set_option maxHeartbeats 2000000 in
theorem asker_any (w : World) (N : Int) (v : Value) (E : List Edge) (h : Sl w v E) (ok : OkG N E) :
    Calls Tryz.prog 154 #[.agg #[.int .i64 N, v]] w fun e w' => ∃ fv, e = .returned fv ∧ Asks w' fv N E ∧ Ext w w' := by
  obtain ⟨vo, vn, vc, rfl⟩ := h.sh
  have HS := Lib.hid h
  have HOK := Lib.hid ok
  have n0 := ok.n0
  have n64 := ok.n64
  obtain ⟨m, hm⟩ : ∃ m, m = N.toNat := ⟨_, rfl⟩
  have hNm : N = (m : Int) := by omega
  have hmf : ∀ (fn : Fn) (first cap : Array Value) (w : World), (Instr.makeFunc fn first cap).run Tryz.prog w = .ok (.func fn first cap) w := fun _ _ _ _ => rfl
  have HM := Lib.hid hm
  clear h ok hm
  subst hNm
  go_enter Tryz.func154, Tryz.ntmps154
  go_wp2
  go_loopw [7] (fun i wr => ∃ k : Nat, k ≤ m ∧ i = .int .i64 k ∧ Hid (AskAt w (m : Int) (.slice vo vn vc) E k wr)) (fun i _ => m - (intOf i).toNat)
  case atStart => exact ⟨0, Nat.zero_le _, rfl, Lib.hid (AskAt.start w _ _ E)⟩
  case round =>
    obtain ⟨k, hk, rfl, HA⟩ := hrel
    by_cases hlt : k < m
    · obtain ⟨ao, n, c, xs, hrow, hown, hxl, hel⟩ := HA.out.row
      have HRW := Lib.hid hrow
      have HOW := Lib.hid hown
      have HEL := Lib.hid hel
      have HAG := Lib.hid HA.out.arg
      have hs2 : w.heap.size + 2 ≤ wr.heap.size := by have := blk_lt hrow; omega
      clear hrow hown hel
      go_wp2_with fail
      (refine wp_region_X_lit (K := fun W => W.heap[w.heap.size]? = some (.cells #[.int .i64 (m : Int), .slice vo vn vc] 53 (0, 0))) (by kernel_rfl) (fun w1 hw1 => ?_))
      have HX1 := Lib.hid hw1
      have HG1 := Lib.hid ((hw1.block _ (blk_lt HAG.out)).trans HAG.out)
      have d1 := blk_cell ((hw1.block _ (blk_lt HRW.out)).trans HRW.out) 0 rfl
      clear hw1
      refine xtv 1 (hv := by intro w' hw'; have hc0 := blk_cell hw' 0 rfl; have hc1 := blk_cell hw' 1 rfl; go_simp; first | done | with_reducible rfl) (h := ?_)
      refine xtv 2 (h := ?_)
      refine xtwo 0 3 (hk := HG1.out) (h := RunX.of 0 (h := ?_)) (h' := RunX.of 3 (h := ?_))
      · go_simp
        (try (simp only [Act.put, List.setIfInBounds_toArray, List.set]))
        refine xone 3 (hk := HG1.out) (h := RunX.of 3 (h := ?_))
        go_simp
        refine (near_any w1 (m : Int) _ E (k : Int) (HS.out.ext (Ext.trans HA.out.ext HX1.out)) HOK.out).mono ?_
        rintro e2 w2 ⟨v2, rfl, ho2, hx2⟩
        obtain ⟨a2, n2, c2, rfl⟩ := ho2.sh
        have HX2 := Lib.hid (Ext.trans HX1.out hx2)
        have HO2 := Lib.hid (ho2.mono (Below.size HX1.out))
        have HG2 := Lib.hid ((HX2.out.block _ (blk_lt HAG.out)).trans HAG.out)
        have d2 := blk_cell ((HX2.out.block _ (blk_lt HRW.out)).trans HRW.out) 0 rfl
        clear ho2 hx2
        dsimp only
        (try (simp only [Act.put, List.setIfInBounds_toArray, List.set]))
        refine xone 4 (hk := HG2.out) (h := RunX.of 4 (h := ?_))
        go_simp
        (try (simp only [Act.put, List.setIfInBounds_toArray, List.set]))
        refine xone 5 (hk := ((blk_alloc HG2.out (.cells #[.slice a2 n2 c2] 26)))) (h := RunX.of 5 (h := ?_))
        (refine wp_append_sl (α := IV) (.tmp 10) (.tmp 14) rfl (w.heap.size + 2) (.slice ao n c) xs rfl ?_ (.slice (some ⟨w2.heap.size, 0, none⟩) 1 1) [(⟨a2, n2, c2⟩ : IV)] rfl ?_ ?_ ?_ ?_; exact ((HOW.out.ext HX2.out).alloc _); exact (Sl.litAt w2 _ rfl [(⟨a2, n2, c2⟩ : IV)] (show (1 : Nat) ≤ 1000000 by decide)); (first | omega | (simp; omega)); (rw [size_alloc]; have hx := Below.size HX2.out; omega); intro v3 W3 ho3 ha3)
        obtain ⟨a3, n3, c3, rfl⟩ := ho3.sh
        obtain ⟨hb3, hst⟩ := HA.out.step HRW.out HOW.out hxl HEL.out HX2.out HO2.out ho3 ha3
        have k3 := blk_cell hb3 0 rfl
        have g3 := blk_free hb3 0
        have HG3 := Lib.hid ((ha3.below.block _ (by omega)).trans (blk_alloc HG2.out (.cells #[.slice a2 n2 c2] 26)))
        have HST := Lib.hid hst
        clear ho3 ha3 hst hb3
        dsimp only
        (try (simp only [Act.put, List.setIfInBounds_toArray, List.set]))
        refine xone 6 (hk := HG3.out) (h := RunX.of 6 (h := ?_))
        go_simp
        (try (simp only [Act.put, List.setIfInBounds_toArray, List.set]))
        (refine xdone (by kernel_rfl) ((set_other _ _ _ _ (by show w.heap.size ≠ w.heap.size + 1; omega)).trans HG3.out) ?_)
        go_wp2
        go_roundw
        case rel => exact ⟨k + 1, by omega, by go_num, HST⟩
        case measure => simp [intOf]; omega
      · go_simp
        refine (near_any w1 (m : Int) _ E (k : Int) (HS.out.ext (Ext.trans HA.out.ext HX1.out)) HOK.out).mono ?_
        rintro e2 w2 ⟨v2, rfl, ho2, hx2⟩
        obtain ⟨a2, n2, c2, rfl⟩ := ho2.sh
        have HX2 := Lib.hid (Ext.trans HX1.out hx2)
        have HO2 := Lib.hid (ho2.mono (Below.size HX1.out))
        have HG2 := Lib.hid ((HX2.out.block _ (blk_lt HAG.out)).trans HAG.out)
        have d2 := blk_cell ((HX2.out.block _ (blk_lt HRW.out)).trans HRW.out) 0 rfl
        clear ho2 hx2
        dsimp only
        (try (simp only [Act.put, List.setIfInBounds_toArray, List.set]))
        refine xtwo 0 4 (hk := HG2.out) (h := RunX.of 0 (h := ?_)) (h' := RunX.of 4 (h := ?_))
        · go_simp
          (try (simp only [Act.put, List.setIfInBounds_toArray, List.set]))
          refine xone 4 (hk := HG2.out) (h := RunX.of 4 (h := ?_))
          go_simp
          (try (simp only [Act.put, List.setIfInBounds_toArray, List.set]))
          refine xone 5 (hk := ((blk_alloc HG2.out (.cells #[.slice a2 n2 c2] 26)))) (h := RunX.of 5 (h := ?_))
          (refine wp_append_sl (α := IV) (.tmp 10) (.tmp 14) rfl (w.heap.size + 2) (.slice ao n c) xs rfl ?_ (.slice (some ⟨w2.heap.size, 0, none⟩) 1 1) [(⟨a2, n2, c2⟩ : IV)] rfl ?_ ?_ ?_ ?_; exact ((HOW.out.ext HX2.out).alloc _); exact (Sl.litAt w2 _ rfl [(⟨a2, n2, c2⟩ : IV)] (show (1 : Nat) ≤ 1000000 by decide)); (first | omega | (simp; omega)); (rw [size_alloc]; have hx := Below.size HX2.out; omega); intro v3 W3 ho3 ha3)
          obtain ⟨a3, n3, c3, rfl⟩ := ho3.sh
          obtain ⟨hb3, hst⟩ := HA.out.step HRW.out HOW.out hxl HEL.out HX2.out HO2.out ho3 ha3
          have k3 := blk_cell hb3 0 rfl
          have g3 := blk_free hb3 0
          have HG3 := Lib.hid ((ha3.below.block _ (by omega)).trans (blk_alloc HG2.out (.cells #[.slice a2 n2 c2] 26)))
          have HST := Lib.hid hst
          clear ho3 ha3 hst hb3
          dsimp only
          (try (simp only [Act.put, List.setIfInBounds_toArray, List.set]))
          refine xone 6 (hk := HG3.out) (h := RunX.of 6 (h := ?_))
          go_simp
          (try (simp only [Act.put, List.setIfInBounds_toArray, List.set]))
          (refine xdone (by kernel_rfl) ((set_other _ _ _ _ (by show w.heap.size ≠ w.heap.size + 1; omega)).trans HG3.out) ?_)
          go_wp2
          go_roundw
          case rel => exact ⟨k + 1, by omega, by go_num, HST⟩
          case measure => simp [intOf]; omega
        · go_simp
          (try (simp only [Act.put, List.setIfInBounds_toArray, List.set]))
          have d3 : (w2.alloc (.cells #[.slice a2 n2 c2] 26)).cell? ⟨w.heap.size + 1, 0, none⟩ = some (.slice ao n c) := (World.cell?_alloc_past _ _ _ (by have hx := Below.size HX2.out; show w.heap.size + 1 < w2.heap.size; omega)).trans d2
          refine xone 0 (hk := ((blk_alloc HG2.out (.cells #[.slice a2 n2 c2] 26)))) (h := RunX.of 0 (h := ?_))
          go_simp
          (try (simp only [Act.put, List.setIfInBounds_toArray, List.set]))
          refine xone 5 (hk := ((blk_alloc HG2.out (.cells #[.slice a2 n2 c2] 26)))) (h := RunX.of 5 (h := ?_))
          (refine wp_append_sl (α := IV) (.tmp 10) (.tmp 14) rfl (w.heap.size + 2) (.slice ao n c) xs rfl ?_ (.slice (some ⟨w2.heap.size, 0, none⟩) 1 1) [(⟨a2, n2, c2⟩ : IV)] rfl ?_ ?_ ?_ ?_; exact ((HOW.out.ext HX2.out).alloc _); exact (Sl.litAt w2 _ rfl [(⟨a2, n2, c2⟩ : IV)] (show (1 : Nat) ≤ 1000000 by decide)); (first | omega | (simp; omega)); (rw [size_alloc]; have hx := Below.size HX2.out; omega); intro v3 W3 ho3 ha3)
          obtain ⟨a3, n3, c3, rfl⟩ := ho3.sh
          obtain ⟨hb3, hst⟩ := HA.out.step HRW.out HOW.out hxl HEL.out HX2.out HO2.out ho3 ha3
          have k3 := blk_cell hb3 0 rfl
          have g3 := blk_free hb3 0
          have HG3 := Lib.hid ((ha3.below.block _ (by omega)).trans (blk_alloc HG2.out (.cells #[.slice a2 n2 c2] 26)))
          have HST := Lib.hid hst
          clear ho3 ha3 hst hb3
          dsimp only
          (try (simp only [Act.put, List.setIfInBounds_toArray, List.set]))
          refine xone 6 (hk := HG3.out) (h := RunX.of 6 (h := ?_))
          go_simp
          (try (simp only [Act.put, List.setIfInBounds_toArray, List.set]))
          (refine xdone (by kernel_rfl) ((set_other _ _ _ _ (by show w.heap.size ≠ w.heap.size + 1; omega)).trans HG3.out) ?_)
          go_wp2
          go_roundw
          case rel => exact ⟨k + 1, by omega, by go_num, HST⟩
          case measure => simp [intOf]; omega
    · have hkm : k = m := by omega
      subst hkm
      go_wp2
      go_ret
      have hq := HA.out
      refine ⟨_, rfl, AskAt.asks HOK.out (by rw [← HM.out]; exact hq), hq.ext⟩
end Go.Proofs.YtfbambemjokmgaaGreat
