/- Texts of this seat. -/
import Derived.Test.YtfbambemjokmgaaGreatNBO
namespace Go.Proofs.YtfbambemjokmgaaGreat
open Go.RowKit
set_option maxRecDepth 100000 in
set_option maxHeartbeats 2000000 in
theorem clone_ml (w : World) (v : Value) (L : List Ml) (h : Sl w v L) (hl : L.length ≤ 1000) :
    Calls Tryz.prog 73 #[v] w fun e w' => ∃ v', e = .returned v' ∧ Ow w' w.heap.size v' L ∧ Ext w w' := by
  have h0 := h
  obtain ⟨_, ao, c, rfl, h2, h3, h4, h5⟩ := h0
  cases ao with
  | none =>
    obtain rfl := h4 rfl
    have hL : L = [] := List.eq_nil_of_length_eq_zero (by omega)
    subst hL
    clear h h2 h3 h4 h5
    dsimp only [List.length_nil]
    have q := fun w => Lib.run_eql_slice_nil (P := Tryz.prog) w _ _ none 0 0 0 0 (Elem.row (α := Ml))
    change ∀ w, (binOp .eql 23 (.slice none 0 0) (.slice none 0 0)).run Tryz.prog w = .ok (.bool true) w at q
    go_enter Tryz.func73, Tryz.ntmps73
    go_wp2
    go_ret
    exact ⟨_, rfl, Ow.nil _ _, Ext.refl _⟩
  | some a =>
    have HS := Lib.hid h
    clear h h2 h3 h4 h5
    have q := fun w => Lib.run_eql_slice_nil (P := Tryz.prog) w _ _ (some a) L.length c 0 0 (Elem.row (α := Ml))
    change ∀ w, (binOp .eql 23 (.slice (some a) L.length c) (.slice none 0 0)).run Tryz.prog w = .ok (.bool false) w at q
    go_enter Tryz.func73, Tryz.ntmps73
    go_wp2_with (first
      | (at_builtin; refine wpList_append_sl (α := Ml) rfl (.tmp 5) (.tmp 6) rfl w.heap.size (.slice (some ⟨_, 0, none⟩) 0 0) [] rfl ?_ _ L rfl ?_ ?_ ?_ ?_; exact (Ow.litAt w _ _ rfl (Nat.le_refl _) [] (by simp)); exact (HS.out.alloc _); (first | omega | (simp; omega)); exact (by rw [size_alloc]; omega); intro v6 W6 ho6 ha6; obtain ⟨a6, n6, c6, rfl⟩ := ho6.sh; have O6 : Hid (Ow W6 w.heap.size (.slice a6 n6 c6) L) := Lib.hid ho6; have X6 : Hid (Ext w W6) := Lib.hid (Below.trans (Ext.alloc (Ext.refl w) _) ha6.below); clear ho6 ha6))
    go_ret
    exact ⟨_, rfl, O6.out, X6.out⟩
theorem Nw.putSides {w : World} {B k b off n c : Nat} {L : List Dn} {d : Dn} {ua : Option Addr} {un uc : Nat} (h : Nw DV Non w B (.slice (some ⟨b, off, none⟩) n c) L) (hk : L[k]? = some d) (hs : Sa (Own1 Non (.slice (some ⟨b, off, none⟩) n c)) w (.slice ua un uc) d.sides) :
    B ≤ b ∧ w.frozen? ⟨b, off + k * 3 + 2, none⟩ = false ∧ Nw DV Non (w.setCell ⟨b, off + k * 3 + 2, none⟩ (.slice ua un uc)) B (.slice (some ⟨b, off, none⟩) n c) L := by
  obtain ⟨xs, h1, h2, h3⟩ := h.any
  have hkL := (List.getElem?_eq_some_iff.1 hk).1
  obtain ⟨z, hx⟩ : ∃ z, xs[k]? = some z := ⟨_, List.getElem?_eq_getElem (by omega)⟩
  obtain ⟨q1, q2, q3, q4⟩ := Ow.setCell1 (i := 2) (x' := ⟨z.id, z.phase, ua, un, uc⟩) (u := .slice ua un uc) h1 hx (by decide) rfl
  refine ⟨q2, q3, ⟨_, q4, by rw [List.length_set, h2], fun j y e hy he => ?_⟩⟩
  have o' : Off (Own1 Non (.slice (some ⟨b, off, none⟩) n c)) w (w.setCell ⟨b, off + k * 3 + 2, none⟩ (.slice ua un uc)) := (off_set w ⟨b, off + k * 3 + 2, none⟩ _).mono fun g hg => .inr (by rw [hg]; rfl)
  by_cases e1 : k = j
  · subst e1
    rw [List.getElem?_set, if_pos rfl, if_pos (by omega)] at hy
    simp only [Option.some.injEq] at hy
    have he2 := hk.symm.trans he
    simp only [Option.some.injEq] at he2
    subst hy he2
    obtain ⟨e2, e3, _⟩ : RdD _ w _ d := h3 k _ _ hx hk
    exact Nest.off (show Nest.rd (Own1 Non (.slice (some ⟨b, off, none⟩) n c)) w (⟨z.id, z.phase, ua, un, uc⟩ : DV) d from (⟨e2, e3, hs⟩ : RdD (Own1 Non (.slice (some ⟨b, off, none⟩) n c)) w (⟨z.id, z.phase, ua, un, uc⟩ : DV) d)) o' (Grows.refl _ _)
  · rw [List.getElem?_set, if_neg e1] at hy
    exact Nest.off (h3 j y e hy he) o' (Grows.refl _ _)
set_option maxRecDepth 100000 in
set_option maxHeartbeats 4000000 in
theorem sceneB_any (w : World) (vk vm : Value) (L : List Dk) (M : List Ml) (h : BV w vk vm L M) (hl : SmB L M) :
    Calls Tryz.prog 26 #[.agg #[vk, vm]] w fun e w' => ∃ vd vm', e = .returned (.agg #[vd, vm']) ∧ SV w' vd vm' (sceneK L) M ∧ Ext w w' := by
  obtain ⟨ao, c, bo, d, rfl, rfl⟩ := h.len
  obtain ⟨W0, hW0⟩ : ∃ W0, W0 = (w.alloc (.cells #[.slice ao L.length c, .slice bo M.length d] 25)).alloc (.cells #[.slice none 0 0, .slice none 0 0] 48) := ⟨_, rfl⟩
  have X0 : Hid (Ext w W0) := Lib.hid (hW0 ▸ ((Ext.refl w).alloc _).alloc _)
  have B0 : Hid (W0.heap[w.heap.size]? = some (.cells #[.slice ao L.length c, .slice bo M.length d] 25 (0, 0))) := Lib.hid (hW0 ▸ old1 (at0 w _) _)
  have R0 : Hid (W0.heap[w.heap.size + 1]? = some (.cells #[.slice none 0 0, .slice none 0 0] 48 (0, 0))) := Lib.hid (hW0 ▸ at1 w _ _)
  have HS0 : Hid (W0.heap.size = w.heap.size + 2) := Lib.hid (by rw [hW0, size_alloc, size_alloc])
  have HW0 := Lib.hid hW0
  have HV := Lib.hid (h.ext X0.out)
  have HL := Lib.hid hl
  have hn := hl.n
  have hms := hl.m
  obtain ⟨k0, k1⟩ := cells2S B0.out
  clear h hl hW0
  go_enter Tryz.func26, Tryz.ntmps26
  go_upto_region 1 with (fail)
  rw [← HW0.out]
  go_upto_region 2 with (first
    | (go_at_call 60; refine (diners_any W0 _ _ L M HV.out (by omega)).mono ?_; rintro e w1 ⟨a1, c1, rfl, o1, x1⟩; have O1 := Lib.hid o1; have X1 := Lib.hid x1; clear o1 x1))
  go_wp2
  go_loopw [10] (fun i wr => ∃ k : Nat, k ≤ L.length ∧ i = .int .i64 k ∧ Hid (Nw DV Non wr W0.heap.size (.slice a1 L.length c1) (L.map Dk.dn)) ∧ Hid (Ext W0 wr)) (fun i _ => L.length - (intOf i).toNat)
  case atStart => exact ⟨0, Nat.zero_le _, rfl, O1, X1⟩
  case round =>
    obtain ⟨k, hk, rfl, HQ, HX⟩ := hrel
    have hwr : W0.heap.size ≤ wr.heap.size := Below.size HX.out
    by_cases hlt : k < L.length
    · obtain ⟨b2, off2, so2, sc2, dd, hyk, hao2, hn2, hnc2, hc632, hb2, hsl2, hcell2⟩ := (HQ.out.ns (G := Non) (fun k hk => hk) (fun k hk => hk.elim)).dinerAt (k := k) (by rw [List.length_map]; exact hlt)
      subst hao2
      obtain ⟨W5, hW5⟩ : ∃ W5, W5 = wr.alloc (.cells #[.int .i64 dd.id, .int .i64 dd.phase, .slice so2 dd.sides.length sc2] 61) := ⟨_, rfl⟩
      have X5 : Hid (Ext wr W5) := Lib.hid (hW5 ▸ (Ext.refl wr).alloc _)
      have G5 : Hid (W5.heap[wr.heap.size]? = some (.cells #[.int .i64 dd.id, .int .i64 dd.phase, .slice so2 dd.sides.length sc2] 61 (0, 0))) := Lib.hid (hW5 ▸ at0 wr _)
      have HZ5 : Hid (W5.heap.size = wr.heap.size + 1) := Lib.hid (by rw [hW5, size_alloc])
      have HSL := Lib.hid (hsl2.sl.ext X5.out)
      have HYK := Lib.hid hyk
      have HC2 := Lib.hid hcell2
      have hdl : dd.sides.length ≤ 100 := by
        obtain ⟨y, hy1, hy2⟩ := List.mem_map.1 (List.mem_of_getElem? hyk)
        have := HL.out.s y hy1
        rw [← hy2]; exact this
      have hlow : ∀ b, (Value.slice (some ⟨b2, off2, none⟩) L.length c1).ownBlock = some b → b < wr.heap.size := fun b hb => by
        obtain ⟨xs, how, _, _⟩ := HQ.out.any
        exact (how.low b hb).2
      have HLOW := Lib.hid hlow
      obtain ⟨a0, a1', a2⟩ := hcell2 wr (Ext.refl _)
      have hk2 : (k : Int) < (L.length : Int) := by omega
      clear hcell2 hyk hn2 hsl2 hlow
      obtain ⟨d0, d1, d2⟩ := dd
      dsimp only at a0 a1' a2 HSL hdl HC2 hW5 G5
      have HW5 := Lib.hid hW5
      clear hW5
      go_upto_region 5 with (fail)
      rw [← HW5.out]
      clear a0 a1' a2
      obtain ⟨g0, g1, g2⟩ := cells3U G5.out
      have HCL := Lib.hid (clone_sd W5 _ d2 HSL.out (by omega))
      go_wp2_with (first
        | (go_at_call 72; refine HCL.out.mono ?_; rintro e w3 ⟨v3, rfl, o3, x3⟩; obtain ⟨a3, n3, c3, rfl⟩ := o3.sh; have O3 := Lib.hid o3; have X3 := Lib.hid (X5.out.trans x3); obtain ⟨e0, e1, e2⟩ := HC2.out w3 X3.out; obtain ⟨hp1, hp2, hp3⟩ := Nw.putSides (ua := a3) (un := n3) (uc := c3) (HQ.out.ext X3.out) HYK.out (Sa.new o3 (fun g hg => by rcases hg with hg | hg; (exact hg.elim); (have := HLOW.out g hg; have := HZ5.out; omega))); have HP3 := Lib.hid hp3; have HP1 := Lib.hid hp1; clear o3 x3 hp3 hp1))
      go_roundw
      case rel => exact ⟨k + 1, by omega, by go_num, HP3, Lib.hid (below_set (Ext.trans HX.out X3.out) HP1.out _)⟩
      case measure => simp [intOf]; omega
    · have XW : Hid (Ext w wr) := Lib.hid (X0.out.trans HX.out)
      have S1 := Lib.hid (HQ.out.ns (G := Non) (fun k hk => hk) (fun k hk => hk.elim))
      have HMS := Lib.hid (HV.out.ms.ext HX.out)
      obtain ⟨j0, j1⟩ := cells2S (keepU B0.out HX.out)
      have HCM := Lib.hid (clone_ml wr _ M HMS.out hms)
      clear HQ k0 k1
      go_wp2_with (first
        | (go_at_call 73; refine HCM.out.mono ?_; rintro e w3 ⟨v3, rfl, o3, x3⟩; obtain ⟨a3, n3, c3, rfl⟩ := o3.sh; have S3 := Lib.hid o3.sl; have X3 := Lib.hid x3; clear o3 x3)
        | refine haltst 48 ?_)
      refine .inl ?_
      have RC := Lib.hid (keepU R0.out (HX.out.trans X3.out))
      refine st_l 48 (.tmp 2) (.tmp 27) (w.heap.size + 1) 0 48 _ #[.slice a1 L.length c1, .slice a3 n3 c3] _ rfl rfl RC.out (by kernel_rfl) (by simp) rfl rfl ?_
      intro W9 hW9 o9
      simp only [Act.put]
      go_wp2
      exact bodyPost_ret (v := .agg #[.slice a1 L.length c1, .slice a3 n3 c3]) (res_c rfl rfl hW9 uScene (by kernel_rfl)) rfl ⟨_, _, rfl, (SV.mk (S1.out.ext X3.out) S3.out).off RC.out o9, ext_off (XW.out.trans X3.out) o9 (fun b hb => by omega)⟩
set_option maxRecDepth 100000 in
set_option maxHeartbeats 2000000 in
theorem bNew_bad (w : World) (N : Int) (v : Value) (E : List Edge) (h : Sl w v E) (ok : ¬ OkG N E) :
    Calls Tryz.prog 43 #[.agg #[.int .i64 N, v]] w (GivesBar w (noB, 30)) := by
  obtain ⟨vo, vn, vc, rfl⟩ := h.sh
  obtain ⟨W0, hW0⟩ : ∃ W0, W0 = (w.alloc (.cells #[.int .i64 N, .slice vo vn vc] 53)).alloc (.cells #[.slice none 0 0, .slice none 0 0] 25) := ⟨_, rfl⟩
  have X0 : Hid (Ext w W0) := Lib.hid (hW0 ▸ ((Ext.refl w).alloc _).alloc _)
  have B0 : Hid (W0.heap[w.heap.size]? = some (.cells #[.int .i64 N, .slice vo vn vc] 53 (0, 0))) := Lib.hid (hW0 ▸ old1 (at0 w _) _)
  have R0 : Hid (W0.heap[w.heap.size + 1]? = some (.cells #[.slice none 0 0, .slice none 0 0] 25 (0, 0))) := Lib.hid (hW0 ▸ at1 w _ _)
  have HW0 := Lib.hid hW0
  have HC := Lib.hid (tNew_bad W0 N _ E (h.ext X0.out) ok)
  obtain ⟨k0, k1⟩ := cells2S B0.out
  clear h hW0 ok
  go_enter Tryz.func43, Tryz.ntmps43
  go_upto_region 1 with (fail)
  rw [← HW0.out]
  go_wp2_with (first
    | (go_at_call 84; refine HC.out.mono ?_; rintro e w1 ⟨vd, vm, rfl, sv, hx⟩; dsimp only [noS] at sv ⊢; obtain ⟨a1, n1, c1, a2, n2, c2, rfl, rfl⟩ := sv.sh; have X1 := Lib.hid hx; clear hx sv)
    | refine haltst 48 ?_)
  refine .inl ?_
  refine st_l 48 (.tmp 4) (.tmp 12) w1.heap.size 0 48 #[.slice none 0 0, .slice none 0 0] #[.slice a1 n1 c1, .slice a2 n2 c2] _ rfl rfl (at0 w1 _) (by kernel_rfl) (by simp) rfl rfl ?_
  intro W2 hW2 o2
  simp only [Act.put]
  have hz1 := Below.size X1.out
  have hz0 := blk_lt R0.out
  have X2 : Hid (Ext W0 W2) := Lib.hid (ext_off (X1.out.alloc _) o2 (fun b hb => by omega))
  have HZ := Lib.hid hz0
  clear hW2 o2 hz1 hz0 k0 k1
  go_wp2_with (first | refine haltst 25 ?_)
  refine .inl ?_
  refine st_l 25 (.tmp 2) (.tmp 16) (w.heap.size + 1) 0 25 _ #[.slice none 0 0, .slice none 0 0] _ rfl rfl (keepU R0.out X2.out) (by kernel_rfl) (by simp) rfl rfl ?_
  intro W9 hW9 o9
  simp only [Act.put]
  go_wp2
  exact bodyPost_ret (v := .tuple #[.agg #[.slice none 0 0, .slice none 0 0], .int .i64 30]) (res_ct 3 rfl rfl hW9 uBar (by kernel_rfl)) rfl (givesBar_no rfl (ext_off (X0.out.trans X2.out) o9 (fun b hb => by omega)))
theorem firstB_len (D : List Dn) : (firstB D).length = D.length := by unfold firstB; rw [List.length_map]
theorem firstB_next {D : List Dn} {k : Nat} {d : Dn} (h : D[k]? = some d) : (firstB D).take (k + 1) = (firstB D).take k ++ [⟨d.id, d.phase, d.sides, 0, []⟩] := by
  obtain ⟨hk, e⟩ := List.getElem?_eq_some_iff.1 h
  rw [List.take_succ_eq_append_getElem (by rw [firstB_len]; exact hk)]
  simp [firstB, e]
set_option maxRecDepth 100000 in
set_option maxHeartbeats 4000000 in
theorem bNew_ok (w : World) (N : Int) (v : Value) (E : List Edge) (h : Sl w v E) (ok : OkG N E) (K : Nat) (hK : Ends N E K) :
    Calls Tryz.prog 43 #[.agg #[.int .i64 N, v]] w (GivesBar w ((firstB (tableL N E (itr N E K)), []), 0)) := by
  obtain ⟨vo, vn, vc, rfl⟩ := h.sh
  obtain ⟨W0, hW0⟩ : ∃ W0, W0 = (w.alloc (.cells #[.int .i64 N, .slice vo vn vc] 53)).alloc (.cells #[.slice none 0 0, .slice none 0 0] 25) := ⟨_, rfl⟩
  have X0 : Hid (Ext w W0) := Lib.hid (hW0 ▸ ((Ext.refl w).alloc _).alloc _)
  have B0 : Hid (W0.heap[w.heap.size]? = some (.cells #[.int .i64 N, .slice vo vn vc] 53 (0, 0))) := Lib.hid (hW0 ▸ old1 (at0 w _) _)
  have R0 : Hid (W0.heap[w.heap.size + 1]? = some (.cells #[.slice none 0 0, .slice none 0 0] 25 (0, 0))) := Lib.hid (hW0 ▸ at1 w _ _)
  have HW0 := Lib.hid hW0
  have HC := Lib.hid (tNew_ok W0 N _ E (h.ext X0.out) ok K hK)
  obtain ⟨D, hD⟩ : ∃ D, tableL N E (itr N E K) = D := ⟨_, rfl⟩
  have HDL : Hid (D.length ≤ 1000) := Lib.hid (by
    have h1 := (GoodBE.new (hK.right ok)).len
    rw [firstB_len, hD] at h1
    have := ok.n64
    omega)
  have HD := Lib.hid hD
  rw [hD] at HC ⊢
  obtain ⟨k0, k1⟩ := cells2S B0.out
  clear h hW0 ok hK hD
  go_enter Tryz.func43, Tryz.ntmps43
  go_upto_region 1 with (fail)
  rw [← HW0.out]
  go_wp2_with (first
    | (go_at_call 84; refine HC.out.mono ?_; rintro e w1 ⟨vd, vm, rfl, sv, hx⟩; dsimp only at sv ⊢; obtain ⟨a1, c1, a2, c2, e1, e2⟩ := sv.len; rw [show ([] : List Ml).length = 0 from rfl] at e2; subst e1 e2; have X1 := Lib.hid hx; have S1 := Lib.hid sv; clear hx sv)
    | refine haltst 48 ?_)
  refine .inl ?_
  refine st_l 48 (.tmp 4) (.tmp 12) w1.heap.size 0 48 #[.slice none 0 0, .slice none 0 0] #[.slice a1 D.length c1, .slice a2 0 c2] _ rfl rfl (at0 w1 _) (by kernel_rfl) (by simp) rfl rfl ?_
  intro W2 hW2 o2
  simp only [Act.put]
  have hz1 := Below.size X1.out
  have hz0 := blk_lt R0.out
  have X2 : Hid (Ext W0 W2) := Lib.hid (ext_off (X1.out.alloc _) o2 (fun b hb => by omega))
  have S2 := Lib.hid ((S1.out.ext ((Ext.refl _).alloc _)).off (at0 w1 _) o2)
  have B2 := Lib.hid hW2
  have HZ := Lib.hid hz0
  clear hW2 o2 hz1 hz0 k0 k1 S1
  obtain ⟨k0, k1⟩ := cells2S B2.out
  go_wp2
  go_loopw [6, 21] (fun q i wr => ∃ k : Nat, k ≤ D.length ∧ i = .int .i64 k ∧ Hid (Nw KV Non wr W2.heap.size q ((firstB D).take k)) ∧ Hid (Ext W2 wr)) (fun _ i _ => D.length - (intOf i).toNat)
  case atStart => exact ⟨0, Nat.zero_le _, rfl, Lib.hid (by rw [List.take_zero]; exact Nw.nil _ _ _), Lib.hid (Ext.refl _)⟩
  case round =>
    obtain ⟨k, hk, rfl, HQ, HX⟩ := hrel
    by_cases hlt : k < D.length
    · obtain ⟨b2, off2, so2, sc2, dd, hyk, hao2, hn2, hnc2, hc632, hb2, hsl2, hcell2⟩ := S2.out.ds.dinerAt hlt
      obtain ⟨a0, a1', a2'⟩ := hcell2 wr HX.out
      subst hao2
      have HSL := Lib.hid hsl2
      have HTK := Lib.hid (firstB_next hyk)
      obtain ⟨xs, hown, hxl, hel⟩ := HQ.out.any
      have HOW := Lib.hid hown
      have HXL := Lib.hid hxl
      have HEL := Lib.hid hel
      have hxs : xs.length ≤ 1000 := by rw [hxl, List.length_take]; have := HDL.out; omega
      clear hcell2 hyk hn2 hsl2 hown hxl hel
      obtain ⟨d0, d1, d2⟩ := dd
      dsimp only at a0 a1' a2' HSL HTK
      go_wp2_with (first
        | (at_builtin; refine wpList_append_sl (α := KV) rfl (.tmp 25) (.tmp 28) rfl W2.heap.size _ xs rfl ?_ (.slice (some ⟨_, 0, none⟩) 1 1) [(⟨d0, d1, so2, d2.length, sc2, 0, none, 0, 0⟩ : KV)] rfl ?_ ?_ ?_ ?_; exact ((HOW.out.alloc _).alloc _); exact (Sl.litAt _ _ (by simp) [(⟨d0, d1, so2, d2.length, sc2, 0, none, 0, 0⟩ : KV)] (show (1 : Nat) ≤ 1000000 by decide)); (first | omega | (simp; omega)); exact (by have := Below.size HX.out; first | omega | (rw [size_alloc, size_alloc]; omega)); intro v3 W3 ho3 ha3; have hx : Nest.rd (Own1 Non _) _ (⟨d0, d1, so2, d2.length, sc2, 0, none, 0, 0⟩ : KV) (⟨d0, d1, d2, 0, []⟩ : Dk) := (⟨rfl, rfl, Sa.old HSL.out ((HX.out.alloc (.cells #[.int .i64 d0, .int .i64 d1, .slice so2 d2.length sc2] 61)).alloc (.cells #[.int .i64 d0, .int .i64 d1, .slice so2 d2.length sc2, .int .i64 0, .slice none 0 0] 63)) (fun b hb => (HOW.out.low b hb).1), rfl, Sa.nil _ _⟩ : RdK _ _ _ _); have hst := Nw.step (α := KV) (δ := Dk) (F := Non) (L := (firstB D).take k) HXL.out (fun j x e hx he => Nest.ext (HEL.out j x e hx he) (Ext.alloc (Ext.alloc (Ext.refl _) _) _)) hx ho3 ha3; have HST := Lib.hid hst; have HX3 : Hid (Ext W2 W3) := Lib.hid (Below.trans (HX.out.trans (Ext.alloc (Ext.alloc (Ext.refl _) _) _)) (ha3.below.mono (Nat.le_refl _))); clear ho3 ha3 hx hst))
      go_roundw
      case rel => exact ⟨k + 1, by omega, by go_num, Lib.hid (by rw [HTK.out]; exact HST.out), HX3⟩
      case measure => simp [intOf]; omega
    · have hkl : k = D.length := by omega
      have hq := HQ.out
      rw [hkl, ← firstB_len, List.take_length] at hq
      have HQ' := Lib.hid (hq.ns (G := Non) (fun k hk => hk) (fun k hk => hk.elim))
      clear hq HQ hkl
      obtain ⟨la, lc, rfl⟩ := HQ'.out.len
      rw [firstB_len] at HQ' ⊢
      have X3 : Hid (Ext W0 wr) := Lib.hid (X2.out.trans HX.out)
      have RC := Lib.hid (keepU R0.out X3.out)
      obtain ⟨j0, j1⟩ := cells2S (keepU B2.out HX.out)
      have HM : Hid (Sl wr (.slice a2 0 c2) ([] : List Ml)) := Lib.hid (S2.out.ms.ext HX.out)
      clear k0 k1
      go_wp2_with (first | refine haltst 25 ?_)
      refine .inl ?_
      refine st_l 25 (.tmp 2) (.tmp 34) (w.heap.size + 1) 0 25 _ #[.slice la D.length lc, .slice a2 0 c2] _ rfl rfl RC.out (by kernel_rfl) (by simp) rfl rfl ?_
      intro W9 hW9 o9
      simp only [Act.put]
      go_wp2
      exact bodyPost_ret (v := .tuple #[.agg #[.slice la D.length lc, .slice a2 0 c2], .int .i64 0]) (res_ct 3 rfl rfl hW9 uBar (by kernel_rfl)) rfl ⟨_, _, rfl, (BV.mk HQ'.out HM.out).off RC.out o9, ext_off (X0.out.trans X3.out) o9 (fun b hb => by omega)⟩
end Go.Proofs.YtfbambemjokmgaaGreat
namespace Go.Proofs.YtfbambemjokmgaaGreat
open Go.RowKit
set_option maxRecDepth 100000 in
set_option maxHeartbeats 16000000 in
theorem endsB_any (w : World) (vd vm : Value) (L : List Dk) (M : List Ml) (h : BV w vd vm L M) (A B : Nat) (iA pA tA iB pB tB : Int) (SA SB : List Sd) (NA NB : List Int) (hA : L[A]? = some ⟨iA, pA, SA, tA, NA⟩) (hB : L[B]? = some ⟨iB, pB, SB, tB, NB⟩) (hne : A ≠ B) (x y : Sd) (hx : sideR SA B = (x, true)) (hy : sideR SB A = (y, true)) (he : x.epoch = y.epoch) :
    Calls Tryz.prog 65 #[.agg #[vd, vm], .agg #[.int .i64 A, .int .i64 B]] w fun e w' => e = .returned (.tuple #[.agg x.cs, .agg y.cs, .bool true]) ∧ Ext w w' := by
  have hAL := (List.getElem?_eq_some_iff.1 hA).1
  have hBL := (List.getElem?_eq_some_iff.1 hB).1
  obtain ⟨ao, c, bo, d, rfl, rfl⟩ := h.len
  obtain ⟨W0, hW0⟩ : ∃ W0, W0 = (((w.alloc (.cells #[.slice ao L.length c, .slice bo M.length d] 25)).alloc (.cells #[.int .i64 A, .int .i64 B] 30)).alloc (.cells #[.int .i64 0, .int .i64 0, .int .i64 0, .bool false, .bool false, .bool false, .bool false, .bool false] 66)).alloc (.cells #[.int .i64 0, .int .i64 0, .int .i64 0, .bool false, .bool false, .bool false, .bool false, .bool false] 66) := ⟨_, rfl⟩
  have X0 : Hid (Ext w W0) := Lib.hid (hW0 ▸ ((((Ext.refl w).alloc _).alloc _).alloc _).alloc _)
  have B0 : Hid (W0.heap[w.heap.size]? = some (.cells #[.slice ao L.length c, .slice bo M.length d] 25 (0, 0))) := Lib.hid (hW0 ▸ old1 (old1 (old1 (at0 w _) _) _) _)
  have D0 : Hid (W0.heap[w.heap.size + 1]? = some (.cells #[.int .i64 A, .int .i64 B] 30 (0, 0))) := Lib.hid (hW0 ▸ old1 (old1 (at1 w _ _) _) _)
  have E40 : Hid (W0.heap[w.heap.size + 2]? = some (.cells #[.int .i64 0, .int .i64 0, .int .i64 0, .bool false, .bool false, .bool false, .bool false, .bool false] 66 (0, 0))) := Lib.hid (hW0 ▸ old1 (at2 w _ _ _) _)
  have E50 : Hid (W0.heap[w.heap.size + 3]? = some (.cells #[.int .i64 0, .int .i64 0, .int .i64 0, .bool false, .bool false, .bool false, .bool false, .bool false] 66 (0, 0))) := Lib.hid (hW0 ▸ at3 w _ _ _ _)
  have HS0 : Hid (W0.heap.size = w.heap.size + 4) := Lib.hid (by rw [hW0, size_alloc, size_alloc, size_alloc, size_alloc])
  have HW0 := Lib.hid hW0
  have HV := Lib.hid (h.ext X0.out)
  have HSC : Hid (∀ V, Ext W0 V → V.cell? ⟨w.heap.size, 0, none⟩ = some (.slice ao L.length c) ∧ V.cell? ⟨w.heap.size, 1, none⟩ = some (.slice bo M.length d)) := Lib.hid fun V hV => cells2S (keepU B0.out hV)
  have HED : Hid (∀ V, Ext W0 V → V.cell? ⟨w.heap.size + 1, 0, none⟩ = some (.int .i64 (A : Int)) ∧ V.cell? ⟨w.heap.size + 1, 1, none⟩ = some (.int .i64 (B : Int))) := Lib.hid fun V hV => cells2S (keepU D0.out hV)
  obtain ⟨bA, oA, soA, scA, noA, ncA, dA, hykA, hao, _, hnc, hc63, hbA, hslA, hnlA, hcellA⟩ := HV.out.ds.drinkerAt hAL
  obtain ⟨bB, oB, soB, scB, noB_, ncB, dB, hykB, hao2, _, _, _, hbB, hslB, hnlB, hcellB⟩ := HV.out.ds.drinkerAt hBL
  obtain rfl : dA = ⟨iA, pA, SA, tA, NA⟩ := by have := hykA.symm.trans hA; simpa using this
  obtain rfl : dB = ⟨iB, pB, SB, tB, NB⟩ := by have := hykB.symm.trans hB; simpa using this
  subst hao
  obtain ⟨rfl, rfl⟩ : bA = bB ∧ oA = oB := by simpa using hao2
  dsimp only at hslA hslB hcellA hcellB
  have HDA := Lib.hid hcellA
  have HDB := Lib.hid hcellB
  have HSA := Lib.hid hslA.sl
  have HSB := Lib.hid hslB.sl
  have Hx := Lib.hid hx
  have Hy := Lib.hid hy
  have hAi : (A : Int) < (L.length : Int) := by omega
  have hBi : (B : Int) < (L.length : Int) := by omega
  have hab : ((A : Int) == (B : Int)) = false := by simp; omega
  obtain ⟨x0, x1, x2, x3, x4, x5, x6, x7⟩ := x
  obtain ⟨y0, y1, y2, y3, y4, y5, y6, y7⟩ := y
  unfold Sd.cs
  dsimp only at he ⊢
  have hep : (x1 == y1) = true := by simp [he]
  obtain ⟨k0, k1⟩ := HSC.out W0 (Ext.refl _)
  obtain ⟨k2, k3⟩ := HED.out W0 (Ext.refl _)
  clear h hW0 hA hB hx hy he hne hykA hykB hao2 hslA hslB hcellA hcellB
  go_enter Tryz.func65, Tryz.ntmps65
  go_upto_region 1 with (fail)
  rw [← HW0.out]
  go_upto_region 3 with (first
    | (have hgd := Xa; go_at_call 115; refine (hasB_any wa _ _ L M (B : Int) (HV.out.ext Xa.out) true (hasK_iff.2 ⟨by omega, hBi⟩)).mono ?_; rintro e wb ⟨rfl, hx⟩; have Xb := Lib.hid (Xa.out.trans hx); clear hx)
    | (go_at_call 115; refine (hasB_any W0 _ _ L M (A : Int) HV.out true (hasK_iff.2 ⟨by omega, hAi⟩)).mono ?_; rintro e wa ⟨rfl, hx⟩; have Xa := Lib.hid hx; obtain ⟨j0, j1⟩ := HSC.out wa hx; obtain ⟨j2, j3⟩ := HED.out wa hx; clear hx))
  clear k0 k1 k2 k3 j0 j1 j2 j3 hab
  go_upto_region 3 with (fail)
  go_cut [7, 8] (fun s1 s2 wx => ∃ g, s1 = .pointer (some ⟨g, 0, none⟩) ∧ s2 = .bool true ∧ Hid (wx.heap[g]? = some (.cells #[.int .i64 x0, .int .i64 x1, .int .i64 x2, .bool x3, .bool x4, .bool x5, .bool x6, .bool x7] 66 (0, 0))) ∧ Hid (Ext wb wx) ∧ wb.heap.size ≤ g)
  case first =>
    have p0 : W0.heap.size ≤ wb.heap.size := Below.size Xb.out
    go_wp2_with fail
    (refine wp_region_X_lit (K := fun V => Ext W0 V) (by kernel_rfl) (fun w1 hw1 => ?_))
    have pp := Lib.hid hw1
    have p1 : Hid (Ext W0 w1) := Lib.hid (Xb.out.trans hw1)
    clear hw1
    refine xtv 0 (h := ?_)
    refine xtv 1 (hv := by intro w' hw'; have hc := (HSC.out w' hw').1; go_simp; first | done | with_reducible rfl) (h := ?_)
    refine xtv 2 (h := ?_)
    refine xtv 3 (hv := by intro w' hw'; have hc := (HED.out w' hw').1; go_simp; first | done | with_reducible rfl) (h := ?_)
    refine xtv 4 (hv := by intro w' hw'; have hz := hAL; have hz2 := hAi; go_simp; first | done | with_reducible rfl) (h := ?_)
    refine xtv 5 (h := ?_)
    refine xtv 6 (hv := by intro w' hw'; obtain ⟨⟨c0, c1, c2⟩, c3, c4⟩ := HDA.out w' hw'; go_simp; first | done | with_reducible rfl) (h := ?_)
    refine xtv 7 (h := ?_)
    refine xtv 8 (hv := by intro w' hw'; have hc := (HED.out w' hw').2; go_simp; first | done | with_reducible rfl) (h := ?_)
    refine xtwo 9 13 (hk := p1.out) (h := RunX.of 9 (h := ?_)) (h' := RunX.of 13 (h := ?_))
    · go_simp
      refine (pSide_any w1 _ _ _ _ _ (HSA.out.ext p1.out) _ _ Hx.out).mono ?_
      rintro e6 w6 ⟨rfl, x6⟩
      have p6 : Hid (Ext W0 w6) := Lib.hid (Ext.trans p1.out x6)
      have pr : Hid (Ext wb w6) := Lib.hid (Ext.trans pp.out x6)
      clear x6
      dsimp only
      (try (simp only [Act.put, List.setIfInBounds_toArray, List.set]))
      refine xtv 10 (h := ?_)
      refine xtv 11 (h := ?_)
      refine xtv 12 (h := ?_)
      refine xone 13 (hk := p6.out) (h := RunX.of 13 (h := ?_))
      go_simp
      (try (simp only [Act.put, List.setIfInBounds_toArray, List.set]))
      obtain ⟨gx, hgx⟩ : ∃ g, g = w6.heap.size := ⟨_, rfl⟩
      obtain ⟨W7, hW7⟩ : ∃ W7, W7 = w6.alloc (.cells #[.int .i64 0, .int .i64 0, .int .i64 0, .bool false, .bool false, .bool false, .bool false, .bool false] 66) := ⟨_, rfl⟩
      have B7 : Hid (W7.heap[gx]? = some (.cells #[.int .i64 0, .int .i64 0, .int .i64 0, .bool false, .bool false, .bool false, .bool false, .bool false] 66 (0, 0))) := Lib.hid (hW7 ▸ hgx ▸ at0 w6 _)
      have Y7 : Hid (Ext W0 W7) := Lib.hid (hW7 ▸ p6.out.alloc _)
      have Z7 : Hid (Ext wb W7) := Lib.hid (hW7 ▸ pr.out.alloc _)
      have pg : wb.heap.size ≤ gx := hgx ▸ Below.size pr.out
      rw [← hW7, ← hgx]
      clear hW7 hgx
      refine xone 14 (hk := Y7.out) (h := RunX.of 14 (h := ?_))
      refine wp_st 66 (.tmp 7) (.tmp 43) rfl gx 0 66 #[.int .i64 0, .int .i64 0, .int .i64 0, .bool false, .bool false, .bool false, .bool false, .bool false] #[.int .i64 x0, .int .i64 x1, .int .i64 x2, .bool x3, .bool x4, .bool x5, .bool x6, .bool x7] #[.int .i64 x0, .int .i64 x1, .int .i64 x2, .bool x3, .bool x4, .bool x5, .bool x6, .bool x7] rfl rfl B7.out (by kernel_rfl) (by simp) rfl rfl ?_
      intro WB hWB oB
      simp only [Act.put]
      have YB : Hid (Ext W0 WB) := Lib.hid (ext_off Y7.out oB (fun b hb => by omega))
      have ZB : Hid (Ext wb WB) := Lib.hid (ext_off Z7.out oB (fun b hb => by omega))
      have RB := Lib.hid hWB
      clear hWB oB
      refine xtv 15 (h := ?_)
      (refine xdone (by kernel_rfl) (YB.out) ?_)
      go_wp2_with fail
      go_meet
      exact ⟨_, rfl, rfl, RB, ZB, pg⟩
    · go_simp
      (try (simp only [Act.put, List.setIfInBounds_toArray, List.set]))
      obtain ⟨gx, hgx⟩ : ∃ g, g = w1.heap.size := ⟨_, rfl⟩
      obtain ⟨W7, hW7⟩ : ∃ W7, W7 = w1.alloc (.cells #[.int .i64 0, .int .i64 0, .int .i64 0, .bool false, .bool false, .bool false, .bool false, .bool false] 66) := ⟨_, rfl⟩
      have B7 : Hid (W7.heap[gx]? = some (.cells #[.int .i64 0, .int .i64 0, .int .i64 0, .bool false, .bool false, .bool false, .bool false, .bool false] 66 (0, 0))) := Lib.hid (hW7 ▸ hgx ▸ at0 w1 _)
      have Y7 : Hid (Ext W0 W7) := Lib.hid (hW7 ▸ p1.out.alloc _)
      have Z7 : Hid (Ext wb W7) := Lib.hid (hW7 ▸ pp.out.alloc _)
      have pg : wb.heap.size ≤ gx := hgx ▸ Below.size pp.out
      rw [← hW7, ← hgx]
      clear hW7 hgx
      refine xone 9 (hk := Y7.out) (h := RunX.of 9 (h := ?_))
      go_simp
      refine (pSide_any W7 _ _ _ _ _ (HSA.out.ext Y7.out) _ _ Hx.out).mono ?_
      rintro e6 w6 ⟨rfl, x6⟩
      have Y6 : Hid (Ext W0 w6) := Lib.hid (Ext.trans Y7.out x6)
      have Z6 : Hid (Ext wb w6) := Lib.hid (Ext.trans Z7.out x6)
      have B6 := Lib.hid (keepU B7.out x6)
      clear x6
      dsimp only
      (try (simp only [Act.put, List.setIfInBounds_toArray, List.set]))
      refine xtv 10 (h := ?_)
      refine xtv 11 (h := ?_)
      refine xtv 12 (h := ?_)
      refine xone 14 (hk := Y6.out) (h := RunX.of 14 (h := ?_))
      refine wp_st 66 (.tmp 7) (.tmp 43) rfl gx 0 66 #[.int .i64 0, .int .i64 0, .int .i64 0, .bool false, .bool false, .bool false, .bool false, .bool false] #[.int .i64 x0, .int .i64 x1, .int .i64 x2, .bool x3, .bool x4, .bool x5, .bool x6, .bool x7] #[.int .i64 x0, .int .i64 x1, .int .i64 x2, .bool x3, .bool x4, .bool x5, .bool x6, .bool x7] rfl rfl B6.out (by kernel_rfl) (by simp) rfl rfl ?_
      intro WB hWB oB
      simp only [Act.put]
      have YB : Hid (Ext W0 WB) := Lib.hid (ext_off Y6.out oB (fun b hb => by omega))
      have ZB : Hid (Ext wb WB) := Lib.hid (ext_off Z6.out oB (fun b hb => by omega))
      have RB := Lib.hid hWB
      clear hWB oB
      refine xtv 15 (h := ?_)
      (refine xdone (by kernel_rfl) (YB.out) ?_)
      go_wp2_with fail
      go_meet
      exact ⟨_, rfl, rfl, RB, ZB, pg⟩
  case rest =>
  obtain ⟨gx, rfl, rfl, pB, pX, pG⟩ := hcut
  obtain ⟨W3, hW3⟩ : ∃ W3, W3 = wc := ⟨_, rfl⟩
  rw [← hW3] at pB pX ⊢
  clear hW3
  have XW3 : Hid (Ext W0 W3) := Lib.hid (Xb.out.trans pX.out)
  go_upto_region 4 with (fail)
  go_cut [9, 10] (fun s1 s2 wx => ∃ g, s1 = .pointer (some ⟨g, 0, none⟩) ∧ s2 = .bool true ∧ Hid (wx.heap[g]? = some (.cells #[.int .i64 y0, .int .i64 y1, .int .i64 y2, .bool y3, .bool y4, .bool y5, .bool y6, .bool y7] 66 (0, 0))) ∧ Hid (Ext W3 wx) ∧ W3.heap.size ≤ g)
  case first =>
    have q0 : W0.heap.size ≤ W3.heap.size := Below.size XW3.out
    go_wp2_with fail
    (refine wp_region_X_lit (K := fun V => Ext W0 V) (by kernel_rfl) (fun w1 hw1 => ?_))
    have qp := Lib.hid hw1
    have q1 : Hid (Ext W0 w1) := Lib.hid (XW3.out.trans hw1)
    clear hw1
    refine xtv 0 (h := ?_)
    refine xtv 1 (hv := by intro w' hw'; have hc := (HSC.out w' hw').1; go_simp; first | done | with_reducible rfl) (h := ?_)
    refine xtv 2 (h := ?_)
    refine xtv 3 (hv := by intro w' hw'; have hc := (HED.out w' hw').2; go_simp; first | done | with_reducible rfl) (h := ?_)
    refine xtv 4 (hv := by intro w' hw'; have hz := hBL; have hz2 := hBi; go_simp; first | done | with_reducible rfl) (h := ?_)
    refine xtv 5 (h := ?_)
    refine xtv 6 (hv := by intro w' hw'; obtain ⟨⟨c0, c1, c2⟩, c3, c4⟩ := HDB.out w' hw'; go_simp; first | done | with_reducible rfl) (h := ?_)
    refine xtv 7 (h := ?_)
    refine xtv 8 (hv := by intro w' hw'; have hc := (HED.out w' hw').1; go_simp; first | done | with_reducible rfl) (h := ?_)
    refine xtwo 9 13 (hk := q1.out) (h := RunX.of 9 (h := ?_)) (h' := RunX.of 13 (h := ?_))
    · go_simp
      refine (pSide_any w1 _ _ _ _ _ (HSB.out.ext q1.out) _ _ Hy.out).mono ?_
      rintro e6 w6 ⟨rfl, x6⟩
      have q6 : Hid (Ext W0 w6) := Lib.hid (Ext.trans q1.out x6)
      have qr : Hid (Ext W3 w6) := Lib.hid (Ext.trans qp.out x6)
      clear x6
      dsimp only
      (try (simp only [Act.put, List.setIfInBounds_toArray, List.set]))
      refine xtv 10 (h := ?_)
      refine xtv 11 (h := ?_)
      refine xtv 12 (h := ?_)
      refine xone 13 (hk := q6.out) (h := RunX.of 13 (h := ?_))
      go_simp
      (try (simp only [Act.put, List.setIfInBounds_toArray, List.set]))
      obtain ⟨gy, hgy⟩ : ∃ g, g = w6.heap.size := ⟨_, rfl⟩
      obtain ⟨W7, hW7⟩ : ∃ W7, W7 = w6.alloc (.cells #[.int .i64 0, .int .i64 0, .int .i64 0, .bool false, .bool false, .bool false, .bool false, .bool false] 66) := ⟨_, rfl⟩
      have B7 : Hid (W7.heap[gy]? = some (.cells #[.int .i64 0, .int .i64 0, .int .i64 0, .bool false, .bool false, .bool false, .bool false, .bool false] 66 (0, 0))) := Lib.hid (hW7 ▸ hgy ▸ at0 w6 _)
      have Y7 : Hid (Ext W0 W7) := Lib.hid (hW7 ▸ q6.out.alloc _)
      have Z7 : Hid (Ext W3 W7) := Lib.hid (hW7 ▸ qr.out.alloc _)
      have qg : W3.heap.size ≤ gy := hgy ▸ Below.size qr.out
      rw [← hW7, ← hgy]
      clear hW7 hgy
      refine xone 14 (hk := Y7.out) (h := RunX.of 14 (h := ?_))
      refine wp_st 66 (.tmp 9) (.tmp 56) rfl gy 0 66 #[.int .i64 0, .int .i64 0, .int .i64 0, .bool false, .bool false, .bool false, .bool false, .bool false] #[.int .i64 y0, .int .i64 y1, .int .i64 y2, .bool y3, .bool y4, .bool y5, .bool y6, .bool y7] #[.int .i64 y0, .int .i64 y1, .int .i64 y2, .bool y3, .bool y4, .bool y5, .bool y6, .bool y7] rfl rfl B7.out (by kernel_rfl) (by simp) rfl rfl ?_
      intro WB hWB oB
      simp only [Act.put]
      have YB : Hid (Ext W0 WB) := Lib.hid (ext_off Y7.out oB (fun b hb => by omega))
      have ZB : Hid (Ext W3 WB) := Lib.hid (ext_off Z7.out oB (fun b hb => by omega))
      have RB := Lib.hid hWB
      clear hWB oB
      refine xtv 15 (h := ?_)
      (refine xdone (by kernel_rfl) (YB.out) ?_)
      go_wp2_with fail
      go_meet
      exact ⟨_, rfl, rfl, RB, ZB, qg⟩
    · go_simp
      (try (simp only [Act.put, List.setIfInBounds_toArray, List.set]))
      obtain ⟨gy, hgy⟩ : ∃ g, g = w1.heap.size := ⟨_, rfl⟩
      obtain ⟨W7, hW7⟩ : ∃ W7, W7 = w1.alloc (.cells #[.int .i64 0, .int .i64 0, .int .i64 0, .bool false, .bool false, .bool false, .bool false, .bool false] 66) := ⟨_, rfl⟩
      have B7 : Hid (W7.heap[gy]? = some (.cells #[.int .i64 0, .int .i64 0, .int .i64 0, .bool false, .bool false, .bool false, .bool false, .bool false] 66 (0, 0))) := Lib.hid (hW7 ▸ hgy ▸ at0 w1 _)
      have Y7 : Hid (Ext W0 W7) := Lib.hid (hW7 ▸ q1.out.alloc _)
      have Z7 : Hid (Ext W3 W7) := Lib.hid (hW7 ▸ qp.out.alloc _)
      have qg : W3.heap.size ≤ gy := hgy ▸ Below.size qp.out
      rw [← hW7, ← hgy]
      clear hW7 hgy
      refine xone 9 (hk := Y7.out) (h := RunX.of 9 (h := ?_))
      go_simp
      refine (pSide_any W7 _ _ _ _ _ (HSB.out.ext Y7.out) _ _ Hy.out).mono ?_
      rintro e6 w6 ⟨rfl, x6⟩
      have Y6 : Hid (Ext W0 w6) := Lib.hid (Ext.trans Y7.out x6)
      have Z6 : Hid (Ext W3 w6) := Lib.hid (Ext.trans Z7.out x6)
      have B6 := Lib.hid (keepU B7.out x6)
      clear x6
      dsimp only
      (try (simp only [Act.put, List.setIfInBounds_toArray, List.set]))
      refine xtv 10 (h := ?_)
      refine xtv 11 (h := ?_)
      refine xtv 12 (h := ?_)
      refine xone 14 (hk := Y6.out) (h := RunX.of 14 (h := ?_))
      refine wp_st 66 (.tmp 9) (.tmp 56) rfl gy 0 66 #[.int .i64 0, .int .i64 0, .int .i64 0, .bool false, .bool false, .bool false, .bool false, .bool false] #[.int .i64 y0, .int .i64 y1, .int .i64 y2, .bool y3, .bool y4, .bool y5, .bool y6, .bool y7] #[.int .i64 y0, .int .i64 y1, .int .i64 y2, .bool y3, .bool y4, .bool y5, .bool y6, .bool y7] rfl rfl B6.out (by kernel_rfl) (by simp) rfl rfl ?_
      intro WB hWB oB
      simp only [Act.put]
      have YB : Hid (Ext W0 WB) := Lib.hid (ext_off Y6.out oB (fun b hb => by omega))
      have ZB : Hid (Ext W3 WB) := Lib.hid (ext_off Z6.out oB (fun b hb => by omega))
      have RB := Lib.hid hWB
      clear hWB oB
      refine xtv 15 (h := ?_)
      (refine xdone (by kernel_rfl) (YB.out) ?_)
      go_wp2_with fail
      go_meet
      exact ⟨_, rfl, rfl, RB, ZB, qg⟩
  case rest =>
  obtain ⟨gy, rfl, rfl, qB, qX, qG⟩ := hcut
  obtain ⟨W4, hW4⟩ : ∃ W4, W4 = wc := ⟨_, rfl⟩
  rw [← hW4] at qB qX ⊢
  clear hW4
  have XW4 : Hid (Ext W0 W4) := Lib.hid (XW3.out.trans qX.out)
  have GX4 := Lib.hid (keepU pB.out qX.out)
  have GW4 := qB
  have pg := Nat.le_trans (Below.size Xb.out) pG
  have qg := Nat.le_trans (Below.size XW3.out) qG
  have E4 := Lib.hid (keepU E40.out XW4.out)
  have E5 := Lib.hid (keepU E50.out XW4.out)
  have hg1 := pg
  have hg2 := qg
  go_wp2_with fail
  (refine wp_region_X_lit (K := fun V => Ext w V ∧ V.heap[gx]? = some (.cells #[.int .i64 x0, .int .i64 x1, .int .i64 x2, .bool x3, .bool x4, .bool x5, .bool x6, .bool x7] 66 (0, 0)) ∧ V.heap[gy]? = some (.cells #[.int .i64 y0, .int .i64 y1, .int .i64 y2, .bool y3, .bool y4, .bool y5, .bool y6, .bool y7] 66 (0, 0))) (by kernel_rfl) (fun w1 hw1 => ?_))
  have HK1 : Hid (Ext w w1 ∧ w1.heap[gx]? = some (.cells #[.int .i64 x0, .int .i64 x1, .int .i64 x2, .bool x3, .bool x4, .bool x5, .bool x6, .bool x7] 66 (0, 0)) ∧ w1.heap[gy]? = some (.cells #[.int .i64 y0, .int .i64 y1, .int .i64 y2, .bool y3, .bool y4, .bool y5, .bool y6, .bool y7] 66 (0, 0))) := Lib.hid ⟨X0.out.trans (XW4.out.trans hw1), keepU GX4.out hw1, keepU GW4.out hw1⟩
  refine xtv 0 (hv := by intro w' hw'; obtain ⟨⟨⟨c0, c1⟩, c2, c3⟩, ⟨c4, c5⟩, c6, c7⟩ := cells8U hw'.2.1; go_simp; first | done | with_reducible rfl) (h := ?_)
  refine xtv 1 (hv := by intro w' hw'; obtain ⟨⟨⟨c0, c1⟩, c2, c3⟩, ⟨c4, c5⟩, c6, c7⟩ := cells8U hw'.2.2; go_simp; first | done | with_reducible rfl) (h := ?_)
  refine xtv 2 (h := ?_)
  refine xtv 3 (h := ?_)
  refine xtv 4 (h := ?_)
  refine xtv 5 (h := ?_)
  refine xtv 6 (h := ?_)
  refine xtv 7 (h := ?_)
  refine xtv 8 (hv := by intro w' hw'; obtain ⟨⟨⟨c0, c1⟩, c2, c3⟩, ⟨c4, c5⟩, c6, c7⟩ := cells8U hw'.2.1; go_simp; first | done | with_reducible rfl) (h := ?_)
  refine xtv 9 (h := ?_)
  refine xtv 10 (hv := by intro w' hw'; obtain ⟨⟨⟨c0, c1⟩, c2, c3⟩, ⟨c4, c5⟩, c6, c7⟩ := cells8U hw'.2.2; go_simp; first | done | with_reducible rfl) (h := ?_)
  refine xtv 11 (h := ?_)
  refine xtv 12 (h := ?_)
  have HKK := HK1
  have E4' := Lib.hid (keepU E4.out hw1)
  have E5' := Lib.hid (keepU E5.out hw1)
  clear HK1 E4 E5 hw1
  refine xone 13 (hk := HKK.out) (h := RunX.of 13 (h := ?_))
  · have HK1 := HKK
    have E4 := E4'
    have E5 := E5'
    refine wp_st 66 (.tmp 4) (.tmp 58) rfl (w.heap.size + 2) 0 66 #[.int .i64 0, .int .i64 0, .int .i64 0, .bool false, .bool false, .bool false, .bool false, .bool false] #[.int .i64 x0, .int .i64 x1, .int .i64 x2, .bool x3, .bool x4, .bool x5, .bool x6, .bool x7] #[.int .i64 x0, .int .i64 x1, .int .i64 x2, .bool x3, .bool x4, .bool x5, .bool x6, .bool x7] rfl rfl E4.out (by kernel_rfl) (by simp) rfl rfl ?_
    intro V00 kV00 oV00
    simp only [Act.put]
    have HKV00 : Hid (Ext w V00 ∧ V00.heap[gx]? = some (.cells #[.int .i64 x0, .int .i64 x1, .int .i64 x2, .bool x3, .bool x4, .bool x5, .bool x6, .bool x7] 66 (0, 0)) ∧ V00.heap[gy]? = some (.cells #[.int .i64 y0, .int .i64 y1, .int .i64 y2, .bool y3, .bool y4, .bool y5, .bool y6, .bool y7] 66 (0, 0))) := Lib.hid ⟨ext_off HK1.out.1 oV00 (fun b hb => by omega), oV00.blk HK1.out.2.1 (by have := HS0.out; omega), oV00.blk HK1.out.2.2 (by have := HS0.out; omega)⟩
    replace E5 := Lib.hid (oV00.blk E5.out (by omega))
    replace E4 := Lib.hid kV00
    clear kV00 oV00
    refine xone 14 (hk := HKV00.out) (h := RunX.of 14 (h := ?_))
    refine wp_st 66 (.tmp 5) (.tmp 59) rfl (w.heap.size + 3) 0 66 #[.int .i64 0, .int .i64 0, .int .i64 0, .bool false, .bool false, .bool false, .bool false, .bool false] #[.int .i64 y0, .int .i64 y1, .int .i64 y2, .bool y3, .bool y4, .bool y5, .bool y6, .bool y7] #[.int .i64 y0, .int .i64 y1, .int .i64 y2, .bool y3, .bool y4, .bool y5, .bool y6, .bool y7] rfl rfl E5.out (by kernel_rfl) (by simp) rfl rfl ?_
    intro V01 kV01 oV01
    simp only [Act.put]
    have HKV01 : Hid (Ext w V01 ∧ V01.heap[gx]? = some (.cells #[.int .i64 x0, .int .i64 x1, .int .i64 x2, .bool x3, .bool x4, .bool x5, .bool x6, .bool x7] 66 (0, 0)) ∧ V01.heap[gy]? = some (.cells #[.int .i64 y0, .int .i64 y1, .int .i64 y2, .bool y3, .bool y4, .bool y5, .bool y6, .bool y7] 66 (0, 0))) := Lib.hid ⟨ext_off HKV00.out.1 oV01 (fun b hb => by omega), oV01.blk HKV00.out.2.1 (by have := HS0.out; omega), oV01.blk HKV00.out.2.2 (by have := HS0.out; omega)⟩
    replace E4 := Lib.hid (oV01.blk E4.out (by omega))
    replace E5 := Lib.hid kV01
    clear kV01 oV01
    refine xtv 15 (h := ?_)
    (refine xdone (by kernel_rfl) (HKV01.out) ?_)
    go_wp2
    exact bodyPost_ret (v := .tuple #[.agg #[.int .i64 x0, .int .i64 x1, .int .i64 x2, .bool x3, .bool x4, .bool x5, .bool x6, .bool x7], .agg #[.int .i64 y0, .int .i64 y1, .int .i64 y2, .bool y3, .bool y4, .bool y5, .bool y6, .bool y7], .bool true]) (res_cct 6 rfl rfl rfl E4.out E5.out uSide uSide (by kernel_rfl) (by kernel_rfl)) rfl ⟨rfl, HKV01.out.1⟩
end Go.Proofs.YtfbambemjokmgaaGreat
