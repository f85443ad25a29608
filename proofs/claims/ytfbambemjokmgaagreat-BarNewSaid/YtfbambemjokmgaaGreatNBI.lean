/- Texts of this seat. -/
import Derived.Test.YtfbambemjokmgaaGreatNBH
namespace Go.Proofs.YtfbambemjokmgaaGreat
open Go.RowKit
set_option maxRecDepth 100000 in
set_option maxHeartbeats 2000000 in
theorem tNew_bad (w : World) (N : Int) (v : Value) (E : List Edge) (h : Sl w v E) (ok : ¬ OkG N E) :
    Calls Tryz.prog 84 #[.agg #[.int .i64 N, v]] w (GivesS w (noS, 30)) := by
  obtain ⟨vo, vn, vc, rfl⟩ := h.sh
  obtain ⟨W0, hW0⟩ : ∃ W0, W0 = (w.alloc (.cells #[.int .i64 N, .slice vo vn vc] 53)).alloc (.cells #[.slice none 0 0, .slice none 0 0] 48) := ⟨_, rfl⟩
  have X0 : Hid (Ext w W0) := Lib.hid (hW0 ▸ ((Ext.refl w).alloc _).alloc _)
  have B0 : Hid (W0.heap[w.heap.size]? = some (.cells #[.int .i64 N, .slice vo vn vc] 53 (0, 0))) := Lib.hid (hW0 ▸ old1 (at0 w _) _)
  have R0 : Hid (W0.heap[w.heap.size + 1]? = some (.cells #[.slice none 0 0, .slice none 0 0] 48 (0, 0))) := Lib.hid (hW0 ▸ at1 w _ _)
  have HW0 := Lib.hid hW0
  have HC := Lib.hid (run_bad W0 N _ E (h.ext X0.out) ok)
  obtain ⟨k0, k1⟩ := cells2S B0.out
  clear h hW0 ok
  go_enter Tryz.func84, Tryz.ntmps84
  go_upto_region 1 with (fail)
  rw [← HW0.out]
  go_wp2_with (first
    | (go_at_call 130; refine HC.out.mono ?_; rintro e w1 ⟨v1, rfl, s1, hx⟩; obtain ⟨a1, n1, c1, rfl⟩ := s1.sh; have X1 := Lib.hid hx; clear hx s1)
    | refine haltst 48 ?_)
  refine .inl ?_
  refine st_l 48 (.tmp 2) (.tmp 16) (w.heap.size + 1) 0 48 _ #[.slice none 0 0, .slice none 0 0] _ rfl rfl (keepU R0.out X1.out) (by kernel_rfl) (by simp) rfl rfl ?_
  intro W9 hW9 o9
  simp only [Act.put]
  go_wp2
  exact bodyPost_ret (v := .tuple #[.agg #[.slice none 0 0, .slice none 0 0], .int .i64 30]) (res_ct 3 rfl rfl hW9 uScene (by kernel_rfl)) rfl (givesS_no rfl (ext_off (X0.out.trans X1.out) o9 (fun b hb => by omega)))
set_option maxRecDepth 100000 in
set_option maxHeartbeats 2000000 in
theorem tNew_ok (w : World) (N : Int) (v : Value) (E : List Edge) (h : Sl w v E) (ok : OkG N E) (K : Nat) (hK : Ends N E K) :
    Calls Tryz.prog 84 #[.agg #[.int .i64 N, v]] w (GivesS w ((tableL N E (itr N E K), []), 0)) := by
  obtain ⟨vo, vn, vc, rfl⟩ := h.sh
  obtain ⟨W0, hW0⟩ : ∃ W0, W0 = (w.alloc (.cells #[.int .i64 N, .slice vo vn vc] 53)).alloc (.cells #[.slice none 0 0, .slice none 0 0] 48) := ⟨_, rfl⟩
  have X0 : Hid (Ext w W0) := Lib.hid (hW0 ▸ ((Ext.refl w).alloc _).alloc _)
  have B0 : Hid (W0.heap[w.heap.size]? = some (.cells #[.int .i64 N, .slice vo vn vc] 53 (0, 0))) := Lib.hid (hW0 ▸ old1 (at0 w _) _)
  have R0 : Hid (W0.heap[w.heap.size + 1]? = some (.cells #[.slice none 0 0, .slice none 0 0] 48 (0, 0))) := Lib.hid (hW0 ▸ at1 w _ _)
  have HW0 := Lib.hid hW0
  have HS := Lib.hid (h.ext X0.out)
  have HC := Lib.hid (run_ok W0 N _ E (h.ext X0.out) ok K hK)
  have HP : Hid (placeR N E (itr N E K) = 0) := Lib.hid (by unfold placeR; rw [okG_iff.2 ok, hK.right ok]; rfl)
  obtain ⟨T, hT⟩ : ∃ T, tableL N E (itr N E K) = T := ⟨_, rfl⟩
  have HT : Hid ((if (0 : Int) = 0 then tableL N E (itr N E K) else []) = T) := Lib.hid (by rw [if_pos rfl, hT])
  have HTT := Lib.hid hT
  obtain ⟨k0, k1⟩ := cells2S B0.out
  clear h hW0 ok hT
  go_enter Tryz.func84, Tryz.ntmps84
  go_upto_region 1 with (fail)
  rw [← HW0.out]
  go_wp2_with (first
    | (go_at_call 130; refine HC.out.mono ?_; rintro e w1 ⟨v1, rfl, s1, hx⟩; obtain ⟨a1, n1, c1, rfl⟩ := s1.sh; have X1 := Lib.hid hx; have S1 := Lib.hid s1; obtain ⟨j0, j1⟩ := cells2S (keepU B0.out hx); clear hx s1)
    | (go_at_call 131; refine (pTable_any w1 N _ _ E (itr N E K) (HS.out.ext X1.out) S1.out 0 HP.out T HT.out).mono ?_; rintro e w2 ⟨v2, rfl, s2, hx⟩; obtain ⟨a2, c2, rfl⟩ := s2.len; have X2 := Lib.hid (X1.out.trans hx); have S2 := Lib.hid s2; clear hx s2)
    | refine haltst 48 ?_)
  refine .inl ?_
  have RC := Lib.hid (keepU R0.out X2.out)
  refine st_l 48 (.tmp 2) (.tmp 25) (w.heap.size + 1) 0 48 _ #[.slice a2 T.length c2, .slice none 0 0] _ rfl rfl RC.out (by kernel_rfl) (by simp) rfl rfl ?_
  intro W9 hW9 o9
  simp only [Act.put]
  go_wp2
  exact bodyPost_ret (v := .tuple #[.agg #[.slice a2 T.length c2, .slice none 0 0], .int .i64 0]) (res_ct 3 rfl rfl hW9 uScene (by kernel_rfl)) rfl (by
    rw [HTT.out]
    exact ⟨_, _, rfl, (SV.mk S2.out (slNoneU _)).off RC.out o9, ext_off (X0.out.trans X2.out) o9 (fun b hb => by omega)⟩)
end Go.Proofs.YtfbambemjokmgaaGreat
namespace Go.Proofs.YtfbambemjokmgaaGreat
open Go.RowKit
set_option maxRecDepth 100000 in
set_option maxHeartbeats 2000000 in
theorem clone_ml (w : World) (v : Value) (L : List Ml) (h : Sl w v L) (hl : L.length ≤ 1000) :
    Calls Tryz.prog 73 #[v] w fun e w' => ∃ v', e = .returned v' ∧ Ow w' w.heap.size v' L ∧ Ext w w' := by
  have h0 := h
  obtain ⟨_, ao, c, rfl, h2, h3, h4, h5⟩ := h0
  cases ao with
  | none =>
    obtain rfl := h4 rfl
    have hL : L = [] := List.eq_nil_of_length_eq_zero (by omega)
    subst hL
    clear h h2 h3 h4 h5
    dsimp only [List.length_nil]
    have q := fun w => Lib.run_eql_slice_nil (P := Tryz.prog) w _ _ none 0 0 0 0 (Elem.row (α := Ml))
    change ∀ w, (binOp .eql 23 (.slice none 0 0) (.slice none 0 0)).run Tryz.prog w = .ok (.bool true) w at q
    go_enter Tryz.func73, Tryz.ntmps73
    go_wp2
    go_ret
    exact ⟨_, rfl, Ow.nil _ _, Ext.refl _⟩
  | some a =>
    have HS := Lib.hid h
    clear h h2 h3 h4 h5
    have q := fun w => Lib.run_eql_slice_nil (P := Tryz.prog) w _ _ (some a) L.length c 0 0 (Elem.row (α := Ml))
    change ∀ w, (binOp .eql 23 (.slice (some a) L.length c) (.slice none 0 0)).run Tryz.prog w = .ok (.bool false) w at q
    go_enter Tryz.func73, Tryz.ntmps73
    go_wp2_with (first
      | (at_builtin; refine wpList_append_sl (α := Ml) rfl (.tmp 5) (.tmp 6) rfl w.heap.size (.slice (some ⟨_, 0, none⟩) 0 0) [] rfl ?_ _ L rfl ?_ ?_ ?_ ?_; exact (Ow.litAt w _ _ rfl (Nat.le_refl _) [] (by simp)); exact (HS.out.alloc _); (first | omega | (simp; omega)); exact (by rw [size_alloc]; omega); intro v6 W6 ho6 ha6; obtain ⟨a6, n6, c6, rfl⟩ := ho6.sh; have O6 : Hid (Ow W6 w.heap.size (.slice a6 n6 c6) L) := Lib.hid ho6; have X6 : Hid (Ext w W6) := Lib.hid (Below.trans (Ext.alloc (Ext.refl w) _) ha6.below); clear ho6 ha6))
    go_ret
    exact ⟨_, rfl, O6.out, X6.out⟩
theorem Nw.putSides {w : World} {B k b off n c : Nat} {L : List Dn} {d : Dn} {ua : Option Addr} {un uc : Nat} (h : Nw DV Non w B (.slice (some ⟨b, off, none⟩) n c) L) (hk : L[k]? = some d) (hs : Sa (Own1 Non (.slice (some ⟨b, off, none⟩) n c)) w (.slice ua un uc) d.sides) :
    B ≤ b ∧ w.frozen? ⟨b, off + k * 3 + 2, none⟩ = false ∧ Nw DV Non (w.setCell ⟨b, off + k * 3 + 2, none⟩ (.slice ua un uc)) B (.slice (some ⟨b, off, none⟩) n c) L := by
  obtain ⟨xs, h1, h2, h3⟩ := h.any
  have hkL := (List.getElem?_eq_some_iff.1 hk).1
  obtain ⟨z, hx⟩ : ∃ z, xs[k]? = some z := ⟨_, List.getElem?_eq_getElem (by omega)⟩
  obtain ⟨q1, q2, q3, q4⟩ := Ow.setCell1 (i := 2) (x' := ⟨z.id, z.phase, ua, un, uc⟩) (u := .slice ua un uc) h1 hx (by decide) rfl
  refine ⟨q2, q3, ⟨_, q4, by rw [List.length_set, h2], fun j y e hy he => ?_⟩⟩
  have o' : Off (Own1 Non (.slice (some ⟨b, off, none⟩) n c)) w (w.setCell ⟨b, off + k * 3 + 2, none⟩ (.slice ua un uc)) := (off_set w ⟨b, off + k * 3 + 2, none⟩ _).mono fun g hg => .inr (by rw [hg]; rfl)
  by_cases e1 : k = j
  · subst e1
    rw [List.getElem?_set, if_pos rfl, if_pos (by omega)] at hy
    simp only [Option.some.injEq] at hy
    have he2 := hk.symm.trans he
    simp only [Option.some.injEq] at he2
    subst hy he2
    obtain ⟨e2, e3, _⟩ : RdD _ w _ d := h3 k _ _ hx hk
    exact Nest.off (show Nest.rd (Own1 Non (.slice (some ⟨b, off, none⟩) n c)) w (⟨z.id, z.phase, ua, un, uc⟩ : DV) d from (⟨e2, e3, hs⟩ : RdD (Own1 Non (.slice (some ⟨b, off, none⟩) n c)) w (⟨z.id, z.phase, ua, un, uc⟩ : DV) d)) o' (Grows.refl _ _)
  · rw [List.getElem?_set, if_neg e1] at hy
    exact Nest.off (h3 j y e hy he) o' (Grows.refl _ _)
set_option maxRecDepth 100000 in
set_option maxHeartbeats 4000000 in
theorem sceneB_any (w : World) (vk vm : Value) (L : List Dk) (M : List Ml) (h : BV w vk vm L M) (hl : SmB L M) :
    Calls Tryz.prog 26 #[.agg #[vk, vm]] w fun e w' => ∃ vd vm', e = .returned (.agg #[vd, vm']) ∧ SV w' vd vm' (sceneK L) M ∧ Ext w w' := by
  obtain ⟨ao, c, bo, d, rfl, rfl⟩ := h.len
  obtain ⟨W0, hW0⟩ : ∃ W0, W0 = (w.alloc (.cells #[.slice ao L.length c, .slice bo M.length d] 25)).alloc (.cells #[.slice none 0 0, .slice none 0 0] 48) := ⟨_, rfl⟩
  have X0 : Hid (Ext w W0) := Lib.hid (hW0 ▸ ((Ext.refl w).alloc _).alloc _)
  have B0 : Hid (W0.heap[w.heap.size]? = some (.cells #[.slice ao L.length c, .slice bo M.length d] 25 (0, 0))) := Lib.hid (hW0 ▸ old1 (at0 w _) _)
  have R0 : Hid (W0.heap[w.heap.size + 1]? = some (.cells #[.slice none 0 0, .slice none 0 0] 48 (0, 0))) := Lib.hid (hW0 ▸ at1 w _ _)
  have HS0 : Hid (W0.heap.size = w.heap.size + 2) := Lib.hid (by rw [hW0, size_alloc, size_alloc])
  have HW0 := Lib.hid hW0
  have HV := Lib.hid (h.ext X0.out)
  have HL := Lib.hid hl
  have hn := hl.n
  have hms := hl.m
  obtain ⟨k0, k1⟩ := cells2S B0.out
  clear h hl hW0
  go_enter Tryz.func26, Tryz.ntmps26
  go_upto_region 1 with (fail)
  rw [← HW0.out]
  go_upto_region 2 with (first
    | (go_at_call 60; refine (diners_any W0 _ _ L M HV.out (by omega)).mono ?_; rintro e w1 ⟨a1, c1, rfl, o1, x1⟩; have O1 := Lib.hid o1; have X1 := Lib.hid x1; clear o1 x1))
  go_wp2
  go_loopw [10] (fun i wr => ∃ k : Nat, k ≤ L.length ∧ i = .int .i64 k ∧ Hid (Nw DV Non wr W0.heap.size (.slice a1 L.length c1) (L.map Dk.dn)) ∧ Hid (Ext W0 wr)) (fun i _ => L.length - (intOf i).toNat)
  case atStart => exact ⟨0, Nat.zero_le _, rfl, O1, X1⟩
  case round =>
    obtain ⟨k, hk, rfl, HQ, HX⟩ := hrel
    have hwr : W0.heap.size ≤ wr.heap.size := Below.size HX.out
    by_cases hlt : k < L.length
    · obtain ⟨b2, off2, so2, sc2, dd, hyk, hao2, hn2, hnc2, hc632, hb2, hsl2, hcell2⟩ := (HQ.out.ns (G := Non) (fun k hk => hk) (fun k hk => hk.elim)).dinerAt (k := k) (by rw [List.length_map]; exact hlt)
      subst hao2
      obtain ⟨W5, hW5⟩ : ∃ W5, W5 = wr.alloc (.cells #[.int .i64 dd.id, .int .i64 dd.phase, .slice so2 dd.sides.length sc2] 61) := ⟨_, rfl⟩
      have X5 : Hid (Ext wr W5) := Lib.hid (hW5 ▸ (Ext.refl wr).alloc _)
      have G5 : Hid (W5.heap[wr.heap.size]? = some (.cells #[.int .i64 dd.id, .int .i64 dd.phase, .slice so2 dd.sides.length sc2] 61 (0, 0))) := Lib.hid (hW5 ▸ at0 wr _)
      have HZ5 : Hid (W5.heap.size = wr.heap.size + 1) := Lib.hid (by rw [hW5, size_alloc])
      have HSL := Lib.hid (hsl2.sl.ext X5.out)
      have HYK := Lib.hid hyk
      have HC2 := Lib.hid hcell2
      have hdl : dd.sides.length ≤ 100 := by
        obtain ⟨y, hy1, hy2⟩ := List.mem_map.1 (List.mem_of_getElem? hyk)
        have := HL.out.s y hy1
        rw [← hy2]; exact this
      have hlow : ∀ b, (Value.slice (some ⟨b2, off2, none⟩) L.length c1).ownBlock = some b → b < wr.heap.size := fun b hb => by
        obtain ⟨xs, how, _, _⟩ := HQ.out.any
        exact (how.low b hb).2
      have HLOW := Lib.hid hlow
      obtain ⟨a0, a1', a2⟩ := hcell2 wr (Ext.refl _)
      have hk2 : (k : Int) < (L.length : Int) := by omega
      clear hcell2 hyk hn2 hsl2 hlow
      obtain ⟨d0, d1, d2⟩ := dd
      dsimp only at a0 a1' a2 HSL hdl HC2 hW5 G5
      have HW5 := Lib.hid hW5
      clear hW5
      go_upto_region 5 with (fail)
      rw [← HW5.out]
      clear a0 a1' a2
      obtain ⟨g0, g1, g2⟩ := cells3U G5.out
      have HCL := Lib.hid (clone_sd W5 _ d2 HSL.out (by omega))
      go_wp2_with (first
        | (go_at_call 72; refine HCL.out.mono ?_; rintro e w3 ⟨v3, rfl, o3, x3⟩; obtain ⟨a3, n3, c3, rfl⟩ := o3.sh; have O3 := Lib.hid o3; have X3 := Lib.hid (X5.out.trans x3); obtain ⟨e0, e1, e2⟩ := HC2.out w3 X3.out; obtain ⟨hp1, hp2, hp3⟩ := Nw.putSides (ua := a3) (un := n3) (uc := c3) (HQ.out.ext X3.out) HYK.out (Sa.new o3 (fun g hg => by rcases hg with hg | hg; (exact hg.elim); (have := HLOW.out g hg; have := HZ5.out; omega))); have HP3 := Lib.hid hp3; have HP1 := Lib.hid hp1; clear o3 x3 hp3 hp1))
      go_roundw
      case rel => exact ⟨k + 1, by omega, by go_num, HP3, Lib.hid (below_set (Ext.trans HX.out X3.out) HP1.out _)⟩
      case measure => simp [intOf]; omega
    · have XW : Hid (Ext w wr) := Lib.hid (X0.out.trans HX.out)
      have S1 := Lib.hid (HQ.out.ns (G := Non) (fun k hk => hk) (fun k hk => hk.elim))
      have HMS := Lib.hid (HV.out.ms.ext HX.out)
      obtain ⟨j0, j1⟩ := cells2S (keepU B0.out HX.out)
      have HCM := Lib.hid (clone_ml wr _ M HMS.out hms)
      clear HQ k0 k1
      go_wp2_with (first
        | (go_at_call 73; refine HCM.out.mono ?_; rintro e w3 ⟨v3, rfl, o3, x3⟩; obtain ⟨a3, n3, c3, rfl⟩ := o3.sh; have S3 := Lib.hid o3.sl; have X3 := Lib.hid x3; clear o3 x3)
        | refine haltst 48 ?_)
      refine .inl ?_
      have RC := Lib.hid (keepU R0.out (HX.out.trans X3.out))
      refine st_l 48 (.tmp 2) (.tmp 27) (w.heap.size + 1) 0 48 _ #[.slice a1 L.length c1, .slice a3 n3 c3] _ rfl rfl RC.out (by kernel_rfl) (by simp) rfl rfl ?_
      intro W9 hW9 o9
      simp only [Act.put]
      go_wp2
      exact bodyPost_ret (v := .agg #[.slice a1 L.length c1, .slice a3 n3 c3]) (res_c rfl rfl hW9 uScene (by kernel_rfl)) rfl ⟨_, _, rfl, (SV.mk (S1.out.ext X3.out) S3.out).off RC.out o9, ext_off (XW.out.trans X3.out) o9 (fun b hb => by omega)⟩
set_option maxRecDepth 100000 in
set_option maxHeartbeats 2000000 in
theorem bNew_bad (w : World) (N : Int) (v : Value) (E : List Edge) (h : Sl w v E) (ok : ¬ OkG N E) :
    Calls Tryz.prog 43 #[.agg #[.int .i64 N, v]] w (GivesBar w (noB, 30)) := by
  obtain ⟨vo, vn, vc, rfl⟩ := h.sh
  obtain ⟨W0, hW0⟩ : ∃ W0, W0 = (w.alloc (.cells #[.int .i64 N, .slice vo vn vc] 53)).alloc (.cells #[.slice none 0 0, .slice none 0 0] 25) := ⟨_, rfl⟩
  have X0 : Hid (Ext w W0) := Lib.hid (hW0 ▸ ((Ext.refl w).alloc _).alloc _)
  have B0 : Hid (W0.heap[w.heap.size]? = some (.cells #[.int .i64 N, .slice vo vn vc] 53 (0, 0))) := Lib.hid (hW0 ▸ old1 (at0 w _) _)
  have R0 : Hid (W0.heap[w.heap.size + 1]? = some (.cells #[.slice none 0 0, .slice none 0 0] 25 (0, 0))) := Lib.hid (hW0 ▸ at1 w _ _)
  have HW0 := Lib.hid hW0
  have HC := Lib.hid (tNew_bad W0 N _ E (h.ext X0.out) ok)
  obtain ⟨k0, k1⟩ := cells2S B0.out
  clear h hW0 ok
  go_enter Tryz.func43, Tryz.ntmps43
  go_upto_region 1 with (fail)
  rw [← HW0.out]
  go_wp2_with (first
    | (go_at_call 84; refine HC.out.mono ?_; rintro e w1 ⟨vd, vm, rfl, sv, hx⟩; dsimp only [noS] at sv ⊢; obtain ⟨a1, n1, c1, a2, n2, c2, rfl, rfl⟩ := sv.sh; have X1 := Lib.hid hx; clear hx sv)
    | refine haltst 48 ?_)
  refine .inl ?_
  refine st_l 48 (.tmp 4) (.tmp 12) w1.heap.size 0 48 #[.slice none 0 0, .slice none 0 0] #[.slice a1 n1 c1, .slice a2 n2 c2] _ rfl rfl (at0 w1 _) (by kernel_rfl) (by simp) rfl rfl ?_
  intro W2 hW2 o2
  simp only [Act.put]
  have hz1 := Below.size X1.out
  have hz0 := blk_lt R0.out
  have X2 : Hid (Ext W0 W2) := Lib.hid (ext_off (X1.out.alloc _) o2 (fun b hb => by omega))
  have HZ := Lib.hid hz0
  clear hW2 o2 hz1 hz0 k0 k1
  go_wp2_with (first | refine haltst 25 ?_)
  refine .inl ?_
  refine st_l 25 (.tmp 2) (.tmp 16) (w.heap.size + 1) 0 25 _ #[.slice none 0 0, .slice none 0 0] _ rfl rfl (keepU R0.out X2.out) (by kernel_rfl) (by simp) rfl rfl ?_
  intro W9 hW9 o9
  simp only [Act.put]
  go_wp2
  exact bodyPost_ret (v := .tuple #[.agg #[.slice none 0 0, .slice none 0 0], .int .i64 30]) (res_ct 3 rfl rfl hW9 uBar (by kernel_rfl)) rfl (givesBar_no rfl (ext_off (X0.out.trans X2.out) o9 (fun b hb => by omega)))
theorem firstB_len (D : List Dn) : (firstB D).length = D.length := by unfold firstB; rw [List.length_map]
theorem firstB_next {D : List Dn} {k : Nat} {d : Dn} (h : D[k]? = some d) : (firstB D).take (k + 1) = (firstB D).take k ++ [⟨d.id, d.phase, d.sides, 0, []⟩] := by
  obtain ⟨hk, e⟩ := List.getElem?_eq_some_iff.1 h
  rw [List.take_succ_eq_append_getElem (by rw [firstB_len]; exact hk)]
  simp [firstB, e]
set_option maxRecDepth 100000 in
set_option maxHeartbeats 4000000 in
theorem bNew_ok (w : World) (N : Int) (v : Value) (E : List Edge) (h : Sl w v E) (ok : OkG N E) (K : Nat) (hK : Ends N E K) :
    Calls Tryz.prog 43 #[.agg #[.int .i64 N, v]] w (GivesBar w ((firstB (tableL N E (itr N E K)), []), 0)) := by
  obtain ⟨vo, vn, vc, rfl⟩ := h.sh
  obtain ⟨W0, hW0⟩ : ∃ W0, W0 = (w.alloc (.cells #[.int .i64 N, .slice vo vn vc] 53)).alloc (.cells #[.slice none 0 0, .slice none 0 0] 25) := ⟨_, rfl⟩
  have X0 : Hid (Ext w W0) := Lib.hid (hW0 ▸ ((Ext.refl w).alloc _).alloc _)
  have B0 : Hid (W0.heap[w.heap.size]? = some (.cells #[.int .i64 N, .slice vo vn vc] 53 (0, 0))) := Lib.hid (hW0 ▸ old1 (at0 w _) _)
  have R0 : Hid (W0.heap[w.heap.size + 1]? = some (.cells #[.slice none 0 0, .slice none 0 0] 25 (0, 0))) := Lib.hid (hW0 ▸ at1 w _ _)
  have HW0 := Lib.hid hW0
  have HC := Lib.hid (tNew_ok W0 N _ E (h.ext X0.out) ok K hK)
  obtain ⟨D, hD⟩ : ∃ D, tableL N E (itr N E K) = D := ⟨_, rfl⟩
  have HDL : Hid (D.length ≤ 1000) := Lib.hid (by
    have h1 := (GoodBE.new (hK.right ok)).len
    rw [firstB_len, hD] at h1
    have := ok.n64
    omega)
  have HD := Lib.hid hD
  rw [hD] at HC ⊢
  obtain ⟨k0, k1⟩ := cells2S B0.out
  clear h hW0 ok hK hD
  go_enter Tryz.func43, Tryz.ntmps43
  go_upto_region 1 with (fail)
  rw [← HW0.out]
  go_wp2_with (first
    | (go_at_call 84; refine HC.out.mono ?_; rintro e w1 ⟨vd, vm, rfl, sv, hx⟩; dsimp only at sv ⊢; obtain ⟨a1, c1, a2, c2, e1, e2⟩ := sv.len; rw [show ([] : List Ml).length = 0 from rfl] at e2; subst e1 e2; have X1 := Lib.hid hx; have S1 := Lib.hid sv; clear hx sv)
    | refine haltst 48 ?_)
  refine .inl ?_
  refine st_l 48 (.tmp 4) (.tmp 12) w1.heap.size 0 48 #[.slice none 0 0, .slice none 0 0] #[.slice a1 D.length c1, .slice a2 0 c2] _ rfl rfl (at0 w1 _) (by kernel_rfl) (by simp) rfl rfl ?_
  intro W2 hW2 o2
  simp only [Act.put]
  have hz1 := Below.size X1.out
  have hz0 := blk_lt R0.out
  have X2 : Hid (Ext W0 W2) := Lib.hid (ext_off (X1.out.alloc _) o2 (fun b hb => by omega))
  have S2 := Lib.hid ((S1.out.ext ((Ext.refl _).alloc _)).off (at0 w1 _) o2)
  have B2 := Lib.hid hW2
  have HZ := Lib.hid hz0
  clear hW2 o2 hz1 hz0 k0 k1 S1
  obtain ⟨k0, k1⟩ := cells2S B2.out
  go_wp2
  go_loopw [6, 21] (fun q i wr => ∃ k : Nat, k ≤ D.length ∧ i = .int .i64 k ∧ Hid (Nw KV Non wr W2.heap.size q ((firstB D).take k)) ∧ Hid (Ext W2 wr)) (fun _ i _ => D.length - (intOf i).toNat)
  case atStart => exact ⟨0, Nat.zero_le _, rfl, Lib.hid (by rw [List.take_zero]; exact Nw.nil _ _ _), Lib.hid (Ext.refl _)⟩
  case round =>
    obtain ⟨k, hk, rfl, HQ, HX⟩ := hrel
    by_cases hlt : k < D.length
    · obtain ⟨b2, off2, so2, sc2, dd, hyk, hao2, hn2, hnc2, hc632, hb2, hsl2, hcell2⟩ := S2.out.ds.dinerAt hlt
      obtain ⟨a0, a1', a2'⟩ := hcell2 wr HX.out
      subst hao2
      have HSL := Lib.hid hsl2
      have HTK := Lib.hid (firstB_next hyk)
      obtain ⟨xs, hown, hxl, hel⟩ := HQ.out.any
      have HOW := Lib.hid hown
      have HXL := Lib.hid hxl
      have HEL := Lib.hid hel
      have hxs : xs.length ≤ 1000 := by rw [hxl, List.length_take]; have := HDL.out; omega
      clear hcell2 hyk hn2 hsl2 hown hxl hel
      obtain ⟨d0, d1, d2⟩ := dd
      dsimp only at a0 a1' a2' HSL HTK
      go_wp2_with (first
        | (at_builtin; refine wpList_append_sl (α := KV) rfl (.tmp 25) (.tmp 28) rfl W2.heap.size _ xs rfl ?_ (.slice (some ⟨_, 0, none⟩) 1 1) [(⟨d0, d1, so2, d2.length, sc2, 0, none, 0, 0⟩ : KV)] rfl ?_ ?_ ?_ ?_; exact ((HOW.out.alloc _).alloc _); exact (Sl.litAt _ _ (by simp) [(⟨d0, d1, so2, d2.length, sc2, 0, none, 0, 0⟩ : KV)] (show (1 : Nat) ≤ 1000000 by decide)); (first | omega | (simp; omega)); exact (by have := Below.size HX.out; first | omega | (rw [size_alloc, size_alloc]; omega)); intro v3 W3 ho3 ha3; have hx : Nest.rd (Own1 Non _) _ (⟨d0, d1, so2, d2.length, sc2, 0, none, 0, 0⟩ : KV) (⟨d0, d1, d2, 0, []⟩ : Dk) := (⟨rfl, rfl, Sa.old HSL.out ((HX.out.alloc (.cells #[.int .i64 d0, .int .i64 d1, .slice so2 d2.length sc2] 61)).alloc (.cells #[.int .i64 d0, .int .i64 d1, .slice so2 d2.length sc2, .int .i64 0, .slice none 0 0] 63)) (fun b hb => (HOW.out.low b hb).1), rfl, Sa.nil _ _⟩ : RdK _ _ _ _); have hst := Nw.step (α := KV) (δ := Dk) (F := Non) (L := (firstB D).take k) HXL.out (fun j x e hx he => Nest.ext (HEL.out j x e hx he) (Ext.alloc (Ext.alloc (Ext.refl _) _) _)) hx ho3 ha3; have HST := Lib.hid hst; have HX3 : Hid (Ext W2 W3) := Lib.hid (Below.trans (HX.out.trans (Ext.alloc (Ext.alloc (Ext.refl _) _) _)) (ha3.below.mono (Nat.le_refl _))); clear ho3 ha3 hx hst))
      go_roundw
      case rel => exact ⟨k + 1, by omega, by go_num, Lib.hid (by rw [HTK.out]; exact HST.out), HX3⟩
      case measure => simp [intOf]; omega
    · have hkl : k = D.length := by omega
      have hq := HQ.out
      rw [hkl, ← firstB_len, List.take_length] at hq
      have HQ' := Lib.hid (hq.ns (G := Non) (fun k hk => hk) (fun k hk => hk.elim))
      clear hq HQ hkl
      obtain ⟨la, lc, rfl⟩ := HQ'.out.len
      rw [firstB_len] at HQ' ⊢
      have X3 : Hid (Ext W0 wr) := Lib.hid (X2.out.trans HX.out)
      have RC := Lib.hid (keepU R0.out X3.out)
      obtain ⟨j0, j1⟩ := cells2S (keepU B2.out HX.out)
      have HM : Hid (Sl wr (.slice a2 0 c2) ([] : List Ml)) := Lib.hid (S2.out.ms.ext HX.out)
      clear k0 k1
      go_wp2_with (first | refine haltst 25 ?_)
      refine .inl ?_
      refine st_l 25 (.tmp 2) (.tmp 34) (w.heap.size + 1) 0 25 _ #[.slice la D.length lc, .slice a2 0 c2] _ rfl rfl RC.out (by kernel_rfl) (by simp) rfl rfl ?_
      intro W9 hW9 o9
      simp only [Act.put]
      go_wp2
      exact bodyPost_ret (v := .tuple #[.agg #[.slice la D.length lc, .slice a2 0 c2], .int .i64 0]) (res_ct 3 rfl rfl hW9 uBar (by kernel_rfl)) rfl ⟨_, _, rfl, (BV.mk HQ'.out HM.out).off RC.out o9, ext_off (X0.out.trans X3.out) o9 (fun b hb => by omega)⟩
end Go.Proofs.YtfbambemjokmgaaGreat
