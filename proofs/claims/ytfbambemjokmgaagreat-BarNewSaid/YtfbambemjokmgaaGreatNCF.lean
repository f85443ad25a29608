/- Texts of this seat. -/
import Derived.Test.YtfbambemjokmgaaGreatNAC
import Derived.Test.YtfbambemjokmgaaGreatNAZ
import Derived.Test.YtfbambemjokmgaaGreatNBS
import Derived.Test.YtfbambemjokmgaaGreatNBU
import Derived.Test.YtfbambemjokmgaaGreatNCE
namespace Go.Proofs.YtfbambemjokmgaaGreat
open Go.RowKit
theorem who_first (N : Int) (E : List Edge) (c : List Int) : (whoK (firstB (tableL N E c)) 0).length = N.toNat := by
  unfold whoK
  rw [List.length_map, List.filter_eq_self.2, firstB_len, tableL_length]
  intro d hd
  unfold firstB at hd
  obtain ⟨i, _, rfl⟩ := List.mem_map.1 hd
  rfl
theorem firstB_sm {N : Int} {E : List Edge} {c : List Int} (ok : OkG N E) (h : rightB N E c = true) : SmB (firstB (tableL N E c)) [] := by
  have q := (GoodE.new h).sm ok
  refine ⟨by rw [firstB_len]; exact q.n, fun d hd => ?_, fun d hd => ?_, Nat.zero_le _⟩ <;> unfold firstB at hd <;> obtain ⟨x, hx, rfl⟩ := List.mem_map.1 hd
  · exact q.s x hx
  · exact Nat.zero_le _
set_option maxRecDepth 100000 in
set_option maxHeartbeats 16000000 in
theorem barNew_any (w : World) (N : Int) (o0 : Option Addr) (c0 : Nat) (E : List Edge) (h : Sl w (.slice o0 E.length c0) E) :
    Calls Tryz.prog 9 #[.agg #[.int .i64 N, .slice o0 E.length c0]] w fun e w' => e = .returned (.bool true) ∧ Below w.heap.size w w' := by
  obtain ⟨W0, hW0⟩ : ∃ W0, W0 = w.alloc (.cells #[.int .i64 N, .slice o0 E.length c0] 53) := ⟨_, rfl⟩
  have X0 : Hid (Ext w W0) := Lib.hid (hW0 ▸ (Ext.refl w).alloc _)
  have B0 : Hid (W0.heap[w.heap.size]? = some (.cells #[.int .i64 N, .slice o0 E.length c0] 53 (0, 0))) := Lib.hid (hW0 ▸ at0 w _)
  have HW0 := Lib.hid hW0
  have HE := Lib.hid (h.ext X0.out)
  have HGC : Hid (∀ V, Ext W0 V → V.cell? ⟨w.heap.size, 0, none⟩ = some (.int .i64 N) ∧ V.cell? ⟨w.heap.size, 1, none⟩ = some (.slice o0 E.length c0)) := Lib.hid fun V hV => cells2S (keepU B0.out hV)
  have hll := h.length_le
  clear h hW0
  go_enter Tryz.func9, Tryz.ntmps9
  go_upto_region 1 with (fail)
  rw [← HW0.out]
  by_cases h60 : (60 : Int) < (E.length : Int)
  · go_wp2_with (first
      | (have hgd := X1; go_at_call 11; refine (awakeB_any _).mono ?_; rintro e w3 ⟨rfl, hx⟩; have X3 := Lib.hid (X1.out.trans hx); clear hx)
      | (go_at_call 11; refine (awakeB_any _).mono ?_; rintro e w1 ⟨rfl, hx⟩; have X1 := Lib.hid hx; obtain ⟨k0, k1⟩ := HGC.out w1 hx; clear hx))
    go_ret
    exact ⟨rfl, X0.out.trans X3.out⟩
  by_cases h24 : (24 : Int) < N
  · go_wp2_with (first
      | (have hgd := X1; go_at_call 11; refine (awakeB_any _).mono ?_; rintro e w3 ⟨rfl, hx⟩; have X3 := Lib.hid (X1.out.trans hx); clear hx)
      | (go_at_call 11; refine (awakeB_any _).mono ?_; rintro e w1 ⟨rfl, hx⟩; have X1 := Lib.hid hx; obtain ⟨k0, k1⟩ := HGC.out w1 hx; clear hx))
    go_ret
    exact ⟨rfl, X0.out.trans X3.out⟩
  cases hok : okG N E
  · have HCK := Lib.hid hok
    have HNO : Hid (¬ OkG N E) := Lib.hid fun h => by rw [okG_iff.2 h] at hok; cases hok
    clear hok
    go_wp2_with (first
      | (go_at_call 11; refine (awakeB_any _).mono ?_; rintro e w1 ⟨rfl, hx⟩; have X1 := Lib.hid hx; obtain ⟨k0, k1⟩ := HGC.out w1 hx; clear hx)
      | (go_at_call 44; refine (own_any w1 N _ E (HE.out.ext X1.out) (by omega)).mono ?_; rintro e w2 ⟨v1, rfl, s1, hx⟩; obtain ⟨go_, gn, gc, rfl⟩ := s1.sh; have S2 := Lib.hid s1; have X2 := Lib.hid (X1.out.trans hx); clear s1 hx)
      | (go_at_call 43; refine (bNew_bad w2 N _ E S2.out HNO.out).mono ?_; rintro e w3 ⟨vd, vm, rfl, sv, hx⟩; dsimp only [noB] at sv ⊢; obtain ⟨a3, n3, c3, b3, m3, d3, rfl, rfl⟩ := sv.sh; have V3 := Lib.hid sv; have X3 := Lib.hid (X2.out.trans hx); clear sv hx)
      | refine haltst 25 ?_)
    refine .inl ?_
    obtain ⟨g3, hg3⟩ : ∃ g, g = w3.heap.size := ⟨_, rfl⟩
    have hgw : W0.heap.size ≤ g3 := hg3 ▸ Below.size X3.out
    have G3 := Lib.hid (at0 w3 (.cells #[.slice none 0 0, .slice none 0 0] 25))
    rw [← hg3] at G3 ⊢
    replace hg3 := Lib.hid hg3
    refine st_l 25 (.tmp 3) (.tmp 23) g3 0 25 _ #[.slice a3 n3 c3, .slice b3 m3 d3] _ rfl rfl G3.out (by kernel_rfl) (by simp) rfl rfl ?_
    intro W4 hW4 o4
    simp only [Act.put]
    have X4 : Hid (Ext W0 W4) := Lib.hid (ext_off (X3.out.alloc _) o4 (fun b hb => by omega))
    have V4 := Lib.hid ((V3.out.ext ((Ext.refl _).alloc _)).off G3.out o4)
    have B4 := Lib.hid hW4
    obtain ⟨j0, j1⟩ := HGC.out W4 X4.out
    clear hW4 o4 k0 k1
    go_wp2_with (first
      | (go_at_call 45; refine (refCheck_val W4 N _ E (HE.out.ext X4.out) false HCK.out).mono ?_; rintro e w5 ⟨rfl, hx⟩; have X5 := Lib.hid hx; obtain ⟨i0, i1⟩ := cells2S (keepU B4.out hx); clear hx)
      | (go_at_call 16; refine (refSameB_any w5 _ _ _ _ [] [] [] [] (V4.out.ext X5.out) (BV.nil _) true (by simp)).mono ?_; rintro e w6 ⟨rfl, hx⟩; have X6 := Lib.hid (X4.out.trans (X5.out.trans hx)); clear hx))
    go_ret
    exact ⟨rfl, X0.out.trans X6.out⟩
  · have HCK := Lib.hid hok
    have ok := okG_iff.1 hok
    obtain ⟨K, hK⟩ := ends_some ok
    have HOK := Lib.hid ok
    have HK := Lib.hid hK
    have HGD : Hid (GoodBE N E (firstB (tableL N E (itr N E K))) []) := Lib.hid (GoodBE.new (hK.right ok))
    have HSM : Hid (SmB (firstB (tableL N E (itr N E K))) []) := Lib.hid (firstB_sm ok (hK.right ok))
    have HCH := Lib.hid (HGD.out.chk ok)
    have HPL := Lib.hid (who_first N E (itr N E K))
    have n0 := ok.n0
    obtain ⟨T, hT⟩ : ∃ T, T = firstB (tableL N E (itr N E K)) := ⟨_, rfl⟩
    have HTT := Lib.hid hT
    rw [← hT] at HGD HSM HCH HPL
    clear hok ok hK hT
    go_wp2_with (first
      | (go_at_call 11; refine (awakeB_any _).mono ?_; rintro e w1 ⟨rfl, hx⟩; have X1 := Lib.hid hx; obtain ⟨k0, k1⟩ := HGC.out w1 hx; clear hx)
      | (go_at_call 44; refine (own_any w1 N _ E (HE.out.ext X1.out) (by omega)).mono ?_; rintro e w2 ⟨v1, rfl, s1, hx⟩; obtain ⟨go_, gn, gc, rfl⟩ := s1.sh; have S2 := Lib.hid s1; have X2 := Lib.hid (X1.out.trans hx); clear s1 hx)
      | (go_at_call 43; refine (HTT.out ▸ bNew_ok w2 N _ E S2.out HOK.out K HK.out).mono ?_; rintro e w3 ⟨vd, vm, rfl, sv, hx⟩; dsimp only at sv ⊢; obtain ⟨a3, n3, c3, b3, m3, d3, rfl, rfl⟩ := sv.sh; have V3 := Lib.hid sv; have X3 := Lib.hid (X2.out.trans hx); clear sv hx)
      | refine haltst 25 ?_)
    refine .inl ?_
    obtain ⟨g3, hg3⟩ : ∃ g, g = w3.heap.size := ⟨_, rfl⟩
    have hgw : W0.heap.size ≤ g3 := hg3 ▸ Below.size X3.out
    have G3 := Lib.hid (at0 w3 (.cells #[.slice none 0 0, .slice none 0 0] 25))
    rw [← hg3] at G3 ⊢
    replace hg3 := Lib.hid hg3
    refine st_l 25 (.tmp 3) (.tmp 23) g3 0 25 _ #[.slice a3 n3 c3, .slice b3 m3 d3] _ rfl rfl G3.out (by kernel_rfl) (by simp) rfl rfl ?_
    intro W4 hW4 o4
    simp only [Act.put]
    have X4 : Hid (Ext W0 W4) := Lib.hid (ext_off (X3.out.alloc _) o4 (fun b hb => by omega))
    have V4 := Lib.hid ((V3.out.ext ((Ext.refl _).alloc _)).off G3.out o4)
    have B4 := Lib.hid hW4
    obtain ⟨j0, j1⟩ := HGC.out W4 X4.out
    clear hW4 o4 k0 k1
    go_upto_region 6 with (first
      | (go_at_call 45; refine (refCheck_val W4 N _ E (HE.out.ext X4.out) true HCK.out).mono ?_; rintro e w5 ⟨rfl, hx⟩; have X5 := Lib.hid (X4.out.trans hx); have V5 := Lib.hid (V4.out.ext hx); have B5 := Lib.hid (keepU B4.out hx); clear hx))
    go_wp2_with fail
    (refine wp_region_X_lit (K := fun V => Ext w5 V) (by kernel_rfl) (fun w1 hw1 => ?_))
    have Z1 := Lib.hid hw1
    clear hw1
    refine xtv 0 (hv := by intro w' hw'; obtain ⟨i0, i1⟩ := cells2S (keepU B5.out hw'); go_simp; first | done | with_reducible rfl) (h := ?_)
    refine xtv 1 (hv := by intro w' hw'; obtain ⟨i0, i1⟩ := HGC.out w' (X5.out.trans hw'); go_simp; first | done | with_reducible rfl) (h := ?_)
    refine xone 2 (hk := Z1.out) (h := RunX.of 2 (h := ?_))
    go_simp
    refine (HTT.out ▸ refNewB_any _ N _ E (HE.out.ext (X5.out.trans Z1.out)) HOK.out K HK.out).mono ?_
    rintro e6 w6 ⟨vd6, vm6, rfl, sv6, x6⟩
    obtain ⟨a6, n6, c6, b6, m6, d6, rfl, rfl⟩ := sv6.sh
    have S6 := Lib.hid sv6
    have Z6 : Hid (Ext w5 w6) := Lib.hid (Z1.out.trans x6)
    clear sv6 x6
    dsimp only
    (try (simp only [Act.put, List.setIfInBounds_toArray, List.set]))
    refine xone 3 (hk := Z6.out) (h := RunX.of 3 (h := ?_))
    go_simp
    refine (refSameB_any w6 _ _ _ _ T T [] [] (V5.out.ext Z6.out) S6.out true (by simp)).mono ?_
    rintro e7 w7 ⟨rfl, x7⟩
    have Z7 : Hid (Ext w5 w7) := Lib.hid (Z6.out.trans x7)
    clear x7
    dsimp only
    (try (simp only [Act.put, List.setIfInBounds_toArray, List.set]))
    refine xtv 4 (h := ?_)
    refine xtv 5 (h := ?_)
    refine xtv 6 (h := ?_)
    refine xtv 7 (h := ?_)
    refine xtv 8 (h := ?_)
    refine xtv 9 (hv := by intro w' hw'; obtain ⟨i0, i1⟩ := cells2S (keepU B5.out hw'); go_simp; first | done | with_reducible rfl) (h := ?_)
    refine xone 10 (hk := Z7.out) (h := RunX.of 10 (h := ?_))
    go_simp
    refine (ownB_any w7 _ _ T [] (V5.out.ext Z7.out) HSM.out).mono ?_
    rintro e8 w8 ⟨vd8, vm8, rfl, sv8, x8⟩
    obtain ⟨a8, n8, c8, b8, m8, d8, rfl, rfl⟩ := sv8.sh
    have S8 := Lib.hid sv8
    have Z8 : Hid (Ext w5 w8) := Lib.hid (Z7.out.trans x8)
    clear sv8 x8
    dsimp only
    (try (simp only [Act.put, List.setIfInBounds_toArray, List.set]))
    refine xone 11 (hk := Z8.out) (h := RunX.of 11 (h := ?_))
    go_simp
    refine (bCheck_any w8 _ _ T [] S8.out HSM.out true HCH.out).mono ?_
    rintro e9 w9 ⟨rfl, x9⟩
    have Z9 : Hid (Ext w5 w9) := Lib.hid (Z8.out.trans x9)
    clear x9
    dsimp only [cond]
    (try (simp only [Act.put, List.setIfInBounds_toArray, List.set]))
    refine xtv 12 (h := ?_)
    refine xtv 13 (h := ?_)
    refine xtv 14 (h := ?_)
    refine xtv 15 (hv := by intro w' hw'; obtain ⟨i0, i1⟩ := cells2S (keepU B5.out hw'); go_simp; first | done | with_reducible rfl) (h := ?_)
    refine xtv 18 (h := ?_)
    refine xtv 19 (hv := by intro w' hw'; obtain ⟨i0, i1⟩ := HGC.out w' (X5.out.trans hw'); go_simp; first | done | with_reducible rfl) (h := ?_)
    refine xone 16 (hk := Z9.out) (h := RunX.of 16 (h := ?_))
    go_simp
    refine (whoB_any w9 _ _ T [] (V5.out.ext Z9.out) (by have := HSM.out.n; omega) 0).mono ?_
    rintro ea wa ⟨va, rfl, oa, xa⟩
    obtain ⟨pa, pc, hva⟩ := oa.sl.len
    rw [HPL.out] at hva
    subst hva
    have Za : Hid (Ext w5 wa) := Lib.hid (Z9.out.trans xa)
    clear oa xa
    dsimp only
    (try (simp only [Act.put, List.setIfInBounds_toArray, List.set]))
    have hnn : ((N.toNat : Nat) : Int) = N := by omega
    have hnb : (((N.toNat : Nat) : Int) == N) = true := by rw [hnn]; simp
    refine xtv 17 (h := ?_)
    refine xtv 20 (hv := by intro w' hw'; have hz := hnb; go_simp; first | done | with_reducible rfl) (h := ?_)
    refine xtv 21 (h := ?_)
    refine xtv 22 (h := ?_)
    (refine xdone (by kernel_rfl) (Za.out) ?_)
    go_wp2
    go_ret
    exact ⟨rfl, X0.out.trans (X5.out.trans Za.out)⟩
end Go.Proofs.YtfbambemjokmgaaGreat
