/- Texts of this seat. -/
import Derived.Test.YtfbambemjokmgaaGreatNAK
import Derived.Test.YtfbambemjokmgaaGreatNAT
namespace Go.Proofs.YtfbambemjokmgaaGreat
open Go.RowKit
set_option maxRecDepth 100000 in
set_option maxHeartbeats 4000000 in
theorem refNewS_any (w : World) (N : Int) (v : Value) (E : List Edge) (h : Sl w v E) (ok : OkG N E) (K : Nat) (hK : Ends N E K) :
    Calls Tryz.prog 86 #[.agg #[.int .i64 N, v]] w fun e w' => ∃ vd vm, e = .returned (.agg #[vd, vm]) ∧ SV w' vd vm (tableL N E (itr N E K)) [] ∧ Ext w w' := by
  obtain ⟨vo, vn, vc, rfl⟩ := h.sh
  obtain ⟨W0, hW0⟩ : ∃ W0, W0 = (w.alloc (.cells #[.int .i64 N, .slice vo vn vc] 53)).alloc (.cells #[.slice none 0 0, .slice none 0 0] 48) := ⟨_, rfl⟩
  have X0 : Hid (Ext w W0) := Lib.hid (hW0 ▸ ((Ext.refl w).alloc _).alloc _)
  have B0 : Hid (W0.heap[w.heap.size]? = some (.cells #[.int .i64 N, .slice vo vn vc] 53 (0, 0))) := Lib.hid (hW0 ▸ old1 (at0 w _) _)
  have R0 : Hid (W0.heap[w.heap.size + 1]? = some (.cells #[.slice none 0 0, .slice none 0 0] 48 (0, 0))) := Lib.hid (hW0 ▸ at1 w _ _)
  have HW0 := Lib.hid hW0
  have HS := Lib.hid (h.ext X0.out)
  have HC := Lib.hid (refRun_any W0 N _ E (h.ext X0.out) ok K hK)
  have hr := hK.right ok
  have n0 := ok.n0
  have n64 := ok.n64
  have hcl : Hid (((itr N E K).length : Int) = N) := Lib.hid (by unfold rightB at hr; simp only [Bool.and_eq_true, decide_eq_true_eq] at hr; omega)
  obtain ⟨T, hT⟩ : ∃ T, T = tableL N E (itr N E K) := ⟨_, rfl⟩
  have HTT := Lib.hid hT
  obtain ⟨k0, k1⟩ := cells2S B0.out
  obtain ⟨cl, hcl'⟩ : ∃ q, q = itr N E K := ⟨_, rfl⟩
  have HCL := Lib.hid hcl'
  rw [← hcl'] at HC hcl HTT
  clear h hW0 ok hT hr hcl' hK
  go_enter Tryz.func86, Tryz.ntmps86
  go_upto_region 1 with (fail)
  rw [← HW0.out]
  go_wp2_with (first
    | (go_at_call 132; refine HC.out.mono ?_; rintro e w1 ⟨v1, rfl, s1, hx⟩; obtain ⟨a1, n1, c1, rfl⟩ := s1.sh; have X1 := Lib.hid hx; have S1 := Lib.hid s1; obtain ⟨j0, j1⟩ := cells2S (keepU B0.out hx); clear hx s1)
    | (go_at_call 133; refine (refTable_any w1 N _ _ E cl (HS.out.ext X1.out) S1.out n0 n64 hcl.out).mono ?_; rintro e w2 ⟨v2, rfl, s2, hx⟩; obtain ⟨a2, n2, c2, rfl⟩ := s2.sh; have X2 := Lib.hid (X1.out.trans hx); have S2 := Lib.hid (s2.ns (G := Non) (fun k hk => hk.elim) (fun k hk => hk.elim)); clear hx s2)
    | refine haltst 48 ?_)
  refine .inl ?_
  have RC := Lib.hid (keepU R0.out X2.out)
  refine st_l 48 (.tmp 2) (.tmp 13) (w.heap.size + 1) 0 48 _ #[.slice a2 n2 c2, .slice none 0 0] _ rfl rfl RC.out (by kernel_rfl) (by simp) rfl rfl ?_
  intro W9 hW9 o9
  simp only [Act.put]
  go_wp2
  exact bodyPost_ret (v := .agg #[.slice a2 n2 c2, .slice none 0 0]) (res_c rfl rfl hW9 uScene (by kernel_rfl)) rfl ⟨_, _, rfl, (SV.mk (HCL.out ▸ S2.out) (slNoneU _)).off RC.out o9, ext_off (X0.out.trans X2.out) o9 (fun b hb => by omega)⟩
end Go.Proofs.YtfbambemjokmgaaGreat
