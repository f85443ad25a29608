/- Layer 14, the program: a graph's scene; the nodes of a phase; whether two are the same. -/
import Derived.Test.YtdfleocknaackaaGreatMV4
import Derived.Test.YtdfleocknaackaaGreatMPT
import Derived.Test.YtdfleocknaackaaGreatME
import Derived.Test.YtdfleocknaackaaGreatMDR
import Derived.Test.YtdfleocknaackaaGreatG11
namespace Go.Proofs.YtdfleocknaackaaGreat
open Go.RowKit

theorem keepV {w W : World} {g : Nat} {o : Obj} (h : w.heap[g]? = some o) (e : Ext w W) : W.heap[g]? = some o := keepU h e

set_option maxRecDepth 100000 in
set_option maxHeartbeats 2000000 in
theorem tNew_bad (w : World) (N : Int) (v : Value) (E : List Edge) (h : Sl w v E) (ok : ¬ OkG N E) :
    Calls Tryz.prog 28 #[.agg #[.int .i64 N, v]] w (GivesS w (noS, 30)) := by
  obtain ⟨vo, vn, vc, rfl⟩ := h.sh
  obtain ⟨W0, hW0⟩ : ∃ W0, W0 = (w.alloc (.cells #[.int .i64 N, .slice vo vn vc] 24)).alloc (.cells #[.slice none 0 0, .slice none 0 0] 31) := ⟨_, rfl⟩
  have X0 : Hid (Ext w W0) := Lib.hid (hW0 ▸ ((Ext.refl w).alloc _).alloc _)
  have B0 : Hid (W0.heap[w.heap.size]? = some (.cells #[.int .i64 N, .slice vo vn vc] 24 (0, 0))) := Lib.hid (hW0 ▸ old1 (at0 w _) _)
  have R0 : Hid (W0.heap[w.heap.size + 1]? = some (.cells #[.slice none 0 0, .slice none 0 0] 31 (0, 0))) := Lib.hid (hW0 ▸ at1 w _ _)
  have HW0 := Lib.hid hW0
  have HC := Lib.hid (run_bad W0 N _ E (h.ext X0.out) ok)
  obtain ⟨k0, k1⟩ := cells2S B0.out
  clear h hW0 ok
  go_enter Tryz.func28, Tryz.ntmps28
  go_upto_region 1 with (fail)
  rw [← HW0.out]
  go_wp2_with (first
    | (go_at_call 54; refine HC.out.mono ?_; rintro e w1 ⟨v1, rfl, s1, hx⟩; obtain ⟨a1, n1, c1, rfl⟩ := s1.sh; have X1 := Lib.hid hx; clear hx s1)
    | refine haltst 31 ?_)
  refine .inl ?_
  refine st_l 31 (.tmp 2) (.tmp 16) (w.heap.size + 1) 0 31 _ #[.slice none 0 0, .slice none 0 0] _ rfl rfl (keepU R0.out X1.out) (by kernel_rfl) (by simp) rfl rfl ?_
  intro W9 hW9 o9
  simp only [Act.put]
  go_wp2
  exact bodyPost_ret (v := .tuple #[.agg #[.slice none 0 0, .slice none 0 0], .int .i64 30]) (res_ct 3 rfl rfl hW9 uScene (by kernel_rfl)) rfl (givesS_no rfl (ext_off (X0.out.trans X1.out) o9 (fun b hb => by omega)))

set_option maxRecDepth 100000 in
set_option maxHeartbeats 2000000 in
theorem tNew_ok (w : World) (N : Int) (v : Value) (E : List Edge) (h : Sl w v E) (ok : OkG N E) (K : Nat) (hK : Ends N E K) :
    Calls Tryz.prog 28 #[.agg #[.int .i64 N, v]] w (GivesS w ((tableL N E (itr N E K), []), 0)) := by
  obtain ⟨vo, vn, vc, rfl⟩ := h.sh
  obtain ⟨W0, hW0⟩ : ∃ W0, W0 = (w.alloc (.cells #[.int .i64 N, .slice vo vn vc] 24)).alloc (.cells #[.slice none 0 0, .slice none 0 0] 31) := ⟨_, rfl⟩
  have X0 : Hid (Ext w W0) := Lib.hid (hW0 ▸ ((Ext.refl w).alloc _).alloc _)
  have B0 : Hid (W0.heap[w.heap.size]? = some (.cells #[.int .i64 N, .slice vo vn vc] 24 (0, 0))) := Lib.hid (hW0 ▸ old1 (at0 w _) _)
  have R0 : Hid (W0.heap[w.heap.size + 1]? = some (.cells #[.slice none 0 0, .slice none 0 0] 31 (0, 0))) := Lib.hid (hW0 ▸ at1 w _ _)
  have HW0 := Lib.hid hW0
  have HS := Lib.hid (h.ext X0.out)
  have HC := Lib.hid (run_ok W0 N _ E (h.ext X0.out) ok K hK)
  have HP : Hid (placeR N E (itr N E K) = 0) := Lib.hid (by unfold placeR; rw [okG_iff.2 ok, hK.right ok]; rfl)
  obtain ⟨T, hT⟩ : ∃ T, tableL N E (itr N E K) = T := ⟨_, rfl⟩
  have HT : Hid ((if (0 : Int) = 0 then tableL N E (itr N E K) else []) = T) := Lib.hid (by rw [if_pos rfl, hT])
  have HTT := Lib.hid hT
  obtain ⟨k0, k1⟩ := cells2S B0.out
  clear h hW0 ok hT
  go_enter Tryz.func28, Tryz.ntmps28
  go_upto_region 1 with (fail)
  rw [← HW0.out]
  go_wp2_with (first
    | (go_at_call 54; refine HC.out.mono ?_; rintro e w1 ⟨v1, rfl, s1, hx⟩; obtain ⟨a1, n1, c1, rfl⟩ := s1.sh; have X1 := Lib.hid hx; have S1 := Lib.hid s1; obtain ⟨j0, j1⟩ := cells2S (keepU B0.out hx); clear hx s1)
    | (go_at_call 55; refine (pTable_any w1 N _ _ E (itr N E K) (HS.out.ext X1.out) S1.out 0 HP.out T HT.out).mono ?_; rintro e w2 ⟨v2, rfl, s2, hx⟩; obtain ⟨a2, c2, rfl⟩ := s2.len; have X2 := Lib.hid (X1.out.trans hx); have S2 := Lib.hid s2; clear hx s2)
    | refine haltst 31 ?_)
  refine .inl ?_
  have RC := Lib.hid (keepU R0.out X2.out)
  refine st_l 31 (.tmp 2) (.tmp 25) (w.heap.size + 1) 0 31 _ #[.slice a2 T.length c2, .slice none 0 0] _ rfl rfl RC.out (by kernel_rfl) (by simp) rfl rfl ?_
  intro W9 hW9 o9
  simp only [Act.put]
  go_wp2
  exact bodyPost_ret (v := .tuple #[.agg #[.slice a2 T.length c2, .slice none 0 0], .int .i64 0]) (res_ct 3 rfl rfl hW9 uScene (by kernel_rfl)) rfl (by
    rw [HTT.out]
    exact ⟨_, _, rfl, (SV.mk S2.out (slNoneU _)).off RC.out o9, ext_off (X0.out.trans X2.out) o9 (fun b hb => by omega)⟩)

theorem filter_nextP {L : List Dn} {k : Nat} {y : Dn} (p : Int) (h : L[k]? = some y) : phs (L.take (k + 1)) p = phs (L.take k) p ++ (if (y.phase == p) = true then [y.id] else []) := by
  unfold phs
  rw [take_nextD h, List.filter_append, List.map_append]
  congr 1
  rw [List.filter_cons]
  split <;> rfl

set_option maxRecDepth 100000 in
set_option maxHeartbeats 4000000 in
theorem phases_any (w : World) (vd vm : Value) (L : List Dn) (M : List Ml) (h : SV w vd vm L M) (hl : L.length ≤ 1000) (p : Int) :
    Calls Tryz.prog 17 #[.agg #[vd, vm], .int .i64 p] w (GivesOw w (phs L p)) := by
  obtain ⟨ao, c, bo, d, rfl, rfl⟩ := h.len
  obtain ⟨W0, hW0⟩ : ∃ W0, W0 = w.alloc (.cells #[.slice ao L.length c, .slice bo M.length d] 31) := ⟨_, rfl⟩
  have X0 : Hid (Ext w W0) := Lib.hid (hW0 ▸ (Ext.refl w).alloc _)
  have B0 : Hid (W0.heap[w.heap.size]? = some (.cells #[.slice ao L.length c, .slice bo M.length d] 31 (0, 0))) := Lib.hid (hW0 ▸ at0 w _)
  have HW0 := Lib.hid hW0
  have HS := Lib.hid (h.ds.ext X0.out)
  obtain ⟨k0, k1⟩ := cells2S B0.out
  clear h hW0
  go_enter Tryz.func17, Tryz.ntmps17
  go_upto_region 1 with (fail)
  rw [← HW0.out]
  go_wp2
  go_loopw [5, 11] (fun q i wr => ∃ k : Nat, k ≤ L.length ∧ i = .int .i64 k ∧ Hid (Ow wr W0.heap.size q (phs (L.take k) p)) ∧ Hid (Ext W0 wr)) (fun _ i _ => L.length - (intOf i).toNat)
  case atStart => exact ⟨0, Nat.zero_le _, rfl, Lib.hid (Ow.nil _ _), Lib.hid (Ext.refl _)⟩
  case round =>
    obtain ⟨k, hk, rfl, HQ, HX⟩ := hrel
    have hwr : W0.heap.size ≤ wr.heap.size := Below.size HX.out
    by_cases hlt : k < L.length
    · obtain ⟨b1, o1, so, sc, dd, hyk, rfl, hn, hnc, hc63, hb, hsl, hcell⟩ := HS.out.dinerAt hlt
      obtain ⟨a0, a1, a2⟩ := hcell wr HX.out
      have HN := Lib.hid (filter_nextP p hyk)
      have hpl : (phs (L.take k) p).length ≤ 1000 := by
        unfold phs
        rw [List.length_map]
        exact Nat.le_trans (List.length_filter_le _ _) (by rw [List.length_take]; omega)
      obtain ⟨P, hP⟩ : ∃ P, P = phs (L.take k) p := ⟨_, rfl⟩
      rw [← hP] at HQ HN hpl
      clear hcell hyk hn hsl hP
      obtain ⟨d0, d1, d2⟩ := dd
      dsimp only at a0 a1 a2 HN
      by_cases e : d1 = p
      · have q : (d1 == p) = true := by simp [e]
        have HF : Hid (phs (L.take (k + 1)) p = P ++ [d0]) := Lib.hid (by rw [HN.out, q]; rfl)
        clear e
        go_wp2_with ((at_builtin; refine wpList_append_sl (α := Int) rfl (.tmp 19) (.tmp 22) rfl W0.heap.size _ P rfl ?_ (.slice (some ⟨_, 0, none⟩) 1 1) [d0] rfl ?_ ?_ ?_ ?_; exact ((HQ.out.alloc _).alloc _); exact (Sl.litAt _ _ (by simp) [d0] (by simp)); (first | omega | (simp; omega)); exact (by first | omega | (simp; omega) | (rw [size_alloc, size_alloc]; omega)); intro v2 W2 ho2 ha2; have O2 := Lib.hid ho2; have Y2 : Hid (Ext W0 W2) := Lib.hid (Below.trans ((HX.out.alloc _).alloc _) ha2.below); clear ho2 ha2))
        go_roundw
        case rel => exact ⟨k + 1, by omega, by go_num, Lib.hid (by rw [HF.out]; exact O2.out), Y2⟩
        case measure => simp [intOf]; omega
      · have q : (d1 == p) = false := by simp [e]
        have HF : Hid (phs (L.take (k + 1)) p = P) := Lib.hid (by rw [HN.out, q]; simp)
        clear e
        go_wp2
        go_roundw
        case rel => exact ⟨k + 1, by omega, by go_num, Lib.hid (by rw [HF.out]; exact HQ.out.alloc _), Lib.hid (HX.out.alloc _)⟩
        case measure => simp [intOf]; omega
    · have hkl : k = L.length := by omega
      have hq := HQ.out
      rw [hkl, List.take_length] at hq
      have HQ' := Lib.hid hq
      clear hq HQ hkl
      go_wp2
      go_ret
      exact ⟨_, rfl, HQ'.out.mono (Below.size X0.out), X0.out.trans HX.out⟩

set_option maxRecDepth 100000 in
set_option maxHeartbeats 2000000 in
theorem tSame_any (w : World) (v1 m1 v2 m2 : Value) (L L2 : List Dn) (M M2 : List Ml) (h : SV w v1 m1 L M) (g : SV w v2 m2 L2 M2) (t : Bool) (ht : (decide (L = L2) && decide (M = M2)) = t) :
    Calls Tryz.prog 40 #[.agg #[v1, m1], .agg #[v2, m2]] w fun e w' => e = .returned (.bool t) ∧ Ext w w' := by
  obtain ⟨ao, c, bo, d, rfl, rfl⟩ := h.len
  obtain ⟨ao2, c2, bo2, d2, rfl, rfl⟩ := g.len
  obtain ⟨W0, hW0⟩ : ∃ W0, W0 = (w.alloc (.cells #[.slice ao L.length c, .slice bo M.length d] 31)).alloc (.cells #[.slice ao2 L2.length c2, .slice bo2 M2.length d2] 31) := ⟨_, rfl⟩
  have X0 : Hid (Ext w W0) := Lib.hid (hW0 ▸ ((Ext.refl w).alloc _).alloc _)
  have B0 : Hid (W0.heap[w.heap.size]? = some (.cells #[.slice ao L.length c, .slice bo M.length d] 31 (0, 0))) := Lib.hid (hW0 ▸ old1 (at0 w _) _)
  have C0 : Hid (W0.heap[w.heap.size + 1]? = some (.cells #[.slice ao2 L2.length c2, .slice bo2 M2.length d2] 31 (0, 0))) := Lib.hid (hW0 ▸ at1 w _ _)
  have HW0 := Lib.hid hW0
  have HV := Lib.hid (h.ext X0.out)
  have HG := Lib.hid (g.ext X0.out)
  obtain ⟨t1, ht1⟩ : ∃ t, decide (L = L2) = t := ⟨_, rfl⟩
  obtain ⟨t2, ht2⟩ : ∃ t, decide (M = M2) = t := ⟨_, rfl⟩
  have HT : Hid ((t1 && t2) = t) := Lib.hid (by rw [← ht1, ← ht2]; exact ht)
  have H1 := Lib.hid (pSame_any W0 _ _ L L2 HV.out.ds HG.out.ds t1 ht1)
  have H2 := Lib.hid ht2
  obtain ⟨k0, k1⟩ := cells2S B0.out
  obtain ⟨k2, k3⟩ := cells2S C0.out
  clear h g hW0 ht ht1 ht2
  go_enter Tryz.func40, Tryz.ntmps40
  go_upto_region 1 with (fail)
  rw [← HW0.out]
  cases t1
  · go_wp2_with (go_at_call 73; refine H1.out.mono ?_; rintro e w1 ⟨rfl, hx⟩; have X1 := Lib.hid (X0.out.trans hx); clear hx)
    go_ret
    exact ⟨ret_bool (by rw [← HT.out]; rfl), X1.out⟩
  · go_wp2_with (first
      | (go_at_call 73; refine H1.out.mono ?_; rintro e w1 ⟨rfl, hx⟩; have X1 := Lib.hid hx; obtain ⟨j0, j1⟩ := cells2S (keepU B0.out hx); obtain ⟨j2, j3⟩ := cells2S (keepU C0.out hx); clear hx)
      | (go_at_call 74; refine (equal_m w1 _ _ M M2 (HV.out.ms.ext X1.out) (HG.out.ms.ext X1.out) t2 H2.out).mono ?_; rintro e w2 ⟨rfl, hx⟩; have X2 := Lib.hid (X0.out.trans (X1.out.trans hx)); clear hx))
    go_ret
    exact ⟨ret_bool (by rw [← HT.out]; rfl), X2.out⟩
end Go.Proofs.YtdfleocknaackaaGreat

/- Layer 14, the program: the two sides of an edge, that are there, of one epoch. -/
namespace Go.Proofs.YtdfleocknaackaaGreat
open Go.RowKit

section
variable {P : Program} {fn : Func} {tmps : Array Value} {w : World} {t t2 : Tmp} {ty ty2 tt tt2 : TypeId} {g g2 : Nat} {cs cs2 : Array Value}
theorem res_cct (u : Tmp) (h : fn.results = #[.cell t ty, .cell t2 ty2, .tmp u]) (ht : tmps.getD t undef = .pointer (some ⟨g, 0, none⟩)) (ht2 : tmps.getD t2 undef = .pointer (some ⟨g2, 0, none⟩)) (hg : w.heap[g]? = some (.cells cs tt (0, 0))) (hg2 : w.heap[g2]? = some (.cells cs2 tt2 (0, 0)))
    (hu : ∃ fs, P.underlying ty = some (.struct fs)) (hu2 : ∃ fs, P.underlying ty2 = some (.struct fs)) (hi : (P.info? ty).map (·.size) = some cs.size) (hi2 : (P.info? ty2).map (·.size) = some cs2.size) :
    (results fn tmps).run P w = .ok (.tuple #[.agg cs, .agg cs2, tmps.getD u undef]) w := by
  obtain ⟨fs, hu⟩ := hu
  obtain ⟨fs2, hu2⟩ := hu2
  have ht3 : tmps[t]?.getD undef = .pointer (some ⟨g, 0, none⟩) := by simpa using ht
  have ht4 : tmps[t2]?.getD undef = .pointer (some ⟨g2, 0, none⟩) := by simpa using ht2
  simp [results, h, ht3, ht4, asAddr, run_loadVar_row w g tt ty cs (0, 0) _ hg hu rfl hi, run_loadVar_row w g2 tt2 ty2 cs2 (0, 0) _ hg2 hu2 rfl hi2]
end

set_option maxRecDepth 100000 in
set_option maxHeartbeats 16000000 in
theorem ends_any (w : World) (vd vm : Value) (L : List Dn) (M : List Ml) (h : SV w vd vm L M) (A B : Nat) (iA pA iB pB : Int) (SA SB : List Sd) (hA : L[A]? = some ⟨iA, pA, SA⟩) (hB : L[B]? = some ⟨iB, pB, SB⟩) (hne : A ≠ B) (x y : Sd) (hx : sideR SA B = (x, true)) (hy : sideR SB A = (y, true)) (he : x.epoch = y.epoch) :
    Calls Tryz.prog 41 #[.agg #[vd, vm], .agg #[.int .i64 A, .int .i64 B]] w fun e w' => e = .returned (.tuple #[.agg x.cs, .agg y.cs, .bool true]) ∧ Ext w w' := by
  have hAL := (List.getElem?_eq_some_iff.1 hA).1
  have hBL := (List.getElem?_eq_some_iff.1 hB).1
  obtain ⟨ao, c, bo, d, rfl, rfl⟩ := h.len
  obtain ⟨W0, hW0⟩ : ∃ W0, W0 = (((w.alloc (.cells #[.slice ao L.length c, .slice bo M.length d] 31)).alloc (.cells #[.int .i64 A, .int .i64 B] 36)).alloc (.cells #[.int .i64 0, .int .i64 0, .int .i64 0, .bool false, .bool false, .bool false, .bool false, .bool false] 52)).alloc (.cells #[.int .i64 0, .int .i64 0, .int .i64 0, .bool false, .bool false, .bool false, .bool false, .bool false] 52) := ⟨_, rfl⟩
  have X0 : Hid (Ext w W0) := Lib.hid (hW0 ▸ ((((Ext.refl w).alloc _).alloc _).alloc _).alloc _)
  have B0 : Hid (W0.heap[w.heap.size]? = some (.cells #[.slice ao L.length c, .slice bo M.length d] 31 (0, 0))) := Lib.hid (hW0 ▸ old1 (old1 (old1 (at0 w _) _) _) _)
  have D0 : Hid (W0.heap[w.heap.size + 1]? = some (.cells #[.int .i64 A, .int .i64 B] 36 (0, 0))) := Lib.hid (hW0 ▸ old1 (old1 (at1 w _ _) _) _)
  have E40 : Hid (W0.heap[w.heap.size + 2]? = some (.cells #[.int .i64 0, .int .i64 0, .int .i64 0, .bool false, .bool false, .bool false, .bool false, .bool false] 52 (0, 0))) := Lib.hid (hW0 ▸ old1 (at2 w _ _ _) _)
  have E50 : Hid (W0.heap[w.heap.size + 3]? = some (.cells #[.int .i64 0, .int .i64 0, .int .i64 0, .bool false, .bool false, .bool false, .bool false, .bool false] 52 (0, 0))) := Lib.hid (hW0 ▸ at3 w _ _ _ _)
  have HS0 : Hid (W0.heap.size = w.heap.size + 4) := Lib.hid (by rw [hW0, size_alloc, size_alloc, size_alloc, size_alloc])
  have HW0 := Lib.hid hW0
  have HV := Lib.hid (h.ext X0.out)
  have HSC : Hid (∀ V, Ext W0 V → V.cell? ⟨w.heap.size, 0, none⟩ = some (.slice ao L.length c) ∧ V.cell? ⟨w.heap.size, 1, none⟩ = some (.slice bo M.length d)) := Lib.hid fun V hV => cells2S (keepU B0.out hV)
  have HED : Hid (∀ V, Ext W0 V → V.cell? ⟨w.heap.size + 1, 0, none⟩ = some (.int .i64 (A : Int)) ∧ V.cell? ⟨w.heap.size + 1, 1, none⟩ = some (.int .i64 (B : Int))) := Lib.hid fun V hV => cells2S (keepU D0.out hV)
  obtain ⟨bA, oA, soA, scA, dA, hykA, hao, _, hnc, hc63, hbA, hslA, hcellA⟩ := HV.out.ds.dinerAt hAL
  obtain ⟨bB, oB, soB, scB, dB, hykB, hao2, _, _, _, hbB, hslB, hcellB⟩ := HV.out.ds.dinerAt hBL
  obtain rfl : dA = ⟨iA, pA, SA⟩ := by have := hykA.symm.trans hA; simpa using this
  obtain rfl : dB = ⟨iB, pB, SB⟩ := by have := hykB.symm.trans hB; simpa using this
  subst hao
  obtain ⟨rfl, rfl⟩ : bA = bB ∧ oA = oB := by simpa using hao2
  dsimp only at hslA hslB hcellA hcellB
  have HDA := Lib.hid hcellA
  have HDB := Lib.hid hcellB
  have HSA := Lib.hid hslA.sl
  have HSB := Lib.hid hslB.sl
  have Hx := Lib.hid hx
  have Hy := Lib.hid hy
  have hAi : (A : Int) < (L.length : Int) := by omega
  have hBi : (B : Int) < (L.length : Int) := by omega
  have hab : ((A : Int) == (B : Int)) = false := by simp; omega
  obtain ⟨x0, x1, x2, x3, x4, x5, x6, x7⟩ := x
  obtain ⟨y0, y1, y2, y3, y4, y5, y6, y7⟩ := y
  unfold Sd.cs
  dsimp only at he ⊢
  have hep : (x1 == y1) = true := by simp [he]
  obtain ⟨k0, k1⟩ := HSC.out W0 (Ext.refl _)
  obtain ⟨k2, k3⟩ := HED.out W0 (Ext.refl _)
  clear h hW0 hA hB hx hy he hne hykA hykB hao2 hslA hslB hcellA hcellB
  go_enter Tryz.func41, Tryz.ntmps41
  go_upto_region 1 with (fail)
  rw [← HW0.out]
  go_upto_region 3 with (first
    | (have hgd := Xa; go_at_call 64; refine (has_node wa _ _ L M (B : Int) (HV.out.ext Xa.out) true (node_iff.2 ⟨by omega, hBi⟩)).mono ?_; rintro e wb ⟨rfl, hx⟩; have Xb := Lib.hid (Xa.out.trans hx); clear hx)
    | (go_at_call 64; refine (has_node W0 _ _ L M (A : Int) HV.out true (node_iff.2 ⟨by omega, hAi⟩)).mono ?_; rintro e wa ⟨rfl, hx⟩; have Xa := Lib.hid hx; obtain ⟨j0, j1⟩ := HSC.out wa hx; obtain ⟨j2, j3⟩ := HED.out wa hx; clear hx))
  clear k0 k1 k2 k3 j0 j1 j2 j3 hab
  go_upto_region 3 with (fail)
  go_cut [7, 8] (fun s1 s2 wx => ∃ g, s1 = .pointer (some ⟨g, 0, none⟩) ∧ s2 = .bool true ∧ Hid (wx.heap[g]? = some (.cells #[.int .i64 x0, .int .i64 x1, .int .i64 x2, .bool x3, .bool x4, .bool x5, .bool x6, .bool x7] 52 (0, 0))) ∧ Hid (Ext wb wx) ∧ wb.heap.size ≤ g)
  case first =>
    have p0 : W0.heap.size ≤ wb.heap.size := Below.size Xb.out
    go_wp2_with fail
    (refine wp_region_X_lit (K := fun V => Ext W0 V) (by kernel_rfl) (fun w1 hw1 => ?_))
    have pp := Lib.hid hw1
    have p1 : Hid (Ext W0 w1) := Lib.hid (Xb.out.trans hw1)
    clear hw1
    refine xtv 0 (h := ?_)
    refine xtv 1 (hv := by intro w' hw'; have hc := (HSC.out w' hw').1; go_simp; first | done | with_reducible rfl) (h := ?_)
    refine xtv 2 (h := ?_)
    refine xtv 3 (hv := by intro w' hw'; have hc := (HED.out w' hw').1; go_simp; first | done | with_reducible rfl) (h := ?_)
    refine xtv 4 (hv := by intro w' hw'; have hz := hAL; have hz2 := hAi; go_simp; first | done | with_reducible rfl) (h := ?_)
    refine xtv 5 (hv := by intro w' hw'; obtain ⟨c0, c1, c2⟩ := HDA.out w' hw'; go_simp; first | done | with_reducible rfl) (h := ?_)
    refine xtv 6 (h := ?_)
    refine xtv 7 (hv := by intro w' hw'; have hc := (HED.out w' hw').2; go_simp; first | done | with_reducible rfl) (h := ?_)
    refine xtwo 8 12 (hk := p1.out) (h := RunX.of 8 (h := ?_)) (h' := RunX.of 12 (h := ?_))
    · go_simp
      refine (pSide_any w1 _ _ _ _ _ (HSA.out.ext p1.out) _ _ Hx.out).mono ?_
      rintro e6 w6 ⟨rfl, x6⟩
      have p6 : Hid (Ext W0 w6) := Lib.hid (Ext.trans p1.out x6)
      have pr : Hid (Ext wb w6) := Lib.hid (Ext.trans pp.out x6)
      clear x6
      dsimp only
      (try (simp only [Act.put, List.setIfInBounds_toArray, List.set]))
      refine xtv 9 (h := ?_)
      refine xtv 10 (h := ?_)
      refine xtv 11 (h := ?_)
      refine xone 12 (hk := p6.out) (h := RunX.of 12 (h := ?_))
      go_simp
      (try (simp only [Act.put, List.setIfInBounds_toArray, List.set]))
      obtain ⟨gx, hgx⟩ : ∃ g, g = w6.heap.size := ⟨_, rfl⟩
      obtain ⟨W7, hW7⟩ : ∃ W7, W7 = w6.alloc (.cells #[.int .i64 0, .int .i64 0, .int .i64 0, .bool false, .bool false, .bool false, .bool false, .bool false] 52) := ⟨_, rfl⟩
      have B7 : Hid (W7.heap[gx]? = some (.cells #[.int .i64 0, .int .i64 0, .int .i64 0, .bool false, .bool false, .bool false, .bool false, .bool false] 52 (0, 0))) := Lib.hid (hW7 ▸ hgx ▸ at0 w6 _)
      have Y7 : Hid (Ext W0 W7) := Lib.hid (hW7 ▸ p6.out.alloc _)
      have Z7 : Hid (Ext wb W7) := Lib.hid (hW7 ▸ pr.out.alloc _)
      have pg : wb.heap.size ≤ gx := hgx ▸ Below.size pr.out
      rw [← hW7, ← hgx]
      clear hW7 hgx
      refine xone 13 (hk := Y7.out) (h := RunX.of 13 (h := ?_))
      refine wp_st 52 (.tmp 7) (.tmp 42) rfl gx 0 52 #[.int .i64 0, .int .i64 0, .int .i64 0, .bool false, .bool false, .bool false, .bool false, .bool false] #[.int .i64 x0, .int .i64 x1, .int .i64 x2, .bool x3, .bool x4, .bool x5, .bool x6, .bool x7] #[.int .i64 x0, .int .i64 x1, .int .i64 x2, .bool x3, .bool x4, .bool x5, .bool x6, .bool x7] rfl rfl B7.out (by kernel_rfl) (by simp) rfl rfl ?_
      intro WB hWB oB
      simp only [Act.put]
      have YB : Hid (Ext W0 WB) := Lib.hid (ext_off Y7.out oB (fun b hb => by omega))
      have ZB : Hid (Ext wb WB) := Lib.hid (ext_off Z7.out oB (fun b hb => by omega))
      have RB := Lib.hid hWB
      clear hWB oB
      refine xtv 14 (h := ?_)
      (refine xdone (by kernel_rfl) (YB.out) ?_)
      go_wp2_with fail
      go_meet
      exact ⟨_, rfl, rfl, RB, ZB, pg⟩
    · go_simp
      (try (simp only [Act.put, List.setIfInBounds_toArray, List.set]))
      obtain ⟨gx, hgx⟩ : ∃ g, g = w1.heap.size := ⟨_, rfl⟩
      obtain ⟨W7, hW7⟩ : ∃ W7, W7 = w1.alloc (.cells #[.int .i64 0, .int .i64 0, .int .i64 0, .bool false, .bool false, .bool false, .bool false, .bool false] 52) := ⟨_, rfl⟩
      have B7 : Hid (W7.heap[gx]? = some (.cells #[.int .i64 0, .int .i64 0, .int .i64 0, .bool false, .bool false, .bool false, .bool false, .bool false] 52 (0, 0))) := Lib.hid (hW7 ▸ hgx ▸ at0 w1 _)
      have Y7 : Hid (Ext W0 W7) := Lib.hid (hW7 ▸ p1.out.alloc _)
      have Z7 : Hid (Ext wb W7) := Lib.hid (hW7 ▸ pp.out.alloc _)
      have pg : wb.heap.size ≤ gx := hgx ▸ Below.size pp.out
      rw [← hW7, ← hgx]
      clear hW7 hgx
      refine xone 8 (hk := Y7.out) (h := RunX.of 8 (h := ?_))
      go_simp
      refine (pSide_any W7 _ _ _ _ _ (HSA.out.ext Y7.out) _ _ Hx.out).mono ?_
      rintro e6 w6 ⟨rfl, x6⟩
      have Y6 : Hid (Ext W0 w6) := Lib.hid (Ext.trans Y7.out x6)
      have Z6 : Hid (Ext wb w6) := Lib.hid (Ext.trans Z7.out x6)
      have B6 := Lib.hid (keepU B7.out x6)
      clear x6
      dsimp only
      (try (simp only [Act.put, List.setIfInBounds_toArray, List.set]))
      refine xtv 9 (h := ?_)
      refine xtv 10 (h := ?_)
      refine xtv 11 (h := ?_)
      refine xone 13 (hk := Y6.out) (h := RunX.of 13 (h := ?_))
      refine wp_st 52 (.tmp 7) (.tmp 42) rfl gx 0 52 #[.int .i64 0, .int .i64 0, .int .i64 0, .bool false, .bool false, .bool false, .bool false, .bool false] #[.int .i64 x0, .int .i64 x1, .int .i64 x2, .bool x3, .bool x4, .bool x5, .bool x6, .bool x7] #[.int .i64 x0, .int .i64 x1, .int .i64 x2, .bool x3, .bool x4, .bool x5, .bool x6, .bool x7] rfl rfl B6.out (by kernel_rfl) (by simp) rfl rfl ?_
      intro WB hWB oB
      simp only [Act.put]
      have YB : Hid (Ext W0 WB) := Lib.hid (ext_off Y6.out oB (fun b hb => by omega))
      have ZB : Hid (Ext wb WB) := Lib.hid (ext_off Z6.out oB (fun b hb => by omega))
      have RB := Lib.hid hWB
      clear hWB oB
      refine xtv 14 (h := ?_)
      (refine xdone (by kernel_rfl) (YB.out) ?_)
      go_wp2_with fail
      go_meet
      exact ⟨_, rfl, rfl, RB, ZB, pg⟩
  case rest =>
  obtain ⟨gx, rfl, rfl, pB, pX, pG⟩ := hcut
  obtain ⟨W3, hW3⟩ : ∃ W3, W3 = wc := ⟨_, rfl⟩
  rw [← hW3] at pB pX ⊢
  clear hW3
  have XW3 : Hid (Ext W0 W3) := Lib.hid (Xb.out.trans pX.out)
  go_upto_region 4 with (fail)
  go_cut [9, 10] (fun s1 s2 wx => ∃ g, s1 = .pointer (some ⟨g, 0, none⟩) ∧ s2 = .bool true ∧ Hid (wx.heap[g]? = some (.cells #[.int .i64 y0, .int .i64 y1, .int .i64 y2, .bool y3, .bool y4, .bool y5, .bool y6, .bool y7] 52 (0, 0))) ∧ Hid (Ext W3 wx) ∧ W3.heap.size ≤ g)
  case first =>
    have q0 : W0.heap.size ≤ W3.heap.size := Below.size XW3.out
    go_wp2_with fail
    (refine wp_region_X_lit (K := fun V => Ext W0 V) (by kernel_rfl) (fun w1 hw1 => ?_))
    have qp := Lib.hid hw1
    have q1 : Hid (Ext W0 w1) := Lib.hid (XW3.out.trans hw1)
    clear hw1
    refine xtv 0 (h := ?_)
    refine xtv 1 (hv := by intro w' hw'; have hc := (HSC.out w' hw').1; go_simp; first | done | with_reducible rfl) (h := ?_)
    refine xtv 2 (h := ?_)
    refine xtv 3 (hv := by intro w' hw'; have hc := (HED.out w' hw').2; go_simp; first | done | with_reducible rfl) (h := ?_)
    refine xtv 4 (hv := by intro w' hw'; have hz := hBL; have hz2 := hBi; go_simp; first | done | with_reducible rfl) (h := ?_)
    refine xtv 5 (hv := by intro w' hw'; obtain ⟨c0, c1, c2⟩ := HDB.out w' hw'; go_simp; first | done | with_reducible rfl) (h := ?_)
    refine xtv 6 (h := ?_)
    refine xtv 7 (hv := by intro w' hw'; have hc := (HED.out w' hw').1; go_simp; first | done | with_reducible rfl) (h := ?_)
    refine xtwo 8 12 (hk := q1.out) (h := RunX.of 8 (h := ?_)) (h' := RunX.of 12 (h := ?_))
    · go_simp
      refine (pSide_any w1 _ _ _ _ _ (HSB.out.ext q1.out) _ _ Hy.out).mono ?_
      rintro e6 w6 ⟨rfl, x6⟩
      have q6 : Hid (Ext W0 w6) := Lib.hid (Ext.trans q1.out x6)
      have qr : Hid (Ext W3 w6) := Lib.hid (Ext.trans qp.out x6)
      clear x6
      dsimp only
      (try (simp only [Act.put, List.setIfInBounds_toArray, List.set]))
      refine xtv 9 (h := ?_)
      refine xtv 10 (h := ?_)
      refine xtv 11 (h := ?_)
      refine xone 12 (hk := q6.out) (h := RunX.of 12 (h := ?_))
      go_simp
      (try (simp only [Act.put, List.setIfInBounds_toArray, List.set]))
      obtain ⟨gy, hgy⟩ : ∃ g, g = w6.heap.size := ⟨_, rfl⟩
      obtain ⟨W7, hW7⟩ : ∃ W7, W7 = w6.alloc (.cells #[.int .i64 0, .int .i64 0, .int .i64 0, .bool false, .bool false, .bool false, .bool false, .bool false] 52) := ⟨_, rfl⟩
      have B7 : Hid (W7.heap[gy]? = some (.cells #[.int .i64 0, .int .i64 0, .int .i64 0, .bool false, .bool false, .bool false, .bool false, .bool false] 52 (0, 0))) := Lib.hid (hW7 ▸ hgy ▸ at0 w6 _)
      have Y7 : Hid (Ext W0 W7) := Lib.hid (hW7 ▸ q6.out.alloc _)
      have Z7 : Hid (Ext W3 W7) := Lib.hid (hW7 ▸ qr.out.alloc _)
      have qg : W3.heap.size ≤ gy := hgy ▸ Below.size qr.out
      rw [← hW7, ← hgy]
      clear hW7 hgy
      refine xone 13 (hk := Y7.out) (h := RunX.of 13 (h := ?_))
      refine wp_st 52 (.tmp 9) (.tmp 54) rfl gy 0 52 #[.int .i64 0, .int .i64 0, .int .i64 0, .bool false, .bool false, .bool false, .bool false, .bool false] #[.int .i64 y0, .int .i64 y1, .int .i64 y2, .bool y3, .bool y4, .bool y5, .bool y6, .bool y7] #[.int .i64 y0, .int .i64 y1, .int .i64 y2, .bool y3, .bool y4, .bool y5, .bool y6, .bool y7] rfl rfl B7.out (by kernel_rfl) (by simp) rfl rfl ?_
      intro WB hWB oB
      simp only [Act.put]
      have YB : Hid (Ext W0 WB) := Lib.hid (ext_off Y7.out oB (fun b hb => by omega))
      have ZB : Hid (Ext W3 WB) := Lib.hid (ext_off Z7.out oB (fun b hb => by omega))
      have RB := Lib.hid hWB
      clear hWB oB
      refine xtv 14 (h := ?_)
      (refine xdone (by kernel_rfl) (YB.out) ?_)
      go_wp2_with fail
      go_meet
      exact ⟨_, rfl, rfl, RB, ZB, qg⟩
    · go_simp
      (try (simp only [Act.put, List.setIfInBounds_toArray, List.set]))
      obtain ⟨gy, hgy⟩ : ∃ g, g = w1.heap.size := ⟨_, rfl⟩
      obtain ⟨W7, hW7⟩ : ∃ W7, W7 = w1.alloc (.cells #[.int .i64 0, .int .i64 0, .int .i64 0, .bool false, .bool false, .bool false, .bool false, .bool false] 52) := ⟨_, rfl⟩
      have B7 : Hid (W7.heap[gy]? = some (.cells #[.int .i64 0, .int .i64 0, .int .i64 0, .bool false, .bool false, .bool false, .bool false, .bool false] 52 (0, 0))) := Lib.hid (hW7 ▸ hgy ▸ at0 w1 _)
      have Y7 : Hid (Ext W0 W7) := Lib.hid (hW7 ▸ q1.out.alloc _)
      have Z7 : Hid (Ext W3 W7) := Lib.hid (hW7 ▸ qp.out.alloc _)
      have qg : W3.heap.size ≤ gy := hgy ▸ Below.size qp.out
      rw [← hW7, ← hgy]
      clear hW7 hgy
      refine xone 8 (hk := Y7.out) (h := RunX.of 8 (h := ?_))
      go_simp
      refine (pSide_any W7 _ _ _ _ _ (HSB.out.ext Y7.out) _ _ Hy.out).mono ?_
      rintro e6 w6 ⟨rfl, x6⟩
      have Y6 : Hid (Ext W0 w6) := Lib.hid (Ext.trans Y7.out x6)
      have Z6 : Hid (Ext W3 w6) := Lib.hid (Ext.trans Z7.out x6)
      have B6 := Lib.hid (keepU B7.out x6)
      clear x6
      dsimp only
      (try (simp only [Act.put, List.setIfInBounds_toArray, List.set]))
      refine xtv 9 (h := ?_)
      refine xtv 10 (h := ?_)
      refine xtv 11 (h := ?_)
      refine xone 13 (hk := Y6.out) (h := RunX.of 13 (h := ?_))
      refine wp_st 52 (.tmp 9) (.tmp 54) rfl gy 0 52 #[.int .i64 0, .int .i64 0, .int .i64 0, .bool false, .bool false, .bool false, .bool false, .bool false] #[.int .i64 y0, .int .i64 y1, .int .i64 y2, .bool y3, .bool y4, .bool y5, .bool y6, .bool y7] #[.int .i64 y0, .int .i64 y1, .int .i64 y2, .bool y3, .bool y4, .bool y5, .bool y6, .bool y7] rfl rfl B6.out (by kernel_rfl) (by simp) rfl rfl ?_
      intro WB hWB oB
      simp only [Act.put]
      have YB : Hid (Ext W0 WB) := Lib.hid (ext_off Y6.out oB (fun b hb => by omega))
      have ZB : Hid (Ext W3 WB) := Lib.hid (ext_off Z6.out oB (fun b hb => by omega))
      have RB := Lib.hid hWB
      clear hWB oB
      refine xtv 14 (h := ?_)
      (refine xdone (by kernel_rfl) (YB.out) ?_)
      go_wp2_with fail
      go_meet
      exact ⟨_, rfl, rfl, RB, ZB, qg⟩
  case rest =>
  obtain ⟨gy, rfl, rfl, qB, qX, qG⟩ := hcut
  obtain ⟨W4, hW4⟩ : ∃ W4, W4 = wc := ⟨_, rfl⟩
  rw [← hW4] at qB qX ⊢
  clear hW4
  have XW4 : Hid (Ext W0 W4) := Lib.hid (XW3.out.trans qX.out)
  have GX4 := Lib.hid (keepU pB.out qX.out)
  have GW4 := qB
  have pg := Nat.le_trans (Below.size Xb.out) pG
  have qg := Nat.le_trans (Below.size XW3.out) qG
  have E4 := Lib.hid (keepU E40.out XW4.out)
  have E5 := Lib.hid (keepU E50.out XW4.out)
  have hg1 := pg
  have hg2 := qg
  go_wp2_with fail
  (refine wp_region_X_lit (K := fun V => Ext w V ∧ V.heap[gx]? = some (.cells #[.int .i64 x0, .int .i64 x1, .int .i64 x2, .bool x3, .bool x4, .bool x5, .bool x6, .bool x7] 52 (0, 0)) ∧ V.heap[gy]? = some (.cells #[.int .i64 y0, .int .i64 y1, .int .i64 y2, .bool y3, .bool y4, .bool y5, .bool y6, .bool y7] 52 (0, 0))) (by kernel_rfl) (fun w1 hw1 => ?_))
  have HK1 : Hid (Ext w w1 ∧ w1.heap[gx]? = some (.cells #[.int .i64 x0, .int .i64 x1, .int .i64 x2, .bool x3, .bool x4, .bool x5, .bool x6, .bool x7] 52 (0, 0)) ∧ w1.heap[gy]? = some (.cells #[.int .i64 y0, .int .i64 y1, .int .i64 y2, .bool y3, .bool y4, .bool y5, .bool y6, .bool y7] 52 (0, 0))) := Lib.hid ⟨X0.out.trans (XW4.out.trans hw1), keepU GX4.out hw1, keepU GW4.out hw1⟩
  refine xtv 0 (hv := by intro w' hw'; obtain ⟨⟨⟨c0, c1⟩, c2, c3⟩, ⟨c4, c5⟩, c6, c7⟩ := cells8U hw'.2.1; go_simp; first | done | with_reducible rfl) (h := ?_)
  refine xtv 1 (hv := by intro w' hw'; obtain ⟨⟨⟨c0, c1⟩, c2, c3⟩, ⟨c4, c5⟩, c6, c7⟩ := cells8U hw'.2.2; go_simp; first | done | with_reducible rfl) (h := ?_)
  refine xtv 2 (h := ?_)
  refine xtv 3 (h := ?_)
  refine xtv 4 (h := ?_)
  refine xtv 5 (h := ?_)
  refine xtv 6 (h := ?_)
  refine xtv 7 (h := ?_)
  refine xtv 8 (hv := by intro w' hw'; obtain ⟨⟨⟨c0, c1⟩, c2, c3⟩, ⟨c4, c5⟩, c6, c7⟩ := cells8U hw'.2.1; go_simp; first | done | with_reducible rfl) (h := ?_)
  refine xtv 9 (h := ?_)
  refine xtv 10 (hv := by intro w' hw'; obtain ⟨⟨⟨c0, c1⟩, c2, c3⟩, ⟨c4, c5⟩, c6, c7⟩ := cells8U hw'.2.2; go_simp; first | done | with_reducible rfl) (h := ?_)
  refine xtv 11 (h := ?_)
  refine xtv 12 (h := ?_)
  have HKK := HK1
  have E4' := Lib.hid (keepU E4.out hw1)
  have E5' := Lib.hid (keepU E5.out hw1)
  clear HK1 E4 E5 hw1
  refine xone 13 (hk := HKK.out) (h := RunX.of 13 (h := ?_))
  · have HK1 := HKK
    have E4 := E4'
    have E5 := E5'
    refine wp_st 52 (.tmp 4) (.tmp 56) rfl (w.heap.size + 2) 0 52 #[.int .i64 0, .int .i64 0, .int .i64 0, .bool false, .bool false, .bool false, .bool false, .bool false] #[.int .i64 x0, .int .i64 x1, .int .i64 x2, .bool x3, .bool x4, .bool x5, .bool x6, .bool x7] #[.int .i64 x0, .int .i64 x1, .int .i64 x2, .bool x3, .bool x4, .bool x5, .bool x6, .bool x7] rfl rfl E4.out (by kernel_rfl) (by simp) rfl rfl ?_
    intro V00 kV00 oV00
    simp only [Act.put]
    have HKV00 : Hid (Ext w V00 ∧ V00.heap[gx]? = some (.cells #[.int .i64 x0, .int .i64 x1, .int .i64 x2, .bool x3, .bool x4, .bool x5, .bool x6, .bool x7] 52 (0, 0)) ∧ V00.heap[gy]? = some (.cells #[.int .i64 y0, .int .i64 y1, .int .i64 y2, .bool y3, .bool y4, .bool y5, .bool y6, .bool y7] 52 (0, 0))) := Lib.hid ⟨ext_off HK1.out.1 oV00 (fun b hb => by omega), oV00.blk HK1.out.2.1 (by have := HS0.out; omega), oV00.blk HK1.out.2.2 (by have := HS0.out; omega)⟩
    replace E5 := Lib.hid (oV00.blk E5.out (by omega))
    replace E4 := Lib.hid kV00
    clear kV00 oV00
    refine xone 14 (hk := HKV00.out) (h := RunX.of 14 (h := ?_))
    refine wp_st 52 (.tmp 5) (.tmp 57) rfl (w.heap.size + 3) 0 52 #[.int .i64 0, .int .i64 0, .int .i64 0, .bool false, .bool false, .bool false, .bool false, .bool false] #[.int .i64 y0, .int .i64 y1, .int .i64 y2, .bool y3, .bool y4, .bool y5, .bool y6, .bool y7] #[.int .i64 y0, .int .i64 y1, .int .i64 y2, .bool y3, .bool y4, .bool y5, .bool y6, .bool y7] rfl rfl E5.out (by kernel_rfl) (by simp) rfl rfl ?_
    intro V01 kV01 oV01
    simp only [Act.put]
    have HKV01 : Hid (Ext w V01 ∧ V01.heap[gx]? = some (.cells #[.int .i64 x0, .int .i64 x1, .int .i64 x2, .bool x3, .bool x4, .bool x5, .bool x6, .bool x7] 52 (0, 0)) ∧ V01.heap[gy]? = some (.cells #[.int .i64 y0, .int .i64 y1, .int .i64 y2, .bool y3, .bool y4, .bool y5, .bool y6, .bool y7] 52 (0, 0))) := Lib.hid ⟨ext_off HKV00.out.1 oV01 (fun b hb => by omega), oV01.blk HKV00.out.2.1 (by have := HS0.out; omega), oV01.blk HKV00.out.2.2 (by have := HS0.out; omega)⟩
    replace E4 := Lib.hid (oV01.blk E4.out (by omega))
    replace E5 := Lib.hid kV01
    clear kV01 oV01
    refine xtv 15 (h := ?_)
    (refine xdone (by kernel_rfl) (HKV01.out) ?_)
    go_wp2
    exact bodyPost_ret (v := .tuple #[.agg #[.int .i64 x0, .int .i64 x1, .int .i64 x2, .bool x3, .bool x4, .bool x5, .bool x6, .bool x7], .agg #[.int .i64 y0, .int .i64 y1, .int .i64 y2, .bool y3, .bool y4, .bool y5, .bool y6, .bool y7], .bool true]) (res_cct 6 rfl rfl rfl E4.out E5.out uSide uSide (by kernel_rfl) (by kernel_rfl)) rfl ⟨rfl, HKV01.out.1⟩
end Go.Proofs.YtdfleocknaackaaGreat

/- Layer 14, the program: how many of a kind of thing an edge has. -/
namespace Go.Proofs.YtdfleocknaackaaGreat
open Go.RowKit

def cntK (k : Int) (s : Sd) : Nat := cond ((k == 1 && s.fork) || (k == 2 && s.token)) 1 0

set_option maxRecDepth 100000 in
set_option maxHeartbeats 16000000 in
theorem count1_any (w : World) (vd vm : Value) (L : List Dn) (M : List Ml) (h : SV w vd vm L M) (hm : M.length ≤ 1000) (A B : Nat) (iA pA iB pB : Int) (SA SB : List Sd) (hA : L[A]? = some ⟨iA, pA, SA⟩) (hB : L[B]? = some ⟨iB, pB, SB⟩) (hne : A ≠ B) (x y : Sd) (hx : sideR SA B = (x, true)) (hy : sideR SB A = (y, true)) (he : x.epoch = y.epoch) :
    Calls Tryz.prog 13 #[.agg #[vd, vm], .agg #[.int .i64 A, .int .i64 B], .int .i64 1] w fun e w' => e = .returned (.int .i64 (cntS x y M A B 1 : Nat)) ∧ Ext w w' := by
  obtain ⟨ao, c, bo, d, rfl, rfl⟩ := h.len
  obtain ⟨W0, hW0⟩ : ∃ W0, W0 = (w.alloc (.cells #[.slice ao L.length c, .slice bo M.length d] 31)).alloc (.cells #[.int .i64 A, .int .i64 B] 36) := ⟨_, rfl⟩
  have X0 : Hid (Ext w W0) := Lib.hid (hW0 ▸ ((Ext.refl w).alloc _).alloc _)
  have B0 : Hid (W0.heap[w.heap.size]? = some (.cells #[.slice ao L.length c, .slice bo M.length d] 31 (0, 0))) := Lib.hid (hW0 ▸ old1 (at0 w _) _)
  have D0 : Hid (W0.heap[w.heap.size + 1]? = some (.cells #[.int .i64 A, .int .i64 B] 36 (0, 0))) := Lib.hid (hW0 ▸ at1 w _ _)
  have HW0 := Lib.hid hW0
  have HV := Lib.hid (h.ext X0.out)
  have HC := Lib.hid (ends_any W0 _ _ L M HV.out A B iA pA iB pB SA SB hA hB hne x y hx hy he)
  obtain ⟨cnt, hcnt⟩ : ∃ q, cntS x y M A B 1 = q := ⟨_, rfl⟩
  have HCN := Lib.hid hcnt
  rw [hcnt]
  obtain ⟨x0, x1, x2, x3, x4, x5, x6, x7⟩ := x
  obtain ⟨y0, y1, y2, y3, y4, y5, y6, y7⟩ := y
  unfold Sd.cs at HC
  dsimp only at HC
  obtain ⟨k0, k1⟩ := cells2S B0.out
  obtain ⟨k2, k3⟩ := cells2S D0.out
  clear h hW0 hA hB hx hy he hne hcnt
  go_enter Tryz.func13, Tryz.ntmps13
  go_upto_region 1 with (fail)
  rw [← HW0.out]
  go_wp2_with (first
    | (go_at_call 41; refine HC.out.mono ?_; rintro e w1 ⟨rfl, hx⟩; have X1 := Lib.hid hx; clear hx)
    | refine haltst 52 ?_)
  refine .inl ?_
  refine st_l 52 (.tmp 7) (.tmp 20) w1.heap.size 0 52 #[.int .i64 0, .int .i64 0, .int .i64 0, .bool false, .bool false, .bool false, .bool false, .bool false] #[.int .i64 x0, .int .i64 x1, .int .i64 x2, .bool x3, .bool x4, .bool x5, .bool x6, .bool x7] #[.int .i64 x0, .int .i64 x1, .int .i64 x2, .bool x3, .bool x4, .bool x5, .bool x6, .bool x7] rfl rfl (old1 (at0 w1 _) _) (by kernel_rfl) (by simp) rfl rfl ?_
  intro W3 hW3 o3
  simp only [Act.put]
  have X3 : Hid (Ext W0 W3) := Lib.hid (ext_off ((X1.out.alloc _).alloc _) o3 (fun b hb => by have := Below.size X1.out; omega))
  have E3 : Hid (W3.heap[w1.heap.size + 1]? = some (.cells #[.int .i64 0, .int .i64 0, .int .i64 0, .bool false, .bool false, .bool false, .bool false, .bool false] 52 (0, 0))) := Lib.hid (o3.blk (at1 w1 _ _) (by omega))
  have F3 := Lib.hid hW3
  have hw1 : W0.heap.size ≤ w1.heap.size := Below.size X1.out
  clear hW3 o3
  go_wp2_with (first | refine haltst 52 ?_)
  refine .inl ?_
  refine st_l 52 (.tmp 8) (.tmp 21) (w1.heap.size + 1) 0 52 #[.int .i64 0, .int .i64 0, .int .i64 0, .bool false, .bool false, .bool false, .bool false, .bool false] #[.int .i64 y0, .int .i64 y1, .int .i64 y2, .bool y3, .bool y4, .bool y5, .bool y6, .bool y7] #[.int .i64 y0, .int .i64 y1, .int .i64 y2, .bool y3, .bool y4, .bool y5, .bool y6, .bool y7] rfl rfl E3.out (by kernel_rfl) (by simp) rfl rfl ?_
  intro W4 hW4 o4
  simp only [Act.put]
  have X4 : Hid (Ext W0 W4) := Lib.hid (ext_off X3.out o4 (fun b hb => by omega))
  have F4 : Hid (W4.heap[w1.heap.size]? = some (.cells #[.int .i64 x0, .int .i64 x1, .int .i64 x2, .bool x3, .bool x4, .bool x5, .bool x6, .bool x7] 52 (0, 0))) := Lib.hid (o4.blk F3.out (by omega))
  have G4 : Hid (W4.heap[w1.heap.size + 1]? = some (.cells #[.int .i64 y0, .int .i64 y1, .int .i64 y2, .bool y3, .bool y4, .bool y5, .bool y6, .bool y7] 52 (0, 0))) := Lib.hid hW4
  clear hW4 o4 k0 k1 k2 k3
  obtain ⟨⟨⟨a0, a1⟩, a2, a3⟩, ⟨a4, a5⟩, a6, a7⟩ := cells8U F4.out
  obtain ⟨⟨⟨b0, b1⟩, b2, b3⟩, ⟨b4, b5⟩, b6, b7⟩ := cells8U G4.out
  go_upto_region 6 with (fail)
  obtain ⟨XY, hXY⟩ : ∃ XY, XY = [(⟨x0, x1, x2, x3, x4, x5, x6, x7⟩ : Sd), ⟨y0, y1, y2, y3, y4, y5, y6, y7⟩] := ⟨_, rfl⟩
  obtain ⟨W5, hW5⟩ : ∃ W5, W5 = W4.alloc (.cells #[.int .i64 x0, .int .i64 x1, .int .i64 x2, .bool x3, .bool x4, .bool x5, .bool x6, .bool x7, .int .i64 y0, .int .i64 y1, .int .i64 y2, .bool y3, .bool y4, .bool y5, .bool y6, .bool y7] 52) := ⟨_, rfl⟩
  have X5 : Hid (Ext W4 W5) := Lib.hid (hW5 ▸ (Ext.refl _).alloc _)
  have HSL : Hid (Sl W5 (.slice (some ⟨W4.heap.size, 0, none⟩) 2 2) XY) := Lib.hid (by rw [hW5, hXY]; exact Sl.litAt W4 _ rfl [(⟨x0, x1, x2, x3, x4, x5, x6, x7⟩ : Sd), ⟨y0, y1, y2, y3, y4, y5, y6, y7⟩] (by simp))
  have HXY := Lib.hid hXY
  have hxl : XY.length = 2 := by rw [hXY]; rfl
  have HCN2 : Hid ((XY.map (cntK 1)).sum + (M.countP fun m => betweenB A B m && m.kind == 1 && m.epoch == x1) = cnt) := Lib.hid (by rw [hXY, ← HCN.out]; rfl)
  rw [← hW5]
  clear hW5 hXY a0 a1 a2 a3 a4 a5 a6 a7 b0 b1 b2 b3 b4 b5 b6 b7 HCN
  go_loopw [10, 37] (fun q i wr => ∃ j : Nat, j ≤ 2 ∧ i = .int .i64 j ∧ ∃ n : Nat, n ≤ j ∧ q = .int .i64 n ∧ Hid (n = ((XY.take j).map (cntK 1)).sum) ∧ Hid (Ext W5 wr)) (fun _ i _ => 2 - (intOf i).toNat)
  case atStart => exact ⟨0, by omega, rfl, 0, by omega, rfl, Lib.hid rfl, Lib.hid (Ext.refl _)⟩
  case round =>
    obtain ⟨j, hj, rfl, n, hn, rfl, HN, HX⟩ := hrel
    by_cases hlt : j < 2
    · obtain ⟨b, off, s, _, hsj, hbo, hn2, hnc, hc63, hb, hcell⟩ := HSL.out.sidesAt (k := j) (by omega)
      obtain ⟨rfl, rfl⟩ : b = W4.heap.size ∧ off = 0 := by simp at hbo; omega
      obtain ⟨⟨⟨a0, a1⟩, a2, a3⟩, ⟨a4, a5⟩, a6, a7⟩ := hcell wr HX.out
      have HNX : Hid (((XY.take (j + 1)).map (cntK 1)).sum = n + cntK 1 s) := Lib.hid (by rw [take_nextD hsj, List.map_append, List.sum_append, HN.out]; rfl)
      have hw : IntKind.i64.wrap ((n : Int) + 1) = (n : Int) + 1 := wrapN _ (by omega) (by omega)
      clear hcell hsj hbo hn2 HN
      obtain ⟨z0, z1, z2, z3, z4, z5, z6, z7⟩ := s
      simp only [Nat.zero_add] at a0 a1 a2 a3 a4 a5 a6 a7
      cases z3
      · have HF : Hid (((XY.take (j + 1)).map (cntK 1)).sum = n) := Lib.hid (by rw [HNX.out]; rfl)
        go_wp2
        go_roundw
        case rel => exact ⟨j + 1, by omega, by go_num, n, by omega, rfl, Lib.hid HF.out.symm, Lib.hid (HX.out.alloc _)⟩
        case measure => simp [intOf]; omega
      · have HF : Hid (((XY.take (j + 1)).map (cntK 1)).sum = n + 1) := Lib.hid (by rw [HNX.out]; rfl)
        go_wp2
        go_roundw
        case rel => exact ⟨j + 1, by omega, by go_num, n + 1, by omega, by first | (simp; done) | (rw [hw]; simp), Lib.hid HF.out.symm, Lib.hid (HX.out.alloc _)⟩
        case measure => simp [intOf]; omega
    · have hj2 : j = 2 := by omega
      have HN2 : Hid (n = (XY.map (cntK 1)).sum) := Lib.hid (by have := HN.out; rwa [hj2, ← hxl, List.take_length] at this)
      have HX2 : Hid (Ext W0 wr) := Lib.hid (X4.out.trans (X5.out.trans HX.out))
      have HX4 : Hid (Ext W4 wr) := Lib.hid (X5.out.trans HX.out)
      obtain ⟨k0, k1⟩ := cells2S (keepU B0.out HX2.out)
      obtain ⟨W6, hW6⟩ : ∃ W6, W6 = wr := ⟨_, rfl⟩
      rw [← hW6] at HX2 HX4 k0 k1 ⊢
      clear hW6 HN HX hj2
      go_wp2
      go_loopw [10, 61] (fun q i wr => ∃ j : Nat, j ≤ M.length ∧ i = .int .i64 j ∧ ∃ n2 : Nat, n2 ≤ n + j ∧ q = .int .i64 n2 ∧ Hid (n2 = n + (M.take j).countP fun m => betweenB A B m && m.kind == 1 && m.epoch == x1) ∧ Hid (Ext W6 wr)) (fun _ i _ => M.length - (intOf i).toNat)
      case atStart => exact ⟨0, by omega, rfl, n, by omega, rfl, Lib.hid (by simp), Lib.hid (Ext.refl _)⟩
      case round =>
        obtain ⟨j, hj, rfl, n2, hn2, rfl, HN3, HX⟩ := hrel
        by_cases hlt : j < M.length
        · obtain ⟨b, off, m, _, hmj, rfl, _, hnc, hc63, hb, hcell⟩ := HV.out.ms.mailAt hlt
          obtain ⟨⟨a0, a1⟩, a2, a3, a4⟩ := hcell wr (HX2.out.trans HX.out)
          have HNX : Hid (((M.take (j + 1)).countP fun m => betweenB A B m && m.kind == 1 && m.epoch == x1) + n = n2 + cond (betweenB A B m && m.kind == 1 && m.epoch == x1) 1 0) := Lib.hid (by
            rw [take_nextD hmj, List.countP_append, HN3.out, List.countP_cons, List.countP_nil]
            cases hq : (betweenB A B m && m.kind == 1 && m.epoch == x1) <;> simp <;> omega)
          have hw : IntKind.i64.wrap ((n2 : Int) + 1) = (n2 : Int) + 1 := wrapN _ (by omega) (by omega)
          clear hcell hmj HN3
          obtain ⟨m0, m1, m2, m3, m4⟩ := m
          dsimp only at a0 a1 a2 a3 a4 HNX
          unfold betweenB at HNX
          dsimp only at HNX
          obtain ⟨W7, hW7⟩ : ∃ W7, W7 = wr.alloc (.cells #[.int .i64 m0, .int .i64 m1, .int .i64 m2, .int .i64 m3, .int .i64 m4] 82) := ⟨_, rfl⟩
          have Y7 : Hid (Ext W6 W7) := Lib.hid (hW7 ▸ HX.out.alloc _)
          have B7 : Hid (W7.heap[wr.heap.size]? = some (.cells #[.int .i64 m0, .int .i64 m1, .int .i64 m2, .int .i64 m3, .int .i64 m4] 82 (0, 0))) := Lib.hid (hW7 ▸ at0 wr _)
          have HW7 := Lib.hid hW7
          have q7 := B7.out
          have c0 := blk_cell q7 0 rfl
          have c1 := blk_cell q7 1 rfl
          have c2 := blk_cell q7 2 rfl
          have c3 := blk_cell q7 3 rfl
          obtain ⟨e0, e1⟩ := cells2S (keepU D0.out (HX2.out.trans Y7.out))
          have f1 := blk_cell (keepU F4.out (HX4.out.trans Y7.out)) 1 rfl
          clear hW7 q7
          go_upto_region 14 with (fail)
          rw [← HW7.out]
          clear a0 a1 a2 a3 a4
          obtain ⟨q1, hq1⟩ : ∃ q, (m0 == (A : Int)) = q := ⟨_, rfl⟩
          obtain ⟨q2, hq2⟩ : ∃ q, (m1 == (B : Int)) = q := ⟨_, rfl⟩
          obtain ⟨q3, hq3⟩ : ∃ q, (m0 == (B : Int)) = q := ⟨_, rfl⟩
          obtain ⟨q4, hq4⟩ : ∃ q, (m1 == (A : Int)) = q := ⟨_, rfl⟩
          obtain ⟨q5, hq5⟩ : ∃ q, (m2 == 1) = q := ⟨_, rfl⟩
          obtain ⟨q6, hq6⟩ : ∃ q, (m3 == x1) = q := ⟨_, rfl⟩
          rw [hq1, hq2, hq3, hq4, hq5, hq6] at HNX
          go_cut [15] (fun s15 wx => s15 = .bool ((q1 && q2) || (q3 && q4)) ∧ wx = W7)
          case first =>
            cases q1 <;> cases q2 <;> cases q3 <;> cases q4
            all_goals
              go_wp2_with fail
              go_meet
              exact ⟨rfl, rfl⟩
          case rest =>
            obtain ⟨rfl, rfl⟩ := hcut
            obtain ⟨qb, hqb⟩ : ∃ q, ((q1 && q2) || (q3 && q4)) = q := ⟨_, rfl⟩
            rw [hqb] at HNX ⊢
            clear hqb hq1 hq2 hq3 hq4
            cases qb
            · have HF : Hid (n2 = n + (M.take (j + 1)).countP fun m => betweenB A B m && m.kind == 1 && m.epoch == x1) := Lib.hid (by have := HNX.out; simp only [betweenB]; simp at this; omega)
              go_wp2
              go_roundw
              case rel => exact ⟨j + 1, by omega, by go_num, n2, by omega, rfl, HF, Y7⟩
              case measure => simp [intOf]; omega
            cases q5
            · have HF : Hid (n2 = n + (M.take (j + 1)).countP fun m => betweenB A B m && m.kind == 1 && m.epoch == x1) := Lib.hid (by have := HNX.out; simp only [betweenB]; simp at this; omega)
              go_wp2
              go_roundw
              case rel => exact ⟨j + 1, by omega, by go_num, n2, by omega, rfl, HF, Y7⟩
              case measure => simp [intOf]; omega
            cases q6
            · have HF : Hid (n2 = n + (M.take (j + 1)).countP fun m => betweenB A B m && m.kind == 1 && m.epoch == x1) := Lib.hid (by have := HNX.out; simp only [betweenB]; simp at this; omega)
              go_wp2
              go_roundw
              case rel => exact ⟨j + 1, by omega, by go_num, n2, by omega, rfl, HF, Y7⟩
              case measure => simp [intOf]; omega
            · have HF : Hid (n2 + 1 = n + (M.take (j + 1)).countP fun m => betweenB A B m && m.kind == 1 && m.epoch == x1) := Lib.hid (by have := HNX.out; simp only [betweenB]; simp at this; omega)
              go_wp2
              go_roundw
              case rel => exact ⟨j + 1, by omega, by go_num, n2 + 1, by omega, by first | (simp; done) | (rw [hw]; simp), HF, Y7⟩
              case measure => simp [intOf]; omega
        · have hjl : j = M.length := by omega
          have HF : Hid ((n2 : Int) = ((cnt : Nat) : Int)) := Lib.hid (by
            have h1 := HN3.out
            have h2 := HCN2.out
            have h3 := HN2.out
            rw [hjl, List.take_length] at h1
            omega)
          clear hjl
          go_wp2
          go_ret
          exact ⟨ret_int HF.out, X0.out.trans (HX2.out.trans HX.out)⟩

set_option maxRecDepth 100000 in
set_option maxHeartbeats 16000000 in
theorem count2_any (w : World) (vd vm : Value) (L : List Dn) (M : List Ml) (h : SV w vd vm L M) (hm : M.length ≤ 1000) (A B : Nat) (iA pA iB pB : Int) (SA SB : List Sd) (hA : L[A]? = some ⟨iA, pA, SA⟩) (hB : L[B]? = some ⟨iB, pB, SB⟩) (hne : A ≠ B) (x y : Sd) (hx : sideR SA B = (x, true)) (hy : sideR SB A = (y, true)) (he : x.epoch = y.epoch) :
    Calls Tryz.prog 13 #[.agg #[vd, vm], .agg #[.int .i64 A, .int .i64 B], .int .i64 2] w fun e w' => e = .returned (.int .i64 (cntS x y M A B 2 : Nat)) ∧ Ext w w' := by
  obtain ⟨ao, c, bo, d, rfl, rfl⟩ := h.len
  obtain ⟨W0, hW0⟩ : ∃ W0, W0 = (w.alloc (.cells #[.slice ao L.length c, .slice bo M.length d] 31)).alloc (.cells #[.int .i64 A, .int .i64 B] 36) := ⟨_, rfl⟩
  have X0 : Hid (Ext w W0) := Lib.hid (hW0 ▸ ((Ext.refl w).alloc _).alloc _)
  have B0 : Hid (W0.heap[w.heap.size]? = some (.cells #[.slice ao L.length c, .slice bo M.length d] 31 (0, 0))) := Lib.hid (hW0 ▸ old1 (at0 w _) _)
  have D0 : Hid (W0.heap[w.heap.size + 1]? = some (.cells #[.int .i64 A, .int .i64 B] 36 (0, 0))) := Lib.hid (hW0 ▸ at1 w _ _)
  have HW0 := Lib.hid hW0
  have HV := Lib.hid (h.ext X0.out)
  have HC := Lib.hid (ends_any W0 _ _ L M HV.out A B iA pA iB pB SA SB hA hB hne x y hx hy he)
  obtain ⟨cnt, hcnt⟩ : ∃ q, cntS x y M A B 2 = q := ⟨_, rfl⟩
  have HCN := Lib.hid hcnt
  rw [hcnt]
  obtain ⟨x0, x1, x2, x3, x4, x5, x6, x7⟩ := x
  obtain ⟨y0, y1, y2, y3, y4, y5, y6, y7⟩ := y
  unfold Sd.cs at HC
  dsimp only at HC
  obtain ⟨k0, k1⟩ := cells2S B0.out
  obtain ⟨k2, k3⟩ := cells2S D0.out
  clear h hW0 hA hB hx hy he hne hcnt
  go_enter Tryz.func13, Tryz.ntmps13
  go_upto_region 1 with (fail)
  rw [← HW0.out]
  go_wp2_with (first
    | (go_at_call 41; refine HC.out.mono ?_; rintro e w1 ⟨rfl, hx⟩; have X1 := Lib.hid hx; clear hx)
    | refine haltst 52 ?_)
  refine .inl ?_
  refine st_l 52 (.tmp 7) (.tmp 20) w1.heap.size 0 52 #[.int .i64 0, .int .i64 0, .int .i64 0, .bool false, .bool false, .bool false, .bool false, .bool false] #[.int .i64 x0, .int .i64 x1, .int .i64 x2, .bool x3, .bool x4, .bool x5, .bool x6, .bool x7] #[.int .i64 x0, .int .i64 x1, .int .i64 x2, .bool x3, .bool x4, .bool x5, .bool x6, .bool x7] rfl rfl (old1 (at0 w1 _) _) (by kernel_rfl) (by simp) rfl rfl ?_
  intro W3 hW3 o3
  simp only [Act.put]
  have X3 : Hid (Ext W0 W3) := Lib.hid (ext_off ((X1.out.alloc _).alloc _) o3 (fun b hb => by have := Below.size X1.out; omega))
  have E3 : Hid (W3.heap[w1.heap.size + 1]? = some (.cells #[.int .i64 0, .int .i64 0, .int .i64 0, .bool false, .bool false, .bool false, .bool false, .bool false] 52 (0, 0))) := Lib.hid (o3.blk (at1 w1 _ _) (by omega))
  have F3 := Lib.hid hW3
  have hw1 : W0.heap.size ≤ w1.heap.size := Below.size X1.out
  clear hW3 o3
  go_wp2_with (first | refine haltst 52 ?_)
  refine .inl ?_
  refine st_l 52 (.tmp 8) (.tmp 21) (w1.heap.size + 1) 0 52 #[.int .i64 0, .int .i64 0, .int .i64 0, .bool false, .bool false, .bool false, .bool false, .bool false] #[.int .i64 y0, .int .i64 y1, .int .i64 y2, .bool y3, .bool y4, .bool y5, .bool y6, .bool y7] #[.int .i64 y0, .int .i64 y1, .int .i64 y2, .bool y3, .bool y4, .bool y5, .bool y6, .bool y7] rfl rfl E3.out (by kernel_rfl) (by simp) rfl rfl ?_
  intro W4 hW4 o4
  simp only [Act.put]
  have X4 : Hid (Ext W0 W4) := Lib.hid (ext_off X3.out o4 (fun b hb => by omega))
  have F4 : Hid (W4.heap[w1.heap.size]? = some (.cells #[.int .i64 x0, .int .i64 x1, .int .i64 x2, .bool x3, .bool x4, .bool x5, .bool x6, .bool x7] 52 (0, 0))) := Lib.hid (o4.blk F3.out (by omega))
  have G4 : Hid (W4.heap[w1.heap.size + 1]? = some (.cells #[.int .i64 y0, .int .i64 y1, .int .i64 y2, .bool y3, .bool y4, .bool y5, .bool y6, .bool y7] 52 (0, 0))) := Lib.hid hW4
  clear hW4 o4 k0 k1 k2 k3
  obtain ⟨⟨⟨a0, a1⟩, a2, a3⟩, ⟨a4, a5⟩, a6, a7⟩ := cells8U F4.out
  obtain ⟨⟨⟨b0, b1⟩, b2, b3⟩, ⟨b4, b5⟩, b6, b7⟩ := cells8U G4.out
  go_upto_region 6 with (fail)
  obtain ⟨XY, hXY⟩ : ∃ XY, XY = [(⟨x0, x1, x2, x3, x4, x5, x6, x7⟩ : Sd), ⟨y0, y1, y2, y3, y4, y5, y6, y7⟩] := ⟨_, rfl⟩
  obtain ⟨W5, hW5⟩ : ∃ W5, W5 = W4.alloc (.cells #[.int .i64 x0, .int .i64 x1, .int .i64 x2, .bool x3, .bool x4, .bool x5, .bool x6, .bool x7, .int .i64 y0, .int .i64 y1, .int .i64 y2, .bool y3, .bool y4, .bool y5, .bool y6, .bool y7] 52) := ⟨_, rfl⟩
  have X5 : Hid (Ext W4 W5) := Lib.hid (hW5 ▸ (Ext.refl _).alloc _)
  have HSL : Hid (Sl W5 (.slice (some ⟨W4.heap.size, 0, none⟩) 2 2) XY) := Lib.hid (by rw [hW5, hXY]; exact Sl.litAt W4 _ rfl [(⟨x0, x1, x2, x3, x4, x5, x6, x7⟩ : Sd), ⟨y0, y1, y2, y3, y4, y5, y6, y7⟩] (by simp))
  have HXY := Lib.hid hXY
  have hxl : XY.length = 2 := by rw [hXY]; rfl
  have HCN2 : Hid ((XY.map (cntK 2)).sum + (M.countP fun m => betweenB A B m && m.kind == 2 && m.epoch == x1) = cnt) := Lib.hid (by rw [hXY, ← HCN.out]; rfl)
  rw [← hW5]
  clear hW5 hXY a0 a1 a2 a3 a4 a5 a6 a7 b0 b1 b2 b3 b4 b5 b6 b7 HCN
  go_loopw [10, 37] (fun q i wr => ∃ j : Nat, j ≤ 2 ∧ i = .int .i64 j ∧ ∃ n : Nat, n ≤ j ∧ q = .int .i64 n ∧ Hid (n = ((XY.take j).map (cntK 2)).sum) ∧ Hid (Ext W5 wr)) (fun _ i _ => 2 - (intOf i).toNat)
  case atStart => exact ⟨0, by omega, rfl, 0, by omega, rfl, Lib.hid rfl, Lib.hid (Ext.refl _)⟩
  case round =>
    obtain ⟨j, hj, rfl, n, hn, rfl, HN, HX⟩ := hrel
    by_cases hlt : j < 2
    · obtain ⟨b, off, s, _, hsj, hbo, hn2, hnc, hc63, hb, hcell⟩ := HSL.out.sidesAt (k := j) (by omega)
      obtain ⟨rfl, rfl⟩ : b = W4.heap.size ∧ off = 0 := by simp at hbo; omega
      obtain ⟨⟨⟨a0, a1⟩, a2, a3⟩, ⟨a4, a5⟩, a6, a7⟩ := hcell wr HX.out
      have HNX : Hid (((XY.take (j + 1)).map (cntK 2)).sum = n + cntK 2 s) := Lib.hid (by rw [take_nextD hsj, List.map_append, List.sum_append, HN.out]; rfl)
      have hw : IntKind.i64.wrap ((n : Int) + 1) = (n : Int) + 1 := wrapN _ (by omega) (by omega)
      clear hcell hsj hbo hn2 HN
      obtain ⟨z0, z1, z2, z3, z4, z5, z6, z7⟩ := s
      simp only [Nat.zero_add] at a0 a1 a2 a3 a4 a5 a6 a7
      cases z5
      · have HF : Hid (((XY.take (j + 1)).map (cntK 2)).sum = n) := Lib.hid (by rw [HNX.out]; rfl)
        go_wp2
        go_roundw
        case rel => exact ⟨j + 1, by omega, by go_num, n, by omega, rfl, Lib.hid HF.out.symm, Lib.hid (HX.out.alloc _)⟩
        case measure => simp [intOf]; omega
      · have HF : Hid (((XY.take (j + 1)).map (cntK 2)).sum = n + 1) := Lib.hid (by rw [HNX.out]; rfl)
        go_wp2
        go_roundw
        case rel => exact ⟨j + 1, by omega, by go_num, n + 1, by omega, by first | (simp; done) | (rw [hw]; simp), Lib.hid HF.out.symm, Lib.hid (HX.out.alloc _)⟩
        case measure => simp [intOf]; omega
    · have hj2 : j = 2 := by omega
      have HN2 : Hid (n = (XY.map (cntK 2)).sum) := Lib.hid (by have := HN.out; rwa [hj2, ← hxl, List.take_length] at this)
      have HX2 : Hid (Ext W0 wr) := Lib.hid (X4.out.trans (X5.out.trans HX.out))
      have HX4 : Hid (Ext W4 wr) := Lib.hid (X5.out.trans HX.out)
      obtain ⟨k0, k1⟩ := cells2S (keepU B0.out HX2.out)
      obtain ⟨W6, hW6⟩ : ∃ W6, W6 = wr := ⟨_, rfl⟩
      rw [← hW6] at HX2 HX4 k0 k1 ⊢
      clear hW6 HN HX hj2
      go_wp2
      go_loopw [10, 61] (fun q i wr => ∃ j : Nat, j ≤ M.length ∧ i = .int .i64 j ∧ ∃ n2 : Nat, n2 ≤ n + j ∧ q = .int .i64 n2 ∧ Hid (n2 = n + (M.take j).countP fun m => betweenB A B m && m.kind == 2 && m.epoch == x1) ∧ Hid (Ext W6 wr)) (fun _ i _ => M.length - (intOf i).toNat)
      case atStart => exact ⟨0, by omega, rfl, n, by omega, rfl, Lib.hid (by simp), Lib.hid (Ext.refl _)⟩
      case round =>
        obtain ⟨j, hj, rfl, n2, hn2, rfl, HN3, HX⟩ := hrel
        by_cases hlt : j < M.length
        · obtain ⟨b, off, m, _, hmj, rfl, _, hnc, hc63, hb, hcell⟩ := HV.out.ms.mailAt hlt
          obtain ⟨⟨a0, a1⟩, a2, a3, a4⟩ := hcell wr (HX2.out.trans HX.out)
          have HNX : Hid (((M.take (j + 1)).countP fun m => betweenB A B m && m.kind == 2 && m.epoch == x1) + n = n2 + cond (betweenB A B m && m.kind == 2 && m.epoch == x1) 1 0) := Lib.hid (by
            rw [take_nextD hmj, List.countP_append, HN3.out, List.countP_cons, List.countP_nil]
            cases hq : (betweenB A B m && m.kind == 2 && m.epoch == x1) <;> simp <;> omega)
          have hw : IntKind.i64.wrap ((n2 : Int) + 1) = (n2 : Int) + 1 := wrapN _ (by omega) (by omega)
          clear hcell hmj HN3
          obtain ⟨m0, m1, m2, m3, m4⟩ := m
          dsimp only at a0 a1 a2 a3 a4 HNX
          unfold betweenB at HNX
          dsimp only at HNX
          obtain ⟨W7, hW7⟩ : ∃ W7, W7 = wr.alloc (.cells #[.int .i64 m0, .int .i64 m1, .int .i64 m2, .int .i64 m3, .int .i64 m4] 82) := ⟨_, rfl⟩
          have Y7 : Hid (Ext W6 W7) := Lib.hid (hW7 ▸ HX.out.alloc _)
          have B7 : Hid (W7.heap[wr.heap.size]? = some (.cells #[.int .i64 m0, .int .i64 m1, .int .i64 m2, .int .i64 m3, .int .i64 m4] 82 (0, 0))) := Lib.hid (hW7 ▸ at0 wr _)
          have HW7 := Lib.hid hW7
          have q7 := B7.out
          have c0 := blk_cell q7 0 rfl
          have c1 := blk_cell q7 1 rfl
          have c2 := blk_cell q7 2 rfl
          have c3 := blk_cell q7 3 rfl
          obtain ⟨e0, e1⟩ := cells2S (keepU D0.out (HX2.out.trans Y7.out))
          have f1 := blk_cell (keepU F4.out (HX4.out.trans Y7.out)) 1 rfl
          clear hW7 q7
          go_upto_region 14 with (fail)
          rw [← HW7.out]
          clear a0 a1 a2 a3 a4
          obtain ⟨q1, hq1⟩ : ∃ q, (m0 == (A : Int)) = q := ⟨_, rfl⟩
          obtain ⟨q2, hq2⟩ : ∃ q, (m1 == (B : Int)) = q := ⟨_, rfl⟩
          obtain ⟨q3, hq3⟩ : ∃ q, (m0 == (B : Int)) = q := ⟨_, rfl⟩
          obtain ⟨q4, hq4⟩ : ∃ q, (m1 == (A : Int)) = q := ⟨_, rfl⟩
          obtain ⟨q5, hq5⟩ : ∃ q, (m2 == 2) = q := ⟨_, rfl⟩
          obtain ⟨q6, hq6⟩ : ∃ q, (m3 == x1) = q := ⟨_, rfl⟩
          rw [hq1, hq2, hq3, hq4, hq5, hq6] at HNX
          go_cut [15] (fun s15 wx => s15 = .bool ((q1 && q2) || (q3 && q4)) ∧ wx = W7)
          case first =>
            cases q1 <;> cases q2 <;> cases q3 <;> cases q4
            all_goals
              go_wp2_with fail
              go_meet
              exact ⟨rfl, rfl⟩
          case rest =>
            obtain ⟨rfl, rfl⟩ := hcut
            obtain ⟨qb, hqb⟩ : ∃ q, ((q1 && q2) || (q3 && q4)) = q := ⟨_, rfl⟩
            rw [hqb] at HNX ⊢
            clear hqb hq1 hq2 hq3 hq4
            cases qb
            · have HF : Hid (n2 = n + (M.take (j + 1)).countP fun m => betweenB A B m && m.kind == 2 && m.epoch == x1) := Lib.hid (by have := HNX.out; simp only [betweenB]; simp at this; omega)
              go_wp2
              go_roundw
              case rel => exact ⟨j + 1, by omega, by go_num, n2, by omega, rfl, HF, Y7⟩
              case measure => simp [intOf]; omega
            cases q5
            · have HF : Hid (n2 = n + (M.take (j + 1)).countP fun m => betweenB A B m && m.kind == 2 && m.epoch == x1) := Lib.hid (by have := HNX.out; simp only [betweenB]; simp at this; omega)
              go_wp2
              go_roundw
              case rel => exact ⟨j + 1, by omega, by go_num, n2, by omega, rfl, HF, Y7⟩
              case measure => simp [intOf]; omega
            cases q6
            · have HF : Hid (n2 = n + (M.take (j + 1)).countP fun m => betweenB A B m && m.kind == 2 && m.epoch == x1) := Lib.hid (by have := HNX.out; simp only [betweenB]; simp at this; omega)
              go_wp2
              go_roundw
              case rel => exact ⟨j + 1, by omega, by go_num, n2, by omega, rfl, HF, Y7⟩
              case measure => simp [intOf]; omega
            · have HF : Hid (n2 + 1 = n + (M.take (j + 1)).countP fun m => betweenB A B m && m.kind == 2 && m.epoch == x1) := Lib.hid (by have := HNX.out; simp only [betweenB]; simp at this; omega)
              go_wp2
              go_roundw
              case rel => exact ⟨j + 1, by omega, by go_num, n2 + 1, by omega, by first | (simp; done) | (rw [hw]; simp), HF, Y7⟩
              case measure => simp [intOf]; omega
        · have hjl : j = M.length := by omega
          have HF : Hid ((n2 : Int) = ((cnt : Nat) : Int)) := Lib.hid (by
            have h1 := HN3.out
            have h2 := HCN2.out
            have h3 := HN2.out
            rw [hjl, List.take_length] at h1
            omega)
          clear hjl
          go_wp2
          go_ret
          exact ⟨ret_int HF.out, X0.out.trans (HX2.out.trans HX.out)⟩
end Go.Proofs.YtdfleocknaackaaGreat

/- Layer 14: whether two scenes are the same, and a graph is small (the document); a scene of its own memory, an act (the law). -/
namespace Go.Proofs.YtdfleocknaackaaGreat
open Go.RowKit

set_option maxRecDepth 100000 in
set_option maxHeartbeats 2000000 in
theorem refSameS_any (w : World) (v1 m1 v2 m2 : Value) (L L2 : List Dn) (M M2 : List Ml) (h : SV w v1 m1 L M) (g : SV w v2 m2 L2 M2) (t : Bool) (ht : (decide (L = L2) && decide (M = M2)) = t) :
    Calls Tryz.prog 31 #[.agg #[v1, m1], .agg #[v2, m2]] w fun e w' => e = .returned (.bool t) ∧ Ext w w' := by
  obtain ⟨ao, c, bo, d, rfl, rfl⟩ := h.len
  obtain ⟨ao2, c2, bo2, d2, rfl, rfl⟩ := g.len
  obtain ⟨W0, hW0⟩ : ∃ W0, W0 = (w.alloc (.cells #[.slice ao L.length c, .slice bo M.length d] 31)).alloc (.cells #[.slice ao2 L2.length c2, .slice bo2 M2.length d2] 31) := ⟨_, rfl⟩
  have X0 : Hid (Ext w W0) := Lib.hid (hW0 ▸ ((Ext.refl w).alloc _).alloc _)
  have B0 : Hid (W0.heap[w.heap.size]? = some (.cells #[.slice ao L.length c, .slice bo M.length d] 31 (0, 0))) := Lib.hid (hW0 ▸ old1 (at0 w _) _)
  have C0 : Hid (W0.heap[w.heap.size + 1]? = some (.cells #[.slice ao2 L2.length c2, .slice bo2 M2.length d2] 31 (0, 0))) := Lib.hid (hW0 ▸ at1 w _ _)
  have HW0 := Lib.hid hW0
  have HV := Lib.hid (h.ext X0.out)
  have HG := Lib.hid (g.ext X0.out)
  obtain ⟨t1, ht1⟩ : ∃ t, decide (L = L2) = t := ⟨_, rfl⟩
  obtain ⟨t2, ht2⟩ : ∃ t, decide (M = M2) = t := ⟨_, rfl⟩
  have HT : Hid ((t1 && t2) = t) := Lib.hid (by rw [← ht1, ← ht2]; exact ht)
  have H1 := Lib.hid (refSameD_any Non W0 _ _ L L2 HV.out.ds HG.out.ds t1 ht1)
  have H2 := Lib.hid ht2
  obtain ⟨k0, k1⟩ := cells2S B0.out
  obtain ⟨k2, k3⟩ := cells2S C0.out
  clear h g hW0 ht ht1 ht2
  go_enter Tryz.func31, Tryz.ntmps31
  go_upto_region 1 with (fail)
  rw [← HW0.out]
  cases t1
  · go_wp2_with (go_at_call 57; refine H1.out.mono ?_; rintro e w1 ⟨rfl, hx⟩; have X1 := Lib.hid (X0.out.trans hx); clear hx)
    go_ret
    exact ⟨ret_bool (by rw [← HT.out]; rfl), X1.out⟩
  · go_wp2_with (first
      | (go_at_call 57; refine H1.out.mono ?_; rintro e w1 ⟨rfl, hx⟩; have X1 := Lib.hid hx; obtain ⟨j0, j1⟩ := cells2S (keepU B0.out hx); obtain ⟨j2, j3⟩ := cells2S (keepU C0.out hx); clear hx)
      | (go_at_call 58; refine (refSameMail_any w1 _ _ M M2 (HV.out.ms.ext X1.out) (HG.out.ms.ext X1.out) t2 H2.out).mono ?_; rintro e w2 ⟨rfl, hx⟩; have X2 := Lib.hid (X0.out.trans (X1.out.trans hx)); clear hx))
    go_ret
    exact ⟨ret_bool (by rw [← HT.out]; rfl), X2.out⟩

set_option maxRecDepth 100000 in
set_option maxHeartbeats 1000000 in
theorem refSmall_any (w : World) (N : Int) (v : Value) (E : List Edge) (h : Sl w v E) (t : Bool) (ht : (decide (N ≤ 10) && okG N E) = t) :
    Calls Tryz.prog 10 #[.agg #[.int .i64 N, v]] w fun e w' => e = .returned (.bool t) ∧ Ext w w' := by
  obtain ⟨vo, vn, vc, rfl⟩ := h.sh
  obtain ⟨W0, hW0⟩ : ∃ W0, W0 = w.alloc (.cells #[.int .i64 N, .slice vo vn vc] 24) := ⟨_, rfl⟩
  have X0 : Hid (Ext w W0) := Lib.hid (hW0 ▸ (Ext.refl w).alloc _)
  have B0 : Hid (W0.heap[w.heap.size]? = some (.cells #[.int .i64 N, .slice vo vn vc] 24 (0, 0))) := Lib.hid (hW0 ▸ at0 w _)
  have HW0 := Lib.hid hW0
  obtain ⟨q, hq⟩ : ∃ q, okG N E = q := ⟨_, rfl⟩
  have HC := Lib.hid (refCheck_val W0 N _ E (h.ext X0.out) q hq)
  rw [hq] at ht
  have HT := Lib.hid ht
  obtain ⟨k0, k1⟩ := cells2S B0.out
  clear h hW0 ht hq
  go_enter Tryz.func10, Tryz.ntmps10
  go_upto_region 1 with (fail)
  rw [← HW0.out]
  by_cases e : N ≤ 10
  · have HE := Lib.hid (decide_eq_true e)
    go_wp2_with (go_at_call 30; refine HC.out.mono ?_; rintro e w1 ⟨rfl, hx⟩; have X1 := Lib.hid (X0.out.trans hx); clear hx)
    go_ret
    exact ⟨ret_bool (by rw [← HT.out, HE.out]; rfl), X1.out⟩
  · have HE := Lib.hid (decide_eq_false e)
    go_wp2
    go_ret
    exact ⟨ret_bool (by rw [← HT.out, HE.out]; rfl), X0.out⟩

set_option maxRecDepth 100000 in
set_option maxHeartbeats 8000000 in
theorem ownT_any (w : World) (vd vm : Value) (L : List Dn) (M : List Ml) (h : SV w vd vm L M) (hl : Sm L M) :
    Calls Tryz.prog 27 #[.agg #[vd, vm]] w fun e w' => ∃ vd' vm', e = .returned (.agg #[vd', vm']) ∧ SV w' vd' vm' L M ∧ Ext w w' := by
  obtain ⟨ao, c, bo, d, rfl, rfl⟩ := h.len
  obtain ⟨W0, hW0⟩ : ∃ W0, W0 = (w.alloc (.cells #[.slice ao L.length c, .slice bo M.length d] 31)).alloc (.cells #[.slice none 0 0, .slice none 0 0] 31) := ⟨_, rfl⟩
  have X0 : Hid (Ext w W0) := Lib.hid (hW0 ▸ ((Ext.refl w).alloc _).alloc _)
  have B0 : Hid (W0.heap[w.heap.size]? = some (.cells #[.slice ao L.length c, .slice bo M.length d] 31 (0, 0))) := Lib.hid (hW0 ▸ old1 (at0 w _) _)
  have R0 : Hid (W0.heap[w.heap.size + 1]? = some (.cells #[.slice none 0 0, .slice none 0 0] 31 (0, 0))) := Lib.hid (hW0 ▸ at1 w _ _)
  have HW0 := Lib.hid hW0
  have HV := Lib.hid (h.ext X0.out)
  have HL := Lib.hid hl
  have HD : Hid (∀ V, Ext W0 V → V.cell? ⟨w.heap.size, 0, none⟩ = some (.slice ao L.length c) ∧ V.cell? ⟨w.heap.size, 1, none⟩ = some (.slice bo M.length d)) := Lib.hid fun V hV => cells2S (keepU B0.out hV)
  have hml := hl.m
  clear h hl hW0
  go_enter Tryz.func27, Tryz.ntmps27
  go_upto_region 1 with (fail)
  rw [← HW0.out]
  go_wp2_with fail
  have KF : ∀ V, Ext W0 V → Ext w V ∧ V.heap[w.heap.size]? = some (.cells #[.slice ao L.length c, .slice bo M.length d] 31 (0, 0)) := fun V hV => ⟨X0.out.trans hV, keepU B0.out hV⟩
  replace KF := Lib.hid KF
  (refine wp_region_X_lit (K := fun V => Ext w V ∧ V.heap[w.heap.size]? = some (.cells #[.slice ao L.length c, .slice bo M.length d] 31 (0, 0))) (by kernel_rfl) (fun w1 hw1 => ?_))
  have Z1 : Hid (Ext W0 w1) := Lib.hid hw1
  clear hw1
  refine xtv 0 (h := ?_)
  refine xtv 1 (hv := by intro w' hw'; have hc := (cells2S hw'.2).1; go_simp; first | done | with_reducible rfl) (h := ?_)
  refine xtv 4 (h := ?_)
  refine xtv 5 (hv := by intro w' hw'; have hc := (cells2S hw'.2).2; go_simp; first | done | with_reducible rfl) (h := ?_)
  refine xtwo 2 3 (hk := (KF.out _ Z1.out)) (h := RunX.of 2 (h := ?_)) (h' := RunX.of 3 (h := ?_))
  · go_simp
    refine (ownDG_any Non Non w1 _ L (HV.out.ds.ext Z1.out) (fun k hk => hk.elim) (by have := HL.out.n; omega) (fun d hd => by have := HL.out.s d hd; omega)).mono ?_
    rintro e3 w3 ⟨v3, rfl, o3, x3⟩
    obtain ⟨a3, n3, c3, rfl⟩ := o3.sh
    have S3 := Lib.hid (o3.ns (G := Non) (fun _ h => h) (fun k hk => hk.elim))
    have Y3 : Hid (Ext W0 w3) := Lib.hid (Ext.trans Z1.out x3)
    have Z3 : Hid (Ext w1 w3) := Lib.hid x3
    clear o3 x3
    dsimp only
    (try (simp only [Act.put, List.setIfInBounds_toArray, List.set]))
    refine xone 3 (hk := (KF.out _ Y3.out)) (h := RunX.of 3 (h := ?_))
    go_simp
    (try (simp only [Act.put, List.setIfInBounds_toArray, List.set]))
    have YB : Hid (Ext W0 (w3.alloc (.cells #[] 82))) := Lib.hid (Y3.out.alloc _)
    refine xone 6 (hk := (KF.out _ YB.out)) (h := RunX.of 6 (h := ?_))
    (refine wp_append_sl (α := Ml) (.tmp 6) (.tmp 8) rfl w3.heap.size (.slice (some ⟨_, 0, none⟩) 0 0) [] rfl ?_ _ M rfl ?_ ?_ ?_ ?_; exact (Ow.litAt w3 _ _ rfl (Nat.le_refl _) [] (by simp)); exact (HV.out.ms.ext YB.out); (first | omega | (simp; omega)); (first | (rw [size_alloc]; omega) | simp); intro v4 w4 ho4 ha4; obtain ⟨a4, n4, c4, rfl⟩ := ho4.sh; have S4 : Hid (Sl w4 (.slice a4 n4 c4) M) := Lib.hid ho4.sl)
    have X34 : Ext w3 w4 := Below.trans ((Ext.refl w3).alloc _) ha4.below
    have Y4 : Hid (Ext W0 w4) := Lib.hid (Y3.out.trans X34)
    have SD := Lib.hid (S3.out.ext X34)
    clear ho4 ha4 X34
    (try (simp only [Act.put, List.setIfInBounds_toArray, List.set]))
    refine xtv 7 (h := ?_)
    refine xone 8 (hk := (KF.out _ Y4.out)) (h := RunX.of 8 (h := ?_))
    refine wp_st 31 (.tmp 2) (.tmp 10) rfl (w.heap.size + 1) 0 31 #[.slice none 0 0, .slice none 0 0] #[.slice a3 n3 c3, .slice a4 n4 c4] #[.slice a3 n3 c3, .slice a4 n4 c4] rfl rfl (keepU R0.out Y4.out) (by kernel_rfl) (by simp) rfl rfl ?_
    intro W9 hW9 o9
    simp only [Act.put]
    have Y9 : Hid (Ext w W9) := Lib.hid (ext_off (X0.out.trans Y4.out) o9 (fun b hb => by omega))
    have V9 := Lib.hid ((SV.mk SD.out S4.out).off (keepU R0.out Y4.out) o9)
    have R9 := Lib.hid hW9
    have K9 := Lib.hid (o9.blk (keepU B0.out Y4.out) (by omega))
    clear hW9 o9
    (refine xdone (by kernel_rfl) (⟨Y9.out, K9.out⟩) ?_)
    go_wp2
    exact bodyPost_ret (v := .agg #[.slice a3 n3 c3, .slice a4 n4 c4]) (res_c rfl rfl R9.out uScene (by kernel_rfl)) rfl ⟨_, _, rfl, V9.out, Y9.out⟩
  · go_simp
    (try (simp only [Act.put, List.setIfInBounds_toArray, List.set]))
    have YB1 : Hid (Ext W0 (w1.alloc (.cells #[] 82))) := Lib.hid (Z1.out.alloc _)
    have hb0 : W0.heap.size ≤ w1.heap.size := Below.size Z1.out
    refine xone 2 (hk := (KF.out _ YB1.out)) (h := RunX.of 2 (h := ?_))
    go_simp
    refine (ownDG_any (fun k => k = w1.heap.size) Non (w1.alloc (.cells #[] 82)) _ L (HV.out.ds.ext YB1.out) (fun k hk => by rw [hk, size_alloc]; omega) (by have := HL.out.n; omega) (fun d hd => by have := HL.out.s d hd; omega)).mono ?_
    rintro e3 w3 ⟨v3, rfl, o3, x3⟩
    obtain ⟨a3, n3, c3, rfl⟩ := o3.sh
    have S3 := Lib.hid (o3.ns (G := (fun k => k = w1.heap.size)) (fun _ h => h) (fun k hk => by rw [hk, size_alloc]; omega))
    have Y3 : Hid (Ext W0 w3) := Lib.hid (Ext.trans YB1.out x3)
    have Z3 : Hid (Ext (w1.alloc (.cells #[] 82)) w3) := Lib.hid x3
    clear o3 x3
    dsimp only
    (try (simp only [Act.put, List.setIfInBounds_toArray, List.set]))
    have YB := Y3
    have hs3 : w1.heap.size + 1 ≤ w3.heap.size := by have := Below.size Z3.out; rwa [size_alloc] at this
    refine xone 6 (hk := (KF.out _ Y3.out)) (h := RunX.of 6 (h := ?_))
    (refine wp_append_sl (α := Ml) (.tmp 6) (.tmp 8) rfl w1.heap.size (.slice (some ⟨_, 0, none⟩) 0 0) [] rfl ?_ _ M rfl ?_ ?_ ?_ ?_; exact ((Ow.litAt w1 _ _ rfl (Nat.le_refl _) [] (by simp)).ext Z3.out); exact (HV.out.ms.ext YB.out); (first | omega | (simp; omega)); omega; intro v4 w4 ho4 ha4; obtain ⟨a4, n4, c4, rfl⟩ := ho4.sh; have S4 : Hid (Sl w4 (.slice a4 n4 c4) M) := Lib.hid ho4.sl)
    have Y4 : Hid (Ext W0 w4) := Lib.hid (Below.trans Y3.out (ha4.below.mono hb0))
    have SD : Hid (Ns DV Non w4 (.slice a3 n3 c3) L) := Lib.hid (S3.out.off ((off_grown ha4.grown).mono fun k hk => by simpa [Value.ownBlock] using hk.symm) (fun k hk => False.elim hk))
    clear ho4 ha4
    (try (simp only [Act.put, List.setIfInBounds_toArray, List.set]))
    refine xtv 7 (h := ?_)
    refine xone 8 (hk := (KF.out _ Y4.out)) (h := RunX.of 8 (h := ?_))
    refine wp_st 31 (.tmp 2) (.tmp 10) rfl (w.heap.size + 1) 0 31 #[.slice none 0 0, .slice none 0 0] #[.slice a3 n3 c3, .slice a4 n4 c4] #[.slice a3 n3 c3, .slice a4 n4 c4] rfl rfl (keepU R0.out Y4.out) (by kernel_rfl) (by simp) rfl rfl ?_
    intro W9 hW9 o9
    simp only [Act.put]
    have Y9 : Hid (Ext w W9) := Lib.hid (ext_off (X0.out.trans Y4.out) o9 (fun b hb => by omega))
    have V9 := Lib.hid ((SV.mk SD.out S4.out).off (keepU R0.out Y4.out) o9)
    have R9 := Lib.hid hW9
    have K9 := Lib.hid (o9.blk (keepU B0.out Y4.out) (by omega))
    clear hW9 o9
    (refine xdone (by kernel_rfl) (⟨Y9.out, K9.out⟩) ?_)
    go_wp2
    exact bodyPost_ret (v := .agg #[.slice a3 n3 c3, .slice a4 n4 c4]) (res_c rfl rfl R9.out uScene (by kernel_rfl)) rfl ⟨_, _, rfl, V9.out, Y9.out⟩
end Go.Proofs.YtdfleocknaackaaGreat

/- Layer 14, the law: an act; what good scenes have (mathematics). -/
namespace Go.Proofs.YtdfleocknaackaaGreat
open Go.RowKit

set_option maxRecDepth 100000 in
set_option maxHeartbeats 8000000 in
theorem act_any (w : World) (vd vm : Value) (L : List Dn) (M : List Ml) (h : SV w vd vm L M) (hl : Sm L M) (k a b : Int) :
    Calls Tryz.prog 35 #[.agg #[vd, vm], .agg #[.int .i64 k, .int .i64 a, .int .i64 b]] w (GivesS w (stepT L M (actN k) a b)) := by
  obtain ⟨ao, c, bo, d, rfl, rfl⟩ := h.len
  obtain ⟨W0, hW0⟩ : ∃ W0, W0 = ((w.alloc (.cells #[.slice ao L.length c, .slice bo M.length d] 31)).alloc (.cells #[.int .i64 k, .int .i64 a, .int .i64 b] 70)).alloc (.cells #[.slice none 0 0, .slice none 0 0] 31) := ⟨_, rfl⟩
  have X0 : Hid (Ext w W0) := Lib.hid (hW0 ▸ (((Ext.refl w).alloc _).alloc _).alloc _)
  have B0 : Hid (W0.heap[w.heap.size]? = some (.cells #[.slice ao L.length c, .slice bo M.length d] 31 (0, 0))) := Lib.hid (hW0 ▸ old1 (old1 (at0 w _) _) _)
  have D0 : Hid (W0.heap[w.heap.size + 1]? = some (.cells #[.int .i64 k, .int .i64 a, .int .i64 b] 70 (0, 0))) := Lib.hid (hW0 ▸ old1 (at1 w _ _) _)
  have R0 : Hid (W0.heap[w.heap.size + 2]? = some (.cells #[.slice none 0 0, .slice none 0 0] 31 (0, 0))) := Lib.hid (hW0 ▸ at2 w _ _ _)
  have HW0 := Lib.hid hW0
  have HV := Lib.hid (h.ext X0.out)
  have HL := Lib.hid hl
  obtain ⟨k0, k1⟩ := cells2S B0.out
  obtain ⟨k2, k3, k4⟩ := cells3U D0.out
  clear h hl hW0
  go_enter Tryz.func35, Tryz.ntmps35
  go_upto_region 1 with (fail)
  rw [← HW0.out]
  by_cases e0 : k = 0
  · have HQ : Hid (stepT L M (actN k) a b = stepT L M 0 a b) := Lib.hid (by unfold actN; rw [if_pos e0])
    subst e0
    go_wp2_with (first
      | (go_at_call 38; refine (tStart_any W0 _ _ L M HV.out HL.out a b).mono ?_; rintro e w2 ⟨vd2, vm2, rfl, sv2, hx⟩; obtain ⟨a1, n1, c1, a2, n2, c2, rfl, rfl⟩ := sv2.sh; have SV2 := Lib.hid sv2; have X2 := Lib.hid hx; clear sv2 hx)
      | refine haltst 31 ?_)
    refine .inl ?_
    have RC := Lib.hid (keepU R0.out X2.out)
    refine st_l 31 (.tmp 4) (.tmp 14) (w.heap.size + 2) 0 31 _ #[.slice a1 n1 c1, .slice a2 n2 c2] _ rfl rfl RC.out (by kernel_rfl) (by simp) rfl rfl ?_
    intro W9 hW9 o9
    simp only [Act.put]
    go_wp2
    exact bodyPost_ret (v := .tuple #[.agg #[.slice a1 n1 c1, .slice a2 n2 c2], .int .i64 (stepT L M 0 a b).2]) (res_ct 5 rfl rfl hW9 uScene (by kernel_rfl)) rfl (by rw [HQ.out]; exact ⟨_, _, rfl, SV2.out.off RC.out o9, ext_off (X0.out.trans X2.out) o9 (fun b hb => by omega)⟩)
  have q0 : (k == 0) = false := by simp [e0]
  by_cases e1 : k = 1
  · have HQ : Hid (stepT L M (actN k) a b = stepT L M 1 a b) := Lib.hid (by unfold actN; rw [if_neg e0, if_pos e1])
    subst e1
    clear e0
    go_wp2_with (first
      | (go_at_call 26; refine (tStop_any W0 _ _ L M HV.out HL.out a b).mono ?_; rintro e w2 ⟨vd2, vm2, rfl, sv2, hx⟩; obtain ⟨a1, n1, c1, a2, n2, c2, rfl, rfl⟩ := sv2.sh; have SV2 := Lib.hid sv2; have X2 := Lib.hid hx; clear sv2 hx)
      | refine haltst 31 ?_)
    refine .inl ?_
    have RC := Lib.hid (keepU R0.out X2.out)
    refine st_l 31 (.tmp 4) (.tmp 22) (w.heap.size + 2) 0 31 _ #[.slice a1 n1 c1, .slice a2 n2 c2] _ rfl rfl RC.out (by kernel_rfl) (by simp) rfl rfl ?_
    intro W9 hW9 o9
    simp only [Act.put]
    go_wp2
    exact bodyPost_ret (v := .tuple #[.agg #[.slice a1 n1 c1, .slice a2 n2 c2], .int .i64 (stepT L M 1 a b).2]) (res_ct 5 rfl rfl hW9 uScene (by kernel_rfl)) rfl (by rw [HQ.out]; exact ⟨_, _, rfl, SV2.out.off RC.out o9, ext_off (X0.out.trans X2.out) o9 (fun b hb => by omega)⟩)
  · have HQ : Hid (stepT L M (actN k) a b = stepT L M 2 a b) := Lib.hid (by unfold actN; rw [if_neg e0, if_neg e1])
    have q1 : (k == 1) = false := by simp [e1]
    clear e0 e1
    go_wp2_with (first
      | (go_at_call 39; refine (tDeliver_any W0 _ _ L M HV.out HL.out a b).mono ?_; rintro e w2 ⟨vd2, vm2, rfl, sv2, hx⟩; obtain ⟨a1, n1, c1, a2, n2, c2, rfl, rfl⟩ := sv2.sh; have SV2 := Lib.hid sv2; have X2 := Lib.hid hx; clear sv2 hx)
      | refine haltst 31 ?_)
    refine .inl ?_
    have RC := Lib.hid (keepU R0.out X2.out)
    refine st_l 31 (.tmp 4) (.tmp 30) (w.heap.size + 2) 0 31 _ #[.slice a1 n1 c1, .slice a2 n2 c2] _ rfl rfl RC.out (by kernel_rfl) (by simp) rfl rfl ?_
    intro W9 hW9 o9
    simp only [Act.put]
    go_wp2
    exact bodyPost_ret (v := .tuple #[.agg #[.slice a1 n1 c1, .slice a2 n2 c2], .int .i64 (stepT L M 2 a b).2]) (res_ct 5 rfl rfl hW9 uScene (by kernel_rfl)) rfl (by rw [HQ.out]; exact ⟨_, _, rfl, SV2.out.off RC.out o9, ext_off (X0.out.trans X2.out) o9 (fun b hb => by omega)⟩)

section
variable {N : Int} {E : List Edge} {ds : List Dn} {ms : List Ml}
/-- a good scene is small -/
theorem GoodE.sm (ok : OkG N E) (h : GoodE N E ds ms) : Sm ds ms := by
  have hc := h.chk ok
  have hlen := h.len
  refine ⟨by have := ok.n64; omega, fun d hd => ?_, ?_⟩
  · obtain ⟨A, hA⟩ := List.getElem?_of_mem hd
    have := chk_diner hc hA
    unfold dnOk headD at this
    simp only [Bool.and_eq_true, decide_eq_true_eq] at this
    omega
  · obtain ⟨X, P, rfl, ht, hr⟩ := h
    have q1 : ∀ e ∈ E.map (fun e => (e.a.toNat, e.b.toNat)), e.1 < N.toNat ∧ e.2 ∈ nbE N E e.1 := fun e he => by
      obtain ⟨x, hx, rfl⟩ := List.mem_map.1 he
      obtain ⟨i, k, rfl, hi, hk, h1, h2⟩ := edge_nb ok hx
      exact ⟨hi, h1⟩
    have q2 : ∀ i k, i < N.toNat → k ∈ nbE N E i → (i, k) ∈ E.map (fun e => (e.a.toNat, e.b.toNat)) ∨ (k, i) ∈ E.map (fun e => (e.a.toNat, e.b.toNat)) := fun i k hi hk => by
      have hm := (mem_nbE.1 hk).2
      rcases Nat.lt_or_ge i k with hik | hik
      · left
        have : btw (i : Int) (k : Int) = ⟨i, k⟩ := by simp only [btw, Edge.mk.injEq]; omega
        rw [this] at hm
        exact List.mem_map.2 ⟨_, hm, rfl⟩
      · right
        have : btw (i : Int) (k : Int) = ⟨k, i⟩ := by simp only [btw, Edge.mk.injEq]; omega
        rw [this] at hm
        exact List.mem_map.2 ⟨_, hm, rfl⟩
    have := (ht.mailFew q1 q2).1
    rw [List.length_map] at this
    have := ok.few
    omega
/-- the two sides of an edge, and how much of each kind it has -/
theorem GoodE.edge (ok : OkG N E) (h : GoodE N E ds ms) {e : Edge} (he : e ∈ E) : ∃ (A B : Nat) (iA pA iB pB : Int) (SA SB : List Sd) (x y : Sd), e = ⟨A, B⟩ ∧ ds[A]? = some ⟨iA, pA, SA⟩ ∧ ds[B]? = some ⟨iB, pB, SB⟩ ∧ A ≠ B ∧
    sideR SA B = (x, true) ∧ sideR SB A = (y, true) ∧ x.epoch = y.epoch ∧ cntS x y ms A B 1 = 1 ∧ cntS x y ms A B 2 = 1 := by
  obtain ⟨X, P, rfl, hb, hr⟩ := h
  have hn := NB.ofE ok
  obtain ⟨i, k, rfl, hi, hk, h1, h2⟩ := edge_nb ok he
  have hne := (hn.back i k hi h1).2.1
  have hc := hb.count hn hi h1
  exact ⟨i, k, i, P i, k, P k, _, _, X i k, X k i, rfl, dsOf_get hi, dsOf_get hk, fun q => hne q.symm, hb.sideR hn hi h1, hb.sideR hn hk h2, by rw [(hb.pr i k hi h1).2, (hb.pr k i hk h2).2], hc.1, hc.2⟩
/-- what becomes of a good scene, as far as it may be -/
theorem GoodE.err (ok : OkG N E) (h : GoodE N E ds ms) {k a b : Int} (hk : k = 0 ∨ k = 1 ∨ k = 2) : (Go.Proofs.YtdfleocknaackaaGreat.stepT ds ms k a b).2 = 0 ∨ (Go.Proofs.YtdfleocknaackaaGreat.stepT ds ms k a b).2 = 134 ∨ (Go.Proofs.YtdfleocknaackaaGreat.stepT ds ms k a b).2 = 140 ∨ (Go.Proofs.YtdfleocknaackaaGreat.stepT ds ms k a b).2 = 141 := by
  rcases h.step ok (a := a) (b := b) hk with ⟨e, _⟩ | ⟨_, e⟩
  · exact .inl e
  · exact .inr e
end
end Go.Proofs.YtdfleocknaackaaGreat

/- Layer 14, the law: the chapter's example, as lists. -/
namespace Go.Proofs.YtdfleocknaackaaGreat
open Go.RowKit

def awE : List Edge := [⟨0, 1⟩]
def aw0 : List Dn := [⟨0, 0, [⟨1, 1, 0, true, true, false, true, false⟩]⟩, ⟨1, 0, [⟨0, 1, 0, false, false, true, false, true⟩]⟩]
def aw1 : List Dn := [⟨0, 0, [⟨1, 1, 0, true, true, false, true, false⟩]⟩, ⟨1, 1, [⟨0, 1, 0, false, false, false, false, true⟩]⟩]
def aw2 : List Dn := [⟨0, 0, [⟨1, 1, 0, false, false, true, true, false⟩]⟩, ⟨1, 1, [⟨0, 1, 0, false, false, false, false, true⟩]⟩]
def aw3 : List Dn := [⟨0, 0, [⟨1, 1, 0, false, false, true, true, false⟩]⟩, ⟨1, 2, [⟨0, 1, 0, true, true, false, false, true⟩]⟩]
def aw4 : List Dn := [⟨0, 0, [⟨1, 1, 0, false, false, true, true, false⟩]⟩, ⟨1, 0, [⟨0, 1, 0, true, true, false, false, true⟩]⟩]
theorem aw_ok : OkG 2 awE := okG_iff.1 (by decide +kernel)
theorem aw_ends : Ends 2 awE 2 := by
  refine ⟨fun j hj => ?_, by decide +kernel⟩
  rcases j with _ | _ | j
  · decide +kernel
  · decide +kernel
  · omega
theorem aw_new : tableL 2 awE (itr 2 awE 2) = aw0 := by decide +kernel
theorem aw_1 : stepT aw0 [] 0 1 0 = ((aw1, [⟨1, 0, 2, 1, 0⟩]), 0) := by decide +kernel
theorem aw_2 : stepT aw1 [⟨1, 0, 2, 1, 0⟩] 2 1 0 = ((aw2, [⟨0, 1, 1, 1, 0⟩]), 0) := by decide +kernel
theorem aw_3 : stepT aw2 [⟨0, 1, 1, 1, 0⟩] 2 0 1 = ((aw3, []), 0) := by decide +kernel
theorem aw_4 : stepT aw3 [] 1 1 0 = ((aw4, []), 0) := by decide +kernel
theorem aw_5 : stepT aw3 [] 2 0 1 = (noS, 141) := by decide +kernel
theorem aw_c : cntS ⟨1, 1, 0, false, false, true, true, false⟩ ⟨0, 1, 0, false, false, false, false, true⟩ [⟨0, 1, 1, 1, 0⟩] 0 1 1 = 1 := by decide +kernel
theorem aw_p : phs aw3 2 = [1] := by decide +kernel
theorem aw_k : chkT aw3 [] = true := by decide +kernel
theorem aw_s : decide (aw3 = aw4) = false := by decide +kernel
theorem aw_sm0 : Sm aw0 [] := ⟨by decide, by decide, by decide⟩
theorem aw_sm1 : Sm aw1 [⟨1, 0, 2, 1, 0⟩] := ⟨by decide, by decide, by decide⟩
theorem aw_sm2 : Sm aw2 [⟨0, 1, 1, 1, 0⟩] := ⟨by decide, by decide, by decide⟩
theorem aw_sm3 : Sm aw3 [] := ⟨by decide, by decide, by decide⟩
end Go.Proofs.YtdfleocknaackaaGreat

/- Layer 14, the law: the chapter's example. -/
namespace Go.Proofs.YtdfleocknaackaaGreat
open Go.RowKit

set_option maxRecDepth 100000 in
set_option maxHeartbeats 16000000 in
theorem awakeT_any (w : World) : Calls Tryz.prog 9 #[] w fun e w' => e = .returned (.bool true) ∧ Ext w w' := by
  go_enter Tryz.func9, Tryz.ntmps9
  go_wp2_with (first
    | (go_at_call 28; refine (aw_new ▸ tNew_ok _ 2 _ awE (Sl.litAt w _ rfl [(⟨0, 1⟩ : Edge)] (by simp)) aw_ok 2 aw_ends).mono ?_; rintro e u1 ⟨vd, vm, rfl, sv, hx⟩; dsimp only at sv ⊢; obtain ⟨a1, c1, b1, d1, e1, e2⟩ := sv.len; rw [show aw0.length = 2 from rfl] at e1; rw [show ([] : List Ml).length = 0 from rfl] at e2; subst e1 e2; have U1 := Lib.hid sv; have Y1 : Hid (Ext w u1) := Lib.hid (Ext.trans ((Ext.refl w).alloc _) hx); clear sv hx)
    | refine haltst 31 ?_)
  refine .inl ?_
  obtain ⟨g1, hg1⟩ : ∃ g, g = u1.heap.size := ⟨_, rfl⟩
  have hg1w : w.heap.size ≤ g1 := hg1 ▸ Below.size Y1.out
  have G1 := Lib.hid (at0 u1 (.cells #[.slice none 0 0, .slice none 0 0] 31))
  rw [← hg1] at G1 ⊢
  replace hg1 := Lib.hid hg1
  refine st_l 31 (.tmp 1) (.tmp 20) g1 0 31 _ #[.slice a1 2 c1, .slice b1 0 d1] _ rfl rfl G1.out (by kernel_rfl) (by simp) rfl rfl ?_
  intro W1 hW1 o1
  simp only [Act.put]
  have B1 := Lib.hid hW1
  have V1 := Lib.hid ((U1.out.ext ((Ext.refl _).alloc _)).off G1.out o1)
  have X1 : Hid (Ext w W1) := Lib.hid (ext_off (Y1.out.alloc _) o1 (fun b hb => by omega))
  clear hW1 o1 U1 G1
  obtain ⟨k0, k1⟩ := cells2S B1.out
  obtain ⟨b0, off, so, sn, dd, hyk, hao, hn0, hnc, hc63, hb, hsl, hcell⟩ := V1.out.ds.dinerAt (k := 0) (by decide)
  obtain rfl : dd = ⟨0, 0, [⟨1, 1, 0, true, true, false, true, false⟩]⟩ := by simpa [aw0] using hyk.symm
  subst hao
  obtain ⟨q0, q1, q2⟩ := hcell W1 (Ext.refl _)
  simp only [Nat.zero_mul, Nat.add_zero] at q0 q1 q2
  dsimp only at hsl q0 q1 q2
  have HSL := Lib.hid hsl.sl
  clear hyk hsl hcell hn0
  go_wp2_with (first
    | (go_at_call 37; refine (pSide_any W1 0 0 _ _ 1 HSL.out ⟨1, 1, 0, true, true, false, true, false⟩ true rfl).mono ?_; rintro e u2 ⟨rfl, hx⟩; dsimp only [Sd.cs]; have Y2 := Lib.hid hx; clear hx)
    | refine haltst 52 ?_)
  refine .inl ?_
  obtain ⟨g3, hg3⟩ : ∃ g, g = u2.heap.size := ⟨_, rfl⟩
  have hg3w : W1.heap.size ≤ g3 := hg3 ▸ Below.size Y2.out
  have hg13 : g1 < W1.heap.size := blk_lt B1.out
  have G3 := Lib.hid (at0 u2 (.cells #[.int .i64 0, .int .i64 0, .int .i64 0, .bool false, .bool false, .bool false, .bool false, .bool false] 52))
  rw [← hg3] at G3 ⊢
  replace hg3 := Lib.hid hg3
  refine st_l 52 (.tmp 3) (.tmp 36) g3 0 52 #[.int .i64 0, .int .i64 0, .int .i64 0, .bool false, .bool false, .bool false, .bool false, .bool false] #[.int .i64 1, .int .i64 1, .int .i64 0, .bool true, .bool true, .bool false, .bool true, .bool false] #[.int .i64 1, .int .i64 1, .int .i64 0, .bool true, .bool true, .bool false, .bool true, .bool false] rfl rfl G3.out (by kernel_rfl) (by simp) rfl rfl ?_
  intro W2 hW2 o2
  simp only [Act.put]
  have Z2 : Hid (Ext W1 W2) := Lib.hid (ext_off (Y2.out.alloc _) o2 (fun b hb => by omega))
  have B2 := Lib.hid (keepU B1.out Z2.out)
  have V2 := Lib.hid (V1.out.ext Z2.out)
  have X2 : Hid (Ext w W2) := Lib.hid (X1.out.trans Z2.out)
  obtain ⟨⟨⟨r0, r1⟩, r2, r3⟩, ⟨r4, r5⟩, r6, r7⟩ := cells8U hW2
  clear hW2 o2 k0 k1 q0 q1 q2 r0 r1 r2 r4 r5 r6 r7 G3
  obtain ⟨k0, k1⟩ := cells2S B2.out
  go_wp2_with (first
    | (go_at_call 38; refine (aw_1 ▸ tStart_any W2 _ _ aw0 [] V2.out aw_sm0 1 0).mono ?_; rintro e u3 ⟨vd, vm, rfl, sv, hx⟩; dsimp only at sv ⊢; obtain ⟨a3, n3, c3, b3, m3, d3, rfl, rfl⟩ := sv.sh; have U3 := Lib.hid sv; have Y3 := Lib.hid hx; clear sv hx)
    | refine haltst 31 ?_)
  refine .inl ?_
  refine st_l 31 (.tmp 1) (.tmp 44) g1 0 31 _ #[.slice a3 n3 c3, .slice b3 m3 d3] _ rfl rfl (keepU B2.out Y3.out) (by kernel_rfl) (by simp) rfl rfl ?_
  intro W3 hW3 o3
  simp only [Act.put]
  have B3 := Lib.hid hW3
  have V3 := Lib.hid (U3.out.off (keepU B2.out Y3.out) o3)
  have X3 : Hid (Ext w W3) := Lib.hid (ext_off (X2.out.trans Y3.out) o3 (fun b hb => by omega))
  clear hW3 o3 k0 k1 U3
  clear r3
  obtain ⟨k0, k1⟩ := cells2S B3.out
  go_wp2_with (first
    | (go_at_call 39; refine (aw_2 ▸ tDeliver_any W3 _ _ aw1 _ V3.out aw_sm1 1 0).mono ?_; rintro e u4 ⟨vd, vm, rfl, sv, hx⟩; dsimp only at sv ⊢; obtain ⟨a4, n4, c4, b4, m4, d4, rfl, rfl⟩ := sv.sh; have U4 := Lib.hid sv; have Y4 := Lib.hid hx; clear sv hx)
    | refine haltst 31 ?_)
  refine .inl ?_
  refine st_l 31 (.tmp 1) (.tmp 52) g1 0 31 _ #[.slice a4 n4 c4, .slice b4 m4 d4] _ rfl rfl (keepU B3.out Y4.out) (by kernel_rfl) (by simp) rfl rfl ?_
  intro W4 hW4 o4
  simp only [Act.put]
  have B4 := Lib.hid hW4
  have V4 := Lib.hid (U4.out.off (keepU B3.out Y4.out) o4)
  have X4 : Hid (Ext w W4) := Lib.hid (ext_off (X3.out.trans Y4.out) o4 (fun b hb => by omega))
  clear hW4 o4 k0 k1 U4
  obtain ⟨k0, k1⟩ := cells2S B4.out
  go_upto_region 11 with (first
    | (go_at_call 13; refine (count1_any W4 _ _ aw2 _ V4.out (by decide) 0 1 0 0 1 1 _ _ rfl rfl (by decide) _ _ rfl rfl rfl).mono ?_; rintro e u5 ⟨rfl, hx⟩; have Y5 := Lib.hid hx; clear hx))
  have CC : (cntS ⟨1, 1, 0, false, false, true, true, false⟩ ⟨0, 1, 0, false, false, false, false, true⟩ [⟨0, 1, 1, 1, 0⟩] ((0 : Nat) : Int) ((1 : Nat) : Int) 1 : Nat) = 1 := aw_c
  have B5 := Lib.hid (keepU B4.out Y5.out)
  have V5 := Lib.hid (V4.out.ext Y5.out)
  have X5 : Hid (Ext w u5) := Lib.hid (X4.out.trans Y5.out)
  clear k0 k1
  obtain ⟨W5, hW5⟩ : ∃ W5, W5 = u5 := ⟨_, rfl⟩
  rw [← hW5] at B5 V5 X5 ⊢
  clear hW5
  obtain ⟨k0, k1⟩ := cells2S B5.out
  go_wp2_with (first
    | (go_at_call 39; refine (aw_3 ▸ tDeliver_any W5 _ _ aw2 _ V5.out aw_sm2 0 1).mono ?_; rintro e u6 ⟨vd, vm, rfl, sv, hx⟩; dsimp only at sv ⊢; obtain ⟨a6, n6, c6, b6, m6, d6, rfl, rfl⟩ := sv.sh; have U6 := Lib.hid sv; have Y6 := Lib.hid hx; clear sv hx)
    | refine haltst 31 ?_)
  refine .inl ?_
  refine st_l 31 (.tmp 1) (.tmp 63) g1 0 31 _ #[.slice a6 n6 c6, .slice b6 m6 d6] _ rfl rfl (keepU B5.out Y6.out) (by kernel_rfl) (by simp) rfl rfl ?_
  intro W6 hW6 o6
  simp only [Act.put]
  have B6 := Lib.hid hW6
  have V6 := Lib.hid (U6.out.off (keepU B5.out Y6.out) o6)
  have X6 : Hid (Ext w W6) := Lib.hid (ext_off (X5.out.trans Y6.out) o6 (fun b hb => by omega))
  clear hW6 o6 k0 k1 U6
  obtain ⟨k0, k1⟩ := cells2S B6.out
  go_upto_region 13 with (first
    | (go_at_call 17; refine (aw_p ▸ phases_any W6 _ _ aw3 _ V6.out (by decide) 2).mono ?_; rintro e u7 ⟨vp, rfl, op, hx⟩; obtain ⟨pa, pc, e1⟩ := op.sl.len; rw [show ([1] : List Int).length = 1 from rfl] at e1; subst e1; have HP := Lib.hid op.sl; have Y7 : Hid (Ext W6 u7) := Lib.hid hx; clear op hx))
  have B7 := Lib.hid (keepU B6.out Y7.out)
  have V7 := Lib.hid (V6.out.ext Y7.out)
  have X7 : Hid (Ext w u7) := Lib.hid (X6.out.trans Y7.out)
  clear k0 k1
  obtain ⟨k0, k1⟩ := cells2S B7.out
  go_wp2_with (first
    | (go_at_call 26; refine (aw_4 ▸ tStop_any u7 _ _ aw3 [] V7.out aw_sm3 1 0).mono ?_; rintro e u8 ⟨vd, vm, rfl, sv, hx⟩; dsimp only at sv ⊢; obtain ⟨a8, n8, c8, b8, m8, d8, rfl, rfl⟩ := sv.sh; have U8 := Lib.hid sv; have Y8 := Lib.hid hx; clear sv hx)
    | refine haltst 31 ?_)
  refine .inl ?_
  obtain ⟨g8, hg8⟩ : ∃ g, g = u8.heap.size := ⟨_, rfl⟩
  have hg8w : u7.heap.size ≤ g8 := hg8 ▸ Below.size Y8.out
  have hg18 : g1 < u7.heap.size := blk_lt B7.out
  have G8 := Lib.hid (at0 u8 (.cells #[.slice none 0 0, .slice none 0 0] 31))
  rw [← hg8] at G8 ⊢
  replace hg8 := Lib.hid hg8
  refine st_l 31 (.tmp 11) (.tmp 71) g8 0 31 _ #[.slice a8 n8 c8, .slice b8 m8 d8] _ rfl rfl G8.out (by kernel_rfl) (by simp) rfl rfl ?_
  intro W8 hW8 o8
  simp only [Act.put]
  have Z8 : Hid (Ext u7 W8) := Lib.hid (ext_off (Y8.out.alloc _) o8 (fun b hb => by omega))
  have T8 := Lib.hid ((U8.out.ext ((Ext.refl _).alloc _)).off G8.out o8)
  have C8 := Lib.hid hW8
  have B8 := Lib.hid (keepU B7.out Z8.out)
  have V8 := Lib.hid (V7.out.ext Z8.out)
  have X8 : Hid (Ext w W8) := Lib.hid (X7.out.trans Z8.out)
  clear hW8 o8 k0 k1 U8 G8
  obtain ⟨k0, k1⟩ := cells2S B8.out
  go_wp2_with (first
    | (go_at_call 39; refine (aw_5 ▸ tDeliver_any W8 _ _ aw3 [] V8.out aw_sm3 0 1).mono ?_; rintro e u9 ⟨vd, vm, rfl, sv, hx⟩; dsimp only [noS] at sv ⊢; obtain ⟨a9, n9, c9, b9, m9, d9, rfl, rfl⟩ := sv.sh; have Y9 := Lib.hid hx; clear sv hx)
    | refine haltst 31 ?_)
  refine .inl ?_
  obtain ⟨g9, hg9⟩ : ∃ g, g = u9.heap.size := ⟨_, rfl⟩
  have hg9w : W8.heap.size ≤ g9 := hg9 ▸ Below.size Y9.out
  have G9 := Lib.hid (at0 u9 (.cells #[.slice none 0 0, .slice none 0 0] 31))
  rw [← hg9] at G9 ⊢
  replace hg9 := Lib.hid hg9
  refine st_l 31 (.tmp 13) (.tmp 76) g9 0 31 _ #[.slice a9 n9 c9, .slice b9 m9 d9] _ rfl rfl G9.out (by kernel_rfl) (by simp) rfl rfl ?_
  intro W9 hW9 o9
  simp only [Act.put]
  have Z9 : Hid (Ext W8 W9) := Lib.hid (ext_off (Y9.out.alloc _) o9 (fun b hb => by omega))
  have HB : Hid (∀ V, Ext W9 V → V.cell? ⟨g1, 0, none⟩ = some (.slice a6 n6 c6) ∧ V.cell? ⟨g1, 1, none⟩ = some (.slice b6 m6 d6)) := Lib.hid fun V hV => cells2S (keepU B8.out (Z9.out.trans hV))
  have HC : Hid (∀ V, Ext W9 V → V.cell? ⟨g8, 0, none⟩ = some (.slice a8 n8 c8) ∧ V.cell? ⟨g8, 1, none⟩ = some (.slice b8 m8 d8)) := Lib.hid fun V hV => cells2S (keepU C8.out (Z9.out.trans hV))
  have V9 := Lib.hid (V8.out.ext Z9.out)
  have T9 := Lib.hid (T8.out.ext Z9.out)
  have X9 : Hid (Ext w W9) := Lib.hid (X8.out.trans Z9.out)
  obtain ⟨pb, po, hpa, hp⟩ : ∃ b off, pa = some ⟨b, off, none⟩ ∧ W9.cell? ⟨b, off, none⟩ = some (.int .i64 1) := by
    have := (HP.out.ext (Z8.out.trans Z9.out)).parts
    rcases this with ⟨h, _⟩ | ⟨b, off, c', hv, _, _, _, _, h4⟩
    · cases h
    · simp only [Value.slice.injEq] at hv
      exact ⟨b, off, hv.1, by simpa using h4 0 1 rfl 0 _ rfl⟩
  subst hpa
  clear hW9 o9 k0 k1 G9
  obtain ⟨k0, k1⟩ := HB.out W9 (Ext.refl _)
  go_wp2_with (first
    | (go_at_call 33; refine (tCheck_any W9 _ _ aw3 [] V9.out aw_sm3 true aw_k).mono ?_; rintro e ua ⟨rfl, hx⟩; dsimp only [cond]; have Ya := Lib.hid hx; obtain ⟨j0, j1⟩ := HB.out ua hx; clear hx)
    | (have hgd := Yb; go_at_call 40; refine (tSame_any ub _ _ _ _ aw3 aw4 [] [] (V9.out.ext (Ya.out.trans Yb.out)) (T9.out.ext (Ya.out.trans Yb.out)) false (by rw [aw_s]; rfl)).mono ?_; rintro e uc ⟨rfl, hx⟩; have Yc := Lib.hid hx; clear hx)
    | (go_at_call 40; refine (tSame_any ua _ _ _ _ aw3 aw3 [] [] (V9.out.ext Ya.out) (V9.out.ext Ya.out) true (by simp)).mono ?_; rintro e ub ⟨rfl, hx⟩; have Yb := Lib.hid hx; obtain ⟨i0, i1⟩ := HB.out ub (Ya.out.trans hx); obtain ⟨i2, i3⟩ := HC.out ub (Ya.out.trans hx); clear hx))
  go_ret
  exact ⟨rfl, X9.out.trans (Ya.out.trans (Yb.out.trans Yc.out))⟩
end Go.Proofs.YtdfleocknaackaaGreat
