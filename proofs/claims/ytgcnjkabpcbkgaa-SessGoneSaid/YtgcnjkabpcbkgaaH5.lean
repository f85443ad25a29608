/- Layer 17, the document's answers: a book without one of its sessions. -/
import Derived.Test.YtgcnjkabpcbkgaaHE
import Derived.Test.YtgcnjkabpcbkgaaHL
import Derived.Test.YtgcnjkabpcbkgaaH3
namespace Go.Proofs.Ytgcnjkabpcbkgaa
open Go.RowKit

set_option maxRecDepth 100000 in
set_option maxHeartbeats 8000000 in
theorem refWithout_any (F : Nat → Prop) (w : World) (n : Int) (v : Value) (L : List Se) (k : Nat) (h : Ns HV F w v L) (hk : k < L.length) (hl : L.length ≤ 1000) (hF : ∀ b, F b → b < w.heap.size) :
    Calls Try.prog 52 #[.agg #[.int .i64 n, v], .int .i64 k] w fun e w' => ∃ ao m c, e = .returned (.agg #[.int .i64 n, .slice ao m c]) ∧ Ns HV F w' (.slice ao m c) (L.eraseIdx k) ∧ Ext w w' := by
  obtain ⟨ao, c, rfl⟩ := h.len
  obtain ⟨b, off, _, _, _, _, rfl, _, hnc, hc63, _⟩ := h.sessAt hk
  obtain ⟨xs, hs, he⟩ := (ns_orB h 2).ea
  have hxl := he.len
  have hlt : (xs.take k).length ≤ 1000 := by rw [List.length_take]; omega
  have hld : (xs.drop (k + 1)).length ≤ 1000 := by rw [List.length_drop]; omega
  obtain ⟨W0, hW0⟩ : ∃ W0, W0 = (w.alloc (.cells #[.int .i64 n, .slice (some ⟨b, off, none⟩) L.length c] 24)).alloc (.cells #[.int .i64 0, .slice none 0 0] 24) := ⟨_, rfl⟩
  have X0 : Hid (Ext w W0) := Lib.hid (hW0 ▸ ((Ext.refl w).alloc _).alloc _)
  have B0 : Hid (W0.heap[w.heap.size]? = some (.cells #[.int .i64 n, .slice (some ⟨b, off, none⟩) L.length c] 24 (0, 0))) := Lib.hid (hW0 ▸ old1 (at0 w _) _)
  have R0 : Hid (W0.heap[w.heap.size + 1]? = some (.cells #[.int .i64 0, .slice none 0 0] 24 (0, 0))) := Lib.hid (hW0 ▸ at1 w _ _)
  have HZ0 : Hid (W0.heap.size = w.heap.size + 2) := Lib.hid (by rw [hW0, size_alloc, size_alloc])
  have HW0 := Lib.hid hW0
  have HSC : Hid (∀ V, Ext W0 V → V.cell? ⟨w.heap.size, 1, none⟩ = some (.slice (some ⟨b, off, none⟩) L.length c)) := Lib.hid fun V hV => blk_cell (keepU B0.out hV) 1 rfl
  have HC0 : Hid (∀ V, Ext w V → Sl V (.slice (some ⟨b, off, none⟩) k c) (xs.take k)) := Lib.hid fun V hV => by
    have := (hs.sl.ext hV).cut 0 k (by omega) (by omega)
    simpa using this
  have HC1 : Hid (∀ V, Ext w V → Sl V (.slice (if c = k + 1 then some ⟨b, off, none⟩ else some ⟨b, off + (k + 1) * 4, none⟩) (L.length - (k + 1)) (c - (k + 1))) (xs.drop (k + 1))) := Lib.hid fun V hV => by
    have := (hs.sl.ext hV).tail (k + 1) (by omega)
    rw [hxl] at this
    exact this
  have HE := Lib.hid he
  have hkw : IntKind.i64.wrap ((k : Int) + 1) = (k : Int) + 1 := wrapN _ (by omega) (by omega)
  have HSZ : Hid (∀ V, Ext W0 V → w.heap.size + 2 ≤ V.heap.size) := Lib.hid fun V hV => by have := Below.size hV; have := HZ0.out; omega
  clear h hs he hW0 hxl
  go_enter Try.func52, Try.ntmps52
  go_upto_region 1 with (fail)
  rw [← HW0.out]
  (refine wp_region_Y_lit (K := fun V => Ext W0 V) 13 (by kernel_rfl) (fun w1 hw1 => ?_))
  have X1 : Hid (Ext W0 w1) := Lib.hid hw1
  clear hw1
  refine ytv 1 (h := ?_)
  refine ytv 2 (hv := by intro w' hw'; have hc := HSC.out w' hw'; go_simp; first | done | with_reducible rfl) (h := ?_)
  refine ytv 3 (h := ?_)
  refine ytv 4 (hv := by intro w' hw'; have hz : (k : Int) ≤ (c : Int) := (by omega); go_simp; first | done | with_reducible rfl) (h := ?_)
  refine ytv 6 (h := ?_)
  refine ytv 7 (hv := by intro w' hw'; have hc := HSC.out w' hw'; go_simp; first | done | with_reducible rfl) (h := ?_)
  refine ytv 8 (h := ?_)
  refine ytv 9 (hv := by intro w' hw'; have hz := hkw; go_simp; first | done | with_reducible rfl) (h := ?_)
  refine ytv 10 (hv := by intro w' hw'; have hz0 : 0 ≤ (k : Int) + 1 := (by omega); have hz : (k : Int) + 1 ≤ (L.length : Int) := (by omega); have hz2 : (L.length : Int) ≤ (c : Int) := (by omega); go_simp; first | done | with_reducible rfl) (h := ?_)
  refine yone 0 (hk := X1.out) (h := RunY.of 0 (h := ?_))
  go_simp
  (try (simp only [Act.put, List.setIfInBounds_toArray, List.set]))
  refine yone 5 (hk := (X1.out.alloc _)) (h := RunY.of 5 (h := ?_))
  (refine wp_append_sl (α := HV) (.tmp 5) (.tmp 9) rfl (w.heap.size + 2) (.slice (some ⟨_, 0, none⟩) 0 0) [] rfl ?_ _ (xs.take k) rfl ?_ ?_ ?_ ?_; exact (Ow.litAt w1 _ _ rfl (HSZ.out _ X1.out) [] (by simp)); exact (HC0.out _ (X0.out.trans (X1.out.alloc _))); (first | omega | (simp; omega)); exact (HSZ.out _ (X1.out.alloc _)); intro v2 W2 ho2 ha2; obtain ⟨a2, n2, c2, rfl⟩ := ho2.sh; have O2 : Hid (Ow W2 (w.heap.size + 2) (.slice a2 n2 c2) (xs.take k)) := Lib.hid ho2; have X2 : Hid (Ext W0 W2) := Lib.hid (Below.trans (X1.out.alloc _) (ha2.below.mono (by have := HZ0.out; omega))); clear ho2 ha2)
  (try (simp only [Act.put, List.setIfInBounds_toArray, List.set]))
  refine yone 11 (hk := X2.out) (h := RunY.of 11 (h := ?_))
  (refine wp_append_sl (α := HV) (.tmp 10) (.tmp 15) rfl (w.heap.size + 2) _ (xs.take k) rfl ?_ _ (xs.drop (k + 1)) rfl ?_ ?_ ?_ ?_; exact O2.out; exact (HC1.out _ (X0.out.trans X2.out)); (first | omega | (simp; omega)); exact (HSZ.out _ X2.out); intro v3 W3 ho3 ha3; obtain ⟨a3, n3, c3, rfl⟩ := ho3.sh; have O3 : Hid (Ow W3 (w.heap.size + 2) (.slice a3 n3 c3) (xs.take k ++ xs.drop (k + 1))) := Lib.hid ho3; have X3 : Hid (Ext W0 W3) := Lib.hid (Below.trans X2.out (ha3.below.mono (by have := HZ0.out; omega))); clear ho3 ha3)
  (try (simp only [Act.put, List.setIfInBounds_toArray, List.set]))
  refine ytv 12 (h := ?_)
  have c13 := HSC.out W3 X3.out
  have f13 := blk_free (keepU B0.out X3.out) 1
  refine yone 13 (hk := X3.out) (h := RunY.of 13 (h := ?_))
  go_simp
  (try (simp only [Act.put, List.setIfInBounds_toArray, List.set]))
  obtain ⟨W4, hW4⟩ : ∃ q, q = W3.setCell ⟨w.heap.size, 1, none⟩ (.slice a3 n3 c3) := ⟨_, rfl⟩
  have o4 : Off (fun k => k = w.heap.size) W3 W4 := hW4 ▸ off_set W3 ⟨w.heap.size, 1, none⟩ _
  have B4 : Hid (W4.heap[w.heap.size]? = some (.cells #[.int .i64 n, .slice a3 n3 c3] 24 (0, 0))) := Lib.hid (by rw [hW4, blk_set (keepU B0.out X3.out)]; rfl)
  have R4 : Hid (W4.heap[w.heap.size + 1]? = some (.cells #[.int .i64 0, .slice none 0 0] 24 (0, 0))) := Lib.hid (o4.blk (keepU R0.out X3.out) (by omega))
  have N4 : Hid (Ns HV (OrB F w 2) W4 (.slice a3 n3 c3) (L.eraseIdx k)) := Lib.hid (by
    rw [List.eraseIdx_eq_take_drop_succ]
    exact (((((HE.out.take k).app (HE.out.drop (k + 1))).ext (X0.out.trans X3.out)).ns (Sa.new O3.out (fun b hb => hb.elim (fun q => by have := hF b q; omega) (fun q => q.2)))).off (o4.mono (fun b hb => .inr ⟨by omega, by omega⟩)) (Grows.refl _ _)))
  have X4 : Hid (Ext w W4) := Lib.hid (ext_off (X0.out.trans X3.out) o4 (fun b hb => by omega))
  rw [← hW4]
  clear hW4 o4 c13 f13
  (refine ydone (by kernel_rfl) (h := ?_))
  have d0 := blk_cell B4.out 0 rfl
  have d1 := blk_cell B4.out 1 rfl
  go_wp2_with (first | refine haltst 24 ?_)
  all_goals
    refine .inl ?_
    refine st_l 24 (.tmp 4) (.tmp 18) (w.heap.size + 1) 0 24 _ #[.int .i64 n, .slice a3 n3 c3] _ rfl rfl R4.out (by kernel_rfl) (by simp) rfl rfl ?_
    intro W9 hW9 o9
    simp only [Act.put]
    go_wp2
    exact bodyPost_ret (v := .agg #[.int .i64 n, .slice a3 n3 c3]) (res_c rfl rfl hW9 uBook (by kernel_rfl)) rfl ⟨_, _, _, rfl, ns_orB' (N4.out.off (o9.mono (fun b hb => .inr ⟨by omega, by omega⟩)) (Grows.refl _ _)), ext_off X4.out o9 (fun b hb => by omega)⟩
end Go.Proofs.Ytgcnjkabpcbkgaa
