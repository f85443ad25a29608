/- Layer 17: SessSteps. -/
import Derived.Test.YtgcnjkabpcbkgaaHLOrder
import Derived.Test.YtgcnjkabpcbkgaaHT
import Derived.Test.YtgcnjkabpcbkgaaH4
namespace Go.Proofs.Ytgcnjkabpcbkgaa
open Go.RowKit

theorem act_lit (V : World) (k sid mm : Int) (no : Option Addr) (N : List Int) (nc : Nat) (hN : Sl V (.slice no N.length nc) N) : Ns AV Non (V.alloc (.cells #[.int .i64 k, .int .i64 sid, .int .i64 mm, .slice no N.length nc] 27)) (.slice (some ⟨V.heap.size, 0, none⟩) 1 1) [(k, sid, mm, N)] :=
  (Ea.one (α := AV) (x := ⟨k, sid, mm, no, N.length, nc⟩) (⟨rfl, rfl, rfl, ⟨hN.alloc _, .inr fun _ _ h => h.elim⟩⟩ : RdA Non _ _ _)).ns ⟨Sl.litAt V _ rfl [(⟨k, sid, mm, no, N.length, nc⟩ : AV)] (show (1 : Nat) ≤ 1000000 by decide), .inr fun _ _ h => h.elim⟩

set_option maxRecDepth 100000 in
set_option maxHeartbeats 32000000 in
theorem sessSteps_any (w : World) (n m k sid mm id : Int) (v u nv : Value) (M L2 : List Se) (N : List Int) (h : Ns HV Non w v M) (g : Ns HV Non w u L2) (hN : Sl w nv N) :
    Calls Try.prog 3 #[.agg #[.int .i64 n, v], .agg #[.int .i64 m, u], .agg #[.int .i64 k, .int .i64 sid, .int .i64 mm, nv], .int .i64 id] w fun e w' => e = .returned (.bool true) ∧ Ext w w' := by
  obtain ⟨qa, qc, rfl⟩ := h.len
  obtain ⟨bo, d, rfl⟩ := g.len
  obtain ⟨no, nc, rfl⟩ := hN.len
  have hlen := h.length_le
  have hlen2 := g.length_le
  have hlenN := hN.length_le
  obtain ⟨W0, hW0⟩ : ∃ W0, W0 = ((w.alloc (.cells #[.int .i64 n, .slice qa M.length qc] 24)).alloc (.cells #[.int .i64 m, .slice bo L2.length d] 24)).alloc (.cells #[.int .i64 k, .int .i64 sid, .int .i64 mm, .slice no N.length nc] 27) := ⟨_, rfl⟩
  have X0 : Hid (Ext w W0) := Lib.hid (by rw [hW0]; exact (((Ext.refl w).alloc _).alloc _).alloc _)
  have B0 : Hid (W0.heap[w.heap.size]? = some (.cells #[.int .i64 n, .slice qa M.length qc] 24 (0, 0))) := Lib.hid (by rw [hW0]; exact old1 (old1 (at0 w _) _) _)
  have C0 : Hid (W0.heap[w.heap.size + 1]? = some (.cells #[.int .i64 m, .slice bo L2.length d] 24 (0, 0))) := Lib.hid (by rw [hW0]; exact old1 (at1 w _ _) _)
  have A0 : Hid (W0.heap[w.heap.size + 2]? = some (.cells #[.int .i64 k, .int .i64 sid, .int .i64 mm, .slice no N.length nc] 27 (0, 0))) := Lib.hid (by rw [hW0]; exact at2 w _ _ _)
  have HW0 := Lib.hid hW0
  have HZ0 : Hid (W0.heap.size = w.heap.size + 3) := Lib.hid (by rw [hW0, size_alloc, size_alloc, size_alloc])
  have HS := Lib.hid (h.ext X0.out)
  have HS2 := Lib.hid (g.ext X0.out)
  have HN := Lib.hid (hN.ext X0.out)
  have HKA : Hid (∀ V, Ext W0 V → (V.cell? ⟨w.heap.size, 0, none⟩ = some (.int .i64 n) ∧ V.cell? ⟨w.heap.size, 1, none⟩ = some (.slice qa M.length qc)) ∧ (V.cell? ⟨w.heap.size + 1, 0, none⟩ = some (.int .i64 m) ∧ V.cell? ⟨w.heap.size + 1, 1, none⟩ = some (.slice bo L2.length d)) ∧ (V.cell? ⟨w.heap.size + 2, 0, none⟩ = some (.int .i64 k) ∧ V.cell? ⟨w.heap.size + 2, 1, none⟩ = some (.int .i64 sid)) ∧ V.cell? ⟨w.heap.size + 2, 2, none⟩ = some (.int .i64 mm) ∧ V.cell? ⟨w.heap.size + 2, 3, none⟩ = some (.slice no N.length nc)) := Lib.hid fun V hV => ⟨⟨blk_cell (keepU B0.out hV) 0 rfl, blk_cell (keepU B0.out hV) 1 rfl⟩, ⟨blk_cell (keepU C0.out hV) 0 rfl, blk_cell (keepU C0.out hV) 1 rfl⟩, ⟨blk_cell (keepU A0.out hV) 0 rfl, blk_cell (keepU A0.out hV) 1 rfl⟩, blk_cell (keepU A0.out hV) 2 rfl, blk_cell (keepU A0.out hV) 3 rfl⟩
  obtain ⟨⟨k0, k1⟩, ⟨m0, m1⟩, ⟨a0, a1⟩, a3, a4⟩ := HKA.out W0 (Ext.refl W0)
  have HN0 := Lib.hid hN
  have HSW := Lib.hid h
  have HSW2 := Lib.hid g
  clear h g hN hW0
  obtain ⟨f1, hf1⟩ : ∃ f, fewH M = f := ⟨_, rfl⟩
  obtain ⟨f2, hf2⟩ : ∃ f, fewH L2 = f := ⟨_, rfl⟩
  obtain ⟨f3, hf3⟩ : ∃ f, fewA [(k, sid, mm, N)] = f := ⟨_, rfl⟩
  have HF1 := Lib.hid hf1
  have HF2 := Lib.hid hf2
  have HF3 := Lib.hid hf3
  cases f1
  · clear hf1 hf2 hf3
    go_enter Try.func3, Try.ntmps3
    go_upto_region 1 with (fail)
    rw [← HW0.out]
    go_wp2_with (first
      | (have hgd := X2; go_at_call 9; refine (awakeH_any _).mono ?_; rintro e w9 ⟨rfl, x9⟩; have X9 : Hid (Ext W0 w9) := Lib.hid (X2.out.trans x9); clear x9)
      | (go_at_call 9; refine (awakeH_any _).mono ?_; rintro e w1 ⟨rfl, x1⟩; have X1 : Hid (Ext W0 w1) := Lib.hid x1; clear x1; clear k0 k1 m0 m1 a0 a1 a3 a4; obtain ⟨⟨k0, k1⟩, ⟨m0, m1⟩, ⟨a0, a1⟩, a3, a4⟩ := HKA.out w1 X1.out)
      | (go_at_call 10; refine (refBkFew_any _ w1 n _ M (HS.out.ext X1.out) _ HF1.out).mono ?_; rintro e w2 ⟨rfl, x2⟩; have X2 : Hid (Ext W0 w2) := Lib.hid (X1.out.trans x2); clear x2; clear k0 k1 m0 m1 a0 a1 a3 a4; obtain ⟨⟨k0, k1⟩, ⟨m0, m1⟩, ⟨a0, a1⟩, a3, a4⟩ := HKA.out w2 X2.out))
    go_ret
    exact ⟨rfl, X0.out.trans X9.out⟩
  cases f2
  · clear hf1 hf2 hf3
    go_enter Try.func3, Try.ntmps3
    go_upto_region 1 with (fail)
    rw [← HW0.out]
    go_wp2_with (first
      | (have hgd := X3; go_at_call 9; refine (awakeH_any _).mono ?_; rintro e w9 ⟨rfl, x9⟩; have X9 : Hid (Ext W0 w9) := Lib.hid (X3.out.trans x9); clear x9)
      | (go_at_call 9; refine (awakeH_any _).mono ?_; rintro e w1 ⟨rfl, x1⟩; have X1 : Hid (Ext W0 w1) := Lib.hid x1; clear x1; clear k0 k1 m0 m1 a0 a1 a3 a4; obtain ⟨⟨k0, k1⟩, ⟨m0, m1⟩, ⟨a0, a1⟩, a3, a4⟩ := HKA.out w1 X1.out)
      | (have hgd := X2; go_at_call 10; refine (refBkFew_any _ w2 m _ L2 (HS2.out.ext X2.out) _ HF2.out).mono ?_; rintro e w3 ⟨rfl, x3⟩; have X3 : Hid (Ext W0 w3) := Lib.hid (X2.out.trans x3); clear x3; clear k0 k1 m0 m1 a0 a1 a3 a4; obtain ⟨⟨k0, k1⟩, ⟨m0, m1⟩, ⟨a0, a1⟩, a3, a4⟩ := HKA.out w3 X3.out)
      | (go_at_call 10; refine (refBkFew_any _ w1 n _ M (HS.out.ext X1.out) _ HF1.out).mono ?_; rintro e w2 ⟨rfl, x2⟩; have X2 : Hid (Ext W0 w2) := Lib.hid (X1.out.trans x2); clear x2; clear k0 k1 m0 m1 a0 a1 a3 a4; obtain ⟨⟨k0, k1⟩, ⟨m0, m1⟩, ⟨a0, a1⟩, a3, a4⟩ := HKA.out w2 X2.out))
    go_ret
    exact ⟨rfl, X0.out.trans X9.out⟩
  cases f3
  · clear hf1 hf2 hf3
    go_enter Try.func3, Try.ntmps3
    go_upto_region 1 with (fail)
    rw [← HW0.out]
    go_wp2_with (first
      | (have hgd := X4; go_at_call 9; refine (awakeH_any _).mono ?_; rintro e w9 ⟨rfl, x9⟩; have X9 : Hid (Ext W0 w9) := Lib.hid (X4.out.trans x9); clear x9)
      | (go_at_call 9; refine (awakeH_any _).mono ?_; rintro e w1 ⟨rfl, x1⟩; have X1 : Hid (Ext W0 w1) := Lib.hid x1; clear x1; clear k0 k1 m0 m1 a0 a1 a3 a4; obtain ⟨⟨k0, k1⟩, ⟨m0, m1⟩, ⟨a0, a1⟩, a3, a4⟩ := HKA.out w1 X1.out)
      | (have hgd := X2; go_at_call 10; refine (refBkFew_any _ w2 m _ L2 (HS2.out.ext X2.out) _ HF2.out).mono ?_; rintro e w3 ⟨rfl, x3⟩; have X3 : Hid (Ext W0 w3) := Lib.hid (X2.out.trans x3); clear x3; clear k0 k1 m0 m1 a0 a1 a3 a4; obtain ⟨⟨k0, k1⟩, ⟨m0, m1⟩, ⟨a0, a1⟩, a3, a4⟩ := HKA.out w3 X3.out)
      | (go_at_call 10; refine (refBkFew_any _ w1 n _ M (HS.out.ext X1.out) _ HF1.out).mono ?_; rintro e w2 ⟨rfl, x2⟩; have X2 : Hid (Ext W0 w2) := Lib.hid (X1.out.trans x2); clear x2; clear k0 k1 m0 m1 a0 a1 a3 a4; obtain ⟨⟨k0, k1⟩, ⟨m0, m1⟩, ⟨a0, a1⟩, a3, a4⟩ := HKA.out w2 X2.out)
      | (go_at_call 11; refine (fewA_any Non _ _ [(k, sid, mm, N)] (act_lit w3 k sid mm no N nc (HN.out.ext X3.out)) _ HF3.out).mono ?_; rintro e w4 ⟨rfl, x4⟩; have X4 : Hid (Ext W0 w4) := Lib.hid (X3.out.trans (((Ext.refl w3).alloc _).trans x4)); clear x4; clear k0 k1 m0 m1 a0 a1 a3 a4; obtain ⟨⟨k0, k1⟩, ⟨m0, m1⟩, ⟨a0, a1⟩, a3, a4⟩ := HKA.out w4 X4.out))
    go_ret
    exact ⟨rfl, X0.out.trans X9.out⟩
  obtain ⟨g1, g2⟩ := fewH_iff.1 hf1
  obtain ⟨g3, g4⟩ := fewH_iff.1 hf2
  have g5 := (fewA_yes.1 hf3).2 _ (List.mem_cons_self ..)
  have HOKL : Hid (M.length ≤ 1000) := Lib.hid (by omega)
  have HOKS : Hid (∀ s ∈ M, s.need.length ≤ 1000) := Lib.hid fun s hs => Nat.le_trans (g2 s hs) (by decide)
  have HOKL2 : Hid (L2.length ≤ 1000) := Lib.hid (by omega)
  have HOKS2 : Hid (∀ s ∈ L2, s.need.length ≤ 1000) := Lib.hid fun s hs => Nat.le_trans (g4 s hs) (by decide)
  have hNl : N.length ≤ 1000 := Nat.le_trans g5 (by decide)
  obtain ⟨kk, hkk'⟩ : ∃ kk : Int, min (max k 0) 5 = kk := ⟨_, rfl⟩
  have hkk : 0 ≤ kk ∧ kk ≤ 5 := by omega
  obtain ⟨⟨⟨q1, q2⟩, q4, q3⟩, hq⟩ : ∃ r, stepH (n, M) kk sid mm N = r := ⟨_, rfl⟩
  have HST := Lib.hid hq
  clear hf1 hf2 hf3 g1 g2 g3 g4 g5 hq
  go_enter Try.func3, Try.ntmps3
  go_upto_region 1 with (fail)
  rw [← HW0.out]
  go_upto_region 3 with (first
    | (go_at_call 9; refine (awakeH_any _).mono ?_; rintro e w1 ⟨rfl, x1⟩; have X1 : Hid (Ext W0 w1) := Lib.hid x1; clear x1; clear k0 k1 m0 m1 a0 a1 a3 a4; obtain ⟨⟨k0, k1⟩, ⟨m0, m1⟩, ⟨a0, a1⟩, a3, a4⟩ := HKA.out w1 X1.out)
    | (have hgd := X2; go_at_call 10; refine (refBkFew_any _ w2 m _ L2 (HS2.out.ext X2.out) _ HF2.out).mono ?_; rintro e w3 ⟨rfl, x3⟩; have X3 : Hid (Ext W0 w3) := Lib.hid (X2.out.trans x3); clear x3; clear k0 k1 m0 m1 a0 a1 a3 a4; obtain ⟨⟨k0, k1⟩, ⟨m0, m1⟩, ⟨a0, a1⟩, a3, a4⟩ := HKA.out w3 X3.out)
    | (go_at_call 10; refine (refBkFew_any _ w1 n _ M (HS.out.ext X1.out) _ HF1.out).mono ?_; rintro e w2 ⟨rfl, x2⟩; have X2 : Hid (Ext W0 w2) := Lib.hid (X1.out.trans x2); clear x2; clear k0 k1 m0 m1 a0 a1 a3 a4; obtain ⟨⟨k0, k1⟩, ⟨m0, m1⟩, ⟨a0, a1⟩, a3, a4⟩ := HKA.out w2 X2.out)
    | (go_at_call 11; refine (fewA_any Non _ _ [(k, sid, mm, N)] (act_lit w3 k sid mm no N nc (HN.out.ext X3.out)) _ HF3.out).mono ?_; rintro e w4 ⟨rfl, x4⟩; have X4 : Hid (Ext W0 w4) := Lib.hid (X3.out.trans (((Ext.refl w3).alloc _).trans x4)); clear x4; clear k0 k1 m0 m1 a0 a1 a3 a4; obtain ⟨⟨k0, k1⟩, ⟨m0, m1⟩, ⟨a0, a1⟩, a3, a4⟩ := HKA.out w4 X4.out))
  have f0 := blk_free (keepU A0.out X4.out) 0
  have hmk : min (max k 0) 5 = kk := hkk'
  go_upto_region 4 with (fail)
  clear hmk hkk'
  obtain ⟨W8, hW8⟩ : ∃ q, q = w4.setCell ⟨w.heap.size + 2, 0, none⟩ (.int .i64 kk) := ⟨_, rfl⟩
  have o8 : Off (fun b => b = w.heap.size + 2) w4 W8 := by rw [hW8]; exact off_set w4 ⟨w.heap.size + 2, 0, none⟩ _
  have J8 : Hid (W8.heap[w.heap.size + 2]? = some (.cells #[.int .i64 kk, .int .i64 sid, .int .i64 mm, .slice no N.length nc] 27 (0, 0))) := Lib.hid (by rw [hW8, blk_set (keepU A0.out X4.out)]; rfl)
  have B8 : Hid (W8.heap[w.heap.size]? = some (.cells #[.int .i64 n, .slice qa M.length qc] 24 (0, 0))) := Lib.hid (o8.blk (keepU B0.out X4.out) (by omega))
  have C8 : Hid (W8.heap[w.heap.size + 1]? = some (.cells #[.int .i64 m, .slice bo L2.length d] 24 (0, 0))) := Lib.hid (o8.blk (keepU C0.out X4.out) (by omega))
  have Y8 : Hid (Ext w W8) := Lib.hid (ext_off (X0.out.trans X4.out) o8 (fun b hb => by omega))
  have HNN := Lib.hid (HN0.out.ext Y8.out)
  have NB := Lib.hid (HSW.out.ext Y8.out)
  have NC := Lib.hid (HSW2.out.ext Y8.out)
  rw [← hW8]
  clear hW8 f0 o8 k0 k1 m0 m1 a0 a1 a3 a4
  have HB : Hid (∀ V, Ext W8 V → V.cell? ⟨w.heap.size, 0, none⟩ = some (.int .i64 n) ∧ V.cell? ⟨w.heap.size, 1, none⟩ = some (.slice qa M.length qc)) := Lib.hid fun V hV => ⟨blk_cell (keepU B8.out hV) 0 rfl, blk_cell (keepU B8.out hV) 1 rfl⟩
  have HBC : Hid (∀ V, Ext W8 V → V.cell? ⟨w.heap.size + 1, 0, none⟩ = some (.int .i64 m) ∧ V.cell? ⟨w.heap.size + 1, 1, none⟩ = some (.slice bo L2.length d)) := Lib.hid fun V hV => ⟨blk_cell (keepU C8.out hV) 0 rfl, blk_cell (keepU C8.out hV) 1 rfl⟩
  have HAC : Hid (∀ V, Ext W8 V → (V.cell? ⟨w.heap.size + 2, 0, none⟩ = some (.int .i64 kk) ∧ V.cell? ⟨w.heap.size + 2, 1, none⟩ = some (.int .i64 sid)) ∧ V.cell? ⟨w.heap.size + 2, 2, none⟩ = some (.int .i64 mm) ∧ V.cell? ⟨w.heap.size + 2, 3, none⟩ = some (.slice no N.length nc)) := Lib.hid fun V hV => ⟨⟨blk_cell (keepU J8.out hV) 0 rfl, blk_cell (keepU J8.out hV) 1 rfl⟩, blk_cell (keepU J8.out hV) 2 rfl, blk_cell (keepU J8.out hV) 3 rfl⟩
  have HFL : Hid (∀ b, Non b → b < W8.heap.size) := Lib.hid fun b hb => hb.elim
  go_cut [9, 10, 11] (fun s7 s8 s9 wx => ∃ gx a2 m2 c2 b2 i2 j2, s7 = .pointer (some ⟨gx, 0, none⟩) ∧ s8 = .slice b2 i2 j2 ∧ s9 = .int .i64 q3 ∧ Hid (Ext W8 wx ∧ wx.heap[gx]? = some (.cells #[.int .i64 q1, .slice a2 m2 c2] 24 (0, 0)) ∧ Ns HV Non wx (.slice a2 m2 c2) q2 ∧ Sa Non wx (.slice b2 i2 j2) q4))
  case first =>
    (refine wp_region_X_lit (K := fun V => Ext W8 V) (by kernel_rfl) (fun w1 hw1 => ?_))
    have Y1 : Hid (Ext W8 w1) := Lib.hid hw1
    clear hw1
    refine xtv 0 (hv := by intro w' hw'; obtain ⟨c0, c1⟩ := HB.out w' hw'; go_simp; first | done | with_reducible rfl) (h := ?_)
    refine xtv 2 (hv := by intro w' hw'; obtain ⟨⟨c0, c1⟩, c2, c3⟩ := HAC.out w' hw'; go_simp; first | done | with_reducible rfl) (h := ?_)
    refine xtwo 1 8 (hk := Y1.out) (h := RunX.of 1 (h := ?_)) (h' := RunX.of 8 (h := ?_))
    · go_simp
      refine (ownBk_any Non w1 n _ M (NB.out.ext Y1.out) HOKL.out HOKS.out (fun b hb => by have := Below.size Y1.out; have := HFL.out b hb; omega)).mono ?_
      rintro e2 w2 ⟨a1, m1, c1, rfl, n2, x2⟩
      have O2 := Lib.hid n2
      have Y2 : Hid (Ext W8 w2) := Lib.hid (Y1.out.trans x2)
      have Z2 : Hid (Ext w1 w2) := Lib.hid x2
      clear n2 x2
      dsimp only
      (try (simp only [Act.put, List.setIfInBounds_toArray, List.set]))
      refine xtwo 3 8 (hk := Y2.out) (h := RunX.of 3 (h := ?_)) (h' := RunX.of 8 (h := ?_))
      · go_simp
        refine (HST.out ▸ act_any Non w2 n kk sid mm _ _ M N O2.out (HNN.out.ext Y2.out) HOKL.out hNl (fun b hb => by have := Below.size Y2.out; have := HFL.out b hb; omega) hkk).mono ?_
        rintro e3 w3 ⟨a2, m2, c2, b2, i2, j2, rfl, n3, s3, x3⟩
        dsimp only at n3 s3 ⊢
        have N3 := Lib.hid n3
        have S3 := Lib.hid s3
        have Y3 : Hid (Ext W8 w3) := Lib.hid (Y2.out.trans x3)
        have Z3 : Hid (Ext w2 w3) := Lib.hid x3
        clear n3 s3 x3
        (try (simp only [Act.put, List.setIfInBounds_toArray, List.set]))
        refine xtv 4 (h := ?_)
        refine xtv 5 (h := ?_)
        refine xtv 6 (h := ?_)
        refine xtv 7 (h := ?_)
        refine xone 8 (hk := Y3.out) (h := RunX.of 8 (h := ?_))
        go_simp
        (try (simp only [Act.put, List.setIfInBounds_toArray, List.set]))
        obtain ⟨w4, hw4⟩ : ∃ q, q = w3.alloc (.cells #[.int .i64 0, .slice none 0 0] 24) := ⟨_, rfl⟩
        obtain ⟨gx, hgx⟩ : ∃ g, g = w3.heap.size := ⟨_, rfl⟩
        have D4 : Hid (w4.heap[gx]? = some (.cells #[.int .i64 0, .slice none 0 0] 24 (0, 0))) := Lib.hid (hw4 ▸ hgx ▸ at0 w3 _)
        have hgw : W8.heap.size ≤ gx := by have := Below.size Y3.out; omega
        have Y4 : Hid (Ext W8 w4) := Lib.hid (hw4 ▸ Y3.out.alloc _)
        have Z4 : Hid (Ext w3 w4) := Lib.hid (hw4 ▸ (Ext.refl _).alloc _)
        skip
        have NG4 : Hid (Ns HV (fun b => Non b ∨ b = gx) w4 (.slice a2 m2 c2) q2 ∧ Sa (fun b => Non b ∨ b = gx) w4 (.slice b2 i2 j2) q4) := Lib.hid ⟨(N3.out.grow (G := (fun b => Non b ∨ b = gx)) (fun b hb => hb.imp (fun q => q) (fun e => by omega))).ext Z4.out, S3.out.off (Off.of_ext Z4.out) (fun b hb => hb.imp (fun q => q) (fun e => by omega))⟩
        rw [← hw4, ← hgx]
        clear hw4 hgx
        refine xone 9 (hk := Y4.out) (h := RunX.of 9 (h := ?_))
        refine wp_st 24 (.tmp 9) (.tmp 49) rfl gx 0 24 #[.int .i64 0, .slice none 0 0] #[.int .i64 q1, .slice a2 m2 c2] _ rfl rfl D4.out (by kernel_rfl) (by simp) rfl rfl ?_
        intro WB hWB oB
        simp only [Act.put]
        have YB : Hid (Ext W8 WB) := Lib.hid (ext_off Y4.out oB (fun b hb => by omega))
        have CB : Hid (Ext W8 WB ∧ WB.heap[gx]? = some (.cells #[.int .i64 q1, .slice a2 m2 c2] 24 (0, 0)) ∧ Ns HV Non WB (.slice a2 m2 c2) q2 ∧ Sa Non WB (.slice b2 i2 j2) q4) := Lib.hid ⟨YB.out, hWB, ns_less (NG4.out.1.off (oB.mono (fun b hb => .inr hb)) (Grows.refl _ _)) (fun b hb => .inl hb), (NG4.out.2.off (oB.mono (fun b hb => .inr hb)) (Grows.refl _ _)).off (Off.refl _ _) (fun b hb => .inl (.inl hb))⟩
        clear hWB oB
        refine xtv 10 (h := ?_)
        refine xtv 11 (h := ?_)
        (refine xdone (by kernel_rfl) (YB.out) ?_)
        go_wp2_with fail
        go_meet
        exact ⟨gx, a2, m2, c2, b2, i2, j2, rfl, rfl, rfl, CB⟩
      · go_simp
        (try (simp only [Act.put, List.setIfInBounds_toArray, List.set]))
        obtain ⟨w5, hw5⟩ : ∃ q, q = w2.alloc (.cells #[.int .i64 0, .slice none 0 0] 24) := ⟨_, rfl⟩
        obtain ⟨gx, hgx⟩ : ∃ g, g = w2.heap.size := ⟨_, rfl⟩
        have D5 : Hid (w5.heap[gx]? = some (.cells #[.int .i64 0, .slice none 0 0] 24 (0, 0))) := Lib.hid (hw5 ▸ hgx ▸ at0 w2 _)
        have hgw : W8.heap.size ≤ gx := by have := Below.size Y2.out; omega
        have Y5 : Hid (Ext W8 w5) := Lib.hid (hw5 ▸ Y2.out.alloc _)
        have Z5 : Hid (Ext w2 w5) := Lib.hid (hw5 ▸ (Ext.refl _).alloc _)
        have OG5 : Hid (Ns HV (fun b => Non b ∨ b = gx) w5 (.slice a1 m1 c1) M) := Lib.hid ((O2.out.grow (G := (fun b => Non b ∨ b = gx)) (fun b hb => hb.imp (fun q => q) (fun e => by omega))).ext Z5.out)
        skip
        rw [← hw5, ← hgx]
        clear hw5 hgx
        refine xone 3 (hk := Y5.out) (h := RunX.of 3 (h := ?_))
        go_simp
        refine (HST.out ▸ act_any (fun b => Non b ∨ b = gx) w5 n kk sid mm _ _ M N OG5.out (HNN.out.ext Y5.out) HOKL.out hNl (fun b hb => by have := Below.size Y5.out; rcases hb with hb | hb; (have := HFL.out b hb; omega); (have := blk_lt D5.out; omega)) hkk).mono ?_
        rintro e6 w6 ⟨a2, m2, c2, b2, i2, j2, rfl, n6, s6, x6⟩
        dsimp only at n6 s6 ⊢
        have N6 := Lib.hid n6
        have S6 := Lib.hid s6
        have Y6 : Hid (Ext W8 w6) := Lib.hid (Y5.out.trans x6)
        have Z6 : Hid (Ext w5 w6) := Lib.hid x6
        clear n6 s6 x6
        (try (simp only [Act.put, List.setIfInBounds_toArray, List.set]))
        refine xtv 4 (h := ?_)
        refine xtv 5 (h := ?_)
        refine xtv 6 (h := ?_)
        refine xtv 7 (h := ?_)
        refine xone 9 (hk := Y6.out) (h := RunX.of 9 (h := ?_))
        refine wp_st 24 (.tmp 9) (.tmp 49) rfl gx 0 24 #[.int .i64 0, .slice none 0 0] #[.int .i64 q1, .slice a2 m2 c2] _ rfl rfl (keepU D5.out Z6.out) (by kernel_rfl) (by simp) rfl rfl ?_
        intro WB hWB oB
        simp only [Act.put]
        have YB : Hid (Ext W8 WB) := Lib.hid (ext_off Y6.out oB (fun b hb => by omega))
        have CB : Hid (Ext W8 WB ∧ WB.heap[gx]? = some (.cells #[.int .i64 q1, .slice a2 m2 c2] 24 (0, 0)) ∧ Ns HV Non WB (.slice a2 m2 c2) q2 ∧ Sa Non WB (.slice b2 i2 j2) q4) := Lib.hid ⟨YB.out, hWB, ns_less (N6.out.off (oB.mono (fun b hb => .inr hb)) (Grows.refl _ _)) (fun b hb => .inl hb), (S6.out.off (oB.mono (fun b hb => .inr hb)) (Grows.refl _ _)).off (Off.refl _ _) (fun b hb => .inl (.inl hb))⟩
        clear hWB oB
        refine xtv 10 (h := ?_)
        refine xtv 11 (h := ?_)
        (refine xdone (by kernel_rfl) (YB.out) ?_)
        go_wp2_with fail
        go_meet
        exact ⟨gx, a2, m2, c2, b2, i2, j2, rfl, rfl, rfl, CB⟩
    · go_simp
      (try (simp only [Act.put, List.setIfInBounds_toArray, List.set]))
      obtain ⟨w7, hw7⟩ : ∃ q, q = w1.alloc (.cells #[.int .i64 0, .slice none 0 0] 24) := ⟨_, rfl⟩
      obtain ⟨gx, hgx⟩ : ∃ g, g = w1.heap.size := ⟨_, rfl⟩
      have D7 : Hid (w7.heap[gx]? = some (.cells #[.int .i64 0, .slice none 0 0] 24 (0, 0))) := Lib.hid (hw7 ▸ hgx ▸ at0 w1 _)
      have hgw : W8.heap.size ≤ gx := by have := Below.size Y1.out; omega
      have Y7 : Hid (Ext W8 w7) := Lib.hid (hw7 ▸ Y1.out.alloc _)
      have Z7 : Hid (Ext w1 w7) := Lib.hid (hw7 ▸ (Ext.refl _).alloc _)
      skip
      skip
      rw [← hw7, ← hgx]
      clear hw7 hgx
      refine xone 1 (hk := Y7.out) (h := RunX.of 1 (h := ?_))
      go_simp
      refine (ownBk_any (fun b => Non b ∨ b = gx) w7 n _ M ((NB.out.grow (G := (fun b => Non b ∨ b = gx)) (fun b hb => hb.imp (fun q => q) (fun e => by omega))).ext Y7.out) HOKL.out HOKS.out (fun b hb => by have := Below.size Y7.out; rcases hb with hb | hb; (have := HFL.out b hb; omega); (have := blk_lt D7.out; omega))).mono ?_
      rintro e8 w8 ⟨a1, m1, c1, rfl, n8, x8⟩
      have O8 := Lib.hid n8
      have Y8 : Hid (Ext W8 w8) := Lib.hid (Y7.out.trans x8)
      have Z8 : Hid (Ext w7 w8) := Lib.hid x8
      clear n8 x8
      dsimp only
      (try (simp only [Act.put, List.setIfInBounds_toArray, List.set]))
      refine xone 3 (hk := Y8.out) (h := RunX.of 3 (h := ?_))
      go_simp
      refine (HST.out ▸ act_any (fun b => Non b ∨ b = gx) w8 n kk sid mm _ _ M N O8.out (HNN.out.ext Y8.out) HOKL.out hNl (fun b hb => by have := Below.size Y8.out; rcases hb with hb | hb; (have := HFL.out b hb; omega); (have := blk_lt (keepU D7.out Z8.out); omega)) hkk).mono ?_
      rintro e9 w9 ⟨a2, m2, c2, b2, i2, j2, rfl, n9, s9, x9⟩
      dsimp only at n9 s9 ⊢
      have N9 := Lib.hid n9
      have S9 := Lib.hid s9
      have Y9 : Hid (Ext W8 w9) := Lib.hid (Y8.out.trans x9)
      have Z9 : Hid (Ext w8 w9) := Lib.hid x9
      clear n9 s9 x9
      (try (simp only [Act.put, List.setIfInBounds_toArray, List.set]))
      refine xtv 4 (h := ?_)
      refine xtv 5 (h := ?_)
      refine xtv 6 (h := ?_)
      refine xtv 7 (h := ?_)
      refine xone 9 (hk := Y9.out) (h := RunX.of 9 (h := ?_))
      refine wp_st 24 (.tmp 9) (.tmp 49) rfl gx 0 24 #[.int .i64 0, .slice none 0 0] #[.int .i64 q1, .slice a2 m2 c2] _ rfl rfl (keepU (keepU D7.out Z8.out) Z9.out) (by kernel_rfl) (by simp) rfl rfl ?_
      intro WB hWB oB
      simp only [Act.put]
      have YB : Hid (Ext W8 WB) := Lib.hid (ext_off Y9.out oB (fun b hb => by omega))
      have CB : Hid (Ext W8 WB ∧ WB.heap[gx]? = some (.cells #[.int .i64 q1, .slice a2 m2 c2] 24 (0, 0)) ∧ Ns HV Non WB (.slice a2 m2 c2) q2 ∧ Sa Non WB (.slice b2 i2 j2) q4) := Lib.hid ⟨YB.out, hWB, ns_less (N9.out.off (oB.mono (fun b hb => .inr hb)) (Grows.refl _ _)) (fun b hb => .inl hb), (S9.out.off (oB.mono (fun b hb => .inr hb)) (Grows.refl _ _)).off (Off.refl _ _) (fun b hb => .inl (.inl hb))⟩
      clear hWB oB
      refine xtv 10 (h := ?_)
      refine xtv 11 (h := ?_)
      (refine xdone (by kernel_rfl) (YB.out) ?_)
      go_wp2_with fail
      go_meet
      exact ⟨gx, a2, m2, c2, b2, i2, j2, rfl, rfl, rfl, CB⟩
  case rest =>
    obtain ⟨gx, a2, m2, c2, b2, i2, j2, rfl, rfl, rfl, HCUT⟩ := hcut
    obtain ⟨x9, d9, n9, s9⟩ := HCUT.out
    have X9 := Lib.hid x9
    have D9 := Lib.hid d9
    have N9 := Lib.hid n9
    have S9 := Lib.hid s9
    have HTO : Hid (Calls Try.prog 14 #[.agg #[.int .i64 n, .slice qa M.length qc], .agg #[.int .i64 kk, .int .i64 sid, .int .i64 mm, .slice no N.length nc]] wc (GivesBkL Non wc ((q1, q2), q4, q3))) := Lib.hid (HST.out ▸ told_any Non wc n kk sid mm _ _ M N (NB.out.ext x9) (HNN.out.ext x9) HOKL.out hNl (fun b hb => hb.elim) hkk)
    obtain ⟨k0, k1⟩ := HB.out wc x9
    obtain ⟨⟨k2, k3⟩, k4, k5⟩ := HAC.out wc x9
    have d0 := blk_cell d9 0 rfl
    have d1 := blk_cell d9 1 rfl
    clear x9 d9 n9 s9 HCUT
    go_wp2_with (first
      | (go_at_call 14; refine (HTO.out).mono ?_; rintro e wT ⟨a3, m3, c3, b3, i3, j3, rfl, n3, s3, x3⟩; dsimp only at n3 s3 ⊢; have N3 := Lib.hid n3; have S3 := Lib.hid s3; have XT : Hid (Ext wc wT) := Lib.hid x3; clear n3 s3 x3 d0 d1 k0 k1 k2 k3 k4 k5)
      | refine haltst 24 ?_)
    refine .inl ?_
    obtain ⟨g12, hg12⟩ : ∃ g, g = wT.heap.size := ⟨_, rfl⟩
    have hb := at0 wT (.cells #[.int .i64 0, .slice none 0 0] 24)
    rw [← hg12] at hb ⊢
    refine st_l 24 (.tmp 12) (.tmp 56) g12 0 24 _ #[.int .i64 q1, .slice a3 m3 c3] _ rfl rfl hb (by kernel_rfl) (by simp) rfl rfl ?_
    intro W12 hW12 o12
    simp only [Act.put]
    have E12 := Lib.hid hW12
    have XTW : Hid (Ext wT W12) := Lib.hid (ext_off ((Ext.refl wT).alloc _) o12 (fun b hb => by omega))
    have X912 : Hid (Ext wc W12) := Lib.hid (XT.out.trans XTW.out)
    have X812 : Hid (Ext W8 W12) := Lib.hid (X9.out.trans X912.out)
    have X12 : Hid (Ext w W12) := Lib.hid (Y8.out.trans X812.out)
    have D12 := Lib.hid (keepU D9.out X912.out)
    have N12 := Lib.hid (N9.out.ext X912.out)
    have S12 := Lib.hid (S9.out.ext X912.out)
    have T12 := Lib.hid (N3.out.ext XTW.out)
    have U12 := Lib.hid (S3.out.ext XTW.out)
    have NB12 := Lib.hid (NB.out.ext X812.out)
    have NC12 := Lib.hid (NC.out.ext X812.out)
    have HB12 : Hid (∀ V, Ext W12 V → V.cell? ⟨w.heap.size, 0, none⟩ = some (.int .i64 n) ∧ V.cell? ⟨w.heap.size, 1, none⟩ = some (.slice qa M.length qc)) := Lib.hid fun V hV => HB.out V (X812.out.trans hV)
    have HC12 : Hid (∀ V, Ext W12 V → V.cell? ⟨w.heap.size + 1, 0, none⟩ = some (.int .i64 m) ∧ V.cell? ⟨w.heap.size + 1, 1, none⟩ = some (.slice bo L2.length d)) := Lib.hid fun V hV => HBC.out V (X812.out.trans hV)
    clear hW12 o12 hg12 hb hkk hNl
    obtain ⟨s0, hs0⟩ : ∃ s, decide (((n, M) : Bk) = (m, L2)) = s := ⟨_, rfl⟩
    have HS0 := Lib.hid hs0
    clear hs0
    obtain ⟨k0, k1⟩ := HB12.out W12 (Ext.refl _)
    cases ht : chkH (n, M)
    · have hpo : pollH (n, M) id = (0, 170) := by unfold pollH; rw [if_neg (by rw [ht]; exact Bool.false_ne_true)]
      obtain ⟨r, hfi⟩ : ∃ r, findH M id = r := ⟨_, rfl⟩
      have HPO : Hid (∀ V v, Ns HV Non V v M → Calls Try.prog 15 #[.agg #[.int .i64 n, v], .int .i64 id] V fun e w' => e = .returned (.tuple #[.int .i64 0, .int .i64 170]) ∧ Ext V w') := Lib.hid fun V v hv => by
        have := sessPoll_any Non V n id v M hv HOKL.out
        rw [hpo] at this
        exact this
      have HFI : Hid (∀ V, Ext W12 V → Calls Try.prog 16 #[.agg #[.int .i64 n, .slice qa M.length qc], .int .i64 id] V fun e w' => e = .returned (.int .i64 r) ∧ Ext V w') := Lib.hid fun V hV => refFind_any _ V n id _ M (NB12.out.ext hV) _ hfi
      have HCH : Hid (∀ V, Ext W12 V → Calls Try.prog 17 #[.agg #[.int .i64 n, .slice qa M.length qc]] V fun e w' => e = .returned (.bool false) ∧ Ext V w') := Lib.hid fun V hV => refBkCheck_any _ V n _ M (NB12.out.ext hV) _ ht
      have HCKS : Hid (∀ V v, Ns HV Non V v M → Calls Try.prog 20 #[.agg #[.int .i64 n, v]] V fun e w' => e = .returned (.int .i64 170) ∧ Ext V w') := Lib.hid fun V v hv => sessCheck_any _ V n v M hv HOKL.out _ ht
      clear hpo hfi ht
      go_upto_region 16 with (first
        | (go_at_call 13; refine (ownBk_any Non W12 n _ M NB12.out HOKL.out HOKS.out (fun b hb => hb.elim)).mono ?_; rintro e wO ⟨a5, m5, c5, rfl, n5, x5⟩; have N5 := Lib.hid n5; have XO : Hid (Ext W12 wO) := Lib.hid x5; clear n5 x5 k0 k1)
        | (go_at_call 15; refine (HPO.out wO _ N5.out).mono ?_; rintro e wP ⟨rfl, x6⟩; have XP : Hid (Ext W12 wP) := Lib.hid (XO.out.trans x6); clear x6; obtain ⟨k0, k1⟩ := HB12.out wP XP.out)
        | (go_at_call 16; refine (HFI.out wP (XP.out)).mono ?_; rintro e wF ⟨rfl, x7⟩; have XF : Hid (Ext W12 wF) := Lib.hid (XP.out.trans x7); clear x7 k0 k1; obtain ⟨k0, k1⟩ := HB12.out wF XF.out)
        | (go_at_call 17; refine (HCH.out wF (XF.out)).mono ?_; rintro e wR ⟨rfl, x8⟩; have XRR : Hid (Ext W12 wR) := Lib.hid (XF.out.trans x8); clear x8 k0 k1; obtain ⟨k0, k1⟩ := HB12.out wR XRR.out; skip))
      have XR : Hid (Ext w wR) := Lib.hid (X12.out.trans XRR.out)
      have HG9 : Hid (∀ V, Ext wR V → V.cell? ⟨gx, 0, none⟩ = some (.int .i64 q1) ∧ V.cell? ⟨gx, 1, none⟩ = some (.slice a2 m2 c2)) := Lib.hid fun V hV => ⟨blk_cell (keepU D12.out (XRR.out.trans hV)) 0 rfl, blk_cell (keepU D12.out (XRR.out.trans hV)) 1 rfl⟩
      have HG12 : Hid (∀ V, Ext wR V → V.cell? ⟨g12, 0, none⟩ = some (.int .i64 q1) ∧ V.cell? ⟨g12, 1, none⟩ = some (.slice a3 m3 c3)) := Lib.hid fun V hV => ⟨blk_cell (keepU E12.out (XRR.out.trans hV)) 0 rfl, blk_cell (keepU E12.out (XRR.out.trans hV)) 1 rfl⟩
      have HGB : Hid (∀ V, Ext wR V → V.cell? ⟨w.heap.size, 0, none⟩ = some (.int .i64 n) ∧ V.cell? ⟨w.heap.size, 1, none⟩ = some (.slice qa M.length qc)) := Lib.hid fun V hV => HB12.out V (XRR.out.trans hV)
      have HGC : Hid (∀ V, Ext wR V → V.cell? ⟨w.heap.size + 1, 0, none⟩ = some (.int .i64 m) ∧ V.cell? ⟨w.heap.size + 1, 1, none⟩ = some (.slice bo L2.length d)) := Lib.hid fun V hV => HC12.out V (XRR.out.trans hV)
      have NR9 := Lib.hid (N12.out.ext XRR.out)
      have NR12 := Lib.hid (T12.out.ext XRR.out)
      have SR9 := Lib.hid (S12.out.ext XRR.out)
      have SR12 := Lib.hid (U12.out.ext XRR.out)
      have NRB := Lib.hid (NB12.out.ext XRR.out)
      have NRC := Lib.hid (NC12.out.ext XRR.out)
      clear k0 k1
      (refine wp_region_X_lit (K := fun V => Ext wR V) (by kernel_rfl) (fun w1 hw1 => ?_))
      have Y1 : Hid (Ext wR w1) := Lib.hid hw1
      clear hw1
      refine xtv 0 (hv := by intro w' hw'; obtain ⟨c0, c1⟩ := HG9.out w' hw'; go_simp; first | done | with_reducible rfl) (h := ?_)
      refine xtv 1 (hv := by intro w' hw'; obtain ⟨c0, c1⟩ := HG12.out w' hw'; go_simp; first | done | with_reducible rfl) (h := ?_)
      refine xone 2 (hk := Y1.out) (h := RunX.of 2 (h := ?_))
      go_simp
      refine (refBkSame_any Non Non w1 q1 q1 _ _ q2 q2 (NR9.out.ext Y1.out) (NR12.out.ext Y1.out) true (by simp)).mono ?_
      rintro e2 w2 ⟨rfl, x2⟩
      have Y2 : Hid (Ext wR w2) := Lib.hid (Y1.out.trans x2)
      clear x2
      dsimp only
      (try (simp only [Act.put, List.setIfInBounds_toArray, List.set]))
      refine xtv 3 (h := ?_)
      refine xtv 4 (h := ?_)
      refine xtv 5 (h := ?_)
      refine xone 6 (hk := Y2.out) (h := RunX.of 6 (h := ?_))
      go_simp
      refine (refSame_val true w2 _ _ q4 q4 ((SR9.out.ext Y2.out).sl) ((SR12.out.ext Y2.out).sl) (by simp)).mono ?_
      rintro e3 w3 ⟨rfl, x3⟩
      have Y3 : Hid (Ext wR w3) := Lib.hid (Y2.out.trans (Ext.of_drew x3))
      clear x3
      dsimp only
      (try (simp only [Act.put, List.setIfInBounds_toArray, List.set]))
      refine xtv 7 (h := ?_)
      refine xtv 8 (h := ?_)
      refine xtv 9 (h := ?_)
      refine xtv 10 (h := ?_)
      refine xtv 11 (h := ?_)
      refine xtv 12 (h := ?_)
      refine xtv 13 (h := ?_)
      refine xtv 14 (hv := by intro w' hw'; obtain ⟨c0, c1⟩ := HGB.out w' hw'; go_simp; first | done | with_reducible rfl) (h := ?_)
      refine xtv 18 (h := ?_)
      refine xone 15 (hk := Y3.out) (h := RunX.of 15 (h := ?_))
      go_simp
      refine (ownBk_any Non w3 n _ M (NRB.out.ext Y3.out) HOKL.out HOKS.out (fun b hb => hb.elim)).mono ?_
      rintro e4 w4 ⟨a4, m4, c4, rfl, n4, x4⟩
      have N4 := Lib.hid n4
      have Y4 : Hid (Ext wR w4) := Lib.hid (Y3.out.trans x4)
      clear n4 x4
      dsimp only
      (try (simp only [Act.put, List.setIfInBounds_toArray, List.set]))
      refine xone 16 (hk := Y4.out) (h := RunX.of 16 (h := ?_))
      go_simp
      refine (HCKS.out w4 _ N4.out).mono ?_
      rintro e5 w5 ⟨rfl, x5⟩
      have Y5 : Hid (Ext wR w5) := Lib.hid (Y4.out.trans x5)
      clear x5
      dsimp only
      (try (simp only [Act.put, List.setIfInBounds_toArray, List.set]))
      refine xtv 17 (h := ?_)
      refine xtv 19 (h := ?_)
      refine xtv 20 (h := ?_)
      refine xtv 21 (h := ?_)
      refine xtv 22 (hv := by intro w' hw'; obtain ⟨c0, c1⟩ := HGB.out w' hw'; go_simp; first | done | with_reducible rfl) (h := ?_)
      refine xtv 24 (hv := by intro w' hw'; obtain ⟨c0, c1⟩ := HGC.out w' hw'; go_simp; first | done | with_reducible rfl) (h := ?_)
      refine xtv 27 (hv := by intro w' hw'; obtain ⟨c0, c1⟩ := HGB.out w' hw'; go_simp; first | done | with_reducible rfl) (h := ?_)
      refine xtv 28 (hv := by intro w' hw'; obtain ⟨c0, c1⟩ := HGC.out w' hw'; go_simp; first | done | with_reducible rfl) (h := ?_)
      refine xone 23 (hk := Y5.out) (h := RunX.of 23 (h := ?_))
      go_simp
      refine (ownBk_any Non w5 n _ M (NRB.out.ext Y5.out) HOKL.out HOKS.out (fun b hb => hb.elim)).mono ?_
      rintro e6 w6 ⟨a6, m6, c6, rfl, n6, x6⟩
      have N6 := Lib.hid n6
      have Y6 : Hid (Ext wR w6) := Lib.hid (Y5.out.trans x6)
      clear n6 x6
      dsimp only
      (try (simp only [Act.put, List.setIfInBounds_toArray, List.set]))
      refine xone 25 (hk := Y6.out) (h := RunX.of 25 (h := ?_))
      go_simp
      refine (ownBk_any Non w6 m _ L2 (NRC.out.ext Y6.out) HOKL2.out HOKS2.out (fun b hb => hb.elim)).mono ?_
      rintro e7 w7 ⟨a7, m7, c7, rfl, n7, x7⟩
      have N7 := Lib.hid n7
      have N67 := Lib.hid (N6.out.ext x7)
      have Y7 : Hid (Ext wR w7) := Lib.hid (Y6.out.trans x7)
      clear n7 x7
      dsimp only
      (try (simp only [Act.put, List.setIfInBounds_toArray, List.set]))
      refine xone 26 (hk := Y7.out) (h := RunX.of 26 (h := ?_))
      go_simp
      refine (sessSame_any Non Non w7 n m _ _ M L2 N67.out N7.out HOKL.out HOKL2.out s0 HS0.out).mono ?_
      rintro e8 w8 ⟨rfl, x8⟩
      have Y8 : Hid (Ext wR w8) := Lib.hid (Y7.out.trans x8)
      clear x8
      dsimp only
      (try (simp only [Act.put, List.setIfInBounds_toArray, List.set]))
      refine xone 29 (hk := Y8.out) (h := RunX.of 29 (h := ?_))
      go_simp
      refine (refBkSame_any Non Non w8 n m _ _ M L2 (NRB.out.ext Y8.out) (NRC.out.ext Y8.out) s0 HS0.out).mono ?_
      rintro e9 w9 ⟨rfl, x9⟩
      have Y9 : Hid (Ext wR w9) := Lib.hid (Y8.out.trans x9)
      clear x9
      dsimp only
      (try (simp only [Act.put, List.setIfInBounds_toArray, List.set]))
      refine xtv 30 (h := ?_)
      refine xtv 31 (h := ?_)
      refine xtv 32 (h := ?_)
      (refine xdone (by kernel_rfl) (Y9.out) ?_)
      go_wp2
      go_ret
      exact ⟨rfl, XR.out.trans Y9.out⟩
    cases ha : atH M id with
    | none =>
      have hpo : pollH (n, M) id = (0, 174) := by unfold pollH; rw [if_pos ht]; dsimp only; rw [ha]
      have hfi : findH M id = -1 := by unfold findH; rw [ha]
      clear ha
      have HPO : Hid (∀ V v, Ns HV Non V v M → Calls Try.prog 15 #[.agg #[.int .i64 n, v], .int .i64 id] V fun e w' => e = .returned (.tuple #[.int .i64 0, .int .i64 174]) ∧ Ext V w') := Lib.hid fun V v hv => by
        have := sessPoll_any Non V n id v M hv HOKL.out
        rw [hpo] at this
        exact this
      have HFI : Hid (∀ V, Ext W12 V → Calls Try.prog 16 #[.agg #[.int .i64 n, .slice qa M.length qc], .int .i64 id] V fun e w' => e = .returned (.int .i64 (-1)) ∧ Ext V w') := Lib.hid fun V hV => refFind_any _ V n id _ M (NB12.out.ext hV) _ hfi
      have HCH : Hid (∀ V, Ext W12 V → Calls Try.prog 17 #[.agg #[.int .i64 n, .slice qa M.length qc]] V fun e w' => e = .returned (.bool true) ∧ Ext V w') := Lib.hid fun V hV => refBkCheck_any _ V n _ M (NB12.out.ext hV) _ ht
      have HCKS : Hid (∀ V v, Ns HV Non V v M → Calls Try.prog 20 #[.agg #[.int .i64 n, v]] V fun e w' => e = .returned (.int .i64 0) ∧ Ext V w') := Lib.hid fun V v hv => sessCheck_any _ V n v M hv HOKL.out _ ht
      clear hpo hfi ht
      go_upto_region 16 with (first
        | (go_at_call 13; refine (ownBk_any Non W12 n _ M NB12.out HOKL.out HOKS.out (fun b hb => hb.elim)).mono ?_; rintro e wO ⟨a5, m5, c5, rfl, n5, x5⟩; have N5 := Lib.hid n5; have XO : Hid (Ext W12 wO) := Lib.hid x5; clear n5 x5 k0 k1)
        | (go_at_call 15; refine (HPO.out wO _ N5.out).mono ?_; rintro e wP ⟨rfl, x6⟩; have XP : Hid (Ext W12 wP) := Lib.hid (XO.out.trans x6); clear x6; obtain ⟨k0, k1⟩ := HB12.out wP XP.out)
        | (go_at_call 16; refine (HFI.out wP (XP.out)).mono ?_; rintro e wF ⟨rfl, x7⟩; have XF : Hid (Ext W12 wF) := Lib.hid (XP.out.trans x7); clear x7 k0 k1; obtain ⟨k0, k1⟩ := HB12.out wF XF.out)
        | (go_at_call 17; refine (HCH.out wF (XF.out)).mono ?_; rintro e wR ⟨rfl, x8⟩; have XRR : Hid (Ext W12 wR) := Lib.hid (XF.out.trans x8); clear x8 k0 k1; obtain ⟨k0, k1⟩ := HB12.out wR XRR.out; skip))
      have XR : Hid (Ext w wR) := Lib.hid (X12.out.trans XRR.out)
      have HG9 : Hid (∀ V, Ext wR V → V.cell? ⟨gx, 0, none⟩ = some (.int .i64 q1) ∧ V.cell? ⟨gx, 1, none⟩ = some (.slice a2 m2 c2)) := Lib.hid fun V hV => ⟨blk_cell (keepU D12.out (XRR.out.trans hV)) 0 rfl, blk_cell (keepU D12.out (XRR.out.trans hV)) 1 rfl⟩
      have HG12 : Hid (∀ V, Ext wR V → V.cell? ⟨g12, 0, none⟩ = some (.int .i64 q1) ∧ V.cell? ⟨g12, 1, none⟩ = some (.slice a3 m3 c3)) := Lib.hid fun V hV => ⟨blk_cell (keepU E12.out (XRR.out.trans hV)) 0 rfl, blk_cell (keepU E12.out (XRR.out.trans hV)) 1 rfl⟩
      have HGB : Hid (∀ V, Ext wR V → V.cell? ⟨w.heap.size, 0, none⟩ = some (.int .i64 n) ∧ V.cell? ⟨w.heap.size, 1, none⟩ = some (.slice qa M.length qc)) := Lib.hid fun V hV => HB12.out V (XRR.out.trans hV)
      have HGC : Hid (∀ V, Ext wR V → V.cell? ⟨w.heap.size + 1, 0, none⟩ = some (.int .i64 m) ∧ V.cell? ⟨w.heap.size + 1, 1, none⟩ = some (.slice bo L2.length d)) := Lib.hid fun V hV => HC12.out V (XRR.out.trans hV)
      have NR9 := Lib.hid (N12.out.ext XRR.out)
      have NR12 := Lib.hid (T12.out.ext XRR.out)
      have SR9 := Lib.hid (S12.out.ext XRR.out)
      have SR12 := Lib.hid (U12.out.ext XRR.out)
      have NRB := Lib.hid (NB12.out.ext XRR.out)
      have NRC := Lib.hid (NC12.out.ext XRR.out)
      clear k0 k1
      (refine wp_region_X_lit (K := fun V => Ext wR V) (by kernel_rfl) (fun w1 hw1 => ?_))
      have Y1 : Hid (Ext wR w1) := Lib.hid hw1
      clear hw1
      refine xtv 0 (hv := by intro w' hw'; obtain ⟨c0, c1⟩ := HG9.out w' hw'; go_simp; first | done | with_reducible rfl) (h := ?_)
      refine xtv 1 (hv := by intro w' hw'; obtain ⟨c0, c1⟩ := HG12.out w' hw'; go_simp; first | done | with_reducible rfl) (h := ?_)
      refine xone 2 (hk := Y1.out) (h := RunX.of 2 (h := ?_))
      go_simp
      refine (refBkSame_any Non Non w1 q1 q1 _ _ q2 q2 (NR9.out.ext Y1.out) (NR12.out.ext Y1.out) true (by simp)).mono ?_
      rintro e2 w2 ⟨rfl, x2⟩
      have Y2 : Hid (Ext wR w2) := Lib.hid (Y1.out.trans x2)
      clear x2
      dsimp only
      (try (simp only [Act.put, List.setIfInBounds_toArray, List.set]))
      refine xtv 3 (h := ?_)
      refine xtv 4 (h := ?_)
      refine xtv 5 (h := ?_)
      refine xone 6 (hk := Y2.out) (h := RunX.of 6 (h := ?_))
      go_simp
      refine (refSame_val true w2 _ _ q4 q4 ((SR9.out.ext Y2.out).sl) ((SR12.out.ext Y2.out).sl) (by simp)).mono ?_
      rintro e3 w3 ⟨rfl, x3⟩
      have Y3 : Hid (Ext wR w3) := Lib.hid (Y2.out.trans (Ext.of_drew x3))
      clear x3
      dsimp only
      (try (simp only [Act.put, List.setIfInBounds_toArray, List.set]))
      refine xtv 7 (h := ?_)
      refine xtv 8 (h := ?_)
      refine xtv 9 (h := ?_)
      refine xtv 10 (h := ?_)
      refine xtv 11 (h := ?_)
      refine xtv 12 (h := ?_)
      refine xtv 13 (h := ?_)
      refine xtv 14 (hv := by intro w' hw'; obtain ⟨c0, c1⟩ := HGB.out w' hw'; go_simp; first | done | with_reducible rfl) (h := ?_)
      refine xtv 18 (h := ?_)
      refine xone 15 (hk := Y3.out) (h := RunX.of 15 (h := ?_))
      go_simp
      refine (ownBk_any Non w3 n _ M (NRB.out.ext Y3.out) HOKL.out HOKS.out (fun b hb => hb.elim)).mono ?_
      rintro e4 w4 ⟨a4, m4, c4, rfl, n4, x4⟩
      have N4 := Lib.hid n4
      have Y4 : Hid (Ext wR w4) := Lib.hid (Y3.out.trans x4)
      clear n4 x4
      dsimp only
      (try (simp only [Act.put, List.setIfInBounds_toArray, List.set]))
      refine xone 16 (hk := Y4.out) (h := RunX.of 16 (h := ?_))
      go_simp
      refine (HCKS.out w4 _ N4.out).mono ?_
      rintro e5 w5 ⟨rfl, x5⟩
      have Y5 : Hid (Ext wR w5) := Lib.hid (Y4.out.trans x5)
      clear x5
      dsimp only
      (try (simp only [Act.put, List.setIfInBounds_toArray, List.set]))
      refine xtv 17 (h := ?_)
      refine xtv 19 (h := ?_)
      refine xtv 20 (h := ?_)
      refine xtv 21 (h := ?_)
      refine xtv 22 (hv := by intro w' hw'; obtain ⟨c0, c1⟩ := HGB.out w' hw'; go_simp; first | done | with_reducible rfl) (h := ?_)
      refine xtv 24 (hv := by intro w' hw'; obtain ⟨c0, c1⟩ := HGC.out w' hw'; go_simp; first | done | with_reducible rfl) (h := ?_)
      refine xtv 27 (hv := by intro w' hw'; obtain ⟨c0, c1⟩ := HGB.out w' hw'; go_simp; first | done | with_reducible rfl) (h := ?_)
      refine xtv 28 (hv := by intro w' hw'; obtain ⟨c0, c1⟩ := HGC.out w' hw'; go_simp; first | done | with_reducible rfl) (h := ?_)
      refine xone 23 (hk := Y5.out) (h := RunX.of 23 (h := ?_))
      go_simp
      refine (ownBk_any Non w5 n _ M (NRB.out.ext Y5.out) HOKL.out HOKS.out (fun b hb => hb.elim)).mono ?_
      rintro e6 w6 ⟨a6, m6, c6, rfl, n6, x6⟩
      have N6 := Lib.hid n6
      have Y6 : Hid (Ext wR w6) := Lib.hid (Y5.out.trans x6)
      clear n6 x6
      dsimp only
      (try (simp only [Act.put, List.setIfInBounds_toArray, List.set]))
      refine xone 25 (hk := Y6.out) (h := RunX.of 25 (h := ?_))
      go_simp
      refine (ownBk_any Non w6 m _ L2 (NRC.out.ext Y6.out) HOKL2.out HOKS2.out (fun b hb => hb.elim)).mono ?_
      rintro e7 w7 ⟨a7, m7, c7, rfl, n7, x7⟩
      have N7 := Lib.hid n7
      have N67 := Lib.hid (N6.out.ext x7)
      have Y7 : Hid (Ext wR w7) := Lib.hid (Y6.out.trans x7)
      clear n7 x7
      dsimp only
      (try (simp only [Act.put, List.setIfInBounds_toArray, List.set]))
      refine xone 26 (hk := Y7.out) (h := RunX.of 26 (h := ?_))
      go_simp
      refine (sessSame_any Non Non w7 n m _ _ M L2 N67.out N7.out HOKL.out HOKL2.out s0 HS0.out).mono ?_
      rintro e8 w8 ⟨rfl, x8⟩
      have Y8 : Hid (Ext wR w8) := Lib.hid (Y7.out.trans x8)
      clear x8
      dsimp only
      (try (simp only [Act.put, List.setIfInBounds_toArray, List.set]))
      refine xone 29 (hk := Y8.out) (h := RunX.of 29 (h := ?_))
      go_simp
      refine (refBkSame_any Non Non w8 n m _ _ M L2 (NRB.out.ext Y8.out) (NRC.out.ext Y8.out) s0 HS0.out).mono ?_
      rintro e9 w9 ⟨rfl, x9⟩
      have Y9 : Hid (Ext wR w9) := Lib.hid (Y8.out.trans x9)
      clear x9
      dsimp only
      (try (simp only [Act.put, List.setIfInBounds_toArray, List.set]))
      refine xtv 30 (h := ?_)
      refine xtv 31 (h := ?_)
      refine xtv 32 (h := ?_)
      (refine xdone (by kernel_rfl) (Y9.out) ?_)
      go_wp2
      go_ret
      exact ⟨rfl, XR.out.trans Y9.out⟩
    | some kx =>
      obtain ⟨s, hs, hsi⟩ := atH_some ha
      have hkl : kx < M.length := (List.getElem?_eq_some_iff.1 hs).1
      have hpo : pollH (n, M) id = (s.state, 0) := by unfold pollH; rw [if_pos ht]; dsimp only; rw [ha]; dsimp only; rw [hs]
      have hfi : findH M id = (kx : Int) := by unfold findH; rw [ha]
      obtain ⟨b1, off, so, sc, s', hsj, rfl, hn, hnc, hc63, hb, hsn, hcs⟩ := NB12.out.sessAt hkl
      obtain rfl : s = s' := by rw [hs] at hsj; exact Option.some.inj hsj
      have HCS := Lib.hid hcs
      have hx0 : (0 : Int) ≤ (kx : Int) := by omega
      have hx1 : (kx : Int) < (M.length : Int) := by omega
      have hx2 : ¬ (kx : Int) < 0 := by omega
      obtain ⟨y0, y1, y2, y3⟩ := s
      dsimp only at HCS hpo
      clear ha hs hsi hsj hn hsn hcs hb
      have HPO : Hid (∀ V v, Ns HV Non V v M → Calls Try.prog 15 #[.agg #[.int .i64 n, v], .int .i64 id] V fun e w' => e = .returned (.tuple #[.int .i64 y2, .int .i64 0]) ∧ Ext V w') := Lib.hid fun V v hv => by
        have := sessPoll_any Non V n id v M hv HOKL.out
        rw [hpo] at this
        exact this
      have HFI : Hid (∀ V, Ext W12 V → Calls Try.prog 16 #[.agg #[.int .i64 n, .slice (some ⟨b1, off, none⟩) M.length qc], .int .i64 id] V fun e w' => e = .returned (.int .i64 (kx : Int)) ∧ Ext V w') := Lib.hid fun V hV => refFind_any _ V n id _ M (NB12.out.ext hV) _ hfi
      have HCH : Hid (∀ V, Ext W12 V → Calls Try.prog 17 #[.agg #[.int .i64 n, .slice (some ⟨b1, off, none⟩) M.length qc]] V fun e w' => e = .returned (.bool true) ∧ Ext V w') := Lib.hid fun V hV => refBkCheck_any _ V n _ M (NB12.out.ext hV) _ ht
      have HCKS : Hid (∀ V v, Ns HV Non V v M → Calls Try.prog 20 #[.agg #[.int .i64 n, v]] V fun e w' => e = .returned (.int .i64 0) ∧ Ext V w') := Lib.hid fun V v hv => sessCheck_any _ V n v M hv HOKL.out _ ht
      clear hpo hfi ht
      go_upto_region 16 with (first
        | (go_at_call 13; refine (ownBk_any Non W12 n _ M NB12.out HOKL.out HOKS.out (fun b hb => hb.elim)).mono ?_; rintro e wO ⟨a5, m5, c5, rfl, n5, x5⟩; have N5 := Lib.hid n5; have XO : Hid (Ext W12 wO) := Lib.hid x5; clear n5 x5 k0 k1)
        | (go_at_call 15; refine (HPO.out wO _ N5.out).mono ?_; rintro e wP ⟨rfl, x6⟩; have XP : Hid (Ext W12 wP) := Lib.hid (XO.out.trans x6); clear x6; obtain ⟨k0, k1⟩ := HB12.out wP XP.out)
        | (go_at_call 16; refine (HFI.out wP (XP.out)).mono ?_; rintro e wF ⟨rfl, x7⟩; have XF : Hid (Ext W12 wF) := Lib.hid (XP.out.trans x7); clear x7 k0 k1; obtain ⟨k0, k1⟩ := HB12.out wF XF.out)
        | (go_at_call 17; refine (HCH.out wF (XF.out)).mono ?_; rintro e wR ⟨rfl, x8⟩; have XRR : Hid (Ext W12 wR) := Lib.hid (XF.out.trans x8); clear x8 k0 k1; obtain ⟨k0, k1⟩ := HB12.out wR XRR.out; obtain ⟨⟨z0, z1⟩, z2, z3⟩ := HCS.out wR XRR.out))
      have XR : Hid (Ext w wR) := Lib.hid (X12.out.trans XRR.out)
      have HG9 : Hid (∀ V, Ext wR V → V.cell? ⟨gx, 0, none⟩ = some (.int .i64 q1) ∧ V.cell? ⟨gx, 1, none⟩ = some (.slice a2 m2 c2)) := Lib.hid fun V hV => ⟨blk_cell (keepU D12.out (XRR.out.trans hV)) 0 rfl, blk_cell (keepU D12.out (XRR.out.trans hV)) 1 rfl⟩
      have HG12 : Hid (∀ V, Ext wR V → V.cell? ⟨g12, 0, none⟩ = some (.int .i64 q1) ∧ V.cell? ⟨g12, 1, none⟩ = some (.slice a3 m3 c3)) := Lib.hid fun V hV => ⟨blk_cell (keepU E12.out (XRR.out.trans hV)) 0 rfl, blk_cell (keepU E12.out (XRR.out.trans hV)) 1 rfl⟩
      have HGB : Hid (∀ V, Ext wR V → V.cell? ⟨w.heap.size, 0, none⟩ = some (.int .i64 n) ∧ V.cell? ⟨w.heap.size, 1, none⟩ = some (.slice (some ⟨b1, off, none⟩) M.length qc)) := Lib.hid fun V hV => HB12.out V (XRR.out.trans hV)
      have HGC : Hid (∀ V, Ext wR V → V.cell? ⟨w.heap.size + 1, 0, none⟩ = some (.int .i64 m) ∧ V.cell? ⟨w.heap.size + 1, 1, none⟩ = some (.slice bo L2.length d)) := Lib.hid fun V hV => HC12.out V (XRR.out.trans hV)
      have NR9 := Lib.hid (N12.out.ext XRR.out)
      have NR12 := Lib.hid (T12.out.ext XRR.out)
      have SR9 := Lib.hid (S12.out.ext XRR.out)
      have SR12 := Lib.hid (U12.out.ext XRR.out)
      have NRB := Lib.hid (NB12.out.ext XRR.out)
      have NRC := Lib.hid (NC12.out.ext XRR.out)
      clear k0 k1 z0 z1 z2 z3
      (refine wp_region_X_lit (K := fun V => Ext wR V) (by kernel_rfl) (fun w1 hw1 => ?_))
      have Y1 : Hid (Ext wR w1) := Lib.hid hw1
      clear hw1
      refine xtv 0 (hv := by intro w' hw'; obtain ⟨c0, c1⟩ := HG9.out w' hw'; go_simp; first | done | with_reducible rfl) (h := ?_)
      refine xtv 1 (hv := by intro w' hw'; obtain ⟨c0, c1⟩ := HG12.out w' hw'; go_simp; first | done | with_reducible rfl) (h := ?_)
      refine xone 2 (hk := Y1.out) (h := RunX.of 2 (h := ?_))
      go_simp
      refine (refBkSame_any Non Non w1 q1 q1 _ _ q2 q2 (NR9.out.ext Y1.out) (NR12.out.ext Y1.out) true (by simp)).mono ?_
      rintro e2 w2 ⟨rfl, x2⟩
      have Y2 : Hid (Ext wR w2) := Lib.hid (Y1.out.trans x2)
      clear x2
      dsimp only
      (try (simp only [Act.put, List.setIfInBounds_toArray, List.set]))
      refine xtv 3 (h := ?_)
      refine xtv 4 (h := ?_)
      refine xtv 5 (h := ?_)
      refine xone 6 (hk := Y2.out) (h := RunX.of 6 (h := ?_))
      go_simp
      refine (refSame_val true w2 _ _ q4 q4 ((SR9.out.ext Y2.out).sl) ((SR12.out.ext Y2.out).sl) (by simp)).mono ?_
      rintro e3 w3 ⟨rfl, x3⟩
      have Y3 : Hid (Ext wR w3) := Lib.hid (Y2.out.trans (Ext.of_drew x3))
      clear x3
      dsimp only
      (try (simp only [Act.put, List.setIfInBounds_toArray, List.set]))
      refine xtv 7 (h := ?_)
      refine xtv 8 (h := ?_)
      refine xtv 9 (h := ?_)
      refine xtv 10 (h := ?_)
      refine xtv 11 (h := ?_)
      refine xtv 12 (h := ?_)
      refine xtv 13 (h := ?_)
      refine xtv 14 (hv := by intro w' hw'; obtain ⟨c0, c1⟩ := HGB.out w' hw'; go_simp; first | done | with_reducible rfl) (h := ?_)
      refine xtv 18 (h := ?_)
      refine xone 15 (hk := Y3.out) (h := RunX.of 15 (h := ?_))
      go_simp
      refine (ownBk_any Non w3 n _ M (NRB.out.ext Y3.out) HOKL.out HOKS.out (fun b hb => hb.elim)).mono ?_
      rintro e4 w4 ⟨a4, m4, c4, rfl, n4, x4⟩
      have N4 := Lib.hid n4
      have Y4 : Hid (Ext wR w4) := Lib.hid (Y3.out.trans x4)
      clear n4 x4
      dsimp only
      (try (simp only [Act.put, List.setIfInBounds_toArray, List.set]))
      refine xone 16 (hk := Y4.out) (h := RunX.of 16 (h := ?_))
      go_simp
      refine (HCKS.out w4 _ N4.out).mono ?_
      rintro e5 w5 ⟨rfl, x5⟩
      have Y5 : Hid (Ext wR w5) := Lib.hid (Y4.out.trans x5)
      clear x5
      dsimp only
      (try (simp only [Act.put, List.setIfInBounds_toArray, List.set]))
      refine xtv 17 (h := ?_)
      refine xtv 19 (h := ?_)
      refine xtv 20 (h := ?_)
      refine xtv 21 (h := ?_)
      refine xtv 22 (hv := by intro w' hw'; obtain ⟨c0, c1⟩ := HGB.out w' hw'; go_simp; first | done | with_reducible rfl) (h := ?_)
      refine xtv 24 (hv := by intro w' hw'; obtain ⟨c0, c1⟩ := HGC.out w' hw'; go_simp; first | done | with_reducible rfl) (h := ?_)
      refine xtv 27 (hv := by intro w' hw'; obtain ⟨c0, c1⟩ := HGB.out w' hw'; go_simp; first | done | with_reducible rfl) (h := ?_)
      refine xtv 28 (hv := by intro w' hw'; obtain ⟨c0, c1⟩ := HGC.out w' hw'; go_simp; first | done | with_reducible rfl) (h := ?_)
      refine xone 23 (hk := Y5.out) (h := RunX.of 23 (h := ?_))
      go_simp
      refine (ownBk_any Non w5 n _ M (NRB.out.ext Y5.out) HOKL.out HOKS.out (fun b hb => hb.elim)).mono ?_
      rintro e6 w6 ⟨a6, m6, c6, rfl, n6, x6⟩
      have N6 := Lib.hid n6
      have Y6 : Hid (Ext wR w6) := Lib.hid (Y5.out.trans x6)
      clear n6 x6
      dsimp only
      (try (simp only [Act.put, List.setIfInBounds_toArray, List.set]))
      refine xone 25 (hk := Y6.out) (h := RunX.of 25 (h := ?_))
      go_simp
      refine (ownBk_any Non w6 m _ L2 (NRC.out.ext Y6.out) HOKL2.out HOKS2.out (fun b hb => hb.elim)).mono ?_
      rintro e7 w7 ⟨a7, m7, c7, rfl, n7, x7⟩
      have N7 := Lib.hid n7
      have N67 := Lib.hid (N6.out.ext x7)
      have Y7 : Hid (Ext wR w7) := Lib.hid (Y6.out.trans x7)
      clear n7 x7
      dsimp only
      (try (simp only [Act.put, List.setIfInBounds_toArray, List.set]))
      refine xone 26 (hk := Y7.out) (h := RunX.of 26 (h := ?_))
      go_simp
      refine (sessSame_any Non Non w7 n m _ _ M L2 N67.out N7.out HOKL.out HOKL2.out s0 HS0.out).mono ?_
      rintro e8 w8 ⟨rfl, x8⟩
      have Y8 : Hid (Ext wR w8) := Lib.hid (Y7.out.trans x8)
      clear x8
      dsimp only
      (try (simp only [Act.put, List.setIfInBounds_toArray, List.set]))
      refine xone 29 (hk := Y8.out) (h := RunX.of 29 (h := ?_))
      go_simp
      refine (refBkSame_any Non Non w8 n m _ _ M L2 (NRB.out.ext Y8.out) (NRC.out.ext Y8.out) s0 HS0.out).mono ?_
      rintro e9 w9 ⟨rfl, x9⟩
      have Y9 : Hid (Ext wR w9) := Lib.hid (Y8.out.trans x9)
      clear x9
      dsimp only
      (try (simp only [Act.put, List.setIfInBounds_toArray, List.set]))
      refine xtv 30 (h := ?_)
      refine xtv 31 (h := ?_)
      refine xtv 32 (h := ?_)
      (refine xdone (by kernel_rfl) (Y9.out) ?_)
      go_wp2
      go_ret
      exact ⟨rfl, XR.out.trans Y9.out⟩
end Go.Proofs.Ytgcnjkabpcbkgaa
