/- Layer 17, the document's answers: Gone. -/
import Derived.Test.YtgcnjkabpcbkgaaH9
import Derived.Test.YtgcnjkabpcbkgaaWR
namespace Go.Proofs.Ytgcnjkabpcbkgaa
open Go.RowKit

theorem filter_nextH {p : Se → Bool} {L : List Se} {k : Nat} {s : Se} (h : L[k]? = some s) : (L.take (k + 1)).filter p = (L.take k).filter p ++ (if p s = true then [s] else []) := by
  have hk := (List.getElem?_eq_some_iff.1 h).1
  rw [List.take_succ_eq_append_getElem hk, List.filter_append, (List.getElem?_eq_some_iff.1 h).2]
  congr 1
  by_cases hp : p s = true
  · simp [hp]
  · simp [hp]

set_option maxRecDepth 100000 in
set_option maxHeartbeats 16000000 in
theorem refGone_any (F : Nat → Prop) (w : World) (n p : Int) (v : Value) (L : List Se) (h : Ns HV F w v L) (hl : L.length ≤ 1000) (hF : ∀ b, F b → b < w.heap.size) :
    Calls Try.prog 33 #[.agg #[.int .i64 n, v], .int .i64 p] w fun e w' => ∃ ao m c bo k d, e = .returned (.tuple #[.agg #[.int .i64 n, .slice ao m c], .slice bo k d]) ∧ Ns HV F w' (.slice ao m c) (L.filter fun s => !goesH p s) ∧ Sa F w' (.slice bo k d) ((L.filter (goesH p)).map Se.id) ∧ Ext w w' := by
  obtain ⟨ao, c, rfl⟩ := h.len
  obtain ⟨W0, hW0⟩ : ∃ W0, W0 = (w.alloc (.cells #[.int .i64 n, .slice ao L.length c] 24)).alloc (.cells #[.int .i64 0, .slice none 0 0] 24) := ⟨_, rfl⟩
  have X0 : Hid (Ext w W0) := Lib.hid (hW0 ▸ ((Ext.refl w).alloc _).alloc _)
  have B0 : Hid (W0.heap[w.heap.size]? = some (.cells #[.int .i64 n, .slice ao L.length c] 24 (0, 0))) := Lib.hid (hW0 ▸ old1 (at0 w _) _)
  have R0 : Hid (W0.heap[w.heap.size + 1]? = some (.cells #[.int .i64 0, .slice none 0 0] 24 (0, 0))) := Lib.hid (hW0 ▸ at1 w _ _)
  have HZ0 : Hid (W0.heap.size = w.heap.size + 2) := Lib.hid (by rw [hW0, size_alloc, size_alloc])
  have HW0 := Lib.hid hW0
  have hlen := h.length_le
  obtain ⟨xs, hs, he⟩ := h.ea
  have HE := Lib.hid he
  have HS := Lib.hid h
  have k0 := blk_cell B0.out 0 rfl
  clear hW0 h hs he
  go_enter Try.func33, Try.ntmps33
  go_upto_region 1 with (fail)
  rw [← HW0.out]
  go_wp2_with (first | refine haltst 24 ?_)
  refine .inl ?_
  obtain ⟨W1, hW1⟩ : ∃ W1, W1 = (W0.alloc (.cells #[] 3)).alloc (.cells #[.int .i64 0, .slice none 0 0] 24) := ⟨_, rfl⟩
  have B1 : Hid (W1.heap[W0.heap.size + 1]? = some (.cells #[.int .i64 0, .slice none 0 0] 24 (0, 0))) := Lib.hid (hW1 ▸ at1 W0 _ _)
  have hI1 : Ow W1 (w.heap.size + 2) (.slice (some ⟨W0.heap.size, 0, none⟩) 0 0) ([] : List Int) := hW1 ▸ (Ow.litAt W0 _ _ rfl (by have := HZ0.out; omega) [] (by simp)).alloc _
  have X1 : Hid (Ext W0 W1) := Lib.hid (hW1 ▸ ((Ext.refl W0).alloc _).alloc _)
  rw [← hW1]
  clear hW1 k0
  refine st_l 24 (.tmp 6) (.tmp 12) (W0.heap.size + 1) 0 24 _ #[.int .i64 n, .slice none 0 0] _ rfl rfl B1.out (by kernel_rfl) (by simp) rfl rfl ?_
  intro W3 hW3 o3
  simp only [Act.put]
  obtain ⟨g3, hg3⟩ : ∃ g, g = W0.heap.size + 1 := ⟨_, rfl⟩
  rw [← hg3] at hW3 o3 ⊢
  have B3i := Lib.hid hW3
  have X3 : Hid (Ext W0 W3) := Lib.hid (ext_off X1.out o3 (fun b hb => by omega))
  have HG : Hid (g3 = w.heap.size + 3) := Lib.hid (by rw [hg3, HZ0.out])
  have I3 : Hid (Ow W3 (w.heap.size + 2) (.slice (some ⟨W0.heap.size, 0, none⟩) 0 0) ([] : List Int)) := Lib.hid (owU hI1 (fun b hb => o3.block b (hI1.low b hb).2 (by simp [Value.ownBlock] at hb; omega)))
  have A3 : Hid (∀ b, (Value.slice (some ⟨W0.heap.size, 0, none⟩) 0 0).ownBlock = some b → b ≠ g3) := Lib.hid (fun b hb => by simp [Value.ownBlock] at hb; omega)
  have HK : Hid (∀ V, Ext W0 V → V.cell? ⟨w.heap.size, 0, none⟩ = some (.int .i64 n) ∧ V.cell? ⟨w.heap.size, 1, none⟩ = some (.slice ao L.length c)) := Lib.hid fun V hV => ⟨blk_cell (keepU B0.out hV) 0 rfl, blk_cell (keepU B0.out hV) 1 rfl⟩
  clear hW3 o3 hg3 hI1
  go_wp2
  go_loopw [7, 8] (fun ids i wr => ∃ k : Nat, k ≤ L.length ∧ i = .int .i64 k ∧ ∃ ia im ic qa qn qc, ids = .slice ia im ic ∧ ∃ ys : List HV, Hid (wr.heap[g3]? = some (.cells #[.int .i64 n, .slice qa qn qc] 24 (0, 0))) ∧ Hid (Ow wr (g3 + 1) (.slice qa qn qc) ys) ∧ Hid (Ea F w ys ((L.take k).filter fun s => !goesH p s)) ∧ Hid (Ow wr (w.heap.size + 2) (.slice ia im ic) (((L.take k).filter (goesH p)).map Se.id)) ∧ Hid (∀ b, (Value.slice ia im ic).ownBlock = some b → b ≠ g3 ∧ (Value.slice qa qn qc).ownBlock ≠ some b) ∧ Hid (Ext W0 wr)) (fun _ i _ => L.length - (intOf i).toNat)
  case atStart => exact ⟨0, Nat.zero_le _, rfl, _, _, _, none, 0, 0, rfl, [], B3i, Lib.hid (Ow.nil _ _), Lib.hid (Ea.nil _ _), I3, Lib.hid (fun b hb => ⟨A3.out b hb, by simp [Value.ownBlock]⟩), X3⟩
  case round =>
    obtain ⟨k, hk, rfl, ia, im, ic, qa, qn, qc, rfl, ys, B3, OQ, EQ, OI, DI, XR⟩ := hrel
    obtain ⟨k0, k1⟩ := HK.out wr XR.out
    have hg3a : w.heap.size + 2 ≤ g3 := by have := HG.out; omega
    by_cases hlt : k < L.length
    · obtain ⟨b1, off, so, sc, s, hsj, rfl, hn, hnc, hc63, hb, hsn, hcs⟩ := HS.out.sessAt hlt
      obtain ⟨x, hxj⟩ : ∃ x, xs[k]? = some x := ⟨_, List.getElem?_eq_getElem (by rw [HE.out.len]; exact hlt)⟩
      have hrd : RdH F w x s := HE.out.at_ k x s hxj hsj
      have HXW : Hid (Ext w wr) := Lib.hid (X0.out.trans XR.out)
      have hysl : ys.length ≤ 1000 := by rw [EQ.out.len]; exact Nat.le_trans (List.length_filter_le _ _) (by rw [List.length_take]; omega)
      have hidl : (((L.take k).filter (goesH p)).map Se.id).length ≤ 1000 := by rw [List.length_map]; exact Nat.le_trans (List.length_filter_le _ _) (by rw [List.length_take]; omega)
      have F1 : Hid ((L.take (k + 1)).filter (goesH p) = (L.take k).filter (goesH p) ++ (if goesH p s = true then [s] else [])) := Lib.hid (filter_nextH hsj)
      have F2 : Hid ((L.take (k + 1)).filter (fun s => !goesH p s) = (L.take k).filter (fun s => !goesH p s) ++ (if (!goesH p s) = true then [s] else [])) := Lib.hid (filter_nextH (p := fun s => !goesH p s) hsj)
      obtain ⟨⟨x0, x1⟩, x2, x3⟩ := hcs wr HXW.out
      have HSN := Lib.hid (hsn.sl.ext HXW.out)
      have HCS := Lib.hid hcs
      have hz : w.heap.size ≤ wr.heap.size := Below.size HXW.out
      have hb3 := blk_lt B3.out
      have hne : RdH F w (⟨s.id, so, s.need.length, sc, s.state, s.age⟩ : HV) s := ⟨rfl, hsn, rfl, rfl⟩
      have HNE := Lib.hid hne
      clear hcs hsj hn hsn hxj hne hrd
      obtain ⟨I, hI⟩ : ∃ I, I = ((L.take k).filter (goesH p)).map Se.id := ⟨_, rfl⟩
      rw [← hI] at OI hidl
      have HI := Lib.hid hI
      clear hI
      obtain ⟨y0, y1, y2, y3⟩ := s
      dsimp only at x0 x1 x2 x3 HSN HCS HNE
      obtain ⟨W5, hW5⟩ : ∃ W5, W5 = wr.alloc (.cells #[.int .i64 y0, .slice so y1.length sc, .int .i64 y2, .int .i64 y3] 41) := ⟨_, rfl⟩
      have J5 : Hid (W5.heap[wr.heap.size]? = some (.cells #[.int .i64 y0, .slice so y1.length sc, .int .i64 y2, .int .i64 y3] 41 (0, 0))) := Lib.hid (hW5 ▸ at0 wr _)
      have X5 : Hid (Ext wr W5) := Lib.hid (hW5 ▸ (Ext.refl wr).alloc _)
      have HW5 := Lib.hid hW5
      clear hW5
      go_upto_region 6 with (fail)
      rw [← HW5.out]
      clear k0 k1 x0 x1 x2 x3
      obtain ⟨i0, i1, i2, i3⟩ : W5.cell? ⟨wr.heap.size, 0, none⟩ = some (.int .i64 y0) ∧ W5.cell? ⟨wr.heap.size, 1, none⟩ = some (.slice so y1.length sc) ∧ W5.cell? ⟨wr.heap.size, 2, none⟩ = some (.int .i64 y2) ∧ W5.cell? ⟨wr.heap.size, 3, none⟩ = some (.int .i64 y3) := ⟨blk_cell J5.out 0 rfl, blk_cell J5.out 1 rfl, blk_cell J5.out 2 rfl, blk_cell J5.out 3 rfl⟩
      by_cases hgo : goesH p ⟨y0, y1, y2, y3⟩ = true
      · have HGO := Lib.hid hgo
        unfold goesH at hgo
        simp only [Bool.and_eq_true, decide_eq_true_eq] at hgo
        obtain ⟨e2, ep⟩ := hgo
        have d2 : (y2 == 0) = true := by simpa using e2
        have HEP : Hid (decide (p ∈ y1) = true) := Lib.hid (decide_eq_true ep)
        clear e2 ep
        have L6 : Hid (Sl (W5.alloc (.cells #[.int .i64 y0] 3)) (.slice (some ⟨W5.heap.size, 0, none⟩) 1 1) [y0]) := Lib.hid (Sl.litAt W5 _ rfl [y0] (show (1 : Nat) ≤ 1000000 by decide))
        go_wp2_with (first
          | (go_at_call 22; refine (refHas_val W5 _ y1 p (HSN.out.ext X5.out) _ HEP.out).mono ?_; rintro e w' ⟨rfl, rfl⟩)
          | (at_builtin; go_loud (refine wpList_append_sl (α := Int) rfl (.tmp 35) (.tmp 38) rfl (w.heap.size + 2) _ I rfl ?_ (.slice (some ⟨_, 0, none⟩) 1 1) [y0] rfl ?_ ?_ ?_ ?_; exact (OI.out.ext (X5.out.alloc _)); exact L6.out; (first | omega | (simp; omega)); exact (by rw [size_alloc]; have := Below.size X5.out; omega); intro v8 W8 ho8 ha8; obtain ⟨a8, n8, c8, rfl⟩ := ho8.sh; have hq8 := ha8.block; have og := off_grown ha8.grown; have X8 : Hid (Ext W0 W8) := Lib.hid (Below.trans (XR.out.trans (X5.out.alloc _)) (ha8.below.mono (by have := HZ0.out; omega))); have O8 : Hid (Ow W8 (w.heap.size + 2) (.slice a8 n8 c8) (I ++ [y0])) := Lib.hid ho8; have B8 : Hid (W8.heap[g3]? = some (.cells #[.int .i64 n, .slice qa qn qc] 24 (0, 0))) := Lib.hid (og.blk (keepU B3.out (X5.out.alloc _)) (fun e => (DI.out g3 e).1 rfl)); have Q8 : Hid (Ow W8 (g3 + 1) (.slice qa qn qc) ys) := Lib.hid (owU (OQ.out.ext (X5.out.alloc _)) (fun b hb => og.block b ((OQ.out.ext (X5.out.alloc _)).low b hb).2 (fun e => (DI.out b e).2 hb))); have D8 : Hid (∀ b, (Value.slice a8 n8 c8).ownBlock = some b → b ≠ g3 ∧ (Value.slice qa qn qc).ownBlock ≠ some b) := Lib.hid (fun b hb => by rcases hq8 with q | q; (exact DI.out b (q.symm.trans hb)); (have h1 := q b hb; have h2 := Below.size (X5.out.alloc (.cells #[.int .i64 y0] 3)); exact ⟨by omega, fun e => by have := (OQ.out.low b e).2; omega⟩)); clear ho8 ha8 hq8 og)))
        go_roundw
        case rel => exact ⟨k + 1, by omega, by go_num, _, _, _, _, _, _, rfl, ys, B8, Q8, Lib.hid (by rw [F2.out, HGO.out]; simpa using EQ.out), Lib.hid (by rw [F1.out, HGO.out, if_pos rfl, List.map_append, ← HI.out]; exact O8.out), D8, X8⟩
        case measure => simp [intOf]; omega
      · have HGO : Hid (goesH p ⟨y0, y1, y2, y3⟩ = false) := Lib.hid (by simpa using hgo)
        have hw : y2 ≠ 0 ∨ (y2 = 0 ∧ p ∉ y1) := by
          unfold goesH at hgo
          simp only [Bool.and_eq_true, decide_eq_true_eq, not_and] at hgo
          by_cases e : y2 = 0
          · exact .inr ⟨e, hgo e⟩
          · exact .inl e
        have L6 : Hid (∀ V : World, Sl (V.alloc (.cells #[.int .i64 y0, .slice so y1.length sc, .int .i64 y2, .int .i64 y3] 41)) (.slice (some ⟨V.heap.size, 0, none⟩) 1 1) [(⟨y0, so, y1.length, sc, y2, y3⟩ : HV)]) := Lib.hid fun V => Sl.litAt V _ rfl [(⟨y0, so, y1.length, sc, y2, y3⟩ : HV)] (show (1 : Nat) ≤ 1000000 by decide)
        have j1 := blk_cell (keepU B3.out X5.out) 1 rfl
        have HRD : Hid (RdH F w (⟨y0, so, y1.length, sc, y2, y3⟩ : HV) (⟨y0, y1, y2, y3⟩ : Se)) := HNE
        rcases hw with e2 | ⟨e2, ep⟩
        · have d2 : (y2 == 0) = false := by simpa using e2
          clear e2 hgo
          go_upto_region 4 with (first
            | (go_at_call 22; refine (refHas_val W5 _ y1 p (HSN.out.ext X5.out) _ HEP.out).mono ?_; rintro e w' ⟨rfl, rfl⟩)
            | (at_builtin; go_loud (refine wpList_append_sl (α := HV) rfl (.tmp 41) (.tmp 43) rfl (g3 + 1) _ ys rfl ?_ (.slice (some ⟨_, 0, none⟩) 1 1) [(⟨y0, so, y1.length, sc, y2, y3⟩ : HV)] rfl ?_ ?_ ?_ ?_; exact (OQ.out.ext (X5.out.alloc _)); exact (L6.out W5); (first | omega | (simp; omega)); exact (by rw [size_alloc]; have := Below.size X5.out; omega); intro v8 W8 ho8 ha8; obtain ⟨a8, n8, c8, rfl⟩ := ho8.sh; have hq8 := ha8.block; have og := off_grown ha8.grown; have X8 : Hid (Ext W0 W8) := Lib.hid (Below.trans (XR.out.trans (X5.out.alloc _)) (ha8.below.mono (by have := HZ0.out; omega))); have O8 : Hid (Ow W8 (g3 + 1) (.slice a8 n8 c8) (ys ++ [(⟨y0, so, y1.length, sc, y2, y3⟩ : HV)])) := Lib.hid ho8; have B8 : Hid (W8.heap[g3]? = some (.cells #[.int .i64 n, .slice qa qn qc] 24 (0, 0))) := Lib.hid (og.blk (keepU B3.out (X5.out.alloc _)) (fun e => by have := (OQ.out.low g3 e).1; omega)); have I8 : Hid (Ow W8 (w.heap.size + 2) (.slice ia im ic) I) := Lib.hid (owU (OI.out.ext (X5.out.alloc _)) (fun b hb => og.block b ((OI.out.ext (X5.out.alloc _)).low b hb).2 (fun e => (DI.out b hb).2 e))); have D8 : Hid (∀ b, (Value.slice ia im ic).ownBlock = some b → b ≠ g3 ∧ (Value.slice a8 n8 c8).ownBlock ≠ some b) := Lib.hid (fun b hb => ⟨(DI.out b hb).1, fun e => by rcases hq8 with q | q; (exact (DI.out b hb).2 (q.symm.trans e)); (have h1 := q b e; have h2 := Below.size (X5.out.alloc (.cells #[.int .i64 y0, .slice so y1.length sc, .int .i64 y2, .int .i64 y3] 41)); have h3 := (OI.out.low b hb).2; omega)⟩); have j8 := blk_cell B8.out 1 rfl; have f8 := blk_free B8.out 1; clear ho8 ha8 hq8 og)))
          obtain ⟨WA, hWA⟩ : ∃ q, q = W8.setCell ⟨g3, 1, none⟩ (.slice a8 n8 c8) := ⟨_, rfl⟩
          have oA : Off (fun k => k = g3) W8 WA := hWA ▸ off_set W8 ⟨g3, 1, none⟩ _
          have BA : Hid (WA.heap[g3]? = some (.cells #[.int .i64 n, .slice a8 n8 c8] 24 (0, 0))) := Lib.hid (by rw [hWA, blk_set B8.out]; rfl)
          have OA : Hid (Ow WA (g3 + 1) (.slice a8 n8 c8) (ys ++ [(⟨y0, so, y1.length, sc, y2, y3⟩ : HV)])) := Lib.hid (hWA ▸ O8.out.set (d := ⟨g3, 1, none⟩) (Nat.lt_succ_self _) _)
          have IA : Hid (Ow WA (w.heap.size + 2) (.slice ia im ic) I) := Lib.hid (owU I8.out (fun b hb => oA.block b (I8.out.low b hb).2 (D8.out b hb).1))
          have XA : Hid (Ext W0 WA) := Lib.hid (ext_off X8.out oA (fun b hb => by have := HZ0.out; omega))
          rw [← hWA]
          clear hWA oA j8 f8
          go_wp2
          go_roundw
          case rel => exact ⟨k + 1, by omega, by go_num, _, _, _, _, _, _, rfl, _, BA, OA, Lib.hid (by rw [F2.out, HGO.out]; exact EQ.out.app (Ea.one HRD.out)), Lib.hid (by rw [F1.out, HGO.out]; simp only [Bool.false_eq_true, if_false, List.append_nil]; rw [← HI.out]; exact IA.out), D8, XA⟩
          case measure => simp [intOf]; omega
        · have d2 : (y2 == 0) = true := by simpa using e2
          have HEP : Hid (decide (p ∈ y1) = false) := Lib.hid (decide_eq_false ep)
          clear e2 ep hgo
          go_upto_region 4 with (first
            | (go_at_call 22; refine (refHas_val W5 _ y1 p (HSN.out.ext X5.out) _ HEP.out).mono ?_; rintro e w' ⟨rfl, rfl⟩)
            | (at_builtin; go_loud (refine wpList_append_sl (α := HV) rfl (.tmp 41) (.tmp 43) rfl (g3 + 1) _ ys rfl ?_ (.slice (some ⟨_, 0, none⟩) 1 1) [(⟨y0, so, y1.length, sc, y2, y3⟩ : HV)] rfl ?_ ?_ ?_ ?_; exact (OQ.out.ext (X5.out.alloc _)); exact (L6.out W5); (first | omega | (simp; omega)); exact (by rw [size_alloc]; have := Below.size X5.out; omega); intro v8 W8 ho8 ha8; obtain ⟨a8, n8, c8, rfl⟩ := ho8.sh; have hq8 := ha8.block; have og := off_grown ha8.grown; have X8 : Hid (Ext W0 W8) := Lib.hid (Below.trans (XR.out.trans (X5.out.alloc _)) (ha8.below.mono (by have := HZ0.out; omega))); have O8 : Hid (Ow W8 (g3 + 1) (.slice a8 n8 c8) (ys ++ [(⟨y0, so, y1.length, sc, y2, y3⟩ : HV)])) := Lib.hid ho8; have B8 : Hid (W8.heap[g3]? = some (.cells #[.int .i64 n, .slice qa qn qc] 24 (0, 0))) := Lib.hid (og.blk (keepU B3.out (X5.out.alloc _)) (fun e => by have := (OQ.out.low g3 e).1; omega)); have I8 : Hid (Ow W8 (w.heap.size + 2) (.slice ia im ic) I) := Lib.hid (owU (OI.out.ext (X5.out.alloc _)) (fun b hb => og.block b ((OI.out.ext (X5.out.alloc _)).low b hb).2 (fun e => (DI.out b hb).2 e))); have D8 : Hid (∀ b, (Value.slice ia im ic).ownBlock = some b → b ≠ g3 ∧ (Value.slice a8 n8 c8).ownBlock ≠ some b) := Lib.hid (fun b hb => ⟨(DI.out b hb).1, fun e => by rcases hq8 with q | q; (exact (DI.out b hb).2 (q.symm.trans e)); (have h1 := q b e; have h2 := Below.size (X5.out.alloc (.cells #[.int .i64 y0, .slice so y1.length sc, .int .i64 y2, .int .i64 y3] 41)); have h3 := (OI.out.low b hb).2; omega)⟩); have j8 := blk_cell B8.out 1 rfl; have f8 := blk_free B8.out 1; clear ho8 ha8 hq8 og)))
          obtain ⟨WA, hWA⟩ : ∃ q, q = W8.setCell ⟨g3, 1, none⟩ (.slice a8 n8 c8) := ⟨_, rfl⟩
          have oA : Off (fun k => k = g3) W8 WA := hWA ▸ off_set W8 ⟨g3, 1, none⟩ _
          have BA : Hid (WA.heap[g3]? = some (.cells #[.int .i64 n, .slice a8 n8 c8] 24 (0, 0))) := Lib.hid (by rw [hWA, blk_set B8.out]; rfl)
          have OA : Hid (Ow WA (g3 + 1) (.slice a8 n8 c8) (ys ++ [(⟨y0, so, y1.length, sc, y2, y3⟩ : HV)])) := Lib.hid (hWA ▸ O8.out.set (d := ⟨g3, 1, none⟩) (Nat.lt_succ_self _) _)
          have IA : Hid (Ow WA (w.heap.size + 2) (.slice ia im ic) I) := Lib.hid (owU I8.out (fun b hb => oA.block b (I8.out.low b hb).2 (D8.out b hb).1))
          have XA : Hid (Ext W0 WA) := Lib.hid (ext_off X8.out oA (fun b hb => by have := HZ0.out; omega))
          rw [← hWA]
          clear hWA oA j8 f8
          go_wp2
          go_roundw
          case rel => exact ⟨k + 1, by omega, by go_num, _, _, _, _, _, _, rfl, _, BA, OA, Lib.hid (by rw [F2.out, HGO.out]; exact EQ.out.app (Ea.one HRD.out)), Lib.hid (by rw [F1.out, HGO.out]; simp only [Bool.false_eq_true, if_false, List.append_nil]; rw [← HI.out]; exact IA.out), D8, XA⟩
          case measure => simp [intOf]; omega
    · have hkl : k = L.length := by omega
      have hq := EQ.out
      have hi := OI.out
      rw [hkl, List.take_length] at hq hi
      have HQ := Lib.hid hq
      have HI := Lib.hid hi
      obtain ⟨j0, j1⟩ : wr.cell? ⟨g3, 0, none⟩ = some (.int .i64 n) ∧ wr.cell? ⟨g3, 1, none⟩ = some (.slice qa qn qc) := ⟨blk_cell B3.out 0 rfl, blk_cell B3.out 1 rfl⟩
      have RC := Lib.hid (keepU R0.out XR.out)
      clear hq hi
      go_wp2_with (first | refine haltst 24 ?_)
      refine .inl ?_
      refine st_l 24 (.tmp 4) (.tmp 46) (w.heap.size + 1) 0 24 _ #[.int .i64 n, .slice qa qn qc] _ rfl rfl RC.out (by kernel_rfl) (by simp) rfl rfl ?_
      intro W9 hW9 o9
      simp only [Act.put]
      go_wp2
      exact bodyPost_ret (v := .tuple #[.agg #[.int .i64 n, .slice qa qn qc], .slice ia im ic]) (res_ct 5 rfl rfl hW9 uBook (by kernel_rfl)) rfl ⟨_, _, _, _, _, _, rfl, ns_orB' (((HQ.out.off (Off.of_ext (X0.out.trans XR.out)) (fun b hb => hb.imp_right fun q : Bxs w 2 b => q.1)).ns (Sa.new OQ.out (fun b hb => hb.elim (fun q => by have := hF b q; omega) (fun q => by have := q.2; omega)))).off (o9.mono fun b hb => .inr ⟨by omega, by omega⟩) (Grows.refl _ _)), sa_orB' ((Sa.new (F := OrB F w 2) HI.out (fun b hb => hb.elim (fun q => by have := hF b q; omega) (fun q => by have := q.2; omega))).off (o9.mono fun b hb => .inr ⟨by omega, by omega⟩) (Grows.refl _ _)), ext_off (X0.out.trans XR.out) o9 (fun b hb => by omega)⟩

end Go.Proofs.Ytgcnjkabpcbkgaa
