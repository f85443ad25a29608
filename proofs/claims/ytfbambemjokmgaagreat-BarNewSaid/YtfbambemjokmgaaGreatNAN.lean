/- Texts of this seat. -/
import Derived.Lib.SliceRun
import Derived.Deep.LoopGhost
import Derived.Laws.EntriesVeiled
import Derived.Test.YtfbambemjokmgaaGreatNAH
namespace Go.Proofs.YtfbambemjokmgaaGreat
open Go.RowKit
theorem blk_drewN {w : World} {b : Nat} {O : Obj} (h : w.heap[b]? = some O) (q : Nat) : (w.drewN q).heap[b]? = some O := h
theorem cells8D {w : World} {g : Nat} {u0 u1 u2 u3 u4 u5 u6 u7 : Value} {t : TypeId} (h : w.heap[g]? = some (.cells #[u0, u1, u2, u3, u4, u5, u6, u7] t (0, 0))) :
    ((w.cell? ⟨g, 0, none⟩ = some u0 ∧ w.cell? ⟨g, 1, none⟩ = some u1) ∧ w.cell? ⟨g, 2, none⟩ = some u2 ∧ w.cell? ⟨g, 3, none⟩ = some u3) ∧ (w.cell? ⟨g, 4, none⟩ = some u4 ∧ w.cell? ⟨g, 5, none⟩ = some u5) ∧ w.cell? ⟨g, 6, none⟩ = some u6 ∧ w.cell? ⟨g, 7, none⟩ = some u7 :=
  ⟨⟨⟨blk_cell h 0 rfl, blk_cell h 1 rfl⟩, blk_cell h 2 rfl, blk_cell h 3 rfl⟩, ⟨blk_cell h 4 rfl, blk_cell h 5 rfl⟩, blk_cell h 6 rfl, blk_cell h 7 rfl⟩
def sideC (c : List Int) (a b : Int) : Sd := if col c a < col c b then ⟨b, 1, 0, false, false, true, false, true⟩ else ⟨b, 1, 0, true, true, false, true, false⟩
def sidesTo (E : List Edge) (c : List Int) (a : Int) (k : Nat) : List Sd := (((List.range k).map fun i : Nat => (i : Int)).filter fun b => decide (btw a b ∈ E)).map (sideC c a)
def dinerC (N : Int) (E : List Edge) (c : List Int) (a : Nat) : Dn := ⟨a, 0, sidesTo E c a N.toNat⟩
def tableL (N : Int) (E : List Edge) (c : List Int) : List Dn := (List.range N.toNat).map (dinerC N E c)
theorem sidesTo_next (E : List Edge) (c : List Int) (a : Int) (k : Nat) : sidesTo E c a (k + 1) = sidesTo E c a k ++ (if decide (btw a (k : Int) ∈ E) = true then [sideC c a k] else []) := by
  unfold sidesTo
  rw [List.range_succ, List.map_append, List.filter_append, List.map_append]
  congr 1
  show List.map _ (List.filter _ [(k : Int)]) = _
  rw [List.filter_cons]
  split <;> rfl
theorem sidesTo_len (E : List Edge) (c : List Int) (a : Int) (k : Nat) : (sidesTo E c a k).length ≤ k := by
  unfold sidesTo
  rw [List.length_map]
  have := List.length_filter_le (fun b => decide (btw a b ∈ E)) ((List.range k).map fun i : Nat => (i : Int))
  simpa using this
theorem Sl.colAtD {w : World} {v : Value} {c : List Int} (h : Sl w v c) {x : Int} (h0 : 0 ≤ x) (h1 : x < c.length) :
    ∃ b off n k, v = .slice (some ⟨b, off, none⟩) n k ∧ n = c.length ∧ n ≤ k ∧ k ≤ 9223372036854775807 ∧ b < w.heap.size ∧ w.cell? ⟨b, off + x.toNat, none⟩ = some (.int .i64 (col c x)) := by
  obtain ⟨ao, k, rfl⟩ := h.len
  obtain ⟨b, off, rfl, _, h2, h3, h4, h5⟩ := h.intsAt (k := x.toNat) (by omega)
  exact ⟨b, off, _, k, rfl, rfl, h2, h3, h4, h5⟩
theorem tableL_next (N : Int) (E : List Edge) (c : List Int) {k : Nat} (h : k < N.toNat) : (tableL N E c).take (k + 1) = (tableL N E c).take k ++ [dinerC N E c k] := by
  rw [List.take_succ_eq_append_getElem (by unfold tableL; simp; omega)]
  unfold tableL
  simp
set_option maxRecDepth 100000 in
set_option maxHeartbeats 4000000 in
theorem refTable_any (w : World) (N : Int) (v cv : Value) (E : List Edge) (c : List Int) (h : Sl w v E) (hc : Sl w cv c) (n0 : 0 ≤ N) (n64 : N ≤ 64) (hl : (c.length : Int) = N) :
    Calls Tryz.prog 133 #[.agg #[.int .i64 N, v], cv] w fun e w' => ∃ v', e = .returned v' ∧ Nw DV (fun _ => False) w' w.heap.size v' (tableL N E c) ∧ Ext w w' := by
  obtain ⟨vo, vn, vc, rfl⟩ := h.sh
  obtain ⟨co, cc, rfl⟩ := hc.len
  obtain ⟨m, hm⟩ : ∃ m : Nat, (m : Int) = N := ⟨N.toNat, by omega⟩
  subst hm
  have HS := Lib.hid h
  have HC := Lib.hid hc
  have hm64 : m ≤ 64 := by omega
  have HCM : Hid (c.length = m) := Lib.hid (by omega)
  have HG := Lib.hid (graph_at w (m : Int) (.slice vo vn vc))
  have HTA : Hid ((tableL (m : Int) E c).length = m) := Lib.hid (by simp [tableL])
  obtain ⟨TL, hTL⟩ : ∃ TL, TL = tableL (m : Int) E c := ⟨_, rfl⟩
  have HTL := Lib.hid hTL
  rw [← hTL] at HTA ⊢
  clear h hc hl hTL
  go_enter Tryz.func133, Tryz.ntmps133
  go_wp2
  go_loopw [5, 6] (fun q i wr => ∃ k : Nat, k ≤ m ∧ i = .int .i64 k ∧ Hid (Nw DV (fun _ => False) wr (w.heap.size + 1) q (TL.take k)) ∧ Hid (Ext (w.alloc (.cells #[.int .i64 (m : Int), .slice vo vn vc] 53)) wr)) (fun _ i _ => m - (intOf i).toNat)
  case atStart => exact ⟨0, Nat.zero_le _, rfl, Lib.hid (Nw.lit (α := DV) (δ := Dn) _ (w.alloc (.cells #[.int .i64 (m : Int), .slice vo vn vc] 53)) _ _ (by simp) (by simp)), Lib.hid ((Ext.refl _).alloc _)⟩
  case round =>
    obtain ⟨k, hk, rfl, HQ, HX⟩ := hrel
    obtain ⟨g0, g1⟩ := HG.out wr HX.out
    have hwr := Below.size HX.out
    rw [size_alloc] at hwr
    by_cases hlt : k < m
    · have HNX : Hid (TL.take (k + 1) = TL.take k ++ [dinerC (m : Int) E c k]) := Lib.hid (by rw [HTL.out]; exact tableL_next _ _ _ (by rw [Int.toNat_natCast]; exact hlt))
      obtain ⟨W0, hW0⟩ : ∃ W0, W0 = wr := ⟨_, rfl⟩
      have HW0 := Lib.hid hW0
      have HX0 := Lib.hid (hW0 ▸ HX.out)
      have HQ0 := Lib.hid (hW0 ▸ HQ.out)
      have hw0s : w.heap.size + 1 ≤ W0.heap.size := by rw [hW0]; exact hwr
      have HB0 : Hid (wr.heap.size = W0.heap.size) := Lib.hid (by rw [hW0])
      clear hW0
      go_wp2
      rw [HB0.out]
      go_loopw [8] (fun i wr2 => ∃ j : Nat, j ≤ m ∧ i = .int .i64 j ∧ Hid (∃ so sn sc, wr2.heap[W0.heap.size]? = some (.cells #[.int .i64 (k : Int), .int .i64 0, .slice so sn sc] 61 (0, 0)) ∧ Ow wr2 (W0.heap.size + 1) (.slice so sn sc) (sidesTo E c k j)) ∧ Hid (Ext W0 wr2)) (fun i _ => m - (intOf i).toNat)
      case atStart =>
        refine ⟨0, Nat.zero_le _, rfl, Lib.hid ⟨none, 0, 0, ?_, Ow.nil _ _⟩, Lib.hid ?_⟩
        · rw [HW0.out]; exact get_alloc_new _ _
        · rw [HW0.out]; exact (Ext.refl _).alloc _
      case round =>
        obtain ⟨j, hj, rfl, HD, HX2⟩ := hrel
        obtain ⟨so, sn, sc, hdb, hown⟩ := HD.out
        have HDB := Lib.hid hdb
        have HOW := Lib.hid hown
        have XW := Lib.hid (HX0.out.trans HX2.out)
        obtain ⟨g0', g1'⟩ := HG.out wr XW.out
        have hw02 := blk_lt hdb
        clear hdb hown HD
        by_cases hj2 : j < m
        · obtain ⟨t, ht⟩ : ∃ t, decide (btw (k : Int) (j : Int) ∈ E) = t := ⟨_, rfl⟩
          have HT := Lib.hid ht
          have HNS := Lib.hid (sidesTo_next E c (k : Int) j)
          rw [ht] at HNS
          have HSL := Lib.hid (sidesTo_len E c (k : Int) j)
          obtain ⟨S, hS⟩ : ∃ S, S = sidesTo E c (k : Int) j := ⟨_, rfl⟩
          rw [← hS] at HNS HSL HOW
          have hSl : S.length ≤ 64 := by have := HSL.out; omega
          obtain ⟨b, off, n2, k2, hv, hn2, hnk2, hk63, hb, hca⟩ := HC.out.colAtD (x := (k : Int)) (by omega) (by have := HCM.out; omega)
          obtain ⟨b3, off3, n3, k3, hv3, hn3, hnk3, hk633, hb3, hcb⟩ := HC.out.colAtD (x := (j : Int)) (by omega) (by have := HCM.out; omega)
          simp only [Value.slice.injEq] at hv
          obtain ⟨rfl, rfl, rfl⟩ := hv
          simp only [Value.slice.injEq, Option.some.injEq, Addr.mk.injEq, and_true] at hv3
          obtain ⟨⟨rfl, rfl⟩, rfl, rfl⟩ := hv3
          rw [Int.toNat_natCast] at hca hcb
          have hkc : k < c.length := by have := HCM.out; omega
          have hjc : j < c.length := by have := HCM.out; omega
          have HSC : Hid (sideC c (k : Int) (j : Int) = if col c (k : Int) < col c (j : Int) then ⟨(j : Int), 1, 0, false, false, true, false, true⟩ else ⟨(j : Int), 1, 0, true, true, false, true, false⟩) := Lib.hid rfl
          obtain ⟨p, hp⟩ : ∃ p, p = col c (k : Int) := ⟨_, rfl⟩
          obtain ⟨q, hq⟩ : ∃ q, q = col c (j : Int) := ⟨_, rfl⟩
          rw [← hp] at hca HSC
          rw [← hq] at hcb HSC
          have HCA : Hid (∀ V, Ext (w.alloc (.cells #[.int .i64 (m : Int), .slice vo vn vc] 53)) V → V.cell? ⟨b, off + k, none⟩ = some (.int .i64 p)) := Lib.hid fun V hV => (Below.cell (Ext.trans ((Ext.refl w).alloc _) hV) (p := ⟨b, off + k, none⟩) hb).trans hca
          have HCB : Hid (∀ V, Ext (w.alloc (.cells #[.int .i64 (m : Int), .slice vo vn vc] 53)) V → V.cell? ⟨b, off + j, none⟩ = some (.int .i64 q)) := Lib.hid fun V hV => (Below.cell (Ext.trans ((Ext.refl w).alloc _) hV) (p := ⟨b, off + j, none⟩) hb3).trans hcb
          clear ht hS hca hcb hp hq hn2 hn3
          cases t
          · have HNS2 : Hid (sidesTo E c (k : Int) (j + 1) = S) := Lib.hid (HNS.out.trans (by rw [if_neg (by decide), List.append_nil]))
            go_wp2_with (first
              | (go_at_call 42; refine (refHas_val _ (m : Int) _ E k j (HS.out.ext (Ext.trans ((Ext.refl w).alloc _) XW.out)) _ HT.out).mono ?_; rintro e w1 ⟨rfl, hx⟩; have X1 := Lib.hid hx; have hs1 := Below.size X1.out; have hd1 := (hx.block _ (blk_lt HDB.out)).trans HDB.out; have HD1 := Lib.hid hd1; have O1 := Lib.hid (HOW.out.ext hx); obtain ⟨ga, gb⟩ := HG.out w1 (XW.out.trans hx); have kca := (HCA.out _ (Ext.trans XW.out (Ext.alloc hx (.cells #[.int .i64 (j : Int), .int .i64 1, .int .i64 0, .bool false, .bool false, .bool false, .bool false, .bool false] 66)))); have kcb := (HCB.out _ (Ext.trans XW.out (Ext.alloc hx (.cells #[.int .i64 (j : Int), .int .i64 1, .int .i64 0, .bool false, .bool false, .bool false, .bool false, .bool false] 66)))); clear hx hd1))
            go_roundw
            case rel => exact ⟨j + 1, by omega, by go_num, Lib.hid ⟨so, sn, sc, HD1.out, by rw [HNS2.out]; exact O1.out⟩, Lib.hid (HX2.out.trans X1.out)⟩
            case measure => simp [intOf]; omega
          · rcases Int.lt_or_le p q with hpq | hpq
            · have HNS2 : Hid (sidesTo E c (k : Int) (j + 1) = S ++ [⟨(j : Int), 1, 0, false, false, true, false, true⟩]) := Lib.hid (HNS.out.trans (by rw [HSC.out, if_pos hpq]; rfl))
              go_wp2_with (first
                | (go_at_call 42; refine (refHas_val _ (m : Int) _ E k j (HS.out.ext (Ext.trans ((Ext.refl w).alloc _) XW.out)) _ HT.out).mono ?_; rintro e w1 ⟨rfl, hx⟩; have X1 := Lib.hid hx; have hs1 := Below.size X1.out; have hd1 := (hx.block _ (blk_lt HDB.out)).trans HDB.out; have HD1 := Lib.hid hd1; have O1 := Lib.hid (HOW.out.ext hx); obtain ⟨ga, gb⟩ := HG.out w1 (XW.out.trans hx); have kca := (HCA.out _ (Ext.trans XW.out (Ext.alloc hx (.cells #[.int .i64 (j : Int), .int .i64 1, .int .i64 0, .bool false, .bool false, .bool false, .bool false, .bool false] 66)))); have kcb := (HCB.out _ (Ext.trans XW.out (Ext.alloc hx (.cells #[.int .i64 (j : Int), .int .i64 1, .int .i64 0, .bool false, .bool false, .bool false, .bool false, .bool false] 66)))); clear hx hd1))
              go_quiet (fail)
              go_upto_region 14 with (fail)
              obtain ⟨W5, hW5⟩ : ∃ W5, W5 = ((((w1.alloc (.cells #[.int .i64 (j : Int), .int .i64 1, .int .i64 0, .bool false, .bool false, .bool false, .bool false, .bool false] 66)).drewN nq).setCell ⟨w1.heap.size, 5, none⟩ (.bool true)).setCell ⟨w1.heap.size, 7, none⟩ (.bool true)) := ⟨_, rfl⟩
              have hx5 : Ext w1 W5 := by rw [hW5]; exact below_set (below_set (Ext.drewN (Ext.alloc (Ext.refl w1) _) nq) (Nat.le_refl _) _) (Nat.le_refl _) _
              have hb5 : W5.heap[w1.heap.size]? = some (.cells #[.int .i64 (j : Int), .int .i64 1, .int .i64 0, .bool false, .bool false, .bool true, .bool false, .bool true] 66 (0, 0)) := by
                rw [hW5]
                exact blk_set (blk_set (blk_drewN (at0 w1 (.cells #[.int .i64 (j : Int), .int .i64 1, .int .i64 0, .bool false, .bool false, .bool false, .bool false, .bool false] 66)) nq) 5 (.bool true)) 7 (.bool true)
              rw [← hW5]
              have hd5 := (hx5.block _ (blk_lt HD1.out)).trans HD1.out
              obtain ⟨⟨⟨r0, r1⟩, r2, r3⟩, ⟨r4, r5⟩, r6, r7⟩ := cells8D hb5
              have e2 := blk_cell hd5 2 rfl
              have HX5 := Lib.hid hx5
              have HD5 := Lib.hid hd5
              have HO5 := Lib.hid (O1.out.ext hx5)
              have hs5 := Below.size HX5.out
              clear hW5 hx5 hb5 hd5
              go_wp2_with (first
                | (at_builtin; refine wpList_append_sl (α := Sd) rfl (.tmp 47) (.tmp 49) rfl (W0.heap.size + 1) _ S rfl ?_ (.slice (some ⟨_, 0, none⟩) 1 1) [(⟨(j : Int), 1, 0, false, false, true, false, true⟩ : Sd)] rfl ?_ ?_ ?_ ?_; exact (HO5.out.alloc _); exact (Sl.litAt W5 _ rfl [(⟨(j : Int), 1, 0, false, false, true, false, true⟩ : Sd)] (show (1 : Nat) ≤ 1000000 by decide)); (first | omega | (simp; omega)); exact (by rw [size_alloc]; omega); intro v6 W6 ho6 ha6; obtain ⟨a6, n6, c6, rfl⟩ := ho6.sh; have hd6 := (ha6.below.block _ (by omega)).trans (blk_alloc HD5.out (.cells #[.int .i64 (j : Int), .int .i64 1, .int .i64 0, .bool false, .bool false, .bool true, .bool false, .bool true] 66)); have f6 := blk_free hd6 2; have e6 := blk_cell hd6 2 rfl; have HD6 := Lib.hid hd6; have O6 := Lib.hid ho6; have HX6 : Hid (Ext W0 W6) := Lib.hid (Below.trans (HX2.out.trans (X1.out.trans (HX5.out.alloc _))) (ha6.below.mono (by omega))); clear ho6 ha6 hd6))
              go_roundw
              case rel =>
                refine ⟨j + 1, by omega, by go_num, Lib.hid ⟨a6, n6, c6, by rw [blk_set HD6.out]; rfl, by rw [HNS2.out]; exact O6.out.set (by show W0.heap.size < _; omega) _⟩, Lib.hid (below_set HX6.out (Nat.le_refl _) _)⟩
              case measure => simp [intOf]; omega
            · have HNS2 : Hid (sidesTo E c (k : Int) (j + 1) = S ++ [⟨(j : Int), 1, 0, true, true, false, true, false⟩]) := Lib.hid (HNS.out.trans (by rw [HSC.out, if_neg (show ¬ p < q by omega)]; rfl))
              go_wp2_with (first
                | (go_at_call 42; refine (refHas_val _ (m : Int) _ E k j (HS.out.ext (Ext.trans ((Ext.refl w).alloc _) XW.out)) _ HT.out).mono ?_; rintro e w1 ⟨rfl, hx⟩; have X1 := Lib.hid hx; have hs1 := Below.size X1.out; have hd1 := (hx.block _ (blk_lt HDB.out)).trans HDB.out; have HD1 := Lib.hid hd1; have O1 := Lib.hid (HOW.out.ext hx); obtain ⟨ga, gb⟩ := HG.out w1 (XW.out.trans hx); have kca := (HCA.out _ (Ext.trans XW.out (Ext.alloc hx (.cells #[.int .i64 (j : Int), .int .i64 1, .int .i64 0, .bool false, .bool false, .bool false, .bool false, .bool false] 66)))); have kcb := (HCB.out _ (Ext.trans XW.out (Ext.alloc hx (.cells #[.int .i64 (j : Int), .int .i64 1, .int .i64 0, .bool false, .bool false, .bool false, .bool false, .bool false] 66)))); clear hx hd1))
              go_quiet (fail)
              go_upto_region 14 with (fail)
              obtain ⟨W5, hW5⟩ : ∃ W5, W5 = (((((w1.alloc (.cells #[.int .i64 (j : Int), .int .i64 1, .int .i64 0, .bool false, .bool false, .bool false, .bool false, .bool false] 66)).drewN nq).setCell ⟨w1.heap.size, 3, none⟩ (.bool true)).setCell ⟨w1.heap.size, 4, none⟩ (.bool true)).setCell ⟨w1.heap.size, 6, none⟩ (.bool true)) := ⟨_, rfl⟩
              have hx5 : Ext w1 W5 := by rw [hW5]; exact below_set (below_set (below_set (Ext.drewN (Ext.alloc (Ext.refl w1) _) nq) (Nat.le_refl _) _) (Nat.le_refl _) _) (Nat.le_refl _) _
              have hb5 : W5.heap[w1.heap.size]? = some (.cells #[.int .i64 (j : Int), .int .i64 1, .int .i64 0, .bool true, .bool true, .bool false, .bool true, .bool false] 66 (0, 0)) := by
                rw [hW5]
                exact blk_set (blk_set (blk_set (blk_drewN (at0 w1 (.cells #[.int .i64 (j : Int), .int .i64 1, .int .i64 0, .bool false, .bool false, .bool false, .bool false, .bool false] 66)) nq) 3 (.bool true)) 4 (.bool true)) 6 (.bool true)
              rw [← hW5]
              have hd5 := (hx5.block _ (blk_lt HD1.out)).trans HD1.out
              obtain ⟨⟨⟨r0, r1⟩, r2, r3⟩, ⟨r4, r5⟩, r6, r7⟩ := cells8D hb5
              have e2 := blk_cell hd5 2 rfl
              have HX5 := Lib.hid hx5
              have HD5 := Lib.hid hd5
              have HO5 := Lib.hid (O1.out.ext hx5)
              have hs5 := Below.size HX5.out
              clear hW5 hx5 hb5 hd5
              go_wp2_with (first
                | (at_builtin; refine wpList_append_sl (α := Sd) rfl (.tmp 47) (.tmp 49) rfl (W0.heap.size + 1) _ S rfl ?_ (.slice (some ⟨_, 0, none⟩) 1 1) [(⟨(j : Int), 1, 0, true, true, false, true, false⟩ : Sd)] rfl ?_ ?_ ?_ ?_; exact (HO5.out.alloc _); exact (Sl.litAt W5 _ rfl [(⟨(j : Int), 1, 0, true, true, false, true, false⟩ : Sd)] (show (1 : Nat) ≤ 1000000 by decide)); (first | omega | (simp; omega)); exact (by rw [size_alloc]; omega); intro v6 W6 ho6 ha6; obtain ⟨a6, n6, c6, rfl⟩ := ho6.sh; have hd6 := (ha6.below.block _ (by omega)).trans (blk_alloc HD5.out (.cells #[.int .i64 (j : Int), .int .i64 1, .int .i64 0, .bool true, .bool true, .bool false, .bool true, .bool false] 66)); have f6 := blk_free hd6 2; have e6 := blk_cell hd6 2 rfl; have HD6 := Lib.hid hd6; have O6 := Lib.hid ho6; have HX6 : Hid (Ext W0 W6) := Lib.hid (Below.trans (HX2.out.trans (X1.out.trans (HX5.out.alloc _))) (ha6.below.mono (by omega))); clear ho6 ha6 hd6))
              go_roundw
              case rel =>
                refine ⟨j + 1, by omega, by go_num, Lib.hid ⟨a6, n6, c6, by rw [blk_set HD6.out]; rfl, by rw [HNS2.out]; exact O6.out.set (by show W0.heap.size < _; omega) _⟩, Lib.hid (below_set HX6.out (Nat.le_refl _) _)⟩
              case measure => simp [intOf]; omega
        · have hjm : j = m := by omega
          have HSE : Hid (sidesTo E c (k : Int) m = (dinerC (m : Int) E c k).sides) := Lib.hid (by unfold dinerC; rw [Int.toNat_natCast])
          rw [hjm, HSE.out] at HOW
          obtain ⟨xs, hown, hxl, hel⟩ := HQ0.out.any
          have HXL := Lib.hid hxl
          have HEL := Lib.hid hel
          have HOWN := Lib.hid hown
          have hxs : xs.length ≤ 64 := by rw [hxl]; simp; omega
          have e0 := blk_cell HDB.out 0 rfl
          have e1 := blk_cell HDB.out 1 rfl
          have e2 := blk_cell HDB.out 2 rfl
          clear hown hxl hel hjm
          go_wp2_with (first
            | (at_builtin; refine wpList_append_sl (α := DV) rfl (.tmp 52) (.tmp 54) rfl (w.heap.size + 1) _ xs rfl ?_ (.slice (some ⟨_, 0, none⟩) 1 1) [(⟨(k : Int), 0, so, sn, sc⟩ : DV)] rfl ?_ ?_ ?_ ?_; exact ((HOWN.out.ext HX2.out).alloc _); exact (Sl.litAt wr _ rfl [(⟨(k : Int), 0, so, sn, sc⟩ : DV)] (show (1 : Nat) ≤ 1000000 by decide)); (first | omega | (simp; omega)); exact (by rw [size_alloc]; have := Below.size HX2.out; omega); intro v3 W3 ho3 ha3; have hx : Nest.rd (Own1 (fun _ => False) _) _ (⟨(k : Int), 0, so, sn, sc⟩ : DV) (dinerC (m : Int) E c k) := (⟨rfl, rfl, Sa.new (HOW.out.alloc (.cells #[.int .i64 (k : Int), .int .i64 0, .slice so sn sc] 61)) (fun b hb => by rcases hb with hb | hb; exact hb.elim; have := (HOWN.out.low b hb).2; omega)⟩ : RdD _ _ _ _); have hst := Nw.step (α := DV) (δ := Dn) (F := fun _ => False) (L := TL.take k) HXL.out (fun a x d hx hd => Nest.ext (HEL.out a x d hx hd) (Ext.alloc HX2.out _)) hx ho3 ha3; have HST := Lib.hid hst; have HX3 := Lib.hid (Below.trans (Ext.alloc XW.out _) (ha3.below.mono (by rw [size_alloc]; exact Nat.le_refl _))); clear ho3 ha3 hx hst))
          go_roundw
          case rel => exact ⟨k + 1, by omega, by go_num, Lib.hid (by rw [HNX.out]; exact HST.out), HX3⟩
          case measure => simp [intOf]; omega
    · have hkm : k = m := by omega
      have hq := HQ.out
      rw [hkm, ← HTA.out, List.take_length] at hq
      have HQ' := Lib.hid hq
      clear hq HQ hkm
      go_wp2
      go_ret
      exact ⟨_, rfl, HQ'.out.mono (by omega), Ext.trans ((Ext.refl w).alloc _) HX.out⟩
end Go.Proofs.YtfbambemjokmgaaGreat
namespace Go.Proofs.YtfbambemjokmgaaGreat
open Go.RowKit
def Ml.val (y : Ml) : Value := .agg #[.int .i64 y.from_, .int .i64 y.to_, .int .i64 y.kind, .int .i64 y.epoch, .int .i64 y.num]
theorem eq_Ml (y0 y1 y2 y3 y4 z0 z1 z2 z3 z4 : Int) (s : Bool) (hs : decide ((⟨y0, y1, y2, y3, y4⟩ : Ml) = ⟨z0, z1, z2, z3, z4⟩) = s) :
    (∀ w : World, (binOp .eql 95 (.agg #[.int .i64 y0, .int .i64 y1, .int .i64 y2, .int .i64 y3, .int .i64 y4]) (.agg #[.int .i64 z0, .int .i64 z1, .int .i64 z2, .int .i64 z3, .int .i64 z4])).run Tryz.prog w = .ok (.bool s) w) ∧ ∀ (a b : Operand) (w : World), (eqGuard .eql 95 a b (.agg #[.int .i64 y0, .int .i64 y1, .int .i64 y2, .int .i64 y3, .int .i64 y4]) (.agg #[.int .i64 z0, .int .i64 z1, .int .i64 z2, .int .i64 z3, .int .i64 z4])).run Tryz.prog w = .ok () w := by
  refine ⟨fun w => ?_, fun a b w => run_eqGuard_agg w _ _ a b _ _ (by kernel_rfl)⟩
  have u3 := Tryz.underlying3
  have a3 := Tryz.isAgg3
  have z3' := Tryz.sizeOf3
  have uK := Tryz.underlying31
  have aK := Tryz.isAgg31
  have zK := Tryz.sizeOf31
  have aM := Tryz.isAgg93
  have zM := Tryz.sizeOf93
  have hS : Tryz.prog.underlying 95 = some (.struct (Tryz.prog.fieldsOf 95)) := by kernel_rfl
  have hp : Tryz.prog.stoodInHeld 95 = false := by kernel_rfl
  have hS2 : Tryz.prog.underlying 93 = some (.struct (Tryz.prog.fieldsOf 93)) := by kernel_rfl
  have hp2 : Tryz.prog.stoodInHeld 93 = false := by kernel_rfl
  have hq : ∀ (w : World) (b0 b1 b2 c0 c1 c2 : Int), (Op.equalIn 9999 93 (.agg #[.int .i64 b0, .int .i64 b1, .int .i64 b2]) (.agg #[.int .i64 c0, .int .i64 c1, .int .i64 c2])).run Tryz.prog w = .ok (decide (b0 = c0) && decide (b1 = c1) && decide (b2 = c2)) w := by
    intro w b0 b1 b2 c0 c1 c2
    rw [show (9999 : Nat) = 9998 + 1 from rfl, run_equalIn_agg w 9998 93 _ _ hS2 hp2]
    simp only [Program.fieldsOf, Tryz.underlying93]
    go_simp
    by_cases h0 : b0 = c0 <;> by_cases h1 : b1 = c1 <;> by_cases h2 : b2 = c2 <;> simp [h0, h1, h2]
  rw [run_eql_struct, show (10000 : Nat) = 9999 + 1 from rfl, run_equalIn_agg w 9999 95 _ _ hS hp]
  simp only [Program.fieldsOf, Tryz.underlying95]
  go_simp
  subst hs
  by_cases h0 : y0 = z0 <;> by_cases h1 : y1 = z1 <;> simp [h0, h1]
  by_cases h2 : y2 = z2 <;> by_cases h3 : y3 = z3 <;> by_cases h4 : y4 = z4 <;> simp [h2, h3, h4]
theorem take_nextD {α : Type} {xs : List α} {k : Nat} {y : α} (h : xs[k]? = some y) : xs.take (k + 1) = xs.take k ++ [y] := by
  have hk := (List.getElem?_eq_some_iff.1 h).1
  rw [List.take_succ_eq_append_getElem hk, (List.getElem?_eq_some_iff.1 h).2]
set_option maxRecDepth 100000 in
set_option maxHeartbeats 2000000 in
theorem index_ml (w : World) (v : Value) (L : List Ml) (x : Ml) (h : Sl w v L) : Calls Tryz.prog 173 #[v, .agg #[.int .i64 x.from_, .int .i64 x.to_, .int .i64 x.kind, .int .i64 x.epoch, .int .i64 x.num]] w fun e w' => ∃ r : Int, e = .returned (.int .i64 r) ∧ decide (0 ≤ r) = decide (x ∈ L) ∧ Ext w w' := by
  obtain ⟨ao, c, rfl⟩ := h.len
  have HS := Lib.hid h
  have hlen := h.length_le
  obtain ⟨x0, x1, x2, x3, x4⟩ := x
  have HK : Hid (∀ V, Ext (w.alloc (.cells #[.int .i64 x0, .int .i64 x1, .int .i64 x2, .int .i64 x3, .int .i64 x4] 95)) V → V.cell? ⟨w.heap.size, 0, none⟩ = some (.int .i64 x0) ∧ V.cell? ⟨w.heap.size, 1, none⟩ = some (.int .i64 x1) ∧ V.cell? ⟨w.heap.size, 2, none⟩ = some (.int .i64 x2) ∧ V.cell? ⟨w.heap.size, 3, none⟩ = some (.int .i64 x3) ∧ V.cell? ⟨w.heap.size, 4, none⟩ = some (.int .i64 x4)) := Lib.hid fun V hV => ⟨cell_atD V hV rfl, cell_atD V hV rfl, cell_atD V hV rfl, cell_atD V hV rfl, cell_atD V hV rfl⟩
  have HX0 : Hid (Ext w (w.alloc (.cells #[.int .i64 x0, .int .i64 x1, .int .i64 x2, .int .i64 x3, .int .i64 x4] 95))) := Lib.hid ((Ext.refl w).alloc _)
  clear h
  go_enter Tryz.func173, Tryz.ntmps173
  go_wp2
  go_loopw [8] (fun i wr => ∃ k : Nat, k ≤ L.length ∧ i = .int .i64 k ∧ Hid ((⟨x0, x1, x2, x3, x4⟩ : Ml) ∉ L.take k) ∧ Hid (Ext (w.alloc (.cells #[.int .i64 x0, .int .i64 x1, .int .i64 x2, .int .i64 x3, .int .i64 x4] 95)) wr)) (fun i _ => L.length - (intOf i).toNat)
  case atStart => exact ⟨0, Nat.zero_le _, rfl, Lib.hid (by simp), Lib.hid (Ext.refl _)⟩
  case round =>
    obtain ⟨k, hk, rfl, HT, HX⟩ := hrel
    by_cases hlt : k < L.length
    · obtain ⟨b, off, y, _, hyk, rfl, hn, hnc, hc63, hb, hcell⟩ := HS.out.mailAt hlt
      have HCY : Hid (∀ V, Ext wr V → (V.cell? ⟨b, off + k * 5, none⟩ = some (.int .i64 y.from_) ∧ V.cell? ⟨b, off + k * 5 + 1, none⟩ = some (.int .i64 y.to_)) ∧ V.cell? ⟨b, off + k * 5 + 2, none⟩ = some (.int .i64 y.kind) ∧ V.cell? ⟨b, off + k * 5 + 3, none⟩ = some (.int .i64 y.epoch) ∧ V.cell? ⟨b, off + k * 5 + 4, none⟩ = some (.int .i64 y.num)) := Lib.hid fun V hV => hcell V (HX0.out.trans (HX.out.trans hV))
      have HBX := Lib.hid (fun (V : World) (hV : Ext wr V) => HK.out V (HX.out.trans hV))
      have HN := Lib.hid (take_nextD hyk)
      have HM : Hid (y ∈ L) := Lib.hid (List.mem_of_getElem? hyk)
      obtain ⟨y0, y1, y2, y3, y4⟩ := y
      obtain ⟨s, hs⟩ : ∃ s, decide ((⟨x0, x1, x2, x3, x4⟩ : Ml) = ⟨y0, y1, y2, y3, y4⟩) = s := ⟨_, rfl⟩
      have HNQ := Lib.hid (eq_Ml x0 x1 x2 x3 x4 y0 y1 y2 y3 y4 s hs)
      have HYZ := Lib.hid hs
      dsimp only at HCY
      clear hcell hyk hn hs
      cases s
      all_goals
        go_wp2_with fail
        (refine wp_region_X_lit (K := fun W => Ext wr W) (by kernel_rfl) (fun w1 hw1 => ?_))
        have HX1 := Lib.hid (HX.out.trans hw1)
        have HW1 := Lib.hid hw1
        clear hw1
        refine xtv 0 (hv := by intro w' hw'; obtain ⟨a0, a1, a2, a3, a4⟩ := HBX.out w' hw'; go_simp; first | done | with_reducible rfl) (h := ?_)
        refine xtv 1 (h := ?_)
        refine xtv 2 (h := ?_)
        refine xtv 3 (h := ?_)
        refine xtv 4 (hv := by intro w' hw'; obtain ⟨⟨a0, a1⟩, a2, a3, a4⟩ := HCY.out w' hw'; go_simp; first | done | with_reducible rfl) (h := ?_)
        refine xtv 5 (hv := by intro w' hw'; obtain ⟨q1, q2⟩ := HNQ.out; go_simp; first | done | with_reducible rfl) (h := ?_)
        (refine xdone (by kernel_rfl) (HW1.out) ?_)
      · go_wp2
        go_roundw
        case rel => exact ⟨k + 1, by omega, by go_num, Lib.hid (by rw [HN.out]; simp only [List.mem_append, List.mem_singleton]; exact fun e => e.elim HT.out (of_decide_eq_false HYZ.out)), HX1⟩
        case measure => simp [intOf]; omega
      · go_wp2
        go_ret
        exact ⟨_, rfl, by rw [of_decide_eq_true HYZ.out, decide_eq_true HM.out]; simp, HX0.out.trans HX1.out⟩
    · have hkl : k = L.length := by omega
      have HF : Hid ((⟨x0, x1, x2, x3, x4⟩ : Ml) ∉ L) := Lib.hid (by have := HT.out; rwa [hkl, List.take_length] at this)
      go_wp2
      go_ret
      exact ⟨_, rfl, by rw [decide_eq_false HF.out]; rfl, HX0.out.trans HX.out⟩
set_option maxRecDepth 100000 in
theorem contains_ml (w : World) (v : Value) (L : List Ml) (x : Ml) (h : Sl w v L) (r : Bool) (hr : decide (x ∈ L) = r) : Calls Tryz.prog 148 #[v, .agg #[.int .i64 x.from_, .int .i64 x.to_, .int .i64 x.kind, .int .i64 x.epoch, .int .i64 x.num]] w fun e w' => e = .returned (.bool r) ∧ Ext w w' := by
  have HR := Lib.hid hr
  have HS := Lib.hid h
  clear h hr
  obtain ⟨x0, x1, x2, x3, x4⟩ := x
  have HX0 : Hid (Ext w (w.alloc (.cells #[.int .i64 x0, .int .i64 x1, .int .i64 x2, .int .i64 x3, .int .i64 x4] 95))) := Lib.hid ((Ext.refl w).alloc _)
  go_enter Tryz.func148, Tryz.ntmps148
  go_wp2_with (go_at_call 173; refine (index_ml _ _ L ⟨x0, x1, x2, x3, x4⟩ (HS.out.ext HX0.out)).mono ?_; rintro e w1 ⟨r1, rfl, hr1, hx⟩; have HR1 := Lib.hid hr1; have HX := Lib.hid (HX0.out.trans hx); clear hr1 hx)
  go_ret
  exact ⟨ret_bool (HR1.out.trans HR.out), HX.out⟩
set_option maxRecDepth 100000 in
set_option maxHeartbeats 2000000 in
theorem equal_sd (w : World) (v1 v2 : Value) (L M : List Sd) (h : Sl w v1 L) (g : Sl w v2 M) (t : Bool) (ht : decide (L = M) = t) :
    Calls Tryz.prog 147 #[v1, v2] w fun e w' => e = .returned (.bool t) ∧ Ext w w' := by
  obtain ⟨ao1, c1, rfl⟩ := h.len
  obtain ⟨ao2, c2, rfl⟩ := g.len
  have l1 := h.length_le
  have l2 := g.length_le
  have HS := Lib.hid h
  have HM := Lib.hid g
  have HE := Lib.hid ht
  clear h g ht
  by_cases e3 : L.length = M.length
  · have q3 : ((L.length : Int) != (M.length : Int)) = false := by simp [e3]
    have HL3 := Lib.hid e3
    clear e3
    go_enter Tryz.func147, Tryz.ntmps147
    go_wp2
    go_loopw [13] (fun i wr => ∃ k : Nat, k ≤ L.length ∧ i = .int .i64 k ∧ Hid (L.take k = M.take k) ∧ Hid (Ext w wr)) (fun i _ => L.length - (intOf i).toNat)
    case atStart => exact ⟨0, Nat.zero_le _, rfl, Lib.hid rfl, Lib.hid (Ext.refl _)⟩
    case round =>
      obtain ⟨k, hk, rfl, HQ, HX⟩ := hrel
      by_cases hlt : k < L.length
      · have hltM : k < M.length := by have := HL3.out; omega
        obtain ⟨b1, o1, y, _, hyk, rfl, hn, hnc, hc63, hb, hcell⟩ := HS.out.sidesAt hlt
        obtain ⟨b2, o2, z, _, hzk, rfl, hn', hnc', hc63', hb', hcell'⟩ := HM.out.sidesAt hltM
        have HCY : Hid (∀ V, Ext wr V → _) := Lib.hid fun V hV => hcell V (HX.out.trans hV)
        have HCZ : Hid (∀ V, Ext wr V → _) := Lib.hid fun V hV => hcell' V (HX.out.trans hV)
        have HN := Lib.hid (take_eqD hyk hzk)
        obtain ⟨s, hs⟩ : ∃ s, decide (y = z) = s := ⟨_, rfl⟩
        have HNQ := Lib.hid (neq_Sd y z s hs)
        have HYZ := Lib.hid hs
        clear hcell hcell' hyk hzk hn hn' hs
        obtain ⟨y0, y1, y2, y3, y4, y5, y6, y7⟩ := y
        obtain ⟨z0, z1, z2, z3, z4, z5, z6, z7⟩ := z
        dsimp only at HCY HCZ
        cases s
        all_goals
          go_wp2_with fail
          (refine wp_region_X_lit (K := fun W => Ext wr W) (by kernel_rfl) (fun w1 hw1 => ?_))
          have HX1 := Lib.hid (HX.out.trans hw1)
          have HW1 := Lib.hid hw1
          clear hw1
          refine xtv 0 (h := ?_)
          refine xtv 1 (h := ?_)
          refine xtv 2 (h := ?_)
          refine xtv 3 (hv := by intro w' hw'; obtain ⟨⟨⟨a0, a1⟩, a2, a3⟩, ⟨a4, a5⟩, a6, a7⟩ := HCY.out w' hw'; go_simp; first | done | with_reducible rfl) (h := ?_)
          refine xtv 4 (h := ?_)
          refine xtv 5 (h := ?_)
          refine xtv 6 (h := ?_)
          refine xtv 7 (hv := by intro w' hw'; obtain ⟨⟨⟨a0, a1⟩, a2, a3⟩, ⟨a4, a5⟩, a6, a7⟩ := HCZ.out w' hw'; go_simp; first | done | with_reducible rfl) (h := ?_)
          refine xtv 8 (hv := by intro w' hw'; obtain ⟨q1, q2⟩ := HNQ.out; go_simp; first | done | with_reducible rfl) (h := ?_)
          (refine xdone (by kernel_rfl) (HW1.out) ?_)
        · go_wp2
          go_ret
          exact ⟨ret_bool (by
            rw [← HE.out]
            exact (decide_eq_false fun e => of_decide_eq_false HYZ.out ((HN.out.1 (by rw [e])).2)).symm), HX1.out⟩
        · go_wp2
          go_roundw
          case rel => exact ⟨k + 1, by omega, by go_num, Lib.hid (HN.out.2 ⟨HQ.out, of_decide_eq_true HYZ.out⟩), HX1⟩
          case measure => simp [intOf]; omega
      · have hkl : k = L.length := by omega
        have HF : Hid (true = t) := Lib.hid (by
          have hq := HQ.out
          rw [hkl, List.take_length, HL3.out, List.take_length] at hq
          rw [← HE.out, decide_eq_true hq])
        go_wp2
        go_ret
        exact ⟨ret_bool HF.out, HX.out⟩
  · have q3 : ((L.length : Int) != (M.length : Int)) = true := by simp; omega
    have HF : Hid (false = t) := Lib.hid (by rw [← HE.out, decide_eq_false fun e => e3 (by rw [e])])
    clear e3
    go_enter Tryz.func147, Tryz.ntmps147
    go_wp2
    go_ret
    exact ⟨ret_bool HF.out, Ext.refl _⟩
end Go.Proofs.YtfbambemjokmgaaGreat
namespace Go.Proofs.YtfbambemjokmgaaGreat
open Go.RowKit
theorem neq_Ml (y0 y1 y2 y3 y4 z0 z1 z2 z3 z4 : Int) (s : Bool) (hs : decide ((⟨y0, y1, y2, y3, y4⟩ : Ml) = ⟨z0, z1, z2, z3, z4⟩) = s) :
    (∀ w : World, (binOp .neq 95 (.agg #[.int .i64 y0, .int .i64 y1, .int .i64 y2, .int .i64 y3, .int .i64 y4]) (.agg #[.int .i64 z0, .int .i64 z1, .int .i64 z2, .int .i64 z3, .int .i64 z4])).run Tryz.prog w = .ok (.bool (!s)) w) ∧ ∀ (a b : Operand) (w : World), (eqGuard .neq 95 a b (.agg #[.int .i64 y0, .int .i64 y1, .int .i64 y2, .int .i64 y3, .int .i64 y4]) (.agg #[.int .i64 z0, .int .i64 z1, .int .i64 z2, .int .i64 z3, .int .i64 z4])).run Tryz.prog w = .ok () w := by
  refine ⟨fun w => ?_, fun a b w => run_eqGuard_agg w _ _ a b _ _ (by kernel_rfl)⟩
  have u3 := Tryz.underlying3
  have a3 := Tryz.isAgg3
  have z3' := Tryz.sizeOf3
  have uK := Tryz.underlying31
  have aK := Tryz.isAgg31
  have zK := Tryz.sizeOf31
  have aM := Tryz.isAgg93
  have zM := Tryz.sizeOf93
  have hS : Tryz.prog.underlying 95 = some (.struct (Tryz.prog.fieldsOf 95)) := by kernel_rfl
  have hp : Tryz.prog.stoodInHeld 95 = false := by kernel_rfl
  have hS2 : Tryz.prog.underlying 93 = some (.struct (Tryz.prog.fieldsOf 93)) := by kernel_rfl
  have hp2 : Tryz.prog.stoodInHeld 93 = false := by kernel_rfl
  have hq : ∀ (w : World) (b0 b1 b2 c0 c1 c2 : Int), (Op.equalIn 9999 93 (.agg #[.int .i64 b0, .int .i64 b1, .int .i64 b2]) (.agg #[.int .i64 c0, .int .i64 c1, .int .i64 c2])).run Tryz.prog w = .ok (decide (b0 = c0) && decide (b1 = c1) && decide (b2 = c2)) w := by
    intro w b0 b1 b2 c0 c1 c2
    rw [show (9999 : Nat) = 9998 + 1 from rfl, run_equalIn_agg w 9998 93 _ _ hS2 hp2]
    simp only [Program.fieldsOf, Tryz.underlying93]
    go_simp
    by_cases h0 : b0 = c0 <;> by_cases h1 : b1 = c1 <;> by_cases h2 : b2 = c2 <;> simp [h0, h1, h2]
  rw [run_neq_struct, show (10000 : Nat) = 9999 + 1 from rfl, run_equalIn_agg w 9999 95 _ _ hS hp]
  simp only [Program.fieldsOf, Tryz.underlying95]
  go_simp
  subst hs
  by_cases h0 : y0 = z0 <;> by_cases h1 : y1 = z1 <;> simp [h0, h1]
  by_cases h2 : y2 = z2 <;> by_cases h3 : y3 = z3 <;> by_cases h4 : y4 = z4 <;> simp [h2, h3, h4]
set_option maxRecDepth 100000 in
set_option maxHeartbeats 2000000 in
theorem refSameMail_any (w : World) (v1 v2 : Value) (L M : List Ml) (h : Sl w v1 L) (g : Sl w v2 M) (t : Bool) (ht : decide (L = M) = t) :
    Calls Tryz.prog 56 #[v1, v2] w fun e w' => e = .returned (.bool t) ∧ Ext w w' := by
  obtain ⟨ao1, c1, rfl⟩ := h.len
  obtain ⟨ao2, c2, rfl⟩ := g.len
  have l1 := h.length_le
  have l2 := g.length_le
  have HS := Lib.hid h
  have HM := Lib.hid g
  have HE := Lib.hid ht
  clear h g ht
  by_cases e3 : L.length = M.length
  · have q3 : ((L.length : Int) != (M.length : Int)) = false := by simp [e3]
    have HL3 := Lib.hid e3
    clear e3
    go_enter Tryz.func56, Tryz.ntmps56
    go_wp2
    go_loopw [5] (fun i wr => ∃ k : Nat, k ≤ L.length ∧ i = .int .i64 k ∧ Hid (L.take k = M.take k) ∧ Hid (Ext w wr)) (fun i _ => L.length - (intOf i).toNat)
    case atStart => exact ⟨0, Nat.zero_le _, rfl, Lib.hid rfl, Lib.hid (Ext.refl _)⟩
    case round =>
      obtain ⟨k, hk, rfl, HQ, HX⟩ := hrel
      by_cases hlt : k < L.length
      · have hltM : k < M.length := by have := HL3.out; omega
        obtain ⟨b1, o1, y, _, hyk, rfl, hn, hnc, hc63, hb, hcell⟩ := HS.out.mailAt hlt
        obtain ⟨b2, o2, z, _, hzk, rfl, hn', hnc', hc63', hb', hcell'⟩ := HM.out.mailAt hltM
        have HCY : Hid (∀ V, Ext wr V → _) := Lib.hid fun V hV => hcell V (HX.out.trans hV)
        have HCZ : Hid (∀ V, Ext wr V → _) := Lib.hid fun V hV => hcell' V (HX.out.trans hV)
        have HN := Lib.hid (take_eqD hyk hzk)
        obtain ⟨s, hs⟩ : ∃ s, decide (y = z) = s := ⟨_, rfl⟩
        have HYZ := Lib.hid hs
        obtain ⟨y0, y1, y2, y3, y4⟩ := y
        obtain ⟨z0, z1, z2, z3, z4⟩ := z
        have HNQ := Lib.hid (neq_Ml y0 y1 y2 y3 y4 z0 z1 z2 z3 z4 s hs)
        clear hcell hcell' hyk hzk hn hn' hs
        dsimp only at HCY HCZ
        cases s
        all_goals
          go_wp2_with fail
          (refine wp_region_X_lit (K := fun W => Ext wr W) (by kernel_rfl) (fun w1 hw1 => ?_))
          have HX1 := Lib.hid (HX.out.trans hw1)
          have HW1 := Lib.hid hw1
          clear hw1
          refine xtv 0 (h := ?_)
          refine xtv 1 (h := ?_)
          refine xtv 2 (h := ?_)
          refine xtv 3 (hv := by intro w' hw'; obtain ⟨⟨a0, a1⟩, a2, a3, a4⟩ := HCY.out w' hw'; go_simp; first | done | with_reducible rfl) (h := ?_)
          refine xtv 4 (h := ?_)
          refine xtv 5 (h := ?_)
          refine xtv 6 (h := ?_)
          refine xtv 7 (hv := by intro w' hw'; obtain ⟨⟨a0, a1⟩, a2, a3, a4⟩ := HCZ.out w' hw'; go_simp; first | done | with_reducible rfl) (h := ?_)
          refine xtv 8 (hv := by intro w' hw'; obtain ⟨q1, q2⟩ := HNQ.out; go_simp; first | done | with_reducible rfl) (h := ?_)
          (refine xdone (by kernel_rfl) (HW1.out) ?_)
        · go_wp2
          go_ret
          exact ⟨ret_bool (by
            rw [← HE.out]
            exact (decide_eq_false fun e => of_decide_eq_false HYZ.out ((HN.out.1 (by rw [e])).2)).symm), HX1.out⟩
        · go_wp2
          go_roundw
          case rel => exact ⟨k + 1, by omega, by go_num, Lib.hid (HN.out.2 ⟨HQ.out, of_decide_eq_true HYZ.out⟩), HX1⟩
          case measure => simp [intOf]; omega
      · have hkl : k = L.length := by omega
        have HF : Hid (true = t) := Lib.hid (by
          have hq := HQ.out
          rw [hkl, List.take_length, HL3.out, List.take_length] at hq
          rw [← HE.out, decide_eq_true hq])
        go_wp2
        go_ret
        exact ⟨ret_bool HF.out, HX.out⟩
  · have q3 : ((L.length : Int) != (M.length : Int)) = true := by simp; omega
    have HF : Hid (false = t) := Lib.hid (by rw [← HE.out, decide_eq_false fun e => e3 (by rw [e])])
    clear e3
    go_enter Tryz.func56, Tryz.ntmps56
    go_wp2
    go_ret
    exact ⟨ret_bool HF.out, Ext.refl _⟩
theorem cells8U {w : World} {g : Nat} {u0 u1 u2 u3 u4 u5 u6 u7 : Value} {t : TypeId} (h : w.heap[g]? = some (.cells #[u0, u1, u2, u3, u4, u5, u6, u7] t (0, 0))) :
    ((w.cell? ⟨g, 0, none⟩ = some u0 ∧ w.cell? ⟨g, 1, none⟩ = some u1) ∧ w.cell? ⟨g, 2, none⟩ = some u2 ∧ w.cell? ⟨g, 3, none⟩ = some u3) ∧ (w.cell? ⟨g, 4, none⟩ = some u4 ∧ w.cell? ⟨g, 5, none⟩ = some u5) ∧ w.cell? ⟨g, 6, none⟩ = some u6 ∧ w.cell? ⟨g, 7, none⟩ = some u7 :=
  ⟨⟨⟨blk_cell h 0 rfl, blk_cell h 1 rfl⟩, blk_cell h 2 rfl, blk_cell h 3 rfl⟩, ⟨blk_cell h 4 rfl, blk_cell h 5 rfl⟩, blk_cell h 6 rfl, blk_cell h 7 rfl⟩
theorem keepU {w W : World} {g : Nat} {o : Obj} (h : w.heap[g]? = some o) (e : Ext w W) : W.heap[g]? = some o := (e.block _ (blk_lt h)).trans h
theorem owU {α : Type} [Elem α] {w w' : World} {B : Nat} {v : Value} {xs : List α} (h : Ow w B v xs) (hq : ∀ b, v.ownBlock = some b → w'.heap[b]? = w.heap[b]?) : Ow w' B v xs := by
  refine ⟨h.1, ?_⟩
  rcases h.2 with h2 | ⟨g, cap, cur, rfl, hg, hh, r⟩
  · exact .inl h2
  · exact .inr ⟨g, cap, cur, rfl, hg, (hq g rfl).trans hh, r⟩
theorem uDiner : ∃ fs, Tryz.prog.underlying 61 = some (.struct fs) := ⟨_, Tryz.underlying61⟩
theorem cellsOf_set {α : Type} [Elem α] : ∀ (xs : List α) (k : Nat) (x : α), k < xs.length → cellsOf (xs.set k x) = (cellsOf xs).take (k * Elem.k α) ++ Elem.enc x ++ (cellsOf xs).drop (k * Elem.k α + Elem.k α) := by
  intro xs k x hk
  rw [List.set_eq_take_append_cons_drop, if_pos hk, cellsOf_append, ← cellsOf_take, List.append_assoc]
  congr 1
  show Elem.enc x ++ cellsOf (xs.drop (k + 1)) = _
  rw [cellsOf_drop, Nat.succ_mul]
theorem Ow.setAt {α : Type} [Elem α] {w : World} {B : Nat} {ao : Option Addr} {n c k : Nat} {xs : List α} (h : Ow w B (.slice ao n c) xs) (hk : k < xs.length) (x : α) :
    ∃ g cur, ao = some ⟨g, 0, none⟩ ∧ B ≤ g ∧ n = xs.length ∧ n ≤ c ∧ c ≤ 9223372036854775807 ∧ w.heap[g]? = some (.cells cur (Elem.e α) (0, 0)) ∧ k * Elem.k α + Elem.k α ≤ cur.size ∧
      ∀ W, W.heap[g]? = some (.cells (cur.toList.take (k * Elem.k α) ++ Elem.enc x ++ cur.toList.drop (k * Elem.k α + Elem.k α)).toArray (Elem.e α) (0, 0)) → Ow W B (.slice ao n c) (xs.set k x) := by
  obtain ⟨h1, h2⟩ := h
  rcases h2 with ⟨h2, h3⟩ | ⟨g, cap, cur, hv, hg, hh, hnc, hc63, hsz, htk⟩
  · rw [h3] at hk; omega
  · simp only [Value.slice.injEq] at hv
    obtain ⟨rfl, rfl, rfl⟩ := hv
    have hpos : (k + 1) * Elem.k α ≤ xs.length * Elem.k α := Nat.mul_le_mul_right _ hk
    have hcap : xs.length * Elem.k α ≤ c * Elem.k α := Nat.mul_le_mul_right _ hnc
    have hk1 : (k + 1) * Elem.k α = k * Elem.k α + Elem.k α := Nat.succ_mul _ _
    have hle : (Elem.enc x).length = Elem.k α := Elem.len x
    have hcl : cur.toList.length = c * Elem.k α := by rw [Array.length_toList]; exact hsz
    have e1 : List.take (k * Elem.k α) (List.take (xs.length * Elem.k α) cur.toList) = List.take (k * Elem.k α) cur.toList := by rw [List.take_take, Nat.min_eq_left (by omega)]
    have e2 : List.drop (k * Elem.k α + Elem.k α) (List.take (xs.length * Elem.k α) cur.toList) = List.take (xs.length * Elem.k α - (k * Elem.k α + Elem.k α)) (List.drop (k * Elem.k α + Elem.k α) cur.toList) := List.drop_take ..
    have e3 : (List.take (k * Elem.k α) cur.toList ++ Elem.enc x).length = k * Elem.k α + Elem.k α := by rw [List.length_append, List.length_take, hle, hcl, Nat.min_eq_left (by omega)]
    refine ⟨g, cur, rfl, hg, rfl, hnc, hc63, hh, by omega, fun W hW => ⟨?_, .inr ⟨g, c, _, ?_, hg, hW, ?_, hc63, ?_, ?_⟩⟩⟩
    · rw [cellsOf_length, List.length_set]
    · rw [List.length_set]
    · rw [List.length_set]; exact hnc
    · rw [List.size_toArray, List.length_append, e3, List.length_drop, hcl]
      omega
    · rw [cellsOf_set xs k x hk, ← htk, List.length_set, e1, e2]
      show List.take _ (_ ++ List.drop _ _) = _
      rw [List.take_append, e3, List.take_of_length_le (by rw [e3]; omega)]
end Go.Proofs.YtfbambemjokmgaaGreat
namespace Go.Proofs.YtfbambemjokmgaaGreat
section
variable {n : Nat} {nb : Nat → List Nat} {ep : Int} {X : Nat → Nat → Sd} {P : Nat → Int} {ms : List Ml} {i : Nat}
def wm (X : Nat → Nat → Sd) (P : Nat → Int) (m : Ml) : Nat := if (m.kind == 2 && ((X m.to_.toNat m.from_.toNat).fork && (X m.to_.toNat m.from_.toNat).dirty) && (P m.to_.toNat != 2)) = true then 3 else 1
def wt (X : Nat → Nat → Sd) (P : Nat → Int) (ms : List Ml) : Nat := (ms.map (wm X P)).sum
theorem wt_cons (X : Nat → Nat → Sd) (P : Nat → Int) (m : Ml) (l : List Ml) : wt X P (m :: l) = wm X P m + wt X P l := by unfold wt; rw [List.map_cons, List.sum_cons]
theorem wm_one {X : Nat → Nat → Sd} {P : Nat → Int} {m : Ml} : 1 ≤ wm X P m := by unfold wm; split <;> omega
theorem wt_len (X : Nat → Nat → Sd) (P : Nat → Int) : ∀ l : List Ml, l.length ≤ wt X P l ∧ wt X P l ≤ 3 * l.length
  | [] => ⟨Nat.le_refl _, Nat.le_refl _⟩
  | m :: l => by
    have h1 := wt_len X P l
    have h2 : wm X P m ≤ 3 := by unfold wm; split <;> omega
    have h3 := wm_one (X := X) (P := P) (m := m)
    rw [wt_cons, List.length_cons]
    omega
end
end Go.Proofs.YtfbambemjokmgaaGreat
namespace Go.Proofs.YtfbambemjokmgaaGreat
open Go.RowKit
def awE : List Edge := [⟨0, 1⟩]
def aw0 : List Dn := [⟨0, 0, [⟨1, 1, 0, true, true, false, true, false⟩]⟩, ⟨1, 0, [⟨0, 1, 0, false, false, true, false, true⟩]⟩]
theorem aw_ok : OkG 2 awE := okG_iff.1 (by decide +kernel)
theorem aw_ends : Ends 2 awE 2 := by
  refine ⟨fun j hj => ?_, by decide +kernel⟩
  rcases j with _ | _ | j
  · decide +kernel
  · decide +kernel
  · omega
theorem aw_new : tableL 2 awE (itr 2 awE 2) = aw0 := by decide +kernel
end Go.Proofs.YtfbambemjokmgaaGreat
