/- Layer 12, the document's answers: the nodes of a graph, by colours. -/
import Derived.Test.YtdfleocknaackaaGreatMDR
import Derived.Test.YtdfleocknaackaaGreatY1
import Derived.Test.YtdfleocknaackaaGreatYR
import Derived.Test.YtdfleocknaackaaGreatMG9
import Derived.Test.YtdfleocknaackaaGreatP4
import Derived.Deep.DeepCutAuto
import Derived.Deep.CutBlock
import Derived.Test.YtdfleocknaackaaGreatME
namespace Go.Proofs.YtdfleocknaackaaGreat
open Go.RowKit

theorem blk_drewN {w : World} {b : Nat} {O : Obj} (h : w.heap[b]? = some O) (q : Nat) : (w.drewN q).heap[b]? = some O := h
theorem cells8D {w : World} {g : Nat} {u0 u1 u2 u3 u4 u5 u6 u7 : Value} {t : TypeId} (h : w.heap[g]? = some (.cells #[u0, u1, u2, u3, u4, u5, u6, u7] t (0, 0))) :
    ((w.cell? ⟨g, 0, none⟩ = some u0 ∧ w.cell? ⟨g, 1, none⟩ = some u1) ∧ w.cell? ⟨g, 2, none⟩ = some u2 ∧ w.cell? ⟨g, 3, none⟩ = some u3) ∧ (w.cell? ⟨g, 4, none⟩ = some u4 ∧ w.cell? ⟨g, 5, none⟩ = some u5) ∧ w.cell? ⟨g, 6, none⟩ = some u6 ∧ w.cell? ⟨g, 7, none⟩ = some u7 :=
  ⟨⟨⟨blk_cell h 0 rfl, blk_cell h 1 rfl⟩, blk_cell h 2 rfl, blk_cell h 3 rfl⟩, ⟨blk_cell h 4 rfl, blk_cell h 5 rfl⟩, blk_cell h 6 rfl, blk_cell h 7 rfl⟩
def sideC (c : List Int) (a b : Int) : Sd := if col c a < col c b then ⟨b, 1, 0, false, false, true, false, true⟩ else ⟨b, 1, 0, true, true, false, true, false⟩
def sidesTo (E : List Edge) (c : List Int) (a : Int) (k : Nat) : List Sd := (((List.range k).map fun i : Nat => (i : Int)).filter fun b => decide (btw a b ∈ E)).map (sideC c a)
def dinerC (N : Int) (E : List Edge) (c : List Int) (a : Nat) : Dn := ⟨a, 0, sidesTo E c a N.toNat⟩
def tableL (N : Int) (E : List Edge) (c : List Int) : List Dn := (List.range N.toNat).map (dinerC N E c)
theorem sidesTo_next (E : List Edge) (c : List Int) (a : Int) (k : Nat) : sidesTo E c a (k + 1) = sidesTo E c a k ++ (if decide (btw a (k : Int) ∈ E) = true then [sideC c a k] else []) := by
  unfold sidesTo
  rw [List.range_succ, List.map_append, List.filter_append, List.map_append]
  congr 1
  show List.map _ (List.filter _ [(k : Int)]) = _
  rw [List.filter_cons]
  split <;> rfl
theorem sidesTo_len (E : List Edge) (c : List Int) (a : Int) (k : Nat) : (sidesTo E c a k).length ≤ k := by
  unfold sidesTo
  rw [List.length_map]
  have := List.length_filter_le (fun b => decide (btw a b ∈ E)) ((List.range k).map fun i : Nat => (i : Int))
  simpa using this
theorem Sl.colAtD {w : World} {v : Value} {c : List Int} (h : Sl w v c) {x : Int} (h0 : 0 ≤ x) (h1 : x < c.length) :
    ∃ b off n k, v = .slice (some ⟨b, off, none⟩) n k ∧ n = c.length ∧ n ≤ k ∧ k ≤ 9223372036854775807 ∧ b < w.heap.size ∧ w.cell? ⟨b, off + x.toNat, none⟩ = some (.int .i64 (col c x)) := by
  obtain ⟨ao, k, rfl⟩ := h.len
  obtain ⟨b, off, rfl, _, h2, h3, h4, h5⟩ := h.intsAt (k := x.toNat) (by omega)
  exact ⟨b, off, _, k, rfl, rfl, h2, h3, h4, h5⟩
theorem tableL_next (N : Int) (E : List Edge) (c : List Int) {k : Nat} (h : k < N.toNat) : (tableL N E c).take (k + 1) = (tableL N E c).take k ++ [dinerC N E c k] := by
  rw [List.take_succ_eq_append_getElem (by unfold tableL; simp; omega)]
  unfold tableL
  simp

set_option maxRecDepth 100000 in
set_option maxHeartbeats 4000000 in
theorem refTable_any (w : World) (N : Int) (v cv : Value) (E : List Edge) (c : List Int) (h : Sl w v E) (hc : Sl w cv c) (n0 : 0 ≤ N) (n64 : N ≤ 64) (hl : (c.length : Int) = N) :
    Calls Tryz.prog 60 #[.agg #[.int .i64 N, v], cv] w fun e w' => ∃ v', e = .returned v' ∧ Nw DV (fun _ => False) w' w.heap.size v' (tableL N E c) ∧ Ext w w' := by
  obtain ⟨vo, vn, vc, rfl⟩ := h.sh
  obtain ⟨co, cc, rfl⟩ := hc.len
  obtain ⟨m, hm⟩ : ∃ m : Nat, (m : Int) = N := ⟨N.toNat, by omega⟩
  subst hm
  have HS := Lib.hid h
  have HC := Lib.hid hc
  have hm64 : m ≤ 64 := by omega
  have HCM : Hid (c.length = m) := Lib.hid (by omega)
  have HG := Lib.hid (graph_at w (m : Int) (.slice vo vn vc))
  have HTA : Hid ((tableL (m : Int) E c).length = m) := Lib.hid (by simp [tableL])
  obtain ⟨TL, hTL⟩ : ∃ TL, TL = tableL (m : Int) E c := ⟨_, rfl⟩
  have HTL := Lib.hid hTL
  rw [← hTL] at HTA ⊢
  clear h hc hl hTL
  go_enter Tryz.func60, Tryz.ntmps60
  go_wp2
  go_loopw [5, 6] (fun q i wr => ∃ k : Nat, k ≤ m ∧ i = .int .i64 k ∧ Hid (Nw DV (fun _ => False) wr (w.heap.size + 1) q (TL.take k)) ∧ Hid (Ext (w.alloc (.cells #[.int .i64 (m : Int), .slice vo vn vc] 24)) wr)) (fun _ i _ => m - (intOf i).toNat)
  case atStart => exact ⟨0, Nat.zero_le _, rfl, Lib.hid (Nw.lit (α := DV) (δ := Dn) _ (w.alloc (.cells #[.int .i64 (m : Int), .slice vo vn vc] 24)) _ _ (by simp) (by simp)), Lib.hid ((Ext.refl _).alloc _)⟩
  case round =>
    obtain ⟨k, hk, rfl, HQ, HX⟩ := hrel
    obtain ⟨g0, g1⟩ := HG.out wr HX.out
    have hwr := Below.size HX.out
    rw [size_alloc] at hwr
    by_cases hlt : k < m
    · have HNX : Hid (TL.take (k + 1) = TL.take k ++ [dinerC (m : Int) E c k]) := Lib.hid (by rw [HTL.out]; exact tableL_next _ _ _ (by rw [Int.toNat_natCast]; exact hlt))
      obtain ⟨W0, hW0⟩ : ∃ W0, W0 = wr := ⟨_, rfl⟩
      have HW0 := Lib.hid hW0
      have HX0 := Lib.hid (hW0 ▸ HX.out)
      have HQ0 := Lib.hid (hW0 ▸ HQ.out)
      have hw0s : w.heap.size + 1 ≤ W0.heap.size := by rw [hW0]; exact hwr
      have HB0 : Hid (wr.heap.size = W0.heap.size) := Lib.hid (by rw [hW0])
      clear hW0
      go_wp2
      rw [HB0.out]
      go_loopw [8] (fun i wr2 => ∃ j : Nat, j ≤ m ∧ i = .int .i64 j ∧ Hid (∃ so sn sc, wr2.heap[W0.heap.size]? = some (.cells #[.int .i64 (k : Int), .int .i64 0, .slice so sn sc] 49 (0, 0)) ∧ Ow wr2 (W0.heap.size + 1) (.slice so sn sc) (sidesTo E c k j)) ∧ Hid (Ext W0 wr2)) (fun i _ => m - (intOf i).toNat)
      case atStart =>
        refine ⟨0, Nat.zero_le _, rfl, Lib.hid ⟨none, 0, 0, ?_, Ow.nil _ _⟩, Lib.hid ?_⟩
        · rw [HW0.out]; exact get_alloc_new _ _
        · rw [HW0.out]; exact (Ext.refl _).alloc _
      case round =>
        obtain ⟨j, hj, rfl, HD, HX2⟩ := hrel
        obtain ⟨so, sn, sc, hdb, hown⟩ := HD.out
        have HDB := Lib.hid hdb
        have HOW := Lib.hid hown
        have XW := Lib.hid (HX0.out.trans HX2.out)
        obtain ⟨g0', g1'⟩ := HG.out wr XW.out
        have hw02 := blk_lt hdb
        clear hdb hown HD
        by_cases hj2 : j < m
        · obtain ⟨t, ht⟩ : ∃ t, decide (btw (k : Int) (j : Int) ∈ E) = t := ⟨_, rfl⟩
          have HT := Lib.hid ht
          have HNS := Lib.hid (sidesTo_next E c (k : Int) j)
          rw [ht] at HNS
          have HSL := Lib.hid (sidesTo_len E c (k : Int) j)
          obtain ⟨S, hS⟩ : ∃ S, S = sidesTo E c (k : Int) j := ⟨_, rfl⟩
          rw [← hS] at HNS HSL HOW
          have hSl : S.length ≤ 64 := by have := HSL.out; omega
          obtain ⟨b, off, n2, k2, hv, hn2, hnk2, hk63, hb, hca⟩ := HC.out.colAtD (x := (k : Int)) (by omega) (by have := HCM.out; omega)
          obtain ⟨b3, off3, n3, k3, hv3, hn3, hnk3, hk633, hb3, hcb⟩ := HC.out.colAtD (x := (j : Int)) (by omega) (by have := HCM.out; omega)
          simp only [Value.slice.injEq] at hv
          obtain ⟨rfl, rfl, rfl⟩ := hv
          simp only [Value.slice.injEq, Option.some.injEq, Addr.mk.injEq, and_true] at hv3
          obtain ⟨⟨rfl, rfl⟩, rfl, rfl⟩ := hv3
          rw [Int.toNat_natCast] at hca hcb
          have hkc : k < c.length := by have := HCM.out; omega
          have hjc : j < c.length := by have := HCM.out; omega
          have HSC : Hid (sideC c (k : Int) (j : Int) = if col c (k : Int) < col c (j : Int) then ⟨(j : Int), 1, 0, false, false, true, false, true⟩ else ⟨(j : Int), 1, 0, true, true, false, true, false⟩) := Lib.hid rfl
          obtain ⟨p, hp⟩ : ∃ p, p = col c (k : Int) := ⟨_, rfl⟩
          obtain ⟨q, hq⟩ : ∃ q, q = col c (j : Int) := ⟨_, rfl⟩
          rw [← hp] at hca HSC
          rw [← hq] at hcb HSC
          have HCA : Hid (∀ V, Ext (w.alloc (.cells #[.int .i64 (m : Int), .slice vo vn vc] 24)) V → V.cell? ⟨b, off + k, none⟩ = some (.int .i64 p)) := Lib.hid fun V hV => (Below.cell (Ext.trans ((Ext.refl w).alloc _) hV) (p := ⟨b, off + k, none⟩) hb).trans hca
          have HCB : Hid (∀ V, Ext (w.alloc (.cells #[.int .i64 (m : Int), .slice vo vn vc] 24)) V → V.cell? ⟨b, off + j, none⟩ = some (.int .i64 q)) := Lib.hid fun V hV => (Below.cell (Ext.trans ((Ext.refl w).alloc _) hV) (p := ⟨b, off + j, none⟩) hb3).trans hcb
          clear ht hS hca hcb hp hq hn2 hn3
          cases t
          · have HNS2 : Hid (sidesTo E c (k : Int) (j + 1) = S) := Lib.hid (HNS.out.trans (by rw [if_neg (by decide), List.append_nil]))
            go_wp2_with (first
              | (go_at_call 18; refine (refHas_val _ (m : Int) _ E k j (HS.out.ext (Ext.trans ((Ext.refl w).alloc _) XW.out)) _ HT.out).mono ?_; rintro e w1 ⟨rfl, hx⟩; have X1 := Lib.hid hx; have hs1 := Below.size X1.out; have hd1 := (hx.block _ (blk_lt HDB.out)).trans HDB.out; have HD1 := Lib.hid hd1; have O1 := Lib.hid (HOW.out.ext hx); obtain ⟨ga, gb⟩ := HG.out w1 (XW.out.trans hx); have kca := (HCA.out _ (Ext.trans XW.out (Ext.alloc hx (.cells #[.int .i64 (j : Int), .int .i64 1, .int .i64 0, .bool false, .bool false, .bool false, .bool false, .bool false] 52)))); have kcb := (HCB.out _ (Ext.trans XW.out (Ext.alloc hx (.cells #[.int .i64 (j : Int), .int .i64 1, .int .i64 0, .bool false, .bool false, .bool false, .bool false, .bool false] 52)))); clear hx hd1))
            go_roundw
            case rel => exact ⟨j + 1, by omega, by go_num, Lib.hid ⟨so, sn, sc, HD1.out, by rw [HNS2.out]; exact O1.out⟩, Lib.hid (HX2.out.trans X1.out)⟩
            case measure => simp [intOf]; omega
          · rcases Int.lt_or_le p q with hpq | hpq
            · have HNS2 : Hid (sidesTo E c (k : Int) (j + 1) = S ++ [⟨(j : Int), 1, 0, false, false, true, false, true⟩]) := Lib.hid (HNS.out.trans (by rw [HSC.out, if_pos hpq]; rfl))
              go_wp2_with (first
                | (go_at_call 18; refine (refHas_val _ (m : Int) _ E k j (HS.out.ext (Ext.trans ((Ext.refl w).alloc _) XW.out)) _ HT.out).mono ?_; rintro e w1 ⟨rfl, hx⟩; have X1 := Lib.hid hx; have hs1 := Below.size X1.out; have hd1 := (hx.block _ (blk_lt HDB.out)).trans HDB.out; have HD1 := Lib.hid hd1; have O1 := Lib.hid (HOW.out.ext hx); obtain ⟨ga, gb⟩ := HG.out w1 (XW.out.trans hx); have kca := (HCA.out _ (Ext.trans XW.out (Ext.alloc hx (.cells #[.int .i64 (j : Int), .int .i64 1, .int .i64 0, .bool false, .bool false, .bool false, .bool false, .bool false] 52)))); have kcb := (HCB.out _ (Ext.trans XW.out (Ext.alloc hx (.cells #[.int .i64 (j : Int), .int .i64 1, .int .i64 0, .bool false, .bool false, .bool false, .bool false, .bool false] 52)))); clear hx hd1))
              go_quiet (fail)
              go_upto_region 14 with (fail)
              obtain ⟨W5, hW5⟩ : ∃ W5, W5 = ((((w1.alloc (.cells #[.int .i64 (j : Int), .int .i64 1, .int .i64 0, .bool false, .bool false, .bool false, .bool false, .bool false] 52)).drewN nq).setCell ⟨w1.heap.size, 5, none⟩ (.bool true)).setCell ⟨w1.heap.size, 7, none⟩ (.bool true)) := ⟨_, rfl⟩
              have hx5 : Ext w1 W5 := by rw [hW5]; exact below_set (below_set (Ext.drewN (Ext.alloc (Ext.refl w1) _) nq) (Nat.le_refl _) _) (Nat.le_refl _) _
              have hb5 : W5.heap[w1.heap.size]? = some (.cells #[.int .i64 (j : Int), .int .i64 1, .int .i64 0, .bool false, .bool false, .bool true, .bool false, .bool true] 52 (0, 0)) := by
                rw [hW5]
                exact blk_set (blk_set (blk_drewN (at0 w1 (.cells #[.int .i64 (j : Int), .int .i64 1, .int .i64 0, .bool false, .bool false, .bool false, .bool false, .bool false] 52)) nq) 5 (.bool true)) 7 (.bool true)
              rw [← hW5]
              have hd5 := (hx5.block _ (blk_lt HD1.out)).trans HD1.out
              obtain ⟨⟨⟨r0, r1⟩, r2, r3⟩, ⟨r4, r5⟩, r6, r7⟩ := cells8D hb5
              have e2 := blk_cell hd5 2 rfl
              have HX5 := Lib.hid hx5
              have HD5 := Lib.hid hd5
              have HO5 := Lib.hid (O1.out.ext hx5)
              have hs5 := Below.size HX5.out
              clear hW5 hx5 hb5 hd5
              go_wp2_with (first
                | (at_builtin; refine wpList_append_sl (α := Sd) rfl (.tmp 47) (.tmp 49) rfl (W0.heap.size + 1) _ S rfl ?_ (.slice (some ⟨_, 0, none⟩) 1 1) [(⟨(j : Int), 1, 0, false, false, true, false, true⟩ : Sd)] rfl ?_ ?_ ?_ ?_; exact (HO5.out.alloc _); exact (Sl.litAt W5 _ rfl [(⟨(j : Int), 1, 0, false, false, true, false, true⟩ : Sd)] (show (1 : Nat) ≤ 1000000 by decide)); (first | omega | (simp; omega)); exact (by rw [size_alloc]; omega); intro v6 W6 ho6 ha6; obtain ⟨a6, n6, c6, rfl⟩ := ho6.sh; have hd6 := (ha6.below.block _ (by omega)).trans (blk_alloc HD5.out (.cells #[.int .i64 (j : Int), .int .i64 1, .int .i64 0, .bool false, .bool false, .bool true, .bool false, .bool true] 52)); have f6 := blk_free hd6 2; have e6 := blk_cell hd6 2 rfl; have HD6 := Lib.hid hd6; have O6 := Lib.hid ho6; have HX6 : Hid (Ext W0 W6) := Lib.hid (Below.trans (HX2.out.trans (X1.out.trans (HX5.out.alloc _))) (ha6.below.mono (by omega))); clear ho6 ha6 hd6))
              go_roundw
              case rel =>
                refine ⟨j + 1, by omega, by go_num, Lib.hid ⟨a6, n6, c6, by rw [blk_set HD6.out]; rfl, by rw [HNS2.out]; exact O6.out.set (by show W0.heap.size < _; omega) _⟩, Lib.hid (below_set HX6.out (Nat.le_refl _) _)⟩
              case measure => simp [intOf]; omega
            · have HNS2 : Hid (sidesTo E c (k : Int) (j + 1) = S ++ [⟨(j : Int), 1, 0, true, true, false, true, false⟩]) := Lib.hid (HNS.out.trans (by rw [HSC.out, if_neg (show ¬ p < q by omega)]; rfl))
              go_wp2_with (first
                | (go_at_call 18; refine (refHas_val _ (m : Int) _ E k j (HS.out.ext (Ext.trans ((Ext.refl w).alloc _) XW.out)) _ HT.out).mono ?_; rintro e w1 ⟨rfl, hx⟩; have X1 := Lib.hid hx; have hs1 := Below.size X1.out; have hd1 := (hx.block _ (blk_lt HDB.out)).trans HDB.out; have HD1 := Lib.hid hd1; have O1 := Lib.hid (HOW.out.ext hx); obtain ⟨ga, gb⟩ := HG.out w1 (XW.out.trans hx); have kca := (HCA.out _ (Ext.trans XW.out (Ext.alloc hx (.cells #[.int .i64 (j : Int), .int .i64 1, .int .i64 0, .bool false, .bool false, .bool false, .bool false, .bool false] 52)))); have kcb := (HCB.out _ (Ext.trans XW.out (Ext.alloc hx (.cells #[.int .i64 (j : Int), .int .i64 1, .int .i64 0, .bool false, .bool false, .bool false, .bool false, .bool false] 52)))); clear hx hd1))
              go_quiet (fail)
              go_upto_region 14 with (fail)
              obtain ⟨W5, hW5⟩ : ∃ W5, W5 = (((((w1.alloc (.cells #[.int .i64 (j : Int), .int .i64 1, .int .i64 0, .bool false, .bool false, .bool false, .bool false, .bool false] 52)).drewN nq).setCell ⟨w1.heap.size, 3, none⟩ (.bool true)).setCell ⟨w1.heap.size, 4, none⟩ (.bool true)).setCell ⟨w1.heap.size, 6, none⟩ (.bool true)) := ⟨_, rfl⟩
              have hx5 : Ext w1 W5 := by rw [hW5]; exact below_set (below_set (below_set (Ext.drewN (Ext.alloc (Ext.refl w1) _) nq) (Nat.le_refl _) _) (Nat.le_refl _) _) (Nat.le_refl _) _
              have hb5 : W5.heap[w1.heap.size]? = some (.cells #[.int .i64 (j : Int), .int .i64 1, .int .i64 0, .bool true, .bool true, .bool false, .bool true, .bool false] 52 (0, 0)) := by
                rw [hW5]
                exact blk_set (blk_set (blk_set (blk_drewN (at0 w1 (.cells #[.int .i64 (j : Int), .int .i64 1, .int .i64 0, .bool false, .bool false, .bool false, .bool false, .bool false] 52)) nq) 3 (.bool true)) 4 (.bool true)) 6 (.bool true)
              rw [← hW5]
              have hd5 := (hx5.block _ (blk_lt HD1.out)).trans HD1.out
              obtain ⟨⟨⟨r0, r1⟩, r2, r3⟩, ⟨r4, r5⟩, r6, r7⟩ := cells8D hb5
              have e2 := blk_cell hd5 2 rfl
              have HX5 := Lib.hid hx5
              have HD5 := Lib.hid hd5
              have HO5 := Lib.hid (O1.out.ext hx5)
              have hs5 := Below.size HX5.out
              clear hW5 hx5 hb5 hd5
              go_wp2_with (first
                | (at_builtin; refine wpList_append_sl (α := Sd) rfl (.tmp 47) (.tmp 49) rfl (W0.heap.size + 1) _ S rfl ?_ (.slice (some ⟨_, 0, none⟩) 1 1) [(⟨(j : Int), 1, 0, true, true, false, true, false⟩ : Sd)] rfl ?_ ?_ ?_ ?_; exact (HO5.out.alloc _); exact (Sl.litAt W5 _ rfl [(⟨(j : Int), 1, 0, true, true, false, true, false⟩ : Sd)] (show (1 : Nat) ≤ 1000000 by decide)); (first | omega | (simp; omega)); exact (by rw [size_alloc]; omega); intro v6 W6 ho6 ha6; obtain ⟨a6, n6, c6, rfl⟩ := ho6.sh; have hd6 := (ha6.below.block _ (by omega)).trans (blk_alloc HD5.out (.cells #[.int .i64 (j : Int), .int .i64 1, .int .i64 0, .bool true, .bool true, .bool false, .bool true, .bool false] 52)); have f6 := blk_free hd6 2; have e6 := blk_cell hd6 2 rfl; have HD6 := Lib.hid hd6; have O6 := Lib.hid ho6; have HX6 : Hid (Ext W0 W6) := Lib.hid (Below.trans (HX2.out.trans (X1.out.trans (HX5.out.alloc _))) (ha6.below.mono (by omega))); clear ho6 ha6 hd6))
              go_roundw
              case rel =>
                refine ⟨j + 1, by omega, by go_num, Lib.hid ⟨a6, n6, c6, by rw [blk_set HD6.out]; rfl, by rw [HNS2.out]; exact O6.out.set (by show W0.heap.size < _; omega) _⟩, Lib.hid (below_set HX6.out (Nat.le_refl _) _)⟩
              case measure => simp [intOf]; omega
        · have hjm : j = m := by omega
          have HSE : Hid (sidesTo E c (k : Int) m = (dinerC (m : Int) E c k).sides) := Lib.hid (by unfold dinerC; rw [Int.toNat_natCast])
          rw [hjm, HSE.out] at HOW
          obtain ⟨xs, hown, hxl, hel⟩ := HQ0.out.any
          have HXL := Lib.hid hxl
          have HEL := Lib.hid hel
          have HOWN := Lib.hid hown
          have hxs : xs.length ≤ 64 := by rw [hxl]; simp; omega
          have e0 := blk_cell HDB.out 0 rfl
          have e1 := blk_cell HDB.out 1 rfl
          have e2 := blk_cell HDB.out 2 rfl
          clear hown hxl hel hjm
          go_wp2_with (first
            | (at_builtin; refine wpList_append_sl (α := DV) rfl (.tmp 52) (.tmp 54) rfl (w.heap.size + 1) _ xs rfl ?_ (.slice (some ⟨_, 0, none⟩) 1 1) [(⟨(k : Int), 0, so, sn, sc⟩ : DV)] rfl ?_ ?_ ?_ ?_; exact ((HOWN.out.ext HX2.out).alloc _); exact (Sl.litAt wr _ rfl [(⟨(k : Int), 0, so, sn, sc⟩ : DV)] (show (1 : Nat) ≤ 1000000 by decide)); (first | omega | (simp; omega)); exact (by rw [size_alloc]; have := Below.size HX2.out; omega); intro v3 W3 ho3 ha3; have hx : Nest.rd (Own1 (fun _ => False) _) _ (⟨(k : Int), 0, so, sn, sc⟩ : DV) (dinerC (m : Int) E c k) := (⟨rfl, rfl, Sa.new (HOW.out.alloc (.cells #[.int .i64 (k : Int), .int .i64 0, .slice so sn sc] 49)) (fun b hb => by rcases hb with hb | hb; exact hb.elim; have := (HOWN.out.low b hb).2; omega)⟩ : RdD _ _ _ _); have hst := Nw.step (α := DV) (δ := Dn) (F := fun _ => False) (L := TL.take k) HXL.out (fun a x d hx hd => Nest.ext (HEL.out a x d hx hd) (Ext.alloc HX2.out _)) hx ho3 ha3; have HST := Lib.hid hst; have HX3 := Lib.hid (Below.trans (Ext.alloc XW.out _) (ha3.below.mono (by rw [size_alloc]; exact Nat.le_refl _))); clear ho3 ha3 hx hst))
          go_roundw
          case rel => exact ⟨k + 1, by omega, by go_num, Lib.hid (by rw [HNX.out]; exact HST.out), HX3⟩
          case measure => simp [intOf]; omega
    · have hkm : k = m := by omega
      have hq := HQ.out
      rw [hkm, ← HTA.out, List.take_length] at hq
      have HQ' := Lib.hid hq
      clear hq HQ hkm
      go_wp2
      go_ret
      exact ⟨_, rfl, HQ'.out.mono (by omega), Ext.trans ((Ext.refl w).alloc _) HX.out⟩

end Go.Proofs.YtdfleocknaackaaGreat
