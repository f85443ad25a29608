/- Layer 12, the program: the nodes of a graph, each edge's fork laid by colours. -/
import Derived.Test.YtdfleocknaackaaGreatMPS
import Derived.Test.YtdfleocknaackaaGreatMPG
import Derived.Test.YtdfleocknaackaaGreatY7
import Derived.Test.YtdfleocknaackaaGreatP4
import Derived.Test.YtdfleocknaackaaGreatMRW
import Derived.IntWalk
import Derived.Shelf.Abstract
namespace Go.Proofs.YtdfleocknaackaaGreat
open Go.RowKit

theorem keepT {w W : World} {g : Nat} {o : Obj} (h : w.heap[g]? = some o) (e : Ext w W) : W.heap[g]? = some o := (e.block _ (blk_lt h)).trans h
theorem offT {w w' : World} {row : Option Nat} (h : w.grownBy w' row) : Off (fun k => row = some k) w w' :=
  ⟨h.os, h.tape, h.output, h.size, fun k hk hn => h.block k hk (fun e => hn e.symm)⟩
def laidS (p : Int) (b : Bool) : Sd := if b = true then ⟨p, 1, 0, false, false, true, false, true⟩ else ⟨p, 1, 0, true, true, false, true, false⟩
theorem sideC_laid (c : List Int) (a b : Int) : sideC c a b = laidS b (decide (col c a < col c b)) := by unfold sideC laidS; by_cases h : col c a < col c b <;> simp [h]
theorem range_SS : ∀ n : Nat, SS ((List.range n).map fun i : Nat => (i : Int))
  | 0 => by unfold SS; simp
  | n + 1 => by
    have ih := range_SS n
    unfold SS at ih ⊢
    rw [List.range_succ, List.map_append, List.pairwise_append]
    refine ⟨ih, by simp, ?_⟩
    intro a ha b hb
    simp at ha hb
    obtain ⟨i, hi, rfl⟩ := ha
    omega
theorem nearOf_eq {N : Int} {E : List Edge} (ok : OkG N E) (a : Int) : nearOf E a = rnear N E a :=
  SS.ext (by unfold nearOf; exact norm_SS _) (by unfold rnear; exact (range_SS _).filter _) fun _ => near_rnear ok
theorem diner_near {N : Int} {E : List Edge} (ok : OkG N E) (c : List Int) (a : Nat) : dinerC N E c a = ⟨a, 0, (nearOf E a).map (sideC c a)⟩ := by rw [nearOf_eq ok]; rfl
theorem rnear_len (N : Int) (E : List Edge) (a : Int) : (rnear N E a).length ≤ N.toNat := by
  unfold rnear
  have := List.length_filter_le (fun b => decide (btw a b ∈ E)) ((List.range N.toNat).map fun i : Nat => (i : Int))
  simpa using this
theorem mem_rnear_in {N : Int} {E : List Edge} {a x : Int} (h : x ∈ rnear N E a) : 0 ≤ x ∧ x < N := by
  unfold rnear at h
  simp at h
  obtain ⟨⟨i, hi, rfl⟩, _⟩ := h
  omega

set_option maxRecDepth 100000 in
set_option maxHeartbeats 2000000 in
theorem pLaid_any (w : World) (p : Int) (b : Bool) (x : Sd) (hx : laidS p b = x) :
    Calls Tryz.prog 94 #[.int .i64 p, .bool b] w fun e w' => e = .returned (.agg x.cs) ∧ Ext w w' := by
  subst hx
  cases b
  · have HZ := Lib.hid (old1 (at0 w (.cells Sd.zero.cs 52)) (.cells #[.int .i64 p, .int .i64 1, .int .i64 0, .bool true, .bool true, .bool false, .bool true, .bool false] 52))
    have HL := Lib.hid (at1 w (.cells Sd.zero.cs 52) (.cells #[.int .i64 p, .int .i64 1, .int .i64 0, .bool true, .bool true, .bool false, .bool true, .bool false] 52))
    have X1 : Hid (Ext w ((w.alloc (.cells Sd.zero.cs 52)).alloc (.cells #[.int .i64 p, .int .i64 1, .int .i64 0, .bool true, .bool true, .bool false, .bool true, .bool false] 52))) := Lib.hid (((Ext.refl w).alloc _).alloc _)
    go_enter Tryz.func94, Tryz.ntmps94
    go_upto_region 5 with (fail)
    obtain ⟨⟨⟨q0, q1⟩, q2, q3⟩, ⟨q4, q5⟩, q6, q7⟩ := cells8P HL.out
    dsimp only [Sd.cs, Sd.zero] at q0 q1 q2 q3 q4 q5 q6 q7
    go_wp2_with (first | refine haltst 52 ?_)
    refine .inl ?_
    refine st_l 52 (.tmp 4) (.tmp 14) w.heap.size 0 52 Sd.zero.cs #[.int .i64 p, .int .i64 1, .int .i64 0, .bool true, .bool true, .bool false, .bool true, .bool false] #[.int .i64 p, .int .i64 1, .int .i64 0, .bool true, .bool true, .bool false, .bool true, .bool false] rfl rfl HZ.out (by kernel_rfl) (by simp [Sd.cs, Sd.zero]) rfl rfl ?_
    intro W hW oW
    simp only [Act.put]
    go_wp2
    exact bodyPost_ret (v := .agg #[.int .i64 p, .int .i64 1, .int .i64 0, .bool true, .bool true, .bool false, .bool true, .bool false]) (res_c rfl rfl hW uSide (by kernel_rfl)) rfl ⟨rfl, ext_off X1.out oW (fun k hk => by omega)⟩
  · have HZ := Lib.hid (old1 (at0 w (.cells Sd.zero.cs 52)) (.cells #[.int .i64 p, .int .i64 1, .int .i64 0, .bool false, .bool false, .bool true, .bool false, .bool true] 52))
    have HL := Lib.hid (at1 w (.cells Sd.zero.cs 52) (.cells #[.int .i64 p, .int .i64 1, .int .i64 0, .bool false, .bool false, .bool true, .bool false, .bool true] 52))
    have X1 : Hid (Ext w ((w.alloc (.cells Sd.zero.cs 52)).alloc (.cells #[.int .i64 p, .int .i64 1, .int .i64 0, .bool false, .bool false, .bool true, .bool false, .bool true] 52))) := Lib.hid (((Ext.refl w).alloc _).alloc _)
    go_enter Tryz.func94, Tryz.ntmps94
    go_upto_region 5 with (fail)
    obtain ⟨⟨⟨q0, q1⟩, q2, q3⟩, ⟨q4, q5⟩, q6, q7⟩ := cells8P HL.out
    dsimp only [Sd.cs, Sd.zero] at q0 q1 q2 q3 q4 q5 q6 q7
    go_wp2_with (first | refine haltst 52 ?_)
    refine .inl ?_
    refine st_l 52 (.tmp 4) (.tmp 14) w.heap.size 0 52 Sd.zero.cs #[.int .i64 p, .int .i64 1, .int .i64 0, .bool false, .bool false, .bool true, .bool false, .bool true] #[.int .i64 p, .int .i64 1, .int .i64 0, .bool false, .bool false, .bool true, .bool false, .bool true] rfl rfl HZ.out (by kernel_rfl) (by simp [Sd.cs, Sd.zero]) rfl rfl ?_
    intro W hW oW
    simp only [Act.put]
    go_wp2
    exact bodyPost_ret (v := .agg #[.int .i64 p, .int .i64 1, .int .i64 0, .bool false, .bool false, .bool true, .bool false, .bool true]) (res_c rfl rfl hW uSide (by kernel_rfl)) rfl ⟨rfl, ext_off X1.out oW (fun k hk => by omega)⟩

theorem okG_chkT {N : Int} {E : List Edge} {b : Bool} (h : okG N E = b) : chk N E = if b = true then 0 else 30 := by unfold chk; rw [h]

set_option maxRecDepth 100000 in
set_option maxHeartbeats 8000000 in
theorem pTable_any (w : World) (N : Int) (v cv : Value) (E : List Edge) (c : List Int) (h : Sl w v E) (hc : Sl w cv c) (r : Int) (hr : placeR N E c = r) (L : List Dn) (hL : (if r = 0 then tableL N E c else []) = L) :
    Calls Tryz.prog 55 #[.agg #[.int .i64 N, v], cv] w (GivesN w L r) := by
  obtain ⟨vo, vn, vc, rfl⟩ := h.sh
  obtain ⟨co, cc, rfl⟩ := hc.len
  have HS := Lib.hid h
  have HC := Lib.hid hc
  have HG := Lib.hid (graph_at w N (.slice vo vn vc))
  have X0 : Hid (Ext w (w.alloc (.cells #[.int .i64 N, .slice vo vn vc] 24))) := Lib.hid ((Ext.refl w).alloc _)
  obtain ⟨g0, g1⟩ := HG.out _ (Ext.refl _)
  clear h hc
  cases ho : okG N E
  · have HOK := Lib.hid (okG_chkT ho)
    obtain rfl : r = 30 := by rw [← hr]; unfold placeR; rw [ho]; rfl
    obtain rfl : L = [] := by rw [← hL]; rfl
    clear ho hr hL
    go_enter Tryz.func55, Tryz.ntmps55
    go_wp2_with (go_at_call 43; refine (check_any _ N _ E (HS.out.ext X0.out) 30 HOK.out).mono ?_; rintro e w1 ⟨rfl, hx⟩; have X1 := Lib.hid (X0.out.trans hx); clear hx)
    go_ret2
    exact ⟨_, rfl, Ns.nil _ _, X1.out⟩
  have HOK := Lib.hid (okG_chkT ho)
  have HOG := Lib.hid (okG_iff.1 ho)
  cases hrb : rightB N E c
  · obtain rfl : r = 120 := by rw [← hr]; unfold placeR; rw [ho, hrb]; rfl
    obtain rfl : L = [] := by rw [← hL]; rfl
    have HRB := Lib.hid hrb
    clear ho hr hL hrb
    go_enter Tryz.func55, Tryz.ntmps55
    go_wp2_with (first
      | (go_at_call 43; refine (check_any _ N _ E (HS.out.ext X0.out) 0 HOK.out).mono ?_; rintro e w1 ⟨rfl, hx⟩; have X1 := Lib.hid hx; obtain ⟨k0, k1⟩ := HG.out w1 X1.out; clear hx)
      | (go_at_call 92; refine (right_any _ N _ _ E c (HS.out.ext (X0.out.trans X1.out)) (HC.out.ext (X0.out.trans X1.out)) _ HRB.out).mono ?_; rintro e w2 ⟨rfl, hx⟩; have X2 := Lib.hid (X1.out.trans hx); clear hx))
    go_ret2
    exact ⟨_, rfl, Ns.nil _ _, X0.out.trans X2.out⟩
  obtain rfl : r = 0 := by rw [← hr]; unfold placeR; rw [ho, hrb]; rfl
  obtain rfl : L = tableL N E c := by rw [← hL]; rfl
  have HRB := Lib.hid hrb
  have hlc : c.length = N.toNat := by unfold rightB at hrb; simp only [Bool.and_eq_true, decide_eq_true_eq] at hrb; exact hrb.1.2
  clear ho hr hL hrb
  obtain ⟨m, hm⟩ : ∃ m : Nat, (m : Int) = N := ⟨N.toNat, by have := HOG.out.n0; omega⟩
  subst hm
  have hm64 : m ≤ 64 := by have := HOG.out.n64; omega
  have HCM : Hid (c.length = m) := Lib.hid (by omega)
  have HTA : Hid ((tableL (m : Int) E c).length = m) := Lib.hid (by simp [tableL])
  obtain ⟨TL, hTL⟩ : ∃ TL, TL = tableL (m : Int) E c := ⟨_, rfl⟩
  have HTL := Lib.hid hTL
  rw [← hTL] at HTA ⊢
  clear hTL hlc
  go_enter Tryz.func55, Tryz.ntmps55
  go_upto_region 7 with (first
    | (go_at_call 43; refine (check_any _ (m : Int) _ E (HS.out.ext X0.out) 0 HOK.out).mono ?_; rintro e w1 ⟨rfl, hx⟩; have X1 := Lib.hid hx; obtain ⟨k0, k1⟩ := HG.out w1 X1.out; clear hx)
    | (go_at_call 92; refine (right_any _ (m : Int) _ _ E c (HS.out.ext (X0.out.trans X1.out)) (HC.out.ext (X0.out.trans X1.out)) _ HRB.out).mono ?_; rintro e w2 ⟨rfl, hx⟩; have X2 := Lib.hid (X1.out.trans hx); clear hx))
  obtain ⟨k2, k3⟩ := HG.out w2 X2.out
  go_wp2
  go_loopw [7, 23] (fun q i wr => ∃ k : Nat, k ≤ m ∧ i = .int .i64 k ∧ Hid (Nw DV Non wr (w.heap.size + 1) q (TL.take k)) ∧ Hid (Ext (w.alloc (.cells #[.int .i64 (m : Int), .slice vo vn vc] 24)) wr)) (fun _ i _ => m - (intOf i).toNat)
  case atStart => exact ⟨0, Nat.zero_le _, rfl, Lib.hid (by rw [List.take_zero]; exact Nw.nil _ _ _), X2⟩
  case round =>
    obtain ⟨k, hk, rfl, HQ, HX⟩ := hrel
    obtain ⟨h0, h1⟩ := HG.out wr HX.out
    have hwr := Below.size HX.out
    rw [size_alloc] at hwr
    by_cases hlt : k < m
    · have HNX : Hid (TL.take (k + 1) = TL.take k ++ [(⟨(k : Int), 0, (nearOf E (k : Int)).map (sideC c (k : Int))⟩ : Dn)]) := Lib.hid (by rw [HTL.out, ← diner_near HOG.out]; exact tableL_next _ _ _ (by rw [Int.toNat_natCast]; exact hlt))
      have HNI : Hid (∀ y ∈ nearOf E (k : Int), 0 ≤ y ∧ y < (m : Int)) := Lib.hid fun y hy => by rw [nearOf_eq HOG.out] at hy; exact mem_rnear_in hy
      have hnl : (nearOf E (k : Int)).length ≤ 64 := by rw [nearOf_eq HOG.out]; have := rnear_len (m : Int) E (k : Int); rw [Int.toNat_natCast] at this; omega
      obtain ⟨NR, hNR⟩ : ∃ NR, NR = nearOf E (k : Int) := ⟨_, rfl⟩
      have HNR := Lib.hid hNR
      rw [← hNR] at HNX HNI hnl
      obtain ⟨W1, hW1⟩ : ∃ W1, W1 = wr.alloc (.cells #[.int .i64 (k : Int), .int .i64 0, .slice none 0 0] 49) := ⟨_, rfl⟩
      have X1 : Hid (Ext wr W1) := Lib.hid (hW1 ▸ (Ext.refl _).alloc _)
      have D1 : Hid (W1.heap[wr.heap.size]? = some (.cells #[.int .i64 (k : Int), .int .i64 0, .slice none 0 0] 49 (0, 0))) := Lib.hid (hW1 ▸ at0 wr _)
      have HW1 := Lib.hid hW1
      have hW1s : W1.heap.size = wr.heap.size + 1 := by rw [hW1, size_alloc]
      obtain ⟨h2, h3⟩ := HG.out W1 (HX.out.trans X1.out)
      clear hNR hW1
      go_upto_region 11 with (fail)
      rw [← HW1.out]
      go_wp2_with (first
        | (go_at_call 93; refine (near_any _ (m : Int) _ E (k : Int) (HS.out.ext (Ext.trans X0.out (HX.out.trans X1.out))) HOG.out).mono ?_; rintro e wn ⟨nv, rfl, hown, hbe⟩; rw [← HNR.out] at hown; obtain ⟨no, nc, rfl⟩ := hown.sl.len; have HNV := Lib.hid hown; have X3 : Hid (Ext W1 wn) := Lib.hid hbe; clear hown hbe))
      obtain ⟨G, hGG⟩ : ∃ G, wr.heap.size = G := ⟨_, rfl⟩
      obtain ⟨WR, hWR⟩ : ∃ WR, WR = wr := ⟨_, rfl⟩
      have HWR := Lib.hid hWR
      have hGr : Hid (WR.heap.size = G) := Lib.hid (by rw [hWR, hGG])
      have HQ0 := Lib.hid (hWR ▸ HQ.out)
      have HX0 := Lib.hid (hWR ▸ HX.out)
      have X10 := Lib.hid (hWR ▸ X1.out)
      rw [hGG] at D1 hwr hW1s ⊢
      have hwn := Below.size X3.out
      have HF : Hid (∀ b, (b = G ∨ wn.heap.size ≤ b) → w.heap.size ≤ b) := Lib.hid fun b hb => by omega
      have HNS : Hid (Sa (fun b => b = G ∨ wn.heap.size ≤ b) wn (.slice no NR.length nc) NR) := Lib.hid ⟨HNV.out.sl, .inr fun b hb hf => by have := HNV.out.low b hb; omega⟩
      have DN := Lib.hid (keepT D1.out X3.out)
      clear hGG hWR HQ HX X1 D1
      go_loopw [32] (fun i wr2 => ∃ j : Nat, j ≤ NR.length ∧ i = .int .i64 j ∧ Hid (∃ so sn sc, wr2.heap[G]? = some (.cells #[.int .i64 (k : Int), .int .i64 0, .slice so sn sc] 49 (0, 0)) ∧ Ow wr2 wn.heap.size (.slice so sn sc) ((NR.take j).map (sideC c (k : Int)))) ∧ Hid (Off (fun b => b = G ∨ wn.heap.size ≤ b) wn wr2)) (fun i _ => NR.length - (intOf i).toNat)
      case atStart => exact ⟨0, Nat.zero_le _, rfl, Lib.hid ⟨none, 0, 0, DN.out, Ow.nil _ _⟩, Lib.hid (Off.refl _ _)⟩
      case round =>
        obtain ⟨j, hj, rfl, HD, HO⟩ := hrel
        obtain ⟨so, sn, sc, hdb, hown⟩ := HD.out
        have HDB := Lib.hid hdb
        have HOW := Lib.hid hown
        have XW : Hid (Ext w wr) := Lib.hid (ext_off (X0.out.trans (HX0.out.trans (X10.out.trans X3.out))) HO.out HF.out)
        have hsz := HO.out.size
        clear hdb hown HD
        by_cases hj2 : j < NR.length
        · have HNN := HNS.out.off HO.out (Grows.refl _ _)
          obtain ⟨nb, nof, hno, _, hn2, hn3, hn4, hn5⟩ := HNN.sl.intsAt hj2
          subst hno
          obtain ⟨y, hy⟩ : ∃ y, y = NR.getD j 0 := ⟨_, rfl⟩
          rw [← hy] at hn5
          have hyi := HNI.out y (hy ▸ by rw [List.getD_eq_getElem?_getD, List.getElem?_eq_getElem hj2]; simp)
          have hyk : NR[j]? = some y := by rw [hy]; simp [hj2]
          have HTK : Hid ((NR.take (j + 1)).map (sideC c (k : Int)) = (NR.take j).map (sideC c (k : Int)) ++ [sideC c (k : Int) y]) := Lib.hid (by rw [List.take_succ_eq_append_getElem hj2, List.map_append]; simp [(List.getElem?_eq_some_iff.1 hyk).2])
          have HSL : Hid (((NR.take j).map (sideC c (k : Int))).length ≤ 64) := Lib.hid (by rw [List.length_map, List.length_take]; omega)
          obtain ⟨S, hS⟩ : ∃ S, S = (NR.take j).map (sideC c (k : Int)) := ⟨_, rfl⟩
          rw [← hS] at HTK HSL HOW
          have hSl : S.length ≤ 64 := HSL.out
          obtain ⟨b, off, n2, k2, hv, hcn, hnk2, hk63, hb, hca⟩ := HC.out.colAtD (x := (k : Int)) (by omega) (by have := HCM.out; omega)
          obtain ⟨b3, off3, n3, k3, hv3, hcn3, hnk3, hk633, hb3, hcb⟩ := HC.out.colAtD (x := y) (by omega) (by have := HCM.out; omega)
          simp only [Value.slice.injEq] at hv
          obtain ⟨rfl, rfl, rfl⟩ := hv
          simp only [Value.slice.injEq, Option.some.injEq, Addr.mk.injEq, and_true] at hv3
          obtain ⟨⟨rfl, rfl⟩, rfl, rfl⟩ := hv3
          rw [Int.toNat_natCast] at hca
          obtain ⟨yn, rfl⟩ : ∃ yn : Nat, y = (yn : Int) := ⟨y.toNat, by omega⟩
          rw [Int.toNat_natCast] at hcb
          have hkc : k < c.length := by have := HCM.out; omega
          have hjc : yn < c.length := by have := HCM.out; omega
          have HCL := Lib.hid (sideC_laid c (k : Int) (yn : Int))
          obtain ⟨p, hp⟩ : ∃ p, p = col c (k : Int) := ⟨_, rfl⟩
          obtain ⟨q, hq⟩ : ∃ q, q = col c (yn : Int) := ⟨_, rfl⟩
          rw [← hp] at hca HCL
          rw [← hq] at hcb HCL
          have HCA : Hid (∀ V, Ext w V → V.cell? ⟨b, off + k, none⟩ = some (.int .i64 p)) := Lib.hid fun V hV => (Below.cell hV (p := ⟨b, off + k, none⟩) hb).trans hca
          have HCB : Hid (∀ V, Ext w V → V.cell? ⟨b, off + yn, none⟩ = some (.int .i64 q)) := Lib.hid fun V hV => (Below.cell hV (p := ⟨b, off + yn, none⟩) hb3).trans hcb
          obtain ⟨x, hx⟩ : ∃ x, laidS (yn : Int) (decide (p < q)) = x := ⟨_, rfl⟩
          rw [hx] at HCL
          have HLX := Lib.hid hx
          clear hx hS hca hcb hp hq hy hyk hyi HNN hcn hcn3 HSL
          obtain ⟨x0, x1, x2, x3, x4, x5, x6, x7⟩ := x
          go_wp2_with fail
          (refine wp_region_X_lit (K := fun W => Ext w W) (by kernel_rfl) (fun w1 hw1 => ?_))
          have HW1 := Lib.hid hw1
          clear hw1
          refine xtv 0 (h := ?_)
          refine xtv 2 (h := ?_)
          refine xtv 3 (h := ?_)
          refine xtv 4 (h := ?_)
          refine xtv 5 (h := ?_)
          refine xtv 6 (hv := by intro w' hw'; have hc := HCA.out w' hw'; go_simp; first | done | with_reducible rfl) (h := ?_)
          refine xtv 7 (h := ?_)
          refine xtv 8 (h := ?_)
          refine xtv 9 (h := ?_)
          refine xtv 10 (hv := by intro w' hw'; have hc := HCB.out w' hw'; go_simp; first | done | with_reducible rfl) (h := ?_)
          refine xtv 11 (h := ?_)
          refine xtwo 1 12 (hk := (XW.out.trans HW1.out)) (h := RunX.of 1 (h := ?_)) (h' := RunX.of 12 (h := ?_))
          · have e2 := blk_cell (keepT HDB.out HW1.out) 2 rfl
            go_simp
            (try (simp only [Act.put, List.setIfInBounds_toArray, List.set]))
            refine xone 12 (hk := (XW.out.trans HW1.out)) (h := RunX.of 12 (h := ?_))
            go_simp
            refine (pLaid_any w1 (yn : Int) (decide (p < q)) _ HLX.out).mono ?_
            rintro e9 w9 ⟨rfl, hx9⟩
            have X9 := Lib.hid (HW1.out.trans hx9)
            have KA := Lib.hid (XW.out.trans (X9.out.alloc (.cells #[.int .i64 x0, .int .i64 x1, .int .i64 x2, .bool x3, .bool x4, .bool x5, .bool x6, .bool x7] 52)))
            have KB := Lib.hid (XW.out.trans X9.out)
            clear hx9
            dsimp only [Sd.cs]
            (try (simp only [Act.put, List.setIfInBounds_toArray, List.set]))
            refine xone 13 (hk := KB.out) (h := RunX.of 13 (h := ?_))
            go_simp
            (try (simp only [Act.put, List.setIfInBounds_toArray, List.set]))
            refine xone 14 (hk := KA.out) (h := RunX.of 14 (h := ?_))
            (refine wp_append_sl (α := Sd) (.tmp 37) (.tmp 49) rfl wn.heap.size (.slice so sn sc) S rfl ?_ (.slice (some ⟨_, 0, none⟩) 1 1) [(⟨x0, x1, x2, x3, x4, x5, x6, x7⟩ : Sd)] rfl ?_ ?_ ?_ ?_; exact ((HOW.out.ext X9.out).alloc _); exact (Sl.litAt w9 _ rfl [(⟨x0, x1, x2, x3, x4, x5, x6, x7⟩ : Sd)] (show (1 : Nat) ≤ 1000000 by decide)); (first | omega | (simp; omega)); (rw [size_alloc]; have := Below.size X9.out; omega); intro v6 W6 ho6 ha6)
            obtain ⟨a6, n6, c6, rfl⟩ := ho6.sh
            have O6 : Hid (Off (fun b => b = G ∨ wn.heap.size ≤ b) wn W6) := Lib.hid (HO.out.trans ((Off.of_ext (X9.out.alloc (.cells #[.int .i64 x0, .int .i64 x1, .int .i64 x2, .bool x3, .bool x4, .bool x5, .bool x6, .bool x7] 52))).trans ((offT ha6.grown).mono fun b hb => .inr (HOW.out.low b hb).1) (Grows.refl _ _)) (Grows.refl _ _))
            have K6 : Hid (Ext w W6) := Lib.hid (ext_off (X0.out.trans (HX0.out.trans (X10.out.trans X3.out))) O6.out HF.out)
            have hd6 := (ha6.below.block G (by omega)).trans (keepT HDB.out (X9.out.alloc (.cells #[.int .i64 x0, .int .i64 x1, .int .i64 x2, .bool x3, .bool x4, .bool x5, .bool x6, .bool x7] 52)))
            have f6 := blk_free hd6 2
            have e6 := blk_cell hd6 2 rfl
            have HD6 := Lib.hid hd6
            have HO6 := Lib.hid ho6
            clear ho6 ha6 hd6
            dsimp only
            (try (simp only [Act.put, List.setIfInBounds_toArray, List.set]))
            refine xone 15 (hk := K6.out) (h := RunX.of 15 (h := ?_))
            go_simp
            (try (simp only [Act.put, List.setIfInBounds_toArray, List.set]))
            refine xone 16 (hk := K6.out) (h := RunX.of 16 (h := ?_))
            go_simp
            (try (simp only [Act.put, List.setIfInBounds_toArray, List.set]))
            (refine xdone (by kernel_rfl) ((below_set K6.out (by show w.heap.size ≤ G; omega) _)) ?_)
            go_wp2
            go_roundw
            case rel => exact ⟨j + 1, by omega, by go_num, Lib.hid ⟨a6, n6, c6, by rw [blk_set HD6.out]; rfl, by rw [HTK.out, HCL.out]; exact HO6.out.set (by show G < wn.heap.size; omega) _⟩, Lib.hid (O6.out.trans ((off_set _ _ _).mono fun b hb => .inl hb) (Grows.refl _ _))⟩
            case measure => simp [intOf]; omega
          · go_simp
            refine (pLaid_any w1 (yn : Int) (decide (p < q)) _ HLX.out).mono ?_
            rintro e9 w9 ⟨rfl, hx9⟩
            have X9 := Lib.hid (HW1.out.trans hx9)
            have KA := Lib.hid (XW.out.trans (X9.out.alloc (.cells #[.int .i64 x0, .int .i64 x1, .int .i64 x2, .bool x3, .bool x4, .bool x5, .bool x6, .bool x7] 52)))
            have KB := Lib.hid (XW.out.trans X9.out)
            clear hx9
            dsimp only [Sd.cs]
            (try (simp only [Act.put, List.setIfInBounds_toArray, List.set]))
            refine xtwo 1 13 (hk := KB.out) (h := RunX.of 1 (h := ?_)) (h' := RunX.of 13 (h := ?_))
            · have e2 := blk_cell (keepT HDB.out X9.out) 2 rfl
              go_simp
              (try (simp only [Act.put, List.setIfInBounds_toArray, List.set]))
              refine xone 13 (hk := KB.out) (h := RunX.of 13 (h := ?_))
              go_simp
              (try (simp only [Act.put, List.setIfInBounds_toArray, List.set]))
              refine xone 14 (hk := KA.out) (h := RunX.of 14 (h := ?_))
              (refine wp_append_sl (α := Sd) (.tmp 37) (.tmp 49) rfl wn.heap.size (.slice so sn sc) S rfl ?_ (.slice (some ⟨_, 0, none⟩) 1 1) [(⟨x0, x1, x2, x3, x4, x5, x6, x7⟩ : Sd)] rfl ?_ ?_ ?_ ?_; exact ((HOW.out.ext X9.out).alloc _); exact (Sl.litAt w9 _ rfl [(⟨x0, x1, x2, x3, x4, x5, x6, x7⟩ : Sd)] (show (1 : Nat) ≤ 1000000 by decide)); (first | omega | (simp; omega)); (rw [size_alloc]; have := Below.size X9.out; omega); intro v6 W6 ho6 ha6)
              obtain ⟨a6, n6, c6, rfl⟩ := ho6.sh
              have O6 : Hid (Off (fun b => b = G ∨ wn.heap.size ≤ b) wn W6) := Lib.hid (HO.out.trans ((Off.of_ext (X9.out.alloc (.cells #[.int .i64 x0, .int .i64 x1, .int .i64 x2, .bool x3, .bool x4, .bool x5, .bool x6, .bool x7] 52))).trans ((offT ha6.grown).mono fun b hb => .inr (HOW.out.low b hb).1) (Grows.refl _ _)) (Grows.refl _ _))
              have K6 : Hid (Ext w W6) := Lib.hid (ext_off (X0.out.trans (HX0.out.trans (X10.out.trans X3.out))) O6.out HF.out)
              have hd6 := (ha6.below.block G (by omega)).trans (keepT HDB.out (X9.out.alloc (.cells #[.int .i64 x0, .int .i64 x1, .int .i64 x2, .bool x3, .bool x4, .bool x5, .bool x6, .bool x7] 52)))
              have f6 := blk_free hd6 2
              have e6 := blk_cell hd6 2 rfl
              have HD6 := Lib.hid hd6
              have HO6 := Lib.hid ho6
              clear ho6 ha6 hd6
              dsimp only
              (try (simp only [Act.put, List.setIfInBounds_toArray, List.set]))
              refine xone 15 (hk := K6.out) (h := RunX.of 15 (h := ?_))
              go_simp
              (try (simp only [Act.put, List.setIfInBounds_toArray, List.set]))
              refine xone 16 (hk := K6.out) (h := RunX.of 16 (h := ?_))
              go_simp
              (try (simp only [Act.put, List.setIfInBounds_toArray, List.set]))
              (refine xdone (by kernel_rfl) ((below_set K6.out (by show w.heap.size ≤ G; omega) _)) ?_)
              go_wp2
              go_roundw
              case rel => exact ⟨j + 1, by omega, by go_num, Lib.hid ⟨a6, n6, c6, by rw [blk_set HD6.out]; rfl, by rw [HTK.out, HCL.out]; exact HO6.out.set (by show G < wn.heap.size; omega) _⟩, Lib.hid (O6.out.trans ((off_set _ _ _).mono fun b hb => .inl hb) (Grows.refl _ _))⟩
              case measure => simp [intOf]; omega
            · go_simp
              (try (simp only [Act.put, List.setIfInBounds_toArray, List.set]))
              have e2 := blk_cell (keepT HDB.out (X9.out.alloc (.cells #[.int .i64 x0, .int .i64 x1, .int .i64 x2, .bool x3, .bool x4, .bool x5, .bool x6, .bool x7] 52))) 2 rfl
              refine xone 1 (hk := KA.out) (h := RunX.of 1 (h := ?_))
              go_simp
              (try (simp only [Act.put, List.setIfInBounds_toArray, List.set]))
              refine xone 14 (hk := KA.out) (h := RunX.of 14 (h := ?_))
              (refine wp_append_sl (α := Sd) (.tmp 37) (.tmp 49) rfl wn.heap.size (.slice so sn sc) S rfl ?_ (.slice (some ⟨_, 0, none⟩) 1 1) [(⟨x0, x1, x2, x3, x4, x5, x6, x7⟩ : Sd)] rfl ?_ ?_ ?_ ?_; exact ((HOW.out.ext X9.out).alloc _); exact (Sl.litAt w9 _ rfl [(⟨x0, x1, x2, x3, x4, x5, x6, x7⟩ : Sd)] (show (1 : Nat) ≤ 1000000 by decide)); (first | omega | (simp; omega)); (rw [size_alloc]; have := Below.size X9.out; omega); intro v6 W6 ho6 ha6)
              obtain ⟨a6, n6, c6, rfl⟩ := ho6.sh
              have O6 : Hid (Off (fun b => b = G ∨ wn.heap.size ≤ b) wn W6) := Lib.hid (HO.out.trans ((Off.of_ext (X9.out.alloc (.cells #[.int .i64 x0, .int .i64 x1, .int .i64 x2, .bool x3, .bool x4, .bool x5, .bool x6, .bool x7] 52))).trans ((offT ha6.grown).mono fun b hb => .inr (HOW.out.low b hb).1) (Grows.refl _ _)) (Grows.refl _ _))
              have K6 : Hid (Ext w W6) := Lib.hid (ext_off (X0.out.trans (HX0.out.trans (X10.out.trans X3.out))) O6.out HF.out)
              have hd6 := (ha6.below.block G (by omega)).trans (keepT HDB.out (X9.out.alloc (.cells #[.int .i64 x0, .int .i64 x1, .int .i64 x2, .bool x3, .bool x4, .bool x5, .bool x6, .bool x7] 52)))
              have f6 := blk_free hd6 2
              have e6 := blk_cell hd6 2 rfl
              have HD6 := Lib.hid hd6
              have HO6 := Lib.hid ho6
              clear ho6 ha6 hd6
              dsimp only
              (try (simp only [Act.put, List.setIfInBounds_toArray, List.set]))
              refine xone 15 (hk := K6.out) (h := RunX.of 15 (h := ?_))
              go_simp
              (try (simp only [Act.put, List.setIfInBounds_toArray, List.set]))
              refine xone 16 (hk := K6.out) (h := RunX.of 16 (h := ?_))
              go_simp
              (try (simp only [Act.put, List.setIfInBounds_toArray, List.set]))
              (refine xdone (by kernel_rfl) ((below_set K6.out (by show w.heap.size ≤ G; omega) _)) ?_)
              go_wp2
              go_roundw
              case rel => exact ⟨j + 1, by omega, by go_num, Lib.hid ⟨a6, n6, c6, by rw [blk_set HD6.out]; rfl, by rw [HTK.out, HCL.out]; exact HO6.out.set (by show G < wn.heap.size; omega) _⟩, Lib.hid (O6.out.trans ((off_set _ _ _).mono fun b hb => .inl hb) (Grows.refl _ _))⟩
              case measure => simp [intOf]; omega
        · have hje : j = NR.length := by omega
          rw [hje, List.take_length] at HOW
          have HX2 : Hid (Ext WR wr) := Lib.hid (ext_off (X10.out.trans X3.out) HO.out (fun b hb => by have := hGr.out; omega))
          have XWG : Hid (Ext (w.alloc (.cells #[.int .i64 (m : Int), .slice vo vn vc] 24)) wr) := Lib.hid (HX0.out.trans HX2.out)
          obtain ⟨xs, hown0, hxl, hel⟩ := HQ0.out.any
          have HXL := Lib.hid hxl
          have HEL := Lib.hid hel
          have HOWN := Lib.hid hown0
          have hxs : xs.length ≤ 64 := by rw [hxl, List.length_take]; omega
          have e0 := blk_cell HDB.out 0 rfl
          have e1 := blk_cell HDB.out 1 rfl
          have e2 := blk_cell HDB.out 2 rfl
          have hGe := hGr.out
          clear hown0 hxl hel hje
          go_wp2_with (first
            | (at_builtin; refine wpList_append_sl (α := DV) rfl (.tmp 53) (.tmp 55) rfl (w.heap.size + 1) _ xs rfl ?_ (.slice (some ⟨_, 0, none⟩) 1 1) [(⟨(k : Int), 0, so, sn, sc⟩ : DV)] rfl ?_ ?_ ?_ ?_; exact ((HOWN.out.ext HX2.out).alloc _); exact (Sl.litAt wr _ rfl [(⟨(k : Int), 0, so, sn, sc⟩ : DV)] (show (1 : Nat) ≤ 1000000 by decide)); (first | omega | (simp; omega)); exact (by rw [size_alloc]; have := Below.size HX2.out; omega); intro v3 W3 ho3 ha3; have hx : Nest.rd (Own1 Non _) _ (⟨(k : Int), 0, so, sn, sc⟩ : DV) (⟨(k : Int), 0, NR.map (sideC c (k : Int))⟩ : Dn) := (⟨rfl, rfl, Sa.new (HOW.out.alloc (.cells #[.int .i64 (k : Int), .int .i64 0, .slice so sn sc] 49)) (fun b hb => by rcases hb with hb | hb; exact hb.elim; have := (HOWN.out.low b hb).2; omega)⟩ : RdD _ _ _ _); have hst := Nw.step (α := DV) (δ := Dn) (F := Non) (L := TL.take k) HXL.out (fun a x d hx hd => Nest.ext (HEL.out a x d hx hd) (Ext.alloc HX2.out _)) hx ho3 ha3; have HST := Lib.hid hst; have HX3 := Lib.hid (Below.trans (Ext.alloc XWG.out _) (ha3.below.mono (by rw [size_alloc]; exact Nat.le_refl _))); clear ho3 ha3 hx hst))
          go_roundw
          case rel => exact ⟨k + 1, by omega, by go_num, Lib.hid (by rw [HNX.out]; exact HST.out), HX3⟩
          case measure => simp [intOf]; omega
    · have hkm : k = m := by omega
      have hq := HQ.out
      rw [hkm, ← HTA.out, List.take_length] at hq
      have HQ' := Lib.hid hq
      clear hq HQ hkm
      go_wp2
      go_ret2
      exact ⟨_, rfl, HQ'.out.ns (fun b hb => hb) (fun b hb => hb.elim), Ext.trans X0.out HX.out⟩

end Go.Proofs.YtdfleocknaackaaGreat

/- Layer 12, the program: whether two rows of nodes are the same. -/
namespace Go.Proofs.YtdfleocknaackaaGreat
open Go.RowKit

theorem keepM {w W : World} {g : Nat} {o : Obj} (h : w.heap[g]? = some o) (e : Ext w W) : W.heap[g]? = some o := (e.block _ (blk_lt h)).trans h

set_option maxRecDepth 100000 in
set_option maxHeartbeats 2000000 in
theorem same1_any (w : World) (id1 ph1 id2 ph2 : Int) (v1 v2 : Value) (L M : List Sd) (h : Sl w v1 L) (g : Sl w v2 M) (t : Bool) (ht : decide ((⟨id1, ph1, L⟩ : Dn) = ⟨id2, ph2, M⟩) = t) :
    Calls Tryz.prog 104 #[.agg #[.int .i64 id1, .int .i64 ph1, v1], .agg #[.int .i64 id2, .int .i64 ph2, v2]] w fun e w' => e = .returned (.bool t) ∧ Ext w w' := by
  obtain ⟨ao1, c1, rfl⟩ := h.len
  obtain ⟨ao2, c2, rfl⟩ := g.len
  have HS := Lib.hid h
  have HM := Lib.hid g
  have HX0 : Hid (Ext w ((w.alloc (.cells #[.int .i64 id1, .int .i64 ph1, .slice ao1 L.length c1] 49)).alloc (.cells #[.int .i64 id2, .int .i64 ph2, .slice ao2 M.length c2] 49))) := Lib.hid (((Ext.refl w).alloc _).alloc _)
  simp only [Dn.mk.injEq] at ht
  clear h g
  by_cases e1 : id1 = id2
  · by_cases e2 : ph1 = ph2
    · have q1 : (id1 == id2) = true := by simp [e1]
      have q2 : (ph1 == ph2) = true := by simp [e2]
      have HE : Hid (decide (L = M) = t) := Lib.hid (by rw [← ht]; simp [e1, e2])
      clear e1 e2 ht
      go_enter Tryz.func104, Tryz.ntmps104
      go_wp2_with (go_at_call 105; refine (equal_sd _ _ _ L M (HS.out.ext HX0.out) (HM.out.ext HX0.out) _ HE.out).mono ?_; rintro e w1 ⟨rfl, hx⟩; have HX := Lib.hid (HX0.out.trans hx); clear hx)
      go_ret
      exact ⟨rfl, HX.out⟩
    · have q1 : (id1 == id2) = true := by simp [e1]
      have q2 : (ph1 == ph2) = false := by simp [e2]
      have HF : Hid (false = t) := Lib.hid (by rw [← ht, decide_eq_false fun e => e2 e.2.1])
      clear e1 e2 ht
      go_enter Tryz.func104, Tryz.ntmps104
      go_wp2
      go_ret
      exact ⟨ret_bool HF.out, HX0.out⟩
  · have q1 : (id1 == id2) = false := by simp [e1]
    have HF : Hid (false = t) := Lib.hid (by rw [← ht, decide_eq_false fun e => e1 e.1])
    clear e1 ht
    go_enter Tryz.func104, Tryz.ntmps104
    go_wp2
    go_ret
    exact ⟨ret_bool HF.out, HX0.out⟩

set_option maxRecDepth 100000 in
set_option maxHeartbeats 2000000 in
theorem equalFunc_dn (F : Nat → Prop) (w : World) (v1 v2 fv : Value) (L M : List Dn) (h : Ns DV F w v1 L) (h' : Ns DV F w v2 M) (g : FuncId) (hfv : fv = .func (.func g) #[] #[]) (eg : ∀ args w, (callFunc g args).run Tryz.prog w = .ok (.enter g args) w)
    (hp : ∀ (W : World) (i1 p1 i2 p2 : Int) (u1 u2 : Value) (A B : List Sd) (t : Bool), Sl W u1 A → Sl W u2 B → decide ((⟨i1, p1, A⟩ : Dn) = ⟨i2, p2, B⟩) = t → Calls Tryz.prog g #[.agg #[.int .i64 i1, .int .i64 p1, u1], .agg #[.int .i64 i2, .int .i64 p2, u2]] W fun e w' => e = .returned (.bool t) ∧ Ext W w') (t : Bool) (ht : decide (L = M) = t) :
    Calls Tryz.prog 103 #[v1, v2, fv] w fun e w' => e = .returned (.bool t) ∧ Ext w w' := by
  subst hfv
  obtain ⟨ao1, c1, rfl⟩ := h.len
  obtain ⟨ao2, c2, rfl⟩ := h'.len
  have l1 := h.length_le
  have l2 := h'.length_le
  have HS := Lib.hid h
  have HM := Lib.hid h'
  have HP := Lib.hid hp
  have HE := Lib.hid ht
  clear h h' hp ht
  by_cases e3 : L.length = M.length
  · have q3 : ((L.length : Int) != (M.length : Int)) = false := by simp [e3]
    have HL3 := Lib.hid e3
    clear e3
    go_enter Tryz.func103, Tryz.ntmps103
    go_wp2
    go_loopw [17] (fun i wr => ∃ k : Nat, k ≤ L.length ∧ i = .int .i64 k ∧ Hid (L.take k = M.take k) ∧ Hid (Ext w wr)) (fun i _ => L.length - (intOf i).toNat)
    case atStart => exact ⟨0, Nat.zero_le _, rfl, Lib.hid rfl, Lib.hid (Ext.refl _)⟩
    case round =>
      obtain ⟨k, hk, rfl, HQ, HX⟩ := hrel
      by_cases hlt : k < L.length
      · have hltM : k < M.length := by have := HL3.out; omega
        obtain ⟨b1, o1, so1, sc1, d, hyk, rfl, hn, hnc, hc63, hb, hsl, hcell⟩ := HS.out.dinerAt hlt
        obtain ⟨b2, o2, so2, sc2, f, hzk, rfl, hn', hnc', hc63', hb', hsl', hcell'⟩ := HM.out.dinerAt hltM
        have HN := Lib.hid (take_eqD hyk hzk)
        obtain ⟨s, hs⟩ : ∃ s, decide (d = f) = s := ⟨_, rfl⟩
        have HYZ := Lib.hid hs
        obtain ⟨d0, d1, d2⟩ := d
        obtain ⟨f0, f1, f2⟩ := f
        dsimp only at hcell hcell' hsl hsl'
        obtain ⟨W1, hW1⟩ : ∃ W1, W1 = wr.alloc (.cells #[.int .i64 d0, .int .i64 d1, .slice so1 d2.length sc1] 49) := ⟨_, rfl⟩
        have x1 : Ext wr W1 := hW1 ▸ (Ext.refl _).alloc _
        have b1' : W1.heap[wr.heap.size]? = some (.cells #[.int .i64 d0, .int .i64 d1, .slice so1 d2.length sc1] 49 (0, 0)) := hW1 ▸ at0 wr _
        obtain ⟨W2, hW2⟩ : ∃ W2, W2 = W1.alloc (.cells #[.int .i64 f0, .int .i64 f1, .slice so2 f2.length sc2] 49) := ⟨_, rfl⟩
        have x2 : Ext W1 W2 := hW2 ▸ (Ext.refl _).alloc _
        have b2' : W2.heap[W1.heap.size]? = some (.cells #[.int .i64 f0, .int .i64 f1, .slice so2 f2.length sc2] 49 (0, 0)) := hW2 ▸ at0 W1 _
        have b3' := keepM b1' x2
        have HX1 := Lib.hid (HX.out.trans x1)
        have HX2 := Lib.hid (HX1.out.trans x2)
        have HSL := Lib.hid (And.intro (hsl.sl.ext HX2.out) (hsl'.sl.ext HX2.out))
        obtain ⟨a0, a1, a2⟩ := hcell wr HX.out
        obtain ⟨z0, z1, z2⟩ := hcell' W1 HX1.out
        have j0 := blk_cell b3' 0 rfl
        have j1 := blk_cell b3' 1 rfl
        have j2 := blk_cell b3' 2 rfl
        have i0 := blk_cell b2' 0 rfl
        have i1 := blk_cell b2' 1 rfl
        have i2 := blk_cell b2' 2 rfl
        have HW1 := Lib.hid hW1
        have HW2 := Lib.hid hW2
        clear hcell hcell' hyk hzk hn hn' hs hsl hsl' x1 x2 b1' b2' b3' hW1 hW2
        go_upto_region 6 with (fail)
        rw [← HW1.out]
        go_upto_region 7 with (fail)
        rw [← HW2.out]
        cases s
        · go_wp2_with (go_at_fn g; refine (HP.out W2 d0 d1 f0 f1 _ _ d2 f2 _ HSL.out.1 HSL.out.2 HYZ.out).mono ?_; rintro e w1 ⟨rfl, hx⟩; have HX3 := Lib.hid (HX2.out.trans hx); clear hx)
          go_ret
          exact ⟨ret_bool (by
            rw [← HE.out]
            exact (decide_eq_false fun e => of_decide_eq_false HYZ.out ((HN.out.1 (by rw [e])).2)).symm), HX3.out⟩
        · go_wp2_with (go_at_fn g; refine (HP.out W2 d0 d1 f0 f1 _ _ d2 f2 _ HSL.out.1 HSL.out.2 HYZ.out).mono ?_; rintro e w1 ⟨rfl, hx⟩; have HX3 := Lib.hid (HX2.out.trans hx); clear hx)
          go_roundw
          case rel => exact ⟨k + 1, by omega, by go_num, Lib.hid (HN.out.2 ⟨HQ.out, of_decide_eq_true HYZ.out⟩), HX3⟩
          case measure => simp [intOf]; omega
      · have hkl : k = L.length := by omega
        have HF : Hid (true = t) := Lib.hid (by
          have hq := HQ.out
          rw [hkl, List.take_length, HL3.out, List.take_length] at hq
          rw [← HE.out, decide_eq_true hq])
        go_wp2
        go_ret
        exact ⟨ret_bool HF.out, HX.out⟩
  · have q3 : ((L.length : Int) != (M.length : Int)) = true := by simp; omega
    have HF : Hid (false = t) := Lib.hid (by rw [← HE.out, decide_eq_false fun e => e3 (by rw [e])])
    clear e3
    go_enter Tryz.func103, Tryz.ntmps103
    go_wp2
    go_ret
    exact ⟨ret_bool HF.out, Ext.refl _⟩

set_option maxRecDepth 100000 in
theorem pSame_any (w : World) (v1 v2 : Value) (L M : List Dn) (h : Ns DV Non w v1 L) (g : Ns DV Non w v2 M) (t : Bool) (ht : decide (L = M) = t) :
    Calls Tryz.prog 73 #[v1, v2] w fun e w' => e = .returned (.bool t) ∧ Ext w w' := by
  have HS := Lib.hid h
  have HM := Lib.hid g
  have HT := Lib.hid ht
  obtain ⟨ao1, c1, rfl⟩ := h.len
  obtain ⟨ao2, c2, rfl⟩ := g.len
  clear h g ht
  go_enter Tryz.func73, Tryz.ntmps73
  go_wp2_with (go_at_call 103; refine (equalFunc_dn Non _ _ _ _ L M HS.out HM.out 104 rfl (by intro args w; rfl) (fun W i1 p1 i2 p2 u1 u2 A B t h1 h2 h3 => same1_any W i1 p1 i2 p2 u1 u2 A B h1 h2 t h3) _ HT.out).mono ?_; rintro e w1 ⟨rfl, hx⟩; have HX := Lib.hid hx; clear hx)
  go_ret
  exact ⟨rfl, HX.out⟩

end Go.Proofs.YtdfleocknaackaaGreat
