/- Texts of this seat. -/
import Derived.Test.YtfbambemjokmgaaGreatNAO
namespace Go.Proofs.YtfbambemjokmgaaGreat
open Go.RowKit
theorem keepT {w W : World} {g : Nat} {o : Obj} (h : w.heap[g]? = some o) (e : Ext w W) : W.heap[g]? = some o := (e.block _ (blk_lt h)).trans h
theorem offT {w w' : World} {row : Option Nat} (h : w.grownBy w' row) : Off (fun k => row = some k) w w' :=
  ⟨h.os, h.tape, h.output, h.size, fun k hk hn => h.block k hk (fun e => hn e.symm)⟩
def laidS (p : Int) (b : Bool) : Sd := if b = true then ⟨p, 1, 0, false, false, true, false, true⟩ else ⟨p, 1, 0, true, true, false, true, false⟩
theorem sideC_laid (c : List Int) (a b : Int) : sideC c a b = laidS b (decide (col c a < col c b)) := by unfold sideC laidS; by_cases h : col c a < col c b <;> simp [h]
theorem range_SS : ∀ n : Nat, SS ((List.range n).map fun i : Nat => (i : Int))
  | 0 => by unfold SS; simp
  | n + 1 => by
    have ih := range_SS n
    unfold SS at ih ⊢
    rw [List.range_succ, List.map_append, List.pairwise_append]
    refine ⟨ih, by simp, ?_⟩
    intro a ha b hb
    simp at ha hb
    obtain ⟨i, hi, rfl⟩ := ha
    omega
theorem nearOf_eq {N : Int} {E : List Edge} (ok : OkG N E) (a : Int) : nearOf E a = rnear N E a :=
  SS.ext (by unfold nearOf; exact norm_SS _) (by unfold rnear; exact (range_SS _).filter _) fun _ => near_rnear ok
theorem diner_near {N : Int} {E : List Edge} (ok : OkG N E) (c : List Int) (a : Nat) : dinerC N E c a = ⟨a, 0, (nearOf E a).map (sideC c a)⟩ := by rw [nearOf_eq ok]; rfl
theorem rnear_len (N : Int) (E : List Edge) (a : Int) : (rnear N E a).length ≤ N.toNat := by
  unfold rnear
  have := List.length_filter_le (fun b => decide (btw a b ∈ E)) ((List.range N.toNat).map fun i : Nat => (i : Int))
  simpa using this
theorem mem_rnear_in {N : Int} {E : List Edge} {a x : Int} (h : x ∈ rnear N E a) : 0 ≤ x ∧ x < N := by
  unfold rnear at h
  simp at h
  obtain ⟨⟨i, hi, rfl⟩, _⟩ := h
  omega
set_option maxRecDepth 100000 in
set_option maxHeartbeats 2000000 in
theorem pLaid_any (w : World) (p : Int) (b : Bool) (x : Sd) (hx : laidS p b = x) :
    Calls Tryz.prog 159 #[.int .i64 p, .bool b] w fun e w' => e = .returned (.agg x.cs) ∧ Ext w w' := by
  subst hx
  cases b
  · have HZ := Lib.hid (old1 (at0 w (.cells Sd.zero.cs 66)) (.cells #[.int .i64 p, .int .i64 1, .int .i64 0, .bool true, .bool true, .bool false, .bool true, .bool false] 66))
    have HL := Lib.hid (at1 w (.cells Sd.zero.cs 66) (.cells #[.int .i64 p, .int .i64 1, .int .i64 0, .bool true, .bool true, .bool false, .bool true, .bool false] 66))
    have X1 : Hid (Ext w ((w.alloc (.cells Sd.zero.cs 66)).alloc (.cells #[.int .i64 p, .int .i64 1, .int .i64 0, .bool true, .bool true, .bool false, .bool true, .bool false] 66))) := Lib.hid (((Ext.refl w).alloc _).alloc _)
    go_enter Tryz.func159, Tryz.ntmps159
    go_upto_region 5 with (fail)
    obtain ⟨⟨⟨q0, q1⟩, q2, q3⟩, ⟨q4, q5⟩, q6, q7⟩ := cells8P HL.out
    dsimp only [Sd.cs, Sd.zero] at q0 q1 q2 q3 q4 q5 q6 q7
    go_wp2_with (first | refine haltst 66 ?_)
    refine .inl ?_
    refine st_l 66 (.tmp 4) (.tmp 14) w.heap.size 0 66 Sd.zero.cs #[.int .i64 p, .int .i64 1, .int .i64 0, .bool true, .bool true, .bool false, .bool true, .bool false] #[.int .i64 p, .int .i64 1, .int .i64 0, .bool true, .bool true, .bool false, .bool true, .bool false] rfl rfl HZ.out (by kernel_rfl) (by simp [Sd.cs, Sd.zero]) rfl rfl ?_
    intro W hW oW
    simp only [Act.put]
    go_wp2
    exact bodyPost_ret (v := .agg #[.int .i64 p, .int .i64 1, .int .i64 0, .bool true, .bool true, .bool false, .bool true, .bool false]) (res_c rfl rfl hW uSide (by kernel_rfl)) rfl ⟨rfl, ext_off X1.out oW (fun k hk => by omega)⟩
  · have HZ := Lib.hid (old1 (at0 w (.cells Sd.zero.cs 66)) (.cells #[.int .i64 p, .int .i64 1, .int .i64 0, .bool false, .bool false, .bool true, .bool false, .bool true] 66))
    have HL := Lib.hid (at1 w (.cells Sd.zero.cs 66) (.cells #[.int .i64 p, .int .i64 1, .int .i64 0, .bool false, .bool false, .bool true, .bool false, .bool true] 66))
    have X1 : Hid (Ext w ((w.alloc (.cells Sd.zero.cs 66)).alloc (.cells #[.int .i64 p, .int .i64 1, .int .i64 0, .bool false, .bool false, .bool true, .bool false, .bool true] 66))) := Lib.hid (((Ext.refl w).alloc _).alloc _)
    go_enter Tryz.func159, Tryz.ntmps159
    go_upto_region 5 with (fail)
    obtain ⟨⟨⟨q0, q1⟩, q2, q3⟩, ⟨q4, q5⟩, q6, q7⟩ := cells8P HL.out
    dsimp only [Sd.cs, Sd.zero] at q0 q1 q2 q3 q4 q5 q6 q7
    go_wp2_with (first | refine haltst 66 ?_)
    refine .inl ?_
    refine st_l 66 (.tmp 4) (.tmp 14) w.heap.size 0 66 Sd.zero.cs #[.int .i64 p, .int .i64 1, .int .i64 0, .bool false, .bool false, .bool true, .bool false, .bool true] #[.int .i64 p, .int .i64 1, .int .i64 0, .bool false, .bool false, .bool true, .bool false, .bool true] rfl rfl HZ.out (by kernel_rfl) (by simp [Sd.cs, Sd.zero]) rfl rfl ?_
    intro W hW oW
    simp only [Act.put]
    go_wp2
    exact bodyPost_ret (v := .agg #[.int .i64 p, .int .i64 1, .int .i64 0, .bool false, .bool false, .bool true, .bool false, .bool true]) (res_c rfl rfl hW uSide (by kernel_rfl)) rfl ⟨rfl, ext_off X1.out oW (fun k hk => by omega)⟩
theorem okG_chkT {N : Int} {E : List Edge} {b : Bool} (h : okG N E = b) : chk N E = if b = true then 0 else 30 := by unfold chk; rw [h]
set_option maxRecDepth 100000 in
set_option maxHeartbeats 8000000 in
theorem pTable_any (w : World) (N : Int) (v cv : Value) (E : List Edge) (c : List Int) (h : Sl w v E) (hc : Sl w cv c) (r : Int) (hr : placeR N E c = r) (L : List Dn) (hL : (if r = 0 then tableL N E c else []) = L) :
    Calls Tryz.prog 131 #[.agg #[.int .i64 N, v], cv] w (GivesN w L r) := by
  obtain ⟨vo, vn, vc, rfl⟩ := h.sh
  obtain ⟨co, cc, rfl⟩ := hc.len
  have HS := Lib.hid h
  have HC := Lib.hid hc
  have HG := Lib.hid (graph_at w N (.slice vo vn vc))
  have X0 : Hid (Ext w (w.alloc (.cells #[.int .i64 N, .slice vo vn vc] 53))) := Lib.hid ((Ext.refl w).alloc _)
  obtain ⟨g0, g1⟩ := HG.out _ (Ext.refl _)
  clear h hc
  cases ho : okG N E
  · have HOK := Lib.hid (okG_chkT ho)
    obtain rfl : r = 30 := by rw [← hr]; unfold placeR; rw [ho]; rfl
    obtain rfl : L = [] := by rw [← hL]; rfl
    clear ho hr hL
    go_enter Tryz.func131, Tryz.ntmps131
    go_wp2_with (go_at_call 145; refine (check_any _ N _ E (HS.out.ext X0.out) 30 HOK.out).mono ?_; rintro e w1 ⟨rfl, hx⟩; have X1 := Lib.hid (X0.out.trans hx); clear hx)
    go_ret2
    exact ⟨_, rfl, Ns.nil _ _, X1.out⟩
  have HOK := Lib.hid (okG_chkT ho)
  have HOG := Lib.hid (okG_iff.1 ho)
  cases hrb : rightB N E c
  · obtain rfl : r = 120 := by rw [← hr]; unfold placeR; rw [ho, hrb]; rfl
    obtain rfl : L = [] := by rw [← hL]; rfl
    have HRB := Lib.hid hrb
    clear ho hr hL hrb
    go_enter Tryz.func131, Tryz.ntmps131
    go_wp2_with (first
      | (go_at_call 145; refine (check_any _ N _ E (HS.out.ext X0.out) 0 HOK.out).mono ?_; rintro e w1 ⟨rfl, hx⟩; have X1 := Lib.hid hx; obtain ⟨k0, k1⟩ := HG.out w1 X1.out; clear hx)
      | (go_at_call 157; refine (right_any _ N _ _ E c (HS.out.ext (X0.out.trans X1.out)) (HC.out.ext (X0.out.trans X1.out)) _ HRB.out).mono ?_; rintro e w2 ⟨rfl, hx⟩; have X2 := Lib.hid (X1.out.trans hx); clear hx))
    go_ret2
    exact ⟨_, rfl, Ns.nil _ _, X0.out.trans X2.out⟩
  obtain rfl : r = 0 := by rw [← hr]; unfold placeR; rw [ho, hrb]; rfl
  obtain rfl : L = tableL N E c := by rw [← hL]; rfl
  have HRB := Lib.hid hrb
  have hlc : c.length = N.toNat := by unfold rightB at hrb; simp only [Bool.and_eq_true, decide_eq_true_eq] at hrb; exact hrb.1.2
  clear ho hr hL hrb
  obtain ⟨m, hm⟩ : ∃ m : Nat, (m : Int) = N := ⟨N.toNat, by have := HOG.out.n0; omega⟩
  subst hm
  have hm64 : m ≤ 64 := by have := HOG.out.n64; omega
  have HCM : Hid (c.length = m) := Lib.hid (by omega)
  have HTA : Hid ((tableL (m : Int) E c).length = m) := Lib.hid (by simp [tableL])
  obtain ⟨TL, hTL⟩ : ∃ TL, TL = tableL (m : Int) E c := ⟨_, rfl⟩
  have HTL := Lib.hid hTL
  rw [← hTL] at HTA ⊢
  clear hTL hlc
  go_enter Tryz.func131, Tryz.ntmps131
  go_upto_region 7 with (first
    | (go_at_call 145; refine (check_any _ (m : Int) _ E (HS.out.ext X0.out) 0 HOK.out).mono ?_; rintro e w1 ⟨rfl, hx⟩; have X1 := Lib.hid hx; obtain ⟨k0, k1⟩ := HG.out w1 X1.out; clear hx)
    | (go_at_call 157; refine (right_any _ (m : Int) _ _ E c (HS.out.ext (X0.out.trans X1.out)) (HC.out.ext (X0.out.trans X1.out)) _ HRB.out).mono ?_; rintro e w2 ⟨rfl, hx⟩; have X2 := Lib.hid (X1.out.trans hx); clear hx))
  obtain ⟨k2, k3⟩ := HG.out w2 X2.out
  go_wp2
  go_loopw [7, 23] (fun q i wr => ∃ k : Nat, k ≤ m ∧ i = .int .i64 k ∧ Hid (Nw DV Non wr (w.heap.size + 1) q (TL.take k)) ∧ Hid (Ext (w.alloc (.cells #[.int .i64 (m : Int), .slice vo vn vc] 53)) wr)) (fun _ i _ => m - (intOf i).toNat)
  case atStart => exact ⟨0, Nat.zero_le _, rfl, Lib.hid (by rw [List.take_zero]; exact Nw.nil _ _ _), X2⟩
  case round =>
    obtain ⟨k, hk, rfl, HQ, HX⟩ := hrel
    obtain ⟨h0, h1⟩ := HG.out wr HX.out
    have hwr := Below.size HX.out
    rw [size_alloc] at hwr
    by_cases hlt : k < m
    · have HNX : Hid (TL.take (k + 1) = TL.take k ++ [(⟨(k : Int), 0, (nearOf E (k : Int)).map (sideC c (k : Int))⟩ : Dn)]) := Lib.hid (by rw [HTL.out, ← diner_near HOG.out]; exact tableL_next _ _ _ (by rw [Int.toNat_natCast]; exact hlt))
      have HNI : Hid (∀ y ∈ nearOf E (k : Int), 0 ≤ y ∧ y < (m : Int)) := Lib.hid fun y hy => by rw [nearOf_eq HOG.out] at hy; exact mem_rnear_in hy
      have hnl : (nearOf E (k : Int)).length ≤ 64 := by rw [nearOf_eq HOG.out]; have := rnear_len (m : Int) E (k : Int); rw [Int.toNat_natCast] at this; omega
      obtain ⟨NR, hNR⟩ : ∃ NR, NR = nearOf E (k : Int) := ⟨_, rfl⟩
      have HNR := Lib.hid hNR
      rw [← hNR] at HNX HNI hnl
      obtain ⟨W1, hW1⟩ : ∃ W1, W1 = wr.alloc (.cells #[.int .i64 (k : Int), .int .i64 0, .slice none 0 0] 61) := ⟨_, rfl⟩
      have X1 : Hid (Ext wr W1) := Lib.hid (hW1 ▸ (Ext.refl _).alloc _)
      have D1 : Hid (W1.heap[wr.heap.size]? = some (.cells #[.int .i64 (k : Int), .int .i64 0, .slice none 0 0] 61 (0, 0))) := Lib.hid (hW1 ▸ at0 wr _)
      have HW1 := Lib.hid hW1
      have hW1s : W1.heap.size = wr.heap.size + 1 := by rw [hW1, size_alloc]
      obtain ⟨h2, h3⟩ := HG.out W1 (HX.out.trans X1.out)
      clear hNR hW1
      go_upto_region 11 with (fail)
      rw [← HW1.out]
      go_wp2_with (first
        | (go_at_call 158; refine (near_any _ (m : Int) _ E (k : Int) (HS.out.ext (Ext.trans X0.out (HX.out.trans X1.out))) HOG.out).mono ?_; rintro e wn ⟨nv, rfl, hown, hbe⟩; rw [← HNR.out] at hown; obtain ⟨no, nc, rfl⟩ := hown.sl.len; have HNV := Lib.hid hown; have X3 : Hid (Ext W1 wn) := Lib.hid hbe; clear hown hbe))
      obtain ⟨G, hGG⟩ : ∃ G, wr.heap.size = G := ⟨_, rfl⟩
      obtain ⟨WR, hWR⟩ : ∃ WR, WR = wr := ⟨_, rfl⟩
      have HWR := Lib.hid hWR
      have hGr : Hid (WR.heap.size = G) := Lib.hid (by rw [hWR, hGG])
      have HQ0 := Lib.hid (hWR ▸ HQ.out)
      have HX0 := Lib.hid (hWR ▸ HX.out)
      have X10 := Lib.hid (hWR ▸ X1.out)
      rw [hGG] at D1 hwr hW1s ⊢
      have hwn := Below.size X3.out
      have HF : Hid (∀ b, (b = G ∨ wn.heap.size ≤ b) → w.heap.size ≤ b) := Lib.hid fun b hb => by omega
      have HNS : Hid (Sa (fun b => b = G ∨ wn.heap.size ≤ b) wn (.slice no NR.length nc) NR) := Lib.hid ⟨HNV.out.sl, .inr fun b hb hf => by have := HNV.out.low b hb; omega⟩
      have DN := Lib.hid (keepT D1.out X3.out)
      clear hGG hWR HQ HX X1 D1
      go_loopw [32] (fun i wr2 => ∃ j : Nat, j ≤ NR.length ∧ i = .int .i64 j ∧ Hid (∃ so sn sc, wr2.heap[G]? = some (.cells #[.int .i64 (k : Int), .int .i64 0, .slice so sn sc] 61 (0, 0)) ∧ Ow wr2 wn.heap.size (.slice so sn sc) ((NR.take j).map (sideC c (k : Int)))) ∧ Hid (Off (fun b => b = G ∨ wn.heap.size ≤ b) wn wr2)) (fun i _ => NR.length - (intOf i).toNat)
      case atStart => exact ⟨0, Nat.zero_le _, rfl, Lib.hid ⟨none, 0, 0, DN.out, Ow.nil _ _⟩, Lib.hid (Off.refl _ _)⟩
      case round =>
        obtain ⟨j, hj, rfl, HD, HO⟩ := hrel
        obtain ⟨so, sn, sc, hdb, hown⟩ := HD.out
        have HDB := Lib.hid hdb
        have HOW := Lib.hid hown
        have XW : Hid (Ext w wr) := Lib.hid (ext_off (X0.out.trans (HX0.out.trans (X10.out.trans X3.out))) HO.out HF.out)
        have hsz := HO.out.size
        clear hdb hown HD
        by_cases hj2 : j < NR.length
        · have HNN := HNS.out.off HO.out (Grows.refl _ _)
          obtain ⟨nb, nof, hno, _, hn2, hn3, hn4, hn5⟩ := HNN.sl.intsAt hj2
          subst hno
          obtain ⟨y, hy⟩ : ∃ y, y = NR.getD j 0 := ⟨_, rfl⟩
          rw [← hy] at hn5
          have hyi := HNI.out y (hy ▸ by rw [List.getD_eq_getElem?_getD, List.getElem?_eq_getElem hj2]; simp)
          have hyk : NR[j]? = some y := by rw [hy]; simp [hj2]
          have HTK : Hid ((NR.take (j + 1)).map (sideC c (k : Int)) = (NR.take j).map (sideC c (k : Int)) ++ [sideC c (k : Int) y]) := Lib.hid (by rw [List.take_succ_eq_append_getElem hj2, List.map_append]; simp [(List.getElem?_eq_some_iff.1 hyk).2])
          have HSL : Hid (((NR.take j).map (sideC c (k : Int))).length ≤ 64) := Lib.hid (by rw [List.length_map, List.length_take]; omega)
          obtain ⟨S, hS⟩ : ∃ S, S = (NR.take j).map (sideC c (k : Int)) := ⟨_, rfl⟩
          rw [← hS] at HTK HSL HOW
          have hSl : S.length ≤ 64 := HSL.out
          obtain ⟨b, off, n2, k2, hv, hcn, hnk2, hk63, hb, hca⟩ := HC.out.colAtD (x := (k : Int)) (by omega) (by have := HCM.out; omega)
          obtain ⟨b3, off3, n3, k3, hv3, hcn3, hnk3, hk633, hb3, hcb⟩ := HC.out.colAtD (x := y) (by omega) (by have := HCM.out; omega)
          simp only [Value.slice.injEq] at hv
          obtain ⟨rfl, rfl, rfl⟩ := hv
          simp only [Value.slice.injEq, Option.some.injEq, Addr.mk.injEq, and_true] at hv3
          obtain ⟨⟨rfl, rfl⟩, rfl, rfl⟩ := hv3
          rw [Int.toNat_natCast] at hca
          obtain ⟨yn, rfl⟩ : ∃ yn : Nat, y = (yn : Int) := ⟨y.toNat, by omega⟩
          rw [Int.toNat_natCast] at hcb
          have hkc : k < c.length := by have := HCM.out; omega
          have hjc : yn < c.length := by have := HCM.out; omega
          have HCL := Lib.hid (sideC_laid c (k : Int) (yn : Int))
          obtain ⟨p, hp⟩ : ∃ p, p = col c (k : Int) := ⟨_, rfl⟩
          obtain ⟨q, hq⟩ : ∃ q, q = col c (yn : Int) := ⟨_, rfl⟩
          rw [← hp] at hca HCL
          rw [← hq] at hcb HCL
          have HCA : Hid (∀ V, Ext w V → V.cell? ⟨b, off + k, none⟩ = some (.int .i64 p)) := Lib.hid fun V hV => (Below.cell hV (p := ⟨b, off + k, none⟩) hb).trans hca
          have HCB : Hid (∀ V, Ext w V → V.cell? ⟨b, off + yn, none⟩ = some (.int .i64 q)) := Lib.hid fun V hV => (Below.cell hV (p := ⟨b, off + yn, none⟩) hb3).trans hcb
          obtain ⟨x, hx⟩ : ∃ x, laidS (yn : Int) (decide (p < q)) = x := ⟨_, rfl⟩
          rw [hx] at HCL
          have HLX := Lib.hid hx
          clear hx hS hca hcb hp hq hy hyk hyi HNN hcn hcn3 HSL
          obtain ⟨x0, x1, x2, x3, x4, x5, x6, x7⟩ := x
          go_wp2_with fail
          (refine wp_region_X_lit (K := fun W => Ext w W) (by kernel_rfl) (fun w1 hw1 => ?_))
          have HW1 := Lib.hid hw1
          clear hw1
          refine xtv 0 (h := ?_)
          refine xtv 2 (h := ?_)
          refine xtv 3 (h := ?_)
          refine xtv 4 (h := ?_)
          refine xtv 5 (h := ?_)
          refine xtv 6 (hv := by intro w' hw'; have hc := HCA.out w' hw'; go_simp; first | done | with_reducible rfl) (h := ?_)
          refine xtv 7 (h := ?_)
          refine xtv 8 (h := ?_)
          refine xtv 9 (h := ?_)
          refine xtv 10 (hv := by intro w' hw'; have hc := HCB.out w' hw'; go_simp; first | done | with_reducible rfl) (h := ?_)
          refine xtv 11 (h := ?_)
          refine xtwo 1 12 (hk := (XW.out.trans HW1.out)) (h := RunX.of 1 (h := ?_)) (h' := RunX.of 12 (h := ?_))
          · have e2 := blk_cell (keepT HDB.out HW1.out) 2 rfl
            go_simp
            (try (simp only [Act.put, List.setIfInBounds_toArray, List.set]))
            refine xone 12 (hk := (XW.out.trans HW1.out)) (h := RunX.of 12 (h := ?_))
            go_simp
            refine (pLaid_any w1 (yn : Int) (decide (p < q)) _ HLX.out).mono ?_
            rintro e9 w9 ⟨rfl, hx9⟩
            have X9 := Lib.hid (HW1.out.trans hx9)
            have KA := Lib.hid (XW.out.trans (X9.out.alloc (.cells #[.int .i64 x0, .int .i64 x1, .int .i64 x2, .bool x3, .bool x4, .bool x5, .bool x6, .bool x7] 66)))
            have KB := Lib.hid (XW.out.trans X9.out)
            clear hx9
            dsimp only [Sd.cs]
            (try (simp only [Act.put, List.setIfInBounds_toArray, List.set]))
            refine xone 13 (hk := KB.out) (h := RunX.of 13 (h := ?_))
            go_simp
            (try (simp only [Act.put, List.setIfInBounds_toArray, List.set]))
            refine xone 14 (hk := KA.out) (h := RunX.of 14 (h := ?_))
            (refine wp_append_sl (α := Sd) (.tmp 37) (.tmp 49) rfl wn.heap.size (.slice so sn sc) S rfl ?_ (.slice (some ⟨_, 0, none⟩) 1 1) [(⟨x0, x1, x2, x3, x4, x5, x6, x7⟩ : Sd)] rfl ?_ ?_ ?_ ?_; exact ((HOW.out.ext X9.out).alloc _); exact (Sl.litAt w9 _ rfl [(⟨x0, x1, x2, x3, x4, x5, x6, x7⟩ : Sd)] (show (1 : Nat) ≤ 1000000 by decide)); (first | omega | (simp; omega)); (rw [size_alloc]; have := Below.size X9.out; omega); intro v6 W6 ho6 ha6)
            obtain ⟨a6, n6, c6, rfl⟩ := ho6.sh
            have O6 : Hid (Off (fun b => b = G ∨ wn.heap.size ≤ b) wn W6) := Lib.hid (HO.out.trans ((Off.of_ext (X9.out.alloc (.cells #[.int .i64 x0, .int .i64 x1, .int .i64 x2, .bool x3, .bool x4, .bool x5, .bool x6, .bool x7] 66))).trans ((offT ha6.grown).mono fun b hb => .inr (HOW.out.low b hb).1) (Grows.refl _ _)) (Grows.refl _ _))
            have K6 : Hid (Ext w W6) := Lib.hid (ext_off (X0.out.trans (HX0.out.trans (X10.out.trans X3.out))) O6.out HF.out)
            have hd6 := (ha6.below.block G (by omega)).trans (keepT HDB.out (X9.out.alloc (.cells #[.int .i64 x0, .int .i64 x1, .int .i64 x2, .bool x3, .bool x4, .bool x5, .bool x6, .bool x7] 66)))
            have f6 := blk_free hd6 2
            have e6 := blk_cell hd6 2 rfl
            have HD6 := Lib.hid hd6
            have HO6 := Lib.hid ho6
            clear ho6 ha6 hd6
            dsimp only
            (try (simp only [Act.put, List.setIfInBounds_toArray, List.set]))
            refine xone 15 (hk := K6.out) (h := RunX.of 15 (h := ?_))
            go_simp
            (try (simp only [Act.put, List.setIfInBounds_toArray, List.set]))
            refine xone 16 (hk := K6.out) (h := RunX.of 16 (h := ?_))
            go_simp
            (try (simp only [Act.put, List.setIfInBounds_toArray, List.set]))
            (refine xdone (by kernel_rfl) ((below_set K6.out (by show w.heap.size ≤ G; omega) _)) ?_)
            go_wp2
            go_roundw
            case rel => exact ⟨j + 1, by omega, by go_num, Lib.hid ⟨a6, n6, c6, by rw [blk_set HD6.out]; rfl, by rw [HTK.out, HCL.out]; exact HO6.out.set (by show G < wn.heap.size; omega) _⟩, Lib.hid (O6.out.trans ((off_set _ _ _).mono fun b hb => .inl hb) (Grows.refl _ _))⟩
            case measure => simp [intOf]; omega
          · go_simp
            refine (pLaid_any w1 (yn : Int) (decide (p < q)) _ HLX.out).mono ?_
            rintro e9 w9 ⟨rfl, hx9⟩
            have X9 := Lib.hid (HW1.out.trans hx9)
            have KA := Lib.hid (XW.out.trans (X9.out.alloc (.cells #[.int .i64 x0, .int .i64 x1, .int .i64 x2, .bool x3, .bool x4, .bool x5, .bool x6, .bool x7] 66)))
            have KB := Lib.hid (XW.out.trans X9.out)
            clear hx9
            dsimp only [Sd.cs]
            (try (simp only [Act.put, List.setIfInBounds_toArray, List.set]))
            refine xtwo 1 13 (hk := KB.out) (h := RunX.of 1 (h := ?_)) (h' := RunX.of 13 (h := ?_))
            · have e2 := blk_cell (keepT HDB.out X9.out) 2 rfl
              go_simp
              (try (simp only [Act.put, List.setIfInBounds_toArray, List.set]))
              refine xone 13 (hk := KB.out) (h := RunX.of 13 (h := ?_))
              go_simp
              (try (simp only [Act.put, List.setIfInBounds_toArray, List.set]))
              refine xone 14 (hk := KA.out) (h := RunX.of 14 (h := ?_))
              (refine wp_append_sl (α := Sd) (.tmp 37) (.tmp 49) rfl wn.heap.size (.slice so sn sc) S rfl ?_ (.slice (some ⟨_, 0, none⟩) 1 1) [(⟨x0, x1, x2, x3, x4, x5, x6, x7⟩ : Sd)] rfl ?_ ?_ ?_ ?_; exact ((HOW.out.ext X9.out).alloc _); exact (Sl.litAt w9 _ rfl [(⟨x0, x1, x2, x3, x4, x5, x6, x7⟩ : Sd)] (show (1 : Nat) ≤ 1000000 by decide)); (first | omega | (simp; omega)); (rw [size_alloc]; have := Below.size X9.out; omega); intro v6 W6 ho6 ha6)
              obtain ⟨a6, n6, c6, rfl⟩ := ho6.sh
              have O6 : Hid (Off (fun b => b = G ∨ wn.heap.size ≤ b) wn W6) := Lib.hid (HO.out.trans ((Off.of_ext (X9.out.alloc (.cells #[.int .i64 x0, .int .i64 x1, .int .i64 x2, .bool x3, .bool x4, .bool x5, .bool x6, .bool x7] 66))).trans ((offT ha6.grown).mono fun b hb => .inr (HOW.out.low b hb).1) (Grows.refl _ _)) (Grows.refl _ _))
              have K6 : Hid (Ext w W6) := Lib.hid (ext_off (X0.out.trans (HX0.out.trans (X10.out.trans X3.out))) O6.out HF.out)
              have hd6 := (ha6.below.block G (by omega)).trans (keepT HDB.out (X9.out.alloc (.cells #[.int .i64 x0, .int .i64 x1, .int .i64 x2, .bool x3, .bool x4, .bool x5, .bool x6, .bool x7] 66)))
              have f6 := blk_free hd6 2
              have e6 := blk_cell hd6 2 rfl
              have HD6 := Lib.hid hd6
              have HO6 := Lib.hid ho6
              clear ho6 ha6 hd6
              dsimp only
              (try (simp only [Act.put, List.setIfInBounds_toArray, List.set]))
              refine xone 15 (hk := K6.out) (h := RunX.of 15 (h := ?_))
              go_simp
              (try (simp only [Act.put, List.setIfInBounds_toArray, List.set]))
              refine xone 16 (hk := K6.out) (h := RunX.of 16 (h := ?_))
              go_simp
              (try (simp only [Act.put, List.setIfInBounds_toArray, List.set]))
              (refine xdone (by kernel_rfl) ((below_set K6.out (by show w.heap.size ≤ G; omega) _)) ?_)
              go_wp2
              go_roundw
              case rel => exact ⟨j + 1, by omega, by go_num, Lib.hid ⟨a6, n6, c6, by rw [blk_set HD6.out]; rfl, by rw [HTK.out, HCL.out]; exact HO6.out.set (by show G < wn.heap.size; omega) _⟩, Lib.hid (O6.out.trans ((off_set _ _ _).mono fun b hb => .inl hb) (Grows.refl _ _))⟩
              case measure => simp [intOf]; omega
            · go_simp
              (try (simp only [Act.put, List.setIfInBounds_toArray, List.set]))
              have e2 := blk_cell (keepT HDB.out (X9.out.alloc (.cells #[.int .i64 x0, .int .i64 x1, .int .i64 x2, .bool x3, .bool x4, .bool x5, .bool x6, .bool x7] 66))) 2 rfl
              refine xone 1 (hk := KA.out) (h := RunX.of 1 (h := ?_))
              go_simp
              (try (simp only [Act.put, List.setIfInBounds_toArray, List.set]))
              refine xone 14 (hk := KA.out) (h := RunX.of 14 (h := ?_))
              (refine wp_append_sl (α := Sd) (.tmp 37) (.tmp 49) rfl wn.heap.size (.slice so sn sc) S rfl ?_ (.slice (some ⟨_, 0, none⟩) 1 1) [(⟨x0, x1, x2, x3, x4, x5, x6, x7⟩ : Sd)] rfl ?_ ?_ ?_ ?_; exact ((HOW.out.ext X9.out).alloc _); exact (Sl.litAt w9 _ rfl [(⟨x0, x1, x2, x3, x4, x5, x6, x7⟩ : Sd)] (show (1 : Nat) ≤ 1000000 by decide)); (first | omega | (simp; omega)); (rw [size_alloc]; have := Below.size X9.out; omega); intro v6 W6 ho6 ha6)
              obtain ⟨a6, n6, c6, rfl⟩ := ho6.sh
              have O6 : Hid (Off (fun b => b = G ∨ wn.heap.size ≤ b) wn W6) := Lib.hid (HO.out.trans ((Off.of_ext (X9.out.alloc (.cells #[.int .i64 x0, .int .i64 x1, .int .i64 x2, .bool x3, .bool x4, .bool x5, .bool x6, .bool x7] 66))).trans ((offT ha6.grown).mono fun b hb => .inr (HOW.out.low b hb).1) (Grows.refl _ _)) (Grows.refl _ _))
              have K6 : Hid (Ext w W6) := Lib.hid (ext_off (X0.out.trans (HX0.out.trans (X10.out.trans X3.out))) O6.out HF.out)
              have hd6 := (ha6.below.block G (by omega)).trans (keepT HDB.out (X9.out.alloc (.cells #[.int .i64 x0, .int .i64 x1, .int .i64 x2, .bool x3, .bool x4, .bool x5, .bool x6, .bool x7] 66)))
              have f6 := blk_free hd6 2
              have e6 := blk_cell hd6 2 rfl
              have HD6 := Lib.hid hd6
              have HO6 := Lib.hid ho6
              clear ho6 ha6 hd6
              dsimp only
              (try (simp only [Act.put, List.setIfInBounds_toArray, List.set]))
              refine xone 15 (hk := K6.out) (h := RunX.of 15 (h := ?_))
              go_simp
              (try (simp only [Act.put, List.setIfInBounds_toArray, List.set]))
              refine xone 16 (hk := K6.out) (h := RunX.of 16 (h := ?_))
              go_simp
              (try (simp only [Act.put, List.setIfInBounds_toArray, List.set]))
              (refine xdone (by kernel_rfl) ((below_set K6.out (by show w.heap.size ≤ G; omega) _)) ?_)
              go_wp2
              go_roundw
              case rel => exact ⟨j + 1, by omega, by go_num, Lib.hid ⟨a6, n6, c6, by rw [blk_set HD6.out]; rfl, by rw [HTK.out, HCL.out]; exact HO6.out.set (by show G < wn.heap.size; omega) _⟩, Lib.hid (O6.out.trans ((off_set _ _ _).mono fun b hb => .inl hb) (Grows.refl _ _))⟩
              case measure => simp [intOf]; omega
        · have hje : j = NR.length := by omega
          rw [hje, List.take_length] at HOW
          have HX2 : Hid (Ext WR wr) := Lib.hid (ext_off (X10.out.trans X3.out) HO.out (fun b hb => by have := hGr.out; omega))
          have XWG : Hid (Ext (w.alloc (.cells #[.int .i64 (m : Int), .slice vo vn vc] 53)) wr) := Lib.hid (HX0.out.trans HX2.out)
          obtain ⟨xs, hown0, hxl, hel⟩ := HQ0.out.any
          have HXL := Lib.hid hxl
          have HEL := Lib.hid hel
          have HOWN := Lib.hid hown0
          have hxs : xs.length ≤ 64 := by rw [hxl, List.length_take]; omega
          have e0 := blk_cell HDB.out 0 rfl
          have e1 := blk_cell HDB.out 1 rfl
          have e2 := blk_cell HDB.out 2 rfl
          have hGe := hGr.out
          clear hown0 hxl hel hje
          go_wp2_with (first
            | (at_builtin; refine wpList_append_sl (α := DV) rfl (.tmp 53) (.tmp 55) rfl (w.heap.size + 1) _ xs rfl ?_ (.slice (some ⟨_, 0, none⟩) 1 1) [(⟨(k : Int), 0, so, sn, sc⟩ : DV)] rfl ?_ ?_ ?_ ?_; exact ((HOWN.out.ext HX2.out).alloc _); exact (Sl.litAt wr _ rfl [(⟨(k : Int), 0, so, sn, sc⟩ : DV)] (show (1 : Nat) ≤ 1000000 by decide)); (first | omega | (simp; omega)); exact (by rw [size_alloc]; have := Below.size HX2.out; omega); intro v3 W3 ho3 ha3; have hx : Nest.rd (Own1 Non _) _ (⟨(k : Int), 0, so, sn, sc⟩ : DV) (⟨(k : Int), 0, NR.map (sideC c (k : Int))⟩ : Dn) := (⟨rfl, rfl, Sa.new (HOW.out.alloc (.cells #[.int .i64 (k : Int), .int .i64 0, .slice so sn sc] 61)) (fun b hb => by rcases hb with hb | hb; exact hb.elim; have := (HOWN.out.low b hb).2; omega)⟩ : RdD _ _ _ _); have hst := Nw.step (α := DV) (δ := Dn) (F := Non) (L := TL.take k) HXL.out (fun a x d hx hd => Nest.ext (HEL.out a x d hx hd) (Ext.alloc HX2.out _)) hx ho3 ha3; have HST := Lib.hid hst; have HX3 := Lib.hid (Below.trans (Ext.alloc XWG.out _) (ha3.below.mono (by rw [size_alloc]; exact Nat.le_refl _))); clear ho3 ha3 hx hst))
          go_roundw
          case rel => exact ⟨k + 1, by omega, by go_num, Lib.hid (by rw [HNX.out]; exact HST.out), HX3⟩
          case measure => simp [intOf]; omega
    · have hkm : k = m := by omega
      have hq := HQ.out
      rw [hkm, ← HTA.out, List.take_length] at hq
      have HQ' := Lib.hid hq
      clear hq HQ hkm
      go_wp2
      go_ret2
      exact ⟨_, rfl, HQ'.out.ns (fun b hb => hb) (fun b hb => hb.elim), Ext.trans X0.out HX.out⟩
end Go.Proofs.YtfbambemjokmgaaGreat
namespace Go.Proofs.YtfbambemjokmgaaGreat
open Go.RowKit
theorem sides_good (id : Int) : ∀ (L : List Sd) (last : Int), (∀ k s, L[k]? = some s → sideD id (lastD last (L.take k)) s = true) → sidesD id last L = true
  | [], _, _ => rfl
  | t :: L, last, h => by
    show (sideD id last t && sidesD id t.peer L) = true
    have h0 : sideD id last t = true := h 0 t rfl
    rw [h0, Bool.true_and]
    exact sides_good id L t.peer fun k s hk => h (k + 1) s hk
theorem sides_bad (id : Int) : ∀ (L : List Sd) (last : Int) (k : Nat) (s : Sd), L[k]? = some s → sideD id (lastD last (L.take k)) s = false → sidesD id last L = false
  | [], _, _, _, h, _ => by simp at h
  | t :: L, last, 0, s, h, hb => by
    obtain rfl : t = s := by simpa using h
    show (sideD id last t && sidesD id t.peer L) = false
    have hb : sideD id last t = false := hb
    rw [hb]; rfl
  | t :: L, last, k + 1, s, h, hb => by
    show (sideD id last t && sidesD id t.peer L) = false
    rw [sides_bad id L t.peer k s h hb, Bool.and_false]
theorem lastD_next {L : List Sd} {k : Nat} {s : Sd} (last : Int) (h : L[k]? = some s) : lastD last (L.take (k + 1)) = s.peer := by
  have hk := (List.getElem?_eq_some_iff.1 h).1
  rw [List.take_succ_eq_append_getElem hk, (List.getElem?_eq_some_iff.1 h).2, lastD_app]
theorem head_bits (id ph : Int) (L : List Sd) : headD ⟨id, ph, L⟩ = (decide (0 ≤ id) && decide (0 ≤ ph) && decide (ph ≤ 2) && decide ((L.length : Int) < 64)) := by
  unfold headD
  by_cases h1 : 0 ≤ id
  · rw [decide_eq_true h1, Bool.true_and, Bool.true_and]
    by_cases h2 : 0 ≤ ph
    · by_cases h3 : ph ≤ 2
      · have h4 : (decide (ph = 0) || decide (ph = 1) || decide (ph = 2)) = true := by
          simp only [Bool.or_eq_true, decide_eq_true_eq]; omega
        rw [h4, decide_eq_true h2, decide_eq_true h3]
        by_cases h5 : L.length ≤ 63
        · rw [decide_eq_true h5, decide_eq_true (show (L.length : Int) < 64 by omega)]; rfl
        · rw [decide_eq_false h5, decide_eq_false (show ¬ (L.length : Int) < 64 by omega)]; rfl
      · have h4 : (decide (ph = 0) || decide (ph = 1) || decide (ph = 2)) = false := by
          simp only [Bool.or_eq_false_iff, decide_eq_false_iff_not]; omega
        rw [h4, decide_eq_false h3]; simp
    · have h4 : (decide (ph = 0) || decide (ph = 1) || decide (ph = 2)) = false := by
        simp only [Bool.or_eq_false_iff, decide_eq_false_iff_not]; omega
      rw [h4, decide_eq_false h2]; simp
  · rw [decide_eq_false h1]; simp
structure AskS (w : World) (g1 g2 : Nat) (id : Int) (L : List Sd) (k : Nat) (V : World) : Prop where
  off : Off (fun b => b = g1) w V
  last : V.heap[g1]? = some (.cells #[.int .i64 (lastD (-1) (L.take k))] 3 (0, 0))
theorem contains_faults (w : World) (v : Value) (L : List Sd) (g1 g2 : Nat) (id : Int) (h : Sl w v L) (hv : L = [] ∨ ∀ b, v.ownBlock = some b → b ≠ g1) (h1 : w.heap[g1]? = some (.cells #[.int .i64 (-1)] 3 (0, 0))) (h2 : w.heap[g2]? = some (.cells #[.int .i64 id] 3 (0, 0))) (hne : g1 ≠ g2) (t : Bool) (ht : sidesD id (-1) L = t) :
    Calls Tryz.prog 142 #[v, .func (.func 169) #[] #[.pointer (some ⟨g1, 0, none⟩), .pointer (some ⟨g2, 0, none⟩)]] w fun e w' => e = .returned (.bool (!t)) ∧ Off (fun b => b = g1) w w' := by
  refine (containsFunc_sd w v L 169 #[.pointer (some ⟨g1, 0, none⟩), .pointer (some ⟨g2, 0, none⟩)] (AskS w g1 g2 id L) (fun k s => !(sideD id (lastD (-1) (L.take k)) s)) (enters_of Tryz.func169 (by kernel_rfl) rfl) ?_ ?_ ⟨Off.refl _ _, h1⟩ (!t) ?_ ?_).mono ?_
  · exact fun k W hW => h.off (hv.imp (fun h => h) fun h b hb => h b hb) hW.off
  · intro k s W hk hW
    refine (faults_one W g1 g2 _ id s hW.last (hW.off.blk h2 (fun e => hne e.symm)) _ rfl).mono ?_
    rintro e W' ⟨rfl, ho, hl⟩
    exact ⟨rfl, hW.off.trans ho (Grows.refl _ _), by rw [lastD_next (-1) hk]; exact hl⟩
  · intro hall
    have : sidesD id (-1) L = true := sides_good id L (-1) fun k s hk => by have := hall k s hk; simpa using this
    rw [← ht, this]; rfl
  · intro k s hk hp _
    have : sidesD id (-1) L = false := sides_bad id L (-1) k s hk (by simpa using hp)
    rw [← ht, this]; rfl
  · rintro e w' ⟨rfl, k, hk⟩
    exact ⟨rfl, hk.off⟩
set_option maxRecDepth 100000 in
set_option maxHeartbeats 4000000 in
theorem dCheck_any (w : World) (id ph : Int) (v : Value) (L : List Sd) (h : Sl w v L) (t : Bool) (ht : dnOk ⟨id, ph, L⟩ = t) :
    Calls Tryz.prog 103 #[.agg #[.int .i64 id, .int .i64 ph, v]] w fun e w' => e = .returned (.int .i64 (cond t 0 130)) ∧ Ext w w' := by
  obtain ⟨ao, c, rfl⟩ := h.len
  have hlen := h.length_le
  obtain ⟨W1, hW1⟩ : ∃ W1, W1 = w.alloc (.cells #[.int .i64 id, .int .i64 ph, .slice ao L.length c] 61) := ⟨_, rfl⟩
  have X1 : Hid (Ext w W1) := Lib.hid (hW1 ▸ (Ext.refl w).alloc _)
  have D1 : Hid (W1.heap[w.heap.size]? = some (.cells #[.int .i64 id, .int .i64 ph, .slice ao L.length c] 61 (0, 0))) := Lib.hid (hW1 ▸ at0 w _)
  have HS : Hid (Sl W1 (.slice ao L.length c) L) := Lib.hid (h.ext X1.out)
  have HLW : Hid (L = [] ∨ ∀ b, (Value.slice ao L.length c).ownBlock = some b → b < w.heap.size) := Lib.hid h.low
  have hs1 : W1.heap.size = w.heap.size + 1 := by rw [hW1, size_alloc]
  have HW1 := Lib.hid hW1
  have HT := Lib.hid ht
  clear h ht hW1
  go_enter Tryz.func103, Tryz.ntmps103
  go_upto_region 1 with (fail)
  rw [← HW1.out]
  have d0 := blk_cell D1.out 0 rfl
  have d1 := blk_cell D1.out 1 rfl
  have d2 := blk_cell D1.out 2 rfl
  go_cut [3] (fun s3 wx => ∃ b, s3 = .bool b ∧ W1 = wx ∧ Hid (b = headD ⟨id, ph, L⟩))
  case first =>
    by_cases e1 : 0 ≤ id
    · by_cases e2 : 0 ≤ ph
      · by_cases e3 : ph ≤ 2
        · by_cases e4 : (L.length : Int) < 64
          · have HB : Hid (true = headD ⟨id, ph, L⟩) := Lib.hid (by rw [head_bits, decide_eq_true e1, decide_eq_true e2, decide_eq_true e3, decide_eq_true e4]; rfl)
            go_wp2_with fail
            go_meet
            exact ⟨_, rfl, rfl, HB⟩
          · have HB : Hid (false = headD ⟨id, ph, L⟩) := Lib.hid (by rw [head_bits, decide_eq_false e4]; simp)
            go_wp2_with fail
            go_meet
            exact ⟨_, rfl, rfl, HB⟩
        · have HB : Hid (false = headD ⟨id, ph, L⟩) := Lib.hid (by rw [head_bits, decide_eq_false e3]; simp)
          go_wp2_with fail
          go_meet
          exact ⟨_, rfl, rfl, HB⟩
      · have HB : Hid (false = headD ⟨id, ph, L⟩) := Lib.hid (by rw [head_bits, decide_eq_false e2]; simp)
        go_wp2_with fail
        go_meet
        exact ⟨_, rfl, rfl, HB⟩
    · have HB : Hid (false = headD ⟨id, ph, L⟩) := Lib.hid (by rw [head_bits, decide_eq_false e1]; simp)
      go_wp2_with fail
      go_meet
      exact ⟨_, rfl, rfl, HB⟩
  case rest =>
    obtain ⟨b, rfl, rfl, HB⟩ := hcut
    clear d0 d1 d2
    cases b
    · have HF : Hid (130 = cond t 0 (130 : Int)) := Lib.hid (by
        have : dnOk ⟨id, ph, L⟩ = false := by unfold dnOk; rw [← HB.out]; rfl
        rw [← HT.out, this]; rfl)
      go_wp2_with fail
      (refine wp_region_X_lit (K := fun V => Ext W1 V) (by kernel_rfl) (fun w1 hw1 => ?_))
      have HX := Lib.hid hw1
      clear hw1
      refine xtv 0 (h := ?_)
      refine xtv 1 (h := ?_)
      refine xtv 2 (h := ?_)
      (refine xtakeU 3 (h := ?_); (simp only [Act.put, List.setIfInBounds_toArray, List.set]))
      (refine xtakeU 4 (h := ?_); (simp only [Act.put, List.setIfInBounds_toArray, List.set]))
      (refine xtakeU 5 (h := ?_); (simp only [Act.put, List.setIfInBounds_toArray, List.set]))
      (refine xtakeU 6 (h := ?_); (simp only [Act.put, List.setIfInBounds_toArray, List.set]))
      (refine xtakeU 7 (h := ?_); (simp only [Act.put, List.setIfInBounds_toArray, List.set]))
      (refine xtakeU 8 (h := ?_); (simp only [Act.put, List.setIfInBounds_toArray, List.set]))
      refine xtv 9 (h := ?_)
      (refine xdone (by kernel_rfl) (HX.out) ?_)
      go_wp2
      go_ret
      exact ⟨ret_int HF.out, X1.out.trans HX.out⟩
    · have HF : Hid (∀ s, sidesD id (-1) L = s → s = t) := Lib.hid (fun s hs => by
        rw [← HT.out, ← hs]
        show _ = (headD ⟨id, ph, L⟩ && sidesD id (-1) L)
        rw [← HB.out, Bool.true_and])
      obtain ⟨s, hs⟩ : ∃ s, sidesD id (-1) L = s := ⟨_, rfl⟩
      have HSD := Lib.hid hs
      have HST := Lib.hid (HF.out s hs)
      clear hs HF HT HB
      go_wp2_with fail
      (refine wp_region_X_lit (K := fun V => Ext W1 V) (by kernel_rfl) (fun w1 hw1 => ?_))
      have HX := Lib.hid hw1
      clear hw1
      refine xtv 0 (h := ?_)
      refine xtv 1 (h := ?_)
      refine xtv 2 (h := ?_)
      refine xtv 3 (h := ?_)
      refine xtv 4 (hv := by intro w' hw'; have q2 := blk_cell (keepU D1.out hw') 2 rfl; go_simp; first | done | with_reducible rfl) (h := ?_)
      refine xtv 5 (h := ?_)
      refine xtv 6 (hv := by intro w' hw'; have q0 := blk_cell (keepU D1.out hw') 0 rfl; go_simp; first | done | with_reducible rfl) (h := ?_)
      refine xone 7 (hk := HX.out) (h := RunX.of 7 (h := ?_))
      go_simp
      refine (faults_any w1 id).mono ?_
      rintro e5 w5 ⟨g1, g2, rfl, m1, m2, hne, hg1, hx5⟩
      have X5 := Lib.hid (Ext.trans HX.out hx5)
      have M1 := Lib.hid m1
      have M2 := Lib.hid m2
      have HG1 : Hid (W1.heap.size ≤ g1) := Lib.hid (Nat.le_trans (Below.size HX.out) hg1)
      clear m1 m2 hx5 hg1
      dsimp only
      (try (simp only [Act.put, List.setIfInBounds_toArray, List.set]))
      refine xone 8 (hk := X5.out) (h := RunX.of 8 (h := ?_))
      go_simp
      have HCF : Hid (L = [] ∨ ∀ b, (Value.slice ao L.length c).ownBlock = some b → b ≠ g1) := Lib.hid (HLW.out.imp (fun h => h) fun h b hb e => by have := h b hb; have := HG1.out; omega)
      refine (contains_faults w5 _ L g1 g2 id (HS.out.ext X5.out) HCF.out M1.out M2.out hne s HSD.out).mono ?_
      rintro e6 w6 ⟨rfl, o6⟩
      have X6 := Lib.hid (ext_off X5.out o6 (fun k hk => by rw [hk]; exact HG1.out))
      clear o6 hne
      dsimp only
      (try (simp only [Act.put, List.setIfInBounds_toArray, List.set]))
      refine xtv 9 (h := ?_)
      (refine xdone (by kernel_rfl) (X6.out) ?_)
      have XF := Lib.hid (X1.out.trans X6.out)
      cases s
      · have HF : Hid (130 = cond t 0 (130 : Int)) := Lib.hid (by rw [← HST.out]; rfl)
        go_wp2
        go_ret
        exact ⟨ret_int HF.out, XF.out⟩
      · have HF : Hid (0 = cond t 0 (130 : Int)) := Lib.hid (by rw [← HST.out]; rfl)
        go_wp2
        go_ret
        exact ⟨ret_int HF.out, XF.out⟩
end Go.Proofs.YtfbambemjokmgaaGreat
namespace Go.Proofs.YtfbambemjokmgaaGreat
theorem fireS1_keeps (ph : Int) (s : Sd) : (fireS1 ph s).peer = s.peer ∧ (fireS1 ph s).epoch = s.epoch ∧ (fireS1 ph s).state = s.state ∧ (fireS1 ph s).bottle = s.bottle ∧ (fireS1 ph s).ask = s.ask := by
  unfold fireS1 asked gone
  split <;> split <;> exact ⟨rfl, rfl, rfl, rfl, rfl⟩
theorem fireS1_dirty {ph : Int} {s : Sd} (h : (s.dirty && !s.fork) = false) : ((fireS1 ph s).dirty && !(fireS1 ph s).fork) = false := by
  unfold fireS1 asked gone
  split <;> split <;> simp_all
theorem sideD_of {id last : Int} {s t : Sd} (h : sideD id last s = true) (e1 : t.peer = s.peer) (e2 : t.epoch = s.epoch) (e3 : t.state = s.state) (e4 : (t.dirty && !t.fork) = false) : sideD id last t = true := by
  unfold sideD at *
  rw [e1, e2, e3, e4]
  simp only [Bool.and_eq_true] at *
  exact ⟨h.1, h.2.1, h.2.2.1, h.2.2.2.1, h.2.2.2.2.1, h.2.2.2.2.2.1, rfl⟩
theorem sideD_dirty {id last : Int} {s : Sd} (h : sideD id last s = true) : (s.dirty && !s.fork) = false := by
  unfold sideD at h
  simp only [Bool.and_eq_true] at h
  have h2 := h.2.2.2.2.2.2
  cases hd : s.dirty <;> cases hf : s.fork <;> simp_all
theorem sidesD_cons {id last : Int} {s : Sd} {L : List Sd} : sidesD id last (s :: L) = true ↔ sideD id last s = true ∧ sidesD id s.peer L = true := by
  show (sideD id last s && sidesD id s.peer L) = true ↔ _
  rw [Bool.and_eq_true]
theorem sidesD_map {id : Int} (f : Sd → Sd) : ∀ {L : List Sd} {last : Int}, sidesD id last L = true → (∀ s ∈ L, (f s).peer = s.peer ∧ (f s).epoch = s.epoch ∧ (f s).state = s.state ∧ ((s.dirty && !s.fork) = false → ((f s).dirty && !(f s).fork) = false)) → sidesD id last (L.map f) = true
  | [], _, _, _ => rfl
  | s :: L, last, h, hf => by
    obtain ⟨h1, h2⟩ := sidesD_cons.1 h
    obtain ⟨e1, e2, e3, e4⟩ := hf s (List.mem_cons_self ..)
    rw [List.map_cons]
    refine sidesD_cons.2 ⟨sideD_of h1 e1 e2 e3 (e4 (sideD_dirty h1)), ?_⟩
    rw [e1]
    exact sidesD_map f h2 fun t ht => hf t (List.mem_cons_of_mem _ ht)
theorem head_of {d : Dn} (h : headD d = true) {e : Dn} (h1 : e.id = d.id) (h2 : e.phase = d.phase ∨ e.phase = 2) (h3 : e.sides.length = d.sides.length) : headD e = true := by
  unfold headD at *
  rw [h1, h3]
  simp only [Bool.and_eq_true, Bool.or_eq_true, decide_eq_true_eq] at *
  rcases h2 with e | e
  · rw [e]; exact h
  · rw [e]; exact ⟨h.1, .inr rfl, h.2.2⟩
theorem fireD_len (d : Dn) : (fireD d).sides.length = d.sides.length ∧ (fireD d).id = d.id := by
  unfold fireD
  split <;> simp [dirtyAll, fireSs]
theorem dnOk_fire {d : Dn} (h : dnOk d = true) : dnOk (fireD d) = true := by
  unfold dnOk at *
  rw [Bool.and_eq_true] at *
  refine ⟨head_of h.1 (fireD_len d).2 ?_ (fireD_len d).1, ?_⟩
  · unfold fireD; split
    · exact .inr rfl
    · exact .inl rfl
  · have h1 : sidesD d.id (-1) (fireSs d.phase d.sides) = true := sidesD_map (fireS1 d.phase) h.2 fun s _ => ⟨(fireS1_keeps _ s).1, (fireS1_keeps _ s).2.1, (fireS1_keeps _ s).2.2.1, fireS1_dirty⟩
    rw [(fireD_len d).2]
    unfold fireD
    split
    · next he =>
      unfold eats at he
      rw [Bool.and_eq_true, List.all_eq_true] at he
      exact sidesD_map _ h1 fun s hs => ⟨rfl, rfl, rfl, fun _ => by simp [he.2 s hs]⟩
    · exact h1
end Go.Proofs.YtfbambemjokmgaaGreat
namespace Go.Proofs.YtfbambemjokmgaaGreat
def WA (a b ep : Int) (x y : Sd) (mab mba : List Ml) (pa pb : Int) : Prop := (E1A a b ep x y mab mba pa pb ∧ Cl x y pa) ∨ (E1B b a ep y x mba mab pb pa ∧ Cl y x pb)
section
variable {a b ep : Int} {x y : Sd} {mab mba : List Ml} {pa pb : Int}
def ahd (x y : Sd) (mba : List Ml) : Bool := (x.fork && !x.dirty) || (y.fork && y.dirty) || (!x.fork && !y.fork && mba.any fun m => m.kind == 1)
def cnt (k : Int) (l : List Ml) : Nat := l.countP fun m => m.kind == k
end
end Go.Proofs.YtfbambemjokmgaaGreat
namespace Go.Proofs.YtfbambemjokmgaaGreat
def chan (l : List Ml) (i k : Int) : List Ml := l.filter fun m => m.from_ == i && m.to_ == k
theorem chan_app (l m : List Ml) (i k : Int) : chan (l ++ m) i k = chan l i k ++ chan m i k := List.filter_append ..
structure NB (n : Nat) (nb : Nat → List Nat) : Prop where
  up : ∀ i, (nb i).Pairwise (· < ·)
  back : ∀ i k, i < n → k ∈ nb i → k < n ∧ k ≠ i ∧ i ∈ nb k
def dsOf (n : Nat) (nb : Nat → List Nat) (X : Nat → Nat → Sd) (P : Nat → Int) : List Dn := (List.range n).map fun i : Nat => (⟨(i : Int), P i, (nb i).map (X i)⟩ : Dn)
structure TB (n : Nat) (nb : Nat → List Nat) (ep : Int) (X : Nat → Nat → Sd) (P : Nat → Int) (ms : List Ml) : Prop where
  pr : ∀ i k, i < n → k ∈ nb i → (X i k).peer = k ∧ (X i k).epoch = ep
  lv : ∀ i k, i < n → k ∈ nb i → (X i k).state = 0
  ph : ∀ i, i < n → P i = 0 ∨ P i = 1 ∨ P i = 2
  edge : ∀ i k, i < n → k ∈ nb i → EO i k ep (X i k) (X k i) (chan ms i k) (chan ms k i) (P i) (P k)
  calm : ∀ i, i < n → eats (P i) ((nb i).map (X i)) = false
  mail : ∀ m ∈ ms, ∃ i k : Nat, i < n ∧ k ∈ nb i ∧ m.from_ = i ∧ m.to_ = k
end Go.Proofs.YtfbambemjokmgaaGreat
