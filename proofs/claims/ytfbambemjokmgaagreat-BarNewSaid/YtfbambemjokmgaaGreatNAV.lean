/- Texts of this seat. -/
import Derived.Test.YtfbambemjokmgaaGreatNAU
namespace Go.Proofs.YtfbambemjokmgaaGreat
open Go.RowKit
theorem keepG {w W : World} {g : Nat} {o : Obj} (h : w.heap[g]? = some o) (e : Ext w W) : W.heap[g]? = some o := (e.block _ (blk_lt h)).trans h
theorem okG_few {N : Int} {E : List Edge} (h : okG N E = true) : N ≤ 64 := by
  unfold okG at h
  simp only [Bool.and_eq_true, decide_eq_true_eq] at h
  omega
theorem okG_chk {N : Int} {E : List Edge} {b : Bool} (h : okG N E = b) : chk N E = if b = true then 0 else 30 := by unfold chk; rw [h]
set_option maxRecDepth 100000 in
set_option maxHeartbeats 4000000 in
theorem pFits_any (w : World) (v : Value) (L : List Dn) (k : Nat) (d : Dn) (h : Ns DV Non w v L) (hd : L[k]? = some d) (t : Bool) (ht : (sidesOk L k (-1) d.sides && decide (d.id = k)) = t) :
    Calls Tryz.prog 144 #[v, .int .i64 k] w fun e w' => e = .returned (.bool t) ∧ Ext w w' := by
  have hk : k < L.length := (List.getElem?_eq_some_iff.1 hd).1
  obtain ⟨ao, c, rfl⟩ := h.len
  have HS := Lib.hid h
  have HT := Lib.hid ht
  obtain ⟨b1, o1, so, sc, d', hdk, rfl, hn, hnc, hc63, hb, hsl, hcell⟩ := h.dinerAt hk
  obtain rfl : d = d' := by have := hd.symm.trans hdk; simpa using this
  have HC : Hid (∀ V, Ext w V → V.cell? ⟨b1, o1 + k * 3, none⟩ = some (.int .i64 d.id) ∧ V.cell? ⟨b1, o1 + k * 3 + 1, none⟩ = some (.int .i64 d.phase) ∧ V.cell? ⟨b1, o1 + k * 3 + 2, none⟩ = some (.slice so d.sides.length sc)) := Lib.hid hcell
  have HSD := Lib.hid hsl.sl
  have hdl := hsl.sl.length_le
  obtain ⟨a0, a1, a2⟩ := hcell w (Ext.refl _)
  clear h ht hd hdk hn hsl hcell a0 a1
  go_enter Tryz.func144, Tryz.ntmps144
  go_wp2
  go_loopw [5, 16] (fun la i wr => ∃ j : Nat, j ≤ d.sides.length ∧ i = .int .i64 j ∧ la = .int .i64 (lastP (-1) (d.sides.take j)) ∧ Hid (sidesOk L k (-1) (d.sides.take j) = true) ∧ Hid (Ext w wr)) (fun _ i _ => d.sides.length - (intOf i).toNat)
  case atStart => exact ⟨0, Nat.zero_le _, rfl, rfl, Lib.hid rfl, Lib.hid (Ext.refl _)⟩
  case round =>
    obtain ⟨j, hj, rfl, rfl, HQ, HX⟩ := hrel
    by_cases hlt2 : j < d.sides.length
    · obtain ⟨b2, o2, s, hsy, hsj, rfl, hn2, hnc2, hc632, hb2, hcs⟩ := HSD.out.sidesAt hlt2
      obtain ⟨⟨⟨x0, x1⟩, x2, x3⟩, ⟨x4, x5⟩, x6, x7⟩ := hcs wr HX.out
      have htk : d.sides.take (j + 1) = d.sides.take j ++ [s] := by rw [List.take_succ_eq_append_getElem hlt2, (List.getElem?_eq_some_iff.1 hsj).2]
      have HOK1 : Hid (sidesOk L k (-1) (d.sides.take (j + 1)) = sideOk L k (lastP (-1) (d.sides.take j)) s) := Lib.hid (by rw [htk, sidesOk_app, HQ.out, Bool.true_and])
      have HLP : Hid (lastP (-1) (d.sides.take (j + 1)) = s.peer) := Lib.hid (by rw [htk, lastP_app])
      have HBAD0 : Hid (sidesOk L k (-1) (d.sides.take (j + 1)) = false → false = t) := Lib.hid fun e => by
        have := sidesOk_pre L k _ (d.sides.drop (j + 1)) (-1) e
        rw [List.take_append_drop] at this
        rw [← HT.out, this]; rfl
      have hl1 : -1 ≤ lastP (-1) (d.sides.take j) := lastP_low L k _ _ HQ.out
      obtain ⟨la, hla⟩ : ∃ la, la = lastP (-1) (d.sides.take j) := ⟨_, rfl⟩
      rw [← hla] at HOK1 hl1 ⊢
      obtain ⟨W1, hW1⟩ : ∃ W1, W1 = wr.alloc (.cells s.cs 66) := ⟨_, rfl⟩
      have X1 : Hid (Ext w W1) := Lib.hid (hW1 ▸ HX.out.alloc _)
      have D1 : Hid (W1.heap[wr.heap.size]? = some (.cells s.cs 66 (0, 0))) := Lib.hid (hW1 ▸ at0 wr _)
      have HW1 := Lib.hid hW1
      have p0 : W1.cell? ⟨wr.heap.size, 0, none⟩ = some (.int .i64 s.peer) := blk_cell D1.out 0 rfl
      clear hla htk hsy hsj hcs hn2 hW1
      obtain ⟨y0, y1, y2, y3, y4, y5, y6, y7⟩ := s
      dsimp only at x0 x1 x2 x3 x4 x5 x6 x7 HLP p0
      dsimp only [Sd.cs] at HW1 D1
      go_upto_region 5 with (fail)
      rw [← HW1.out]
      clear x0 x1 x2 x3 x4 x5 x6 x7
      by_cases h1 : y0 ≤ la
      · have HF : Hid (false = t) := Lib.hid (HBAD0.out (HOK1.out.trans (by unfold sideOk; rw [decide_eq_false (show ¬ la < y0 by omega)]; rfl)))
        go_wp2
        go_ret
        exact ⟨ret_bool HF.out, X1.out⟩
      by_cases h2 : (L.length : Int) ≤ y0
      · have HF : Hid (false = t) := Lib.hid (HBAD0.out (HOK1.out.trans (by unfold sideOk; rw [decide_eq_false (show ¬ y0 < (L.length : Int) by omega)]; simp)))
        go_wp2
        go_ret
        exact ⟨ret_bool HF.out, X1.out⟩
      by_cases h3 : y0 = (k : Int)
      · have HF : Hid (false = t) := Lib.hid (HBAD0.out (HOK1.out.trans (by unfold sideOk; simp [h3])))
        have e3 : (y0 == (k : Int)) = true := by simp [h3]
        clear h3
        go_wp2
        go_ret
        exact ⟨ret_bool HF.out, X1.out⟩
      obtain ⟨pn, rfl⟩ : ∃ pn : Nat, y0 = (pn : Int) := ⟨y0.toNat, by omega⟩
      have hpn : pn < L.length := by omega
      have e3 : ((pn : Int) == (k : Int)) = false := by simp; omega
      obtain ⟨b3, o3, so3, sc3, f, hfk, hao, hn3, hnc3, hc633, hb3, hsl3, hcell3⟩ := HS.out.dinerAt hpn
      simp only [Option.some.injEq, Addr.mk.injEq, and_true] at hao
      obtain ⟨rfl, rfl⟩ := hao
      obtain ⟨z0, z1, z2⟩ := hcell3 W1 X1.out
      have HSE := Lib.hid hsl3.sl
      obtain ⟨⟨x, xb⟩, hxs⟩ : ∃ q, sideR f.sides (k : Int) = q := ⟨_, rfl⟩
      have HXS := Lib.hid hxs
      have HOK2 : Hid (sidesOk L k (-1) (d.sides.take (j + 1)) = xb) := Lib.hid (HOK1.out.trans (by
        unfold sideOk
        dsimp only
        rw [decide_eq_true (show la < (pn : Int) by omega), decide_eq_true (show (pn : Int) < (L.length : Int) by omega), decide_eq_true (show (pn : Int) ≠ (k : Int) from h3), Int.toNat_natCast, List.getD_eq_getElem?_getD, hfk]
        show (true && (true && (true && (sideR f.sides (k : Int)).2))) = xb
        rw [hxs]; rfl))
      clear hcell3 hfk hn3 hsl3 hxs h3 HOK1
      obtain ⟨f0, f1, f2⟩ := f
      obtain ⟨x0, x1, x2, x3, x4, x5, x6, x7⟩ := x
      dsimp only at z0 z1 z2 HSE HXS
      cases xb
      · have HF : Hid (false = t) := Lib.hid (HBAD0.out HOK2.out)
        go_wp2_with (first
          | (go_at_call 116; refine (pSide_any _ f0 f1 _ f2 k (HSE.out.ext X1.out) _ _ HXS.out).mono ?_; rintro e4 w4 ⟨rfl, hx⟩; dsimp only [Sd.cs]; have X4 := Lib.hid (X1.out.trans hx); clear hx))
        go_ret
        exact ⟨ret_bool HF.out, X4.out.alloc _⟩
      · go_wp2_with (first
          | (go_at_call 116; refine (pSide_any _ f0 f1 _ f2 k (HSE.out.ext X1.out) _ _ HXS.out).mono ?_; rintro e4 w4 ⟨rfl, hx⟩; dsimp only [Sd.cs]; have X4 := Lib.hid (X1.out.trans hx); have p4 : (w4.alloc (.cells #[.int .i64 x0, .int .i64 x1, .int .i64 x2, .bool x3, .bool x4, .bool x5, .bool x6, .bool x7] 66)).cell? ⟨wr.heap.size, 0, none⟩ = some (.int .i64 pn) := blk_cell (keepG D1.out (hx.alloc (.cells #[.int .i64 x0, .int .i64 x1, .int .i64 x2, .bool x3, .bool x4, .bool x5, .bool x6, .bool x7] 66))) 0 rfl; clear hx))
        go_roundw
        case rel => exact ⟨j + 1, by omega, by go_num, by rw [HLP.out], HOK2, Lib.hid (X4.out.alloc _)⟩
        case measure => simp [intOf]; omega
    · have hjl : j = d.sides.length := by omega
      have hq := HQ.out
      rw [hjl, List.take_length] at hq
      obtain ⟨a0, a1, a2⟩ := HC.out wr HX.out
      have HF : Hid (decide (d.id = (k : Int)) = t) := Lib.hid (by rw [← HT.out, hq, Bool.true_and])
      obtain ⟨s, hs⟩ : ∃ s, (d.id == (k : Int)) = s := ⟨_, rfl⟩
      have HG : Hid (s = t) := Lib.hid (by rw [← HF.out, ← hs]; rfl)
      clear hq HQ hjl a1 a2
      go_wp2
      go_ret
      exact ⟨ret_bool HG.out, HX.out⟩
set_option maxRecDepth 100000 in
set_option maxHeartbeats 4000000 in
theorem pGraph_any (w : World) (v : Value) (L : List Dn) (h : Ns DV Non w v L) (hl : L.length ≤ 100) (hls : ∀ d ∈ L, d.sides.length ≤ 100) (N' : Int) (E' : List Edge) (t : Bool) (ht : graphR L = (N', E', t)) :
    Calls Tryz.prog 107 #[v] w (GivesGr w N' E' t) := by
  obtain ⟨ao, c, rfl⟩ := h.len
  have HS := Lib.hid h
  have HT := Lib.hid ht
  have HLS := Lib.hid hls
  have HEL : Hid (∀ k, k ≤ L.length → (edgesD L k).length ≤ 100 * k) := Lib.hid fun k => by
    induction k with
    | zero => intro _; simp [edgesD]
    | succ k ih =>
      intro hk
      rw [edgesD_next, List.length_append]
      have h1 := edgesS_len k (L.getD k ⟨0, 0, []⟩).sides
      have h2 := hls _ (getD_mem (show k < L.length by omega) ⟨0, 0, []⟩)
      have := ih (by omega)
      omega
  clear h ht hls
  go_enter Tryz.func107, Tryz.ntmps107
  by_cases h64 : (64 : Int) < (L.length : Int)
  · have HF := Lib.hid (HT.out.symm.trans (graphR_no (by
      unfold graphB
      cases ho : okG (L.length : Int) (edgesD L L.length) with
      | false => rw [Bool.and_false]
      | true => have := okG_few ho; omega)))
    go_wp2
    obtain ⟨rfl, rfl, rfl⟩ := three HF.out
    exact bodyPost_ret (v := .tuple #[.agg #[.int .i64 0, .slice none 0 0], .bool false]) (by simp [results, Tryz.results107, go_sem]) rfl ⟨_, rfl, Sl.empty _ _ _ (by omega) (fun _ => rfl), (by repeat (first | exact Ext.refl _ | assumption | refine Ext.alloc ?_ _ | refine Ext.drew ?_ | refine Ext.drewN ?_ _))⟩
  go_wp2
  go_loopw [18] (fun i wr => ∃ k : Nat, k ≤ L.length ∧ i = .int .i64 k ∧ Hid (nodesOk L k = true) ∧ Hid (GrAt w L.length (edgesD L k) wr)) (fun i _ => L.length - (intOf i).toNat)
  case atStart => exact ⟨0, Nat.zero_le _, rfl, Lib.hid rfl, Lib.hid (GrAt.start w _)⟩
  case round =>
    obtain ⟨k, hk, rfl, HN, HA⟩ := hrel
    obtain ⟨eo, en, ec, ⟨r0, r1⟩, ⟨u0, u1⟩, ⟨s0, s1⟩, u3, hown⟩ := HA.out.cells
    by_cases hlt : k < L.length
    · obtain ⟨b1, o1, so, sc, d, hdk, rfl, hn, hnc, hc63, hb, hsl, hcell⟩ := HS.out.dinerAt hlt
      have hdd : L.getD k ⟨0, 0, []⟩ = d := by rw [List.getD_eq_getElem?_getD, hdk]; rfl
      have HDK := Lib.hid hdk
      have HNX := Lib.hid (nodesOk_next L k)
      have HEX := Lib.hid (edgesD_next L k)
      have HNO := Lib.hid (fun e => nodesOk_no (L := L) hlt e)
      rw [hdd] at HNX HEX HNO
      have hdl : d.sides.length ≤ 100 := HLS.out d (List.mem_of_getElem? hdk)
      have HSD := Lib.hid hsl.sl
      obtain ⟨a0, a1, a2⟩ := hcell wr HA.out.ext
      have HA1 := Lib.hid (HA.out.more ((Ext.refl _).alloc (.cells #[.int .i64 d.id, .int .i64 d.phase, .slice so d.sides.length sc] 61)))
      have HDB := Lib.hid (at0 wr (.cells #[.int .i64 d.id, .int .i64 d.phase, .slice so d.sides.length sc] 61))
      obtain ⟨ok, hok⟩ : ∃ ok, (sidesOk L k (-1) d.sides && decide (d.id = (k : Int))) = ok := ⟨_, rfl⟩
      have HOK := Lib.hid hok
      clear hcell hdd hn hsl hdk hown hok
      cases ok
      · have HF := Lib.hid (HT.out.symm.trans (graphR_no (by unfold graphB; rw [HNO.out (by rw [Bool.and_comm]; exact HOK.out)]; rfl)))
        go_wp2_with (first
          | (go_at_call 144; refine (pFits_any _ _ L k d (HS.out.ext HA1.out.ext) HDK.out _ HOK.out).mono ?_; rintro e2 w2 ⟨rfl, hx⟩; have HB5 := Lib.hid (HA1.out.more hx); obtain ⟨eo5, en5, ec5, ⟨l0, l1⟩, ⟨l2, l3⟩, ⟨l4, l5⟩, l6, l7⟩ := HB5.out.cells; clear hx l7))
        obtain ⟨rfl, rfl, rfl⟩ := three HF.out
        exact bodyPost_ret (v := .tuple #[.agg #[.int .i64 0, .slice none 0 0], .bool false]) (by simp [results, Tryz.results107, go_sem, l0, l1]) rfl ⟨_, rfl, Sl.empty _ _ _ (by omega) (fun _ => rfl), below_set (below_set HB5.out.ext (Nat.le_refl _) _) (Nat.le_refl _) _⟩
      · have hsd : sidesOk L k (-1) d.sides = true ∧ decide (d.id = (k : Int)) = true := by have := HOK.out; rwa [Bool.and_eq_true] at this
        have HNX2 : Hid (nodesOk L (k + 1) = true) := Lib.hid (HNX.out.trans (by rw [HN.out, hsd.1, hsd.2]; rfl))
        clear hsd
        go_wp2_with (first
          | (go_at_call 144; refine (pFits_any _ _ L k d (HS.out.ext HA1.out.ext) HDK.out _ HOK.out).mono ?_; rintro e2 w2 ⟨rfl, hx⟩; have HB1 := Lib.hid (HA1.out.more hx); have d2 := blk_cell (keepG HDB.out hx) 2 rfl; clear hx))
        go_loopw [31] (fun i wr => ∃ j : Nat, j ≤ d.sides.length ∧ i = .int .i64 j ∧ Hid (GrAt w L.length (edgesD L k ++ edgesS k (d.sides.take j)) wr)) (fun i _ => d.sides.length - (intOf i).toNat)
        case atStart => exact ⟨0, Nat.zero_le _, rfl, Lib.hid (by rw [List.take_zero]; show GrAt w L.length (edgesD L k ++ []) _; rw [List.append_nil]; exact HB1.out)⟩
        case round =>
          obtain ⟨j, hj, rfl, HB⟩ := hrel
          by_cases hlt2 : j < d.sides.length
          · obtain ⟨b2, o2, s, hsy, hsj, rfl, hn2, hnc2, hc632, hb2, hcs⟩ := HSD.out.sidesAt hlt2
            obtain ⟨⟨⟨x0, x1⟩, x2, x3⟩, ⟨x4, x5⟩, x6, x7⟩ := hcs wr HB.out.ext
            have htk : d.sides.take (j + 1) = d.sides.take j ++ [s] := by rw [List.take_succ_eq_append_getElem hlt2, (List.getElem?_eq_some_iff.1 hsj).2]
            have HEP : Hid (edgesS k (d.sides.take (j + 1)) = edgesS k (d.sides.take j) ++ (if decide ((k : Int) < s.peer) = true then [⟨k, s.peer⟩] else [])) := Lib.hid (by rw [htk, edgesS_app])
            obtain ⟨S, hS⟩ : ∃ S, S = edgesD L k ++ edgesS k (d.sides.take j) := ⟨_, rfl⟩
            have hSl : S.length ≤ 20000 := by
              rw [hS, List.length_append]
              have q1 := HEL.out k hk
              have q2 := edgesS_len k (d.sides.take j)
              rw [List.length_take] at q2
              omega
            rw [← hS] at HB
            have HEP2 : Hid (edgesD L k ++ edgesS k (d.sides.take (j + 1)) = S ++ (if decide ((k : Int) < s.peer) = true then [⟨k, s.peer⟩] else [])) := Lib.hid (by rw [HEP.out, hS, List.append_assoc])
            obtain ⟨W1, hW1⟩ : ∃ W1, W1 = wr.alloc (.cells s.cs 66) := ⟨_, rfl⟩
            have HB2 := Lib.hid (HB.out.more (show Ext wr W1 from hW1 ▸ (Ext.refl _).alloc _))
            have D1 : Hid (W1.heap[wr.heap.size]? = some (.cells s.cs 66 (0, 0))) := Lib.hid (hW1 ▸ at0 wr _)
            have HW1 := Lib.hid hW1
            have p0 : W1.cell? ⟨wr.heap.size, 0, none⟩ = some (.int .i64 s.peer) := blk_cell D1.out 0 rfl
            clear htk hsy hsj hcs hn2 hS HEP hW1
            obtain ⟨y0, y1, y2, y3, y4, y5, y6, y7⟩ := s
            dsimp only at x0 x1 x2 x3 x4 x5 x6 x7 HEP2 p0
            dsimp only [Sd.cs] at HW1 D1
            go_upto_region 12 with (fail)
            rw [← HW1.out]
            clear x0 x1 x2 x3 x4 x5 x6 x7
            obtain ⟨eo5, en5, ec5, ⟨l0, l1⟩, ⟨l2, l3⟩, ⟨l4, l5⟩, l6, l7⟩ := HB2.out.cells
            have HO5 := Lib.hid l7
            clear l7
            by_cases hkp : (k : Int) < y0
            · have HEP3 : Hid (edgesD L k ++ edgesS k (d.sides.take (j + 1)) = S ++ [⟨k, y0⟩]) := Lib.hid (HEP2.out.trans (by rw [if_pos (decide_eq_true hkp)]))
              go_wp2_with (first
                | (at_builtin; refine wpList_append_sl (α := Edge) rfl (.tmp 40) (.tmp 45) rfl (w.heap.size + 2) _ S rfl ?_ (.slice (some ⟨_, 0, none⟩) 1 1) [(⟨(k : Int), y0⟩ : Edge)] rfl ?_ ?_ ?_ ?_; exact (HO5.out.alloc _); exact (Sl.litAt _ _ (by simp) [(⟨(k : Int), y0⟩ : Edge)] (show (1 : Nat) ≤ 1000000 by decide)); (first | omega | (simp; omega)); exact (by rw [size_alloc]; have q1 := blk_lt HB2.out.res; obtain ⟨_, _, _, q2, _⟩ := HB2.out.blk; have q3 := blk_lt q2; omega); intro v6 W6 ho6 ha6; obtain ⟨a6, n6, c6, rfl⟩ := ho6.sh; have HB6 := Lib.hid (HB2.out.more ((Ext.refl _).alloc (.cells #[.int .i64 (k : Int), .int .i64 y0] 30))); obtain ⟨eo6, en6, ec6, q1, q2⟩ := HB6.out.blk; have q3 := (ha6.below.block _ (by omega)).trans q1; have m0 := blk_cell q3 1 rfl; have m1 := blk_free q3 1; have HST := Lib.hid (HB6.out.step ha6.below ho6); clear ho6 ha6 q1 q2 q3))
              go_roundw
              case rel => exact ⟨j + 1, by omega, by go_num, Lib.hid (by rw [HEP3.out]; exact HST.out)⟩
              case measure => simp [intOf]; omega
            · have HEP3 : Hid (edgesD L k ++ edgesS k (d.sides.take (j + 1)) = S) := Lib.hid (HEP2.out.trans (by rw [if_neg (by simp; omega), List.append_nil]))
              go_wp2
              go_roundw
              case rel => exact ⟨j + 1, by omega, by go_num, Lib.hid (by rw [HEP3.out]; exact HB2.out)⟩
              case measure => simp [intOf]; omega
          · have hjl : j = d.sides.length := by omega
            have hb' := HB.out
            rw [hjl, List.take_length] at hb'
            rw [← HEX.out] at hb'
            have HB2 := Lib.hid hb'
            clear hb' HB hjl
            go_wp2
            go_roundw
            case rel => exact ⟨k + 1, by omega, by go_num, HNX2, HB2⟩
            case measure => simp [intOf]; omega
    · have hkl : k = L.length := by omega
      subst hkl
      have HSLE := Lib.hid hown.sl
      clear hown
      cases ho : okG (L.length : Int) (edgesD L L.length)
      · have HOK := Lib.hid (okG_chk ho)
        have HF := Lib.hid (HT.out.symm.trans (graphR_no (by unfold graphB; rw [ho, Bool.and_false])))
        clear ho
        go_wp2_with (first
          | (go_at_call 145; refine (check_any _ (L.length : Int) _ (edgesD L L.length) HSLE.out 30 HOK.out).mono ?_; rintro e4 w4 ⟨rfl, hx⟩; have HB5 := Lib.hid (HA.out.more hx); obtain ⟨eo5, en5, ec5, ⟨l0, l1⟩, ⟨l2, l3⟩, ⟨l4, l5⟩, l6, l7⟩ := HB5.out.cells; have HO5 := Lib.hid l7; clear hx l7))
        obtain ⟨rfl, rfl, rfl⟩ := three HF.out
        exact bodyPost_ret (v := .tuple #[.agg #[.int .i64 0, .slice none 0 0], .bool false]) (by simp [results, Tryz.results107, go_sem, l0, l1]) rfl ⟨_, rfl, Sl.empty _ _ _ (by omega) (fun _ => rfl), below_set (below_set HB5.out.ext (Nat.le_refl _) _) (Nat.le_refl _) _⟩
      · have HOK := Lib.hid (okG_chk ho)
        have HF := Lib.hid (HT.out.symm.trans (graphR_yes (by unfold graphB; rw [ho, HN.out]; rfl)))
        clear ho
        go_wp2_with (first
          | (go_at_call 145; refine (check_any _ (L.length : Int) _ (edgesD L L.length) HSLE.out 0 HOK.out).mono ?_; rintro e4 w4 ⟨rfl, hx⟩; have HB5 := Lib.hid (HA.out.more hx); obtain ⟨eo5, en5, ec5, ⟨l0, l1⟩, ⟨l2, l3⟩, ⟨l4, l5⟩, l6, l7⟩ := HB5.out.cells; have HO5 := Lib.hid l7; clear hx l7))
        obtain ⟨rfl, rfl, rfl⟩ := three HF.out
        exact bodyPost_ret (v := .tuple #[.agg #[.int .i64 (L.length : Int), .slice eo5 en5 ec5], .bool true]) (by simp [results, Tryz.results107, go_sem, l0, l1]) rfl ⟨_, rfl, (HO5.out.set (d := ⟨w.heap.size, 0, none⟩) (by show w.heap.size < _; omega) _).set (d := ⟨w.heap.size, 1, none⟩) (by show w.heap.size < _; omega) _ |>.sl, below_set (below_set HB5.out.ext (Nat.le_refl _) _) (Nat.le_refl _) _⟩
end Go.Proofs.YtfbambemjokmgaaGreat
namespace Go.Proofs.YtfbambemjokmgaaGreat
open Go.RowKit
structure TellsP (w : World) (fv : Value) (P : Int → Prop) (p : Int → Bool) : Prop where
  any : ∃ g lb, fv = .func (.func g) #[] lb ∧ (∀ args w, (callFunc g args).run Tryz.prog w = .ok (.enter g args) w) ∧ ∀ W x, Ext w W → P x → Calls Tryz.prog g (#[.int .i64 x] ++ lb) W fun e w' => e = .returned (.bool (p x)) ∧ Ext W w'
theorem TellsP.ext {w w' : World} {fv : Value} {P : Int → Prop} {p : Int → Bool} (h : TellsP w fv P p) (e : Ext w w') : TellsP w' fv P p := by
  obtain ⟨g, lb, rfl, h2, h3⟩ := h.any
  exact ⟨g, lb, rfl, h2, fun W x hW hp => h3 W x (e.trans hW) hp⟩
theorem TellsP.sh {w : World} {fv : Value} {P : Int → Prop} {p : Int → Bool} (h : TellsP w fv P p) : ∃ g lb, fv = .func (.func g) #[] lb := by
  obtain ⟨g, lb, rfl, _⟩ := h.any
  exact ⟨g, lb, rfl⟩
set_option maxHeartbeats 1000000 in
theorem indexFunc_p (w : World) (v fv : Value) (E : List Int) (P : Int → Prop) (p : Int → Bool) (h : Sl w v E) (ht : TellsP w fv P p) (hP : ∀ x ∈ E, P x) :
    Calls Tryz.prog 150 #[v, fv] w fun e w' => ∃ r : Int, e = .returned (.int .i64 r) ∧ decide (0 ≤ r) = E.any p ∧ Ext w w' := by
  obtain ⟨g, lb, rfl, eg, hp⟩ := ht.any
  have HP := Lib.hid hp
  have HQ := Lib.hid hP
  clear ht hp hP
  rcases h.ints with ⟨rfl, ao, c, rfl⟩ | ⟨b, off, c, rfl, hc, hc63, hb, hpos, hcell⟩
  · go_enter Tryz.func150, Tryz.ntmps150
    go_wp2
    refine wp_loop_rounds 1 ?_
    rw [rounds_succ]
    go_wp2
    go_ret
    exact ⟨_, rfl, rfl, Ext.refl _⟩
  · have HC := Lib.hid hcell
    clear hcell h
    go_enter Tryz.func150, Tryz.ntmps150
    go_wp2
    go_loopw [8] (fun i wr => ∃ k : Nat, k ≤ E.length ∧ i = .int .i64 k ∧ Hid ((E.take k).any p = false) ∧ Hid (Ext w wr)) (fun i _ => E.length - (intOf i).toNat)
    case atStart => exact ⟨0, Nat.zero_le _, rfl, Lib.hid rfl, Lib.hid (Ext.refl _)⟩
    case round =>
      obtain ⟨k, hk, rfl, HT, HX⟩ := hrel
      by_cases hlt : k < E.length
      · have hya := (HX.out.cell (p := ⟨b, off + k, none⟩) hb).trans (HC.out k hlt)
        obtain ⟨y, hy⟩ : ∃ y, y = E.getD k 0 := ⟨_, rfl⟩
        rw [← hy] at hya
        have HN : Hid ((E.take (k + 1)).any p = ((E.take k).any p || p y)) := Lib.hid (by rw [any_next p hlt 0, ← hy])
        have hPy : P y := HQ.out y (hy ▸ getD_mem hlt 0)
        have HH : Hid (∀ s, p y = s → Calls Tryz.prog g (#[.int .i64 y] ++ lb) wr fun e w' => e = .returned (.bool s) ∧ Ext wr w') := Lib.hid fun s hs => hs ▸ HP.out wr y HX.out hPy
        clear hy hPy
        obtain ⟨s, hs⟩ : ∃ s, p y = s := ⟨_, rfl⟩
        rw [hs] at HN
        have HS := Lib.hid hs
        clear hs
        cases s
        · go_wp2_with (go_at_fn g; refine (HH.out _ HS.out).mono ?_; rintro e w1 ⟨rfl, hx⟩; have HX1 := Lib.hid (HX.out.trans hx); clear hx)
          go_roundw
          case rel => exact ⟨k + 1, by omega, by go_num, Lib.hid (by rw [HN.out, HT.out]; rfl), HX1⟩
          case measure => simp [intOf]; omega
        · go_wp2_with (go_at_fn g; refine (HH.out _ HS.out).mono ?_; rintro e w1 ⟨rfl, hx⟩; have HX1 := Lib.hid (HX.out.trans hx); clear hx)
          go_ret
          exact ⟨_, rfl, by rw [any_of_take (HN.out.trans (by simp))]; simp, HX1.out⟩
      · have hkl : k = E.length := by omega
        go_wp2
        go_ret
        exact ⟨_, rfl, by have := HT.out; rw [hkl, List.take_length] at this; rw [this]; rfl, HX.out⟩
theorem containsFunc_p (w : World) (v fv : Value) (E : List Int) (P : Int → Prop) (p : Int → Bool) (h : Sl w v E) (ht : TellsP w fv P p) (hP : ∀ x ∈ E, P x) (t : Bool) (hr : E.any p = t) :
    Calls Tryz.prog 125 #[v, fv] w fun e w' => e = .returned (.bool t) ∧ Ext w w' := by
  subst hr
  have HS := Lib.hid h
  have HT := Lib.hid ht
  have HQ := Lib.hid hP
  clear h ht hP
  go_enter Tryz.func125, Tryz.ntmps125
  go_wp2_with (go_at_call 150; refine (indexFunc_p _ _ _ E P p HS.out HT.out HQ.out).mono ?_; rintro e w1 ⟨r, rfl, hr, hx⟩; have HR := Lib.hid hr; have HX := Lib.hid hx; clear hr hx)
  go_ret
  exact ⟨ret_bool HR.out, HX.out⟩
structure IV where
  ao : Option Addr
  n : Nat
  c : Nat
def IV.val (x : IV) : Value := .slice x.ao x.n x.c
instance : Elem IV where
  e := 26
  t := 215
  k := 1
  bytes := 24
  z := .slice none 0 0
  enc := fun x => [.slice x.ao x.n x.c]
  dflt := ⟨none, 0, 0⟩
  len := fun _ => rfl
  pos := by decide
  one := fun x u hu => by simp at hu; subst hu; rfl
  row := by kernel_rfl
  info := by kernel_rfl
  zsize := rfl
  few := by decide
theorem Sl.rowsAt {w : World} {ao : Option Addr} {n c : Nat} {xs : List IV} (h : Sl w (.slice ao n c) xs) {k : Nat} {x : IV} (hk : xs[k]? = some x) :
    ∃ b off, ao = some ⟨b, off, none⟩ ∧ n = xs.length ∧ n ≤ c ∧ c ≤ 9223372036854775807 ∧ b < w.heap.size ∧ w.cell? ⟨b, off + k, none⟩ = some (.slice x.ao x.n x.c) := by
  rcases h.parts with ⟨rfl, _⟩ | ⟨b, off, c', hv, h1, h2, h3, _, h4⟩
  · simp at hk
  · simp only [Value.slice.injEq] at hv
    obtain ⟨rfl, rfl, rfl⟩ := hv
    have := h4 k x hk 0 _ rfl
    rw [show off + (k * Elem.k IV + 0) = off + k from by show off + (k * 1 + 0) = _; omega] at this
    exact ⟨b, off, rfl, rfl, h1, h2, h3, this⟩
structure AskAt (w : World) (N : Int) (v : Value) (E : List Edge) (k : Nat) (wr : World) : Prop where
  ext : Ext w wr
  arg : wr.heap[w.heap.size]? = some (.cells #[.int .i64 N, v] 53 (0, 0))
  row : ∃ ao n c, ∃ xs : List IV, wr.heap[w.heap.size + 1]? = some (.cells #[.slice ao n c] 215 (0, 0)) ∧ Ow wr (w.heap.size + 2) (.slice ao n c) xs ∧ xs.length = k ∧
    ∀ (j : Nat) (x : IV), xs[j]? = some x → Sl wr x.val (nearOf E j) ∧ ∀ b, x.val.ownBlock = some b → w.heap.size + 2 ≤ b ∧ b < wr.heap.size ∧ (Value.slice ao n c).ownBlock ≠ some b
theorem grown_set (w : World) (d : Addr) (u : Value) : w.grownBy (w.setCell d u) (some d.block) :=
  ⟨rfl, rfl, rfl, by rw [set_size]; exact Nat.le_refl _, fun k _ hne => set_other _ _ _ _ (fun e => hne (by rw [e]))⟩
theorem AskAt.start (w : World) (N : Int) (v : Value) (E : List Edge) : AskAt w N v E 0 ((w.alloc (.cells #[.int .i64 N, v] 53)).alloc (.cells #[.slice none 0 0] 215)) := by
  obtain ⟨h1, h2⟩ := box2 (A := .cells #[.int .i64 N, v] 53) (B := .cells #[.slice none 0 0] 215) (Below.refl (w.heap.size + 2) ((w.alloc (.cells #[.int .i64 N, v] 53)).alloc (.cells #[.slice none 0 0] 215)))
  exact ⟨ext_two w _ _, h1, none, 0, 0, [], h2, Ow.nil _ _, rfl, fun j x hx => by simp at hx⟩
theorem AskAt.step {w wr w2 W2 : World} {N : Int} {v : Value} {E : List Edge} {k : Nat} {ao a2 a3 : Option Addr} {n c n2 c2 n3 c3 : Nat} {xs : List IV} (h : AskAt w N v E k wr)
    (hrow : wr.heap[w.heap.size + 1]? = some (.cells #[.slice ao n c] 215 (0, 0))) (hown : Ow wr (w.heap.size + 2) (.slice ao n c) xs) (hxl : xs.length = k)
    (hel : ∀ (j : Nat) (x : IV), xs[j]? = some x → Sl wr x.val (nearOf E j) ∧ ∀ b, x.val.ownBlock = some b → w.heap.size + 2 ≤ b ∧ b < wr.heap.size ∧ (Value.slice ao n c).ownBlock ≠ some b)
    (x2 : Ext wr w2) (o2 : Ow w2 wr.heap.size (.slice a2 n2 c2) (nearOf E k)) {A : Obj} (ho : Ow W2 (w.heap.size + 2) (.slice a3 n3 c3) (xs ++ [⟨a2, n2, c2⟩])) (ha : Apd (w.heap.size + 2) (.slice ao n c) (.slice a3 n3 c3) (w2.alloc A) W2) :
    (W2.heap[w.heap.size + 1]? = some (.cells #[.slice ao n c] 215 (0, 0))) ∧ AskAt w N v E (k + 1) (W2.setCell ⟨w.heap.size + 1, 0, none⟩ (.slice a3 n3 c3)) := by
  have hs : w.heap.size + 2 ≤ wr.heap.size := by have := blk_lt hrow; omega
  have xA : Ext wr (w2.alloc A) := x2.alloc A
  have hB : ∀ j, j < w.heap.size + 2 → W2.heap[j]? = wr.heap[j]? := fun j hj => (ha.below.block j hj).trans (xA.block j (by omega))
  have hr2 := (hB (w.heap.size + 1) (by omega)).trans hrow
  have x3 : Ext w W2 := Below.trans (h.ext.trans xA) (ha.below.mono (by omega))
  have hsz : (w2.alloc A).heap.size ≤ W2.heap.size := ha.below.size
  have hsw : wr.heap.size ≤ w2.heap.size := x2.size
  rw [size_alloc] at hsz
  refine ⟨hr2, below_set x3 (by show w.heap.size ≤ w.heap.size + 1; omega) _, (set_other _ _ _ _ (by show w.heap.size ≠ w.heap.size + 1; omega)).trans ((hB _ (by omega)).trans h.arg), a3, n3, c3, xs ++ [⟨a2, n2, c2⟩], by rw [blk_set hr2]; rfl, ho.set (by show w.heap.size + 1 < _; omega) _, by simp [hxl], fun j x hx => ?_⟩
  have old : ∀ (x : IV) (l : List Int), Sl (w2.alloc A) x.val l → (∀ b, x.val.ownBlock = some b → w.heap.size + 2 ≤ b ∧ b < w2.heap.size ∧ (Value.slice ao n c).ownBlock ≠ some b) →
      Sl (W2.setCell ⟨w.heap.size + 1, 0, none⟩ (.slice a3 n3 c3)) x.val l ∧ ∀ b, x.val.ownBlock = some b → w.heap.size + 2 ≤ b ∧ b < (W2.setCell ⟨w.heap.size + 1, 0, none⟩ (.slice a3 n3 c3)).heap.size ∧ (Value.slice a3 n3 c3).ownBlock ≠ some b := fun x l hsl hlo => by
    have s1 : Sl W2 x.val l := by
      refine hsl.grown ha.grown ?_
      cases hq : x.val.ownBlock with
      | none => cases hv : (Value.slice ao n c).ownBlock with
        | none => exact .inr rfl
        | some b => exact .inl (by simp)
      | some b => exact .inl (fun e => (hlo b hq).2.2 e.symm)
    refine ⟨s1.grown (grown_set _ _ _) (.inl fun e => ?_), fun b hb => ⟨(hlo b hb).1, by rw [set_size]; have := (hlo b hb).2.1; omega, ?_⟩⟩
    · have : w.heap.size + 2 ≤ w.heap.size + 1 := (hlo _ e).1
      omega
    · rcases ha.block with hbl | hbl
      · rw [hbl]; exact (hlo b hb).2.2
      · intro e
        have := hbl b e
        rw [size_alloc] at this
        have := (hlo b hb).2.1
        omega
  rcases Nat.lt_or_ge j xs.length with hj | hj
  · rw [List.getElem?_append_left hj] at hx
    obtain ⟨h1, h2⟩ := hel j x hx
    exact old x _ (h1.ext xA) fun b hb => ⟨(h2 b hb).1, by have := (h2 b hb).2.1; omega, (h2 b hb).2.2⟩
  · rw [List.getElem?_append_right hj] at hx
    have hj2 : j = k := by
      have := (List.getElem?_eq_some_iff.1 hx).1
      simp at this
      omega
    subst hj2
    rw [hxl, Nat.sub_self] at hx
    simp only [List.getElem?_cons_zero, Option.some.injEq] at hx
    subst hx
    refine old _ _ (o2.sl.alloc A) fun b hb => ?_
    have hl := o2.low b hb
    refine ⟨by omega, hl.2, fun e => ?_⟩
    have := (hown.low b e).2
    omega
structure Asks (w : World) (fv : Value) (N : Int) (E : List Edge) : Prop where
  any : ∃ g lb, fv = .func (.func g) #[] lb ∧ (∀ args w, (callFunc g args).run Tryz.prog w = .ok (.enter g args) w) ∧
    ∀ W (a : Int) tv p, Ext w W → 0 ≤ a → a < N → TellsP W tv (fun x => btw a x ∈ E) p → Calls Tryz.prog g (#[.int .i64 a, tv] ++ lb) W fun e w' => e = .returned (.bool ((rnear N E a).any p)) ∧ Ext W w'
theorem Asks.ext {w w' : World} {fv : Value} {N : Int} {E : List Edge} (h : Asks w fv N E) (e : Ext w w') : Asks w' fv N E := by
  obtain ⟨g, lb, rfl, h2, h3⟩ := h.any
  exact ⟨g, lb, rfl, h2, fun W a tv p hW => h3 W a tv p (e.trans hW)⟩
theorem Asks.sh {w : World} {fv : Value} {N : Int} {E : List Edge} (h : Asks w fv N E) : ∃ g lb, fv = .func (.func g) #[] lb := by
  obtain ⟨g, lb, rfl, _⟩ := h.any
  exact ⟨g, lb, rfl⟩
set_option maxHeartbeats 1000000 in
theorem AskAt.asks {w wr : World} {N : Int} {v : Value} {E : List Edge} (ok : OkG N E) (h : AskAt w N v E N.toNat wr) : Asks wr (.func (.func 183) #[] #[.pointer (some ⟨w.heap.size + 1, 0, none⟩)]) N E := by
  obtain ⟨ao, n, c, xs, hrow, hown, hxl, hel⟩ := h.row
  refine ⟨183, _, rfl, enters_of Tryz.func183 (by kernel_rfl) rfl, fun W a tv p hW h0 h1 ht => ?_⟩
  have hat : a.toNat < xs.length := by omega
  obtain ⟨x, hx⟩ : ∃ x, xs[a.toNat]? = some x := ⟨_, List.getElem?_eq_getElem hat⟩
  obtain ⟨b, off, rfl, hn, hnc, hc63, hb, hcell⟩ := hown.sl.rowsAt hx
  have hcW := (hW.cell (p := ⟨b, off + a.toNat, none⟩) hb).trans hcell
  have k0 : W.cell? ⟨w.heap.size + 1, 0, none⟩ = some (.slice (some ⟨b, off, none⟩) n c) := blk_cell ((hW.block _ (blk_lt hrow)).trans hrow) 0 rfl
  have hsl := (hel _ x hx).1.ext hW
  rw [Int.toNat_of_nonneg h0] at hsl
  have HS := Lib.hid hsl
  have HT := Lib.hid ht
  have HM : Hid (∀ y ∈ nearOf E a, btw a y ∈ E) := Lib.hid fun y hy => (mem_nearOf (fun e he => (ok.each e he).2.1)).1 hy
  have HR : Hid ((nearOf E a).any p = (rnear N E a).any p) := Lib.hid (any_mem (fun y => near_rnear ok) p)
  have han : a < (n : Int) := by omega
  obtain ⟨xa, xn, xc⟩ := x
  obtain ⟨tg, tl, rfl⟩ := ht.sh
  clear hW hel hown hrow hsl ht ok hx hcell hat hn hxl h
  change Calls Tryz.prog _ #[.int .i64 a, .func (.func tg) #[] tl, .pointer (some ⟨w.heap.size + 1, 0, none⟩)] W _
  go_enter Tryz.func183, Tryz.ntmps183
  go_wp2_with (go_at_call 125; refine (containsFunc_p _ _ _ _ _ p HS.out HT.out HM.out _ HR.out).mono ?_; rintro e w1 ⟨rfl, hx⟩; have HX := Lib.hid hx; clear hx)
  go_ret
  exact ⟨rfl, HX.out⟩
end Go.Proofs.YtfbambemjokmgaaGreat
namespace Go.Proofs.YtfbambemjokmgaaGreat
open Go.RowKit
structure Sm (L : List Dn) (M : List Ml) : Prop where
  n : L.length ≤ 100
  s : ∀ d ∈ L, d.sides.length ≤ 100
  m : M.length ≤ 1000
theorem any_not {α : Type} (p : α → Bool) : ∀ l : List α, l.any (fun x => !p x) = !l.all p
  | [] => rfl
  | x :: l => by rw [List.any_cons, List.all_cons, any_not p l]; cases p x <;> simp
theorem chk_bits (L : List Dn) (M : List Ml) : chkT L M = (graphB L && !(L.any fun d => !dnOk d) && !(M.any (strayB L))) := by
  unfold chkT
  rw [any_not]
  have h : M.any (strayB L) = M.any (fun m => !(nodeB L m.from_ && nodeB L m.to_ && !decide (m.from_ = m.to_))) := congrArg (fun f => M.any f) (funext fun m => by
    unfold strayB
    cases nodeB L m.from_ <;> cases nodeB L m.to_ <;> cases decide (m.from_ = m.to_) <;> rfl)
  rw [h, any_not]
  simp
set_option maxRecDepth 100000 in
set_option maxHeartbeats 4000000 in
theorem tCheck_any (w : World) (vd vm : Value) (L : List Dn) (M : List Ml) (h : SV w vd vm L M) (hl : Sm L M) (t : Bool) (ht : chkT L M = t) :
    Calls Tryz.prog 59 #[.agg #[vd, vm]] w fun e w' => e = .returned (.int .i64 (cond t 0 142)) ∧ Ext w w' := by
  have hmf : ∀ (fn : Fn) (first cap : Array Value) (w : World), (Instr.makeFunc fn first cap).run Tryz.prog w = .ok (.func fn first cap) w := fun _ _ _ _ => rfl
  obtain ⟨ao, c, bo, d, rfl, rfl⟩ := h.len
  obtain ⟨W1, hW1⟩ : ∃ W1, W1 = w.alloc (.cells #[.slice ao L.length c, .slice bo M.length d] 48) := ⟨_, rfl⟩
  have X0 : Hid (Ext w W1) := Lib.hid (hW1 ▸ (Ext.refl w).alloc _)
  have B1 : Hid (W1.heap[w.heap.size]? = some (.cells #[.slice ao L.length c, .slice bo M.length d] 48 (0, 0))) := Lib.hid (hW1 ▸ at0 w _)
  have HK : Hid (∀ V, Ext W1 V → V.cell? ⟨w.heap.size, 0, none⟩ = some (.slice ao L.length c) ∧ V.cell? ⟨w.heap.size, 1, none⟩ = some (.slice bo M.length d)) := Lib.hid fun V hV => cells2S (keepU B1.out hV)
  have HV := Lib.hid (h.ext X0.out)
  have HL := Lib.hid hl
  have HW1 := Lib.hid hW1
  have HT := Lib.hid ((chk_bits L M).symm.trans ht)
  obtain ⟨⟨N', E', tg⟩, hg⟩ : ∃ r, graphR L = r := ⟨_, rfl⟩
  have HGB : Hid (graphB L = tg) := Lib.hid (by
    unfold graphR at hg
    split at hg
    · next q => rw [q]; exact (three hg).2.2
    · next q => rw [Bool.not_eq_true] at q; rw [q]; exact (three hg).2.2)
  have HG := Lib.hid hg
  obtain ⟨n1, hn1⟩ : ∃ t, (L.any fun d => !dnOk d) = t := ⟨_, rfl⟩
  obtain ⟨n2, hn2⟩ : ∃ t, M.any (strayB L) = t := ⟨_, rfl⟩
  have HN1 := Lib.hid hn1
  have HN2 := Lib.hid hn2
  have HR : Hid (t = (tg && !n1 && !n2)) := Lib.hid (by rw [← HT.out, HGB.out, hn1, hn2])
  obtain ⟨k0, k1⟩ := HK.out W1 (Ext.refl _)
  clear h hl ht hW1 hg hn1 hn2
  go_enter Tryz.func59, Tryz.ntmps59
  go_upto_region 3 with (fail)
  rw [← HW1.out]
  go_upto_region 4 with (first
    | (go_at_call 107; refine (pGraph_any W1 _ L HV.out.ds HL.out.n HL.out.s N' E' tg HG.out).mono ?_; rintro e w1 ⟨gv, rfl, hs, hx⟩; obtain ⟨ga, gc, rfl⟩ := hs.len; have X1 := Lib.hid hx; clear hs hx))
  obtain ⟨W2, hW2⟩ : ∃ W2, W2 = w1.alloc (.cells #[.int .i64 N', .slice ga E'.length gc] 53) := ⟨_, rfl⟩
  have X2 : Hid (Ext W1 W2) := Lib.hid (hW2 ▸ X1.out.alloc _)
  obtain ⟨j0, j1⟩ := HK.out W2 X2.out
  (try rw [← hW2])
  clear hW2 k0 k1
  cases tg
  · go_wp2
    go_ret
    exact ⟨by rw [HR.out]; rfl, X0.out.trans X2.out⟩
  cases n1
  · cases n2
    all_goals
      go_wp2_with (first
        | (go_at_call 108; refine (containsFunc_dn W2 _ L 104 #[] (fun d => !dnOk d) (enters_of Tryz.func104 (by kernel_rfl) rfl) (HV.out.ds.ext X2.out) (fun id ph u S W _ _ hu => spoilt_one W id ph u S hu _ rfl) _ HN1.out).mono ?_; rintro e w3 ⟨rfl, hx⟩; have X3 := Lib.hid (X2.out.trans hx); obtain ⟨i0, i1⟩ := HK.out w3 X3.out; clear hx)
        | (go_at_call 109; refine (containsFunc_ml w3 _ M 105 #[.pointer (some ⟨w.heap.size, 0, none⟩)] (strayB L) (enters_of Tryz.func105 (by kernel_rfl) rfl) (HV.out.ms.ext X3.out) (fun m W _ hW => strays_one W w.heap.size _ _ L M (HV.out.ext (X3.out.trans hW)) (keepU B1.out (X3.out.trans hW)) m _ rfl) _ HN2.out).mono ?_; rintro e w4 ⟨rfl, hx⟩; have X4 := Lib.hid (X3.out.trans hx); clear hx))
      go_ret
      exact ⟨by rw [HR.out]; rfl, X0.out.trans X4.out⟩
  · go_wp2_with (first
      | (go_at_call 108; refine (containsFunc_dn W2 _ L 104 #[] (fun d => !dnOk d) (enters_of Tryz.func104 (by kernel_rfl) rfl) (HV.out.ds.ext X2.out) (fun id ph u S W _ _ hu => spoilt_one W id ph u S hu _ rfl) _ HN1.out).mono ?_; rintro e w3 ⟨rfl, hx⟩; have X3 := Lib.hid (X2.out.trans hx); clear hx))
    go_ret
    exact ⟨by rw [HR.out]; rfl, X0.out.trans X3.out⟩
end Go.Proofs.YtfbambemjokmgaaGreat
namespace Go.Proofs.YtfbambemjokmgaaGreat
open Go.RowKit
theorem things_le (L : List Sd) : things L ≤ 4 * L.length := by
  unfold things
  induction L with
  | nil => simp
  | cons s L ih =>
    rw [List.map_cons, List.sum_cons, List.length_cons]
    have : thing s ≤ 4 := by unfold thing; cases s.fork <;> cases s.token <;> cases s.bottle <;> cases s.ask <;> decide
    omega
structure AlongK (d0 d : Dk) (M : List Ml) : Prop where
  all : fireAll d0 = ((fireAll d).1, M ++ (fireAll d).2)
  len : d.sides.length = d0.sides.length
  need : d.need = d0.need
theorem AlongK.start (d : Dk) : AlongK d d [] := ⟨rfl, rfl, rfl⟩
theorem AlongK.next {d0 d : Dk} {M : List Ml} (h : AlongK d0 d M) (hn : (onceK d).1 ≠ d) : AlongK d0 (onceK d).1 (M ++ (onceK d).2) :=
  ⟨by rw [h.all, fireAll_on hn, List.append_assoc], (once_len d).trans h.len, h.need⟩
theorem AlongK.ends {d0 d : Dk} {M : List Ml} (h : AlongK d0 d M) (he : (onceK d).1 = d) : fireAll d0 = (d, M) ∧ (onceK d).2 = [] := by
  have := h.all
  rw [fireAll_end he] at this
  exact ⟨by rw [this, List.append_nil], once_nil he⟩
theorem AlongK.few {d0 d : Dk} {M : List Ml} (h : AlongK d0 d M) : M.length + (onceK d).2.length ≤ 8 * d0.sides.length := by
  have h1 := fireAll_things (n := leftK d0 + 1) (d := d0) (Nat.lt_succ_self _)
  have h2 := once_things d
  have h3 := things_le d0.sides
  have h4 := things_le d.sides
  rw [h.all] at h1
  dsimp only at h1
  rw [List.length_append] at h1
  have := h.len
  omega
theorem OnceAt.swap {w W W2 W' : World} {id ph th id2 ph2 th2 : Int} {nv vk v2 vo : Value} {S S2 : List Sd} {M : List Ml} (h : OnceAt w id ph th nv vk S vo M W) (x : Ext W W2) (hs : Sl W2 v2 S2) (hv : S2 = [] ∨ ∀ b, v2.ownBlock = some b → W.heap.size ≤ b)
    (hb : W'.heap[w.heap.size]? = some (.cells #[.int .i64 id2, .int .i64 ph2, v2, .int .i64 th2, nv] 63 (0, 0))) (o : Off (fun k => k = w.heap.size) W2 W') : OnceAt w id2 ph2 th2 nv v2 S2 vo M W' := by
  have h2 := h.ext' x
  have z := blk_lt h.rbox
  have z2 := Below.size x
  refine ⟨ext_off h2.ext o (fun k hk => by omega), hb, (o.block _ (blk_lt h2.rbox) (by omega)).trans h2.rbox, ?_, ?_, owU h2.out fun b hb2 => o.block b (h2.out.low b hb2).2 (by have := (h2.out.low b hb2).1; omega)⟩
  · exact hs.off (hv.imp (fun h => h) fun h b hb hf => by have := h b hb; omega) o
  · refine hv.imp (fun q => q) fun q b hb2 hf => ?_
    have h1 := q b hb2
    rcases hf with e | e | e
    · omega
    · omega
    · have := (h.out.low b e).2; omega
theorem OnceAt.swap2 {w W W2 W' : World} {id ph th id2 ph2 th2 : Int} {nv vk v2 vo : Value} {S S2 : List Sd} {M : List Ml} (h : OnceAt w id ph th nv vk S vo M W) (x : Ext W W2) (hs : Sl W2 v2 S2) (hv : S2 = [] ∨ ∀ b, v2.ownBlock = some b → w.heap.size + 2 ≤ b ∧ vo.ownBlock ≠ some b)
    (hb : W'.heap[w.heap.size]? = some (.cells #[.int .i64 id2, .int .i64 ph2, v2, .int .i64 th2, nv] 63 (0, 0))) (o : Off (fun k => k = w.heap.size) W2 W') : OnceAt w id2 ph2 th2 nv v2 S2 vo M W' := by
  have h2 := h.ext' x
  have z2 := Below.size x
  refine ⟨ext_off h2.ext o (fun k hk => by omega), hb, (o.block _ (blk_lt h2.rbox) (by omega)).trans h2.rbox, ?_, ?_, owU h2.out fun b hb2 => o.block b (h2.out.low b hb2).2 (by have := (h2.out.low b hb2).1; omega)⟩
  · exact hs.off (hv.imp (fun h => h) fun h b hb hf => by have := h b hb; omega) o
  · refine hv.imp (fun q => q) fun q b hb2 hf => ?_
    have h1 := q b hb2
    rcases hf with e | e | e
    · omega
    · omega
    · exact h1.2 e
theorem newApart {S : List Sd} {v vo vo' : Value} {n m k : Nat} (h1 : S = [] ∨ ∀ b, v.ownBlock = some b → n ≤ b) (h2 : S = [] ∨ ∀ b, v.ownBlock = some b → b < m) (hk : k ≤ n) (h3 : ∀ b, vo.ownBlock = some b → b < n)
    (h4 : vo'.ownBlock = vo.ownBlock ∨ ∀ b, vo'.ownBlock = some b → m ≤ b) : S = [] ∨ ∀ b, v.ownBlock = some b → k ≤ b ∧ vo'.ownBlock ≠ some b := by
  rcases h1 with e | h1
  · exact .inl e
  rcases h2 with e | h2
  · exact .inl e
  refine .inr fun b hb => ⟨by have := h1 b hb; omega, fun e => ?_⟩
  have := h1 b hb
  have := h2 b hb
  rcases h4 with h4 | h4
  · rw [h4] at e; have := h3 b e; omega
  · have := h4 b e; omega
end Go.Proofs.YtfbambemjokmgaaGreat
namespace Go.Proofs.YtfbambemjokmgaaGreat
open Go.RowKit
def bw0 : List Dk := [⟨0, 0, [⟨1, 1, 0, true, true, false, true, false⟩], 0, []⟩, ⟨1, 0, [⟨0, 1, 0, false, false, true, false, true⟩], 0, []⟩]
def bw1 : List Dk × List Ml := (stepBB bw0 [] 0 0 0 []).1
def bw2 : List Dk × List Ml := (stepBB bw1.1 bw1.2 0 1 0 []).1
def bw3 : List Dk × List Ml := (stepBB bw0 [] 0 0 0 [1]).1
def bw4 : List Dk × List Ml := (stepBB bw2.1 bw2.2 1 0 0 []).1
theorem bw_new : firstB (tableL 2 awE (itr 2 awE 2)) = bw0 := by rw [aw_new]; rfl
theorem pair_eq {α : Type} {p : α × Int} {n : Int} (h : p.2 = n) : p = (p.1, n) := by rw [← h]
theorem bw_1 : stepBB bw0 [] 0 0 0 [] = (bw1, 0) := pair_eq (by decide +kernel)
theorem bw_2 : stepBB bw1.1 bw1.2 0 1 0 [] = (bw2, 0) := pair_eq (by decide +kernel)
theorem bw_3 : stepBB bw0 [] 0 0 0 [1] = (bw3, 0) := pair_eq (by decide +kernel)
theorem bw_4 : stepBB bw2.1 bw2.2 1 0 0 [] = (bw4, 0) := pair_eq (by decide +kernel)
theorem bw_5 : stepBB bw0 [] 2 0 1 [] = (noB, 162) := by decide +kernel
theorem bw_w2 : whoK bw2.1 2 = [0, 1] := by decide +kernel
theorem bw_w3 : whoK bw3.1 0 = [1] := by decide +kernel
theorem bw_w4 : whoK bw4.1 2 = [1] := by decide +kernel
theorem bw_k : chkB bw0 [] = true := by decide +kernel
theorem bw_c : cntB ⟨1, 1, 0, true, true, false, true, false⟩ ⟨0, 1, 0, false, false, true, false, true⟩ [] 0 1 3 = 1 := by decide +kernel
theorem bw_s : (decide (bw0 = bw2.1) && decide (([] : List Ml) = bw2.2)) = false := by decide +kernel
def smB (L : List Dk) (M : List Ml) : Bool := decide (L.length ≤ 100) && L.all (fun d => decide (d.sides.length ≤ 100) && decide (d.need.length ≤ 100)) && decide (M.length ≤ 1000)
theorem SmB.of {L : List Dk} {M : List Ml} (h : smB L M = true) : SmB L M := by
  unfold smB at h
  simp only [Bool.and_eq_true, decide_eq_true_eq, List.all_eq_true] at h
  exact ⟨h.1.1, fun d hd => (h.1.2 d hd).1, fun d hd => (h.1.2 d hd).2, h.2⟩
theorem field_scene (a : Option Addr) (n c : Nat) (u : Value) (w : World) : (Instr.field 48 (.agg #[.slice a n c, u]) 0).run Tryz.prog w = .ok (.slice a n c) w := by kernel_rfl
theorem bw_s0 : SmB bw0 [] := .of (by decide +kernel)
theorem bw_s1 : SmB bw1.1 bw1.2 := .of (by decide +kernel)
theorem bw_s2 : SmB bw2.1 bw2.2 := .of (by decide +kernel)
theorem bw_s3 : SmB bw3.1 bw3.2 := .of (by decide +kernel)
theorem bw_s4 : SmB bw4.1 bw4.2 := .of (by decide +kernel)
end Go.Proofs.YtfbambemjokmgaaGreat
