/- Layer 12: what the program's functions answer. -/
import Derived.Test.YtdfleocknaackaaGreatMPM
import Derived.Test.YtdfleocknaackaaGreatMRW
import Derived.Test.YtdfleocknaackaaGreatMPS
import Derived.Test.YtdfleocknaackaaGreatMG
namespace Go.Proofs.YtdfleocknaackaaGreat
open Go.RowKit

def placeR (N : Int) (E : List Edge) (c : List Int) : Int := if okG N E = true then (if rightB N E c = true then 0 else 120) else 30
/-- nodes and what is wrong come out -/
def GivesN (w : World) (L : List Dn) (r : Int) (e : Ending) (w' : World) : Prop := ∃ v, e = .returned (.tuple #[v, .int .i64 r]) ∧ Ns DV Non w' v L ∧ Ext w w'
/-- a graph, and whether it is one, come out -/
def GivesGr (w : World) (N : Int) (E : List Edge) (t : Bool) (e : Ending) (w' : World) : Prop := ∃ gv, e = .returned (.tuple #[.agg #[.int .i64 N, gv], .bool t]) ∧ Sl w' gv E ∧ Ext w w'
/-- arcs come out -/
def GivesA (w : World) (A : List Arc) (e : Ending) (w' : World) : Prop := ∃ v, e = .returned v ∧ Sl w' v A ∧ Ext w w'

end Go.Proofs.YtdfleocknaackaaGreat

/- Layer 12, the program: the graph that nodes are of. -/
namespace Go.Proofs.YtdfleocknaackaaGreat
open Go.RowKit

theorem keepG {w W : World} {g : Nat} {o : Obj} (h : w.heap[g]? = some o) (e : Ext w W) : W.heap[g]? = some o := (e.block _ (blk_lt h)).trans h
theorem okG_few {N : Int} {E : List Edge} (h : okG N E = true) : N ≤ 64 := by
  unfold okG at h
  simp only [Bool.and_eq_true, decide_eq_true_eq] at h
  omega
theorem okG_chk {N : Int} {E : List Edge} {b : Bool} (h : okG N E = b) : chk N E = if b = true then 0 else 30 := by unfold chk; rw [h]

set_option maxRecDepth 100000 in
set_option maxHeartbeats 4000000 in
theorem pFits_any (w : World) (v : Value) (L : List Dn) (k : Nat) (d : Dn) (h : Ns DV Non w v L) (hd : L[k]? = some d) (t : Bool) (ht : (sidesOk L k (-1) d.sides && decide (d.id = k)) = t) :
    Calls Tryz.prog 42 #[v, .int .i64 k] w fun e w' => e = .returned (.bool t) ∧ Ext w w' := by
  have hk : k < L.length := (List.getElem?_eq_some_iff.1 hd).1
  obtain ⟨ao, c, rfl⟩ := h.len
  have HS := Lib.hid h
  have HT := Lib.hid ht
  obtain ⟨b1, o1, so, sc, d', hdk, rfl, hn, hnc, hc63, hb, hsl, hcell⟩ := h.dinerAt hk
  obtain rfl : d = d' := by have := hd.symm.trans hdk; simpa using this
  have HC : Hid (∀ V, Ext w V → V.cell? ⟨b1, o1 + k * 3, none⟩ = some (.int .i64 d.id) ∧ V.cell? ⟨b1, o1 + k * 3 + 1, none⟩ = some (.int .i64 d.phase) ∧ V.cell? ⟨b1, o1 + k * 3 + 2, none⟩ = some (.slice so d.sides.length sc)) := Lib.hid hcell
  have HSD := Lib.hid hsl.sl
  have hdl := hsl.sl.length_le
  obtain ⟨a0, a1, a2⟩ := hcell w (Ext.refl _)
  clear h ht hd hdk hn hsl hcell a0 a1
  go_enter Tryz.func42, Tryz.ntmps42
  go_wp2
  go_loopw [5, 16] (fun la i wr => ∃ j : Nat, j ≤ d.sides.length ∧ i = .int .i64 j ∧ la = .int .i64 (lastP (-1) (d.sides.take j)) ∧ Hid (sidesOk L k (-1) (d.sides.take j) = true) ∧ Hid (Ext w wr)) (fun _ i _ => d.sides.length - (intOf i).toNat)
  case atStart => exact ⟨0, Nat.zero_le _, rfl, rfl, Lib.hid rfl, Lib.hid (Ext.refl _)⟩
  case round =>
    obtain ⟨j, hj, rfl, rfl, HQ, HX⟩ := hrel
    by_cases hlt2 : j < d.sides.length
    · obtain ⟨b2, o2, s, hsy, hsj, rfl, hn2, hnc2, hc632, hb2, hcs⟩ := HSD.out.sidesAt hlt2
      obtain ⟨⟨⟨x0, x1⟩, x2, x3⟩, ⟨x4, x5⟩, x6, x7⟩ := hcs wr HX.out
      have htk : d.sides.take (j + 1) = d.sides.take j ++ [s] := by rw [List.take_succ_eq_append_getElem hlt2, (List.getElem?_eq_some_iff.1 hsj).2]
      have HOK1 : Hid (sidesOk L k (-1) (d.sides.take (j + 1)) = sideOk L k (lastP (-1) (d.sides.take j)) s) := Lib.hid (by rw [htk, sidesOk_app, HQ.out, Bool.true_and])
      have HLP : Hid (lastP (-1) (d.sides.take (j + 1)) = s.peer) := Lib.hid (by rw [htk, lastP_app])
      have HBAD0 : Hid (sidesOk L k (-1) (d.sides.take (j + 1)) = false → false = t) := Lib.hid fun e => by
        have := sidesOk_pre L k _ (d.sides.drop (j + 1)) (-1) e
        rw [List.take_append_drop] at this
        rw [← HT.out, this]; rfl
      have hl1 : -1 ≤ lastP (-1) (d.sides.take j) := lastP_low L k _ _ HQ.out
      obtain ⟨la, hla⟩ : ∃ la, la = lastP (-1) (d.sides.take j) := ⟨_, rfl⟩
      rw [← hla] at HOK1 hl1 ⊢
      obtain ⟨W1, hW1⟩ : ∃ W1, W1 = wr.alloc (.cells s.cs 52) := ⟨_, rfl⟩
      have X1 : Hid (Ext w W1) := Lib.hid (hW1 ▸ HX.out.alloc _)
      have D1 : Hid (W1.heap[wr.heap.size]? = some (.cells s.cs 52 (0, 0))) := Lib.hid (hW1 ▸ at0 wr _)
      have HW1 := Lib.hid hW1
      have p0 : W1.cell? ⟨wr.heap.size, 0, none⟩ = some (.int .i64 s.peer) := blk_cell D1.out 0 rfl
      clear hla htk hsy hsj hcs hn2 hW1
      obtain ⟨y0, y1, y2, y3, y4, y5, y6, y7⟩ := s
      dsimp only at x0 x1 x2 x3 x4 x5 x6 x7 HLP p0
      dsimp only [Sd.cs] at HW1 D1
      go_upto_region 5 with (fail)
      rw [← HW1.out]
      clear x0 x1 x2 x3 x4 x5 x6 x7
      by_cases h1 : y0 ≤ la
      · have HF : Hid (false = t) := Lib.hid (HBAD0.out (HOK1.out.trans (by unfold sideOk; rw [decide_eq_false (show ¬ la < y0 by omega)]; rfl)))
        go_wp2
        go_ret
        exact ⟨ret_bool HF.out, X1.out⟩
      by_cases h2 : (L.length : Int) ≤ y0
      · have HF : Hid (false = t) := Lib.hid (HBAD0.out (HOK1.out.trans (by unfold sideOk; rw [decide_eq_false (show ¬ y0 < (L.length : Int) by omega)]; simp)))
        go_wp2
        go_ret
        exact ⟨ret_bool HF.out, X1.out⟩
      by_cases h3 : y0 = (k : Int)
      · have HF : Hid (false = t) := Lib.hid (HBAD0.out (HOK1.out.trans (by unfold sideOk; simp [h3])))
        have e3 : (y0 == (k : Int)) = true := by simp [h3]
        clear h3
        go_wp2
        go_ret
        exact ⟨ret_bool HF.out, X1.out⟩
      obtain ⟨pn, rfl⟩ : ∃ pn : Nat, y0 = (pn : Int) := ⟨y0.toNat, by omega⟩
      have hpn : pn < L.length := by omega
      have e3 : ((pn : Int) == (k : Int)) = false := by simp; omega
      obtain ⟨b3, o3, so3, sc3, f, hfk, hao, hn3, hnc3, hc633, hb3, hsl3, hcell3⟩ := HS.out.dinerAt hpn
      simp only [Option.some.injEq, Addr.mk.injEq, and_true] at hao
      obtain ⟨rfl, rfl⟩ := hao
      obtain ⟨z0, z1, z2⟩ := hcell3 W1 X1.out
      have HSE := Lib.hid hsl3.sl
      obtain ⟨⟨x, xb⟩, hxs⟩ : ∃ q, sideR f.sides (k : Int) = q := ⟨_, rfl⟩
      have HXS := Lib.hid hxs
      have HOK2 : Hid (sidesOk L k (-1) (d.sides.take (j + 1)) = xb) := Lib.hid (HOK1.out.trans (by
        unfold sideOk
        dsimp only
        rw [decide_eq_true (show la < (pn : Int) by omega), decide_eq_true (show (pn : Int) < (L.length : Int) by omega), decide_eq_true (show (pn : Int) ≠ (k : Int) from h3), Int.toNat_natCast, List.getD_eq_getElem?_getD, hfk]
        show (true && (true && (true && (sideR f.sides (k : Int)).2))) = xb
        rw [hxs]; rfl))
      clear hcell3 hfk hn3 hsl3 hxs h3 HOK1
      obtain ⟨f0, f1, f2⟩ := f
      obtain ⟨x0, x1, x2, x3, x4, x5, x6, x7⟩ := x
      dsimp only at z0 z1 z2 HSE HXS
      cases xb
      · have HF : Hid (false = t) := Lib.hid (HBAD0.out HOK2.out)
        go_wp2_with (first
          | (go_at_call 37; refine (pSide_any _ f0 f1 _ f2 k (HSE.out.ext X1.out) _ _ HXS.out).mono ?_; rintro e4 w4 ⟨rfl, hx⟩; dsimp only [Sd.cs]; have X4 := Lib.hid (X1.out.trans hx); clear hx))
        go_ret
        exact ⟨ret_bool HF.out, X4.out.alloc _⟩
      · go_wp2_with (first
          | (go_at_call 37; refine (pSide_any _ f0 f1 _ f2 k (HSE.out.ext X1.out) _ _ HXS.out).mono ?_; rintro e4 w4 ⟨rfl, hx⟩; dsimp only [Sd.cs]; have X4 := Lib.hid (X1.out.trans hx); have p4 : (w4.alloc (.cells #[.int .i64 x0, .int .i64 x1, .int .i64 x2, .bool x3, .bool x4, .bool x5, .bool x6, .bool x7] 52)).cell? ⟨wr.heap.size, 0, none⟩ = some (.int .i64 pn) := blk_cell (keepG D1.out (hx.alloc (.cells #[.int .i64 x0, .int .i64 x1, .int .i64 x2, .bool x3, .bool x4, .bool x5, .bool x6, .bool x7] 52))) 0 rfl; clear hx))
        go_roundw
        case rel => exact ⟨j + 1, by omega, by go_num, by rw [HLP.out], HOK2, Lib.hid (X4.out.alloc _)⟩
        case measure => simp [intOf]; omega
    · have hjl : j = d.sides.length := by omega
      have hq := HQ.out
      rw [hjl, List.take_length] at hq
      obtain ⟨a0, a1, a2⟩ := HC.out wr HX.out
      have HF : Hid (decide (d.id = (k : Int)) = t) := Lib.hid (by rw [← HT.out, hq, Bool.true_and])
      obtain ⟨s, hs⟩ : ∃ s, (d.id == (k : Int)) = s := ⟨_, rfl⟩
      have HG : Hid (s = t) := Lib.hid (by rw [← HF.out, ← hs]; rfl)
      clear hq HQ hjl a1 a2
      go_wp2
      go_ret
      exact ⟨ret_bool HG.out, HX.out⟩

set_option maxRecDepth 100000 in
set_option maxHeartbeats 4000000 in
theorem pGraph_any (w : World) (v : Value) (L : List Dn) (h : Ns DV Non w v L) (hl : L.length ≤ 100) (hls : ∀ d ∈ L, d.sides.length ≤ 100) (N' : Int) (E' : List Edge) (t : Bool) (ht : graphR L = (N', E', t)) :
    Calls Tryz.prog 14 #[v] w (GivesGr w N' E' t) := by
  obtain ⟨ao, c, rfl⟩ := h.len
  have HS := Lib.hid h
  have HT := Lib.hid ht
  have HLS := Lib.hid hls
  have HEL : Hid (∀ k, k ≤ L.length → (edgesD L k).length ≤ 100 * k) := Lib.hid fun k => by
    induction k with
    | zero => intro _; simp [edgesD]
    | succ k ih =>
      intro hk
      rw [edgesD_next, List.length_append]
      have h1 := edgesS_len k (L.getD k ⟨0, 0, []⟩).sides
      have h2 := hls _ (getD_mem (show k < L.length by omega) ⟨0, 0, []⟩)
      have := ih (by omega)
      omega
  clear h ht hls
  go_enter Tryz.func14, Tryz.ntmps14
  by_cases h64 : (64 : Int) < (L.length : Int)
  · have HF := Lib.hid (HT.out.symm.trans (graphR_no (by
      unfold graphB
      cases ho : okG (L.length : Int) (edgesD L L.length) with
      | false => rw [Bool.and_false]
      | true => have := okG_few ho; omega)))
    go_wp2
    obtain ⟨rfl, rfl, rfl⟩ := three HF.out
    exact bodyPost_ret (v := .tuple #[.agg #[.int .i64 0, .slice none 0 0], .bool false]) (by simp [results, Tryz.results14, go_sem]) rfl ⟨_, rfl, Sl.empty _ _ _ (by omega) (fun _ => rfl), (by repeat (first | exact Ext.refl _ | assumption | refine Ext.alloc ?_ _ | refine Ext.drew ?_ | refine Ext.drewN ?_ _))⟩
  go_wp2
  go_loopw [18] (fun i wr => ∃ k : Nat, k ≤ L.length ∧ i = .int .i64 k ∧ Hid (nodesOk L k = true) ∧ Hid (GrAt w L.length (edgesD L k) wr)) (fun i _ => L.length - (intOf i).toNat)
  case atStart => exact ⟨0, Nat.zero_le _, rfl, Lib.hid rfl, Lib.hid (GrAt.start w _)⟩
  case round =>
    obtain ⟨k, hk, rfl, HN, HA⟩ := hrel
    obtain ⟨eo, en, ec, ⟨r0, r1⟩, ⟨u0, u1⟩, ⟨s0, s1⟩, u3, hown⟩ := HA.out.cells
    by_cases hlt : k < L.length
    · obtain ⟨b1, o1, so, sc, d, hdk, rfl, hn, hnc, hc63, hb, hsl, hcell⟩ := HS.out.dinerAt hlt
      have hdd : L.getD k ⟨0, 0, []⟩ = d := by rw [List.getD_eq_getElem?_getD, hdk]; rfl
      have HDK := Lib.hid hdk
      have HNX := Lib.hid (nodesOk_next L k)
      have HEX := Lib.hid (edgesD_next L k)
      have HNO := Lib.hid (fun e => nodesOk_no (L := L) hlt e)
      rw [hdd] at HNX HEX HNO
      have hdl : d.sides.length ≤ 100 := HLS.out d (List.mem_of_getElem? hdk)
      have HSD := Lib.hid hsl.sl
      obtain ⟨a0, a1, a2⟩ := hcell wr HA.out.ext
      have HA1 := Lib.hid (HA.out.more ((Ext.refl _).alloc (.cells #[.int .i64 d.id, .int .i64 d.phase, .slice so d.sides.length sc] 49)))
      have HDB := Lib.hid (at0 wr (.cells #[.int .i64 d.id, .int .i64 d.phase, .slice so d.sides.length sc] 49))
      obtain ⟨ok, hok⟩ : ∃ ok, (sidesOk L k (-1) d.sides && decide (d.id = (k : Int))) = ok := ⟨_, rfl⟩
      have HOK := Lib.hid hok
      clear hcell hdd hn hsl hdk hown hok
      cases ok
      · have HF := Lib.hid (HT.out.symm.trans (graphR_no (by unfold graphB; rw [HNO.out (by rw [Bool.and_comm]; exact HOK.out)]; rfl)))
        go_wp2_with (first
          | (go_at_call 42; refine (pFits_any _ _ L k d (HS.out.ext HA1.out.ext) HDK.out _ HOK.out).mono ?_; rintro e2 w2 ⟨rfl, hx⟩; have HB5 := Lib.hid (HA1.out.more hx); obtain ⟨eo5, en5, ec5, ⟨l0, l1⟩, ⟨l2, l3⟩, ⟨l4, l5⟩, l6, l7⟩ := HB5.out.cells; clear hx l7))
        obtain ⟨rfl, rfl, rfl⟩ := three HF.out
        exact bodyPost_ret (v := .tuple #[.agg #[.int .i64 0, .slice none 0 0], .bool false]) (by simp [results, Tryz.results14, go_sem, l0, l1]) rfl ⟨_, rfl, Sl.empty _ _ _ (by omega) (fun _ => rfl), below_set (below_set HB5.out.ext (Nat.le_refl _) _) (Nat.le_refl _) _⟩
      · have hsd : sidesOk L k (-1) d.sides = true ∧ decide (d.id = (k : Int)) = true := by have := HOK.out; rwa [Bool.and_eq_true] at this
        have HNX2 : Hid (nodesOk L (k + 1) = true) := Lib.hid (HNX.out.trans (by rw [HN.out, hsd.1, hsd.2]; rfl))
        clear hsd
        go_wp2_with (first
          | (go_at_call 42; refine (pFits_any _ _ L k d (HS.out.ext HA1.out.ext) HDK.out _ HOK.out).mono ?_; rintro e2 w2 ⟨rfl, hx⟩; have HB1 := Lib.hid (HA1.out.more hx); have d2 := blk_cell (keepG HDB.out hx) 2 rfl; clear hx))
        go_loopw [31] (fun i wr => ∃ j : Nat, j ≤ d.sides.length ∧ i = .int .i64 j ∧ Hid (GrAt w L.length (edgesD L k ++ edgesS k (d.sides.take j)) wr)) (fun i _ => d.sides.length - (intOf i).toNat)
        case atStart => exact ⟨0, Nat.zero_le _, rfl, Lib.hid (by rw [List.take_zero]; show GrAt w L.length (edgesD L k ++ []) _; rw [List.append_nil]; exact HB1.out)⟩
        case round =>
          obtain ⟨j, hj, rfl, HB⟩ := hrel
          by_cases hlt2 : j < d.sides.length
          · obtain ⟨b2, o2, s, hsy, hsj, rfl, hn2, hnc2, hc632, hb2, hcs⟩ := HSD.out.sidesAt hlt2
            obtain ⟨⟨⟨x0, x1⟩, x2, x3⟩, ⟨x4, x5⟩, x6, x7⟩ := hcs wr HB.out.ext
            have htk : d.sides.take (j + 1) = d.sides.take j ++ [s] := by rw [List.take_succ_eq_append_getElem hlt2, (List.getElem?_eq_some_iff.1 hsj).2]
            have HEP : Hid (edgesS k (d.sides.take (j + 1)) = edgesS k (d.sides.take j) ++ (if decide ((k : Int) < s.peer) = true then [⟨k, s.peer⟩] else [])) := Lib.hid (by rw [htk, edgesS_app])
            obtain ⟨S, hS⟩ : ∃ S, S = edgesD L k ++ edgesS k (d.sides.take j) := ⟨_, rfl⟩
            have hSl : S.length ≤ 20000 := by
              rw [hS, List.length_append]
              have q1 := HEL.out k hk
              have q2 := edgesS_len k (d.sides.take j)
              rw [List.length_take] at q2
              omega
            rw [← hS] at HB
            have HEP2 : Hid (edgesD L k ++ edgesS k (d.sides.take (j + 1)) = S ++ (if decide ((k : Int) < s.peer) = true then [⟨k, s.peer⟩] else [])) := Lib.hid (by rw [HEP.out, hS, List.append_assoc])
            obtain ⟨W1, hW1⟩ : ∃ W1, W1 = wr.alloc (.cells s.cs 52) := ⟨_, rfl⟩
            have HB2 := Lib.hid (HB.out.more (show Ext wr W1 from hW1 ▸ (Ext.refl _).alloc _))
            have D1 : Hid (W1.heap[wr.heap.size]? = some (.cells s.cs 52 (0, 0))) := Lib.hid (hW1 ▸ at0 wr _)
            have HW1 := Lib.hid hW1
            have p0 : W1.cell? ⟨wr.heap.size, 0, none⟩ = some (.int .i64 s.peer) := blk_cell D1.out 0 rfl
            clear htk hsy hsj hcs hn2 hS HEP hW1
            obtain ⟨y0, y1, y2, y3, y4, y5, y6, y7⟩ := s
            dsimp only at x0 x1 x2 x3 x4 x5 x6 x7 HEP2 p0
            dsimp only [Sd.cs] at HW1 D1
            go_upto_region 12 with (fail)
            rw [← HW1.out]
            clear x0 x1 x2 x3 x4 x5 x6 x7
            obtain ⟨eo5, en5, ec5, ⟨l0, l1⟩, ⟨l2, l3⟩, ⟨l4, l5⟩, l6, l7⟩ := HB2.out.cells
            have HO5 := Lib.hid l7
            clear l7
            by_cases hkp : (k : Int) < y0
            · have HEP3 : Hid (edgesD L k ++ edgesS k (d.sides.take (j + 1)) = S ++ [⟨k, y0⟩]) := Lib.hid (HEP2.out.trans (by rw [if_pos (decide_eq_true hkp)]))
              go_wp2_with (first
                | (at_builtin; refine wpList_append_sl (α := Edge) rfl (.tmp 40) (.tmp 45) rfl (w.heap.size + 2) _ S rfl ?_ (.slice (some ⟨_, 0, none⟩) 1 1) [(⟨(k : Int), y0⟩ : Edge)] rfl ?_ ?_ ?_ ?_; exact (HO5.out.alloc _); exact (Sl.litAt _ _ (by simp) [(⟨(k : Int), y0⟩ : Edge)] (show (1 : Nat) ≤ 1000000 by decide)); (first | omega | (simp; omega)); exact (by rw [size_alloc]; have q1 := blk_lt HB2.out.res; obtain ⟨_, _, _, q2, _⟩ := HB2.out.blk; have q3 := blk_lt q2; omega); intro v6 W6 ho6 ha6; obtain ⟨a6, n6, c6, rfl⟩ := ho6.sh; have HB6 := Lib.hid (HB2.out.more ((Ext.refl _).alloc (.cells #[.int .i64 (k : Int), .int .i64 y0] 36))); obtain ⟨eo6, en6, ec6, q1, q2⟩ := HB6.out.blk; have q3 := (ha6.below.block _ (by omega)).trans q1; have m0 := blk_cell q3 1 rfl; have m1 := blk_free q3 1; have HST := Lib.hid (HB6.out.step ha6.below ho6); clear ho6 ha6 q1 q2 q3))
              go_roundw
              case rel => exact ⟨j + 1, by omega, by go_num, Lib.hid (by rw [HEP3.out]; exact HST.out)⟩
              case measure => simp [intOf]; omega
            · have HEP3 : Hid (edgesD L k ++ edgesS k (d.sides.take (j + 1)) = S) := Lib.hid (HEP2.out.trans (by rw [if_neg (by simp; omega), List.append_nil]))
              go_wp2
              go_roundw
              case rel => exact ⟨j + 1, by omega, by go_num, Lib.hid (by rw [HEP3.out]; exact HB2.out)⟩
              case measure => simp [intOf]; omega
          · have hjl : j = d.sides.length := by omega
            have hb' := HB.out
            rw [hjl, List.take_length] at hb'
            rw [← HEX.out] at hb'
            have HB2 := Lib.hid hb'
            clear hb' HB hjl
            go_wp2
            go_roundw
            case rel => exact ⟨k + 1, by omega, by go_num, HNX2, HB2⟩
            case measure => simp [intOf]; omega
    · have hkl : k = L.length := by omega
      subst hkl
      have HSLE := Lib.hid hown.sl
      clear hown
      cases ho : okG (L.length : Int) (edgesD L L.length)
      · have HOK := Lib.hid (okG_chk ho)
        have HF := Lib.hid (HT.out.symm.trans (graphR_no (by unfold graphB; rw [ho, Bool.and_false])))
        clear ho
        go_wp2_with (first
          | (go_at_call 43; refine (check_any _ (L.length : Int) _ (edgesD L L.length) HSLE.out 30 HOK.out).mono ?_; rintro e4 w4 ⟨rfl, hx⟩; have HB5 := Lib.hid (HA.out.more hx); obtain ⟨eo5, en5, ec5, ⟨l0, l1⟩, ⟨l2, l3⟩, ⟨l4, l5⟩, l6, l7⟩ := HB5.out.cells; have HO5 := Lib.hid l7; clear hx l7))
        obtain ⟨rfl, rfl, rfl⟩ := three HF.out
        exact bodyPost_ret (v := .tuple #[.agg #[.int .i64 0, .slice none 0 0], .bool false]) (by simp [results, Tryz.results14, go_sem, l0, l1]) rfl ⟨_, rfl, Sl.empty _ _ _ (by omega) (fun _ => rfl), below_set (below_set HB5.out.ext (Nat.le_refl _) _) (Nat.le_refl _) _⟩
      · have HOK := Lib.hid (okG_chk ho)
        have HF := Lib.hid (HT.out.symm.trans (graphR_yes (by unfold graphB; rw [ho, HN.out]; rfl)))
        clear ho
        go_wp2_with (first
          | (go_at_call 43; refine (check_any _ (L.length : Int) _ (edgesD L L.length) HSLE.out 0 HOK.out).mono ?_; rintro e4 w4 ⟨rfl, hx⟩; have HB5 := Lib.hid (HA.out.more hx); obtain ⟨eo5, en5, ec5, ⟨l0, l1⟩, ⟨l2, l3⟩, ⟨l4, l5⟩, l6, l7⟩ := HB5.out.cells; have HO5 := Lib.hid l7; clear hx l7))
        obtain ⟨rfl, rfl, rfl⟩ := three HF.out
        exact bodyPost_ret (v := .tuple #[.agg #[.int .i64 (L.length : Int), .slice eo5 en5 ec5], .bool true]) (by simp [results, Tryz.results14, go_sem, l0, l1]) rfl ⟨_, rfl, (HO5.out.set (d := ⟨w.heap.size, 0, none⟩) (by show w.heap.size < _; omega) _).set (d := ⟨w.heap.size, 1, none⟩) (by show w.heap.size < _; omega) _ |>.sl, below_set (below_set HB5.out.ext (Nat.le_refl _) _) (Nat.le_refl _) _⟩

end Go.Proofs.YtdfleocknaackaaGreat
