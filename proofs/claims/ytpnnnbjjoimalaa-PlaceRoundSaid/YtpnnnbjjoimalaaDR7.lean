/- Layer 12, the document's answers: the graph that nodes are of. -/
import Derived.Test.YtpnnnbjjoimalaaMDR
import Derived.Test.YtpnnnbjjoimalaaMG9
import Derived.Deep.DeepCutAuto
import Derived.Deep.CutBlock
namespace Go.Proofs.Ytpnnnbjjoimalaa
open Go.RowKit

/-- may a side stand there, behind last, among n nodes (back: the other one has a side to it)? -/
def sideOk (L : List Dn) (i : Nat) (last : Int) (s : Sd) : Bool :=
  decide (last < s.peer) && (decide (s.peer < L.length) && (decide (s.peer ≠ i) && (sideR (L.getD s.peer.toNat ⟨0, 0, []⟩).sides i).2))
def sidesOk (L : List Dn) (i : Nat) : Int → List Sd → Bool
  | _, [] => true
  | last, s :: l => sideOk L i last s && sidesOk L i s.peer l
def lastP : Int → List Sd → Int
  | last, [] => last
  | _, s :: l => lastP s.peer l
def edgesS (i : Nat) (l : List Sd) : List Edge := (l.filter fun s => decide ((i : Int) < s.peer)).map fun s => ⟨i, s.peer⟩
def nodesOk (L : List Dn) (k : Nat) : Bool := (List.range k).all fun i => decide ((L.getD i ⟨0, 0, []⟩).id = i) && sidesOk L i (-1) (L.getD i ⟨0, 0, []⟩).sides
def edgesD (L : List Dn) (k : Nat) : List Edge := (List.range k).flatMap fun i => edgesS i (L.getD i ⟨0, 0, []⟩).sides
def graphB (L : List Dn) : Bool := nodesOk L L.length && okG L.length (edgesD L L.length)
theorem sidesOk_app (L : List Dn) (i : Nat) : ∀ (l : List Sd) (last : Int) (s : Sd), sidesOk L i last (l ++ [s]) = (sidesOk L i last l && sideOk L i (lastP last l) s)
  | [], last, s => by simp [sidesOk, lastP]
  | t :: l, last, s => by
    show (sideOk L i last t && sidesOk L i t.peer (l ++ [s])) = (sideOk L i last t && sidesOk L i t.peer l && sideOk L i (lastP t.peer l) s)
    rw [sidesOk_app L i l t.peer s, Bool.and_assoc]
theorem sidesOk_pre (L : List Dn) (i : Nat) : ∀ (l r : List Sd) (last : Int), sidesOk L i last l = false → sidesOk L i last (l ++ r) = false
  | [], _, _, h => by simp [sidesOk] at h
  | t :: l, r, last, h => by
    show (sideOk L i last t && sidesOk L i t.peer (l ++ r)) = false
    have h : (sideOk L i last t && sidesOk L i t.peer l) = false := h
    cases e : sideOk L i last t with
    | false => rfl
    | true =>
      rw [e, Bool.true_and] at h
      rw [sidesOk_pre L i l r t.peer h]; rfl
theorem lastP_app (l : List Sd) (last : Int) (s : Sd) : lastP last (l ++ [s]) = s.peer := by
  induction l generalizing last with
  | nil => rfl
  | cons t l ih => exact ih t.peer
theorem lastP_low (L : List Dn) (i : Nat) : ∀ (l : List Sd) (last : Int), sidesOk L i last l = true → last ≤ lastP last l
  | [], _, _ => Int.le_refl _
  | s :: l, last, h => by
    have h : (sideOk L i last s && sidesOk L i s.peer l) = true := h
    rw [Bool.and_eq_true] at h
    have h1 := lastP_low L i l s.peer h.2
    have h2 := h.1
    unfold sideOk at h2
    rw [Bool.and_eq_true, decide_eq_true_eq] at h2
    show last ≤ lastP s.peer l
    omega
theorem edgesS_app (i : Nat) (l : List Sd) (s : Sd) : edgesS i (l ++ [s]) = edgesS i l ++ (if decide ((i : Int) < s.peer) = true then [⟨i, s.peer⟩] else []) := by
  unfold edgesS
  rw [List.filter_append, List.map_append, List.filter_cons]
  split <;> rfl
theorem edgesS_len (i : Nat) (l : List Sd) : (edgesS i l).length ≤ l.length := by
  unfold edgesS
  rw [List.length_map]
  exact List.length_filter_le _ _
theorem nodesOk_next (L : List Dn) (k : Nat) : nodesOk L (k + 1) = (nodesOk L k && (decide ((L.getD k ⟨0, 0, []⟩).id = k) && sidesOk L k (-1) (L.getD k ⟨0, 0, []⟩).sides)) := by
  unfold nodesOk
  rw [List.range_succ, List.all_append]
  simp
theorem nodesOk_no {L : List Dn} {k n : Nat} (hk : k < n) (h : (decide ((L.getD k ⟨0, 0, []⟩).id = k) && sidesOk L k (-1) (L.getD k ⟨0, 0, []⟩).sides) = false) : nodesOk L n = false := by
  unfold nodesOk
  rw [List.all_eq_false]
  exact ⟨k, List.mem_range.2 hk, by rw [h]; simp⟩
theorem edgesD_next (L : List Dn) (k : Nat) : edgesD L (k + 1) = edgesD L k ++ edgesS k (L.getD k ⟨0, 0, []⟩).sides := by
  unfold edgesD
  rw [List.range_succ, List.flatMap_append]
  simp

def graphR (L : List Dn) : Int × List Edge × Bool := if graphB L = true then ((L.length : Int), edgesD L L.length, true) else (0, [], false)
theorem graphR_no {L : List Dn} (h : graphB L = false) : graphR L = (0, [], false) := by unfold graphR; rw [h]; rfl
theorem graphR_yes {L : List Dn} (h : graphB L = true) : graphR L = ((L.length : Int), edgesD L L.length, true) := by unfold graphR; rw [h]; rfl
theorem three {α β γ : Type} {a x : α} {b y : β} {c z : γ} (h : (a, b, c) = (x, y, z)) : a = x ∧ b = y ∧ c = z := by simpa using h

/-- while the graph is told: the block of the answer, that of the graph, its edges -/
structure GrAt (w : World) (n : Nat) (E : List Edge) (wr : World) : Prop where
  ext : Ext w wr
  res : wr.heap[w.heap.size]? = some (.cells #[.int .i64 0, .slice none 0 0] 24 (0, 0))
  blk : ∃ eo en ec, wr.heap[w.heap.size + 1]? = some (.cells #[.int .i64 (n : Int), .slice eo en ec] 24 (0, 0)) ∧ Ow wr (w.heap.size + 2) (.slice eo en ec) E
theorem GrAt.start (w : World) (n : Nat) : GrAt w n [] ((w.alloc (.cells #[.int .i64 0, .slice none 0 0] 24)).alloc (.cells #[.int .i64 (n : Int), .slice none 0 0] 24)) :=
  ⟨((Ext.refl w).alloc _).alloc _, old1 (at0 w _) _, none, 0, 0, at1 w _ _, Ow.nil _ _⟩
theorem GrAt.more {w wr W : World} {n : Nat} {E : List Edge} (h : GrAt w n E wr) (x : Ext wr W) : GrAt w n E W := by
  obtain ⟨eo, en, ec, hb, ho⟩ := h.blk
  exact ⟨h.ext.trans x, (x.block _ (blk_lt h.res)).trans h.res, eo, en, ec, (x.block _ (blk_lt hb)).trans hb, ho.ext x⟩
theorem GrAt.step {w W W2 : World} {n : Nat} {E M : List Edge} {ao : Option Addr} {k c : Nat} (h : GrAt w n E W) (b : Below (w.heap.size + 2) W W2) (ho : Ow W2 (w.heap.size + 2) (.slice ao k c) M) :
    GrAt w n M (W2.setCell ⟨w.heap.size + 1, 1, none⟩ (.slice ao k c)) := by
  obtain ⟨eo, en, ec, hb, _⟩ := h.blk
  have hb2 := (b.block (w.heap.size + 1) (by omega)).trans hb
  have hr2 := (b.block w.heap.size (by omega)).trans h.res
  exact ⟨below_set (Below.trans h.ext (b.mono (by omega))) (by show w.heap.size ≤ w.heap.size + 1; omega) _, (set_other _ _ _ _ (by show w.heap.size ≠ w.heap.size + 1; omega)).trans hr2, ao, k, c, by rw [blk_set hb2]; rfl, ho.set (by show w.heap.size + 1 < _; omega) _⟩
theorem GrAt.cells {w wr : World} {n : Nat} {E : List Edge} (h : GrAt w n E wr) : ∃ eo en ec, (wr.cell? ⟨w.heap.size, 0, none⟩ = some (.int .i64 0) ∧ wr.cell? ⟨w.heap.size, 1, none⟩ = some (.slice none 0 0)) ∧ (wr.frozen? ⟨w.heap.size, 0, none⟩ = false ∧ wr.frozen? ⟨w.heap.size, 1, none⟩ = false) ∧
    (wr.cell? ⟨w.heap.size + 1, 0, none⟩ = some (.int .i64 (n : Int)) ∧ wr.cell? ⟨w.heap.size + 1, 1, none⟩ = some (.slice eo en ec)) ∧ wr.frozen? ⟨w.heap.size + 1, 1, none⟩ = false ∧ Ow wr (w.heap.size + 2) (.slice eo en ec) E := by
  obtain ⟨eo, en, ec, hb, ho⟩ := h.blk
  exact ⟨eo, en, ec, ⟨blk_cell h.res 0 rfl, blk_cell h.res 1 rfl⟩, ⟨blk_free h.res 0, blk_free h.res 1⟩, ⟨blk_cell hb 0 rfl, blk_cell hb 1 rfl⟩, blk_free hb 1, ho⟩

set_option maxRecDepth 100000 in
set_option maxHeartbeats 4000000 in
theorem refGraph_any (F : Nat → Prop) (w : World) (v : Value) (L : List Dn) (h : Ns DV F w v L) (hl : L.length ≤ 100) (hls : ∀ d ∈ L, d.sides.length ≤ 100) (N' : Int) (E' : List Edge) (t : Bool) (ht : graphR L = (N', E', t)) :
    Calls Try.prog 19 #[v] w fun e w' => ∃ gv, e = .returned (.tuple #[.agg #[.int .i64 N', gv], .bool t]) ∧ Sl w' gv E' ∧ Ext w w' := by
  obtain ⟨ao, c, rfl⟩ := h.len
  have HS := Lib.hid h
  have HT := Lib.hid ht
  have HLS := Lib.hid hls
  have HEL : Hid (∀ k, k ≤ L.length → (edgesD L k).length ≤ 100 * k) := Lib.hid fun k => by
    induction k with
    | zero => intro _; simp [edgesD]
    | succ k ih =>
      intro hk
      rw [edgesD_next, List.length_append]
      have h1 := edgesS_len k (L.getD k ⟨0, 0, []⟩).sides
      have h2 := hls _ (getD_mem (show k < L.length by omega) ⟨0, 0, []⟩)
      have := ih (by omega)
      omega
  clear h ht hls
  go_enter Try.func19, Try.ntmps19
  go_wp2
  go_loopw [5] (fun i wr => ∃ k : Nat, k ≤ L.length ∧ i = .int .i64 k ∧ Hid (nodesOk L k = true) ∧ Hid (GrAt w L.length (edgesD L k) wr)) (fun i _ => L.length - (intOf i).toNat)
  case atStart => exact ⟨0, Nat.zero_le _, rfl, Lib.hid rfl, Lib.hid (GrAt.start w _)⟩
  case round =>
    obtain ⟨k, hk, rfl, HN, HA⟩ := hrel
    obtain ⟨eo, en, ec, ⟨r0, r1⟩, ⟨u0, u1⟩, ⟨s0, s1⟩, u3, hown⟩ := HA.out.cells
    by_cases hlt : k < L.length
    · obtain ⟨b1, o1, so, sc, d, hdk, rfl, hn, hnc, hc63, hb, hsl, hcell⟩ := HS.out.dinerAt hlt
      have hdd : L.getD k ⟨0, 0, []⟩ = d := by rw [List.getD_eq_getElem?_getD, hdk]; rfl
      have HDD := Lib.hid hdd
      have HNX := Lib.hid (nodesOk_next L k)
      have HEX := Lib.hid (edgesD_next L k)
      have HNO := Lib.hid (fun e => nodesOk_no (L := L) hlt e)
      rw [hdd] at HNX HEX HNO
      have hdl : d.sides.length ≤ 100 := HLS.out d (List.mem_of_getElem? hdk)
      have HC : Hid (∀ V, Ext w V → V.cell? ⟨b1, o1 + k * 3, none⟩ = some (.int .i64 d.id) ∧ V.cell? ⟨b1, o1 + k * 3 + 1, none⟩ = some (.int .i64 d.phase) ∧ V.cell? ⟨b1, o1 + k * 3 + 2, none⟩ = some (.slice so d.sides.length sc)) := Lib.hid hcell
      have HSD := Lib.hid hsl.sl
      obtain ⟨a0, a1, a2⟩ := HC.out wr HA.out.ext
      clear hcell hdd hn hsl hdk hown a1
      by_cases hid : d.id = (k : Int)
      · have e0 : (d.id != (k : Int)) = false := by simp [hid]
        have HID := Lib.hid hid
        clear hid
        go_wp2
        go_loopw [6, 7] (fun la i wr => ∃ j : Nat, j ≤ d.sides.length ∧ i = .int .i64 j ∧ la = .int .i64 (lastP (-1) (d.sides.take j)) ∧ Hid (sidesOk L k (-1) (d.sides.take j) = true) ∧ Hid (GrAt w L.length (edgesD L k ++ edgesS k (d.sides.take j)) wr)) (fun _ i _ => d.sides.length - (intOf i).toNat)
        case atStart => exact ⟨0, Nat.zero_le _, rfl, rfl, Lib.hid rfl, Lib.hid (by rw [List.take_zero]; show GrAt w L.length (edgesD L k ++ []) _; rw [List.append_nil]; exact HA.out)⟩
        case round =>
          obtain ⟨j, hj, rfl, rfl, HQ, HB⟩ := hrel
          obtain ⟨eo', en', ec', ⟨p0, p1⟩, ⟨v0, v1⟩, ⟨q0, q1⟩, v3, hown'⟩ := HB.out.cells
          obtain ⟨c0, c1, c2⟩ := HC.out wr HB.out.ext
          clear c0 c1
          by_cases hlt2 : j < d.sides.length
          · obtain ⟨b2, o2, s, _, hsj, rfl, hn2, hnc2, hc632, hb2, hcs⟩ := HSD.out.sidesAt hlt2
            obtain ⟨⟨⟨x0, x1⟩, x2, x3⟩, ⟨x4, x5⟩, x6, x7⟩ := hcs wr HB.out.ext
            have htk : d.sides.take (j + 1) = d.sides.take j ++ [s] := by rw [List.take_succ_eq_append_getElem hlt2, (List.getElem?_eq_some_iff.1 hsj).2]
            have HOK1 : Hid (sidesOk L k (-1) (d.sides.take (j + 1)) = sideOk L k (lastP (-1) (d.sides.take j)) s) := Lib.hid (by rw [htk, sidesOk_app, HQ.out, Bool.true_and])
            have HLP : Hid (lastP (-1) (d.sides.take (j + 1)) = s.peer) := Lib.hid (by rw [htk, lastP_app])
            have HEP : Hid (edgesS k (d.sides.take (j + 1)) = edgesS k (d.sides.take j) ++ (if decide ((k : Int) < s.peer) = true then [⟨k, s.peer⟩] else [])) := Lib.hid (by rw [htk, edgesS_app])
            have HBAD0 : Hid (sidesOk L k (-1) (d.sides.take (j + 1)) = false → sidesOk L k (-1) d.sides = false) := Lib.hid fun e => by
              have := sidesOk_pre L k _ (d.sides.drop (j + 1)) (-1) e
              rwa [List.take_append_drop] at this
            have hl1 : -1 ≤ lastP (-1) (d.sides.take j) := lastP_low L k _ _ HQ.out
            obtain ⟨la, hla⟩ : ∃ la, la = lastP (-1) (d.sides.take j) := ⟨_, rfl⟩
            rw [← hla] at HOK1 hl1 ⊢
            have HPL : Hid (edgesS k (d.sides.take j) = edgesS k (d.sides.take j)) := Lib.hid rfl
            clear hla htk hsj hcs x1 x2 x3 x4 x5 x6 x7 hn2
            obtain ⟨y0, y1, y2, y3, y4, y5, y6, y7⟩ := s
            dsimp only at x0 HLP HEP
            by_cases h1 : y0 ≤ la
            · have HBAD : Hid (sidesOk L k (-1) d.sides = false) := Lib.hid (HBAD0.out (HOK1.out.trans (by unfold sideOk; rw [decide_eq_false (show ¬ la < y0 by omega)]; rfl)))
              have HF := Lib.hid (HT.out.symm.trans (graphR_no (by unfold graphB; rw [HNO.out (by rw [decide_eq_true HID.out, Bool.true_and]; exact HBAD.out)]; rfl)))
              go_wp2
              obtain ⟨rfl, rfl, rfl⟩ := three HF.out
              exact bodyPost_ret (v := .tuple #[.agg #[.int .i64 0, .slice none 0 0], .bool false]) (by simp [results, Try.results19, go_sem, p0, p1]) rfl ⟨_, rfl, Sl.empty _ _ _ (by omega) (fun _ => rfl), below_set (below_set HB.out.ext (Nat.le_refl _) _) (Nat.le_refl _) _⟩
            by_cases h2 : (L.length : Int) ≤ y0
            · have HBAD : Hid (sidesOk L k (-1) d.sides = false) := Lib.hid (HBAD0.out (HOK1.out.trans (by unfold sideOk; rw [decide_eq_false (show ¬ y0 < (L.length : Int) by omega)]; simp)))
              have HF := Lib.hid (HT.out.symm.trans (graphR_no (by unfold graphB; rw [HNO.out (by rw [decide_eq_true HID.out, Bool.true_and]; exact HBAD.out)]; rfl)))
              go_wp2
              obtain ⟨rfl, rfl, rfl⟩ := three HF.out
              exact bodyPost_ret (v := .tuple #[.agg #[.int .i64 0, .slice none 0 0], .bool false]) (by simp [results, Try.results19, go_sem, p0, p1]) rfl ⟨_, rfl, Sl.empty _ _ _ (by omega) (fun _ => rfl), below_set (below_set HB.out.ext (Nat.le_refl _) _) (Nat.le_refl _) _⟩
            by_cases h3 : y0 = (k : Int)
            · have HBAD : Hid (sidesOk L k (-1) d.sides = false) := Lib.hid (HBAD0.out (HOK1.out.trans (by unfold sideOk; simp [h3])))
              have HF := Lib.hid (HT.out.symm.trans (graphR_no (by unfold graphB; rw [HNO.out (by rw [decide_eq_true HID.out, Bool.true_and]; exact HBAD.out)]; rfl)))
              have e3 : (y0 == (k : Int)) = true := by simp [h3]
              clear h3
              go_wp2
              obtain ⟨rfl, rfl, rfl⟩ := three HF.out
              exact bodyPost_ret (v := .tuple #[.agg #[.int .i64 0, .slice none 0 0], .bool false]) (by simp [results, Try.results19, go_sem, p0, p1]) rfl ⟨_, rfl, Sl.empty _ _ _ (by omega) (fun _ => rfl), below_set (below_set HB.out.ext (Nat.le_refl _) _) (Nat.le_refl _) _⟩
            obtain ⟨pn, rfl⟩ : ∃ pn : Nat, y0 = (pn : Int) := ⟨y0.toNat, by omega⟩
            have hpn : pn < L.length := by omega
            have e3 : ((pn : Int) == (k : Int)) = false := by simp; omega
            obtain ⟨b3, o3, so3, sc3, f, hfk, hao, hn3, hnc3, hc633, hb3, hsl3, hcell3⟩ := HS.out.dinerAt hpn
            simp only [Option.some.injEq, Addr.mk.injEq, and_true] at hao
            obtain ⟨rfl, rfl⟩ := hao
            obtain ⟨z0, z1, z2⟩ := hcell3 wr HB.out.ext
            have HSE := Lib.hid hsl3.sl
            obtain ⟨⟨x, xb⟩, hxs⟩ : ∃ q, sideR f.sides (k : Int) = q := ⟨_, rfl⟩
            have HXS := Lib.hid hxs
            have HOK2 : Hid (sidesOk L k (-1) (d.sides.take (j + 1)) = xb) := Lib.hid (HOK1.out.trans (by
              unfold sideOk
              dsimp only
              rw [decide_eq_true (show la < (pn : Int) by omega), decide_eq_true (show (pn : Int) < (L.length : Int) by omega), decide_eq_true (show (pn : Int) ≠ (k : Int) from h3), Int.toNat_natCast, List.getD_eq_getElem?_getD, hfk]
              show (true && (true && (true && (sideR f.sides (k : Int)).2))) = xb
              rw [hxs]; rfl))
            clear hcell3 hfk hn3 hsl3 hxs h3 HOK1
            obtain ⟨f0, f1, f2⟩ := f
            obtain ⟨x0, x1, x2, x3, x4, x5, x6, x7⟩ := x
            dsimp only at z0 z1 z2 HSE HXS
            cases xb
            · have HBAD : Hid (sidesOk L k (-1) d.sides = false) := Lib.hid (HBAD0.out HOK2.out)
              have HF := Lib.hid (HT.out.symm.trans (graphR_no (by unfold graphB; rw [HNO.out (by rw [decide_eq_true HID.out, Bool.true_and]; exact HBAD.out)]; rfl)))
              go_wp2_with (first
                | (go_at_call 21; refine (refSide_any _ f0 f1 _ f2 k (HSE.out.ext HB.out.ext) _ _ HXS.out).mono ?_; rintro e4 w4 ⟨rfl, hx⟩; dsimp only [Sd.cs]; have HB5 := Lib.hid (HB.out.more (Ext.alloc hx (.cells #[.int .i64 x0, .int .i64 x1, .int .i64 x2, .bool x3, .bool x4, .bool x5, .bool x6, .bool x7] 49))); obtain ⟨eo5, en5, ec5, ⟨l0, l1⟩, ⟨l2, l3⟩, ⟨l4, l5⟩, l6, l7⟩ := HB5.out.cells; have HO5 := Lib.hid l7; clear hx l7))
              obtain ⟨rfl, rfl, rfl⟩ := three HF.out
              exact bodyPost_ret (v := .tuple #[.agg #[.int .i64 0, .slice none 0 0], .bool false]) (by simp [results, Try.results19, go_sem, l0, l1]) rfl ⟨_, rfl, Sl.empty _ _ _ (by omega) (fun _ => rfl), below_set (below_set HB5.out.ext (Nat.le_refl _) _) (Nat.le_refl _) _⟩
            · obtain ⟨S, hS⟩ : ∃ S, S = edgesD L k ++ edgesS k (d.sides.take j) := ⟨_, rfl⟩
              have hSl : S.length ≤ 20000 := by
                rw [hS, List.length_append]
                have q1 := HEL.out k hk
                have q2 := edgesS_len k (d.sides.take j)
                rw [List.length_take] at q2
                omega
              rw [← hS] at HB
              have HEP2 : Hid (edgesD L k ++ edgesS k (d.sides.take (j + 1)) = S ++ (if decide ((k : Int) < (pn : Int)) = true then [⟨k, pn⟩] else [])) := Lib.hid (by rw [HEP.out, hS, List.append_assoc])
              clear hS HEP
              by_cases hkp : (k : Int) < (pn : Int)
              · have HEP3 : Hid (edgesD L k ++ edgesS k (d.sides.take (j + 1)) = S ++ [⟨k, pn⟩]) := Lib.hid (HEP2.out.trans (by rw [if_pos (decide_eq_true hkp)]))
                go_wp2_with (first
                  | (go_at_call 21; refine (refSide_any _ f0 f1 _ f2 k (HSE.out.ext HB.out.ext) _ _ HXS.out).mono ?_; rintro e4 w4 ⟨rfl, hx⟩; dsimp only [Sd.cs]; have HB5 := Lib.hid (HB.out.more (Ext.alloc hx (.cells #[.int .i64 x0, .int .i64 x1, .int .i64 x2, .bool x3, .bool x4, .bool x5, .bool x6, .bool x7] 49))); obtain ⟨eo5, en5, ec5, ⟨l0, l1⟩, ⟨l2, l3⟩, ⟨l4, l5⟩, l6, l7⟩ := HB5.out.cells; have HO5 := Lib.hid l7; clear hx l7)
                  | (at_builtin; refine wpList_append_sl (α := Edge) rfl (.tmp 79) (.tmp 83) rfl (w.heap.size + 2) _ S rfl ?_ (.slice (some ⟨_, 0, none⟩) 1 1) [(⟨(k : Int), (pn : Int)⟩ : Edge)] rfl ?_ ?_ ?_ ?_; exact (HO5.out.alloc _); exact (Sl.litAt _ _ (by simp) [(⟨(k : Int), (pn : Int)⟩ : Edge)] (show (1 : Nat) ≤ 1000000 by decide)); (first | omega | (simp; omega)); exact (by rw [size_alloc]; have q1 := blk_lt HB5.out.res; obtain ⟨_, _, _, q2, _⟩ := HB5.out.blk; have q3 := blk_lt q2; omega); intro v6 W6 ho6 ha6; obtain ⟨a6, n6, c6, rfl⟩ := ho6.sh; have HB6 := Lib.hid (HB5.out.more ((Ext.refl _).alloc (.cells #[.int .i64 (k : Int), .int .i64 (pn : Int)] 66))); obtain ⟨eo6, en6, ec6, q1, q2⟩ := HB6.out.blk; have q3 := (ha6.below.block _ (by omega)).trans q1; have m0 := blk_cell q3 1 rfl; have m1 := blk_free q3 1; have HST := Lib.hid (HB6.out.step ha6.below ho6); clear ho6 ha6 q1 q2 q3))
                go_roundw
                case rel => exact ⟨j + 1, by omega, by go_num, by rw [HLP.out], HOK2, Lib.hid (by rw [HEP3.out]; exact HST.out)⟩
                case measure => simp [intOf]; omega
              · have HEP3 : Hid (edgesD L k ++ edgesS k (d.sides.take (j + 1)) = S) := Lib.hid (HEP2.out.trans (by rw [if_neg (by simp; omega), List.append_nil]))
                go_wp2_with (first
                  | (go_at_call 21; refine (refSide_any _ f0 f1 _ f2 k (HSE.out.ext HB.out.ext) _ _ HXS.out).mono ?_; rintro e4 w4 ⟨rfl, hx⟩; dsimp only [Sd.cs]; have HB5 := Lib.hid (HB.out.more (Ext.alloc hx (.cells #[.int .i64 x0, .int .i64 x1, .int .i64 x2, .bool x3, .bool x4, .bool x5, .bool x6, .bool x7] 49))); obtain ⟨eo5, en5, ec5, ⟨l0, l1⟩, ⟨l2, l3⟩, ⟨l4, l5⟩, l6, l7⟩ := HB5.out.cells; have HO5 := Lib.hid l7; clear hx l7))
                go_roundw
                case rel => exact ⟨j + 1, by omega, by go_num, by rw [HLP.out], HOK2, Lib.hid (by rw [HEP3.out]; exact HB5.out)⟩
                case measure => simp [intOf]; omega
          · have hjl : j = d.sides.length := by omega
            have hq := HQ.out
            have hb' := HB.out
            rw [hjl, List.take_length] at hq hb'
            rw [← HEX.out] at hb'
            have HQ2 : Hid (nodesOk L (k + 1) = true) := Lib.hid (HNX.out.trans (by rw [HN.out, decide_eq_true HID.out, hq]; rfl))
            have HB2 := Lib.hid hb'
            clear hq hb' HQ HB hjl
            go_wp2
            go_roundw
            case rel => exact ⟨k + 1, by omega, by go_num, HQ2, HB2⟩
            case measure => simp [intOf]; omega
      · have e0 : (d.id != (k : Int)) = true := by simp [hid]
        have HF := Lib.hid (HT.out.symm.trans (graphR_no (by unfold graphB; rw [HNO.out (by rw [decide_eq_false hid]; rfl)]; rfl)))
        clear hid
        go_wp2
        obtain ⟨rfl, rfl, rfl⟩ := three HF.out
        exact bodyPost_ret (v := .tuple #[.agg #[.int .i64 0, .slice none 0 0], .bool false]) (by simp [results, Try.results19, go_sem, r0, r1]) rfl ⟨_, rfl, Sl.empty _ _ _ (by omega) (fun _ => rfl), below_set (below_set HA.out.ext (Nat.le_refl _) _) (Nat.le_refl _) _⟩
    · have hkl : k = L.length := by omega
      subst hkl
      have HSLE := Lib.hid hown.sl
      clear hown
      cases ho : okG (L.length : Int) (edgesD L L.length)
      · have HOK := Lib.hid ho
        have HF := Lib.hid (HT.out.symm.trans (graphR_no (by unfold graphB; rw [ho, Bool.and_false])))
        clear ho
        go_wp2_with (first
          | (go_at_call 12; refine (refCheck_val _ (L.length : Int) _ (edgesD L L.length) HSLE.out false HOK.out).mono ?_; rintro e4 w4 ⟨rfl, hx⟩; have HB5 := Lib.hid (HA.out.more hx); obtain ⟨eo5, en5, ec5, ⟨l0, l1⟩, ⟨l2, l3⟩, ⟨l4, l5⟩, l6, l7⟩ := HB5.out.cells; have HO5 := Lib.hid l7; clear hx l7))
        obtain ⟨rfl, rfl, rfl⟩ := three HF.out
        exact bodyPost_ret (v := .tuple #[.agg #[.int .i64 0, .slice none 0 0], .bool false]) (by simp [results, Try.results19, go_sem, l0, l1]) rfl ⟨_, rfl, Sl.empty _ _ _ (by omega) (fun _ => rfl), below_set (below_set HB5.out.ext (Nat.le_refl _) _) (Nat.le_refl _) _⟩
      · have HOK := Lib.hid ho
        have HF := Lib.hid (HT.out.symm.trans (graphR_yes (by unfold graphB; rw [ho, HN.out]; rfl)))
        clear ho
        go_wp2_with (first
          | (go_at_call 12; refine (refCheck_val _ (L.length : Int) _ (edgesD L L.length) HSLE.out true HOK.out).mono ?_; rintro e4 w4 ⟨rfl, hx⟩; have HB5 := Lib.hid (HA.out.more hx); obtain ⟨eo5, en5, ec5, ⟨l0, l1⟩, ⟨l2, l3⟩, ⟨l4, l5⟩, l6, l7⟩ := HB5.out.cells; have HO5 := Lib.hid l7; clear hx l7))
        obtain ⟨rfl, rfl, rfl⟩ := three HF.out
        exact bodyPost_ret (v := .tuple #[.agg #[.int .i64 (L.length : Int), .slice eo5 en5 ec5], .bool true]) (by simp [results, Try.results19, go_sem, l0, l1]) rfl ⟨_, rfl, (HO5.out.set (d := ⟨w.heap.size, 0, none⟩) (by show w.heap.size < _; omega) _).set (d := ⟨w.heap.size, 1, none⟩) (by show w.heap.size < _; omega) _ |>.sl, below_set (below_set HB5.out.ext (Nat.le_refl _) _) (Nat.le_refl _) _⟩

end Go.Proofs.Ytpnnnbjjoimalaa
