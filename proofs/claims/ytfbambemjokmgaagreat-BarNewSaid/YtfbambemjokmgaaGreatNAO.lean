/- Texts of this seat. -/
import Derived.Test.YtfbambemjokmgaaGreatNAJ
import Derived.Test.YtfbambemjokmgaaGreatNAN
namespace Go.Proofs.YtfbambemjokmgaaGreat
theorem find_is {α : Type} {L : List α} {p : α → Bool} {s : α} (hs : s ∈ L) (hp : p s = true) (hu : ∀ x ∈ L, p x = true → x = s) : L.find? p = some s := by
  cases h : L.find? p with
  | none => have := (List.find?_eq_none.1 h) s hs; rw [hp] at this; exact absurd rfl this
  | some x => rw [hu x (List.mem_of_find?_eq_some h) (List.find?_some h)]
theorem sideC_peer (c : List Int) (a b : Int) : (sideC c a b).peer = b := by unfold sideC; split <;> rfl
theorem mem_sidesTo {E : List Edge} {c : List Int} {a : Int} {n : Nat} {x : Sd} : x ∈ sidesTo E c a n ↔ ∃ k : Nat, k < n ∧ btw a k ∈ E ∧ x = sideC c a k := by
  unfold sidesTo
  simp only [List.mem_map, List.mem_filter, List.mem_range, decide_eq_true_eq]
  constructor
  · rintro ⟨y, ⟨⟨k, hk, rfl⟩, h⟩, rfl⟩
    exact ⟨k, hk, h, rfl⟩
  · rintro ⟨k, hk, h, rfl⟩
    exact ⟨k, ⟨⟨k, hk, rfl⟩, h⟩, rfl⟩
theorem side_is {E : List Edge} {c : List Int} {a : Int} {n k : Nat} (hk : k < n) : sideR (sidesTo E c a n) k = if btw a k ∈ E then (sideC c a k, true) else (Sd.zero, false) := by
  unfold sideR
  by_cases h : btw a k ∈ E
  · rw [if_pos h, find_is (s := sideC c a k) (mem_sidesTo.2 ⟨k, hk, h, rfl⟩) (by rw [sideC_peer]; simp) fun x hx hp => ?_]
    obtain ⟨j, hj, _, rfl⟩ := mem_sidesTo.1 hx
    rw [sideC_peer] at hp
    have : (j : Int) = (k : Int) := by simpa using hp
    rw [this]
  · rw [if_neg h]
    have : (sidesTo E c a n).find? (fun s => s.peer == (k : Int)) = none := by
      rw [List.find?_eq_none]
      intro x hx hp
      obtain ⟨j, hj, hb, rfl⟩ := mem_sidesTo.1 hx
      rw [sideC_peer] at hp
      have : (j : Int) = (k : Int) := by simpa using hp
      rw [this] at hb
      exact h hb
    rw [this]
def prs : List Nat → List Edge
  | [] => []
  | i :: l => l.map (fun k : Nat => (⟨i, k⟩ : Edge)) ++ prs l
theorem mem_prs {x : Edge} : ∀ {l : List Nat}, l.Pairwise (· < ·) → (x ∈ prs l ↔ ∃ i k : Nat, i ∈ l ∧ k ∈ l ∧ i < k ∧ x = ⟨i, k⟩)
  | [], _ => by simp [prs]
  | i :: l, h => by
    have h' := List.pairwise_cons.1 h
    unfold prs
    rw [List.mem_append, mem_prs h'.2, List.mem_map]
    constructor
    · rintro (⟨k, hk, rfl⟩ | ⟨a, b, ha, hb, hab, rfl⟩)
      · exact ⟨i, k, by simp, by simp [hk], h'.1 k hk, rfl⟩
      · exact ⟨a, b, by simp [ha], by simp [hb], hab, rfl⟩
    · rintro ⟨a, b, ha, hb, hab, rfl⟩
      rcases List.mem_cons.1 ha with e1 | ha2
      · rcases List.mem_cons.1 hb with e2 | hb2
        · omega
        · exact .inl ⟨b, hb2, by rw [e1]⟩
      · rcases List.mem_cons.1 hb with e2 | hb2
        · have := h'.1 a ha2; omega
        · exact .inr ⟨a, b, ha2, hb2, hab, rfl⟩
theorem rises_prs : ∀ {l : List Nat}, l.Pairwise (· < ·) → Rises (prs l)
  | [], _ => List.Pairwise.nil
  | i :: l, h => by
    have h' := List.pairwise_cons.1 h
    unfold prs
    refine List.pairwise_append.2 ⟨?_, rises_prs h'.2, fun x hx y hy => ?_⟩
    · rw [List.pairwise_map]
      exact h'.2.imp fun {a b} hab => by simp [ahead, hab]
    · obtain ⟨k, hk, rfl⟩ := List.mem_map.1 hx
      obtain ⟨a, b, ha, _, _, rfl⟩ := (mem_prs h'.2).1 hy
      have := h'.1 a ha
      simp [ahead]
      omega
theorem range_up (n : Nat) : (List.range n).Pairwise (· < ·) := List.pairwise_lt_range
theorem edges_prs {N : Int} {E : List Edge} (ok : OkG N E) : (prs (List.range N.toNat)).filter (fun e => decide (e ∈ E)) = E := by
  refine rises_ext (rises_filter (rises_prs (range_up _)) _) ok.rise fun x => ?_
  rw [List.mem_filter, mem_prs (range_up _), decide_eq_true_eq]
  constructor
  · exact fun h => h.2
  · intro h
    obtain ⟨a, b⟩ := x
    have := ok.each _ h
    dsimp only at this
    exact ⟨⟨a.toNat, b.toNat, List.mem_range.2 (by omega), List.mem_range.2 (by omega), by omega, by simp only [Edge.mk.injEq]; omega⟩, h⟩
theorem flat_if {α β : Type} (p : α → Bool) (f : α → β) : ∀ l : List α, (l.flatMap fun x => if p x = true then [f x] else []) = (l.filter p).map f
  | [] => rfl
  | x :: l => by
    rw [List.flatMap_cons, List.filter_cons, flat_if p f l]
    split <;> simp_all
theorem flat_congr {α β : Type} {f g : α → List β} : ∀ {l : List α}, (∀ x ∈ l, f x = g x) → l.flatMap f = l.flatMap g
  | [], _ => rfl
  | x :: l, h => by rw [List.flatMap_cons, List.flatMap_cons, h x (by simp), flat_congr fun y hy => h y (by simp [hy])]
theorem right_ne {N : Int} {E : List Edge} {c : List Int} (h : rightB N E c = true) : ∀ a b : Int, btw a b ∈ E → col c a ≠ col c b := fun a b hb e => by
  rw [right_eq] at h
  unfold rightD at h
  simp only [Bool.and_eq_true, List.all_eq_true] at h
  have h1 := h.2 _ hb
  simp only [btw, Bool.not_eq_true', beq_eq_false_iff_ne, ne_eq] at h1
  rcases Int.le_total a b with hab | hab
  · rw [Int.min_eq_left hab, Int.max_eq_right hab] at h1; exact h1 e
  · rw [Int.min_eq_right hab, Int.max_eq_left hab] at h1; exact h1 e.symm
theorem tableL_at {N : Int} {E : List Edge} {c : List Int} {i : Nat} (hi : i < N.toNat) : (tableL N E c).getD i ⟨0, 0, []⟩ = dinerC N E c i := by
  unfold tableL
  rw [List.getD_eq_getElem?_getD, List.getElem?_map, List.getElem?_range hi]
  rfl
theorem tableL_length (N : Int) (E : List Edge) (c : List Int) : (tableL N E c).length = N.toNat := by simp [tableL]
theorem sidesOk_table {N : Int} {E : List Edge} {c : List Int} (ok : OkG N E) {i : Nat} (hi : i < N.toNat) : ∀ (l : List Nat) (last : Int), l.Pairwise (· < ·) → (∀ k ∈ l, last < (k : Int) ∧ k < N.toNat) →
    sidesOk (tableL N E c) i last (((l.map fun k : Nat => (k : Int)).filter fun b => decide (btw i b ∈ E)).map (sideC c i)) = true
  | [], _, _, _ => rfl
  | k :: l, last, h, hl => by
    have h' := List.pairwise_cons.1 h
    have hk := hl k (by simp)
    rw [List.map_cons, List.filter_cons]
    by_cases hb : btw (i : Int) (k : Int) ∈ E
    · rw [if_pos (decide_eq_true hb), List.map_cons]
      show (sideOk _ i last (sideC c i k) && sidesOk _ i (sideC c i k).peer _) = true
      rw [sideC_peer, sidesOk_table ok hi l k h'.2 fun j hj => ⟨by have := h'.1 j hj; omega, (hl j (by simp [hj])).2⟩, Bool.and_true]
      have hin := near_in ok hb
      unfold sideOk
      rw [sideC_peer, tableL_length, Int.toNat_natCast, tableL_at hk.2, decide_eq_true hk.1, decide_eq_true (show (k : Int) < ((N.toNat : Nat) : Int) by omega), decide_eq_true (show (k : Int) ≠ (i : Int) by omega)]
      show (true && (true && (true && (sideR (sidesTo E c k N.toNat) i).2))) = true
      rw [side_is hi, if_pos (btw_swap hb)]
      rfl
    · rw [if_neg (by simp [hb])]
      exact sidesOk_table ok hi l last h'.2 fun j hj => ⟨by have := h'.1 j hj; omega, (hl j (by simp [hj])).2⟩
theorem edgesS_table {E : List Edge} {c : List Int} {i : Nat} (l : List Nat) :
    edgesS i (((l.map fun k : Nat => (k : Int)).filter fun b => decide (btw i b ∈ E)).map (sideC c i)) = ((l.filter fun k => decide (i < k)).map fun k : Nat => (⟨i, k⟩ : Edge)).filter fun e => decide (e ∈ E) := by
  induction l with
  | nil => rfl
  | cons k l ih =>
    unfold edgesS at ih ⊢
    rw [List.map_cons, List.filter_cons, List.filter_cons (x := k)]
    by_cases hik : i < k
    · have hb : btw (i : Int) (k : Int) = ⟨i, k⟩ := by simp only [btw, Edge.mk.injEq]; omega
      rw [hb, decide_eq_true hik]
      by_cases h : (⟨(i : Int), (k : Int)⟩ : Edge) ∈ E
      · rw [if_pos (decide_eq_true h), List.map_cons, List.filter_cons, sideC_peer, if_pos (decide_eq_true (by omega)), List.map_cons, ih]
        simp [h, sideC_peer]
      · rw [if_neg (by simp [h]), ih]
        simp [h]
    · rw [decide_eq_false hik]
      split
      · rw [List.map_cons, List.filter_cons, sideC_peer, if_neg (by simp; omega), ih]; simp
      · rw [ih]; simp
theorem graph_table {N : Int} {E : List Edge} {c : List Int} (ok : OkG N E) : graphR (tableL N E c) = (N, E, true) := by
  have n0 := ok.n0
  have hn : ((N.toNat : Nat) : Int) = N := by omega
  have h1 : nodesOk (tableL N E c) (tableL N E c).length = true := by
    unfold nodesOk
    rw [List.all_eq_true]
    intro i hi
    rw [tableL_length] at hi
    have hi := List.mem_range.1 hi
    rw [tableL_at hi, Bool.and_eq_true]
    refine ⟨decide_eq_true rfl, ?_⟩
    exact sidesOk_table ok hi (List.range N.toNat) (-1) (range_up _) fun k hk => ⟨by omega, List.mem_range.1 hk⟩
  have h2 : edgesD (tableL N E c) (tableL N E c).length = E := by
    rw [tableL_length]
    refine rises_ext ?_ ok.rise fun x => ?_
    · unfold edgesD Rises
      rw [List.pairwise_flatMap]
      refine ⟨fun i hi => ?_, ?_⟩
      · rw [tableL_at (List.mem_range.1 hi)]
        show (edgesS i (sidesTo E c i N.toNat)).Pairwise _
        unfold sidesTo
        rw [edgesS_table]
        refine List.Pairwise.filter _ ?_
        rw [List.pairwise_map]
        exact (List.Pairwise.filter _ (range_up _)).imp fun {a b} hab => by simp [ahead, hab]
      · refine (range_up N.toNat).imp_of_mem fun {a b} ha hb hab x hx y hy => ?_
        rw [tableL_at (List.mem_range.1 ha)] at hx
        rw [tableL_at (List.mem_range.1 hb)] at hy
        unfold edgesS at hx hy
        obtain ⟨s, _, rfl⟩ := List.mem_map.1 hx
        obtain ⟨t, _, rfl⟩ := List.mem_map.1 hy
        simp [ahead]
        omega
    · unfold edgesD
      rw [List.mem_flatMap]
      constructor
      · rintro ⟨i, hi, hx⟩
        rw [tableL_at (List.mem_range.1 hi)] at hx
        have hx : x ∈ edgesS i (sidesTo E c i N.toNat) := hx
        unfold sidesTo at hx
        rw [edgesS_table] at hx
        simpa using (List.mem_filter.1 hx).2
      · intro hx
        obtain ⟨a, b⟩ := x
        have hb := ok.each _ hx
        dsimp only at hb
        refine ⟨a.toNat, List.mem_range.2 (by omega), ?_⟩
        rw [tableL_at (by omega)]
        show _ ∈ edgesS a.toNat (sidesTo E c a.toNat N.toNat)
        unfold sidesTo
        rw [edgesS_table, List.mem_filter]
        exact ⟨List.mem_map.2 ⟨b.toNat, List.mem_filter.2 ⟨List.mem_range.2 (by omega), by simp; omega⟩, by simp only [Edge.mk.injEq]; omega⟩, by simpa using hx⟩
  unfold graphR graphB
  rw [h1, h2, tableL_length, hn, okG_iff.2 ok]
  rfl
end Go.Proofs.YtfbambemjokmgaaGreat
namespace Go.Proofs.YtfbambemjokmgaaGreat
open Go.RowKit
theorem keepG {w W : World} {g : Nat} {o : Obj} (h : w.heap[g]? = some o) (e : Ext w W) : W.heap[g]? = some o := (e.block _ (blk_lt h)).trans h
theorem okG_few {N : Int} {E : List Edge} (h : okG N E = true) : N ≤ 64 := by
  unfold okG at h
  simp only [Bool.and_eq_true, decide_eq_true_eq] at h
  omega
theorem okG_chk {N : Int} {E : List Edge} {b : Bool} (h : okG N E = b) : chk N E = if b = true then 0 else 30 := by unfold chk; rw [h]
set_option maxRecDepth 100000 in
set_option maxHeartbeats 4000000 in
theorem pFits_any (w : World) (v : Value) (L : List Dn) (k : Nat) (d : Dn) (h : Ns DV Non w v L) (hd : L[k]? = some d) (t : Bool) (ht : (sidesOk L k (-1) d.sides && decide (d.id = k)) = t) :
    Calls Tryz.prog 144 #[v, .int .i64 k] w fun e w' => e = .returned (.bool t) ∧ Ext w w' := by
  have hk : k < L.length := (List.getElem?_eq_some_iff.1 hd).1
  obtain ⟨ao, c, rfl⟩ := h.len
  have HS := Lib.hid h
  have HT := Lib.hid ht
  obtain ⟨b1, o1, so, sc, d', hdk, rfl, hn, hnc, hc63, hb, hsl, hcell⟩ := h.dinerAt hk
  obtain rfl : d = d' := by have := hd.symm.trans hdk; simpa using this
  have HC : Hid (∀ V, Ext w V → V.cell? ⟨b1, o1 + k * 3, none⟩ = some (.int .i64 d.id) ∧ V.cell? ⟨b1, o1 + k * 3 + 1, none⟩ = some (.int .i64 d.phase) ∧ V.cell? ⟨b1, o1 + k * 3 + 2, none⟩ = some (.slice so d.sides.length sc)) := Lib.hid hcell
  have HSD := Lib.hid hsl.sl
  have hdl := hsl.sl.length_le
  obtain ⟨a0, a1, a2⟩ := hcell w (Ext.refl _)
  clear h ht hd hdk hn hsl hcell a0 a1
  go_enter Tryz.func144, Tryz.ntmps144
  go_wp2
  go_loopw [5, 16] (fun la i wr => ∃ j : Nat, j ≤ d.sides.length ∧ i = .int .i64 j ∧ la = .int .i64 (lastP (-1) (d.sides.take j)) ∧ Hid (sidesOk L k (-1) (d.sides.take j) = true) ∧ Hid (Ext w wr)) (fun _ i _ => d.sides.length - (intOf i).toNat)
  case atStart => exact ⟨0, Nat.zero_le _, rfl, rfl, Lib.hid rfl, Lib.hid (Ext.refl _)⟩
  case round =>
    obtain ⟨j, hj, rfl, rfl, HQ, HX⟩ := hrel
    by_cases hlt2 : j < d.sides.length
    · obtain ⟨b2, o2, s, hsy, hsj, rfl, hn2, hnc2, hc632, hb2, hcs⟩ := HSD.out.sidesAt hlt2
      obtain ⟨⟨⟨x0, x1⟩, x2, x3⟩, ⟨x4, x5⟩, x6, x7⟩ := hcs wr HX.out
      have htk : d.sides.take (j + 1) = d.sides.take j ++ [s] := by rw [List.take_succ_eq_append_getElem hlt2, (List.getElem?_eq_some_iff.1 hsj).2]
      have HOK1 : Hid (sidesOk L k (-1) (d.sides.take (j + 1)) = sideOk L k (lastP (-1) (d.sides.take j)) s) := Lib.hid (by rw [htk, sidesOk_app, HQ.out, Bool.true_and])
      have HLP : Hid (lastP (-1) (d.sides.take (j + 1)) = s.peer) := Lib.hid (by rw [htk, lastP_app])
      have HBAD0 : Hid (sidesOk L k (-1) (d.sides.take (j + 1)) = false → false = t) := Lib.hid fun e => by
        have := sidesOk_pre L k _ (d.sides.drop (j + 1)) (-1) e
        rw [List.take_append_drop] at this
        rw [← HT.out, this]; rfl
      have hl1 : -1 ≤ lastP (-1) (d.sides.take j) := lastP_low L k _ _ HQ.out
      obtain ⟨la, hla⟩ : ∃ la, la = lastP (-1) (d.sides.take j) := ⟨_, rfl⟩
      rw [← hla] at HOK1 hl1 ⊢
      obtain ⟨W1, hW1⟩ : ∃ W1, W1 = wr.alloc (.cells s.cs 66) := ⟨_, rfl⟩
      have X1 : Hid (Ext w W1) := Lib.hid (hW1 ▸ HX.out.alloc _)
      have D1 : Hid (W1.heap[wr.heap.size]? = some (.cells s.cs 66 (0, 0))) := Lib.hid (hW1 ▸ at0 wr _)
      have HW1 := Lib.hid hW1
      have p0 : W1.cell? ⟨wr.heap.size, 0, none⟩ = some (.int .i64 s.peer) := blk_cell D1.out 0 rfl
      clear hla htk hsy hsj hcs hn2 hW1
      obtain ⟨y0, y1, y2, y3, y4, y5, y6, y7⟩ := s
      dsimp only at x0 x1 x2 x3 x4 x5 x6 x7 HLP p0
      dsimp only [Sd.cs] at HW1 D1
      go_upto_region 5 with (fail)
      rw [← HW1.out]
      clear x0 x1 x2 x3 x4 x5 x6 x7
      by_cases h1 : y0 ≤ la
      · have HF : Hid (false = t) := Lib.hid (HBAD0.out (HOK1.out.trans (by unfold sideOk; rw [decide_eq_false (show ¬ la < y0 by omega)]; rfl)))
        go_wp2
        go_ret
        exact ⟨ret_bool HF.out, X1.out⟩
      by_cases h2 : (L.length : Int) ≤ y0
      · have HF : Hid (false = t) := Lib.hid (HBAD0.out (HOK1.out.trans (by unfold sideOk; rw [decide_eq_false (show ¬ y0 < (L.length : Int) by omega)]; simp)))
        go_wp2
        go_ret
        exact ⟨ret_bool HF.out, X1.out⟩
      by_cases h3 : y0 = (k : Int)
      · have HF : Hid (false = t) := Lib.hid (HBAD0.out (HOK1.out.trans (by unfold sideOk; simp [h3])))
        have e3 : (y0 == (k : Int)) = true := by simp [h3]
        clear h3
        go_wp2
        go_ret
        exact ⟨ret_bool HF.out, X1.out⟩
      obtain ⟨pn, rfl⟩ : ∃ pn : Nat, y0 = (pn : Int) := ⟨y0.toNat, by omega⟩
      have hpn : pn < L.length := by omega
      have e3 : ((pn : Int) == (k : Int)) = false := by simp; omega
      obtain ⟨b3, o3, so3, sc3, f, hfk, hao, hn3, hnc3, hc633, hb3, hsl3, hcell3⟩ := HS.out.dinerAt hpn
      simp only [Option.some.injEq, Addr.mk.injEq, and_true] at hao
      obtain ⟨rfl, rfl⟩ := hao
      obtain ⟨z0, z1, z2⟩ := hcell3 W1 X1.out
      have HSE := Lib.hid hsl3.sl
      obtain ⟨⟨x, xb⟩, hxs⟩ : ∃ q, sideR f.sides (k : Int) = q := ⟨_, rfl⟩
      have HXS := Lib.hid hxs
      have HOK2 : Hid (sidesOk L k (-1) (d.sides.take (j + 1)) = xb) := Lib.hid (HOK1.out.trans (by
        unfold sideOk
        dsimp only
        rw [decide_eq_true (show la < (pn : Int) by omega), decide_eq_true (show (pn : Int) < (L.length : Int) by omega), decide_eq_true (show (pn : Int) ≠ (k : Int) from h3), Int.toNat_natCast, List.getD_eq_getElem?_getD, hfk]
        show (true && (true && (true && (sideR f.sides (k : Int)).2))) = xb
        rw [hxs]; rfl))
      clear hcell3 hfk hn3 hsl3 hxs h3 HOK1
      obtain ⟨f0, f1, f2⟩ := f
      obtain ⟨x0, x1, x2, x3, x4, x5, x6, x7⟩ := x
      dsimp only at z0 z1 z2 HSE HXS
      cases xb
      · have HF : Hid (false = t) := Lib.hid (HBAD0.out HOK2.out)
        go_wp2_with (first
          | (go_at_call 116; refine (pSide_any _ f0 f1 _ f2 k (HSE.out.ext X1.out) _ _ HXS.out).mono ?_; rintro e4 w4 ⟨rfl, hx⟩; dsimp only [Sd.cs]; have X4 := Lib.hid (X1.out.trans hx); clear hx))
        go_ret
        exact ⟨ret_bool HF.out, X4.out.alloc _⟩
      · go_wp2_with (first
          | (go_at_call 116; refine (pSide_any _ f0 f1 _ f2 k (HSE.out.ext X1.out) _ _ HXS.out).mono ?_; rintro e4 w4 ⟨rfl, hx⟩; dsimp only [Sd.cs]; have X4 := Lib.hid (X1.out.trans hx); have p4 : (w4.alloc (.cells #[.int .i64 x0, .int .i64 x1, .int .i64 x2, .bool x3, .bool x4, .bool x5, .bool x6, .bool x7] 66)).cell? ⟨wr.heap.size, 0, none⟩ = some (.int .i64 pn) := blk_cell (keepG D1.out (hx.alloc (.cells #[.int .i64 x0, .int .i64 x1, .int .i64 x2, .bool x3, .bool x4, .bool x5, .bool x6, .bool x7] 66))) 0 rfl; clear hx))
        go_roundw
        case rel => exact ⟨j + 1, by omega, by go_num, by rw [HLP.out], HOK2, Lib.hid (X4.out.alloc _)⟩
        case measure => simp [intOf]; omega
    · have hjl : j = d.sides.length := by omega
      have hq := HQ.out
      rw [hjl, List.take_length] at hq
      obtain ⟨a0, a1, a2⟩ := HC.out wr HX.out
      have HF : Hid (decide (d.id = (k : Int)) = t) := Lib.hid (by rw [← HT.out, hq, Bool.true_and])
      obtain ⟨s, hs⟩ : ∃ s, (d.id == (k : Int)) = s := ⟨_, rfl⟩
      have HG : Hid (s = t) := Lib.hid (by rw [← HF.out, ← hs]; rfl)
      clear hq HQ hjl a1 a2
      go_wp2
      go_ret
      exact ⟨ret_bool HG.out, HX.out⟩
set_option maxRecDepth 100000 in
set_option maxHeartbeats 4000000 in
theorem pGraph_any (w : World) (v : Value) (L : List Dn) (h : Ns DV Non w v L) (hl : L.length ≤ 100) (hls : ∀ d ∈ L, d.sides.length ≤ 100) (N' : Int) (E' : List Edge) (t : Bool) (ht : graphR L = (N', E', t)) :
    Calls Tryz.prog 107 #[v] w (GivesGr w N' E' t) := by
  obtain ⟨ao, c, rfl⟩ := h.len
  have HS := Lib.hid h
  have HT := Lib.hid ht
  have HLS := Lib.hid hls
  have HEL : Hid (∀ k, k ≤ L.length → (edgesD L k).length ≤ 100 * k) := Lib.hid fun k => by
    induction k with
    | zero => intro _; simp [edgesD]
    | succ k ih =>
      intro hk
      rw [edgesD_next, List.length_append]
      have h1 := edgesS_len k (L.getD k ⟨0, 0, []⟩).sides
      have h2 := hls _ (getD_mem (show k < L.length by omega) ⟨0, 0, []⟩)
      have := ih (by omega)
      omega
  clear h ht hls
  go_enter Tryz.func107, Tryz.ntmps107
  by_cases h64 : (64 : Int) < (L.length : Int)
  · have HF := Lib.hid (HT.out.symm.trans (graphR_no (by
      unfold graphB
      cases ho : okG (L.length : Int) (edgesD L L.length) with
      | false => rw [Bool.and_false]
      | true => have := okG_few ho; omega)))
    go_wp2
    obtain ⟨rfl, rfl, rfl⟩ := three HF.out
    exact bodyPost_ret (v := .tuple #[.agg #[.int .i64 0, .slice none 0 0], .bool false]) (by simp [results, Tryz.results107, go_sem]) rfl ⟨_, rfl, Sl.empty _ _ _ (by omega) (fun _ => rfl), (by repeat (first | exact Ext.refl _ | assumption | refine Ext.alloc ?_ _ | refine Ext.drew ?_ | refine Ext.drewN ?_ _))⟩
  go_wp2
  go_loopw [18] (fun i wr => ∃ k : Nat, k ≤ L.length ∧ i = .int .i64 k ∧ Hid (nodesOk L k = true) ∧ Hid (GrAt w L.length (edgesD L k) wr)) (fun i _ => L.length - (intOf i).toNat)
  case atStart => exact ⟨0, Nat.zero_le _, rfl, Lib.hid rfl, Lib.hid (GrAt.start w _)⟩
  case round =>
    obtain ⟨k, hk, rfl, HN, HA⟩ := hrel
    obtain ⟨eo, en, ec, ⟨r0, r1⟩, ⟨u0, u1⟩, ⟨s0, s1⟩, u3, hown⟩ := HA.out.cells
    by_cases hlt : k < L.length
    · obtain ⟨b1, o1, so, sc, d, hdk, rfl, hn, hnc, hc63, hb, hsl, hcell⟩ := HS.out.dinerAt hlt
      have hdd : L.getD k ⟨0, 0, []⟩ = d := by rw [List.getD_eq_getElem?_getD, hdk]; rfl
      have HDK := Lib.hid hdk
      have HNX := Lib.hid (nodesOk_next L k)
      have HEX := Lib.hid (edgesD_next L k)
      have HNO := Lib.hid (fun e => nodesOk_no (L := L) hlt e)
      rw [hdd] at HNX HEX HNO
      have hdl : d.sides.length ≤ 100 := HLS.out d (List.mem_of_getElem? hdk)
      have HSD := Lib.hid hsl.sl
      obtain ⟨a0, a1, a2⟩ := hcell wr HA.out.ext
      have HA1 := Lib.hid (HA.out.more ((Ext.refl _).alloc (.cells #[.int .i64 d.id, .int .i64 d.phase, .slice so d.sides.length sc] 61)))
      have HDB := Lib.hid (at0 wr (.cells #[.int .i64 d.id, .int .i64 d.phase, .slice so d.sides.length sc] 61))
      obtain ⟨ok, hok⟩ : ∃ ok, (sidesOk L k (-1) d.sides && decide (d.id = (k : Int))) = ok := ⟨_, rfl⟩
      have HOK := Lib.hid hok
      clear hcell hdd hn hsl hdk hown hok
      cases ok
      · have HF := Lib.hid (HT.out.symm.trans (graphR_no (by unfold graphB; rw [HNO.out (by rw [Bool.and_comm]; exact HOK.out)]; rfl)))
        go_wp2_with (first
          | (go_at_call 144; refine (pFits_any _ _ L k d (HS.out.ext HA1.out.ext) HDK.out _ HOK.out).mono ?_; rintro e2 w2 ⟨rfl, hx⟩; have HB5 := Lib.hid (HA1.out.more hx); obtain ⟨eo5, en5, ec5, ⟨l0, l1⟩, ⟨l2, l3⟩, ⟨l4, l5⟩, l6, l7⟩ := HB5.out.cells; clear hx l7))
        obtain ⟨rfl, rfl, rfl⟩ := three HF.out
        exact bodyPost_ret (v := .tuple #[.agg #[.int .i64 0, .slice none 0 0], .bool false]) (by simp [results, Tryz.results107, go_sem, l0, l1]) rfl ⟨_, rfl, Sl.empty _ _ _ (by omega) (fun _ => rfl), below_set (below_set HB5.out.ext (Nat.le_refl _) _) (Nat.le_refl _) _⟩
      · have hsd : sidesOk L k (-1) d.sides = true ∧ decide (d.id = (k : Int)) = true := by have := HOK.out; rwa [Bool.and_eq_true] at this
        have HNX2 : Hid (nodesOk L (k + 1) = true) := Lib.hid (HNX.out.trans (by rw [HN.out, hsd.1, hsd.2]; rfl))
        clear hsd
        go_wp2_with (first
          | (go_at_call 144; refine (pFits_any _ _ L k d (HS.out.ext HA1.out.ext) HDK.out _ HOK.out).mono ?_; rintro e2 w2 ⟨rfl, hx⟩; have HB1 := Lib.hid (HA1.out.more hx); have d2 := blk_cell (keepG HDB.out hx) 2 rfl; clear hx))
        go_loopw [31] (fun i wr => ∃ j : Nat, j ≤ d.sides.length ∧ i = .int .i64 j ∧ Hid (GrAt w L.length (edgesD L k ++ edgesS k (d.sides.take j)) wr)) (fun i _ => d.sides.length - (intOf i).toNat)
        case atStart => exact ⟨0, Nat.zero_le _, rfl, Lib.hid (by rw [List.take_zero]; show GrAt w L.length (edgesD L k ++ []) _; rw [List.append_nil]; exact HB1.out)⟩
        case round =>
          obtain ⟨j, hj, rfl, HB⟩ := hrel
          by_cases hlt2 : j < d.sides.length
          · obtain ⟨b2, o2, s, hsy, hsj, rfl, hn2, hnc2, hc632, hb2, hcs⟩ := HSD.out.sidesAt hlt2
            obtain ⟨⟨⟨x0, x1⟩, x2, x3⟩, ⟨x4, x5⟩, x6, x7⟩ := hcs wr HB.out.ext
            have htk : d.sides.take (j + 1) = d.sides.take j ++ [s] := by rw [List.take_succ_eq_append_getElem hlt2, (List.getElem?_eq_some_iff.1 hsj).2]
            have HEP : Hid (edgesS k (d.sides.take (j + 1)) = edgesS k (d.sides.take j) ++ (if decide ((k : Int) < s.peer) = true then [⟨k, s.peer⟩] else [])) := Lib.hid (by rw [htk, edgesS_app])
            obtain ⟨S, hS⟩ : ∃ S, S = edgesD L k ++ edgesS k (d.sides.take j) := ⟨_, rfl⟩
            have hSl : S.length ≤ 20000 := by
              rw [hS, List.length_append]
              have q1 := HEL.out k hk
              have q2 := edgesS_len k (d.sides.take j)
              rw [List.length_take] at q2
              omega
            rw [← hS] at HB
            have HEP2 : Hid (edgesD L k ++ edgesS k (d.sides.take (j + 1)) = S ++ (if decide ((k : Int) < s.peer) = true then [⟨k, s.peer⟩] else [])) := Lib.hid (by rw [HEP.out, hS, List.append_assoc])
            obtain ⟨W1, hW1⟩ : ∃ W1, W1 = wr.alloc (.cells s.cs 66) := ⟨_, rfl⟩
            have HB2 := Lib.hid (HB.out.more (show Ext wr W1 from hW1 ▸ (Ext.refl _).alloc _))
            have D1 : Hid (W1.heap[wr.heap.size]? = some (.cells s.cs 66 (0, 0))) := Lib.hid (hW1 ▸ at0 wr _)
            have HW1 := Lib.hid hW1
            have p0 : W1.cell? ⟨wr.heap.size, 0, none⟩ = some (.int .i64 s.peer) := blk_cell D1.out 0 rfl
            clear htk hsy hsj hcs hn2 hS HEP hW1
            obtain ⟨y0, y1, y2, y3, y4, y5, y6, y7⟩ := s
            dsimp only at x0 x1 x2 x3 x4 x5 x6 x7 HEP2 p0
            dsimp only [Sd.cs] at HW1 D1
            go_upto_region 12 with (fail)
            rw [← HW1.out]
            clear x0 x1 x2 x3 x4 x5 x6 x7
            obtain ⟨eo5, en5, ec5, ⟨l0, l1⟩, ⟨l2, l3⟩, ⟨l4, l5⟩, l6, l7⟩ := HB2.out.cells
            have HO5 := Lib.hid l7
            clear l7
            by_cases hkp : (k : Int) < y0
            · have HEP3 : Hid (edgesD L k ++ edgesS k (d.sides.take (j + 1)) = S ++ [⟨k, y0⟩]) := Lib.hid (HEP2.out.trans (by rw [if_pos (decide_eq_true hkp)]))
              go_wp2_with (first
                | (at_builtin; refine wpList_append_sl (α := Edge) rfl (.tmp 40) (.tmp 45) rfl (w.heap.size + 2) _ S rfl ?_ (.slice (some ⟨_, 0, none⟩) 1 1) [(⟨(k : Int), y0⟩ : Edge)] rfl ?_ ?_ ?_ ?_; exact (HO5.out.alloc _); exact (Sl.litAt _ _ (by simp) [(⟨(k : Int), y0⟩ : Edge)] (show (1 : Nat) ≤ 1000000 by decide)); (first | omega | (simp; omega)); exact (by rw [size_alloc]; have q1 := blk_lt HB2.out.res; obtain ⟨_, _, _, q2, _⟩ := HB2.out.blk; have q3 := blk_lt q2; omega); intro v6 W6 ho6 ha6; obtain ⟨a6, n6, c6, rfl⟩ := ho6.sh; have HB6 := Lib.hid (HB2.out.more ((Ext.refl _).alloc (.cells #[.int .i64 (k : Int), .int .i64 y0] 30))); obtain ⟨eo6, en6, ec6, q1, q2⟩ := HB6.out.blk; have q3 := (ha6.below.block _ (by omega)).trans q1; have m0 := blk_cell q3 1 rfl; have m1 := blk_free q3 1; have HST := Lib.hid (HB6.out.step ha6.below ho6); clear ho6 ha6 q1 q2 q3))
              go_roundw
              case rel => exact ⟨j + 1, by omega, by go_num, Lib.hid (by rw [HEP3.out]; exact HST.out)⟩
              case measure => simp [intOf]; omega
            · have HEP3 : Hid (edgesD L k ++ edgesS k (d.sides.take (j + 1)) = S) := Lib.hid (HEP2.out.trans (by rw [if_neg (by simp; omega), List.append_nil]))
              go_wp2
              go_roundw
              case rel => exact ⟨j + 1, by omega, by go_num, Lib.hid (by rw [HEP3.out]; exact HB2.out)⟩
              case measure => simp [intOf]; omega
          · have hjl : j = d.sides.length := by omega
            have hb' := HB.out
            rw [hjl, List.take_length] at hb'
            rw [← HEX.out] at hb'
            have HB2 := Lib.hid hb'
            clear hb' HB hjl
            go_wp2
            go_roundw
            case rel => exact ⟨k + 1, by omega, by go_num, HNX2, HB2⟩
            case measure => simp [intOf]; omega
    · have hkl : k = L.length := by omega
      subst hkl
      have HSLE := Lib.hid hown.sl
      clear hown
      cases ho : okG (L.length : Int) (edgesD L L.length)
      · have HOK := Lib.hid (okG_chk ho)
        have HF := Lib.hid (HT.out.symm.trans (graphR_no (by unfold graphB; rw [ho, Bool.and_false])))
        clear ho
        go_wp2_with (first
          | (go_at_call 145; refine (check_any _ (L.length : Int) _ (edgesD L L.length) HSLE.out 30 HOK.out).mono ?_; rintro e4 w4 ⟨rfl, hx⟩; have HB5 := Lib.hid (HA.out.more hx); obtain ⟨eo5, en5, ec5, ⟨l0, l1⟩, ⟨l2, l3⟩, ⟨l4, l5⟩, l6, l7⟩ := HB5.out.cells; have HO5 := Lib.hid l7; clear hx l7))
        obtain ⟨rfl, rfl, rfl⟩ := three HF.out
        exact bodyPost_ret (v := .tuple #[.agg #[.int .i64 0, .slice none 0 0], .bool false]) (by simp [results, Tryz.results107, go_sem, l0, l1]) rfl ⟨_, rfl, Sl.empty _ _ _ (by omega) (fun _ => rfl), below_set (below_set HB5.out.ext (Nat.le_refl _) _) (Nat.le_refl _) _⟩
      · have HOK := Lib.hid (okG_chk ho)
        have HF := Lib.hid (HT.out.symm.trans (graphR_yes (by unfold graphB; rw [ho, HN.out]; rfl)))
        clear ho
        go_wp2_with (first
          | (go_at_call 145; refine (check_any _ (L.length : Int) _ (edgesD L L.length) HSLE.out 0 HOK.out).mono ?_; rintro e4 w4 ⟨rfl, hx⟩; have HB5 := Lib.hid (HA.out.more hx); obtain ⟨eo5, en5, ec5, ⟨l0, l1⟩, ⟨l2, l3⟩, ⟨l4, l5⟩, l6, l7⟩ := HB5.out.cells; have HO5 := Lib.hid l7; clear hx l7))
        obtain ⟨rfl, rfl, rfl⟩ := three HF.out
        exact bodyPost_ret (v := .tuple #[.agg #[.int .i64 (L.length : Int), .slice eo5 en5 ec5], .bool true]) (by simp [results, Tryz.results107, go_sem, l0, l1]) rfl ⟨_, rfl, (HO5.out.set (d := ⟨w.heap.size, 0, none⟩) (by show w.heap.size < _; omega) _).set (d := ⟨w.heap.size, 1, none⟩) (by show w.heap.size < _; omega) _ |>.sl, below_set (below_set HB5.out.ext (Nat.le_refl _) _) (Nat.le_refl _) _⟩
end Go.Proofs.YtfbambemjokmgaaGreat
namespace Go.Proofs.YtfbambemjokmgaaGreat
open Go.RowKit
theorem side_bits (id last : Int) (s : Sd) : sideD id last s = ((decide (last < s.peer) && (s.peer != id)) && ((decide (0 ≤ s.epoch) && decide (s.epoch ≤ 65535)) && (decide (0 ≤ s.state) && decide (s.state ≤ 3))) && !(s.dirty && !s.fork)) := by
  unfold sideD
  by_cases h : s.peer = id
  · simp [h]
  · have h2 : (s.peer != id) = true := by simp [h]
    rw [h2, decide_eq_true (show s.peer ≠ id from h)]
    simp only [Bool.true_and, Bool.and_true, Bool.and_assoc]
set_option maxRecDepth 100000 in
set_option maxHeartbeats 4000000 in
theorem faults_one (W : World) (g1 g2 : Nat) (la id : Int) (s : Sd) (h1 : W.heap[g1]? = some (.cells #[.int .i64 la] 3 (0, 0))) (h2 : W.heap[g2]? = some (.cells #[.int .i64 id] 3 (0, 0))) (t : Bool) (ht : sideD id la s = t) :
    Calls Tryz.prog 169 #[.agg s.cs, .pointer (some ⟨g1, 0, none⟩), .pointer (some ⟨g2, 0, none⟩)] W fun e W' => e = .returned (.bool (!t)) ∧ Off (fun k => k = g1) W W' ∧ W'.heap[g1]? = some (.cells #[.int .i64 s.peer] 3 (0, 0)) := by
  rw [side_bits] at ht
  obtain ⟨y0, y1, y2, y3, y4, y5, y6, y7⟩ := s
  unfold Sd.cs
  dsimp only at ht ⊢
  have HT := Lib.hid ht
  have HG1 := Lib.hid h1
  have HG2 := Lib.hid h2
  have hl1 := blk_lt h1
  have hl2 := blk_lt h2
  obtain ⟨W1, hW1⟩ : ∃ W1, W1 = W.alloc (.cells #[.int .i64 y0, .int .i64 y1, .int .i64 y2, .bool y3, .bool y4, .bool y5, .bool y6, .bool y7] 66) := ⟨_, rfl⟩
  have X1 : Hid (Ext W W1) := Lib.hid (hW1 ▸ (Ext.refl W).alloc _)
  have D1 : Hid (W1.heap[W.heap.size]? = some (.cells #[.int .i64 y0, .int .i64 y1, .int .i64 y2, .bool y3, .bool y4, .bool y5, .bool y6, .bool y7] 66 (0, 0))) := Lib.hid (hW1 ▸ at0 W _)
  have HW1 := Lib.hid hW1
  clear ht h1 h2 hW1
  go_enter Tryz.func169, Tryz.ntmps169
  go_upto_region 1 with (fail)
  rw [← HW1.out]
  obtain ⟨⟨⟨x0, x1⟩, x2, x3⟩, ⟨x4, x5⟩, x6, x7⟩ := cells8U D1.out
  have k1 := blk_cell (keepU HG1.out X1.out) 0 rfl
  have k2 := blk_cell (keepU HG2.out X1.out) 0 rfl
  go_cut [5] (fun s5 wx => ∃ b, s5 = .bool b ∧ W1 = wx ∧ Hid (b = (decide (la < y0) && (y0 != id))))
  case first =>
    by_cases e1 : la < y0
    · by_cases e2 : y0 = id
      · have t2 : (y0 != id) = false := by simp [e2]
        have HB : Hid (false = (decide (la < y0) && (y0 != id))) := Lib.hid (by rw [t2, Bool.and_false])
        clear e2
        go_wp2_with fail
        go_meet
        exact ⟨_, rfl, rfl, HB⟩
      · have t2 : (y0 != id) = true := by simp [e2]
        have HB : Hid (true = (decide (la < y0) && (y0 != id))) := Lib.hid (by rw [t2, decide_eq_true e1]; rfl)
        clear e2
        go_wp2_with fail
        go_meet
        exact ⟨_, rfl, rfl, HB⟩
    · have HB : Hid (false = (decide (la < y0) && (y0 != id))) := Lib.hid (by rw [decide_eq_false e1]; rfl)
      go_wp2_with fail
      go_meet
      exact ⟨_, rfl, rfl, HB⟩
  case rest =>
    obtain ⟨b5, rfl, rfl, HB5⟩ := hcut
    have fr := blk_free (keepU HG1.out X1.out) 0
    go_upto_region 3 with (fail)
    obtain ⟨W2, hW2⟩ : ∃ W2, W2 = W1.setCell ⟨g1, 0, none⟩ (.int .i64 y0) := ⟨_, rfl⟩
    rw [← hW2]
    have d2 : W2.heap[W.heap.size]? = some (.cells #[.int .i64 y0, .int .i64 y1, .int .i64 y2, .bool y3, .bool y4, .bool y5, .bool y6, .bool y7] 66 (0, 0)) := by rw [hW2, set_other _ _ _ _ (by show W.heap.size ≠ g1; omega)]; exact D1.out
    have G2 : Hid (W2.heap[g1]? = some (.cells #[.int .i64 y0] 3 (0, 0))) := Lib.hid (by rw [hW2, blk_set (keepU HG1.out X1.out)]; rfl)
    have O2 : Hid (Off (fun k => k = g1) W W2) := Lib.hid (hW2 ▸ (Off.of_ext X1.out).trans (off_set W1 ⟨g1, 0, none⟩ _) (Grows.refl _ _))
    clear hW2 x0 x1 x2 x3 x4 x5 x6 x7 k1 k2 fr
    obtain ⟨⟨⟨x0, x1⟩, x2, x3⟩, ⟨x4, x5⟩, x6, x7⟩ := cells8U d2
    clear d2
    go_cut [6] (fun s6 wx => ∃ b, s6 = .bool b ∧ W2 = wx ∧ Hid (b = ((decide (0 ≤ y1) && decide (y1 ≤ 65535)) && (decide (0 ≤ y2) && decide (y2 ≤ 3)))))
    case first =>
      by_cases e1 : 0 ≤ y1
      · by_cases e2 : y1 ≤ 65535
        · by_cases e3 : 0 ≤ y2
          · by_cases e4 : y2 ≤ 3
            · have HB : Hid (true = ((decide (0 ≤ y1) && decide (y1 ≤ 65535)) && (decide (0 ≤ y2) && decide (y2 ≤ 3)))) := Lib.hid (by rw [decide_eq_true e1, decide_eq_true e2, decide_eq_true e3, decide_eq_true e4]; rfl)
              go_wp2_with fail
              go_meet
              exact ⟨_, rfl, rfl, HB⟩
            · have HB : Hid (false = ((decide (0 ≤ y1) && decide (y1 ≤ 65535)) && (decide (0 ≤ y2) && decide (y2 ≤ 3)))) := Lib.hid (by rw [decide_eq_false e4]; simp)
              go_wp2_with fail
              go_meet
              exact ⟨_, rfl, rfl, HB⟩
          · have HB : Hid (false = ((decide (0 ≤ y1) && decide (y1 ≤ 65535)) && (decide (0 ≤ y2) && decide (y2 ≤ 3)))) := Lib.hid (by rw [decide_eq_false e3]; simp)
            go_wp2_with fail
            go_meet
            exact ⟨_, rfl, rfl, HB⟩
        · have HB : Hid (false = ((decide (0 ≤ y1) && decide (y1 ≤ 65535)) && (decide (0 ≤ y2) && decide (y2 ≤ 3)))) := Lib.hid (by rw [decide_eq_false e2]; simp)
          go_wp2_with fail
          go_meet
          exact ⟨_, rfl, rfl, HB⟩
      · have HB : Hid (false = ((decide (0 ≤ y1) && decide (y1 ≤ 65535)) && (decide (0 ≤ y2) && decide (y2 ≤ 3)))) := Lib.hid (by rw [decide_eq_false e1]; simp)
        go_wp2_with fail
        go_meet
        exact ⟨_, rfl, rfl, HB⟩
    case rest =>
      obtain ⟨b6, rfl, rfl, HB6⟩ := hcut
      have HF : Hid (t = (b5 && b6 && !(y4 && !y3))) := Lib.hid (by rw [← HT.out, HB5.out, HB6.out])
      clear HT HB5 HB6
      cases b5
      · go_wp2
        go_ret
        exact ⟨ret_bool (by rw [HF.out]; rfl), O2.out, G2.out⟩
      cases b6
      · go_wp2
        go_ret
        exact ⟨ret_bool (by rw [HF.out]; rfl), O2.out, G2.out⟩
      cases y4
      · go_wp2
        go_ret
        exact ⟨ret_bool (by rw [HF.out]; rfl), O2.out, G2.out⟩
      cases y3
      · go_wp2
        go_ret
        exact ⟨ret_bool (by rw [HF.out]; rfl), O2.out, G2.out⟩
      · go_wp2
        go_ret
        exact ⟨ret_bool (by rw [HF.out]; rfl), O2.out, G2.out⟩
set_option maxHeartbeats 1000000 in
theorem faults_any (W : World) (id : Int) : Calls Tryz.prog 143 #[.int .i64 id] W fun e W' => ∃ g1 g2, e = .returned (.func (.func 169) #[] #[.pointer (some ⟨g1, 0, none⟩), .pointer (some ⟨g2, 0, none⟩)]) ∧ W'.heap[g1]? = some (.cells #[.int .i64 (-1)] 3 (0, 0)) ∧ W'.heap[g2]? = some (.cells #[.int .i64 id] 3 (0, 0)) ∧ g1 ≠ g2 ∧ W.heap.size ≤ g1 ∧ Ext W W' := by
  have hmf : ∀ (fn : Fn) (first cap : Array Value) (w : World), (Instr.makeFunc fn first cap).run Tryz.prog w = .ok (.func fn first cap) w := fun _ _ _ _ => rfl
  have q2 := at1 W (.cells #[.int .i64 id] 3) (.cells #[.int .i64 0] 3)
  have f2 := blk_free q2 0
  clear q2
  go_enter Tryz.func143, Tryz.ntmps143
  go_wp2
  go_ret
  exact ⟨_, _, rfl, at1 W _ _, old1 (at0 W _) _, by omega, by omega, ((Ext.refl W).alloc _).alloc _⟩
def FirstAt (p : Nat → Sd → Bool) (L : List Sd) (r : Int) : Prop := (r = -1 ∧ ∀ k s, L[k]? = some s → p k s = false) ∨ ∃ (k : Nat) (s : Sd), r = (k : Int) ∧ L[k]? = some s ∧ p k s = true ∧ ∀ (j : Nat) (u : Sd), j < k → L[j]? = some u → p j u = false
set_option maxHeartbeats 1000000 in
theorem indexFunc_sd (w : World) (v : Value) (L : List Sd) (g : FuncId) (lb : Array Value) (I : Nat → World → Prop) (p : Nat → Sd → Bool) (eg : ∀ args w, (callFunc g args).run Tryz.prog w = .ok (.enter g args) w)
    (hI : ∀ k W, I k W → Sl W v L) (hs : ∀ k s W, L[k]? = some s → I k W → Calls Tryz.prog g (#[.agg s.cs] ++ lb) W fun e W' => e = .returned (.bool (p k s)) ∧ I (k + 1) W') (h0 : I 0 w) :
    Calls Tryz.prog 162 #[v, .func (.func g) #[] lb] w fun e w' => ∃ r : Int, e = .returned (.int .i64 r) ∧ FirstAt p L r ∧ ∃ k, I k w' := by
  obtain ⟨ao, c, rfl⟩ := (hI 0 w h0).len
  have hlen := (hI 0 w h0).length_le
  have HI := Lib.hid hI
  have HS := Lib.hid hs
  have H0 := Lib.hid h0
  clear hI hs h0
  go_enter Tryz.func162, Tryz.ntmps162
  go_wp2
  go_loopw [8] (fun i wr => ∃ k : Nat, k ≤ L.length ∧ i = .int .i64 k ∧ Hid (∀ (j : Nat) (u : Sd), j < k → L[j]? = some u → p j u = false) ∧ Hid (I k wr)) (fun i _ => L.length - (intOf i).toNat)
  case atStart => exact ⟨0, Nat.zero_le _, rfl, Lib.hid (fun j u hj => by omega), H0⟩
  case round =>
    obtain ⟨k, hk, rfl, HT, HX⟩ := hrel
    by_cases hlt : k < L.length
    · obtain ⟨b, off, y, _, hyk, rfl, hn, hnc, hc63, hb, hcell⟩ := (HI.out k wr HX.out).sidesAt hlt
      obtain ⟨⟨⟨x0, x1⟩, x2, x3⟩, ⟨x4, x5⟩, x6, x7⟩ := hcell wr (Ext.refl _)
      have HY := Lib.hid hyk
      obtain ⟨s, hs⟩ : ∃ s, p k y = s := ⟨_, rfl⟩
      have HH := Lib.hid (hs ▸ HS.out k y wr hyk HX.out)
      have HP := Lib.hid hs
      clear hs hcell hyk hn
      obtain ⟨y0, y1, y2, y3, y4, y5, y6, y7⟩ := y
      unfold Sd.cs at HH
      dsimp only at HH x0 x1 x2 x3 x4 x5 x6 x7
      cases s
      · go_wp2_with (go_at_fn g; refine HH.out.mono ?_; rintro e w1 ⟨rfl, hx⟩; have HX1 := Lib.hid hx; clear hx)
        go_roundw
        case rel => exact ⟨k + 1, by omega, by go_num, Lib.hid (fun j u hj hu => by
          rcases Nat.lt_or_ge j k with h | h
          · exact HT.out j u h hu
          · obtain rfl : j = k := by omega
            have := HY.out.symm.trans hu
            simp only [Option.some.injEq] at this
            rw [← this]; exact HP.out), HX1⟩
        case measure => simp [intOf]; omega
      · go_wp2_with (go_at_fn g; refine HH.out.mono ?_; rintro e w1 ⟨rfl, hx⟩; have HX1 := Lib.hid hx; clear hx)
        go_ret
        exact ⟨_, rfl, .inr ⟨k, _, rfl, HY.out, HP.out, HT.out⟩, k + 1, HX1.out⟩
    · have hkl : k = L.length := by omega
      go_wp2
      go_ret
      exact ⟨_, rfl, .inl ⟨rfl, fun j u hu => HT.out j u (by have := (List.getElem?_eq_some_iff.1 hu).1; omega) hu⟩, k, HX.out⟩
set_option maxHeartbeats 1000000 in
theorem containsFunc_sd (w : World) (v : Value) (L : List Sd) (g : FuncId) (lb : Array Value) (I : Nat → World → Prop) (p : Nat → Sd → Bool) (eg : ∀ args w, (callFunc g args).run Tryz.prog w = .ok (.enter g args) w)
    (hI : ∀ k W, I k W → Sl W v L) (hs : ∀ k s W, L[k]? = some s → I k W → Calls Tryz.prog g (#[.agg s.cs] ++ lb) W fun e W' => e = .returned (.bool (p k s)) ∧ I (k + 1) W') (h0 : I 0 w)
    (t : Bool) (h1 : (∀ k s, L[k]? = some s → p k s = false) → t = false) (h2 : ∀ (k : Nat) (s : Sd), L[k]? = some s → p k s = true → (∀ (j : Nat) (u : Sd), j < k → L[j]? = some u → p j u = false) → t = true) :
    Calls Tryz.prog 142 #[v, .func (.func g) #[] lb] w fun e w' => e = .returned (.bool t) ∧ ∃ k, I k w' := by
  have HC := Lib.hid (indexFunc_sd w v L g lb I p eg hI hs h0)
  have H1 := Lib.hid h1
  have H2 := Lib.hid h2
  clear hI hs h0 h1 h2 eg
  go_enter Tryz.func142, Tryz.ntmps142
  go_wp2_with (go_at_call 162; refine HC.out.mono ?_; rintro e w1 ⟨r, rfl, hr, hx⟩; have HR := Lib.hid hr; have HX := Lib.hid hx; clear hr hx)
  go_ret
  refine ⟨ret_bool ?_, HX.out⟩
  rcases HR.out with ⟨e, h⟩ | ⟨k, s, e, ha, hb, hc⟩
  · rw [H1.out h, e]; rfl
  · rw [H2.out k s ha hb hc, e]; simp
end Go.Proofs.YtfbambemjokmgaaGreat
namespace Go.Proofs.YtfbambemjokmgaaGreat
open Go.RowKit
theorem cells3V {w : World} {g : Nat} {u0 u1 u2 : Value} {t : TypeId} (h : w.heap[g]? = some (.cells #[u0, u1, u2] t (0, 0))) :
    w.cell? ⟨g, 0, none⟩ = some u0 ∧ w.cell? ⟨g, 1, none⟩ = some u1 ∧ w.cell? ⟨g, 2, none⟩ = some u2 := ⟨blk_cell h 0 rfl, blk_cell h 1 rfl, blk_cell h 2 rfl⟩
set_option maxRecDepth 100000 in
set_option maxHeartbeats 4000000 in
theorem sameDn_any (w : World) (id1 ph1 id2 ph2 : Int) (v1 v2 : Value) (L M : List Sd) (h : Sl w v1 L) (g : Sl w v2 M) (t : Bool) (ht : decide ((⟨id1, ph1, L⟩ : Dn) = ⟨id2, ph2, M⟩) = t) :
    Calls Tryz.prog 117 #[.agg #[.int .i64 id1, .int .i64 ph1, v1], .agg #[.int .i64 id2, .int .i64 ph2, v2]] w fun e w' => e = .returned (.bool t) ∧ Ext w w' := by
  obtain ⟨ao1, c1, rfl⟩ := h.len
  obtain ⟨ao2, c2, rfl⟩ := g.len
  obtain ⟨W0, hW0⟩ : ∃ W0, W0 = (w.alloc (.cells #[.int .i64 id1, .int .i64 ph1, .slice ao1 L.length c1] 61)).alloc (.cells #[.int .i64 id2, .int .i64 ph2, .slice ao2 M.length c2] 61) := ⟨_, rfl⟩
  have X0 : Hid (Ext w W0) := Lib.hid (hW0 ▸ ((Ext.refl w).alloc _).alloc _)
  have hD : W0.heap[w.heap.size]? = some (.cells #[.int .i64 id1, .int .i64 ph1, .slice ao1 L.length c1] 61 (0, 0)) := hW0 ▸ old1 (at0 w _) _
  have hE : W0.heap[w.heap.size + 1]? = some (.cells #[.int .i64 id2, .int .i64 ph2, .slice ao2 M.length c2] 61 (0, 0)) := hW0 ▸ at1 w _ _
  obtain ⟨s, hs⟩ : ∃ s, decide (L = M) = s := ⟨_, rfl⟩
  have HC := Lib.hid (equal_sd W0 _ _ L M (h.ext X0.out) (g.ext X0.out) s hs)
  have HW0 := Lib.hid hW0
  have HT : Hid ((decide (id1 = id2) && (decide (ph1 = ph2) && s)) = t) := Lib.hid (by
    rw [← ht, ← hs]
    by_cases h1 : id1 = id2 <;> by_cases h2 : ph1 = ph2 <;> by_cases h3 : L = M <;> simp [h1, h2, h3])
  have d0 := blk_cell hD 0 rfl
  have d1 := blk_cell hD 1 rfl
  have d2 := blk_cell hD 2 rfl
  have e0 := blk_cell hE 0 rfl
  have e1 := blk_cell hE 1 rfl
  have e2 := blk_cell hE 2 rfl
  clear h g hW0 hD hE hs ht
  by_cases q1 : id1 = id2
  · have t1 : (id1 == id2) = true := by simp [q1]
    by_cases q2 : ph1 = ph2
    · have t2 : (ph1 == ph2) = true := by simp [q2]
      have HF : Hid (s = t) := Lib.hid (by rw [← HT.out, decide_eq_true q1, decide_eq_true q2]; rfl)
      clear q1 q2 HT
      go_enter Tryz.func117, Tryz.ntmps117
      go_upto_region 1 with (fail)
      rw [← HW0.out]
      go_wp2_with (first
        | (go_at_call 147; refine HC.out.mono ?_; rintro e w1 ⟨rfl, hx⟩; have X1 : Hid (Ext W0 w1) := Lib.hid hx; clear hx))
      go_ret
      exact ⟨ret_bool HF.out, X0.out.trans X1.out⟩
    · have t2 : (ph1 == ph2) = false := by simp [q2]
      have HF : Hid (false = t) := Lib.hid (by rw [← HT.out, decide_eq_false q2, Bool.false_and, Bool.and_false])
      clear q1 q2 HT
      go_enter Tryz.func117, Tryz.ntmps117
      go_upto_region 1 with (fail)
      rw [← HW0.out]
      go_wp2
      go_ret
      exact ⟨ret_bool HF.out, X0.out⟩
  · have t1 : (id1 == id2) = false := by simp [q1]
    have HF : Hid (false = t) := Lib.hid (by rw [← HT.out, decide_eq_false q1]; rfl)
    clear q1 HT
    go_enter Tryz.func117, Tryz.ntmps117
    go_upto_region 1 with (fail)
    rw [← HW0.out]
    go_wp2
    go_ret
    exact ⟨ret_bool HF.out, X0.out⟩
end Go.Proofs.YtfbambemjokmgaaGreat
