/- Texts of this seat. -/
import Derived.Lib.SliceRun
import Derived.Deep.LoopGhost
import Derived.Test.YtfbambemjokmgaaGreatNAH
import Derived.Test.YtfbambemjokmgaaGreatNAI
namespace Go.Proofs.YtfbambemjokmgaaGreat
open Go.RowKit
theorem ends_some {N : Int} {E : List Edge} (ok : OkG N E) : ∃ k, Ends N E k := by
  have key : ∀ n, (∃ k, Ends N E k) ∨ ∀ j, j < n → (0 : Int) ∈ itr N E j := by
    intro n
    induction n with
    | zero => exact .inr fun j hj => absurd hj (Nat.not_lt_zero _)
    | succ n ih =>
      rcases ih with h | h
      · exact .inl h
      · by_cases hn : (0 : Int) ∈ itr N E n
        · refine .inr fun j hj => ?_
          by_cases e : j = n
          · subst e; exact hn
          · exact h j (by omega)
        · exact .inl ⟨n, h, hn⟩
  rcases key (N.toNat + 1) with h | h
  · exact h
  · have := itr_zeros ok _ h
    omega
def GivesRun (w : World) (d : List Int) (n r : Int) (e : Ending) (w' : World) : Prop := ∃ v, e = .returned (.tuple #[v, .int .i64 n, .int .i64 r]) ∧ Sl w' v d ∧ Ext w w'
theorem run_bad (w : World) (N : Int) (v : Value) (E : List Edge) (h : Sl w v E) (ok : ¬ OkG N E) : Calls Tryz.prog 130 #[.agg #[.int .i64 N, v]] w (GivesRun w [] 0 30) := by
  obtain ⟨vo, vn, vc, rfl⟩ := h.sh
  have HS := Lib.hid h
  have HK := Lib.hid (chk_not ok)
  have HG := Lib.hid (graph_at w N (.slice vo vn vc))
  clear h ok
  go_enter Tryz.func130, Tryz.ntmps130
  go_wp2_with (first
    | (go_at_call 145; refine (check_any _ N _ E (HS.out.ext (by repeat (first | exact Ext.refl _ | assumption | refine Ext.alloc ?_ _ | refine Ext.drew ?_ | refine Ext.drewN ?_ _))) 30 HK.out).mono ?_; rintro e w1 ⟨rfl, hx⟩; have X1 := Lib.hid hx; clear hx))
  exact bodyPost_ret (v := .tuple #[.slice none 0 0, .int .i64 0, .int .i64 30]) (by simp [results, Tryz.results130, go_sem]) rfl ⟨_, rfl, Sl.none _, Ext.trans ((Ext.refl w).alloc _) X1.out⟩
set_option maxHeartbeats 2000000 in
theorem run_ok (w : World) (N : Int) (v : Value) (E : List Edge) (h : Sl w v E) (ok : OkG N E) (K : Nat) (hK : Ends N E K) : Calls Tryz.prog 130 #[.agg #[.int .i64 N, v]] w (GivesRun w (itr N E K) K 0) := by
  obtain ⟨vo, vn, vc, rfl⟩ := h.sh
  have HS := Lib.hid h
  have HCK := Lib.hid (chk_of ok)
  have HOK := Lib.hid ok
  have HE := Lib.hid hK
  have hKN := hK.le ok
  have n0 := ok.n0
  have n64 := ok.n64
  obtain ⟨m, hm⟩ : ∃ m : Nat, (m : Int) = N := ⟨N.toNat, by omega⟩
  subst hm
  have HZ : Hid (List.replicate m (0 : Int) = itr (m : Int) E 0) := Lib.hid rfl
  have hm64 : m ≤ 64 := by omega
  have HG := Lib.hid (graph_at w (m : Int) (.slice vo vn vc))
  clear h ok hK
  go_enter Tryz.func130, Tryz.ntmps130
  go_wp2_with (first
    | (go_at_call 145; refine (check_any _ (m : Int) _ E (HS.out.ext (by repeat (first | exact Ext.refl _ | assumption | refine Ext.alloc ?_ _ | refine Ext.drew ?_ | refine Ext.drewN ?_ _))) 0 HCK.out).mono ?_; rintro e w1 ⟨rfl, hx⟩; have X1 := Lib.hid hx; obtain ⟨a0, a1⟩ := HG.out w1 hx; clear hx)
    | (go_at_call 154; refine (asker_any _ (m : Int) _ E (HS.out.ext (Ext.trans ((Ext.refl w).alloc _) X1.out)) HOK.out).mono ?_; rintro e w2 ⟨fv, rfl, ha, hx⟩; obtain ⟨fg, fl, rfl⟩ := ha.sh; have X2 := Lib.hid (Ext.trans X1.out hx); have HA := Lib.hid ha; obtain ⟨b0, b1⟩ := HG.out w2 X2.out; obtain ⟨w3, hmk, ho3, x3⟩ := make_ow w2 m (by omega); have X3 := Lib.hid (Ext.trans X2.out x3); have O3 := Lib.hid ho3.sl; have Y3 := Lib.hid x3; clear hx ha ho3 x3))
  clear hmk
  go_loopw [7, 8] (fun q r wr => ∃ k : Nat, k ≤ K ∧ r = .int .i64 k ∧ (∃ ao n c, q = .slice ao n c) ∧ Hid (Sl wr q (itr (m : Int) E k)) ∧ Hid (Ext w2 wr)) (fun _ r _ => K - (intOf r).toNat)
  case atStart => exact ⟨0, Nat.zero_le _, rfl, ⟨_, _, _, rfl⟩, Lib.hid (by rw [← HZ.out]; exact O3.out), Lib.hid Y3.out⟩
  case round =>
    obtain ⟨k, hk, rfl, ⟨ao, n, c, rfl⟩, HO, HX⟩ := hrel
    have hlk := itr_length (m : Int) E k
    have hnk : IntKind.i64.wrap ((k : Int) + 1) = ((k + 1 : Nat) : Int) := by rw [wrapN _ (by omega) (by omega)]; omega
    have HLK : Hid (((itr (m : Int) E k).length : Int) = (m : Int)) := Lib.hid (by rw [hlk]; rfl)
    have HNX : Hid (itr (m : Int) E (k + 1) = roundL (m : Int) E (itr (m : Int) E k)) := Lib.hid rfl
    have HIN : Hid (k < K → (0 : Int) ∈ itr (m : Int) E k) := Lib.hid (HE.out.1 k)
    have HOUT : Hid (k = K → (0 : Int) ∉ itr (m : Int) E k) := Lib.hid (fun e => e ▸ HE.out.2)
    obtain ⟨D, hD⟩ : ∃ D, D = itr (m : Int) E k := ⟨_, rfl⟩
    have HDD := Lib.hid hD
    rw [← hD] at HO HLK HNX HIN HOUT
    clear hD hlk
    by_cases hlt : k < K
    · have HD := Lib.hid (decide_eq_true (HIN.out hlt))
      go_wp2_with (first
        | (go_at_call 155; refine (contains_i _ _ D 0 HO.out true HD.out).mono ?_; rintro e w4 ⟨rfl, hx⟩; have X4 := Lib.hid (Ext.trans HX.out hx); have HO4 := Lib.hid (HO.out.ext hx); clear hx)
        | (go_at_call 156; refine (behind_any _ _ _ (m : Int) E D HOK.out HO4.out HLK.out (HA.out.ext X4.out)).mono ?_; rintro e w5 ⟨v5, rfl, ho, hx⟩; obtain ⟨a5, n5, c5, rfl⟩ := ho.sh; have X5 := Lib.hid (Ext.trans X4.out hx); have HO5 := Lib.hid ho.sl; clear hx ho))
      go_roundw
      case rel => exact ⟨k + 1, by omega, by go_num, ⟨_, _, _, rfl⟩, Lib.hid (by rw [HNX.out]; exact HO5.out), X5⟩
      case measure => simp [intOf]; omega
    · have hkK : k = K := by omega
      have HD := Lib.hid (decide_eq_false (HOUT.out hkK))
      subst hkK
      go_wp2_with (first
        | (go_at_call 155; refine (contains_i _ _ D 0 HO.out false HD.out).mono ?_; rintro e w4 ⟨rfl, hx⟩; have X4 := Lib.hid (Ext.trans HX.out hx); have HO4 := Lib.hid (HO.out.ext hx); clear hx))
      exact bodyPost_ret (v := .tuple #[.slice ao n c, .int .i64 (k : Int), .int .i64 0]) (by simp [results, Tryz.results130, go_sem]) rfl ⟨_, rfl, by rw [← HDD.out]; exact HO4.out, Ext.trans ((Ext.refl w).alloc _) (Ext.trans X2.out X4.out)⟩
theorem all_range (p : Nat → Bool) (k : Nat) : (List.range (k + 1)).all p = ((List.range k).all p && p k) := by
  rw [List.range_succ, List.all_append]
  simp
theorem all_range_no {p : Nat → Bool} {k n : Nat} (hk : k < n) (h : p k = false) : (List.range n).all p = false := by
  rw [List.all_eq_false]
  exact ⟨k, List.mem_range.2 hk, by simp [h]⟩
set_option maxHeartbeats 2000000 in
theorem right_any (w : World) (N : Int) (v cv : Value) (E : List Edge) (c : List Int) (h : Sl w v E) (hc : Sl w cv c) (r : Bool) (hr : rightB N E c = r) :
    Calls Tryz.prog 157 #[.agg #[.int .i64 N, v], cv] w fun e w' => e = .returned (.bool r) ∧ Ext w w' := by
  obtain ⟨vo, vn, vc, rfl⟩ := h.sh
  obtain ⟨co, cc, rfl⟩ := hc.len
  have hX : Ext w ((w.alloc (.cells #[.int .i64 N, .slice vo vn vc] 53)).alloc (.cells #[.slice co c.length cc] 26)) := ext_two w _ _
  have HX0 := Lib.hid hX
  have HS := Lib.hid (h.ext hX)
  have HC := Lib.hid (hc.ext hX)
  have hcl := hc.length_le
  have HK : Hid (∀ V, Ext ((w.alloc (.cells #[.int .i64 N, .slice vo vn vc] 53)).alloc (.cells #[.slice co c.length cc] 26)) V → (V.cell? ⟨w.heap.size, 0, none⟩ = some (.int .i64 N) ∧ V.cell? ⟨w.heap.size, 1, none⟩ = some (.slice vo vn vc)) ∧ V.cell? ⟨w.heap.size + 1, 0, none⟩ = some (.slice co c.length cc)) := Lib.hid fun V hV => by
    obtain ⟨hA, hB⟩ := box2 (hV.mono (by rw [size_alloc, size_alloc]; omega))
    exact ⟨⟨blk_cell hA 0 rfl, blk_cell hA 1 rfl⟩, blk_cell hB 0 rfl⟩
  have hmf : ∀ (fn : Fn) (first cap : Array Value) (w : World), (Instr.makeFunc fn first cap).run Tryz.prog w = .ok (.func fn first cap) w := fun _ _ _ _ => rfl
  clear h hc hX
  by_cases ok : OkG N E
  · have HCK := Lib.hid (chk_of ok)
    have HOK := Lib.hid ok
    have n0 := ok.n0
    have n64 := ok.n64
    unfold rightB at hr
    rw [okG_iff.2 ok, Bool.true_and] at hr
    clear ok
    by_cases hl : (c.length : Int) = N
    · have hle : ((c.length : Int) != N) = false := by simp [hl]
      rw [decide_eq_true (by omega), Bool.true_and] at hr
      have HR := Lib.hid hr
      have HL := Lib.hid hl
      have hc64 : c.length ≤ 64 := by omega
      clear hr hl
      go_enter Tryz.func157, Tryz.ntmps157
      go_wp2_with (first
        | (go_at_call 145; refine (check_any _ N _ E (HS.out.ext (by repeat (first | exact Ext.refl _ | assumption | refine Ext.alloc ?_ _ | refine Ext.drew ?_ | refine Ext.drewN ?_ _))) 0 HCK.out).mono ?_; rintro e w1 ⟨rfl, hx⟩; have X1 := Lib.hid hx; obtain ⟨⟨a0, a1⟩, a2⟩ := HK.out w1 hx; clear hx)
        | (go_at_call 154; refine (asker_any _ N _ E (HS.out.ext X1.out) HOK.out).mono ?_; rintro e w2 ⟨fv, rfl, ha, hx⟩; have X2 := Lib.hid (Ext.trans X1.out hx); obtain ⟨⟨b0, b1⟩, b2⟩ := HK.out w2 X2.out; have HA := Lib.hid ha; obtain ⟨g, lb, rfl, eg, hq⟩ := ha.any; have HQ := Lib.hid hq; clear hx ha hq))
      go_loopw [23] (fun i wr => ∃ k : Nat, k ≤ c.length ∧ i = .int .i64 k ∧ Hid ((List.range k).all (fun i : Nat => decide (1 ≤ col c i) && !takenB c (rnear N E i) (col c i)) = true) ∧ Hid (Ext w2 wr)) (fun i _ => c.length - (intOf i).toNat)
      case atStart => exact ⟨0, Nat.zero_le _, rfl, Lib.hid rfl, Lib.hid (Ext.refl _)⟩
      case round =>
        obtain ⟨k, hk, rfl, HT, HX⟩ := hrel
        have XR := Lib.hid (Ext.trans X2.out HX.out)
        obtain ⟨⟨e0, e1⟩, e2⟩ := HK.out wr XR.out
        have hsz : w.heap.size + 2 ≤ wr.heap.size := by have := Below.size XR.out; rw [size_alloc, size_alloc] at this; omega
        by_cases hlt : k < c.length
        · obtain ⟨b, off, rfl, hn, hnc, hc63, hb, hcell⟩ := HC.out.intsAt hlt
          have hya := (XR.out.cell (p := ⟨b, off + k, none⟩) hb).trans hcell
          obtain ⟨y, hy⟩ : ∃ y, y = c.getD k 0 := ⟨_, rfl⟩
          rw [← hy] at hya
          have hkN : (k : Int) < N := by have := HL.out; omega
          have hcol : col c (k : Int) = y := by rw [hy]; rfl
          obtain ⟨W1, hW1⟩ : ∃ W1, W1 = wr.alloc (.cells #[.int .i64 y] 3) := ⟨_, rfl⟩
          have XW : Ext wr W1 := by rw [hW1]; exact (Ext.refl wr).alloc _
          have v1 : W1.cell? ⟨wr.heap.size, 0, none⟩ = some (.int .i64 y) := by rw [hW1]; exact blk_cell (get_alloc_new _ _) 0 rfl
          have vsz : W1.heap.size = wr.heap.size + 1 := by rw [hW1, size_alloc]
          have XX := XR.out.trans XW
          have kc1 := (HK.out W1 XX).2
          have HW := Lib.hid (HQ.out W1 k _ _ (HX.out.trans XW) (by omega) hkN ((right_tells W1 (w.heap.size + 1) wr.heap.size _ c y (by omega) (by omega) kc1 v1 (HC.out.ext XX)).imp fun x hx => by have := near_in HOK.out hx; have := HL.out; omega))
          have HWD : Hid (((rnear N E k).any fun x => col c x == y) = takenB c (rnear N E k) y) := Lib.hid rfl
          rw [HWD.out] at HW
          have HN : Hid ((fun i : Nat => decide (1 ≤ col c i) && !takenB c (rnear N E i) (col c i)) k = (decide (1 ≤ y) && !takenB c (rnear N E k) y)) := Lib.hid (by subst hcol; rfl)
          clear hy hcell XW XX kc1 vsz hcol
          subst hW1
          by_cases h1 : y < 1
          · have HF : Hid ((fun i : Nat => decide (1 ≤ col c i) && !takenB c (rnear N E i) (col c i)) k = false) := Lib.hid (HN.out.trans (by rw [decide_eq_false (by omega), Bool.false_and]))
            clear HW
            go_wp2
            go_ret
            exact ⟨ret_bool ((all_range_no hlt HF.out).symm.trans HR.out), HX0.out.trans (XR.out.alloc _)⟩
          · cases ht : takenB c (rnear N E k) y
            · rw [ht] at HW
              have HF : Hid ((fun i : Nat => decide (1 ≤ col c i) && !takenB c (rnear N E i) (col c i)) k = true) := Lib.hid (HN.out.trans (by rw [ht, decide_eq_true (by omega)]; rfl))
              clear ht
              go_wp2_with (first
                | (go_at_fn g; refine HW.out.mono ?_; rintro e w3 ⟨rfl, hx⟩; have X3 := Lib.hid (HX.out.trans (Ext.trans ((Ext.refl wr).alloc _) hx)); clear hx))
              go_roundw
              case rel => exact ⟨k + 1, by omega, by go_num, Lib.hid (by rw [all_range, HT.out, HF.out]; rfl), X3⟩
              case measure => simp [intOf]; omega
            · rw [ht] at HW
              have HF : Hid ((fun i : Nat => decide (1 ≤ col c i) && !takenB c (rnear N E i) (col c i)) k = false) := Lib.hid (HN.out.trans (by rw [ht]; simp))
              clear ht
              go_wp2_with (first
                | (go_at_fn g; refine HW.out.mono ?_; rintro e w3 ⟨rfl, hx⟩; have X3 := Lib.hid (XR.out.trans (Ext.trans ((Ext.refl wr).alloc _) hx)); clear hx))
              go_ret
              exact ⟨ret_bool ((all_range_no hlt HF.out).symm.trans HR.out), HX0.out.trans X3.out⟩
        · have hkl : k = c.length := by omega
          have HF : Hid (true = r) := Lib.hid (by rw [← HR.out, ← HT.out, hkl])
          go_wp2
          go_ret
          exact ⟨ret_bool HF.out, HX0.out.trans XR.out⟩
    · have hle : ((c.length : Int) != N) = true := by simp [hl]
      rw [decide_eq_false (by omega), Bool.false_and] at hr
      subst hr
      clear hl
      go_enter Tryz.func157, Tryz.ntmps157
      go_wp2_with (first
        | (go_at_call 145; refine (check_any _ N _ E (HS.out.ext (by repeat (first | exact Ext.refl _ | assumption | refine Ext.alloc ?_ _ | refine Ext.drew ?_ | refine Ext.drewN ?_ _))) 0 HCK.out).mono ?_; rintro e w1 ⟨rfl, hx⟩; have X1 := Lib.hid hx; obtain ⟨⟨a0, a1⟩, a2⟩ := HK.out w1 hx; clear hx))
      go_ret
      exact ⟨rfl, HX0.out.trans X1.out⟩
  · have HCK := Lib.hid (chk_not ok)
    unfold rightB at hr
    rw [okG_not ok, Bool.false_and, Bool.false_and] at hr
    subst hr
    clear ok
    go_enter Tryz.func157, Tryz.ntmps157
    go_wp2_with (first
      | (go_at_call 145; refine (check_any _ N _ E (HS.out.ext (by repeat (first | exact Ext.refl _ | assumption | refine Ext.alloc ?_ _ | refine Ext.drew ?_ | refine Ext.drewN ?_ _))) 30 HCK.out).mono ?_; rintro e w1 ⟨rfl, hx⟩; have X1 := Lib.hid hx; clear hx))
    go_ret
    exact ⟨rfl, HX0.out.trans X1.out⟩
end Go.Proofs.YtfbambemjokmgaaGreat
namespace Go.Proofs.YtfbambemjokmgaaGreat
open Go.RowKit
def sideOk (L : List Dn) (i : Nat) (last : Int) (s : Sd) : Bool :=
  decide (last < s.peer) && (decide (s.peer < L.length) && (decide (s.peer ≠ i) && (sideR (L.getD s.peer.toNat ⟨0, 0, []⟩).sides i).2))
def sidesOk (L : List Dn) (i : Nat) : Int → List Sd → Bool
  | _, [] => true
  | last, s :: l => sideOk L i last s && sidesOk L i s.peer l
def lastP : Int → List Sd → Int
  | last, [] => last
  | _, s :: l => lastP s.peer l
def edgesS (i : Nat) (l : List Sd) : List Edge := (l.filter fun s => decide ((i : Int) < s.peer)).map fun s => ⟨i, s.peer⟩
def nodesOk (L : List Dn) (k : Nat) : Bool := (List.range k).all fun i => decide ((L.getD i ⟨0, 0, []⟩).id = i) && sidesOk L i (-1) (L.getD i ⟨0, 0, []⟩).sides
def edgesD (L : List Dn) (k : Nat) : List Edge := (List.range k).flatMap fun i => edgesS i (L.getD i ⟨0, 0, []⟩).sides
def graphB (L : List Dn) : Bool := nodesOk L L.length && okG L.length (edgesD L L.length)
theorem sidesOk_app (L : List Dn) (i : Nat) : ∀ (l : List Sd) (last : Int) (s : Sd), sidesOk L i last (l ++ [s]) = (sidesOk L i last l && sideOk L i (lastP last l) s)
  | [], last, s => by simp [sidesOk, lastP]
  | t :: l, last, s => by
    show (sideOk L i last t && sidesOk L i t.peer (l ++ [s])) = (sideOk L i last t && sidesOk L i t.peer l && sideOk L i (lastP t.peer l) s)
    rw [sidesOk_app L i l t.peer s, Bool.and_assoc]
theorem sidesOk_pre (L : List Dn) (i : Nat) : ∀ (l r : List Sd) (last : Int), sidesOk L i last l = false → sidesOk L i last (l ++ r) = false
  | [], _, _, h => by simp [sidesOk] at h
  | t :: l, r, last, h => by
    show (sideOk L i last t && sidesOk L i t.peer (l ++ r)) = false
    have h : (sideOk L i last t && sidesOk L i t.peer l) = false := h
    cases e : sideOk L i last t with
    | false => rfl
    | true =>
      rw [e, Bool.true_and] at h
      rw [sidesOk_pre L i l r t.peer h]; rfl
theorem lastP_app (l : List Sd) (last : Int) (s : Sd) : lastP last (l ++ [s]) = s.peer := by
  induction l generalizing last with
  | nil => rfl
  | cons t l ih => exact ih t.peer
theorem lastP_low (L : List Dn) (i : Nat) : ∀ (l : List Sd) (last : Int), sidesOk L i last l = true → last ≤ lastP last l
  | [], _, _ => Int.le_refl _
  | s :: l, last, h => by
    have h : (sideOk L i last s && sidesOk L i s.peer l) = true := h
    rw [Bool.and_eq_true] at h
    have h1 := lastP_low L i l s.peer h.2
    have h2 := h.1
    unfold sideOk at h2
    rw [Bool.and_eq_true, decide_eq_true_eq] at h2
    show last ≤ lastP s.peer l
    omega
theorem edgesS_app (i : Nat) (l : List Sd) (s : Sd) : edgesS i (l ++ [s]) = edgesS i l ++ (if decide ((i : Int) < s.peer) = true then [⟨i, s.peer⟩] else []) := by
  unfold edgesS
  rw [List.filter_append, List.map_append, List.filter_cons]
  split <;> rfl
theorem edgesS_len (i : Nat) (l : List Sd) : (edgesS i l).length ≤ l.length := by
  unfold edgesS
  rw [List.length_map]
  exact List.length_filter_le _ _
theorem nodesOk_next (L : List Dn) (k : Nat) : nodesOk L (k + 1) = (nodesOk L k && (decide ((L.getD k ⟨0, 0, []⟩).id = k) && sidesOk L k (-1) (L.getD k ⟨0, 0, []⟩).sides)) := by
  unfold nodesOk
  rw [List.range_succ, List.all_append]
  simp
theorem nodesOk_no {L : List Dn} {k n : Nat} (hk : k < n) (h : (decide ((L.getD k ⟨0, 0, []⟩).id = k) && sidesOk L k (-1) (L.getD k ⟨0, 0, []⟩).sides) = false) : nodesOk L n = false := by
  unfold nodesOk
  rw [List.all_eq_false]
  exact ⟨k, List.mem_range.2 hk, by rw [h]; simp⟩
theorem edgesD_next (L : List Dn) (k : Nat) : edgesD L (k + 1) = edgesD L k ++ edgesS k (L.getD k ⟨0, 0, []⟩).sides := by
  unfold edgesD
  rw [List.range_succ, List.flatMap_append]
  simp
def graphR (L : List Dn) : Int × List Edge × Bool := if graphB L = true then ((L.length : Int), edgesD L L.length, true) else (0, [], false)
theorem graphR_no {L : List Dn} (h : graphB L = false) : graphR L = (0, [], false) := by unfold graphR; rw [h]; rfl
theorem graphR_yes {L : List Dn} (h : graphB L = true) : graphR L = ((L.length : Int), edgesD L L.length, true) := by unfold graphR; rw [h]; rfl
theorem three {α β γ : Type} {a x : α} {b y : β} {c z : γ} (h : (a, b, c) = (x, y, z)) : a = x ∧ b = y ∧ c = z := by simpa using h
structure GrAt (w : World) (n : Nat) (E : List Edge) (wr : World) : Prop where
  ext : Ext w wr
  res : wr.heap[w.heap.size]? = some (.cells #[.int .i64 0, .slice none 0 0] 53 (0, 0))
  blk : ∃ eo en ec, wr.heap[w.heap.size + 1]? = some (.cells #[.int .i64 (n : Int), .slice eo en ec] 53 (0, 0)) ∧ Ow wr (w.heap.size + 2) (.slice eo en ec) E
theorem GrAt.start (w : World) (n : Nat) : GrAt w n [] ((w.alloc (.cells #[.int .i64 0, .slice none 0 0] 53)).alloc (.cells #[.int .i64 (n : Int), .slice none 0 0] 53)) :=
  ⟨((Ext.refl w).alloc _).alloc _, old1 (at0 w _) _, none, 0, 0, at1 w _ _, Ow.nil _ _⟩
theorem GrAt.more {w wr W : World} {n : Nat} {E : List Edge} (h : GrAt w n E wr) (x : Ext wr W) : GrAt w n E W := by
  obtain ⟨eo, en, ec, hb, ho⟩ := h.blk
  exact ⟨h.ext.trans x, (x.block _ (blk_lt h.res)).trans h.res, eo, en, ec, (x.block _ (blk_lt hb)).trans hb, ho.ext x⟩
theorem GrAt.step {w W W2 : World} {n : Nat} {E M : List Edge} {ao : Option Addr} {k c : Nat} (h : GrAt w n E W) (b : Below (w.heap.size + 2) W W2) (ho : Ow W2 (w.heap.size + 2) (.slice ao k c) M) :
    GrAt w n M (W2.setCell ⟨w.heap.size + 1, 1, none⟩ (.slice ao k c)) := by
  obtain ⟨eo, en, ec, hb, _⟩ := h.blk
  have hb2 := (b.block (w.heap.size + 1) (by omega)).trans hb
  have hr2 := (b.block w.heap.size (by omega)).trans h.res
  exact ⟨below_set (Below.trans h.ext (b.mono (by omega))) (by show w.heap.size ≤ w.heap.size + 1; omega) _, (set_other _ _ _ _ (by show w.heap.size ≠ w.heap.size + 1; omega)).trans hr2, ao, k, c, by rw [blk_set hb2]; rfl, ho.set (by show w.heap.size + 1 < _; omega) _⟩
theorem GrAt.cells {w wr : World} {n : Nat} {E : List Edge} (h : GrAt w n E wr) : ∃ eo en ec, (wr.cell? ⟨w.heap.size, 0, none⟩ = some (.int .i64 0) ∧ wr.cell? ⟨w.heap.size, 1, none⟩ = some (.slice none 0 0)) ∧ (wr.frozen? ⟨w.heap.size, 0, none⟩ = false ∧ wr.frozen? ⟨w.heap.size, 1, none⟩ = false) ∧
    (wr.cell? ⟨w.heap.size + 1, 0, none⟩ = some (.int .i64 (n : Int)) ∧ wr.cell? ⟨w.heap.size + 1, 1, none⟩ = some (.slice eo en ec)) ∧ wr.frozen? ⟨w.heap.size + 1, 1, none⟩ = false ∧ Ow wr (w.heap.size + 2) (.slice eo en ec) E := by
  obtain ⟨eo, en, ec, hb, ho⟩ := h.blk
  exact ⟨eo, en, ec, ⟨blk_cell h.res 0 rfl, blk_cell h.res 1 rfl⟩, ⟨blk_free h.res 0, blk_free h.res 1⟩, ⟨blk_cell hb 0 rfl, blk_cell hb 1 rfl⟩, blk_free hb 1, ho⟩
end Go.Proofs.YtfbambemjokmgaaGreat
namespace Go.Proofs.YtfbambemjokmgaaGreat
open Go.RowKit Go.ChangeShapes Go.WideShapes Go.Deep
def Non : Nat → Prop := fun _ => False
theorem sa_non {α : Type} [Elem α] {w : World} {v : Value} {xs : List α} (h : Sl w v xs) : Sa Non w v xs := ⟨h, .inr fun _ _ hf => hf⟩
def DecW (α : Type) {δ : Type} [Elem α] [Nest α δ] : Prop := ∀ (H : Type) (enc : TypeId × Value → H) (w : World) (base : Nat) (spare : Nat → Bool) (held : Bool) (n : Nat) (cs : List Value) (x : DataW H × List MemPlace),
  DataW.trod enc Tryz.prog w base spare held n (Elem.e α) cs = some x → ∃ (a : α) (d : δ), cs = Elem.enc a ∧ Nest.rd Non w a d
theorem field_slice {α : Type} [Elem α] (hdec : Dec α) (hC : Tryz.prog.cellsOf (Elem.e α) = Elem.k α) {H : Type} {enc : TypeId × Value → H} {w : World} {base : Nat} {spare : Nat → Bool} {held : Bool} {v : Value} {n : Nat} {y : DataW H × List MemPlace}
    (hf : DataW.trod enc Tryz.prog w base spare held n (Elem.t α) [v] = some y) : ∃ ao c, ∃ xs : List α, v = .slice ao xs.length c ∧ Sl w (.slice ao xs.length c) xs := by
  rcases open_slice (Elem.row (α := α)) hf with ⟨hcs, _⟩ | ⟨a, len, cap, m, n, D, Pl, hcs, hb, hl, hm, hmm, hx, hi⟩
  · simp at hcs
    subst hcs
    exact ⟨none, 0, [], rfl, Sl.empty _ _ _ (by omega) (fun _ => rfl)⟩
  · simp at hcs
    subst hcs
    have hlm : len ≤ m := by rw [hmm]; split <;> omega
    have key : ∀ i, ∃ x : α, i < len → w.cells? base (a.add (i * Elem.k α)) (Elem.k α) = some (Elem.enc x) := by
      intro i
      by_cases hil : i < len
      · obtain ⟨cs', h1, h2⟩ := hi i (by omega)
        obtain ⟨x, rfl⟩ := hdec H enc w base spare held n cs' _ h2
        rw [hC] at h1
        exact ⟨x, fun _ => h1⟩
      · exact ⟨Elem.dflt, fun h => absurd h hil⟩
    obtain ⟨f, hf'⟩ := Classical.axiomOfChoice key
    have hxl : ((List.range len).map f).length = len := by simp
    refine ⟨some a, cap, (List.range len).map f, by rw [hxl], ?_⟩
    by_cases h0 : len = 0
    · subst h0
      exact ⟨by simp [cellsOf], some a, cap, rfl, by simp, hm, by simp, .inl (by simp)⟩
    · have hpos := Elem.pos (α := α)
      obtain ⟨b, off, sp⟩ := a
      have hz : w.cell? ((Addr.mk b off sp).add 0) = some ((Elem.enc (f 0))[0]'(by rw [Elem.len]; exact hpos)) := by
        have := (World.cells?_some (hf' 0 (by omega))).2.2 0 hpos
        rw [Nat.zero_mul] at this
        simpa [Addr.add] using this.trans (List.getElem?_eq_getElem (by rw [Elem.len]; exact hpos))
      have hsp : sp = none := by
        have := spot_none hz
        simpa [Addr.add] using this
      subst hsp
      obtain ⟨v0, hz'⟩ : ∃ v0, w.cell? ⟨b, off, none⟩ = some v0 := ⟨_, by simpa [Addr.add] using hz⟩
      refine ⟨cellsOf_length _, _, cap, rfl, by rw [hxl]; exact hl, hm, by simp, .inr ⟨b, off, rfl, World.block_lt_of_cell? w _ hz', fun j u hj => ?_⟩⟩
      obtain ⟨i, x, r, h1, h2, h3, rfl⟩ := cellsOf_split _ j u hj
      rw [List.getElem?_map] at h1
      have hil : i < len := by
        rcases Nat.lt_or_ge i len with h | h
        · exact h
        · rw [List.getElem?_eq_none (by simpa using h)] at h1; simp at h1
      rw [List.getElem?_range hil] at h1
      simp only [Option.map_some, Option.some.injEq] at h1
      have := (World.cells?_some (hf' i hil)).2.2 r h3
      rw [addr_add b off _, addr_add b _ r] at this
      rw [show off + (i * Elem.k α + r) = off + i * Elem.k α + r from by omega, this, h1, h2]
set_option maxRecDepth 50000 in
theorem arg_sliceW {α δ : Type} [Elem α] [Nest α δ] (hP : ∃ (a : α) (d : δ), ∀ w, Nest.rd Non w a d) (hdec : DecW α) (hC : Tryz.prog.cellsOf (Elem.e α) = Elem.k α) {H : Type} {enc : TypeId × Value → H} {w : World} {r : Reach} {b0 base : Nat} {spare : Nat → Bool} {held : Bool} {v : Value} {d : DataW H} {p : List MemPlace}
    (hv : Value.okWide Tryz.prog w r b0 (Elem.t α) v) (h : DataW.Trod enc Tryz.prog w base spare held (Elem.t α) v d p) : ∃ ao c, ∃ L : List δ, v = .slice ao L.length c ∧ Ns α Non w (.slice ao L.length c) L := by
  obtain ⟨ao, len, cap, rfl⟩ := okWide_slice (Elem.row (α := α)) hv
  obtain ⟨fuel, hf⟩ := h
  replace hP : ∃ (a : α) (d : δ), Nest.rd Non w a d := by obtain ⟨a, d, hq⟩ := hP; exact ⟨a, d, hq w⟩
  rcases open_slice (Elem.row (α := α)) hf with ⟨hcs, _⟩ | ⟨a, l, c, m, n, D, Pl, hcs, hb, hl, hm, hmm, hx, hi⟩
  · simp [Value.cells] at hcs
    obtain ⟨rfl, rfl, rfl⟩ := hcs
    exact ⟨none, 0, [], rfl, Ns.nil _ _⟩
  · simp [Value.cells] at hcs
    obtain ⟨rfl, rfl, rfl⟩ := hcs
    have hlm : len ≤ m := by rw [hmm]; split <;> omega
    have key : ∀ i, ∃ y : α × δ, Nest.rd Non w y.1 y.2 ∧ (i < len → w.cells? base (a.add (i * Elem.k α)) (Elem.k α) = some (Elem.enc y.1)) := by
      intro i
      by_cases hil : i < len
      · obtain ⟨cs', h1, h2⟩ := hi i (by omega)
        obtain ⟨x, d, rfl, hp⟩ := hdec H enc w base spare held n cs' _ h2
        rw [hC] at h1
        exact ⟨(x, d), hp, fun _ => h1⟩
      · obtain ⟨x, d, hp⟩ := hP
        exact ⟨(x, d), hp, fun h => absurd h hil⟩
    obtain ⟨f2, hf0⟩ := Classical.axiomOfChoice key
    obtain ⟨f, hff⟩ : ∃ f : Nat → α, f = fun i => (f2 i).1 := ⟨_, rfl⟩
    have hf' : ∀ i, i < len → w.cells? base (a.add (i * Elem.k α)) (Elem.k α) = some (Elem.enc (f i)) := fun i h => by rw [hff]; exact (hf0 i).2 h
    have hrd : ∀ i, Nest.rd Non w (f i) (f2 i).2 := fun i => by rw [hff]; exact (hf0 i).1
    have hxl : ((List.range len).map f).length = len := by simp
    refine ⟨some a, cap, (List.range len).map fun i => (f2 i).2, by simp, ?_⟩
    have hxl2 : ((List.range len).map fun i => (f2 i).2).length = len := by simp
    rw [hxl2]
    suffices hs : Sl w (.slice (some a) len cap) ((List.range len).map f) by
      refine ⟨(List.range len).map f, sa_non hs, by simp, fun j x d hx hd => ?_⟩
      rw [List.getElem?_map] at hx hd
      cases hq : (List.range len)[j]? with
      | none => rw [hq] at hx; simp at hx
      | some i =>
        rw [hq] at hx hd
        simp only [Option.map_some, Option.some.injEq] at hx hd
        subst hx hd
        exact hrd i
    by_cases h0 : len = 0
    · subst h0
      exact ⟨by simp [cellsOf], some a, cap, rfl, by simp, hm, by simp, .inl (by simp)⟩
    · have hpos := Elem.pos (α := α)
      obtain ⟨b, off, sp⟩ := a
      have hz : w.cell? ((Addr.mk b off sp).add 0) = some ((Elem.enc (f 0))[0]'(by rw [Elem.len]; exact hpos)) := by
        have := (World.cells?_some (hf' 0 (by omega))).2.2 0 hpos
        rw [Nat.zero_mul] at this
        simpa [Addr.add] using this.trans (List.getElem?_eq_getElem (by rw [Elem.len]; exact hpos))
      have hsp : sp = none := by
        have := spot_none hz
        simpa [Addr.add] using this
      subst hsp
      obtain ⟨v0, hz'⟩ : ∃ v0, w.cell? ⟨b, off, none⟩ = some v0 := ⟨_, by simpa [Addr.add] using hz⟩
      refine ⟨cellsOf_length _, _, cap, by rw [hxl], by rw [hxl]; exact hl, hm, by simp, .inr ⟨b, off, rfl, World.block_lt_of_cell? w _ hz', fun j u hj => ?_⟩⟩
      obtain ⟨i, x, r, h1, h2, h3, rfl⟩ := cellsOf_split _ j u hj
      rw [List.getElem?_map] at h1
      have hil : i < len := by
        rcases Nat.lt_or_ge i len with h | h
        · exact h
        · rw [List.getElem?_eq_none (by simpa using h)] at h1; simp at h1
      rw [List.getElem?_range hil] at h1
      simp only [Option.map_some, Option.some.injEq] at h1
      have := (World.cells?_some (hf' i hil)).2.2 r h3
      rw [addr_add b off _, addr_add b _ r] at this
      rw [show off + (i * Elem.k α + r) = off + i * Elem.k α + r from by omega, this, h1, h2]
set_option maxRecDepth 50000 in
theorem field_sliceW {α δ : Type} [Elem α] [Nest α δ] (hP : ∃ (a : α) (d : δ), ∀ w, Nest.rd Non w a d) (hdec : DecW α) (hC : Tryz.prog.cellsOf (Elem.e α) = Elem.k α) {H : Type} {enc : TypeId × Value → H} {w : World} {base : Nat} {spare : Nat → Bool} {held : Bool} {v : Value} {n : Nat} {y : DataW H × List MemPlace}
    (hf : DataW.trod enc Tryz.prog w base spare held n (Elem.t α) [v] = some y) : ∃ ao c, ∃ L : List δ, v = .slice ao L.length c ∧ Ns α Non w (.slice ao L.length c) L := by
  replace hP : ∃ (a : α) (d : δ), Nest.rd Non w a d := by obtain ⟨a, d, hq⟩ := hP; exact ⟨a, d, hq w⟩
  rcases open_slice (Elem.row (α := α)) hf with ⟨hcs, _⟩ | ⟨a, len, cap, m, n, D, Pl, hcs, hb, hl, hm, hmm, hx, hi⟩
  · simp at hcs
    subst hcs
    exact ⟨none, 0, [], rfl, Ns.nil _ _⟩
  · simp at hcs
    subst hcs
    have hlm : len ≤ m := by rw [hmm]; split <;> omega
    have key : ∀ i, ∃ y : α × δ, Nest.rd Non w y.1 y.2 ∧ (i < len → w.cells? base (a.add (i * Elem.k α)) (Elem.k α) = some (Elem.enc y.1)) := by
      intro i
      by_cases hil : i < len
      · obtain ⟨cs', h1, h2⟩ := hi i (by omega)
        obtain ⟨x, d, rfl, hp⟩ := hdec H enc w base spare held n cs' _ h2
        rw [hC] at h1
        exact ⟨(x, d), hp, fun _ => h1⟩
      · obtain ⟨x, d, hp⟩ := hP
        exact ⟨(x, d), hp, fun h => absurd h hil⟩
    obtain ⟨f2, hf0⟩ := Classical.axiomOfChoice key
    obtain ⟨f, hff⟩ : ∃ f : Nat → α, f = fun i => (f2 i).1 := ⟨_, rfl⟩
    have hf' : ∀ i, i < len → w.cells? base (a.add (i * Elem.k α)) (Elem.k α) = some (Elem.enc (f i)) := fun i h => by rw [hff]; exact (hf0 i).2 h
    have hrd : ∀ i, Nest.rd Non w (f i) (f2 i).2 := fun i => by rw [hff]; exact (hf0 i).1
    have hxl : ((List.range len).map f).length = len := by simp
    refine ⟨some a, cap, (List.range len).map fun i => (f2 i).2, by simp, ?_⟩
    have hxl2 : ((List.range len).map fun i => (f2 i).2).length = len := by simp
    rw [hxl2]
    suffices hs : Sl w (.slice (some a) len cap) ((List.range len).map f) by
      refine ⟨(List.range len).map f, sa_non hs, by simp, fun j x d hx hd => ?_⟩
      rw [List.getElem?_map] at hx hd
      cases hq : (List.range len)[j]? with
      | none => rw [hq] at hx; simp at hx
      | some i =>
        rw [hq] at hx hd
        simp only [Option.map_some, Option.some.injEq] at hx hd
        subst hx hd
        exact hrd i
    by_cases h0 : len = 0
    · subst h0
      exact ⟨by simp [cellsOf], some a, cap, rfl, by simp, hm, by simp, .inl (by simp)⟩
    · have hpos := Elem.pos (α := α)
      obtain ⟨b, off, sp⟩ := a
      have hz : w.cell? ((Addr.mk b off sp).add 0) = some ((Elem.enc (f 0))[0]'(by rw [Elem.len]; exact hpos)) := by
        have := (World.cells?_some (hf' 0 (by omega))).2.2 0 hpos
        rw [Nat.zero_mul] at this
        simpa [Addr.add] using this.trans (List.getElem?_eq_getElem (by rw [Elem.len]; exact hpos))
      have hsp : sp = none := by
        have := spot_none hz
        simpa [Addr.add] using this
      subst hsp
      obtain ⟨v0, hz'⟩ : ∃ v0, w.cell? ⟨b, off, none⟩ = some v0 := ⟨_, by simpa [Addr.add] using hz⟩
      refine ⟨cellsOf_length _, _, cap, by rw [hxl], by rw [hxl]; exact hl, hm, by simp, .inr ⟨b, off, rfl, World.block_lt_of_cell? w _ hz', fun j u hj => ?_⟩⟩
      obtain ⟨i, x, r, h1, h2, h3, rfl⟩ := cellsOf_split _ j u hj
      rw [List.getElem?_map] at h1
      have hil : i < len := by
        rcases Nat.lt_or_ge i len with h | h
        · exact h
        · rw [List.getElem?_eq_none (by simpa using h)] at h1; simp at h1
      rw [List.getElem?_range hil] at h1
      simp only [Option.map_some, Option.some.injEq] at h1
      have := (World.cells?_some (hf' i hil)).2.2 r h3
      rw [addr_add b off _, addr_add b _ r] at this
      rw [show off + (i * Elem.k α + r) = off + i * Elem.k α + r from by omega, this, h1, h2]
end Go.Proofs.YtfbambemjokmgaaGreat
namespace Go.Proofs.YtfbambemjokmgaaGreat
open Go.RowKit
def placeR (N : Int) (E : List Edge) (c : List Int) : Int := if okG N E = true then (if rightB N E c = true then 0 else 120) else 30
def GivesN (w : World) (L : List Dn) (r : Int) (e : Ending) (w' : World) : Prop := ∃ v, e = .returned (.tuple #[v, .int .i64 r]) ∧ Ns DV Non w' v L ∧ Ext w w'
def GivesGr (w : World) (N : Int) (E : List Edge) (t : Bool) (e : Ending) (w' : World) : Prop := ∃ gv, e = .returned (.tuple #[.agg #[.int .i64 N, gv], .bool t]) ∧ Sl w' gv E ∧ Ext w w'
def GivesA (w : World) (A : List Arc) (e : Ending) (w' : World) : Prop := ∃ v, e = .returned v ∧ Sl w' v A ∧ Ext w w'
end Go.Proofs.YtfbambemjokmgaaGreat
namespace Go.Proofs.YtfbambemjokmgaaGreat
open Go.RowKit
theorem cells8P {w : World} {g : Nat} {u0 u1 u2 u3 u4 u5 u6 u7 : Value} {t : TypeId} (h : w.heap[g]? = some (.cells #[u0, u1, u2, u3, u4, u5, u6, u7] t (0, 0))) :
    ((w.cell? ⟨g, 0, none⟩ = some u0 ∧ w.cell? ⟨g, 1, none⟩ = some u1) ∧ w.cell? ⟨g, 2, none⟩ = some u2 ∧ w.cell? ⟨g, 3, none⟩ = some u3) ∧ (w.cell? ⟨g, 4, none⟩ = some u4 ∧ w.cell? ⟨g, 5, none⟩ = some u5) ∧ w.cell? ⟨g, 6, none⟩ = some u6 ∧ w.cell? ⟨g, 7, none⟩ = some u7 :=
  ⟨⟨⟨blk_cell h 0 rfl, blk_cell h 1 rfl⟩, blk_cell h 2 rfl, blk_cell h 3 rfl⟩, ⟨blk_cell h 4 rfl, blk_cell h 5 rfl⟩, blk_cell h 6 rfl, blk_cell h 7 rfl⟩
set_option maxRecDepth 100000 in
set_option maxHeartbeats 2000000 in
theorem pSide_any (w : World) (id phase : Int) (v : Value) (L : List Sd) (p : Int) (h : Sl w v L) (s : Sd) (b : Bool) (hr : sideR L p = (s, b)) :
    Calls Tryz.prog 116 #[.agg #[.int .i64 id, .int .i64 phase, v], .int .i64 p] w fun e w' => e = .returned (.tuple #[.agg s.cs, .bool b]) ∧ Ext w w' := by
  obtain ⟨ao, c, rfl⟩ := h.len
  have HS := Lib.hid h
  have hlen := h.length_le
  have HR := Lib.hid hr
  have HK : Hid (∀ V, Ext ((w.alloc (.cells #[.int .i64 id, .int .i64 phase, .slice ao L.length c] 61)).alloc (.cells Sd.zero.cs 66)) V → (V.cell? ⟨w.heap.size, 2, none⟩ = some (.slice ao L.length c)) ∧ V.heap[w.heap.size + 1]? = some (.cells Sd.zero.cs 66 (0, 0))) := Lib.hid fun V hV => by
    obtain ⟨hA, hB⟩ := box2 (hV.mono (by rw [size_alloc, size_alloc]; omega))
    exact ⟨blk_cell hA 2 rfl, hB⟩
  have X0 : Ext w ((w.alloc (.cells #[.int .i64 id, .int .i64 phase, .slice ao L.length c] 61)).alloc (.cells Sd.zero.cs 66)) := ((Ext.refl w).alloc _).alloc _
  have HX0 := Lib.hid X0
  clear h hr X0
  go_enter Tryz.func116, Tryz.ntmps116
  go_wp2
  go_loopw [11] (fun i wr => ∃ k : Nat, k ≤ L.length ∧ i = .int .i64 k ∧ Hid ((L.take k).any (fun s => s.peer == p) = false) ∧ Hid (Ext ((w.alloc (.cells #[.int .i64 id, .int .i64 phase, .slice ao L.length c] 61)).alloc (.cells Sd.zero.cs 66)) wr)) (fun i _ => L.length - (intOf i).toNat)
  case atStart => exact ⟨0, Nat.zero_le _, rfl, Lib.hid rfl, Lib.hid (Ext.refl _)⟩
  case round =>
    obtain ⟨k, hk, rfl, HT, HX⟩ := hrel
    obtain ⟨kd, kb⟩ := HK.out wr HX.out
    have HB := Lib.hid kb
    clear kb kd
    by_cases hlt : k < L.length
    · obtain ⟨b1, off, y, hy, hyk, rfl, hn, hnc, hc63, hb, hcell⟩ := HS.out.sidesAt hlt
      obtain ⟨⟨⟨h0, h1⟩, h2, h3⟩, ⟨h4, h5⟩, h6, h7⟩ := hcell wr (HX0.out.trans HX.out)
      have HN := Lib.hid (any_nextD (fun s : Sd => s.peer == p) hyk)
      have HYK := Lib.hid hyk
      have HA : Hid (Ext ((w.alloc (.cells #[.int .i64 id, .int .i64 phase, .slice (some ⟨b1, off, none⟩) L.length c] 61)).alloc (.cells Sd.zero.cs 66)) (wr.alloc (.cells y.cs 66))) := Lib.hid (HX.out.alloc _)
      have HBX := Lib.hid (at0 wr (.cells y.cs 66))
      have HB2 := Lib.hid (blk_alloc HB.out (.cells y.cs 66))
      obtain ⟨y0, y1, y2, y3, y4, y5, y6, y7⟩ := y
      dsimp only at h0 h1 h2 h3 h4 h5 h6 h7
      dsimp only [Sd.cs] at HA HBX
      clear hcell hy hyk hn
      go_upto_region 4 with (fail)
      obtain ⟨⟨⟨q0, q1⟩, q2, q3⟩, ⟨q4, q5⟩, q6, q7⟩ := cells8P HBX.out
      cases ht : (y0 == p)
      · have HF : Hid ((L.take (k + 1)).any (fun s => s.peer == p) = false) := Lib.hid (HN.out.trans (by rw [HT.out]; exact ht))
        go_wp2
        go_roundw
        case rel => exact ⟨k + 1, by omega, by go_num, HF, HA⟩
        case measure => simp [intOf]; omega
      · have HE := Lib.hid (HR.out.symm.trans (sideR_at HT.out HYK.out ht))
        go_wp2_with (first | refine haltst 66 ?_)
        refine .inl ?_
        refine st_l 66 (.tmp 4) (.tmp 19) (w.heap.size + 1) 0 66 Sd.zero.cs (Sd.cs ⟨y0, y1, y2, y3, y4, y5, y6, y7⟩) (Sd.cs ⟨y0, y1, y2, y3, y4, y5, y6, y7⟩) rfl rfl HB2.out (by kernel_rfl) (by simp [Sd.cs, Sd.zero]) rfl rfl ?_
        intro W hW oW
        simp only [Act.put]
        go_wp2
        refine bodyPost_ret (v := .tuple #[.agg (Sd.cs ⟨y0, y1, y2, y3, y4, y5, y6, y7⟩), .bool true]) (res_ct 5 rfl rfl hW uSide (by kernel_rfl)) rfl ⟨?_, ?_⟩
        · have := HE.out
          simp only [Prod.mk.injEq] at this
          rw [this.1, this.2]
        · exact ext_off (HX0.out.trans HA.out) oW (fun k hk => by omega)
    · have hkl : k = L.length := by omega
      have HE : Hid ((s, b) = (Sd.zero, false)) := Lib.hid (HR.out.symm.trans (sideR_none (by have := HT.out; rwa [hkl, List.take_length] at this)))
      go_wp2_with (first | refine haltst 66 ?_)
      refine .inl ?_
      refine st_l 66 (.tmp 4) (.tmp 21) (w.heap.size + 1) 0 66 Sd.zero.cs Sd.zero.cs Sd.zero.cs rfl rfl HB.out (by kernel_rfl) (by simp [Sd.cs, Sd.zero]) rfl rfl ?_
      intro W hW oW
      simp only [Act.put]
      go_wp2
      refine bodyPost_ret (v := .tuple #[.agg Sd.zero.cs, .bool false]) (res_ct 5 rfl rfl hW uSide (by kernel_rfl)) rfl ⟨?_, ?_⟩
      · have := HE.out
        simp only [Prod.mk.injEq] at this
        rw [this.1, this.2]
      · exact ext_off (HX0.out.trans HX.out) oW (fun k hk => by omega)
end Go.Proofs.YtfbambemjokmgaaGreat
namespace Go.Proofs.YtfbambemjokmgaaGreat
open Go.RowKit
def noD : Dn := ⟨0, 0, []⟩
def GivesE (w : World) (r : Dn × Int) (e : Ending) (w' : World) : Prop := ∃ v', e = .returned (.tuple #[.agg #[.int .i64 r.1.id, .int .i64 r.1.phase, v'], .int .i64 r.2]) ∧ Sl w' v' r.1.sides ∧ Ext w w' ∧ ∀ b, v'.ownBlock = some b → w.heap.size ≤ b
theorem givesNo {w W : World} {r : Dn × Int} {er : Int} (h : r = (noD, er)) (x : Ext w W) : GivesE w r (.returned (.tuple #[.agg #[.int .i64 0, .int .i64 0, .slice none 0 0], .int .i64 er])) W := by
  subst h
  exact ⟨_, rfl, slNoneU _, x, fun b hb => by simp [Value.ownBlock] at hb⟩
set_option maxRecDepth 100000 in
set_option maxHeartbeats 2000000 in
theorem clone_sd (w : World) (v : Value) (L : List Sd) (h : Sl w v L) (hl : L.length ≤ 1000) :
    Calls Tryz.prog 72 #[v] w fun e w' => ∃ v', e = .returned v' ∧ Ow w' w.heap.size v' L ∧ Ext w w' := by
  have h0 := h
  obtain ⟨_, ao, c, rfl, h2, h3, h4, h5⟩ := h0
  cases ao with
  | none =>
    obtain rfl := h4 rfl
    have hL : L = [] := List.eq_nil_of_length_eq_zero (by omega)
    subst hL
    clear h h2 h3 h4 h5
    dsimp only [List.length_nil]
    have q := fun w => Lib.run_eql_slice_nil (P := Tryz.prog) w _ _ none 0 0 0 0 (Elem.row (α := Sd))
    change ∀ w, (binOp .eql 59 (.slice none 0 0) (.slice none 0 0)).run Tryz.prog w = .ok (.bool true) w at q
    go_enter Tryz.func72, Tryz.ntmps72
    go_wp2
    go_ret
    exact ⟨_, rfl, Ow.nil _ _, Ext.refl _⟩
  | some a =>
    have HS := Lib.hid h
    clear h h2 h3 h4 h5
    have q := fun w => Lib.run_eql_slice_nil (P := Tryz.prog) w _ _ (some a) L.length c 0 0 (Elem.row (α := Sd))
    change ∀ w, (binOp .eql 59 (.slice (some a) L.length c) (.slice none 0 0)).run Tryz.prog w = .ok (.bool false) w at q
    go_enter Tryz.func72, Tryz.ntmps72
    go_wp2_with (first
      | (at_builtin; refine wpList_append_sl (α := Sd) rfl (.tmp 5) (.tmp 6) rfl w.heap.size (.slice (some ⟨_, 0, none⟩) 0 0) [] rfl ?_ _ L rfl ?_ ?_ ?_ ?_; exact (Ow.litAt w _ _ rfl (Nat.le_refl _) [] (by simp)); exact (HS.out.alloc _); (first | omega | (simp; omega)); exact (by rw [size_alloc]; omega); intro v6 W6 ho6 ha6; obtain ⟨a6, n6, c6, rfl⟩ := ho6.sh; have O6 : Hid (Ow W6 w.heap.size (.slice a6 n6 c6) L) := Lib.hid ho6; have X6 : Hid (Ext w W6) := Lib.hid (Below.trans (Ext.alloc (Ext.refl w) _) ha6.below); clear ho6 ha6))
    go_ret
    exact ⟨_, rfl, O6.out, X6.out⟩
end Go.Proofs.YtfbambemjokmgaaGreat
namespace Go.Proofs.YtfbambemjokmgaaGreat
def fk (a b ep : Int) : Ml := ⟨a, b, 1, ep, 0⟩
def tk (a b ep : Int) : Ml := ⟨a, b, 2, ep, 0⟩
inductive E1 (a b ep : Int) (x y : Sd) (mab mba : List Ml) (pa pb : Int) : Prop
  | f1 (xf : x.fork = true) (xt : x.token = false) (yt : y.token = true) (m : mab = []) (n : mba = []) (hb : pb = 0)
  | f2 (xf : x.fork = true) (xt : x.token = true) (yt : y.token = false) (m : mab = []) (n : mba = []) (hb : pb = 1) (hc : x.dirty = true → pa = 2)
  | f3 (xf : x.fork = true) (xt : x.token = false) (yt : y.token = false) (m : mab = []) (n : mba = [tk b a ep]) (hb : pb = 1)
  | f4 (xf : x.fork = false) (xt : x.token = true) (yt : y.token = false) (m : mab = [fk a b ep]) (n : mba = []) (hb : pb = 1) (ha : pa = 0)
  | f5 (xf : x.fork = false) (xt : x.token = false) (yt : y.token = false) (m : mab = [fk a b ep, tk a b ep]) (n : mba = []) (hb : pb = 1) (ha : pa = 1)
inductive E1A (a b ep : Int) (x y : Sd) (mab mba : List Ml) (pa pb : Int) : Prop
  | f1 (xf : x.fork = true) (xt : x.token = false) (yt : y.token = true) (m : mab = []) (n : mba = []) (hb : pb = 0)
  | f2 (xf : x.fork = true) (xt : x.token = true) (yt : y.token = false) (m : mab = []) (n : mba = []) (hb : pb = 1)
  | f3 (xf : x.fork = true) (xt : x.token = false) (yt : y.token = false) (m : mab = []) (n : mba = [tk b a ep]) (hb : pb = 1)
  | f4 (xf : x.fork = false) (xt : x.token = true) (yt : y.token = false) (m : mab = [fk a b ep]) (n : mba = []) (hb : pb = 1) (ha : pa = 0 ∨ pa = 1)
  | f5 (xf : x.fork = false) (xt : x.token = false) (yt : y.token = false) (m : mab = [fk a b ep, tk a b ep]) (n : mba = []) (hb : pb = 1) (ha : pa = 1)
inductive E1B (a b ep : Int) (x y : Sd) (mab mba : List Ml) (pa pb : Int) : Prop
  | f1 (xf : x.fork = true) (xt : x.token = false) (yt : y.token = true) (m : mab = []) (n : mba = []) (hb : pb = 0 ∨ pb = 1)
  | f2 (xf : x.fork = true) (xt : x.token = true) (yt : y.token = false) (m : mab = []) (n : mba = []) (hb : pb = 1) (hc : x.dirty = true → pa = 2)
  | f3 (xf : x.fork = true) (xt : x.token = false) (yt : y.token = false) (m : mab = []) (n : mba = [tk b a ep]) (hb : pb = 1)
  | f4 (xf : x.fork = false) (xt : x.token = true) (yt : y.token = false) (m : mab = [fk a b ep]) (n : mba = []) (hb : pb = 1) (ha : pa = 0)
  | f5 (xf : x.fork = false) (xt : x.token = false) (yt : y.token = false) (m : mab = [fk a b ep, tk a b ep]) (n : mba = []) (hb : pb = 1) (ha : pa = 1)
structure Cl (x y : Sd) (pa : Int) : Prop where
  yf : y.fork = false
  yd : y.dirty = false
  xd : x.fork = false → x.dirty = false
  cl : x.fork = true → x.dirty = false → pa = 1
  ea : pa = 2 → x.fork = true ∧ x.dirty = true
structure EA (a b ep : Int) (x y : Sd) (mab mba : List Ml) (pa pb : Int) : Prop where
  st : E1 a b ep x y mab mba pa pb
  c : Cl x y pa
def EO (a b ep : Int) (x y : Sd) (mab mba : List Ml) (pa pb : Int) : Prop := EA a b ep x y mab mba pa pb ∨ EA b a ep y x mba mab pb pa
section
variable {a b ep : Int} {x y : Sd} {mab mba : List Ml} {pa pb : Int}
end
end Go.Proofs.YtfbambemjokmgaaGreat
