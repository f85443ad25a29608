/- Texts of this seat. -/
import Derived.Test.YtfbambemjokmgaaGreatNBB
import Derived.Test.YtfbambemjokmgaaGreatNBG
namespace Go.Proofs.YtfbambemjokmgaaGreat
open Go.RowKit
theorem ends_some {N : Int} {E : List Edge} (ok : OkG N E) : ∃ k, Ends N E k := by
  have key : ∀ n, (∃ k, Ends N E k) ∨ ∀ j, j < n → (0 : Int) ∈ itr N E j := by
    intro n
    induction n with
    | zero => exact .inr fun j hj => absurd hj (Nat.not_lt_zero _)
    | succ n ih =>
      rcases ih with h | h
      · exact .inl h
      · by_cases hn : (0 : Int) ∈ itr N E n
        · refine .inr fun j hj => ?_
          by_cases e : j = n
          · subst e; exact hn
          · exact h j (by omega)
        · exact .inl ⟨n, h, hn⟩
  rcases key (N.toNat + 1) with h | h
  · exact h
  · have := itr_zeros ok _ h
    omega
def GivesRun (w : World) (d : List Int) (n r : Int) (e : Ending) (w' : World) : Prop := ∃ v, e = .returned (.tuple #[v, .int .i64 n, .int .i64 r]) ∧ Sl w' v d ∧ Ext w w'
theorem run_bad (w : World) (N : Int) (v : Value) (E : List Edge) (h : Sl w v E) (ok : ¬ OkG N E) : Calls Tryz.prog 130 #[.agg #[.int .i64 N, v]] w (GivesRun w [] 0 30) := by
  obtain ⟨vo, vn, vc, rfl⟩ := h.sh
  have HS := Lib.hid h
  have HK := Lib.hid (chk_not ok)
  have HG := Lib.hid (graph_at w N (.slice vo vn vc))
  clear h ok
  go_enter Tryz.func130, Tryz.ntmps130
  go_wp2_with (first
    | (go_at_call 145; refine (check_any _ N _ E (HS.out.ext (by repeat (first | exact Ext.refl _ | assumption | refine Ext.alloc ?_ _ | refine Ext.drew ?_ | refine Ext.drewN ?_ _))) 30 HK.out).mono ?_; rintro e w1 ⟨rfl, hx⟩; have X1 := Lib.hid hx; clear hx))
  exact bodyPost_ret (v := .tuple #[.slice none 0 0, .int .i64 0, .int .i64 30]) (by simp [results, Tryz.results130, go_sem]) rfl ⟨_, rfl, Sl.none _, Ext.trans ((Ext.refl w).alloc _) X1.out⟩
set_option maxHeartbeats 2000000 in
theorem run_ok (w : World) (N : Int) (v : Value) (E : List Edge) (h : Sl w v E) (ok : OkG N E) (K : Nat) (hK : Ends N E K) : Calls Tryz.prog 130 #[.agg #[.int .i64 N, v]] w (GivesRun w (itr N E K) K 0) := by
  obtain ⟨vo, vn, vc, rfl⟩ := h.sh
  have HS := Lib.hid h
  have HCK := Lib.hid (chk_of ok)
  have HOK := Lib.hid ok
  have HE := Lib.hid hK
  have hKN := hK.le ok
  have n0 := ok.n0
  have n64 := ok.n64
  obtain ⟨m, hm⟩ : ∃ m : Nat, (m : Int) = N := ⟨N.toNat, by omega⟩
  subst hm
  have HZ : Hid (List.replicate m (0 : Int) = itr (m : Int) E 0) := Lib.hid rfl
  have hm64 : m ≤ 64 := by omega
  have HG := Lib.hid (graph_at w (m : Int) (.slice vo vn vc))
  clear h ok hK
  go_enter Tryz.func130, Tryz.ntmps130
  go_wp2_with (first
    | (go_at_call 145; refine (check_any _ (m : Int) _ E (HS.out.ext (by repeat (first | exact Ext.refl _ | assumption | refine Ext.alloc ?_ _ | refine Ext.drew ?_ | refine Ext.drewN ?_ _))) 0 HCK.out).mono ?_; rintro e w1 ⟨rfl, hx⟩; have X1 := Lib.hid hx; obtain ⟨a0, a1⟩ := HG.out w1 hx; clear hx)
    | (go_at_call 154; refine (asker_any _ (m : Int) _ E (HS.out.ext (Ext.trans ((Ext.refl w).alloc _) X1.out)) HOK.out).mono ?_; rintro e w2 ⟨fv, rfl, ha, hx⟩; obtain ⟨fg, fl, rfl⟩ := ha.sh; have X2 := Lib.hid (Ext.trans X1.out hx); have HA := Lib.hid ha; obtain ⟨b0, b1⟩ := HG.out w2 X2.out; obtain ⟨w3, hmk, ho3, x3⟩ := make_ow w2 m (by omega); have X3 := Lib.hid (Ext.trans X2.out x3); have O3 := Lib.hid ho3.sl; have Y3 := Lib.hid x3; clear hx ha ho3 x3))
  clear hmk
  go_loopw [7, 8] (fun q r wr => ∃ k : Nat, k ≤ K ∧ r = .int .i64 k ∧ (∃ ao n c, q = .slice ao n c) ∧ Hid (Sl wr q (itr (m : Int) E k)) ∧ Hid (Ext w2 wr)) (fun _ r _ => K - (intOf r).toNat)
  case atStart => exact ⟨0, Nat.zero_le _, rfl, ⟨_, _, _, rfl⟩, Lib.hid (by rw [← HZ.out]; exact O3.out), Lib.hid Y3.out⟩
  case round =>
    obtain ⟨k, hk, rfl, ⟨ao, n, c, rfl⟩, HO, HX⟩ := hrel
    have hlk := itr_length (m : Int) E k
    have hnk : IntKind.i64.wrap ((k : Int) + 1) = ((k + 1 : Nat) : Int) := by rw [wrapN _ (by omega) (by omega)]; omega
    have HLK : Hid (((itr (m : Int) E k).length : Int) = (m : Int)) := Lib.hid (by rw [hlk]; rfl)
    have HNX : Hid (itr (m : Int) E (k + 1) = roundL (m : Int) E (itr (m : Int) E k)) := Lib.hid rfl
    have HIN : Hid (k < K → (0 : Int) ∈ itr (m : Int) E k) := Lib.hid (HE.out.1 k)
    have HOUT : Hid (k = K → (0 : Int) ∉ itr (m : Int) E k) := Lib.hid (fun e => e ▸ HE.out.2)
    obtain ⟨D, hD⟩ : ∃ D, D = itr (m : Int) E k := ⟨_, rfl⟩
    have HDD := Lib.hid hD
    rw [← hD] at HO HLK HNX HIN HOUT
    clear hD hlk
    by_cases hlt : k < K
    · have HD := Lib.hid (decide_eq_true (HIN.out hlt))
      go_wp2_with (first
        | (go_at_call 155; refine (contains_i _ _ D 0 HO.out true HD.out).mono ?_; rintro e w4 ⟨rfl, hx⟩; have X4 := Lib.hid (Ext.trans HX.out hx); have HO4 := Lib.hid (HO.out.ext hx); clear hx)
        | (go_at_call 156; refine (behind_any _ _ _ (m : Int) E D HOK.out HO4.out HLK.out (HA.out.ext X4.out)).mono ?_; rintro e w5 ⟨v5, rfl, ho, hx⟩; obtain ⟨a5, n5, c5, rfl⟩ := ho.sh; have X5 := Lib.hid (Ext.trans X4.out hx); have HO5 := Lib.hid ho.sl; clear hx ho))
      go_roundw
      case rel => exact ⟨k + 1, by omega, by go_num, ⟨_, _, _, rfl⟩, Lib.hid (by rw [HNX.out]; exact HO5.out), X5⟩
      case measure => simp [intOf]; omega
    · have hkK : k = K := by omega
      have HD := Lib.hid (decide_eq_false (HOUT.out hkK))
      subst hkK
      go_wp2_with (first
        | (go_at_call 155; refine (contains_i _ _ D 0 HO.out false HD.out).mono ?_; rintro e w4 ⟨rfl, hx⟩; have X4 := Lib.hid (Ext.trans HX.out hx); have HO4 := Lib.hid (HO.out.ext hx); clear hx))
      exact bodyPost_ret (v := .tuple #[.slice ao n c, .int .i64 (k : Int), .int .i64 0]) (by simp [results, Tryz.results130, go_sem]) rfl ⟨_, rfl, by rw [← HDD.out]; exact HO4.out, Ext.trans ((Ext.refl w).alloc _) (Ext.trans X2.out X4.out)⟩
theorem all_range (p : Nat → Bool) (k : Nat) : (List.range (k + 1)).all p = ((List.range k).all p && p k) := by
  rw [List.range_succ, List.all_append]
  simp
theorem all_range_no {p : Nat → Bool} {k n : Nat} (hk : k < n) (h : p k = false) : (List.range n).all p = false := by
  rw [List.all_eq_false]
  exact ⟨k, List.mem_range.2 hk, by simp [h]⟩
set_option maxHeartbeats 2000000 in
theorem right_any (w : World) (N : Int) (v cv : Value) (E : List Edge) (c : List Int) (h : Sl w v E) (hc : Sl w cv c) (r : Bool) (hr : rightB N E c = r) :
    Calls Tryz.prog 157 #[.agg #[.int .i64 N, v], cv] w fun e w' => e = .returned (.bool r) ∧ Ext w w' := by
  obtain ⟨vo, vn, vc, rfl⟩ := h.sh
  obtain ⟨co, cc, rfl⟩ := hc.len
  have hX : Ext w ((w.alloc (.cells #[.int .i64 N, .slice vo vn vc] 53)).alloc (.cells #[.slice co c.length cc] 26)) := ext_two w _ _
  have HX0 := Lib.hid hX
  have HS := Lib.hid (h.ext hX)
  have HC := Lib.hid (hc.ext hX)
  have hcl := hc.length_le
  have HK : Hid (∀ V, Ext ((w.alloc (.cells #[.int .i64 N, .slice vo vn vc] 53)).alloc (.cells #[.slice co c.length cc] 26)) V → (V.cell? ⟨w.heap.size, 0, none⟩ = some (.int .i64 N) ∧ V.cell? ⟨w.heap.size, 1, none⟩ = some (.slice vo vn vc)) ∧ V.cell? ⟨w.heap.size + 1, 0, none⟩ = some (.slice co c.length cc)) := Lib.hid fun V hV => by
    obtain ⟨hA, hB⟩ := box2 (hV.mono (by rw [size_alloc, size_alloc]; omega))
    exact ⟨⟨blk_cell hA 0 rfl, blk_cell hA 1 rfl⟩, blk_cell hB 0 rfl⟩
  have hmf : ∀ (fn : Fn) (first cap : Array Value) (w : World), (Instr.makeFunc fn first cap).run Tryz.prog w = .ok (.func fn first cap) w := fun _ _ _ _ => rfl
  clear h hc hX
  by_cases ok : OkG N E
  · have HCK := Lib.hid (chk_of ok)
    have HOK := Lib.hid ok
    have n0 := ok.n0
    have n64 := ok.n64
    unfold rightB at hr
    rw [okG_iff.2 ok, Bool.true_and] at hr
    clear ok
    by_cases hl : (c.length : Int) = N
    · have hle : ((c.length : Int) != N) = false := by simp [hl]
      rw [decide_eq_true (by omega), Bool.true_and] at hr
      have HR := Lib.hid hr
      have HL := Lib.hid hl
      have hc64 : c.length ≤ 64 := by omega
      clear hr hl
      go_enter Tryz.func157, Tryz.ntmps157
      go_wp2_with (first
        | (go_at_call 145; refine (check_any _ N _ E (HS.out.ext (by repeat (first | exact Ext.refl _ | assumption | refine Ext.alloc ?_ _ | refine Ext.drew ?_ | refine Ext.drewN ?_ _))) 0 HCK.out).mono ?_; rintro e w1 ⟨rfl, hx⟩; have X1 := Lib.hid hx; obtain ⟨⟨a0, a1⟩, a2⟩ := HK.out w1 hx; clear hx)
        | (go_at_call 154; refine (asker_any _ N _ E (HS.out.ext X1.out) HOK.out).mono ?_; rintro e w2 ⟨fv, rfl, ha, hx⟩; have X2 := Lib.hid (Ext.trans X1.out hx); obtain ⟨⟨b0, b1⟩, b2⟩ := HK.out w2 X2.out; have HA := Lib.hid ha; obtain ⟨g, lb, rfl, eg, hq⟩ := ha.any; have HQ := Lib.hid hq; clear hx ha hq))
      go_loopw [23] (fun i wr => ∃ k : Nat, k ≤ c.length ∧ i = .int .i64 k ∧ Hid ((List.range k).all (fun i : Nat => decide (1 ≤ col c i) && !takenB c (rnear N E i) (col c i)) = true) ∧ Hid (Ext w2 wr)) (fun i _ => c.length - (intOf i).toNat)
      case atStart => exact ⟨0, Nat.zero_le _, rfl, Lib.hid rfl, Lib.hid (Ext.refl _)⟩
      case round =>
        obtain ⟨k, hk, rfl, HT, HX⟩ := hrel
        have XR := Lib.hid (Ext.trans X2.out HX.out)
        obtain ⟨⟨e0, e1⟩, e2⟩ := HK.out wr XR.out
        have hsz : w.heap.size + 2 ≤ wr.heap.size := by have := Below.size XR.out; rw [size_alloc, size_alloc] at this; omega
        by_cases hlt : k < c.length
        · obtain ⟨b, off, rfl, hn, hnc, hc63, hb, hcell⟩ := HC.out.intsAt hlt
          have hya := (XR.out.cell (p := ⟨b, off + k, none⟩) hb).trans hcell
          obtain ⟨y, hy⟩ : ∃ y, y = c.getD k 0 := ⟨_, rfl⟩
          rw [← hy] at hya
          have hkN : (k : Int) < N := by have := HL.out; omega
          have hcol : col c (k : Int) = y := by rw [hy]; rfl
          obtain ⟨W1, hW1⟩ : ∃ W1, W1 = wr.alloc (.cells #[.int .i64 y] 3) := ⟨_, rfl⟩
          have XW : Ext wr W1 := by rw [hW1]; exact (Ext.refl wr).alloc _
          have v1 : W1.cell? ⟨wr.heap.size, 0, none⟩ = some (.int .i64 y) := by rw [hW1]; exact blk_cell (get_alloc_new _ _) 0 rfl
          have vsz : W1.heap.size = wr.heap.size + 1 := by rw [hW1, size_alloc]
          have XX := XR.out.trans XW
          have kc1 := (HK.out W1 XX).2
          have HW := Lib.hid (HQ.out W1 k _ _ (HX.out.trans XW) (by omega) hkN ((right_tells W1 (w.heap.size + 1) wr.heap.size _ c y (by omega) (by omega) kc1 v1 (HC.out.ext XX)).imp fun x hx => by have := near_in HOK.out hx; have := HL.out; omega))
          have HWD : Hid (((rnear N E k).any fun x => col c x == y) = takenB c (rnear N E k) y) := Lib.hid rfl
          rw [HWD.out] at HW
          have HN : Hid ((fun i : Nat => decide (1 ≤ col c i) && !takenB c (rnear N E i) (col c i)) k = (decide (1 ≤ y) && !takenB c (rnear N E k) y)) := Lib.hid (by subst hcol; rfl)
          clear hy hcell XW XX kc1 vsz hcol
          subst hW1
          by_cases h1 : y < 1
          · have HF : Hid ((fun i : Nat => decide (1 ≤ col c i) && !takenB c (rnear N E i) (col c i)) k = false) := Lib.hid (HN.out.trans (by rw [decide_eq_false (by omega), Bool.false_and]))
            clear HW
            go_wp2
            go_ret
            exact ⟨ret_bool ((all_range_no hlt HF.out).symm.trans HR.out), HX0.out.trans (XR.out.alloc _)⟩
          · cases ht : takenB c (rnear N E k) y
            · rw [ht] at HW
              have HF : Hid ((fun i : Nat => decide (1 ≤ col c i) && !takenB c (rnear N E i) (col c i)) k = true) := Lib.hid (HN.out.trans (by rw [ht, decide_eq_true (by omega)]; rfl))
              clear ht
              go_wp2_with (first
                | (go_at_fn g; refine HW.out.mono ?_; rintro e w3 ⟨rfl, hx⟩; have X3 := Lib.hid (HX.out.trans (Ext.trans ((Ext.refl wr).alloc _) hx)); clear hx))
              go_roundw
              case rel => exact ⟨k + 1, by omega, by go_num, Lib.hid (by rw [all_range, HT.out, HF.out]; rfl), X3⟩
              case measure => simp [intOf]; omega
            · rw [ht] at HW
              have HF : Hid ((fun i : Nat => decide (1 ≤ col c i) && !takenB c (rnear N E i) (col c i)) k = false) := Lib.hid (HN.out.trans (by rw [ht]; simp))
              clear ht
              go_wp2_with (first
                | (go_at_fn g; refine HW.out.mono ?_; rintro e w3 ⟨rfl, hx⟩; have X3 := Lib.hid (XR.out.trans (Ext.trans ((Ext.refl wr).alloc _) hx)); clear hx))
              go_ret
              exact ⟨ret_bool ((all_range_no hlt HF.out).symm.trans HR.out), HX0.out.trans X3.out⟩
        · have hkl : k = c.length := by omega
          have HF : Hid (true = r) := Lib.hid (by rw [← HR.out, ← HT.out, hkl])
          go_wp2
          go_ret
          exact ⟨ret_bool HF.out, HX0.out.trans XR.out⟩
    · have hle : ((c.length : Int) != N) = true := by simp [hl]
      rw [decide_eq_false (by omega), Bool.false_and] at hr
      subst hr
      clear hl
      go_enter Tryz.func157, Tryz.ntmps157
      go_wp2_with (first
        | (go_at_call 145; refine (check_any _ N _ E (HS.out.ext (by repeat (first | exact Ext.refl _ | assumption | refine Ext.alloc ?_ _ | refine Ext.drew ?_ | refine Ext.drewN ?_ _))) 0 HCK.out).mono ?_; rintro e w1 ⟨rfl, hx⟩; have X1 := Lib.hid hx; obtain ⟨⟨a0, a1⟩, a2⟩ := HK.out w1 hx; clear hx))
      go_ret
      exact ⟨rfl, HX0.out.trans X1.out⟩
  · have HCK := Lib.hid (chk_not ok)
    unfold rightB at hr
    rw [okG_not ok, Bool.false_and, Bool.false_and] at hr
    subst hr
    clear ok
    go_enter Tryz.func157, Tryz.ntmps157
    go_wp2_with (first
      | (go_at_call 145; refine (check_any _ N _ E (HS.out.ext (by repeat (first | exact Ext.refl _ | assumption | refine Ext.alloc ?_ _ | refine Ext.drew ?_ | refine Ext.drewN ?_ _))) 30 HCK.out).mono ?_; rintro e w1 ⟨rfl, hx⟩; have X1 := Lib.hid hx; clear hx))
    go_ret
    exact ⟨rfl, HX0.out.trans X1.out⟩
end Go.Proofs.YtfbambemjokmgaaGreat
namespace Go.Proofs.YtfbambemjokmgaaGreat
open Go.RowKit
theorem keepT {w W : World} {g : Nat} {o : Obj} (h : w.heap[g]? = some o) (e : Ext w W) : W.heap[g]? = some o := (e.block _ (blk_lt h)).trans h
theorem offT {w w' : World} {row : Option Nat} (h : w.grownBy w' row) : Off (fun k => row = some k) w w' :=
  ⟨h.os, h.tape, h.output, h.size, fun k hk hn => h.block k hk (fun e => hn e.symm)⟩
def laidS (p : Int) (b : Bool) : Sd := if b = true then ⟨p, 1, 0, false, false, true, false, true⟩ else ⟨p, 1, 0, true, true, false, true, false⟩
theorem sideC_laid (c : List Int) (a b : Int) : sideC c a b = laidS b (decide (col c a < col c b)) := by unfold sideC laidS; by_cases h : col c a < col c b <;> simp [h]
theorem range_SS : ∀ n : Nat, SS ((List.range n).map fun i : Nat => (i : Int))
  | 0 => by unfold SS; simp
  | n + 1 => by
    have ih := range_SS n
    unfold SS at ih ⊢
    rw [List.range_succ, List.map_append, List.pairwise_append]
    refine ⟨ih, by simp, ?_⟩
    intro a ha b hb
    simp at ha hb
    obtain ⟨i, hi, rfl⟩ := ha
    omega
theorem nearOf_eq {N : Int} {E : List Edge} (ok : OkG N E) (a : Int) : nearOf E a = rnear N E a :=
  SS.ext (by unfold nearOf; exact norm_SS _) (by unfold rnear; exact (range_SS _).filter _) fun _ => near_rnear ok
theorem diner_near {N : Int} {E : List Edge} (ok : OkG N E) (c : List Int) (a : Nat) : dinerC N E c a = ⟨a, 0, (nearOf E a).map (sideC c a)⟩ := by rw [nearOf_eq ok]; rfl
theorem rnear_len (N : Int) (E : List Edge) (a : Int) : (rnear N E a).length ≤ N.toNat := by
  unfold rnear
  have := List.length_filter_le (fun b => decide (btw a b ∈ E)) ((List.range N.toNat).map fun i : Nat => (i : Int))
  simpa using this
theorem mem_rnear_in {N : Int} {E : List Edge} {a x : Int} (h : x ∈ rnear N E a) : 0 ≤ x ∧ x < N := by
  unfold rnear at h
  simp at h
  obtain ⟨⟨i, hi, rfl⟩, _⟩ := h
  omega
set_option maxRecDepth 100000 in
set_option maxHeartbeats 2000000 in
theorem pLaid_any (w : World) (p : Int) (b : Bool) (x : Sd) (hx : laidS p b = x) :
    Calls Tryz.prog 159 #[.int .i64 p, .bool b] w fun e w' => e = .returned (.agg x.cs) ∧ Ext w w' := by
  subst hx
  cases b
  · have HZ := Lib.hid (old1 (at0 w (.cells Sd.zero.cs 66)) (.cells #[.int .i64 p, .int .i64 1, .int .i64 0, .bool true, .bool true, .bool false, .bool true, .bool false] 66))
    have HL := Lib.hid (at1 w (.cells Sd.zero.cs 66) (.cells #[.int .i64 p, .int .i64 1, .int .i64 0, .bool true, .bool true, .bool false, .bool true, .bool false] 66))
    have X1 : Hid (Ext w ((w.alloc (.cells Sd.zero.cs 66)).alloc (.cells #[.int .i64 p, .int .i64 1, .int .i64 0, .bool true, .bool true, .bool false, .bool true, .bool false] 66))) := Lib.hid (((Ext.refl w).alloc _).alloc _)
    go_enter Tryz.func159, Tryz.ntmps159
    go_upto_region 5 with (fail)
    obtain ⟨⟨⟨q0, q1⟩, q2, q3⟩, ⟨q4, q5⟩, q6, q7⟩ := cells8P HL.out
    dsimp only [Sd.cs, Sd.zero] at q0 q1 q2 q3 q4 q5 q6 q7
    go_wp2_with (first | refine haltst 66 ?_)
    refine .inl ?_
    refine st_l 66 (.tmp 4) (.tmp 14) w.heap.size 0 66 Sd.zero.cs #[.int .i64 p, .int .i64 1, .int .i64 0, .bool true, .bool true, .bool false, .bool true, .bool false] #[.int .i64 p, .int .i64 1, .int .i64 0, .bool true, .bool true, .bool false, .bool true, .bool false] rfl rfl HZ.out (by kernel_rfl) (by simp [Sd.cs, Sd.zero]) rfl rfl ?_
    intro W hW oW
    simp only [Act.put]
    go_wp2
    exact bodyPost_ret (v := .agg #[.int .i64 p, .int .i64 1, .int .i64 0, .bool true, .bool true, .bool false, .bool true, .bool false]) (res_c rfl rfl hW uSide (by kernel_rfl)) rfl ⟨rfl, ext_off X1.out oW (fun k hk => by omega)⟩
  · have HZ := Lib.hid (old1 (at0 w (.cells Sd.zero.cs 66)) (.cells #[.int .i64 p, .int .i64 1, .int .i64 0, .bool false, .bool false, .bool true, .bool false, .bool true] 66))
    have HL := Lib.hid (at1 w (.cells Sd.zero.cs 66) (.cells #[.int .i64 p, .int .i64 1, .int .i64 0, .bool false, .bool false, .bool true, .bool false, .bool true] 66))
    have X1 : Hid (Ext w ((w.alloc (.cells Sd.zero.cs 66)).alloc (.cells #[.int .i64 p, .int .i64 1, .int .i64 0, .bool false, .bool false, .bool true, .bool false, .bool true] 66))) := Lib.hid (((Ext.refl w).alloc _).alloc _)
    go_enter Tryz.func159, Tryz.ntmps159
    go_upto_region 5 with (fail)
    obtain ⟨⟨⟨q0, q1⟩, q2, q3⟩, ⟨q4, q5⟩, q6, q7⟩ := cells8P HL.out
    dsimp only [Sd.cs, Sd.zero] at q0 q1 q2 q3 q4 q5 q6 q7
    go_wp2_with (first | refine haltst 66 ?_)
    refine .inl ?_
    refine st_l 66 (.tmp 4) (.tmp 14) w.heap.size 0 66 Sd.zero.cs #[.int .i64 p, .int .i64 1, .int .i64 0, .bool false, .bool false, .bool true, .bool false, .bool true] #[.int .i64 p, .int .i64 1, .int .i64 0, .bool false, .bool false, .bool true, .bool false, .bool true] rfl rfl HZ.out (by kernel_rfl) (by simp [Sd.cs, Sd.zero]) rfl rfl ?_
    intro W hW oW
    simp only [Act.put]
    go_wp2
    exact bodyPost_ret (v := .agg #[.int .i64 p, .int .i64 1, .int .i64 0, .bool false, .bool false, .bool true, .bool false, .bool true]) (res_c rfl rfl hW uSide (by kernel_rfl)) rfl ⟨rfl, ext_off X1.out oW (fun k hk => by omega)⟩
theorem okG_chkT {N : Int} {E : List Edge} {b : Bool} (h : okG N E = b) : chk N E = if b = true then 0 else 30 := by unfold chk; rw [h]
set_option maxRecDepth 100000 in
set_option maxHeartbeats 8000000 in
theorem pTable_any (w : World) (N : Int) (v cv : Value) (E : List Edge) (c : List Int) (h : Sl w v E) (hc : Sl w cv c) (r : Int) (hr : placeR N E c = r) (L : List Dn) (hL : (if r = 0 then tableL N E c else []) = L) :
    Calls Tryz.prog 131 #[.agg #[.int .i64 N, v], cv] w (GivesN w L r) := by
  obtain ⟨vo, vn, vc, rfl⟩ := h.sh
  obtain ⟨co, cc, rfl⟩ := hc.len
  have HS := Lib.hid h
  have HC := Lib.hid hc
  have HG := Lib.hid (graph_at w N (.slice vo vn vc))
  have X0 : Hid (Ext w (w.alloc (.cells #[.int .i64 N, .slice vo vn vc] 53))) := Lib.hid ((Ext.refl w).alloc _)
  obtain ⟨g0, g1⟩ := HG.out _ (Ext.refl _)
  clear h hc
  cases ho : okG N E
  · have HOK := Lib.hid (okG_chkT ho)
    obtain rfl : r = 30 := by rw [← hr]; unfold placeR; rw [ho]; rfl
    obtain rfl : L = [] := by rw [← hL]; rfl
    clear ho hr hL
    go_enter Tryz.func131, Tryz.ntmps131
    go_wp2_with (go_at_call 145; refine (check_any _ N _ E (HS.out.ext X0.out) 30 HOK.out).mono ?_; rintro e w1 ⟨rfl, hx⟩; have X1 := Lib.hid (X0.out.trans hx); clear hx)
    go_ret2
    exact ⟨_, rfl, Ns.nil _ _, X1.out⟩
  have HOK := Lib.hid (okG_chkT ho)
  have HOG := Lib.hid (okG_iff.1 ho)
  cases hrb : rightB N E c
  · obtain rfl : r = 120 := by rw [← hr]; unfold placeR; rw [ho, hrb]; rfl
    obtain rfl : L = [] := by rw [← hL]; rfl
    have HRB := Lib.hid hrb
    clear ho hr hL hrb
    go_enter Tryz.func131, Tryz.ntmps131
    go_wp2_with (first
      | (go_at_call 145; refine (check_any _ N _ E (HS.out.ext X0.out) 0 HOK.out).mono ?_; rintro e w1 ⟨rfl, hx⟩; have X1 := Lib.hid hx; obtain ⟨k0, k1⟩ := HG.out w1 X1.out; clear hx)
      | (go_at_call 157; refine (right_any _ N _ _ E c (HS.out.ext (X0.out.trans X1.out)) (HC.out.ext (X0.out.trans X1.out)) _ HRB.out).mono ?_; rintro e w2 ⟨rfl, hx⟩; have X2 := Lib.hid (X1.out.trans hx); clear hx))
    go_ret2
    exact ⟨_, rfl, Ns.nil _ _, X0.out.trans X2.out⟩
  obtain rfl : r = 0 := by rw [← hr]; unfold placeR; rw [ho, hrb]; rfl
  obtain rfl : L = tableL N E c := by rw [← hL]; rfl
  have HRB := Lib.hid hrb
  have hlc : c.length = N.toNat := by unfold rightB at hrb; simp only [Bool.and_eq_true, decide_eq_true_eq] at hrb; exact hrb.1.2
  clear ho hr hL hrb
  obtain ⟨m, hm⟩ : ∃ m : Nat, (m : Int) = N := ⟨N.toNat, by have := HOG.out.n0; omega⟩
  subst hm
  have hm64 : m ≤ 64 := by have := HOG.out.n64; omega
  have HCM : Hid (c.length = m) := Lib.hid (by omega)
  have HTA : Hid ((tableL (m : Int) E c).length = m) := Lib.hid (by simp [tableL])
  obtain ⟨TL, hTL⟩ : ∃ TL, TL = tableL (m : Int) E c := ⟨_, rfl⟩
  have HTL := Lib.hid hTL
  rw [← hTL] at HTA ⊢
  clear hTL hlc
  go_enter Tryz.func131, Tryz.ntmps131
  go_upto_region 7 with (first
    | (go_at_call 145; refine (check_any _ (m : Int) _ E (HS.out.ext X0.out) 0 HOK.out).mono ?_; rintro e w1 ⟨rfl, hx⟩; have X1 := Lib.hid hx; obtain ⟨k0, k1⟩ := HG.out w1 X1.out; clear hx)
    | (go_at_call 157; refine (right_any _ (m : Int) _ _ E c (HS.out.ext (X0.out.trans X1.out)) (HC.out.ext (X0.out.trans X1.out)) _ HRB.out).mono ?_; rintro e w2 ⟨rfl, hx⟩; have X2 := Lib.hid (X1.out.trans hx); clear hx))
  obtain ⟨k2, k3⟩ := HG.out w2 X2.out
  go_wp2
  go_loopw [7, 23] (fun q i wr => ∃ k : Nat, k ≤ m ∧ i = .int .i64 k ∧ Hid (Nw DV Non wr (w.heap.size + 1) q (TL.take k)) ∧ Hid (Ext (w.alloc (.cells #[.int .i64 (m : Int), .slice vo vn vc] 53)) wr)) (fun _ i _ => m - (intOf i).toNat)
  case atStart => exact ⟨0, Nat.zero_le _, rfl, Lib.hid (by rw [List.take_zero]; exact Nw.nil _ _ _), X2⟩
  case round =>
    obtain ⟨k, hk, rfl, HQ, HX⟩ := hrel
    obtain ⟨h0, h1⟩ := HG.out wr HX.out
    have hwr := Below.size HX.out
    rw [size_alloc] at hwr
    by_cases hlt : k < m
    · have HNX : Hid (TL.take (k + 1) = TL.take k ++ [(⟨(k : Int), 0, (nearOf E (k : Int)).map (sideC c (k : Int))⟩ : Dn)]) := Lib.hid (by rw [HTL.out, ← diner_near HOG.out]; exact tableL_next _ _ _ (by rw [Int.toNat_natCast]; exact hlt))
      have HNI : Hid (∀ y ∈ nearOf E (k : Int), 0 ≤ y ∧ y < (m : Int)) := Lib.hid fun y hy => by rw [nearOf_eq HOG.out] at hy; exact mem_rnear_in hy
      have hnl : (nearOf E (k : Int)).length ≤ 64 := by rw [nearOf_eq HOG.out]; have := rnear_len (m : Int) E (k : Int); rw [Int.toNat_natCast] at this; omega
      obtain ⟨NR, hNR⟩ : ∃ NR, NR = nearOf E (k : Int) := ⟨_, rfl⟩
      have HNR := Lib.hid hNR
      rw [← hNR] at HNX HNI hnl
      obtain ⟨W1, hW1⟩ : ∃ W1, W1 = wr.alloc (.cells #[.int .i64 (k : Int), .int .i64 0, .slice none 0 0] 61) := ⟨_, rfl⟩
      have X1 : Hid (Ext wr W1) := Lib.hid (hW1 ▸ (Ext.refl _).alloc _)
      have D1 : Hid (W1.heap[wr.heap.size]? = some (.cells #[.int .i64 (k : Int), .int .i64 0, .slice none 0 0] 61 (0, 0))) := Lib.hid (hW1 ▸ at0 wr _)
      have HW1 := Lib.hid hW1
      have hW1s : W1.heap.size = wr.heap.size + 1 := by rw [hW1, size_alloc]
      obtain ⟨h2, h3⟩ := HG.out W1 (HX.out.trans X1.out)
      clear hNR hW1
      go_upto_region 11 with (fail)
      rw [← HW1.out]
      go_wp2_with (first
        | (go_at_call 158; refine (near_any _ (m : Int) _ E (k : Int) (HS.out.ext (Ext.trans X0.out (HX.out.trans X1.out))) HOG.out).mono ?_; rintro e wn ⟨nv, rfl, hown, hbe⟩; rw [← HNR.out] at hown; obtain ⟨no, nc, rfl⟩ := hown.sl.len; have HNV := Lib.hid hown; have X3 : Hid (Ext W1 wn) := Lib.hid hbe; clear hown hbe))
      obtain ⟨G, hGG⟩ : ∃ G, wr.heap.size = G := ⟨_, rfl⟩
      obtain ⟨WR, hWR⟩ : ∃ WR, WR = wr := ⟨_, rfl⟩
      have HWR := Lib.hid hWR
      have hGr : Hid (WR.heap.size = G) := Lib.hid (by rw [hWR, hGG])
      have HQ0 := Lib.hid (hWR ▸ HQ.out)
      have HX0 := Lib.hid (hWR ▸ HX.out)
      have X10 := Lib.hid (hWR ▸ X1.out)
      rw [hGG] at D1 hwr hW1s ⊢
      have hwn := Below.size X3.out
      have HF : Hid (∀ b, (b = G ∨ wn.heap.size ≤ b) → w.heap.size ≤ b) := Lib.hid fun b hb => by omega
      have HNS : Hid (Sa (fun b => b = G ∨ wn.heap.size ≤ b) wn (.slice no NR.length nc) NR) := Lib.hid ⟨HNV.out.sl, .inr fun b hb hf => by have := HNV.out.low b hb; omega⟩
      have DN := Lib.hid (keepT D1.out X3.out)
      clear hGG hWR HQ HX X1 D1
      go_loopw [32] (fun i wr2 => ∃ j : Nat, j ≤ NR.length ∧ i = .int .i64 j ∧ Hid (∃ so sn sc, wr2.heap[G]? = some (.cells #[.int .i64 (k : Int), .int .i64 0, .slice so sn sc] 61 (0, 0)) ∧ Ow wr2 wn.heap.size (.slice so sn sc) ((NR.take j).map (sideC c (k : Int)))) ∧ Hid (Off (fun b => b = G ∨ wn.heap.size ≤ b) wn wr2)) (fun i _ => NR.length - (intOf i).toNat)
      case atStart => exact ⟨0, Nat.zero_le _, rfl, Lib.hid ⟨none, 0, 0, DN.out, Ow.nil _ _⟩, Lib.hid (Off.refl _ _)⟩
      case round =>
        obtain ⟨j, hj, rfl, HD, HO⟩ := hrel
        obtain ⟨so, sn, sc, hdb, hown⟩ := HD.out
        have HDB := Lib.hid hdb
        have HOW := Lib.hid hown
        have XW : Hid (Ext w wr) := Lib.hid (ext_off (X0.out.trans (HX0.out.trans (X10.out.trans X3.out))) HO.out HF.out)
        have hsz := HO.out.size
        clear hdb hown HD
        by_cases hj2 : j < NR.length
        · have HNN := HNS.out.off HO.out (Grows.refl _ _)
          obtain ⟨nb, nof, hno, _, hn2, hn3, hn4, hn5⟩ := HNN.sl.intsAt hj2
          subst hno
          obtain ⟨y, hy⟩ : ∃ y, y = NR.getD j 0 := ⟨_, rfl⟩
          rw [← hy] at hn5
          have hyi := HNI.out y (hy ▸ by rw [List.getD_eq_getElem?_getD, List.getElem?_eq_getElem hj2]; simp)
          have hyk : NR[j]? = some y := by rw [hy]; simp [hj2]
          have HTK : Hid ((NR.take (j + 1)).map (sideC c (k : Int)) = (NR.take j).map (sideC c (k : Int)) ++ [sideC c (k : Int) y]) := Lib.hid (by rw [List.take_succ_eq_append_getElem hj2, List.map_append]; simp [(List.getElem?_eq_some_iff.1 hyk).2])
          have HSL : Hid (((NR.take j).map (sideC c (k : Int))).length ≤ 64) := Lib.hid (by rw [List.length_map, List.length_take]; omega)
          obtain ⟨S, hS⟩ : ∃ S, S = (NR.take j).map (sideC c (k : Int)) := ⟨_, rfl⟩
          rw [← hS] at HTK HSL HOW
          have hSl : S.length ≤ 64 := HSL.out
          obtain ⟨b, off, n2, k2, hv, hcn, hnk2, hk63, hb, hca⟩ := HC.out.colAtD (x := (k : Int)) (by omega) (by have := HCM.out; omega)
          obtain ⟨b3, off3, n3, k3, hv3, hcn3, hnk3, hk633, hb3, hcb⟩ := HC.out.colAtD (x := y) (by omega) (by have := HCM.out; omega)
          simp only [Value.slice.injEq] at hv
          obtain ⟨rfl, rfl, rfl⟩ := hv
          simp only [Value.slice.injEq, Option.some.injEq, Addr.mk.injEq, and_true] at hv3
          obtain ⟨⟨rfl, rfl⟩, rfl, rfl⟩ := hv3
          rw [Int.toNat_natCast] at hca
          obtain ⟨yn, rfl⟩ : ∃ yn : Nat, y = (yn : Int) := ⟨y.toNat, by omega⟩
          rw [Int.toNat_natCast] at hcb
          have hkc : k < c.length := by have := HCM.out; omega
          have hjc : yn < c.length := by have := HCM.out; omega
          have HCL := Lib.hid (sideC_laid c (k : Int) (yn : Int))
          obtain ⟨p, hp⟩ : ∃ p, p = col c (k : Int) := ⟨_, rfl⟩
          obtain ⟨q, hq⟩ : ∃ q, q = col c (yn : Int) := ⟨_, rfl⟩
          rw [← hp] at hca HCL
          rw [← hq] at hcb HCL
          have HCA : Hid (∀ V, Ext w V → V.cell? ⟨b, off + k, none⟩ = some (.int .i64 p)) := Lib.hid fun V hV => (Below.cell hV (p := ⟨b, off + k, none⟩) hb).trans hca
          have HCB : Hid (∀ V, Ext w V → V.cell? ⟨b, off + yn, none⟩ = some (.int .i64 q)) := Lib.hid fun V hV => (Below.cell hV (p := ⟨b, off + yn, none⟩) hb3).trans hcb
          obtain ⟨x, hx⟩ : ∃ x, laidS (yn : Int) (decide (p < q)) = x := ⟨_, rfl⟩
          rw [hx] at HCL
          have HLX := Lib.hid hx
          clear hx hS hca hcb hp hq hy hyk hyi HNN hcn hcn3 HSL
          obtain ⟨x0, x1, x2, x3, x4, x5, x6, x7⟩ := x
          go_wp2_with fail
          (refine wp_region_X_lit (K := fun W => Ext w W) (by kernel_rfl) (fun w1 hw1 => ?_))
          have HW1 := Lib.hid hw1
          clear hw1
          refine xtv 0 (h := ?_)
          refine xtv 2 (h := ?_)
          refine xtv 3 (h := ?_)
          refine xtv 4 (h := ?_)
          refine xtv 5 (h := ?_)
          refine xtv 6 (hv := by intro w' hw'; have hc := HCA.out w' hw'; go_simp; first | done | with_reducible rfl) (h := ?_)
          refine xtv 7 (h := ?_)
          refine xtv 8 (h := ?_)
          refine xtv 9 (h := ?_)
          refine xtv 10 (hv := by intro w' hw'; have hc := HCB.out w' hw'; go_simp; first | done | with_reducible rfl) (h := ?_)
          refine xtv 11 (h := ?_)
          refine xtwo 1 12 (hk := (XW.out.trans HW1.out)) (h := RunX.of 1 (h := ?_)) (h' := RunX.of 12 (h := ?_))
          · have e2 := blk_cell (keepT HDB.out HW1.out) 2 rfl
            go_simp
            (try (simp only [Act.put, List.setIfInBounds_toArray, List.set]))
            refine xone 12 (hk := (XW.out.trans HW1.out)) (h := RunX.of 12 (h := ?_))
            go_simp
            refine (pLaid_any w1 (yn : Int) (decide (p < q)) _ HLX.out).mono ?_
            rintro e9 w9 ⟨rfl, hx9⟩
            have X9 := Lib.hid (HW1.out.trans hx9)
            have KA := Lib.hid (XW.out.trans (X9.out.alloc (.cells #[.int .i64 x0, .int .i64 x1, .int .i64 x2, .bool x3, .bool x4, .bool x5, .bool x6, .bool x7] 66)))
            have KB := Lib.hid (XW.out.trans X9.out)
            clear hx9
            dsimp only [Sd.cs]
            (try (simp only [Act.put, List.setIfInBounds_toArray, List.set]))
            refine xone 13 (hk := KB.out) (h := RunX.of 13 (h := ?_))
            go_simp
            (try (simp only [Act.put, List.setIfInBounds_toArray, List.set]))
            refine xone 14 (hk := KA.out) (h := RunX.of 14 (h := ?_))
            (refine wp_append_sl (α := Sd) (.tmp 37) (.tmp 49) rfl wn.heap.size (.slice so sn sc) S rfl ?_ (.slice (some ⟨_, 0, none⟩) 1 1) [(⟨x0, x1, x2, x3, x4, x5, x6, x7⟩ : Sd)] rfl ?_ ?_ ?_ ?_; exact ((HOW.out.ext X9.out).alloc _); exact (Sl.litAt w9 _ rfl [(⟨x0, x1, x2, x3, x4, x5, x6, x7⟩ : Sd)] (show (1 : Nat) ≤ 1000000 by decide)); (first | omega | (simp; omega)); (rw [size_alloc]; have := Below.size X9.out; omega); intro v6 W6 ho6 ha6)
            obtain ⟨a6, n6, c6, rfl⟩ := ho6.sh
            have O6 : Hid (Off (fun b => b = G ∨ wn.heap.size ≤ b) wn W6) := Lib.hid (HO.out.trans ((Off.of_ext (X9.out.alloc (.cells #[.int .i64 x0, .int .i64 x1, .int .i64 x2, .bool x3, .bool x4, .bool x5, .bool x6, .bool x7] 66))).trans ((offT ha6.grown).mono fun b hb => .inr (HOW.out.low b hb).1) (Grows.refl _ _)) (Grows.refl _ _))
            have K6 : Hid (Ext w W6) := Lib.hid (ext_off (X0.out.trans (HX0.out.trans (X10.out.trans X3.out))) O6.out HF.out)
            have hd6 := (ha6.below.block G (by omega)).trans (keepT HDB.out (X9.out.alloc (.cells #[.int .i64 x0, .int .i64 x1, .int .i64 x2, .bool x3, .bool x4, .bool x5, .bool x6, .bool x7] 66)))
            have f6 := blk_free hd6 2
            have e6 := blk_cell hd6 2 rfl
            have HD6 := Lib.hid hd6
            have HO6 := Lib.hid ho6
            clear ho6 ha6 hd6
            dsimp only
            (try (simp only [Act.put, List.setIfInBounds_toArray, List.set]))
            refine xone 15 (hk := K6.out) (h := RunX.of 15 (h := ?_))
            go_simp
            (try (simp only [Act.put, List.setIfInBounds_toArray, List.set]))
            refine xone 16 (hk := K6.out) (h := RunX.of 16 (h := ?_))
            go_simp
            (try (simp only [Act.put, List.setIfInBounds_toArray, List.set]))
            (refine xdone (by kernel_rfl) ((below_set K6.out (by show w.heap.size ≤ G; omega) _)) ?_)
            go_wp2
            go_roundw
            case rel => exact ⟨j + 1, by omega, by go_num, Lib.hid ⟨a6, n6, c6, by rw [blk_set HD6.out]; rfl, by rw [HTK.out, HCL.out]; exact HO6.out.set (by show G < wn.heap.size; omega) _⟩, Lib.hid (O6.out.trans ((off_set _ _ _).mono fun b hb => .inl hb) (Grows.refl _ _))⟩
            case measure => simp [intOf]; omega
          · go_simp
            refine (pLaid_any w1 (yn : Int) (decide (p < q)) _ HLX.out).mono ?_
            rintro e9 w9 ⟨rfl, hx9⟩
            have X9 := Lib.hid (HW1.out.trans hx9)
            have KA := Lib.hid (XW.out.trans (X9.out.alloc (.cells #[.int .i64 x0, .int .i64 x1, .int .i64 x2, .bool x3, .bool x4, .bool x5, .bool x6, .bool x7] 66)))
            have KB := Lib.hid (XW.out.trans X9.out)
            clear hx9
            dsimp only [Sd.cs]
            (try (simp only [Act.put, List.setIfInBounds_toArray, List.set]))
            refine xtwo 1 13 (hk := KB.out) (h := RunX.of 1 (h := ?_)) (h' := RunX.of 13 (h := ?_))
            · have e2 := blk_cell (keepT HDB.out X9.out) 2 rfl
              go_simp
              (try (simp only [Act.put, List.setIfInBounds_toArray, List.set]))
              refine xone 13 (hk := KB.out) (h := RunX.of 13 (h := ?_))
              go_simp
              (try (simp only [Act.put, List.setIfInBounds_toArray, List.set]))
              refine xone 14 (hk := KA.out) (h := RunX.of 14 (h := ?_))
              (refine wp_append_sl (α := Sd) (.tmp 37) (.tmp 49) rfl wn.heap.size (.slice so sn sc) S rfl ?_ (.slice (some ⟨_, 0, none⟩) 1 1) [(⟨x0, x1, x2, x3, x4, x5, x6, x7⟩ : Sd)] rfl ?_ ?_ ?_ ?_; exact ((HOW.out.ext X9.out).alloc _); exact (Sl.litAt w9 _ rfl [(⟨x0, x1, x2, x3, x4, x5, x6, x7⟩ : Sd)] (show (1 : Nat) ≤ 1000000 by decide)); (first | omega | (simp; omega)); (rw [size_alloc]; have := Below.size X9.out; omega); intro v6 W6 ho6 ha6)
              obtain ⟨a6, n6, c6, rfl⟩ := ho6.sh
              have O6 : Hid (Off (fun b => b = G ∨ wn.heap.size ≤ b) wn W6) := Lib.hid (HO.out.trans ((Off.of_ext (X9.out.alloc (.cells #[.int .i64 x0, .int .i64 x1, .int .i64 x2, .bool x3, .bool x4, .bool x5, .bool x6, .bool x7] 66))).trans ((offT ha6.grown).mono fun b hb => .inr (HOW.out.low b hb).1) (Grows.refl _ _)) (Grows.refl _ _))
              have K6 : Hid (Ext w W6) := Lib.hid (ext_off (X0.out.trans (HX0.out.trans (X10.out.trans X3.out))) O6.out HF.out)
              have hd6 := (ha6.below.block G (by omega)).trans (keepT HDB.out (X9.out.alloc (.cells #[.int .i64 x0, .int .i64 x1, .int .i64 x2, .bool x3, .bool x4, .bool x5, .bool x6, .bool x7] 66)))
              have f6 := blk_free hd6 2
              have e6 := blk_cell hd6 2 rfl
              have HD6 := Lib.hid hd6
              have HO6 := Lib.hid ho6
              clear ho6 ha6 hd6
              dsimp only
              (try (simp only [Act.put, List.setIfInBounds_toArray, List.set]))
              refine xone 15 (hk := K6.out) (h := RunX.of 15 (h := ?_))
              go_simp
              (try (simp only [Act.put, List.setIfInBounds_toArray, List.set]))
              refine xone 16 (hk := K6.out) (h := RunX.of 16 (h := ?_))
              go_simp
              (try (simp only [Act.put, List.setIfInBounds_toArray, List.set]))
              (refine xdone (by kernel_rfl) ((below_set K6.out (by show w.heap.size ≤ G; omega) _)) ?_)
              go_wp2
              go_roundw
              case rel => exact ⟨j + 1, by omega, by go_num, Lib.hid ⟨a6, n6, c6, by rw [blk_set HD6.out]; rfl, by rw [HTK.out, HCL.out]; exact HO6.out.set (by show G < wn.heap.size; omega) _⟩, Lib.hid (O6.out.trans ((off_set _ _ _).mono fun b hb => .inl hb) (Grows.refl _ _))⟩
              case measure => simp [intOf]; omega
            · go_simp
              (try (simp only [Act.put, List.setIfInBounds_toArray, List.set]))
              have e2 := blk_cell (keepT HDB.out (X9.out.alloc (.cells #[.int .i64 x0, .int .i64 x1, .int .i64 x2, .bool x3, .bool x4, .bool x5, .bool x6, .bool x7] 66))) 2 rfl
              refine xone 1 (hk := KA.out) (h := RunX.of 1 (h := ?_))
              go_simp
              (try (simp only [Act.put, List.setIfInBounds_toArray, List.set]))
              refine xone 14 (hk := KA.out) (h := RunX.of 14 (h := ?_))
              (refine wp_append_sl (α := Sd) (.tmp 37) (.tmp 49) rfl wn.heap.size (.slice so sn sc) S rfl ?_ (.slice (some ⟨_, 0, none⟩) 1 1) [(⟨x0, x1, x2, x3, x4, x5, x6, x7⟩ : Sd)] rfl ?_ ?_ ?_ ?_; exact ((HOW.out.ext X9.out).alloc _); exact (Sl.litAt w9 _ rfl [(⟨x0, x1, x2, x3, x4, x5, x6, x7⟩ : Sd)] (show (1 : Nat) ≤ 1000000 by decide)); (first | omega | (simp; omega)); (rw [size_alloc]; have := Below.size X9.out; omega); intro v6 W6 ho6 ha6)
              obtain ⟨a6, n6, c6, rfl⟩ := ho6.sh
              have O6 : Hid (Off (fun b => b = G ∨ wn.heap.size ≤ b) wn W6) := Lib.hid (HO.out.trans ((Off.of_ext (X9.out.alloc (.cells #[.int .i64 x0, .int .i64 x1, .int .i64 x2, .bool x3, .bool x4, .bool x5, .bool x6, .bool x7] 66))).trans ((offT ha6.grown).mono fun b hb => .inr (HOW.out.low b hb).1) (Grows.refl _ _)) (Grows.refl _ _))
              have K6 : Hid (Ext w W6) := Lib.hid (ext_off (X0.out.trans (HX0.out.trans (X10.out.trans X3.out))) O6.out HF.out)
              have hd6 := (ha6.below.block G (by omega)).trans (keepT HDB.out (X9.out.alloc (.cells #[.int .i64 x0, .int .i64 x1, .int .i64 x2, .bool x3, .bool x4, .bool x5, .bool x6, .bool x7] 66)))
              have f6 := blk_free hd6 2
              have e6 := blk_cell hd6 2 rfl
              have HD6 := Lib.hid hd6
              have HO6 := Lib.hid ho6
              clear ho6 ha6 hd6
              dsimp only
              (try (simp only [Act.put, List.setIfInBounds_toArray, List.set]))
              refine xone 15 (hk := K6.out) (h := RunX.of 15 (h := ?_))
              go_simp
              (try (simp only [Act.put, List.setIfInBounds_toArray, List.set]))
              refine xone 16 (hk := K6.out) (h := RunX.of 16 (h := ?_))
              go_simp
              (try (simp only [Act.put, List.setIfInBounds_toArray, List.set]))
              (refine xdone (by kernel_rfl) ((below_set K6.out (by show w.heap.size ≤ G; omega) _)) ?_)
              go_wp2
              go_roundw
              case rel => exact ⟨j + 1, by omega, by go_num, Lib.hid ⟨a6, n6, c6, by rw [blk_set HD6.out]; rfl, by rw [HTK.out, HCL.out]; exact HO6.out.set (by show G < wn.heap.size; omega) _⟩, Lib.hid (O6.out.trans ((off_set _ _ _).mono fun b hb => .inl hb) (Grows.refl _ _))⟩
              case measure => simp [intOf]; omega
        · have hje : j = NR.length := by omega
          rw [hje, List.take_length] at HOW
          have HX2 : Hid (Ext WR wr) := Lib.hid (ext_off (X10.out.trans X3.out) HO.out (fun b hb => by have := hGr.out; omega))
          have XWG : Hid (Ext (w.alloc (.cells #[.int .i64 (m : Int), .slice vo vn vc] 53)) wr) := Lib.hid (HX0.out.trans HX2.out)
          obtain ⟨xs, hown0, hxl, hel⟩ := HQ0.out.any
          have HXL := Lib.hid hxl
          have HEL := Lib.hid hel
          have HOWN := Lib.hid hown0
          have hxs : xs.length ≤ 64 := by rw [hxl, List.length_take]; omega
          have e0 := blk_cell HDB.out 0 rfl
          have e1 := blk_cell HDB.out 1 rfl
          have e2 := blk_cell HDB.out 2 rfl
          have hGe := hGr.out
          clear hown0 hxl hel hje
          go_wp2_with (first
            | (at_builtin; refine wpList_append_sl (α := DV) rfl (.tmp 53) (.tmp 55) rfl (w.heap.size + 1) _ xs rfl ?_ (.slice (some ⟨_, 0, none⟩) 1 1) [(⟨(k : Int), 0, so, sn, sc⟩ : DV)] rfl ?_ ?_ ?_ ?_; exact ((HOWN.out.ext HX2.out).alloc _); exact (Sl.litAt wr _ rfl [(⟨(k : Int), 0, so, sn, sc⟩ : DV)] (show (1 : Nat) ≤ 1000000 by decide)); (first | omega | (simp; omega)); exact (by rw [size_alloc]; have := Below.size HX2.out; omega); intro v3 W3 ho3 ha3; have hx : Nest.rd (Own1 Non _) _ (⟨(k : Int), 0, so, sn, sc⟩ : DV) (⟨(k : Int), 0, NR.map (sideC c (k : Int))⟩ : Dn) := (⟨rfl, rfl, Sa.new (HOW.out.alloc (.cells #[.int .i64 (k : Int), .int .i64 0, .slice so sn sc] 61)) (fun b hb => by rcases hb with hb | hb; exact hb.elim; have := (HOWN.out.low b hb).2; omega)⟩ : RdD _ _ _ _); have hst := Nw.step (α := DV) (δ := Dn) (F := Non) (L := TL.take k) HXL.out (fun a x d hx hd => Nest.ext (HEL.out a x d hx hd) (Ext.alloc HX2.out _)) hx ho3 ha3; have HST := Lib.hid hst; have HX3 := Lib.hid (Below.trans (Ext.alloc XWG.out _) (ha3.below.mono (by rw [size_alloc]; exact Nat.le_refl _))); clear ho3 ha3 hx hst))
          go_roundw
          case rel => exact ⟨k + 1, by omega, by go_num, Lib.hid (by rw [HNX.out]; exact HST.out), HX3⟩
          case measure => simp [intOf]; omega
    · have hkm : k = m := by omega
      have hq := HQ.out
      rw [hkm, ← HTA.out, List.take_length] at hq
      have HQ' := Lib.hid hq
      clear hq HQ hkm
      go_wp2
      go_ret2
      exact ⟨_, rfl, HQ'.out.ns (fun b hb => hb) (fun b hb => hb.elim), Ext.trans X0.out HX.out⟩
end Go.Proofs.YtfbambemjokmgaaGreat
