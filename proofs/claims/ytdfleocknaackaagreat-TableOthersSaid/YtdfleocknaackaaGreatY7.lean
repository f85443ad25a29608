/- Colours: Run and Right. -/
import Derived.Test.YtdfleocknaackaaGreatMY
namespace Go.Proofs.YtdfleocknaackaaGreat
open Go.RowKit

theorem ends_some {N : Int} {E : List Edge} (ok : OkG N E) : ∃ k, Ends N E k := by
  have key : ∀ n, (∃ k, Ends N E k) ∨ ∀ j, j < n → (0 : Int) ∈ itr N E j := by
    intro n
    induction n with
    | zero => exact .inr fun j hj => absurd hj (Nat.not_lt_zero _)
    | succ n ih =>
      rcases ih with h | h
      · exact .inl h
      · by_cases hn : (0 : Int) ∈ itr N E n
        · refine .inr fun j hj => ?_
          by_cases e : j = n
          · subst e; exact hn
          · exact h j (by omega)
        · exact .inl ⟨n, h, hn⟩
  rcases key (N.toNat + 1) with h | h
  · exact h
  · have := itr_zeros ok _ h
    omega

def GivesRun (w : World) (d : List Int) (n r : Int) (e : Ending) (w' : World) : Prop := ∃ v, e = .returned (.tuple #[v, .int .i64 n, .int .i64 r]) ∧ Sl w' v d ∧ Ext w w'

theorem run_bad (w : World) (N : Int) (v : Value) (E : List Edge) (h : Sl w v E) (ok : ¬ OkG N E) : Calls Tryz.prog 54 #[.agg #[.int .i64 N, v]] w (GivesRun w [] 0 30) := by
  obtain ⟨vo, vn, vc, rfl⟩ := h.sh
  have HS := Lib.hid h
  have HK := Lib.hid (chk_not ok)
  have HG := Lib.hid (graph_at w N (.slice vo vn vc))
  clear h ok
  go_enter Tryz.func54, Tryz.ntmps54
  go_wp2_with (first
    | (go_at_call 43; refine (check_any _ N _ E (HS.out.ext (by repeat (first | exact Ext.refl _ | assumption | refine Ext.alloc ?_ _ | refine Ext.drew ?_ | refine Ext.drewN ?_ _))) 30 HK.out).mono ?_; rintro e w1 ⟨rfl, hx⟩; have X1 := Lib.hid hx; clear hx))
  exact bodyPost_ret (v := .tuple #[.slice none 0 0, .int .i64 0, .int .i64 30]) (by simp [results, Tryz.results54, go_sem]) rfl ⟨_, rfl, Sl.none _, Ext.trans ((Ext.refl w).alloc _) X1.out⟩

set_option maxHeartbeats 2000000 in
theorem run_ok (w : World) (N : Int) (v : Value) (E : List Edge) (h : Sl w v E) (ok : OkG N E) (K : Nat) (hK : Ends N E K) : Calls Tryz.prog 54 #[.agg #[.int .i64 N, v]] w (GivesRun w (itr N E K) K 0) := by
  obtain ⟨vo, vn, vc, rfl⟩ := h.sh
  have HS := Lib.hid h
  have HCK := Lib.hid (chk_of ok)
  have HOK := Lib.hid ok
  have HE := Lib.hid hK
  have hKN := hK.le ok
  have n0 := ok.n0
  have n64 := ok.n64
  obtain ⟨m, hm⟩ : ∃ m : Nat, (m : Int) = N := ⟨N.toNat, by omega⟩
  subst hm
  have HZ : Hid (List.replicate m (0 : Int) = itr (m : Int) E 0) := Lib.hid rfl
  have hm64 : m ≤ 64 := by omega
  have HG := Lib.hid (graph_at w (m : Int) (.slice vo vn vc))
  clear h ok hK
  go_enter Tryz.func54, Tryz.ntmps54
  go_wp2_with (first
    | (go_at_call 43; refine (check_any _ (m : Int) _ E (HS.out.ext (by repeat (first | exact Ext.refl _ | assumption | refine Ext.alloc ?_ _ | refine Ext.drew ?_ | refine Ext.drewN ?_ _))) 0 HCK.out).mono ?_; rintro e w1 ⟨rfl, hx⟩; have X1 := Lib.hid hx; obtain ⟨a0, a1⟩ := HG.out w1 hx; clear hx)
    | (go_at_call 89; refine (asker_any _ (m : Int) _ E (HS.out.ext (Ext.trans ((Ext.refl w).alloc _) X1.out)) HOK.out).mono ?_; rintro e w2 ⟨fv, rfl, ha, hx⟩; obtain ⟨fg, fl, rfl⟩ := ha.sh; have X2 := Lib.hid (Ext.trans X1.out hx); have HA := Lib.hid ha; obtain ⟨b0, b1⟩ := HG.out w2 X2.out; obtain ⟨w3, hmk, ho3, x3⟩ := make_ow w2 m (by omega); have X3 := Lib.hid (Ext.trans X2.out x3); have O3 := Lib.hid ho3.sl; have Y3 := Lib.hid x3; clear hx ha ho3 x3))
  clear hmk
  go_loopw [7, 8] (fun q r wr => ∃ k : Nat, k ≤ K ∧ r = .int .i64 k ∧ (∃ ao n c, q = .slice ao n c) ∧ Hid (Sl wr q (itr (m : Int) E k)) ∧ Hid (Ext w2 wr)) (fun _ r _ => K - (intOf r).toNat)
  case atStart => exact ⟨0, Nat.zero_le _, rfl, ⟨_, _, _, rfl⟩, Lib.hid (by rw [← HZ.out]; exact O3.out), Lib.hid Y3.out⟩
  case round =>
    obtain ⟨k, hk, rfl, ⟨ao, n, c, rfl⟩, HO, HX⟩ := hrel
    have hlk := itr_length (m : Int) E k
    have hnk : IntKind.i64.wrap ((k : Int) + 1) = ((k + 1 : Nat) : Int) := by rw [wrapN _ (by omega) (by omega)]; omega
    have HLK : Hid (((itr (m : Int) E k).length : Int) = (m : Int)) := Lib.hid (by rw [hlk]; rfl)
    have HNX : Hid (itr (m : Int) E (k + 1) = roundL (m : Int) E (itr (m : Int) E k)) := Lib.hid rfl
    have HIN : Hid (k < K → (0 : Int) ∈ itr (m : Int) E k) := Lib.hid (HE.out.1 k)
    have HOUT : Hid (k = K → (0 : Int) ∉ itr (m : Int) E k) := Lib.hid (fun e => e ▸ HE.out.2)
    obtain ⟨D, hD⟩ : ∃ D, D = itr (m : Int) E k := ⟨_, rfl⟩
    have HDD := Lib.hid hD
    rw [← hD] at HO HLK HNX HIN HOUT
    clear hD hlk
    by_cases hlt : k < K
    · have HD := Lib.hid (decide_eq_true (HIN.out hlt))
      go_wp2_with (first
        | (go_at_call 90; refine (contains_i _ _ D 0 HO.out true HD.out).mono ?_; rintro e w4 ⟨rfl, hx⟩; have X4 := Lib.hid (Ext.trans HX.out hx); have HO4 := Lib.hid (HO.out.ext hx); clear hx)
        | (go_at_call 91; refine (behind_any _ _ _ (m : Int) E D HOK.out HO4.out HLK.out (HA.out.ext X4.out)).mono ?_; rintro e w5 ⟨v5, rfl, ho, hx⟩; obtain ⟨a5, n5, c5, rfl⟩ := ho.sh; have X5 := Lib.hid (Ext.trans X4.out hx); have HO5 := Lib.hid ho.sl; clear hx ho))
      go_roundw
      case rel => exact ⟨k + 1, by omega, by go_num, ⟨_, _, _, rfl⟩, Lib.hid (by rw [HNX.out]; exact HO5.out), X5⟩
      case measure => simp [intOf]; omega
    · have hkK : k = K := by omega
      have HD := Lib.hid (decide_eq_false (HOUT.out hkK))
      subst hkK
      go_wp2_with (first
        | (go_at_call 90; refine (contains_i _ _ D 0 HO.out false HD.out).mono ?_; rintro e w4 ⟨rfl, hx⟩; have X4 := Lib.hid (Ext.trans HX.out hx); have HO4 := Lib.hid (HO.out.ext hx); clear hx))
      exact bodyPost_ret (v := .tuple #[.slice ao n c, .int .i64 (k : Int), .int .i64 0]) (by simp [results, Tryz.results54, go_sem]) rfl ⟨_, rfl, by rw [← HDD.out]; exact HO4.out, Ext.trans ((Ext.refl w).alloc _) (Ext.trans X2.out X4.out)⟩

theorem all_range (p : Nat → Bool) (k : Nat) : (List.range (k + 1)).all p = ((List.range k).all p && p k) := by
  rw [List.range_succ, List.all_append]
  simp
theorem all_range_no {p : Nat → Bool} {k n : Nat} (hk : k < n) (h : p k = false) : (List.range n).all p = false := by
  rw [List.all_eq_false]
  exact ⟨k, List.mem_range.2 hk, by simp [h]⟩

set_option maxHeartbeats 2000000 in
theorem right_any (w : World) (N : Int) (v cv : Value) (E : List Edge) (c : List Int) (h : Sl w v E) (hc : Sl w cv c) (r : Bool) (hr : rightB N E c = r) :
    Calls Tryz.prog 92 #[.agg #[.int .i64 N, v], cv] w fun e w' => e = .returned (.bool r) ∧ Ext w w' := by
  obtain ⟨vo, vn, vc, rfl⟩ := h.sh
  obtain ⟨co, cc, rfl⟩ := hc.len
  have hX : Ext w ((w.alloc (.cells #[.int .i64 N, .slice vo vn vc] 24)).alloc (.cells #[.slice co c.length cc] 43)) := ext_two w _ _
  have HX0 := Lib.hid hX
  have HS := Lib.hid (h.ext hX)
  have HC := Lib.hid (hc.ext hX)
  have hcl := hc.length_le
  have HK : Hid (∀ V, Ext ((w.alloc (.cells #[.int .i64 N, .slice vo vn vc] 24)).alloc (.cells #[.slice co c.length cc] 43)) V → (V.cell? ⟨w.heap.size, 0, none⟩ = some (.int .i64 N) ∧ V.cell? ⟨w.heap.size, 1, none⟩ = some (.slice vo vn vc)) ∧ V.cell? ⟨w.heap.size + 1, 0, none⟩ = some (.slice co c.length cc)) := Lib.hid fun V hV => by
    obtain ⟨hA, hB⟩ := box2 (hV.mono (by rw [size_alloc, size_alloc]; omega))
    exact ⟨⟨blk_cell hA 0 rfl, blk_cell hA 1 rfl⟩, blk_cell hB 0 rfl⟩
  have hmf : ∀ (fn : Fn) (first cap : Array Value) (w : World), (Instr.makeFunc fn first cap).run Tryz.prog w = .ok (.func fn first cap) w := fun _ _ _ _ => rfl
  clear h hc hX
  by_cases ok : OkG N E
  · have HCK := Lib.hid (chk_of ok)
    have HOK := Lib.hid ok
    have n0 := ok.n0
    have n64 := ok.n64
    unfold rightB at hr
    rw [okG_iff.2 ok, Bool.true_and] at hr
    clear ok
    by_cases hl : (c.length : Int) = N
    · have hle : ((c.length : Int) != N) = false := by simp [hl]
      rw [decide_eq_true (by omega), Bool.true_and] at hr
      have HR := Lib.hid hr
      have HL := Lib.hid hl
      have hc64 : c.length ≤ 64 := by omega
      clear hr hl
      go_enter Tryz.func92, Tryz.ntmps92
      go_wp2_with (first
        | (go_at_call 43; refine (check_any _ N _ E (HS.out.ext (by repeat (first | exact Ext.refl _ | assumption | refine Ext.alloc ?_ _ | refine Ext.drew ?_ | refine Ext.drewN ?_ _))) 0 HCK.out).mono ?_; rintro e w1 ⟨rfl, hx⟩; have X1 := Lib.hid hx; obtain ⟨⟨a0, a1⟩, a2⟩ := HK.out w1 hx; clear hx)
        | (go_at_call 89; refine (asker_any _ N _ E (HS.out.ext X1.out) HOK.out).mono ?_; rintro e w2 ⟨fv, rfl, ha, hx⟩; have X2 := Lib.hid (Ext.trans X1.out hx); obtain ⟨⟨b0, b1⟩, b2⟩ := HK.out w2 X2.out; have HA := Lib.hid ha; obtain ⟨g, lb, rfl, eg, hq⟩ := ha.any; have HQ := Lib.hid hq; clear hx ha hq))
      go_loopw [23] (fun i wr => ∃ k : Nat, k ≤ c.length ∧ i = .int .i64 k ∧ Hid ((List.range k).all (fun i : Nat => decide (1 ≤ col c i) && !takenB c (rnear N E i) (col c i)) = true) ∧ Hid (Ext w2 wr)) (fun i _ => c.length - (intOf i).toNat)
      case atStart => exact ⟨0, Nat.zero_le _, rfl, Lib.hid rfl, Lib.hid (Ext.refl _)⟩
      case round =>
        obtain ⟨k, hk, rfl, HT, HX⟩ := hrel
        have XR := Lib.hid (Ext.trans X2.out HX.out)
        obtain ⟨⟨e0, e1⟩, e2⟩ := HK.out wr XR.out
        have hsz : w.heap.size + 2 ≤ wr.heap.size := by have := Below.size XR.out; rw [size_alloc, size_alloc] at this; omega
        by_cases hlt : k < c.length
        · obtain ⟨b, off, rfl, hn, hnc, hc63, hb, hcell⟩ := HC.out.intsAt hlt
          have hya := (XR.out.cell (p := ⟨b, off + k, none⟩) hb).trans hcell
          obtain ⟨y, hy⟩ : ∃ y, y = c.getD k 0 := ⟨_, rfl⟩
          rw [← hy] at hya
          have hkN : (k : Int) < N := by have := HL.out; omega
          have hcol : col c (k : Int) = y := by rw [hy]; rfl
          obtain ⟨W1, hW1⟩ : ∃ W1, W1 = wr.alloc (.cells #[.int .i64 y] 3) := ⟨_, rfl⟩
          have XW : Ext wr W1 := by rw [hW1]; exact (Ext.refl wr).alloc _
          have v1 : W1.cell? ⟨wr.heap.size, 0, none⟩ = some (.int .i64 y) := by rw [hW1]; exact blk_cell (get_alloc_new _ _) 0 rfl
          have vsz : W1.heap.size = wr.heap.size + 1 := by rw [hW1, size_alloc]
          have XX := XR.out.trans XW
          have kc1 := (HK.out W1 XX).2
          have HW := Lib.hid (HQ.out W1 k _ _ (HX.out.trans XW) (by omega) hkN ((right_tells W1 (w.heap.size + 1) wr.heap.size _ c y (by omega) (by omega) kc1 v1 (HC.out.ext XX)).imp fun x hx => by have := near_in HOK.out hx; have := HL.out; omega))
          have HWD : Hid (((rnear N E k).any fun x => col c x == y) = takenB c (rnear N E k) y) := Lib.hid rfl
          rw [HWD.out] at HW
          have HN : Hid ((fun i : Nat => decide (1 ≤ col c i) && !takenB c (rnear N E i) (col c i)) k = (decide (1 ≤ y) && !takenB c (rnear N E k) y)) := Lib.hid (by subst hcol; rfl)
          clear hy hcell XW XX kc1 vsz hcol
          subst hW1
          by_cases h1 : y < 1
          · have HF : Hid ((fun i : Nat => decide (1 ≤ col c i) && !takenB c (rnear N E i) (col c i)) k = false) := Lib.hid (HN.out.trans (by rw [decide_eq_false (by omega), Bool.false_and]))
            clear HW
            go_wp2
            go_ret
            exact ⟨ret_bool ((all_range_no hlt HF.out).symm.trans HR.out), HX0.out.trans (XR.out.alloc _)⟩
          · cases ht : takenB c (rnear N E k) y
            · rw [ht] at HW
              have HF : Hid ((fun i : Nat => decide (1 ≤ col c i) && !takenB c (rnear N E i) (col c i)) k = true) := Lib.hid (HN.out.trans (by rw [ht, decide_eq_true (by omega)]; rfl))
              clear ht
              go_wp2_with (first
                | (go_at_fn g; refine HW.out.mono ?_; rintro e w3 ⟨rfl, hx⟩; have X3 := Lib.hid (HX.out.trans (Ext.trans ((Ext.refl wr).alloc _) hx)); clear hx))
              go_roundw
              case rel => exact ⟨k + 1, by omega, by go_num, Lib.hid (by rw [all_range, HT.out, HF.out]; rfl), X3⟩
              case measure => simp [intOf]; omega
            · rw [ht] at HW
              have HF : Hid ((fun i : Nat => decide (1 ≤ col c i) && !takenB c (rnear N E i) (col c i)) k = false) := Lib.hid (HN.out.trans (by rw [ht]; simp))
              clear ht
              go_wp2_with (first
                | (go_at_fn g; refine HW.out.mono ?_; rintro e w3 ⟨rfl, hx⟩; have X3 := Lib.hid (XR.out.trans (Ext.trans ((Ext.refl wr).alloc _) hx)); clear hx))
              go_ret
              exact ⟨ret_bool ((all_range_no hlt HF.out).symm.trans HR.out), HX0.out.trans X3.out⟩
        · have hkl : k = c.length := by omega
          have HF : Hid (true = r) := Lib.hid (by rw [← HR.out, ← HT.out, hkl])
          go_wp2
          go_ret
          exact ⟨ret_bool HF.out, HX0.out.trans XR.out⟩
    · have hle : ((c.length : Int) != N) = true := by simp [hl]
      rw [decide_eq_false (by omega), Bool.false_and] at hr
      subst hr
      clear hl
      go_enter Tryz.func92, Tryz.ntmps92
      go_wp2_with (first
        | (go_at_call 43; refine (check_any _ N _ E (HS.out.ext (by repeat (first | exact Ext.refl _ | assumption | refine Ext.alloc ?_ _ | refine Ext.drew ?_ | refine Ext.drewN ?_ _))) 0 HCK.out).mono ?_; rintro e w1 ⟨rfl, hx⟩; have X1 := Lib.hid hx; obtain ⟨⟨a0, a1⟩, a2⟩ := HK.out w1 hx; clear hx))
      go_ret
      exact ⟨rfl, HX0.out.trans X1.out⟩
  · have HCK := Lib.hid (chk_not ok)
    unfold rightB at hr
    rw [okG_not ok, Bool.false_and, Bool.false_and] at hr
    subst hr
    clear ok
    go_enter Tryz.func92, Tryz.ntmps92
    go_wp2_with (first
      | (go_at_call 43; refine (check_any _ N _ E (HS.out.ext (by repeat (first | exact Ext.refl _ | assumption | refine Ext.alloc ?_ _ | refine Ext.drew ?_ | refine Ext.drewN ?_ _))) 30 HCK.out).mono ?_; rintro e w1 ⟨rfl, hx⟩; have X1 := Lib.hid hx; clear hx))
    go_ret
    exact ⟨rfl, HX0.out.trans X1.out⟩

end Go.Proofs.YtdfleocknaackaaGreat
