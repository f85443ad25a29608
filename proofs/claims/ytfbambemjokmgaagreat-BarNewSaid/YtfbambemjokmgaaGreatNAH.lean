/- Texts of this seat. -/
import Derived.Test.YtfbambemjokmgaaGreatNAG
namespace Go.Proofs.YtfbambemjokmgaaGreat
open Go.RowKit
theorem sides_good (id : Int) : ∀ (L : List Sd) (last : Int), (∀ k s, L[k]? = some s → sideD id (lastD last (L.take k)) s = true) → sidesD id last L = true
  | [], _, _ => rfl
  | t :: L, last, h => by
    show (sideD id last t && sidesD id t.peer L) = true
    have h0 : sideD id last t = true := h 0 t rfl
    rw [h0, Bool.true_and]
    exact sides_good id L t.peer fun k s hk => h (k + 1) s hk
theorem sides_bad (id : Int) : ∀ (L : List Sd) (last : Int) (k : Nat) (s : Sd), L[k]? = some s → sideD id (lastD last (L.take k)) s = false → sidesD id last L = false
  | [], _, _, _, h, _ => by simp at h
  | t :: L, last, 0, s, h, hb => by
    obtain rfl : t = s := by simpa using h
    show (sideD id last t && sidesD id t.peer L) = false
    have hb : sideD id last t = false := hb
    rw [hb]; rfl
  | t :: L, last, k + 1, s, h, hb => by
    show (sideD id last t && sidesD id t.peer L) = false
    rw [sides_bad id L t.peer k s h hb, Bool.and_false]
theorem lastD_next {L : List Sd} {k : Nat} {s : Sd} (last : Int) (h : L[k]? = some s) : lastD last (L.take (k + 1)) = s.peer := by
  have hk := (List.getElem?_eq_some_iff.1 h).1
  rw [List.take_succ_eq_append_getElem hk, (List.getElem?_eq_some_iff.1 h).2, lastD_app]
theorem head_bits (id ph : Int) (L : List Sd) : headD ⟨id, ph, L⟩ = (decide (0 ≤ id) && decide (0 ≤ ph) && decide (ph ≤ 2) && decide ((L.length : Int) < 64)) := by
  unfold headD
  by_cases h1 : 0 ≤ id
  · rw [decide_eq_true h1, Bool.true_and, Bool.true_and]
    by_cases h2 : 0 ≤ ph
    · by_cases h3 : ph ≤ 2
      · have h4 : (decide (ph = 0) || decide (ph = 1) || decide (ph = 2)) = true := by
          simp only [Bool.or_eq_true, decide_eq_true_eq]; omega
        rw [h4, decide_eq_true h2, decide_eq_true h3]
        by_cases h5 : L.length ≤ 63
        · rw [decide_eq_true h5, decide_eq_true (show (L.length : Int) < 64 by omega)]; rfl
        · rw [decide_eq_false h5, decide_eq_false (show ¬ (L.length : Int) < 64 by omega)]; rfl
      · have h4 : (decide (ph = 0) || decide (ph = 1) || decide (ph = 2)) = false := by
          simp only [Bool.or_eq_false_iff, decide_eq_false_iff_not]; omega
        rw [h4, decide_eq_false h3]; simp
    · have h4 : (decide (ph = 0) || decide (ph = 1) || decide (ph = 2)) = false := by
        simp only [Bool.or_eq_false_iff, decide_eq_false_iff_not]; omega
      rw [h4, decide_eq_false h2]; simp
  · rw [decide_eq_false h1]; simp
structure AskS (w : World) (g1 g2 : Nat) (id : Int) (L : List Sd) (k : Nat) (V : World) : Prop where
  off : Off (fun b => b = g1) w V
  last : V.heap[g1]? = some (.cells #[.int .i64 (lastD (-1) (L.take k))] 3 (0, 0))
theorem contains_faults (w : World) (v : Value) (L : List Sd) (g1 g2 : Nat) (id : Int) (h : Sl w v L) (hv : L = [] ∨ ∀ b, v.ownBlock = some b → b ≠ g1) (h1 : w.heap[g1]? = some (.cells #[.int .i64 (-1)] 3 (0, 0))) (h2 : w.heap[g2]? = some (.cells #[.int .i64 id] 3 (0, 0))) (hne : g1 ≠ g2) (t : Bool) (ht : sidesD id (-1) L = t) :
    Calls Tryz.prog 142 #[v, .func (.func 169) #[] #[.pointer (some ⟨g1, 0, none⟩), .pointer (some ⟨g2, 0, none⟩)]] w fun e w' => e = .returned (.bool (!t)) ∧ Off (fun b => b = g1) w w' := by
  refine (containsFunc_sd w v L 169 #[.pointer (some ⟨g1, 0, none⟩), .pointer (some ⟨g2, 0, none⟩)] (AskS w g1 g2 id L) (fun k s => !(sideD id (lastD (-1) (L.take k)) s)) (enters_of Tryz.func169 (by kernel_rfl) rfl) ?_ ?_ ⟨Off.refl _ _, h1⟩ (!t) ?_ ?_).mono ?_
  · exact fun k W hW => h.off (hv.imp (fun h => h) fun h b hb => h b hb) hW.off
  · intro k s W hk hW
    refine (faults_one W g1 g2 _ id s hW.last (hW.off.blk h2 (fun e => hne e.symm)) _ rfl).mono ?_
    rintro e W' ⟨rfl, ho, hl⟩
    exact ⟨rfl, hW.off.trans ho (Grows.refl _ _), by rw [lastD_next (-1) hk]; exact hl⟩
  · intro hall
    have : sidesD id (-1) L = true := sides_good id L (-1) fun k s hk => by have := hall k s hk; simpa using this
    rw [← ht, this]; rfl
  · intro k s hk hp _
    have : sidesD id (-1) L = false := sides_bad id L (-1) k s hk (by simpa using hp)
    rw [← ht, this]; rfl
  · rintro e w' ⟨rfl, k, hk⟩
    exact ⟨rfl, hk.off⟩
set_option maxRecDepth 100000 in
set_option maxHeartbeats 4000000 in
theorem dCheck_any (w : World) (id ph : Int) (v : Value) (L : List Sd) (h : Sl w v L) (t : Bool) (ht : dnOk ⟨id, ph, L⟩ = t) :
    Calls Tryz.prog 103 #[.agg #[.int .i64 id, .int .i64 ph, v]] w fun e w' => e = .returned (.int .i64 (cond t 0 130)) ∧ Ext w w' := by
  obtain ⟨ao, c, rfl⟩ := h.len
  have hlen := h.length_le
  obtain ⟨W1, hW1⟩ : ∃ W1, W1 = w.alloc (.cells #[.int .i64 id, .int .i64 ph, .slice ao L.length c] 61) := ⟨_, rfl⟩
  have X1 : Hid (Ext w W1) := Lib.hid (hW1 ▸ (Ext.refl w).alloc _)
  have D1 : Hid (W1.heap[w.heap.size]? = some (.cells #[.int .i64 id, .int .i64 ph, .slice ao L.length c] 61 (0, 0))) := Lib.hid (hW1 ▸ at0 w _)
  have HS : Hid (Sl W1 (.slice ao L.length c) L) := Lib.hid (h.ext X1.out)
  have HLW : Hid (L = [] ∨ ∀ b, (Value.slice ao L.length c).ownBlock = some b → b < w.heap.size) := Lib.hid h.low
  have hs1 : W1.heap.size = w.heap.size + 1 := by rw [hW1, size_alloc]
  have HW1 := Lib.hid hW1
  have HT := Lib.hid ht
  clear h ht hW1
  go_enter Tryz.func103, Tryz.ntmps103
  go_upto_region 1 with (fail)
  rw [← HW1.out]
  have d0 := blk_cell D1.out 0 rfl
  have d1 := blk_cell D1.out 1 rfl
  have d2 := blk_cell D1.out 2 rfl
  go_cut [3] (fun s3 wx => ∃ b, s3 = .bool b ∧ W1 = wx ∧ Hid (b = headD ⟨id, ph, L⟩))
  case first =>
    by_cases e1 : 0 ≤ id
    · by_cases e2 : 0 ≤ ph
      · by_cases e3 : ph ≤ 2
        · by_cases e4 : (L.length : Int) < 64
          · have HB : Hid (true = headD ⟨id, ph, L⟩) := Lib.hid (by rw [head_bits, decide_eq_true e1, decide_eq_true e2, decide_eq_true e3, decide_eq_true e4]; rfl)
            go_wp2_with fail
            go_meet
            exact ⟨_, rfl, rfl, HB⟩
          · have HB : Hid (false = headD ⟨id, ph, L⟩) := Lib.hid (by rw [head_bits, decide_eq_false e4]; simp)
            go_wp2_with fail
            go_meet
            exact ⟨_, rfl, rfl, HB⟩
        · have HB : Hid (false = headD ⟨id, ph, L⟩) := Lib.hid (by rw [head_bits, decide_eq_false e3]; simp)
          go_wp2_with fail
          go_meet
          exact ⟨_, rfl, rfl, HB⟩
      · have HB : Hid (false = headD ⟨id, ph, L⟩) := Lib.hid (by rw [head_bits, decide_eq_false e2]; simp)
        go_wp2_with fail
        go_meet
        exact ⟨_, rfl, rfl, HB⟩
    · have HB : Hid (false = headD ⟨id, ph, L⟩) := Lib.hid (by rw [head_bits, decide_eq_false e1]; simp)
      go_wp2_with fail
      go_meet
      exact ⟨_, rfl, rfl, HB⟩
  case rest =>
    obtain ⟨b, rfl, rfl, HB⟩ := hcut
    clear d0 d1 d2
    cases b
    · have HF : Hid (130 = cond t 0 (130 : Int)) := Lib.hid (by
        have : dnOk ⟨id, ph, L⟩ = false := by unfold dnOk; rw [← HB.out]; rfl
        rw [← HT.out, this]; rfl)
      go_wp2_with fail
      (refine wp_region_X_lit (K := fun V => Ext W1 V) (by kernel_rfl) (fun w1 hw1 => ?_))
      have HX := Lib.hid hw1
      clear hw1
      refine xtv 0 (h := ?_)
      refine xtv 1 (h := ?_)
      refine xtv 2 (h := ?_)
      (refine xtakeU 3 (h := ?_); (simp only [Act.put, List.setIfInBounds_toArray, List.set]))
      (refine xtakeU 4 (h := ?_); (simp only [Act.put, List.setIfInBounds_toArray, List.set]))
      (refine xtakeU 5 (h := ?_); (simp only [Act.put, List.setIfInBounds_toArray, List.set]))
      (refine xtakeU 6 (h := ?_); (simp only [Act.put, List.setIfInBounds_toArray, List.set]))
      (refine xtakeU 7 (h := ?_); (simp only [Act.put, List.setIfInBounds_toArray, List.set]))
      (refine xtakeU 8 (h := ?_); (simp only [Act.put, List.setIfInBounds_toArray, List.set]))
      refine xtv 9 (h := ?_)
      (refine xdone (by kernel_rfl) (HX.out) ?_)
      go_wp2
      go_ret
      exact ⟨ret_int HF.out, X1.out.trans HX.out⟩
    · have HF : Hid (∀ s, sidesD id (-1) L = s → s = t) := Lib.hid (fun s hs => by
        rw [← HT.out, ← hs]
        show _ = (headD ⟨id, ph, L⟩ && sidesD id (-1) L)
        rw [← HB.out, Bool.true_and])
      obtain ⟨s, hs⟩ : ∃ s, sidesD id (-1) L = s := ⟨_, rfl⟩
      have HSD := Lib.hid hs
      have HST := Lib.hid (HF.out s hs)
      clear hs HF HT HB
      go_wp2_with fail
      (refine wp_region_X_lit (K := fun V => Ext W1 V) (by kernel_rfl) (fun w1 hw1 => ?_))
      have HX := Lib.hid hw1
      clear hw1
      refine xtv 0 (h := ?_)
      refine xtv 1 (h := ?_)
      refine xtv 2 (h := ?_)
      refine xtv 3 (h := ?_)
      refine xtv 4 (hv := by intro w' hw'; have q2 := blk_cell (keepU D1.out hw') 2 rfl; go_simp; first | done | with_reducible rfl) (h := ?_)
      refine xtv 5 (h := ?_)
      refine xtv 6 (hv := by intro w' hw'; have q0 := blk_cell (keepU D1.out hw') 0 rfl; go_simp; first | done | with_reducible rfl) (h := ?_)
      refine xone 7 (hk := HX.out) (h := RunX.of 7 (h := ?_))
      go_simp
      refine (faults_any w1 id).mono ?_
      rintro e5 w5 ⟨g1, g2, rfl, m1, m2, hne, hg1, hx5⟩
      have X5 := Lib.hid (Ext.trans HX.out hx5)
      have M1 := Lib.hid m1
      have M2 := Lib.hid m2
      have HG1 : Hid (W1.heap.size ≤ g1) := Lib.hid (Nat.le_trans (Below.size HX.out) hg1)
      clear m1 m2 hx5 hg1
      dsimp only
      (try (simp only [Act.put, List.setIfInBounds_toArray, List.set]))
      refine xone 8 (hk := X5.out) (h := RunX.of 8 (h := ?_))
      go_simp
      have HCF : Hid (L = [] ∨ ∀ b, (Value.slice ao L.length c).ownBlock = some b → b ≠ g1) := Lib.hid (HLW.out.imp (fun h => h) fun h b hb e => by have := h b hb; have := HG1.out; omega)
      refine (contains_faults w5 _ L g1 g2 id (HS.out.ext X5.out) HCF.out M1.out M2.out hne s HSD.out).mono ?_
      rintro e6 w6 ⟨rfl, o6⟩
      have X6 := Lib.hid (ext_off X5.out o6 (fun k hk => by rw [hk]; exact HG1.out))
      clear o6 hne
      dsimp only
      (try (simp only [Act.put, List.setIfInBounds_toArray, List.set]))
      refine xtv 9 (h := ?_)
      (refine xdone (by kernel_rfl) (X6.out) ?_)
      have XF := Lib.hid (X1.out.trans X6.out)
      cases s
      · have HF : Hid (130 = cond t 0 (130 : Int)) := Lib.hid (by rw [← HST.out]; rfl)
        go_wp2
        go_ret
        exact ⟨ret_int HF.out, XF.out⟩
      · have HF : Hid (0 = cond t 0 (130 : Int)) := Lib.hid (by rw [← HST.out]; rfl)
        go_wp2
        go_ret
        exact ⟨ret_int HF.out, XF.out⟩
end Go.Proofs.YtfbambemjokmgaaGreat
namespace Go.Proofs.YtfbambemjokmgaaGreat
open Go.RowKit
def withR (x : Sd) (k n : Int) : Sd × Int := if n ≠ 0 ∨ (k ≠ 1 ∧ k ≠ 2) then (Sd.zero, 133) else if (k = 1 ∧ x.fork = true) ∨ (k = 2 ∧ x.token = true) then (Sd.zero, 132) else if k = 1 then ({ x with fork := true }, 0) else ({ x with token := true }, 0)
def findS (q : Sd → Bool) : List Sd → Option (Nat × Sd)
  | [] => none
  | s :: L => if q s = true then some (0, s) else (findS q L).map fun x => (x.1 + 1, x.2)
theorem findS_none {q : Sd → Bool} : ∀ {L : List Sd}, (∀ (k : Nat) (s : Sd), L[k]? = some s → q s = false) → findS q L = none
  | [], _ => rfl
  | s :: L, h => by
    have h0 : q s = false := h 0 s rfl
    unfold findS
    rw [h0, findS_none (L := L) fun k u hk => h (k + 1) u hk]; rfl
theorem findS_some {q : Sd → Bool} : ∀ {L : List Sd} {k : Nat} {s : Sd}, L[k]? = some s → q s = true → (∀ (j : Nat) (u : Sd), j < k → L[j]? = some u → q u = false) → findS q L = some (k, s)
  | [], _, _, h, _, _ => by simp at h
  | t :: L, 0, s, h, hq, _ => by
    obtain rfl : t = s := by simpa using h
    unfold findS
    rw [if_pos hq]
  | t :: L, k + 1, s, h, hq, hn => by
    have h0 : q t = false := hn 0 t (by omega) rfl
    unfold findS
    rw [h0, findS_some (L := L) (k := k) (s := s) h hq fun j u hj hu => hn (j + 1) u (by omega) hu]; rfl
def getR (d : Dn) (p k me n : Int) : Dn × Int := if dnOk d = true then (match findS (fun s => s.peer == p && s.epoch == me) d.sides with
  | none => (noD, 131)
  | some (i, s) => if (withR s k n).2 = 0 then (⟨d.id, d.phase, d.sides.set i (withR s k n).1⟩, 0) else (noD, (withR s k n).2)) else (noD, 130)
theorem cells3U {w : World} {g : Nat} {u0 u1 u2 : Value} {t : TypeId} (h : w.heap[g]? = some (.cells #[u0, u1, u2] t (0, 0))) :
    w.cell? ⟨g, 0, none⟩ = some u0 ∧ w.cell? ⟨g, 1, none⟩ = some u1 ∧ w.cell? ⟨g, 2, none⟩ = some u2 := ⟨blk_cell h 0 rfl, blk_cell h 1 rfl, blk_cell h 2 rfl⟩
set_option maxRecDepth 100000 in
set_option maxHeartbeats 4000000 in
theorem with_any (w : World) (x : Sd) (k me n : Int) : Calls Tryz.prog 164 #[.agg x.cs, .agg #[.int .i64 k, .int .i64 me, .int .i64 n]] w fun e w' => e = .returned (.tuple #[.agg (withR x k n).1.cs, .int .i64 (withR x k n).2]) ∧ Ext w w' := by
  obtain ⟨y0, y1, y2, y3, y4, y5, y6, y7⟩ := x
  obtain ⟨⟨⟨z0, z1, z2, z3, z4, z5, z6, z7⟩, er⟩, hr⟩ : ∃ r, withR ⟨y0, y1, y2, y3, y4, y5, y6, y7⟩ k n = r := ⟨_, rfl⟩
  rw [hr]
  have HR := Lib.hid hr
  clear hr
  unfold Sd.cs
  dsimp only
  obtain ⟨W0, hW0⟩ : ∃ W0, W0 = ((w.alloc (.cells #[.int .i64 y0, .int .i64 y1, .int .i64 y2, .bool y3, .bool y4, .bool y5, .bool y6, .bool y7] 66)).alloc (.cells #[.int .i64 k, .int .i64 me, .int .i64 n] 93)).alloc (.cells #[.int .i64 0, .int .i64 0, .int .i64 0, .bool false, .bool false, .bool false, .bool false, .bool false] 66) := ⟨_, rfl⟩
  have X0 : Hid (Ext w W0) := Lib.hid (hW0 ▸ (((Ext.refl w).alloc _).alloc _).alloc _)
  have D0 : Hid (W0.heap[w.heap.size]? = some (.cells #[.int .i64 y0, .int .i64 y1, .int .i64 y2, .bool y3, .bool y4, .bool y5, .bool y6, .bool y7] 66 (0, 0))) := Lib.hid (hW0 ▸ old1 (old1 (at0 w _) _) _)
  have M0 : Hid (W0.heap[w.heap.size + 1]? = some (.cells #[.int .i64 k, .int .i64 me, .int .i64 n] 93 (0, 0))) := Lib.hid (hW0 ▸ old1 (at1 w _ _) _)
  have R0 : Hid (W0.heap[w.heap.size + 2]? = some (.cells #[.int .i64 0, .int .i64 0, .int .i64 0, .bool false, .bool false, .bool false, .bool false, .bool false] 66 (0, 0))) := Lib.hid (hW0 ▸ at2 w _ _ _)
  have HW0 := Lib.hid hW0
  clear hW0
  obtain ⟨m0, m1, m2⟩ := cells3U M0.out
  obtain ⟨⟨⟨x0, x1⟩, x2, x3⟩, ⟨x4, x5⟩, x6, x7⟩ := cells8U D0.out
  have f3 := blk_free D0.out 3
  have f5 := blk_free D0.out 5
  by_cases hn : n = 0
  · by_cases h1 : k = 1
    · subst hn h1
      cases y3
      · have HF : Hid ((y0 = z0 ∧ y1 = z1 ∧ y2 = z2 ∧ true = z3 ∧ y4 = z4 ∧ y5 = z5 ∧ y6 = z6 ∧ y7 = z7) ∧ (0 : Int) = er) := Lib.hid (by have h := HR.out; unfold withR at h; simp [] at h; simpa [eq_comm, and_assoc] using h)
        clear HR
        obtain ⟨⟨rfl, rfl, rfl, rfl, rfl, rfl, rfl, rfl⟩, rfl⟩ := HF.out
        go_enter Tryz.func164, Tryz.ntmps164
        go_upto_region 2 with (fail)
        rw [← HW0.out]
        go_upto_region 8 with (fail)
        obtain ⟨W3, hW3⟩ : ∃ W3, W3 = W0.setCell ⟨w.heap.size, 3, none⟩ (.bool true) := ⟨_, rfl⟩
        have D3 : Hid (W3.heap[w.heap.size]? = some (.cells #[.int .i64 y0, .int .i64 y1, .int .i64 y2, .bool true, .bool y4, .bool y5, .bool y6, .bool y7] 66 (0, 0))) := Lib.hid (by rw [hW3, blk_set D0.out]; rfl)
        have R3 : Hid (W3.heap[w.heap.size + 2]? = some (.cells #[.int .i64 0, .int .i64 0, .int .i64 0, .bool false, .bool false, .bool false, .bool false, .bool false] 66 (0, 0))) := Lib.hid (by rw [hW3, set_other _ _ _ _ (by show w.heap.size + 2 ≠ w.heap.size; omega)]; exact R0.out)
        have X3 : Hid (Ext w W3) := Lib.hid (hW3 ▸ below_set X0.out (Nat.le_refl _) _)
        rw [← hW3]
        clear hW3 x0 x1 x2 x3 x4 x5 x6 x7 f3 f5 m0 m1 m2
        obtain ⟨⟨⟨x0, x1⟩, x2, x3⟩, ⟨x4, x5⟩, x6, x7⟩ := cells8U D3.out
        go_wp2_with (first | refine haltst 66 ?_)
        refine .inl ?_
        refine st_l 66 (.tmp 4) (.tmp 45) (w.heap.size + 2) 0 66 #[.int .i64 0, .int .i64 0, .int .i64 0, .bool false, .bool false, .bool false, .bool false, .bool false] #[.int .i64 y0, .int .i64 y1, .int .i64 y2, .bool true, .bool y4, .bool y5, .bool y6, .bool y7] #[.int .i64 y0, .int .i64 y1, .int .i64 y2, .bool true, .bool y4, .bool y5, .bool y6, .bool y7] rfl rfl R3.out (by kernel_rfl) (by simp) rfl rfl ?_
        intro W9 hW9 o9
        simp only [Act.put]
        go_wp2
        exact bodyPost_ret (v := .tuple #[.agg #[.int .i64 y0, .int .i64 y1, .int .i64 y2, .bool true, .bool y4, .bool y5, .bool y6, .bool y7], .int .i64 0]) (res_ct 5 rfl rfl hW9 uSide (by kernel_rfl)) rfl ⟨rfl, ext_off X3.out o9 (fun b hb => by omega)⟩
      · have HF : Hid (((0 : Int) = z0 ∧ (0 : Int) = z1 ∧ (0 : Int) = z2 ∧ false = z3 ∧ false = z4 ∧ false = z5 ∧ false = z6 ∧ false = z7) ∧ (132 : Int) = er) := Lib.hid (by have h := HR.out; unfold withR at h; simp [Sd.zero] at h; simpa [eq_comm, and_assoc] using h)
        clear HR
        obtain ⟨⟨rfl, rfl, rfl, rfl, rfl, rfl, rfl, rfl⟩, rfl⟩ := HF.out
        go_enter Tryz.func164, Tryz.ntmps164
        go_upto_region 2 with (fail)
        rw [← HW0.out]
        go_upto_region 5 with (fail)
        go_wp2_with (first | refine haltst 66 ?_)
        refine .inl ?_
        refine st_l 66 (.tmp 4) (.tmp 39) (w.heap.size + 2) 0 66 #[.int .i64 0, .int .i64 0, .int .i64 0, .bool false, .bool false, .bool false, .bool false, .bool false] #[.int .i64 0, .int .i64 0, .int .i64 0, .bool false, .bool false, .bool false, .bool false, .bool false] #[.int .i64 0, .int .i64 0, .int .i64 0, .bool false, .bool false, .bool false, .bool false, .bool false] rfl rfl R0.out (by kernel_rfl) (by simp) rfl rfl ?_
        intro W9 hW9 o9
        simp only [Act.put]
        go_wp2
        exact bodyPost_ret (v := .tuple #[.agg #[.int .i64 0, .int .i64 0, .int .i64 0, .bool false, .bool false, .bool false, .bool false, .bool false], .int .i64 132]) (res_ct 5 rfl rfl hW9 uSide (by kernel_rfl)) rfl ⟨rfl, ext_off X0.out o9 (fun b hb => by omega)⟩
    · by_cases h2 : k = 2
      · subst hn h2
        cases y5
        · have HF : Hid ((y0 = z0 ∧ y1 = z1 ∧ y2 = z2 ∧ y3 = z3 ∧ y4 = z4 ∧ true = z5 ∧ y6 = z6 ∧ y7 = z7) ∧ (0 : Int) = er) := Lib.hid (by have h := HR.out; unfold withR at h; simp [] at h; simpa [eq_comm, and_assoc] using h)
          clear HR h1
          obtain ⟨⟨rfl, rfl, rfl, rfl, rfl, rfl, rfl, rfl⟩, rfl⟩ := HF.out
          go_enter Tryz.func164, Tryz.ntmps164
          go_upto_region 2 with (fail)
          rw [← HW0.out]
          go_upto_region 8 with (fail)
          obtain ⟨W3, hW3⟩ : ∃ W3, W3 = W0.setCell ⟨w.heap.size, 5, none⟩ (.bool true) := ⟨_, rfl⟩
          have D3 : Hid (W3.heap[w.heap.size]? = some (.cells #[.int .i64 y0, .int .i64 y1, .int .i64 y2, .bool y3, .bool y4, .bool true, .bool y6, .bool y7] 66 (0, 0))) := Lib.hid (by rw [hW3, blk_set D0.out]; rfl)
          have R3 : Hid (W3.heap[w.heap.size + 2]? = some (.cells #[.int .i64 0, .int .i64 0, .int .i64 0, .bool false, .bool false, .bool false, .bool false, .bool false] 66 (0, 0))) := Lib.hid (by rw [hW3, set_other _ _ _ _ (by show w.heap.size + 2 ≠ w.heap.size; omega)]; exact R0.out)
          have X3 : Hid (Ext w W3) := Lib.hid (hW3 ▸ below_set X0.out (Nat.le_refl _) _)
          rw [← hW3]
          clear hW3 x0 x1 x2 x3 x4 x5 x6 x7 f3 f5 m0 m1 m2
          obtain ⟨⟨⟨x0, x1⟩, x2, x3⟩, ⟨x4, x5⟩, x6, x7⟩ := cells8U D3.out
          go_wp2_with (first | refine haltst 66 ?_)
          refine .inl ?_
          refine st_l 66 (.tmp 4) (.tmp 45) (w.heap.size + 2) 0 66 #[.int .i64 0, .int .i64 0, .int .i64 0, .bool false, .bool false, .bool false, .bool false, .bool false] #[.int .i64 y0, .int .i64 y1, .int .i64 y2, .bool y3, .bool y4, .bool true, .bool y6, .bool y7] #[.int .i64 y0, .int .i64 y1, .int .i64 y2, .bool y3, .bool y4, .bool true, .bool y6, .bool y7] rfl rfl R3.out (by kernel_rfl) (by simp) rfl rfl ?_
          intro W9 hW9 o9
          simp only [Act.put]
          go_wp2
          exact bodyPost_ret (v := .tuple #[.agg #[.int .i64 y0, .int .i64 y1, .int .i64 y2, .bool y3, .bool y4, .bool true, .bool y6, .bool y7], .int .i64 0]) (res_ct 5 rfl rfl hW9 uSide (by kernel_rfl)) rfl ⟨rfl, ext_off X3.out o9 (fun b hb => by omega)⟩
        · have HF : Hid (((0 : Int) = z0 ∧ (0 : Int) = z1 ∧ (0 : Int) = z2 ∧ false = z3 ∧ false = z4 ∧ false = z5 ∧ false = z6 ∧ false = z7) ∧ (132 : Int) = er) := Lib.hid (by have h := HR.out; unfold withR at h; simp [Sd.zero] at h; simpa [eq_comm, and_assoc] using h)
          clear HR h1
          obtain ⟨⟨rfl, rfl, rfl, rfl, rfl, rfl, rfl, rfl⟩, rfl⟩ := HF.out
          go_enter Tryz.func164, Tryz.ntmps164
          go_upto_region 2 with (fail)
          rw [← HW0.out]
          go_upto_region 5 with (fail)
          go_wp2_with (first | refine haltst 66 ?_)
          refine .inl ?_
          refine st_l 66 (.tmp 4) (.tmp 39) (w.heap.size + 2) 0 66 #[.int .i64 0, .int .i64 0, .int .i64 0, .bool false, .bool false, .bool false, .bool false, .bool false] #[.int .i64 0, .int .i64 0, .int .i64 0, .bool false, .bool false, .bool false, .bool false, .bool false] #[.int .i64 0, .int .i64 0, .int .i64 0, .bool false, .bool false, .bool false, .bool false, .bool false] rfl rfl R0.out (by kernel_rfl) (by simp) rfl rfl ?_
          intro W9 hW9 o9
          simp only [Act.put]
          go_wp2
          exact bodyPost_ret (v := .tuple #[.agg #[.int .i64 0, .int .i64 0, .int .i64 0, .bool false, .bool false, .bool false, .bool false, .bool false], .int .i64 132]) (res_ct 5 rfl rfl hW9 uSide (by kernel_rfl)) rfl ⟨rfl, ext_off X0.out o9 (fun b hb => by omega)⟩
      · have HF : Hid (((0 : Int) = z0 ∧ (0 : Int) = z1 ∧ (0 : Int) = z2 ∧ false = z3 ∧ false = z4 ∧ false = z5 ∧ false = z6 ∧ false = z7) ∧ (133 : Int) = er) := Lib.hid (by have h := HR.out; unfold withR at h; simp [h1, h2, Sd.zero] at h; simpa [eq_comm, and_assoc] using h)
        have t1 : (k != 1) = true := by simp [h1]
        have t2 : (k != 2) = true := by simp [h2]
        subst hn
        clear HR h1 h2
        obtain ⟨⟨rfl, rfl, rfl, rfl, rfl, rfl, rfl, rfl⟩, rfl⟩ := HF.out
        go_enter Tryz.func164, Tryz.ntmps164
        go_upto_region 2 with (fail)
        rw [← HW0.out]
        go_upto_region 3 with (fail)
        go_wp2_with (first | refine haltst 66 ?_)
        refine .inl ?_
        refine st_l 66 (.tmp 4) (.tmp 21) (w.heap.size + 2) 0 66 #[.int .i64 0, .int .i64 0, .int .i64 0, .bool false, .bool false, .bool false, .bool false, .bool false] #[.int .i64 0, .int .i64 0, .int .i64 0, .bool false, .bool false, .bool false, .bool false, .bool false] #[.int .i64 0, .int .i64 0, .int .i64 0, .bool false, .bool false, .bool false, .bool false, .bool false] rfl rfl R0.out (by kernel_rfl) (by simp) rfl rfl ?_
        intro W9 hW9 o9
        simp only [Act.put]
        go_wp2
        exact bodyPost_ret (v := .tuple #[.agg #[.int .i64 0, .int .i64 0, .int .i64 0, .bool false, .bool false, .bool false, .bool false, .bool false], .int .i64 133]) (res_ct 5 rfl rfl hW9 uSide (by kernel_rfl)) rfl ⟨rfl, ext_off X0.out o9 (fun b hb => by omega)⟩
  · have HF : Hid (((0 : Int) = z0 ∧ (0 : Int) = z1 ∧ (0 : Int) = z2 ∧ false = z3 ∧ false = z4 ∧ false = z5 ∧ false = z6 ∧ false = z7) ∧ (133 : Int) = er) := Lib.hid (by have h := HR.out; unfold withR at h; simp [hn, Sd.zero] at h; simpa [eq_comm, and_assoc] using h)
    have t0 : (n != 0) = true := by simp [hn]
    clear HR hn
    obtain ⟨⟨rfl, rfl, rfl, rfl, rfl, rfl, rfl, rfl⟩, rfl⟩ := HF.out
    go_enter Tryz.func164, Tryz.ntmps164
    go_upto_region 2 with (fail)
    rw [← HW0.out]
    go_upto_region 3 with (fail)
    go_wp2_with (first | refine haltst 66 ?_)
    refine .inl ?_
    refine st_l 66 (.tmp 4) (.tmp 21) (w.heap.size + 2) 0 66 #[.int .i64 0, .int .i64 0, .int .i64 0, .bool false, .bool false, .bool false, .bool false, .bool false] #[.int .i64 0, .int .i64 0, .int .i64 0, .bool false, .bool false, .bool false, .bool false, .bool false] #[.int .i64 0, .int .i64 0, .int .i64 0, .bool false, .bool false, .bool false, .bool false, .bool false] rfl rfl R0.out (by kernel_rfl) (by simp) rfl rfl ?_
    intro W9 hW9 o9
    simp only [Act.put]
    go_wp2
    exact bodyPost_ret (v := .tuple #[.agg #[.int .i64 0, .int .i64 0, .int .i64 0, .bool false, .bool false, .bool false, .bool false, .bool false], .int .i64 133]) (res_ct 5 rfl rfl hW9 uSide (by kernel_rfl)) rfl ⟨rfl, ext_off X0.out o9 (fun b hb => by omega)⟩
end Go.Proofs.YtfbambemjokmgaaGreat
namespace Go.Proofs.YtfbambemjokmgaaGreat
open Go.RowKit
set_option maxRecDepth 100000 in
set_option maxHeartbeats 4000000 in
theorem send_any (W : World) (go gd : Nat) (id ph kd : Int) (sv ov : Value) (M : List Ml) (s : Sd) (hd : W.heap[gd]? = some (.cells #[.int .i64 id, .int .i64 ph, sv] 61 (0, 0))) (ho : W.heap[go]? = some (.cells #[ov] 23 (0, 0))) (hw : Ow W (go + 1) ov M) (hl : M.length ≤ 5000) :
    Calls Tryz.prog 202 #[.agg s.cs, .int .i64 kd, .pointer (some ⟨go, 0, none⟩), .pointer (some ⟨gd, 0, none⟩)] W fun e W' => e = .returned (.tuple #[]) ∧ ∃ ov', W'.heap[go]? = some (.cells #[ov'] 23 (0, 0)) ∧ Ow W' (go + 1) ov' (M ++ [⟨id, s.peer, kd, s.epoch, 0⟩]) ∧ Off (fun i => i = go ∨ ov.ownBlock = some i) W W' ∧ (ov'.ownBlock = ov.ownBlock ∨ ∀ b, ov'.ownBlock = some b → W.heap.size ≤ b) := by
  obtain ⟨fo, fn, fc, rfl⟩ := hw.sh
  obtain ⟨y0, y1, y2, y3, y4, y5, y6, y7⟩ := s
  unfold Sd.cs
  dsimp only
  obtain ⟨W1, hW1⟩ : ∃ W1, W1 = W.alloc (.cells #[.int .i64 y0, .int .i64 y1, .int .i64 y2, .bool y3, .bool y4, .bool y5, .bool y6, .bool y7] 66) := ⟨_, rfl⟩
  have X1 : Hid (Ext W W1) := Lib.hid (hW1 ▸ (Ext.refl W).alloc _)
  have d1 : W1.heap[W.heap.size]? = some (.cells #[.int .i64 y0, .int .i64 y1, .int .i64 y2, .bool y3, .bool y4, .bool y5, .bool y6, .bool y7] 66 (0, 0)) := hW1 ▸ at0 W _
  have hgo : go < W.heap.size := blk_lt ho
  have hs1 : W1.heap.size = W.heap.size + 1 := by rw [hW1, size_alloc]
  have HW1 := Lib.hid hW1
  have HO := Lib.hid (keepU ho X1.out)
  have HD := Lib.hid (keepU hd X1.out)
  have HOW := Lib.hid (hw.ext X1.out)
  have x0 := blk_cell d1 0 rfl
  have x1 := blk_cell d1 1 rfl
  have k0 := blk_cell HO.out 0 rfl
  have k1 := blk_cell HD.out 0 rfl
  clear ho hd hw hW1 d1
  go_enter Tryz.func202, Tryz.ntmps202
  go_upto_region 1 with (fail)
  rw [← HW1.out]
  go_wp2_with (first
    | (at_builtin; refine wpList_append_sl (α := Ml) rfl (.tmp 6) (.tmp 16) rfl (go + 1) (.slice fo fn fc) M rfl ?_ (.slice (some ⟨_, 0, none⟩) 1 1) [(⟨id, y0, kd, y1, 0⟩ : Ml)] rfl ?_ ?_ ?_ ?_; exact (HOW.out.alloc _); exact (Sl.litAt W1 _ hs1.symm [(⟨id, y0, kd, y1, 0⟩ : Ml)] (show (1 : Nat) ≤ 1000000 by decide)); (first | omega | (simp; omega)); (rw [size_alloc]; omega); intro v2 W7 ho2 ha2; obtain ⟨a2, n2, c2, rfl⟩ := ho2.sh; have O2 := Lib.hid ho2; have A2 := Lib.hid ha2; have b2 := (ha2.below.block go (by omega)).trans (old1 HO.out _); have B2 := Lib.hid b2; have c7 := blk_cell b2 0 rfl; have f7 := blk_free b2 0; clear ho2 ha2 b2))
  refine bodyPost_end (results_none rfl _ _ _) rfl ?_
  refine ⟨rfl, .slice a2 n2 c2, blk_set B2.out 0 _, O2.out.set (by show go < go + 1; omega) _, ?_, ?_⟩
  · have o1 : Off (fun i => i = go ∨ (Value.slice fo fn fc).ownBlock = some i) W (W1.alloc (.cells #[.int .i64 id, .int .i64 y0, .int .i64 kd, .int .i64 y1, .int .i64 0] 95)) := Off.of_ext (Ext.alloc X1.out _)
    have o2 : Off (fun i => i = go ∨ (Value.slice fo fn fc).ownBlock = some i) (W1.alloc (.cells #[.int .i64 id, .int .i64 y0, .int .i64 kd, .int .i64 y1, .int .i64 0] 95)) W7 := (off_grown A2.out.grown).mono fun i hi => .inr hi
    exact (o1.trans o2 (Grows.refl _ _)).trans ((off_set W7 ⟨go, 0, none⟩ _).mono fun i hi => .inl hi) (Grows.refl _ _)
  · rcases A2.out.block with h | h
    · exact .inl h
    · exact .inr fun b hb => by have := h b hb; rw [size_alloc] at this; omega
set_option maxRecDepth 100000 in
set_option maxHeartbeats 2000000 in
theorem lacks_one (W : World) (s : Sd) : Calls Tryz.prog 210 #[.agg s.cs] W fun e W' => e = .returned (.bool (!s.fork)) ∧ Ext W W' := by
  obtain ⟨y0, y1, y2, y3, y4, y5, y6, y7⟩ := s
  unfold Sd.cs
  dsimp only
  have x3 := blk_cell (at0 W (.cells #[.int .i64 y0, .int .i64 y1, .int .i64 y2, .bool y3, .bool y4, .bool y5, .bool y6, .bool y7] 66)) 3 rfl
  have HX : Hid (Ext W (W.alloc (.cells #[.int .i64 y0, .int .i64 y1, .int .i64 y2, .bool y3, .bool y4, .bool y5, .bool y6, .bool y7] 66))) := Lib.hid ((Ext.refl W).alloc _)
  go_enter Tryz.func210, Tryz.ntmps210
  go_wp2
  go_ret
  exact ⟨rfl, HX.out⟩
theorem contains_lacks (w : World) (v : Value) (L : List Sd) (h : Sl w v L) (t : Bool) (ht : L.all (·.fork) = t) :
    Calls Tryz.prog 142 #[v, .func (.func 210) #[] #[]] w fun e w' => e = .returned (.bool (!t)) ∧ Ext w w' := by
  refine (containsFunc_sd w v L 210 #[] (fun _ V => Ext w V) (fun _ s => !s.fork) (enters_of Tryz.func210 (by kernel_rfl) rfl) (fun _ W hW => h.ext hW) ?_ (Ext.refl w) (!t) ?_ ?_).mono ?_
  · intro i s W hi hW
    refine (lacks_one W s).mono ?_
    rintro e W' ⟨rfl, hx⟩
    exact ⟨rfl, Ext.trans hW hx⟩
  · intro hall
    have : L.all (·.fork) = true := by
      rw [List.all_eq_true]
      intro s hs
      obtain ⟨k, hk⟩ := List.getElem?_of_mem hs
      have := hall k s hk
      simpa using this
    rw [← ht, this]; rfl
  · intro k s hk hp _
    have : L.all (·.fork) = false := by
      rw [List.all_eq_false]
      exact ⟨s, List.mem_of_getElem? hk, by simpa using hp⟩
    rw [← ht, this]; rfl
  · rintro e w' ⟨rfl, _, hx⟩
    exact ⟨rfl, hx⟩
theorem cellsOf_set1 {α : Type} [Elem α] (i : Nat) (u : Value) (x' : α) : ∀ (xs : List α) (k : Nat) (x : α), xs[k]? = some x → i < Elem.k α → Elem.enc x' = (Elem.enc x).set i u → cellsOf (xs.set k x') = (cellsOf xs).set (k * Elem.k α + i) u
  | [], _, _, h, _, _ => by simp at h
  | y :: ys, 0, x, h, hi, he => by
    obtain rfl : y = x := by simpa using h
    show Elem.enc x' ++ cellsOf ys = (Elem.enc y ++ cellsOf ys).set (0 * Elem.k α + i) u
    rw [he, Nat.zero_mul, Nat.zero_add, List.set_append_left _ _ (by rw [Elem.len]; exact hi)]
  | y :: ys, k + 1, x, h, hi, he => by
    have ih := cellsOf_set1 i u x' ys k x (by simpa using h) hi he
    show Elem.enc y ++ cellsOf (ys.set k x') = (Elem.enc y ++ cellsOf ys).set ((k + 1) * Elem.k α + i) u
    have hl := Elem.len y
    rw [ih, Nat.succ_mul, List.set_append_right _ _ (by omega), hl, show k * Elem.k α + Elem.k α + i - Elem.k α = k * Elem.k α + i from by omega]
theorem Ow.setCell1 {α : Type} [Elem α] {w : World} {B : Nat} {b off n c k i : Nat} {xs : List α} {x x' : α} {u : Value} (h : Ow w B (.slice (some ⟨b, off, none⟩) n c) xs) (hk : xs[k]? = some x) (hi : i < Elem.k α) (he : Elem.enc x' = (Elem.enc x).set i u) :
    off = 0 ∧ B ≤ b ∧ w.frozen? ⟨b, off + k * Elem.k α + i, none⟩ = false ∧ Ow (w.setCell ⟨b, off + k * Elem.k α + i, none⟩ u) B (.slice (some ⟨b, off, none⟩) n c) (xs.set k x') := by
  obtain ⟨h1, h2⟩ := h
  have hkl := (List.getElem?_eq_some_iff.1 hk).1
  rcases h2 with ⟨h2, h3⟩ | ⟨g, cap, cur, hv, hg, hh, hnc, hc63, hsz, htk⟩
  · rw [h3] at hkl; omega
  · simp only [Value.slice.injEq, Option.some.injEq, Addr.mk.injEq] at hv
    obtain ⟨⟨rfl, rfl, _⟩, rfl, rfl⟩ := hv
    refine ⟨rfl, hg, blk_free hh _, ?_, .inr ⟨b, c, cur.setIfInBounds (k * Elem.k α + i) u, ?_, hg, ?_, ?_, hc63, ?_, ?_⟩⟩
    · rw [cellsOf_length, List.length_set]
    · rw [List.length_set]
    · rw [Nat.zero_add]; exact blk_set hh _ _
    · rw [List.length_set]; exact hnc
    · rw [Array.size_setIfInBounds]; exact hsz
    · rw [cellsOf_set1 i u x' xs k x hk hi he, ← htk, List.length_set, Array.toList_setIfInBounds, List.take_set]
def seatD (d : Dn) : Dn := if eats d.phase d.sides = true then ⟨d.id, 2, dirtyAll d.sides⟩ else d
set_option maxRecDepth 100000 in
set_option maxHeartbeats 4000000 in
theorem seated_any (w : World) (B : Nat) (id ph : Int) (v : Value) (L : List Sd) (h : Ow w B v L) :
    Calls Tryz.prog 203 #[.agg #[.int .i64 id, .int .i64 ph, v]] w fun e w' => e = .returned (.agg #[.int .i64 (seatD ⟨id, ph, L⟩).id, .int .i64 (seatD ⟨id, ph, L⟩).phase, v]) ∧ Ow w' B v (seatD ⟨id, ph, L⟩).sides ∧ Off (fun b => v.ownBlock = some b) w w' := by
  obtain ⟨ao, c, rfl⟩ := h.sl.len
  have hlen := h.sl.length_le
  obtain ⟨W0, hW0⟩ : ∃ W0, W0 = (w.alloc (.cells #[.int .i64 id, .int .i64 ph, .slice ao L.length c] 61)).alloc (.cells #[.int .i64 0, .int .i64 0, .slice none 0 0] 61) := ⟨_, rfl⟩
  have X0 : Hid (Ext w W0) := Lib.hid (hW0 ▸ ((Ext.refl w).alloc _).alloc _)
  have D0 : Hid (W0.heap[w.heap.size]? = some (.cells #[.int .i64 id, .int .i64 ph, .slice ao L.length c] 61 (0, 0))) := Lib.hid (hW0 ▸ old1 (at0 w _) _)
  have R0 : Hid (W0.heap[w.heap.size + 1]? = some (.cells #[.int .i64 0, .int .i64 0, .slice none 0 0] 61 (0, 0))) := Lib.hid (hW0 ▸ at1 w _ _)
  have hs0 : W0.heap.size = w.heap.size + 2 := by rw [hW0, size_alloc, size_alloc]
  have HW0 := Lib.hid hW0
  have HO := Lib.hid (h.ext X0.out)
  have HLOW : Hid (∀ b, (Value.slice ao L.length c).ownBlock = some b → b < w.heap.size) := Lib.hid fun b hb => (h.low b hb).2
  obtain ⟨d0, d1, d2⟩ := cells3U D0.out
  clear h hW0
  obtain ⟨t, ht⟩ : ∃ t, L.all (·.fork) = t := ⟨_, rfl⟩
  have HCL := Lib.hid (fun W (hW : Ext W0 W) => contains_lacks W _ L (HO.out.sl.ext hW) t ht)
  have HT := Lib.hid ht
  clear ht
  obtain ⟨q, hq⟩ : ∃ q, (ph == 1 && t) = q := ⟨_, rfl⟩
  have HQ : Hid (eats ph L = q) := Lib.hid (by unfold eats; rw [HT.out, ← hq]; cases h : ph == 1 <;> simp_all)
  go_enter Tryz.func203, Tryz.ntmps203
  go_upto_region 2 with (fail)
  rw [← HW0.out]
  go_cut [13] (fun s13 wx => s13 = .bool (!q) ∧ Hid (Ext W0 wx))
  case first =>
    by_cases hp : ph = 1
    · have t1 : (ph != 1) = false := by simp [hp]
      have HB : Hid (t = q) := Lib.hid (by rw [← hq, hp]; simp)
      clear hp hq
      go_wp2_with (first
        | (go_at_call 142; refine (HCL.out W0 (Ext.refl _)).mono ?_; rintro e w1 ⟨rfl, hx⟩; have X1 : Hid (Ext W0 w1) := Lib.hid hx; clear hx))
      go_meet
      exact ⟨by rw [HB.out], X1⟩
    · have t1 : (ph != 1) = true := by simp [hp]
      have HB : Hid (false = q) := Lib.hid (by rw [← hq]; simp [hp])
      clear hp hq
      go_wp2_with fail
      go_meet
      exact ⟨by rw [← HB.out]; rfl, Lib.hid (Ext.refl _)⟩
  case rest =>
    obtain ⟨rfl, HX⟩ := hcut
    clear d0 d1 d2
    obtain ⟨d0, d1, d2⟩ := cells3U (keepU D0.out HX.out)
    cases q
    · have HR : Hid (seatD ⟨id, ph, L⟩ = ⟨id, ph, L⟩) := Lib.hid (by unfold seatD; rw [if_neg (by show ¬ eats ph L = true; rw [HQ.out]; simp)])
      go_upto_region 3 with (fail)
      go_wp2_with (first | refine haltst 61 ?_)
      refine .inl ?_
      refine st_l 61 (.tmp 2) (.tmp 14) (w.heap.size + 1) 0 61 #[.int .i64 0, .int .i64 0, .slice none 0 0] #[.int .i64 id, .int .i64 ph, .slice ao L.length c] #[.int .i64 id, .int .i64 ph, .slice ao L.length c] rfl rfl (keepU R0.out HX.out) (by kernel_rfl) (by simp) rfl rfl ?_
      intro W9 hW9 o9
      simp only [Act.put]
      go_wp2
      exact bodyPost_ret (v := .agg #[.int .i64 id, .int .i64 ph, .slice ao L.length c]) (res_c rfl rfl hW9 uDiner (by kernel_rfl)) rfl (by
        rw [HR.out]
        exact ⟨rfl, owU (HO.out.ext HX.out) (fun b hb => o9.block b (Nat.lt_of_lt_of_le (HLOW.out b hb) (Nat.le_trans (by omega) (Below.size (X0.out.trans HX.out)))) (by have := HLOW.out b hb; omega)), Off.of_ext (ext_off (X0.out.trans HX.out) o9 (fun b hb => by omega))⟩)
    · have HR : Hid (seatD ⟨id, ph, L⟩ = ⟨id, 2, dirtyAll L⟩) := Lib.hid (by unfold seatD; rw [if_pos (by show eats ph L = true; exact HQ.out)])
      have f1 := blk_free (keepU D0.out HX.out) 1
      clear hq
      go_upto_region 4 with (fail)
      go_upto_region 5 with (fail)
      obtain ⟨W3, hW3⟩ : ∃ W3, W3 = wc.setCell ⟨w.heap.size, 1, none⟩ (.int .i64 2) := ⟨_, rfl⟩
      have D3 : Hid (W3.heap[w.heap.size]? = some (.cells #[.int .i64 id, .int .i64 2, .slice ao L.length c] 61 (0, 0))) := Lib.hid (by rw [hW3, blk_set (keepU D0.out HX.out)]; rfl)
      have R3 : Hid (W3.heap[w.heap.size + 1]? = some (.cells #[.int .i64 0, .int .i64 0, .slice none 0 0] 61 (0, 0))) := Lib.hid (by rw [hW3, set_other _ _ _ _ (by show w.heap.size + 1 ≠ w.heap.size; omega)]; exact keepU R0.out HX.out)
      have X3 : Hid (Ext w W3) := Lib.hid (hW3 ▸ below_set (X0.out.trans HX.out) (Nat.le_refl _) _)
      have O3 : Hid (Ow W3 B (.slice ao L.length c) L) := Lib.hid (owU (HO.out.ext HX.out) (fun b hb => by rw [hW3]; exact set_other _ _ _ _ (by have := HLOW.out b hb; show b ≠ w.heap.size; omega)))
      rw [← hW3]
      clear hW3 d0 d1 d2 f1
      obtain ⟨d0, d1, d2⟩ := cells3U D3.out
      go_wp2
      go_loopw [19] (fun i wr => ∃ k : Nat, k ≤ L.length ∧ i = .int .i64 k ∧ Hid (Ow wr B (.slice ao L.length c) ((L.take k).map (fun s : Sd => { s with dirty := true }) ++ L.drop k)) ∧ Hid (wr.heap[w.heap.size]? = some (.cells #[.int .i64 id, .int .i64 2, .slice ao L.length c] 61 (0, 0)) ∧ wr.heap[w.heap.size + 1]? = some (.cells #[.int .i64 0, .int .i64 0, .slice none 0 0] 61 (0, 0))) ∧ Hid (Off (fun b => (Value.slice ao L.length c).ownBlock = some b) w wr)) (fun i _ => L.length - (intOf i).toNat)
      case atStart => exact ⟨0, Nat.zero_le _, rfl, by simpa using O3, Lib.hid ⟨D3.out, R3.out⟩, Lib.hid (Off.of_ext X3.out)⟩
      case round =>
        obtain ⟨k, hk, rfl, HK, HB, HF⟩ := hrel
        clear d0 d1 d2
        obtain ⟨d0, d1, d2⟩ := cells3U HB.out.1
        by_cases hlt : k < L.length
        · obtain ⟨s, hsk⟩ : ∃ s, L[k]? = some s := ⟨_, List.getElem?_eq_getElem hlt⟩
          obtain ⟨ea1, ea2⟩ := eatK_at (fun s : Sd => { s with dirty := true }) L k s hsk
          obtain ⟨b1, off, s', hsy, hsj, hao, hn, hnc, hc63, hb, hcs⟩ := HK.out.sl.sidesAt (k := k) (by rw [ea2]; exact hlt)
          subst hao
          obtain rfl : s' = s := by have := hsj.symm.trans ea1; simpa using this
          obtain ⟨⟨⟨x0, x1⟩, x2, x3⟩, ⟨x4, x5⟩, x6, x7⟩ := hcs wr (Ext.refl _)
          obtain ⟨z1, z2, z3, z4⟩ := Ow.setCell1 (i := 4) (x' := { s' with dirty := true }) (u := .bool true) HK.out hsj (by decide) rfl
          rw [eatK (fun s : Sd => { s with dirty := true }) L k s' hsk] at z4
          change wr.frozen? ⟨b1, off + k * 8 + 4, none⟩ = false at z3
          have Z4 := Lib.hid z4
          have Z1 := Lib.hid z1
          have hbw : b1 < w.heap.size := HLOW.out b1 rfl
          clear hsy hsj hcs hn ea1 ea2 hsk z4 z1 z2
          go_wp2
          go_roundw
          case rel => exact ⟨k + 1, by omega, by go_num, Lib.hid Z4.out, Lib.hid ⟨(set_other _ _ _ _ (by show w.heap.size ≠ b1; omega)).trans HB.out.1, (set_other _ _ _ _ (by show w.heap.size + 1 ≠ b1; omega)).trans HB.out.2⟩, Lib.hid (HF.out.trans ((off_set wr _ _).mono fun b hb => by rw [hb]; rfl) (Grows.refl _ _))⟩
          case measure => simp [intOf]; omega
        · have hkl : k = L.length := by omega
          have OK : Hid (Ow wr B (.slice ao L.length c) (dirtyAll L)) := Lib.hid (by
            have := HK.out
            rw [hkl, List.take_length, List.drop_length, List.append_nil] at this
            exact this)
          clear HK hkl
          go_upto_region 10 with (fail)
          go_wp2_with (first | refine haltst 61 ?_)
          refine .inl ?_
          refine st_l 61 (.tmp 2) (.tmp 28) (w.heap.size + 1) 0 61 #[.int .i64 0, .int .i64 0, .slice none 0 0] #[.int .i64 id, .int .i64 2, .slice ao L.length c] #[.int .i64 id, .int .i64 2, .slice ao L.length c] rfl rfl HB.out.2 (by kernel_rfl) (by simp) rfl rfl ?_
          intro W9 hW9 o9
          simp only [Act.put]
          go_wp2
          exact bodyPost_ret (v := .agg #[.int .i64 id, .int .i64 2, .slice ao L.length c]) (res_c rfl rfl hW9 uDiner (by kernel_rfl)) rfl (by
            rw [HR.out]
            exact ⟨rfl, owU OK.out (fun b hb => o9.block b (Nat.lt_of_lt_of_le (HLOW.out b hb) HF.out.size) (by have := HLOW.out b hb; omega)), ⟨o9.os.trans HF.out.os, o9.tape.trans HF.out.tape, o9.output.trans HF.out.output, Nat.le_trans HF.out.size o9.size, fun b hb hn => (o9.block b (Nat.lt_of_lt_of_le hb HF.out.size) (by omega)).trans (HF.out.block b hb hn)⟩⟩)
end Go.Proofs.YtfbambemjokmgaaGreat
namespace Go.Proofs.YtfbambemjokmgaaGreat
theorem findS_spec {q : Sd → Bool} : ∀ {L : List Sd} {k : Nat} {s : Sd}, findS q L = some (k, s) → L[k]? = some s ∧ q s = true
  | [], _, _, h => by simp [findS] at h
  | t :: L, k, s, h => by
    unfold findS at h
    split at h
    · next hq =>
      simp only [Option.some.injEq, Prod.mk.injEq] at h
      obtain ⟨rfl, rfl⟩ := h
      exact ⟨rfl, hq⟩
    · rw [Option.map_eq_some_iff] at h
      obtain ⟨⟨k', s'⟩, h1, h2⟩ := h
      simp only [Prod.mk.injEq] at h2
      obtain ⟨rfl, rfl⟩ := h2
      have := findS_spec h1
      exact ⟨by simpa using this.1, this.2⟩
end Go.Proofs.YtfbambemjokmgaaGreat
