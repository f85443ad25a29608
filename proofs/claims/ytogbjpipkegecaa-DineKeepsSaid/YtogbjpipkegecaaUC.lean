/- Layer 13, the program: a row of sides of one's own; who is hungry, who stops. -/
import Derived.Test.YtogbjpipkegecaaUB
import Derived.Lib.SliceRun
namespace Go.Proofs.Ytogbjpipkegecaa
open Go.RowKit

def noD : Dn := ⟨0, 0, []⟩
/-- a diner and an error are answered; all that was there is as it was -/
def GivesE (w : World) (r : Dn × Int) (e : Ending) (w' : World) : Prop := ∃ v', e = .returned (.tuple #[.agg #[.int .i64 r.1.id, .int .i64 r.1.phase, v'], .int .i64 r.2]) ∧ Sl w' v' r.1.sides ∧ Ext w w' ∧ ∀ b, v'.ownBlock = some b → w.heap.size ≤ b
def stepR (d : Dn) (fr to_ : Int) : Dn × Int := if dnOk d = true then (if d.phase = fr then (⟨d.id, to_, d.sides⟩, 0) else (noD, 134)) else (noD, 130)
theorem zeroCells : (#[.int .i64 0, .int .i64 0, .slice none 0 0] : Array Value) = #[.int .i64 0, .int .i64 0, .slice none 0 0] := rfl
theorem givesNo {w W : World} {r : Dn × Int} {er : Int} (h : r = (noD, er)) (x : Ext w W) : GivesE w r (.returned (.tuple #[.agg #[.int .i64 0, .int .i64 0, .slice none 0 0], .int .i64 er])) W := by
  subst h
  exact ⟨_, rfl, slNoneU _, x, fun b hb => by simp [Value.ownBlock] at hb⟩

set_option maxRecDepth 100000 in
set_option maxHeartbeats 2000000 in
theorem clone_sd (w : World) (v : Value) (L : List Sd) (h : Sl w v L) (hl : L.length ≤ 1000) :
    Calls Try.prog 33 #[v] w fun e w' => ∃ v', e = .returned v' ∧ Ow w' w.heap.size v' L ∧ Ext w w' := by
  have h0 := h
  obtain ⟨_, ao, c, rfl, h2, h3, h4, h5⟩ := h0
  cases ao with
  | none =>
    obtain rfl := h4 rfl
    have hL : L = [] := List.eq_nil_of_length_eq_zero (by omega)
    subst hL
    clear h h2 h3 h4 h5
    dsimp only [List.length_nil]
    have q := fun w => Lib.run_eql_slice_nil (P := Try.prog) w _ _ none 0 0 0 0 (Elem.row (α := Sd))
    change ∀ w, (binOp .eql 23 (.slice none 0 0) (.slice none 0 0)).run Try.prog w = .ok (.bool true) w at q
    go_enter Try.func33, Try.ntmps33
    go_wp2
    go_ret
    exact ⟨_, rfl, Ow.nil _ _, Ext.refl _⟩
  | some a =>
    have HS := Lib.hid h
    clear h h2 h3 h4 h5
    have q := fun w => Lib.run_eql_slice_nil (P := Try.prog) w _ _ (some a) L.length c 0 0 (Elem.row (α := Sd))
    change ∀ w, (binOp .eql 23 (.slice (some a) L.length c) (.slice none 0 0)).run Try.prog w = .ok (.bool false) w at q
    go_enter Try.func33, Try.ntmps33
    go_wp2_with (first
      | (at_builtin; refine wpList_append_sl (α := Sd) rfl (.tmp 5) (.tmp 6) rfl w.heap.size (.slice (some ⟨_, 0, none⟩) 0 0) [] rfl ?_ _ L rfl ?_ ?_ ?_ ?_; exact (Ow.litAt w _ _ rfl (Nat.le_refl _) [] (by simp)); exact (HS.out.alloc _); (first | omega | (simp; omega)); exact (by rw [size_alloc]; omega); intro v6 W6 ho6 ha6; obtain ⟨a6, n6, c6, rfl⟩ := ho6.sh; have O6 : Hid (Ow W6 w.heap.size (.slice a6 n6 c6) L) := Lib.hid ho6; have X6 : Hid (Ext w W6) := Lib.hid (Below.trans (Ext.alloc (Ext.refl w) _) ha6.below); clear ho6 ha6))
    go_ret
    exact ⟨_, rfl, O6.out, X6.out⟩

set_option maxRecDepth 100000 in
set_option maxHeartbeats 4000000 in
theorem step_any (w : World) (id ph fr to_ : Int) (v : Value) (L : List Sd) (h : Sl w v L) (hl : L.length ≤ 1000) :
    Calls Try.prog 35 #[.agg #[.int .i64 id, .int .i64 ph, v], .int .i64 fr, .int .i64 to_] w (GivesE w (stepR ⟨id, ph, L⟩ fr to_)) := by
  obtain ⟨ao, c, rfl⟩ := h.len
  obtain ⟨W0, hW0⟩ : ∃ W0, W0 = (w.alloc (.cells #[.int .i64 id, .int .i64 ph, .slice ao L.length c] 25)).alloc (.cells #[.int .i64 0, .int .i64 0, .slice none 0 0] 25) := ⟨_, rfl⟩
  have X0 : Hid (Ext w W0) := Lib.hid (hW0 ▸ ((Ext.refl w).alloc _).alloc _)
  have hD : W0.heap[w.heap.size]? = some (.cells #[.int .i64 id, .int .i64 ph, .slice ao L.length c] 25 (0, 0)) := hW0 ▸ old1 (at0 w _) _
  have hR : W0.heap[w.heap.size + 1]? = some (.cells #[.int .i64 0, .int .i64 0, .slice none 0 0] 25 (0, 0)) := hW0 ▸ at1 w _ _
  have hs0 : W0.heap.size = w.heap.size + 2 := by rw [hW0, size_alloc, size_alloc]
  have HW0 := Lib.hid hW0
  have HS := Lib.hid (h.ext X0.out)
  have D0 := Lib.hid hD
  have R0 := Lib.hid hR
  have d0 := blk_cell hD 0 rfl
  have d1 := blk_cell hD 1 rfl
  have d2 := blk_cell hD 2 rfl
  have HSw := Lib.hid h
  clear h hW0 hD hR
  obtain ⟨t, ht⟩ : ∃ t, dnOk ⟨id, ph, L⟩ = t := ⟨_, rfl⟩
  have HT := Lib.hid ht
  clear ht
  go_enter Try.func35, Try.ntmps35
  go_upto_region 1 with (fail)
  rw [← HW0.out]
  cases t
  · have HR : Hid (stepR ⟨id, ph, L⟩ fr to_ = (noD, 130)) := Lib.hid (by unfold stepR; rw [HT.out]; rfl)
    go_wp2_with (first
      | (go_at_call 16; refine (dCheck_any W0 id ph _ L HS.out false HT.out).mono ?_; rintro e w1 ⟨rfl, hx⟩; dsimp only [cond]; have X1 := Lib.hid hx; clear hx)
      | refine haltst 25 ?_)
    refine .inl ?_
    refine st_l 25 (.tmp 6) (.tmp 13) (w.heap.size + 1) 0 25 #[.int .i64 0, .int .i64 0, .slice none 0 0] #[.int .i64 0, .int .i64 0, .slice none 0 0] #[.int .i64 0, .int .i64 0, .slice none 0 0] rfl rfl (keepU R0.out X1.out) (by kernel_rfl) (by simp) rfl rfl ?_
    intro W9 hW9 o9
    simp only [Act.put]
    go_wp2
    exact bodyPost_ret (v := .tuple #[.agg #[.int .i64 0, .int .i64 0, .slice none 0 0], .int .i64 130]) (res_ct 7 rfl rfl hW9 uDiner (by kernel_rfl)) rfl (givesNo HR.out (ext_off (X0.out.trans X1.out) o9 (fun b hb => by omega)))
  · by_cases hp : ph = fr
    · have HR : Hid (stepR ⟨id, ph, L⟩ fr to_ = (⟨id, to_, L⟩, 0)) := Lib.hid (by unfold stepR; rw [HT.out, if_pos rfl, if_pos hp])
      have q4 : (ph != fr) = false := by simp [hp]
      clear hp
      go_upto_region 6 with (first
        | (go_at_call 16; refine (dCheck_any W0 id ph _ L HS.out true HT.out).mono ?_; rintro e w1 ⟨rfl, hx⟩; dsimp only [cond]; have X1 := Lib.hid hx; clear d0 d1 d2; have d0 := blk_cell (keepU D0.out hx) 0 rfl; have d1 := blk_cell (keepU D0.out hx) 1 rfl; have f1 := blk_free (keepU D0.out hx) 1; have d2 := blk_cell (keepU D0.out hx) 2 rfl; clear hx))
      go_upto_region 7 with (fail)
      obtain ⟨W3, hW3⟩ : ∃ W3, W3 = w1.setCell ⟨w.heap.size, 1, none⟩ (.int .i64 to_) := ⟨_, rfl⟩
      have D3 : Hid (W3.heap[w.heap.size]? = some (.cells #[.int .i64 id, .int .i64 to_, .slice ao L.length c] 25 (0, 0))) := Lib.hid (by rw [hW3, blk_set (keepU D0.out X1.out)]; rfl)
      have R3 : Hid (W3.heap[w.heap.size + 1]? = some (.cells #[.int .i64 0, .int .i64 0, .slice none 0 0] 25 (0, 0))) := Lib.hid (by rw [hW3, set_other _ _ _ _ (by show w.heap.size + 1 ≠ w.heap.size; omega)]; exact keepU R0.out X1.out)
      have X3 : Hid (Ext w W3) := Lib.hid (hW3 ▸ below_set (X0.out.trans X1.out) (Nat.le_refl _) _)
      have HS3 : Hid (Sl W3 (.slice ao L.length c) L) := Lib.hid (HSw.out.ext X3.out)
      rw [← hW3]
      clear hW3 d0 d1 d2 f1
      have d2 := blk_cell D3.out 2 rfl
      go_upto_region 8 with (first
        | (go_at_call 33; refine (clone_sd W3 _ L HS3.out hl).mono ?_; rintro e w5 ⟨v5, rfl, o5, x5⟩; obtain ⟨a5, n5, c5, rfl⟩ := o5.sh; have X5 : Hid (Ext W3 w5) := Lib.hid x5; have O5 := Lib.hid o5; have f5 := blk_free (keepU D3.out x5) 2; have c5' := blk_cell (keepU D3.out x5) 2 rfl; clear o5 x5))
      obtain ⟨W6, hW6⟩ : ∃ W6, W6 = w5.setCell ⟨w.heap.size, 2, none⟩ (.slice a5 n5 c5) := ⟨_, rfl⟩
      have D6 : Hid (W6.heap[w.heap.size]? = some (.cells #[.int .i64 id, .int .i64 to_, .slice a5 n5 c5] 25 (0, 0))) := Lib.hid (by rw [hW6, blk_set (keepU D3.out X5.out)]; rfl)
      have R6 : Hid (W6.heap[w.heap.size + 1]? = some (.cells #[.int .i64 0, .int .i64 0, .slice none 0 0] 25 (0, 0))) := Lib.hid (by rw [hW6, set_other _ _ _ _ (by show w.heap.size + 1 ≠ w.heap.size; omega)]; exact keepU R3.out X5.out)
      have X6 : Hid (Ext w W6) := Lib.hid (hW6 ▸ below_set (X3.out.trans X5.out) (Nat.le_refl _) _)
      have S6 : Hid (Ow W6 W3.heap.size (.slice a5 n5 c5) L) := Lib.hid (hW6 ▸ O5.out.set (d := ⟨w.heap.size, 2, none⟩) (blk_lt D3.out) _)
      have hl3 : w.heap.size + 1 < W3.heap.size := blk_lt R3.out
      rw [← hW6]
      clear hW6 d2 f5 c5' O5
      have d0 := blk_cell D6.out 0 rfl
      have d1 := blk_cell D6.out 1 rfl
      have d2 := blk_cell D6.out 2 rfl
      go_wp2_with (first | refine haltst 25 ?_)
      refine .inl ?_
      refine st_l 25 (.tmp 6) (.tmp 26) (w.heap.size + 1) 0 25 #[.int .i64 0, .int .i64 0, .slice none 0 0] #[.int .i64 id, .int .i64 to_, .slice a5 n5 c5] #[.int .i64 id, .int .i64 to_, .slice a5 n5 c5] rfl rfl R6.out (by kernel_rfl) (by simp) rfl rfl ?_
      intro W9 hW9 o9
      simp only [Act.put]
      go_wp2
      exact bodyPost_ret (v := .tuple #[.agg #[.int .i64 id, .int .i64 to_, .slice a5 n5 c5], .int .i64 0]) (res_ct 7 rfl rfl hW9 uDiner (by kernel_rfl)) rfl (by rw [HR.out]; exact ⟨_, rfl, slOffU S6.out.sl (fun b hb => (S6.out.low b hb).1) o9 hl3, ext_off X6.out o9 (fun b hb => by omega), fun b hb => by have := (S6.out.low b hb).1; omega⟩)
    · have HR : Hid (stepR ⟨id, ph, L⟩ fr to_ = (noD, 134)) := Lib.hid (by unfold stepR; rw [HT.out, if_pos rfl, if_neg hp])
      have q4 : (ph != fr) = true := by simp [hp]
      clear hp
      go_wp2_with (first
        | (go_at_call 16; refine (dCheck_any W0 id ph _ L HS.out true HT.out).mono ?_; rintro e w1 ⟨rfl, hx⟩; dsimp only [cond]; have X1 := Lib.hid hx; have d1 := blk_cell (keepU D0.out hx) 1 rfl; clear hx)
        | refine haltst 25 ?_)
      refine .inl ?_
      refine st_l 25 (.tmp 6) (.tmp 19) (w.heap.size + 1) 0 25 #[.int .i64 0, .int .i64 0, .slice none 0 0] #[.int .i64 0, .int .i64 0, .slice none 0 0] #[.int .i64 0, .int .i64 0, .slice none 0 0] rfl rfl (keepU R0.out X1.out) (by kernel_rfl) (by simp) rfl rfl ?_
      intro W9 hW9 o9
      simp only [Act.put]
      go_wp2
      exact bodyPost_ret (v := .tuple #[.agg #[.int .i64 0, .int .i64 0, .slice none 0 0], .int .i64 134]) (res_ct 7 rfl rfl hW9 uDiner (by kernel_rfl)) rfl (givesNo HR.out (ext_off (X0.out.trans X1.out) o9 (fun b hb => by omega)))

set_option maxHeartbeats 1000000 in
theorem start_any (w : World) (id ph : Int) (v : Value) (L : List Sd) (h : Sl w v L) (hl : L.length ≤ 1000) :
    Calls Try.prog 21 #[.agg #[.int .i64 id, .int .i64 ph, v]] w (GivesE w (stepR ⟨id, ph, L⟩ 0 1)) := by
  obtain ⟨ao, c, rfl⟩ := h.len
  obtain ⟨W0, hW0⟩ : ∃ W0, W0 = (w.alloc (.cells #[.int .i64 id, .int .i64 ph, .slice ao L.length c] 25)).alloc (.cells #[.int .i64 0, .int .i64 0, .slice none 0 0] 25) := ⟨_, rfl⟩
  have X0 : Hid (Ext w W0) := Lib.hid (hW0 ▸ ((Ext.refl w).alloc _).alloc _)
  have hD : W0.heap[w.heap.size]? = some (.cells #[.int .i64 id, .int .i64 ph, .slice ao L.length c] 25 (0, 0)) := hW0 ▸ old1 (at0 w _) _
  have R0 : Hid (W0.heap[w.heap.size + 1]? = some (.cells #[.int .i64 0, .int .i64 0, .slice none 0 0] 25 (0, 0))) := Lib.hid (hW0 ▸ at1 w _ _)
  have hs0 : W0.heap.size = w.heap.size + 2 := by rw [hW0, size_alloc, size_alloc]
  have HW0 := Lib.hid hW0
  have HC := Lib.hid (step_any W0 id ph 0 1 _ L (h.ext X0.out) hl)
  have d0 := blk_cell hD 0 rfl
  have d1 := blk_cell hD 1 rfl
  have d2 := blk_cell hD 2 rfl
  clear h hW0 hD
  obtain ⟨⟨⟨id', ph', L'⟩, er⟩, hr⟩ : ∃ r, stepR ⟨id, ph, L⟩ 0 1 = r := ⟨_, rfl⟩
  rw [hr] at HC ⊢
  clear hr
  go_enter Try.func21, Try.ntmps21
  go_upto_region 1 with (fail)
  rw [← HW0.out]
  go_wp2_with (first
    | (go_at_call 35; refine HC.out.mono ?_; rintro e w1 ⟨v1, rfl, s1, x1, n1⟩; dsimp only at s1 ⊢; obtain ⟨a1, c1, rfl⟩ := s1.len; have S1 := Lib.hid s1; have X1 := Lib.hid x1; have N1 := Lib.hid n1; clear s1 x1 n1)
    | refine haltst 25 ?_)
  refine .inl ?_
  refine st_l 25 (.tmp 2) (.tmp 6) (w.heap.size + 1) 0 25 #[.int .i64 0, .int .i64 0, .slice none 0 0] _ _ rfl rfl (keepU R0.out X1.out) (by kernel_rfl) (by simp) rfl rfl ?_
  intro W9 hW9 o9
  simp only [Act.put]
  go_wp2
  exact bodyPost_ret (v := .tuple #[.agg _, .int .i64 er]) (res_ct 3 rfl rfl hW9 uDiner (by kernel_rfl)) rfl ⟨_, rfl, slOffU S1.out N1.out o9 (by omega), ext_off (X0.out.trans X1.out) o9 (fun b hb => by omega), fun b hb => by have := N1.out b hb; omega⟩
set_option maxHeartbeats 1000000 in
theorem stop_any (w : World) (id ph : Int) (v : Value) (L : List Sd) (h : Sl w v L) (hl : L.length ≤ 1000) :
    Calls Try.prog 22 #[.agg #[.int .i64 id, .int .i64 ph, v]] w (GivesE w (stepR ⟨id, ph, L⟩ 2 0)) := by
  obtain ⟨ao, c, rfl⟩ := h.len
  obtain ⟨W0, hW0⟩ : ∃ W0, W0 = (w.alloc (.cells #[.int .i64 id, .int .i64 ph, .slice ao L.length c] 25)).alloc (.cells #[.int .i64 0, .int .i64 0, .slice none 0 0] 25) := ⟨_, rfl⟩
  have X0 : Hid (Ext w W0) := Lib.hid (hW0 ▸ ((Ext.refl w).alloc _).alloc _)
  have hD : W0.heap[w.heap.size]? = some (.cells #[.int .i64 id, .int .i64 ph, .slice ao L.length c] 25 (0, 0)) := hW0 ▸ old1 (at0 w _) _
  have R0 : Hid (W0.heap[w.heap.size + 1]? = some (.cells #[.int .i64 0, .int .i64 0, .slice none 0 0] 25 (0, 0))) := Lib.hid (hW0 ▸ at1 w _ _)
  have hs0 : W0.heap.size = w.heap.size + 2 := by rw [hW0, size_alloc, size_alloc]
  have HW0 := Lib.hid hW0
  have HC := Lib.hid (step_any W0 id ph 2 0 _ L (h.ext X0.out) hl)
  have d0 := blk_cell hD 0 rfl
  have d1 := blk_cell hD 1 rfl
  have d2 := blk_cell hD 2 rfl
  clear h hW0 hD
  obtain ⟨⟨⟨id', ph', L'⟩, er⟩, hr⟩ : ∃ r, stepR ⟨id, ph, L⟩ 2 0 = r := ⟨_, rfl⟩
  rw [hr] at HC ⊢
  clear hr
  go_enter Try.func22, Try.ntmps22
  go_upto_region 1 with (fail)
  rw [← HW0.out]
  go_wp2_with (first
    | (go_at_call 35; refine HC.out.mono ?_; rintro e w1 ⟨v1, rfl, s1, x1, n1⟩; dsimp only at s1 ⊢; obtain ⟨a1, c1, rfl⟩ := s1.len; have S1 := Lib.hid s1; have X1 := Lib.hid x1; have N1 := Lib.hid n1; clear s1 x1 n1)
    | refine haltst 25 ?_)
  refine .inl ?_
  refine st_l 25 (.tmp 2) (.tmp 6) (w.heap.size + 1) 0 25 #[.int .i64 0, .int .i64 0, .slice none 0 0] _ _ rfl rfl (keepU R0.out X1.out) (by kernel_rfl) (by simp) rfl rfl ?_
  intro W9 hW9 o9
  simp only [Act.put]
  go_wp2
  exact bodyPost_ret (v := .tuple #[.agg _, .int .i64 er]) (res_ct 3 rfl rfl hW9 uDiner (by kernel_rfl)) rfl ⟨_, rfl, slOffU S1.out N1.out o9 (by omega), ext_off (X0.out.trans X1.out) o9 (fun b hb => by omega), fun b hb => by have := N1.out b hb; omega⟩

end Go.Proofs.Ytogbjpipkegecaa
