/- Layer 17, the program: a session ends. -/
import Derived.Test.YtgcnjkabpcbkgaaHP6
import Derived.Test.YtgcnjkabpcbkgaaHL
namespace Go.Proofs.Ytgcnjkabpcbkgaa
open Go.RowKit

section
variable {P : Program} {ops : Array Oper} {Q : Exit → Act → World → Prop} {md : Region.Mode} {K : World → Prop} {d : Nat}
theorem ytwo (i j : Nat) {f : Nat} {listed : Array Bool} {a : Act} {w : World} (hr : Region.ready md ops listed = [i, j] := by kernel_rfl) (hk : K w) (h : RunY P md ops Q K d f listed a w i) (h' : RunY P md ops Q K d f listed a w j) : yM P md ops Q K d (f + 1) listed a w :=
  ⟨fun _ => hk, fun e => (by rw [hr] at e; cases e), fun x hx => by
    rw [hr] at hx
    rcases List.mem_cons.1 hx with e | e
    · subst e; exact h.op
    · rw [List.mem_singleton] at e
      subst e; exact h'.op⟩
end
theorem filter_id {id : Int} : ∀ {L : List Se} {k : Nat}, SS (L.map Se.id) → atH L id = some k → (L.filter fun s => !(s.id == id)) = L.eraseIdx k
  | [], k, _, h => by simp [atH] at h
  | s :: t, k, hs, h => by
    have h1 : ((s.id :: t.map Se.id) : List Int).Pairwise (· < ·) := hs
    have h2 := List.pairwise_cons.1 h1
    unfold atH at h
    rw [List.findIdx?_cons] at h
    by_cases e : s.id = id
    · rw [if_pos (by simpa using e)] at h
      obtain rfl : k = 0 := by simpa using h.symm
      have hf : (t.filter fun s => !(s.id == id)) = t := List.filter_eq_self.2 fun x hx => by
        have := h2.1 x.id (List.mem_map.2 ⟨x, hx, rfl⟩)
        have : x.id ≠ id := by omega
        simpa using this
      rw [List.filter_cons_of_neg (by simp [e]), hf]
      rfl
    · rw [if_neg (by simpa using e)] at h
      cases hj : t.findIdx? (fun s => s.id == id) with
      | none => rw [hj] at h; cases h
      | some j =>
        rw [hj] at h
        obtain rfl : k = j + 1 := by simpa using h.symm
        rw [List.filter_cons_of_pos (by simpa using e), filter_id (L := t) h2.2 hj]
        rfl
theorem endH_poll {n id want : Int} {L : List Se} {p1 p2 : Int} (h : pollH (n, L) id = (p1, p2)) : endH (n, L) id want = if p2 = 0 then (if p1 = want then ((n, L.filter fun s => !(s.id == id)), 0) else (noH, 175)) else (noH, p2) := by
  unfold pollH at h
  unfold endH
  by_cases hc : chkH (n, L) = true
  · rw [if_pos hc] at h ⊢
    dsimp only at h ⊢
    cases ha : atH L id with
    | none =>
      rw [ha] at h
      cases h
      rfl
    | some k =>
      rw [ha] at h
      dsimp only at h ⊢
      obtain ⟨s, hs, _⟩ := atH_some ha
      rw [hs] at h ⊢
      cases h
      dsimp only
      rw [if_pos rfl, filter_id (okH_iff.1 hc).rise ha]
  · rw [if_neg hc] at h ⊢
    cases h
    rfl

set_option maxRecDepth 100000 in
set_option maxHeartbeats 8000000 in
theorem sessEnd_any (F : Nat → Prop) (w : World) (n id want : Int) (v : Value) (L : List Se) (h : Ns HV F w v L) (hl : L.length ≤ 1000) (hF : ∀ b, F b → b < w.heap.size) :
    Calls Try.prog 49 #[.agg #[.int .i64 n, v], .int .i64 id, .int .i64 want] w (GivesBk F w (endH (n, L) id want)) := by
  obtain ⟨ao, c, rfl⟩ := h.len
  obtain ⟨W0, hW0⟩ : ∃ W0, W0 = (w.alloc (.cells #[.int .i64 n, .slice ao L.length c] 24)).alloc (.cells #[.int .i64 0, .slice none 0 0] 24) := ⟨_, rfl⟩
  have X0 : Hid (Ext w W0) := Lib.hid (hW0 ▸ ((Ext.refl w).alloc _).alloc _)
  have B0 : Hid (W0.heap[w.heap.size]? = some (.cells #[.int .i64 n, .slice ao L.length c] 24 (0, 0))) := Lib.hid (hW0 ▸ old1 (at0 w _) _)
  have R0 : Hid (W0.heap[w.heap.size + 1]? = some (.cells #[.int .i64 0, .slice none 0 0] 24 (0, 0))) := Lib.hid (hW0 ▸ at1 w _ _)
  have HZ0 : Hid (W0.heap.size = w.heap.size + 2) := Lib.hid (by rw [hW0, size_alloc, size_alloc])
  have HW0 := Lib.hid hW0
  have HS := Lib.hid (h.ext X0.out)
  have HFB : Hid (∀ V, Ext W0 V → ∀ b, OrB F w 2 b → b < V.heap.size) := Lib.hid fun V hV b hb => by
    have h1 := Below.size hV
    have h2 := HZ0.out
    rcases hb with hb | hb
    · have := hF b hb; omega
    · have := hb.2; omega
  have HK : Hid (∀ V, Ext W0 V → V.cell? ⟨w.heap.size, 0, none⟩ = some (.int .i64 n) ∧ V.cell? ⟨w.heap.size, 1, none⟩ = some (.slice ao L.length c)) := Lib.hid fun V hV => ⟨blk_cell (keepU B0.out hV) 0 rfl, blk_cell (keepU B0.out hV) 1 rfl⟩
  have RK : Hid (∀ V, Ext W0 V → V.heap[w.heap.size + 1]? = some (.cells #[.int .i64 0, .slice none 0 0] 24 (0, 0))) := Lib.hid fun V hV => keepU R0.out hV
  clear hW0
  obtain ⟨⟨p1, p2⟩, hp⟩ : ∃ r, pollH (n, L) id = r := ⟨_, rfl⟩
  have hq := sessPoll_any _ W0 n id _ L HS.out hl
  rw [hp] at hq
  have HPO := Lib.hid hq
  rw [endH_poll hp]
  obtain ⟨k0, k1⟩ := HK.out W0 (Ext.refl _)
  clear h hq
  by_cases e2 : p2 = 0
  rotate_left
  · have d2 : (p2 != 0) = true := by simpa using e2
    rw [if_neg e2]
    clear e2 hp
    go_enter Try.func49, Try.ntmps49
    go_upto_region 1 with (fail)
    rw [← HW0.out]
    go_wp2_with (first
      | (go_at_call 15; refine (HPO.out).mono ?_; rintro e w2 ⟨rfl, x2⟩; have X2 : Hid (Ext W0 w2) := Lib.hid x2; clear x2 k0 k1)
      | refine haltst 24 ?_)
    refine .inl ?_
    refine st_l 24 (.tmp 6) (.tmp 18) (w.heap.size + 1) 0 24 _ #[.int .i64 0, .slice none 0 0] _ rfl rfl (RK.out _ X2.out) (by kernel_rfl) (by simp) rfl rfl ?_
    intro W9 hW9 o9
    simp only [Act.put]
    go_wp2
    exact bodyPost_ret (v := .tuple #[.agg #[.int .i64 0, .slice none 0 0], .int .i64 p2]) (res_ct 7 rfl rfl hW9 uBook (by kernel_rfl)) rfl (givesBk_no rfl (ext_off (X0.out.trans X2.out) o9 (fun b hb => by omega)))
  have d2 : (p2 != 0) = false := by simp [e2]
  rw [if_pos e2]
  have HE2 := Lib.hid e2
  by_cases e1 : p1 = want
  rotate_left
  · have d1 : (p1 != want) = true := by simpa using e1
    rw [if_neg e1]
    clear e1 e2 hp
    go_enter Try.func49, Try.ntmps49
    go_upto_region 1 with (fail)
    rw [← HW0.out]
    go_wp2_with (first
      | (go_at_call 15; refine (HPO.out).mono ?_; rintro e w2 ⟨rfl, x2⟩; have X2 : Hid (Ext W0 w2) := Lib.hid x2; clear x2 k0 k1)
      | refine haltst 24 ?_)
    refine .inl ?_
    refine st_l 24 (.tmp 6) (.tmp 23) (w.heap.size + 1) 0 24 _ #[.int .i64 0, .slice none 0 0] _ rfl rfl (RK.out _ X2.out) (by kernel_rfl) (by simp) rfl rfl ?_
    intro W9 hW9 o9
    simp only [Act.put]
    go_wp2
    exact bodyPost_ret (v := .tuple #[.agg #[.int .i64 0, .slice none 0 0], .int .i64 175]) (res_ct 7 rfl rfl hW9 uBook (by kernel_rfl)) rfl (givesBk_no rfl (ext_off (X0.out.trans X2.out) o9 (fun b hb => by omega)))
  have d1 : (p1 != want) = false := by simp [e1]
  rw [if_pos e1]
  have hc : chkH (n, L) = true := by
    cases hc : chkH (n, L)
    · unfold pollH at hp
      rw [if_neg (by rw [hc]; exact Bool.false_ne_true)] at hp
      cases hp
      cases e2
    · rfl
  have HLS := Lib.hid (chk_needs hc)
  clear e1 e2 hp hc
  go_enter Try.func49, Try.ntmps49
  go_upto_region 1 with (fail)
  rw [← HW0.out]
  go_upto_region 6 with (first
    | (go_at_call 15; refine (HPO.out).mono ?_; rintro e w2 ⟨rfl, x2⟩; have X2 : Hid (Ext W0 w2) := Lib.hid x2; clear x2 k0 k1))
  (refine wp_region_Y_lit (K := fun V => Ext W0 V) 7 (by kernel_rfl) (fun w1 hw1 => ?_))
  have Y1 : Hid (Ext W0 w1) := Lib.hid (X2.out.trans hw1)
  clear hw1
  refine ytv 0 (hv := by intro w' hw'; obtain ⟨c0, c1⟩ := HK.out w' hw'; go_simp; first | done | with_reducible rfl) (h := ?_)
  refine ytv 1 (h := ?_)
  refine yone 2 (hk := Y1.out) (h := RunY.of 2 (h := ?_))
  go_simp
  refine (of_any w1 id).mono ?_
  rintro e3 w3 ⟨g, lb, rfl, ht, x3⟩
  have HTE := Lib.hid ht
  have Y3 : Hid (Ext W0 w3) := Lib.hid (Y1.out.trans x3)
  clear ht x3
  dsimp only
  (try (simp only [Act.put, List.setIfInBounds_toArray, List.set]))
  refine yone 3 (hk := Y3.out) (h := RunY.of 3 (h := ?_))
  go_simp
  refine (without_any (OrB F w 2) _ w3 n _ _ L _ (HS.out.ext Y3.out) HTE.out hl HLS.out (HFB.out _ Y3.out)).mono ?_
  rintro e4 w4 ⟨a4, m4, c4, b4, i4, j4, rfl, n4, _, x4⟩
  have N4 : Hid (Nw HV (OrB F w 2) w4 (w.heap.size + 2) (.slice a4 m4 c4) (L.filter fun s => !(s.id == id))) := Lib.hid (n4.mono (by have := Below.size Y3.out; have := HZ0.out; omega))
  have Y4 : Hid (Ext W0 w4) := Lib.hid (Y3.out.trans x4)
  clear n4 x4
  dsimp only
  (try (simp only [Act.put, List.setIfInBounds_toArray, List.set]))
  refine ytv 4 (h := ?_)
  refine ytv 5 (h := ?_)
  refine ytwo 6 7 (hk := Y4.out) (h := RunY.of 6 (h := ?_)) (h' := RunY.of 7 (h := ?_))
  · go_simp
    (try (simp only [Act.put, List.setIfInBounds_toArray, List.set]))
    refine yone 7 (hk := Y4.out) (h := RunY.of 7 (h := ?_))
    refine wp_st 24 (.tmp 3) (.tmp 29) rfl w.heap.size 0 24 #[.int .i64 n, .slice ao L.length c] #[.int .i64 n, .slice a4 m4 c4] _ rfl rfl (keepU B0.out Y4.out) (by kernel_rfl) (by simp) rfl rfl ?_
    intro W5 hW5 o5
    simp only [Act.put]
    have B5 := Lib.hid hW5
    have R5 := Lib.hid (o5.blk (RK.out _ Y4.out) (by omega))
    have N5 : Hid (Nw HV (OrB F w 2) W5 (w.heap.size + 2) (.slice a4 m4 c4) (L.filter fun s => !(s.id == id))) := Lib.hid (N4.out.off (o5.mono fun b hb => .inr ⟨by omega, by omega⟩) (fun b hb => o5.block b (N4.out.low b hb).2 (fun e => by have := (N4.out.low b hb).1; omega)) (Grows.refl _ _))
    have X5 : Hid (Ext w W5) := Lib.hid (ext_off (X0.out.trans Y4.out) o5 (fun b hb => by omega))
    clear hW5 o5
    skip
    (refine ydone (by kernel_rfl) (h := ?_))
    obtain ⟨d0, d3⟩ : W5.cell? ⟨w.heap.size, 0, none⟩ = some (.int .i64 n) ∧ W5.cell? ⟨w.heap.size, 1, none⟩ = some (.slice a4 m4 c4) := ⟨blk_cell B5.out 0 rfl, blk_cell B5.out 1 rfl⟩
    go_wp2_with (first
      | refine haltst 24 ?_)
    refine .inl ?_
    refine st_l 24 (.tmp 6) (.tmp 31) (w.heap.size + 1) 0 24 _ #[.int .i64 n, .slice a4 m4 c4] _ rfl rfl R5.out (by kernel_rfl) (by simp) rfl rfl ?_
    intro W9 hW9 o9
    simp only [Act.put]
    go_wp2
    exact bodyPost_ret (v := .tuple #[.agg #[.int .i64 n, .slice a4 m4 c4], .int .i64 0]) (res_ct 7 rfl rfl hW9 uBook (by kernel_rfl)) rfl ⟨_, _, _, rfl, ns_orB' ((N5.out.ns (G := OrB F w 2) (fun _ q => q) (fun b hb => by rcases hb with hb | hb; (have := hF b hb; omega); (have := hb.2; omega))).off (o9.mono fun b hb => .inr ⟨by omega, by omega⟩) (Grows.refl _ _)), ext_off X5.out o9 (fun b hb => by omega)⟩
  · refine wp_st 24 (.tmp 3) (.tmp 29) rfl w.heap.size 0 24 #[.int .i64 n, .slice ao L.length c] #[.int .i64 n, .slice a4 m4 c4] _ rfl rfl (keepU B0.out Y4.out) (by kernel_rfl) (by simp) rfl rfl ?_
    intro W5 hW5 o5
    simp only [Act.put]
    have B5 := Lib.hid hW5
    have R5 := Lib.hid (o5.blk (RK.out _ Y4.out) (by omega))
    have N5 : Hid (Nw HV (OrB F w 2) W5 (w.heap.size + 2) (.slice a4 m4 c4) (L.filter fun s => !(s.id == id))) := Lib.hid (N4.out.off (o5.mono fun b hb => .inr ⟨by omega, by omega⟩) (fun b hb => o5.block b (N4.out.low b hb).2 (fun e => by have := (N4.out.low b hb).1; omega)) (Grows.refl _ _))
    have X5 : Hid (Ext w W5) := Lib.hid (ext_off (X0.out.trans Y4.out) o5 (fun b hb => by omega))
    clear hW5 o5
    refine ylate 6 (h := RunY.of 6 (h := ?_))
    go_simp
    (try (simp only [Act.put, List.setIfInBounds_toArray, List.set]))
    (refine ydone (by kernel_rfl) (h := ?_))
    obtain ⟨d0, d3⟩ : W5.cell? ⟨w.heap.size, 0, none⟩ = some (.int .i64 n) ∧ W5.cell? ⟨w.heap.size, 1, none⟩ = some (.slice a4 m4 c4) := ⟨blk_cell B5.out 0 rfl, blk_cell B5.out 1 rfl⟩
    go_wp2_with (first
      | refine haltst 24 ?_)
    refine .inl ?_
    refine st_l 24 (.tmp 6) (.tmp 31) (w.heap.size + 1) 0 24 _ #[.int .i64 n, .slice a4 m4 c4] _ rfl rfl R5.out (by kernel_rfl) (by simp) rfl rfl ?_
    intro W9 hW9 o9
    simp only [Act.put]
    go_wp2
    exact bodyPost_ret (v := .tuple #[.agg #[.int .i64 n, .slice a4 m4 c4], .int .i64 0]) (res_ct 7 rfl rfl hW9 uBook (by kernel_rfl)) rfl ⟨_, _, _, rfl, ns_orB' ((N5.out.ns (G := OrB F w 2) (fun _ q => q) (fun b hb => by rcases hb with hb | hb; (have := hF b hb; omega); (have := hb.2; omega))).off (o9.mono fun b hb => .inr ⟨by omega, by omega⟩) (Grows.refl _ _)), ext_off X5.out o9 (fun b hb => by omega)⟩

set_option maxRecDepth 100000 in
set_option maxHeartbeats 4000000 in
theorem sessRelease_any (F : Nat → Prop) (w : World) (n id : Int) (v : Value) (L : List Se) (h : Ns HV F w v L) (hl : L.length ≤ 1000) (hF : ∀ b, F b → b < w.heap.size) :
    Calls Try.prog 27 #[.agg #[.int .i64 n, v], .int .i64 id] w (GivesBk F w (endH (n, L) id 1)) := by
  obtain ⟨ao, c, rfl⟩ := h.len
  obtain ⟨W0, hW0⟩ : ∃ W0, W0 = (w.alloc (.cells #[.int .i64 n, .slice ao L.length c] 24)).alloc (.cells #[.int .i64 0, .slice none 0 0] 24) := ⟨_, rfl⟩
  have X0 : Hid (Ext w W0) := Lib.hid (hW0 ▸ ((Ext.refl w).alloc _).alloc _)
  have B0 : Hid (W0.heap[w.heap.size]? = some (.cells #[.int .i64 n, .slice ao L.length c] 24 (0, 0))) := Lib.hid (hW0 ▸ old1 (at0 w _) _)
  have R0 : Hid (W0.heap[w.heap.size + 1]? = some (.cells #[.int .i64 0, .slice none 0 0] 24 (0, 0))) := Lib.hid (hW0 ▸ at1 w _ _)
  have HZ0 : Hid (W0.heap.size = w.heap.size + 2) := Lib.hid (by rw [hW0, size_alloc, size_alloc])
  have HW0 := Lib.hid hW0
  have HS := Lib.hid (h.ext X0.out)
  have HFB : Hid (∀ V, Ext W0 V → ∀ b, OrB F w 2 b → b < V.heap.size) := Lib.hid fun V hV b hb => by
    have h1 := Below.size hV
    have h2 := HZ0.out
    rcases hb with hb | hb
    · have := hF b hb; omega
    · have := hb.2; omega
  have HK : Hid (∀ V, Ext W0 V → V.cell? ⟨w.heap.size, 0, none⟩ = some (.int .i64 n) ∧ V.cell? ⟨w.heap.size, 1, none⟩ = some (.slice ao L.length c)) := Lib.hid fun V hV => ⟨blk_cell (keepU B0.out hV) 0 rfl, blk_cell (keepU B0.out hV) 1 rfl⟩
  have RK : Hid (∀ V, Ext W0 V → V.heap[w.heap.size + 1]? = some (.cells #[.int .i64 0, .slice none 0 0] 24 (0, 0))) := Lib.hid fun V hV => keepU R0.out hV
  clear hW0
  obtain ⟨⟨⟨q1, q2⟩, q3⟩, hq⟩ : ∃ r, endH (n, L) id 1 = r := ⟨_, rfl⟩
  have HEN : Hid (Calls Try.prog 49 #[.agg #[.int .i64 n, .slice ao L.length c], .int .i64 id, .int .i64 1] W0 (GivesBk (OrB F w 2) W0 ((q1, q2), q3))) := Lib.hid (hq ▸ sessEnd_any _ W0 n id 1 _ L ((ns_orB h 2).ext X0.out) hl (HFB.out _ (Ext.refl _)))
  rw [hq]
  obtain ⟨k0, k1⟩ := HK.out W0 (Ext.refl _)
  clear h hq
  go_enter Try.func27, Try.ntmps27
  go_upto_region 1 with (fail)
  rw [← HW0.out]
  go_wp2_with (first
    | (go_at_call 49; refine (HEN.out).mono ?_; rintro e w2 ⟨a2, m2, c2, rfl, n2, x2⟩; dsimp only at n2 ⊢; have N2 := Lib.hid n2; have X2 : Hid (Ext W0 w2) := Lib.hid x2; clear n2 x2 k0 k1)
    | refine haltst 24 ?_)
  refine .inl ?_
  refine st_l 24 (.tmp 4) (.tmp 9) (w.heap.size + 1) 0 24 _ #[.int .i64 q1, .slice a2 m2 c2] _ rfl rfl (RK.out _ X2.out) (by kernel_rfl) (by simp) rfl rfl ?_
  intro W9 hW9 o9
  simp only [Act.put]
  go_wp2
  exact bodyPost_ret (v := .tuple #[.agg #[.int .i64 q1, .slice a2 m2 c2], .int .i64 q3]) (res_ct 5 rfl rfl hW9 uBook (by kernel_rfl)) rfl ⟨_, _, _, rfl, ns_orB' (N2.out.off (o9.mono fun b hb => .inr ⟨by omega, by omega⟩) (Grows.refl _ _)), ext_off (X0.out.trans X2.out) o9 (fun b hb => by omega)⟩

set_option maxRecDepth 100000 in
set_option maxHeartbeats 4000000 in
theorem sessCancel_any (F : Nat → Prop) (w : World) (n id : Int) (v : Value) (L : List Se) (h : Ns HV F w v L) (hl : L.length ≤ 1000) (hF : ∀ b, F b → b < w.heap.size) :
    Calls Try.prog 28 #[.agg #[.int .i64 n, v], .int .i64 id] w (GivesBk F w (endH (n, L) id 0)) := by
  obtain ⟨ao, c, rfl⟩ := h.len
  obtain ⟨W0, hW0⟩ : ∃ W0, W0 = (w.alloc (.cells #[.int .i64 n, .slice ao L.length c] 24)).alloc (.cells #[.int .i64 0, .slice none 0 0] 24) := ⟨_, rfl⟩
  have X0 : Hid (Ext w W0) := Lib.hid (hW0 ▸ ((Ext.refl w).alloc _).alloc _)
  have B0 : Hid (W0.heap[w.heap.size]? = some (.cells #[.int .i64 n, .slice ao L.length c] 24 (0, 0))) := Lib.hid (hW0 ▸ old1 (at0 w _) _)
  have R0 : Hid (W0.heap[w.heap.size + 1]? = some (.cells #[.int .i64 0, .slice none 0 0] 24 (0, 0))) := Lib.hid (hW0 ▸ at1 w _ _)
  have HZ0 : Hid (W0.heap.size = w.heap.size + 2) := Lib.hid (by rw [hW0, size_alloc, size_alloc])
  have HW0 := Lib.hid hW0
  have HS := Lib.hid (h.ext X0.out)
  have HFB : Hid (∀ V, Ext W0 V → ∀ b, OrB F w 2 b → b < V.heap.size) := Lib.hid fun V hV b hb => by
    have h1 := Below.size hV
    have h2 := HZ0.out
    rcases hb with hb | hb
    · have := hF b hb; omega
    · have := hb.2; omega
  have HK : Hid (∀ V, Ext W0 V → V.cell? ⟨w.heap.size, 0, none⟩ = some (.int .i64 n) ∧ V.cell? ⟨w.heap.size, 1, none⟩ = some (.slice ao L.length c)) := Lib.hid fun V hV => ⟨blk_cell (keepU B0.out hV) 0 rfl, blk_cell (keepU B0.out hV) 1 rfl⟩
  have RK : Hid (∀ V, Ext W0 V → V.heap[w.heap.size + 1]? = some (.cells #[.int .i64 0, .slice none 0 0] 24 (0, 0))) := Lib.hid fun V hV => keepU R0.out hV
  clear hW0
  obtain ⟨⟨⟨q1, q2⟩, q3⟩, hq⟩ : ∃ r, endH (n, L) id 0 = r := ⟨_, rfl⟩
  have HEN : Hid (Calls Try.prog 49 #[.agg #[.int .i64 n, .slice ao L.length c], .int .i64 id, .int .i64 0] W0 (GivesBk (OrB F w 2) W0 ((q1, q2), q3))) := Lib.hid (hq ▸ sessEnd_any _ W0 n id 0 _ L ((ns_orB h 2).ext X0.out) hl (HFB.out _ (Ext.refl _)))
  rw [hq]
  obtain ⟨k0, k1⟩ := HK.out W0 (Ext.refl _)
  clear h hq
  go_enter Try.func28, Try.ntmps28
  go_upto_region 1 with (fail)
  rw [← HW0.out]
  go_wp2_with (first
    | (go_at_call 49; refine (HEN.out).mono ?_; rintro e w2 ⟨a2, m2, c2, rfl, n2, x2⟩; dsimp only at n2 ⊢; have N2 := Lib.hid n2; have X2 : Hid (Ext W0 w2) := Lib.hid x2; clear n2 x2 k0 k1)
    | refine haltst 24 ?_)
  refine .inl ?_
  refine st_l 24 (.tmp 4) (.tmp 9) (w.heap.size + 1) 0 24 _ #[.int .i64 q1, .slice a2 m2 c2] _ rfl rfl (RK.out _ X2.out) (by kernel_rfl) (by simp) rfl rfl ?_
  intro W9 hW9 o9
  simp only [Act.put]
  go_wp2
  exact bodyPost_ret (v := .tuple #[.agg #[.int .i64 q1, .slice a2 m2 c2], .int .i64 q3]) (res_ct 5 rfl rfl hW9 uBook (by kernel_rfl)) rfl ⟨_, _, _, rfl, ns_orB' (N2.out.off (o9.mono fun b hb => .inr ⟨by omega, by omega⟩) (Grows.refl _ _)), ext_off (X0.out.trans X2.out) o9 (fun b hb => by omega)⟩
end Go.Proofs.Ytgcnjkabpcbkgaa
