/- Layer 17, the program: a copy of a book; how far a session is. -/
import Derived.Test.YtgcnjkabpcbkgaaHP5
namespace Go.Proofs.Ytgcnjkabpcbkgaa
open Go.RowKit

/-- a book in memory of its own -/
def GivesNew (F : Nat → Prop) (w : World) (n : Int) (L : List Se) (e : Ending) (w' : World) : Prop := ∃ ao m c, e = .returned (.agg #[.int .i64 n, .slice ao m c]) ∧ Nw HV F w' w.heap.size (.slice ao m c) L ∧ Ext w w'
theorem chk_needs {n : Int} {L : List Se} (h : chkH (n, L) = true) : ∀ s ∈ L, s.need.length ≤ 1000 := fun s hs => by
  obtain ⟨k, hk, e⟩ := List.getElem_of_mem hs
  have := ((chk_at.1 h).2.2 k s (by show L[k]? = _; rw [List.getElem?_eq_getElem hk, e])).need
  exact Nat.le_trans (need_at.1 this).2 (by decide)

set_option maxRecDepth 100000 in
set_option maxHeartbeats 8000000 in
theorem copied_any (F G : Nat → Prop) (w : World) (n : Int) (v : Value) (L : List Se) (h : Ns HV G w v L) (hl : L.length ≤ 1000) (hls : ∀ s ∈ L, s.need.length ≤ 1000) (hF : ∀ b, F b → b < w.heap.size) :
    Calls Try.prog 43 #[.agg #[.int .i64 n, v]] w (GivesNew F w n L) := by
  obtain ⟨ao, c, rfl⟩ := h.len
  obtain ⟨W0, hW0⟩ : ∃ W0, W0 = (w.alloc (.cells #[.int .i64 n, .slice ao L.length c] 24)).alloc (.cells #[.int .i64 0, .slice none 0 0] 24) := ⟨_, rfl⟩
  have X0 : Hid (Ext w W0) := Lib.hid (hW0 ▸ ((Ext.refl w).alloc _).alloc _)
  have B0 : Hid (W0.heap[w.heap.size]? = some (.cells #[.int .i64 n, .slice ao L.length c] 24 (0, 0))) := Lib.hid (hW0 ▸ old1 (at0 w _) _)
  have R0 : Hid (W0.heap[w.heap.size + 1]? = some (.cells #[.int .i64 0, .slice none 0 0] 24 (0, 0))) := Lib.hid (hW0 ▸ at1 w _ _)
  have HZ0 : Hid (W0.heap.size = w.heap.size + 2) := Lib.hid (by rw [hW0, size_alloc, size_alloc])
  have HW0 := Lib.hid hW0
  have HS := Lib.hid (h.ext X0.out)
  have HFB : Hid (∀ V, Ext W0 V → ∀ b, OrB F w 2 b → b < V.heap.size) := Lib.hid fun V hV b hb => by
    have h1 := Below.size hV
    have h2 := HZ0.out
    rcases hb with hb | hb
    · have := hF b hb; omega
    · have := hb.2; omega
  have HK : Hid (∀ V, Ext W0 V → V.cell? ⟨w.heap.size, 0, none⟩ = some (.int .i64 n) ∧ V.cell? ⟨w.heap.size, 1, none⟩ = some (.slice ao L.length c)) := Lib.hid fun V hV => ⟨blk_cell (keepU B0.out hV) 0 rfl, blk_cell (keepU B0.out hV) 1 rfl⟩
  have RK : Hid (∀ V, Ext W0 V → V.heap[w.heap.size + 1]? = some (.cells #[.int .i64 0, .slice none 0 0] 24 (0, 0))) := Lib.hid fun V hV => keepU R0.out hV
  clear hW0
  have HWI : Hid (Calls Try.prog 44 #[.agg #[.int .i64 n, .slice ao L.length c], .func (.func 56) #[] #[]] W0 fun e w' => ∃ a2 m2 c2 b2 i2 j2, e = .returned (.tuple #[.agg #[.int .i64 n, .slice a2 m2 c2], .slice b2 i2 j2]) ∧ Nw HV (OrB F w 2) w' W0.heap.size (.slice a2 m2 c2) L ∧ Ext W0 w') := Lib.hid ((without_any (OrB F w 2) _ W0 n _ _ L (fun _ => false) HS.out (copied1_tells W0) hl hls (HFB.out _ (Ext.refl _))).mono fun e w' ⟨a2, m2, c2, b2, i2, j2, h1, h2, _, h4⟩ => ⟨a2, m2, c2, b2, i2, j2, h1, (List.filter_eq_self (l := L) (p := fun _ => !false)).2 (fun _ _ => rfl) ▸ h2, h4⟩)
  obtain ⟨k0, k1⟩ := HK.out W0 (Ext.refl _)
  clear h hls
  go_enter Try.func43, Try.ntmps43
  go_upto_region 1 with (fail)
  rw [← HW0.out]
  go_wp2_with (first
    | (go_at_call 44; refine (HWI.out).mono ?_; rintro e w2 ⟨a2, m2, c2, b2, i2, j2, rfl, n2, x2⟩; have N2 := Lib.hid n2; have X2 : Hid (Ext W0 w2) := Lib.hid x2; clear n2 x2 k0 k1)
    | refine haltst 24 ?_)
  refine .inl ?_
  refine st_l 24 (.tmp 1) (.tmp 6) w.heap.size 0 24 _ #[.int .i64 n, .slice a2 m2 c2] _ rfl rfl (keepU B0.out X2.out) (by kernel_rfl) (by simp) rfl rfl ?_
  intro W3 hW3 o3
  simp only [Act.put]
  have B3 := Lib.hid hW3
  have hz2 : w.heap.size + 2 ≤ w2.heap.size := by have := Below.size X2.out; have := HZ0.out; omega
  have R3 := Lib.hid (o3.blk (RK.out _ X2.out) (by omega))
  have N3 : Hid (Nw HV (OrB F w 2) W3 W0.heap.size (.slice a2 m2 c2) L) := Lib.hid (N2.out.off (o3.mono fun b hb => .inr ⟨by omega, by omega⟩) (fun b hb => o3.block b (N2.out.low b hb).2 (fun e => by have := (N2.out.low b hb).1; have := HZ0.out; omega)) (Grows.refl _ _))
  have X3 : Hid (Ext w W3) := Lib.hid (ext_off (X0.out.trans X2.out) o3 (fun b hb => by omega))
  clear hW3 o3
  obtain ⟨d0, d1⟩ : W3.cell? ⟨w.heap.size, 0, none⟩ = some (.int .i64 n) ∧ W3.cell? ⟨w.heap.size, 1, none⟩ = some (.slice a2 m2 c2) := ⟨blk_cell B3.out 0 rfl, blk_cell B3.out 1 rfl⟩
  go_wp2_with (first
    | refine haltst 24 ?_)
  refine .inl ?_
  refine st_l 24 (.tmp 2) (.tmp 8) (w.heap.size + 1) 0 24 _ #[.int .i64 n, .slice a2 m2 c2] _ rfl rfl R3.out (by kernel_rfl) (by simp) rfl rfl ?_
  intro W9 hW9 o9
  simp only [Act.put]
  go_wp2
  exact bodyPost_ret (v := .agg #[.int .i64 n, .slice a2 m2 c2]) (res_c rfl rfl hW9 uBook (by kernel_rfl)) rfl ⟨_, _, _, rfl, (N3.out.off (o9.mono fun b hb => .inr ⟨by omega, by omega⟩) (fun b hb => o9.block b (N3.out.low b hb).2 (fun e => by have := (N3.out.low b hb).1; have := HZ0.out; omega)) (fun b hb => .inl (.inl hb))).mono (by have := HZ0.out; omega), ext_off X3.out o9 (fun b hb => by omega)⟩

theorem ret_two {a b a' b' : Int} (h : a = a' ∧ b = b') : Ending.returned (.tuple #[.int .i64 a, .int .i64 b]) = .returned (.tuple #[.int .i64 a', .int .i64 b']) := by rw [h.1, h.2]
/-- where a session stands -/
theorem first_at {L : List Se} {id r : Int} (h : FirstH (fun _ (s : Se) => s.id == id) L r) : (r = -1 ∧ atH L id = none) ∨ ∃ (k : Nat) (s : Se), r = (k : Int) ∧ L[k]? = some s ∧ s.id = id ∧ atH L id = some k := by
  rcases h with ⟨e, h⟩ | ⟨k, s, e, hk, hp, hb⟩
  · refine .inl ⟨e, atH_none.2 fun s hs he => ?_⟩
    obtain ⟨j, hj, q⟩ := List.getElem_of_mem hs
    have := h j s (by rw [List.getElem?_eq_getElem hj, q])
    dsimp only at this
    rw [he] at this
    simp at this
  · refine .inr ⟨k, s, e, hk, by simpa using hp, findH_some hk (by simpa using hp) fun j t hj ht => ?_⟩
    have := hb j t hj ht
    simpa using this
set_option maxRecDepth 100000 in
set_option maxHeartbeats 8000000 in
theorem sessPoll_any (F : Nat → Prop) (w : World) (n id : Int) (v : Value) (L : List Se) (h : Ns HV F w v L) (hl : L.length ≤ 1000) :
    Calls Try.prog 15 #[.agg #[.int .i64 n, v], .int .i64 id] w fun e w' => e = .returned (.tuple #[.int .i64 (pollH (n, L) id).1, .int .i64 (pollH (n, L) id).2]) ∧ Ext w w' := by
  obtain ⟨ao, c, rfl⟩ := h.len
  obtain ⟨⟨p1, p2⟩, hp⟩ : ∃ r, pollH (n, L) id = r := ⟨_, rfl⟩
  rw [hp]
  dsimp only
  obtain ⟨W0, hW0⟩ : ∃ W0, W0 = w.alloc (.cells #[.int .i64 n, .slice ao L.length c] 24) := ⟨_, rfl⟩
  have X0 : Hid (Ext w W0) := Lib.hid (hW0 ▸ (Ext.refl w).alloc _)
  have B0 : Hid (W0.heap[w.heap.size]? = some (.cells #[.int .i64 n, .slice ao L.length c] 24 (0, 0))) := Lib.hid (hW0 ▸ at0 w _)
  have HW0 := Lib.hid hW0
  have HS := Lib.hid (h.ext X0.out)
  have HK : Hid (∀ V, Ext W0 V → V.cell? ⟨w.heap.size, 0, none⟩ = some (.int .i64 n) ∧ V.cell? ⟨w.heap.size, 1, none⟩ = some (.slice ao L.length c)) := Lib.hid fun V hV => ⟨blk_cell (keepU B0.out hV) 0 rfl, blk_cell (keepU B0.out hV) 1 rfl⟩
  obtain ⟨k0, k1⟩ := HK.out W0 (Ext.refl _)
  obtain ⟨t, ht⟩ : ∃ t, chkH (n, L) = t := ⟨_, rfl⟩
  have HCK := Lib.hid (sessCheck_any _ W0 n _ L HS.out hl t ht)
  clear h hW0
  cases t
  · have HR : Hid (0 = p1 ∧ 170 = p2) := Lib.hid (by unfold pollH at hp; rw [if_neg (by rw [ht]; exact Bool.false_ne_true)] at hp; cases hp; exact ⟨rfl, rfl⟩)
    have HCC : Hid (Calls Try.prog 20 #[.agg #[.int .i64 n, .slice ao L.length c]] W0 fun e w' => e = .returned (.int .i64 170) ∧ Ext W0 w') := HCK
    clear ht hp HCK
    go_enter Try.func15, Try.ntmps15
    go_upto_region 1 with (fail)
    rw [← HW0.out]
    go_wp2_with (first
      | (go_at_call 20; refine (HCC.out).mono ?_; rintro e w2 ⟨rfl, x2⟩; have X2 : Hid (Ext W0 w2) := Lib.hid x2; clear x2 k0 k1))
    go_ret2
    exact ⟨ret_two HR.out, X0.out.trans X2.out⟩
  have HCC : Hid (Calls Try.prog 20 #[.agg #[.int .i64 n, .slice ao L.length c]] W0 fun e w' => e = .returned (.int .i64 0) ∧ Ext W0 w') := HCK
  have HPO : Hid ((match atH L id with | none => ((0 : Int), (174 : Int)) | some k => match L[k]? with | none => (0, 174) | some s => (s.state, 0)) = (p1, p2)) := Lib.hid (by unfold pollH at hp; rw [if_pos ht] at hp; exact hp)
  clear ht hp HCK
  go_enter Try.func15, Try.ntmps15
  go_upto_region 1 with (fail)
  rw [← HW0.out]
  go_upto_region 4 with (first
    | (go_at_call 20; refine (HCC.out).mono ?_; rintro e w2 ⟨rfl, x2⟩; have X2 : Hid (Ext W0 w2) := Lib.hid x2; clear x2 k0 k1))
  (refine wp_region_X_lit (K := fun V => Ext W0 V) (by kernel_rfl) (fun w1 hw1 => ?_))
  have Y1 : Hid (Ext W0 w1) := Lib.hid (X2.out.trans hw1)
  have Z1 : Hid (Ext w2 w1) := Lib.hid hw1
  clear hw1
  refine xtv 0 (h := ?_)
  refine xtv 1 (hv := by intro w' hw'; obtain ⟨c0, c1⟩ := HK.out w' hw'; go_simp; first | done | with_reducible rfl) (h := ?_)
  refine xtv 2 (h := ?_)
  refine xone 3 (hk := Y1.out) (h := RunX.of 3 (h := ?_))
  go_simp
  refine (of_any w1 id).mono ?_
  rintro e3 w3 ⟨g, lb, rfl, ht, x3⟩
  have HTE := Lib.hid ht
  have Y3 : Hid (Ext W0 w3) := Lib.hid (Y1.out.trans x3)
  clear ht x3
  dsimp only
  (try (simp only [Act.put, List.setIfInBounds_toArray, List.set]))
  refine xone 4 (hk := Y3.out) (h := RunX.of 4 (h := ?_))
  go_simp
  refine (indexFunc_tells w3 _ _ L _ (ns_non (HS.out.ext Y3.out)) HTE.out).mono ?_
  rintro e4 w4 ⟨r, rfl, hr, x4⟩
  have HR := Lib.hid hr
  have Y4 : Hid (Ext W0 w4) := Lib.hid (Y3.out.trans x4)
  clear hr x4
  dsimp only
  (try (simp only [Act.put, List.setIfInBounds_toArray, List.set]))
  refine xtv 5 (h := ?_)
  (refine xdone (by kernel_rfl) (Y4.out) ?_)
  rcases first_at HR.out with ⟨rfl, hat⟩ | ⟨k, s, rfl, hk, hid, hat⟩
  · have HE : Hid (0 = p1 ∧ 174 = p2) := Lib.hid (by have := HPO.out; rw [hat] at this; cases this; exact ⟨rfl, rfl⟩)
    clear hat
    go_wp2
    go_ret2
    exact ⟨ret_two HE.out, X0.out.trans Y4.out⟩
  · have HE : Hid (s.state = p1 ∧ 0 = p2) := Lib.hid (by have := HPO.out; rw [hat] at this; dsimp only at this; rw [hk] at this; cases this; exact ⟨rfl, rfl⟩)
    have hkl := (List.getElem?_eq_some_iff.1 hk).1
    obtain ⟨b1, off, so, sc, s', hsj, rfl, hn, hnc, hc63, hb, hsn, hcs⟩ := HS.out.sessAt hkl
    obtain rfl : s = s' := by rw [hk] at hsj; exact Option.some.inj hsj
    obtain ⟨⟨x0, x1⟩, x2, x3⟩ := hcs w4 Y4.out
    obtain ⟨d0, d1⟩ := HK.out w4 Y4.out
    have hk0 : (0 : Int) ≤ (k : Int) := by omega
    have hk1 : (k : Int) < (L.length : Int) := by omega
    obtain ⟨y0, y1, y2, y3⟩ := s
    dsimp only at x0 x1 x2 x3 HE
    clear hat hk hid hcs hsj hn hsn
    go_wp2
    go_ret2
    exact ⟨ret_two HE.out, X0.out.trans Y4.out⟩
end Go.Proofs.Ytgcnjkabpcbkgaa
