/- Texts of this seat. -/
import Derived.Test.YtfbambemjokmgaaGreatNAQ
namespace Go.Proofs.YtfbambemjokmgaaGreat
open Go.RowKit
def withR (x : Sd) (k n : Int) : Sd × Int := if n ≠ 0 ∨ (k ≠ 1 ∧ k ≠ 2) then (Sd.zero, 133) else if (k = 1 ∧ x.fork = true) ∨ (k = 2 ∧ x.token = true) then (Sd.zero, 132) else if k = 1 then ({ x with fork := true }, 0) else ({ x with token := true }, 0)
def findS (q : Sd → Bool) : List Sd → Option (Nat × Sd)
  | [] => none
  | s :: L => if q s = true then some (0, s) else (findS q L).map fun x => (x.1 + 1, x.2)
theorem findS_none {q : Sd → Bool} : ∀ {L : List Sd}, (∀ (k : Nat) (s : Sd), L[k]? = some s → q s = false) → findS q L = none
  | [], _ => rfl
  | s :: L, h => by
    have h0 : q s = false := h 0 s rfl
    unfold findS
    rw [h0, findS_none (L := L) fun k u hk => h (k + 1) u hk]; rfl
theorem findS_some {q : Sd → Bool} : ∀ {L : List Sd} {k : Nat} {s : Sd}, L[k]? = some s → q s = true → (∀ (j : Nat) (u : Sd), j < k → L[j]? = some u → q u = false) → findS q L = some (k, s)
  | [], _, _, h, _, _ => by simp at h
  | t :: L, 0, s, h, hq, _ => by
    obtain rfl : t = s := by simpa using h
    unfold findS
    rw [if_pos hq]
  | t :: L, k + 1, s, h, hq, hn => by
    have h0 : q t = false := hn 0 t (by omega) rfl
    unfold findS
    rw [h0, findS_some (L := L) (k := k) (s := s) h hq fun j u hj hu => hn (j + 1) u (by omega) hu]; rfl
def getR (d : Dn) (p k me n : Int) : Dn × Int := if dnOk d = true then (match findS (fun s => s.peer == p && s.epoch == me) d.sides with
  | none => (noD, 131)
  | some (i, s) => if (withR s k n).2 = 0 then (⟨d.id, d.phase, d.sides.set i (withR s k n).1⟩, 0) else (noD, (withR s k n).2)) else (noD, 130)
theorem cells3U {w : World} {g : Nat} {u0 u1 u2 : Value} {t : TypeId} (h : w.heap[g]? = some (.cells #[u0, u1, u2] t (0, 0))) :
    w.cell? ⟨g, 0, none⟩ = some u0 ∧ w.cell? ⟨g, 1, none⟩ = some u1 ∧ w.cell? ⟨g, 2, none⟩ = some u2 := ⟨blk_cell h 0 rfl, blk_cell h 1 rfl, blk_cell h 2 rfl⟩
set_option maxRecDepth 100000 in
set_option maxHeartbeats 4000000 in
theorem with_any (w : World) (x : Sd) (k me n : Int) : Calls Tryz.prog 164 #[.agg x.cs, .agg #[.int .i64 k, .int .i64 me, .int .i64 n]] w fun e w' => e = .returned (.tuple #[.agg (withR x k n).1.cs, .int .i64 (withR x k n).2]) ∧ Ext w w' := by
  obtain ⟨y0, y1, y2, y3, y4, y5, y6, y7⟩ := x
  obtain ⟨⟨⟨z0, z1, z2, z3, z4, z5, z6, z7⟩, er⟩, hr⟩ : ∃ r, withR ⟨y0, y1, y2, y3, y4, y5, y6, y7⟩ k n = r := ⟨_, rfl⟩
  rw [hr]
  have HR := Lib.hid hr
  clear hr
  unfold Sd.cs
  dsimp only
  obtain ⟨W0, hW0⟩ : ∃ W0, W0 = ((w.alloc (.cells #[.int .i64 y0, .int .i64 y1, .int .i64 y2, .bool y3, .bool y4, .bool y5, .bool y6, .bool y7] 66)).alloc (.cells #[.int .i64 k, .int .i64 me, .int .i64 n] 93)).alloc (.cells #[.int .i64 0, .int .i64 0, .int .i64 0, .bool false, .bool false, .bool false, .bool false, .bool false] 66) := ⟨_, rfl⟩
  have X0 : Hid (Ext w W0) := Lib.hid (hW0 ▸ (((Ext.refl w).alloc _).alloc _).alloc _)
  have D0 : Hid (W0.heap[w.heap.size]? = some (.cells #[.int .i64 y0, .int .i64 y1, .int .i64 y2, .bool y3, .bool y4, .bool y5, .bool y6, .bool y7] 66 (0, 0))) := Lib.hid (hW0 ▸ old1 (old1 (at0 w _) _) _)
  have M0 : Hid (W0.heap[w.heap.size + 1]? = some (.cells #[.int .i64 k, .int .i64 me, .int .i64 n] 93 (0, 0))) := Lib.hid (hW0 ▸ old1 (at1 w _ _) _)
  have R0 : Hid (W0.heap[w.heap.size + 2]? = some (.cells #[.int .i64 0, .int .i64 0, .int .i64 0, .bool false, .bool false, .bool false, .bool false, .bool false] 66 (0, 0))) := Lib.hid (hW0 ▸ at2 w _ _ _)
  have HW0 := Lib.hid hW0
  clear hW0
  obtain ⟨m0, m1, m2⟩ := cells3U M0.out
  obtain ⟨⟨⟨x0, x1⟩, x2, x3⟩, ⟨x4, x5⟩, x6, x7⟩ := cells8U D0.out
  have f3 := blk_free D0.out 3
  have f5 := blk_free D0.out 5
  by_cases hn : n = 0
  · by_cases h1 : k = 1
    · subst hn h1
      cases y3
      · have HF : Hid ((y0 = z0 ∧ y1 = z1 ∧ y2 = z2 ∧ true = z3 ∧ y4 = z4 ∧ y5 = z5 ∧ y6 = z6 ∧ y7 = z7) ∧ (0 : Int) = er) := Lib.hid (by have h := HR.out; unfold withR at h; simp [] at h; simpa [eq_comm, and_assoc] using h)
        clear HR
        obtain ⟨⟨rfl, rfl, rfl, rfl, rfl, rfl, rfl, rfl⟩, rfl⟩ := HF.out
        go_enter Tryz.func164, Tryz.ntmps164
        go_upto_region 2 with (fail)
        rw [← HW0.out]
        go_upto_region 8 with (fail)
        obtain ⟨W3, hW3⟩ : ∃ W3, W3 = W0.setCell ⟨w.heap.size, 3, none⟩ (.bool true) := ⟨_, rfl⟩
        have D3 : Hid (W3.heap[w.heap.size]? = some (.cells #[.int .i64 y0, .int .i64 y1, .int .i64 y2, .bool true, .bool y4, .bool y5, .bool y6, .bool y7] 66 (0, 0))) := Lib.hid (by rw [hW3, blk_set D0.out]; rfl)
        have R3 : Hid (W3.heap[w.heap.size + 2]? = some (.cells #[.int .i64 0, .int .i64 0, .int .i64 0, .bool false, .bool false, .bool false, .bool false, .bool false] 66 (0, 0))) := Lib.hid (by rw [hW3, set_other _ _ _ _ (by show w.heap.size + 2 ≠ w.heap.size; omega)]; exact R0.out)
        have X3 : Hid (Ext w W3) := Lib.hid (hW3 ▸ below_set X0.out (Nat.le_refl _) _)
        rw [← hW3]
        clear hW3 x0 x1 x2 x3 x4 x5 x6 x7 f3 f5 m0 m1 m2
        obtain ⟨⟨⟨x0, x1⟩, x2, x3⟩, ⟨x4, x5⟩, x6, x7⟩ := cells8U D3.out
        go_wp2_with (first | refine haltst 66 ?_)
        refine .inl ?_
        refine st_l 66 (.tmp 4) (.tmp 45) (w.heap.size + 2) 0 66 #[.int .i64 0, .int .i64 0, .int .i64 0, .bool false, .bool false, .bool false, .bool false, .bool false] #[.int .i64 y0, .int .i64 y1, .int .i64 y2, .bool true, .bool y4, .bool y5, .bool y6, .bool y7] #[.int .i64 y0, .int .i64 y1, .int .i64 y2, .bool true, .bool y4, .bool y5, .bool y6, .bool y7] rfl rfl R3.out (by kernel_rfl) (by simp) rfl rfl ?_
        intro W9 hW9 o9
        simp only [Act.put]
        go_wp2
        exact bodyPost_ret (v := .tuple #[.agg #[.int .i64 y0, .int .i64 y1, .int .i64 y2, .bool true, .bool y4, .bool y5, .bool y6, .bool y7], .int .i64 0]) (res_ct 5 rfl rfl hW9 uSide (by kernel_rfl)) rfl ⟨rfl, ext_off X3.out o9 (fun b hb => by omega)⟩
      · have HF : Hid (((0 : Int) = z0 ∧ (0 : Int) = z1 ∧ (0 : Int) = z2 ∧ false = z3 ∧ false = z4 ∧ false = z5 ∧ false = z6 ∧ false = z7) ∧ (132 : Int) = er) := Lib.hid (by have h := HR.out; unfold withR at h; simp [Sd.zero] at h; simpa [eq_comm, and_assoc] using h)
        clear HR
        obtain ⟨⟨rfl, rfl, rfl, rfl, rfl, rfl, rfl, rfl⟩, rfl⟩ := HF.out
        go_enter Tryz.func164, Tryz.ntmps164
        go_upto_region 2 with (fail)
        rw [← HW0.out]
        go_upto_region 5 with (fail)
        go_wp2_with (first | refine haltst 66 ?_)
        refine .inl ?_
        refine st_l 66 (.tmp 4) (.tmp 39) (w.heap.size + 2) 0 66 #[.int .i64 0, .int .i64 0, .int .i64 0, .bool false, .bool false, .bool false, .bool false, .bool false] #[.int .i64 0, .int .i64 0, .int .i64 0, .bool false, .bool false, .bool false, .bool false, .bool false] #[.int .i64 0, .int .i64 0, .int .i64 0, .bool false, .bool false, .bool false, .bool false, .bool false] rfl rfl R0.out (by kernel_rfl) (by simp) rfl rfl ?_
        intro W9 hW9 o9
        simp only [Act.put]
        go_wp2
        exact bodyPost_ret (v := .tuple #[.agg #[.int .i64 0, .int .i64 0, .int .i64 0, .bool false, .bool false, .bool false, .bool false, .bool false], .int .i64 132]) (res_ct 5 rfl rfl hW9 uSide (by kernel_rfl)) rfl ⟨rfl, ext_off X0.out o9 (fun b hb => by omega)⟩
    · by_cases h2 : k = 2
      · subst hn h2
        cases y5
        · have HF : Hid ((y0 = z0 ∧ y1 = z1 ∧ y2 = z2 ∧ y3 = z3 ∧ y4 = z4 ∧ true = z5 ∧ y6 = z6 ∧ y7 = z7) ∧ (0 : Int) = er) := Lib.hid (by have h := HR.out; unfold withR at h; simp [] at h; simpa [eq_comm, and_assoc] using h)
          clear HR h1
          obtain ⟨⟨rfl, rfl, rfl, rfl, rfl, rfl, rfl, rfl⟩, rfl⟩ := HF.out
          go_enter Tryz.func164, Tryz.ntmps164
          go_upto_region 2 with (fail)
          rw [← HW0.out]
          go_upto_region 8 with (fail)
          obtain ⟨W3, hW3⟩ : ∃ W3, W3 = W0.setCell ⟨w.heap.size, 5, none⟩ (.bool true) := ⟨_, rfl⟩
          have D3 : Hid (W3.heap[w.heap.size]? = some (.cells #[.int .i64 y0, .int .i64 y1, .int .i64 y2, .bool y3, .bool y4, .bool true, .bool y6, .bool y7] 66 (0, 0))) := Lib.hid (by rw [hW3, blk_set D0.out]; rfl)
          have R3 : Hid (W3.heap[w.heap.size + 2]? = some (.cells #[.int .i64 0, .int .i64 0, .int .i64 0, .bool false, .bool false, .bool false, .bool false, .bool false] 66 (0, 0))) := Lib.hid (by rw [hW3, set_other _ _ _ _ (by show w.heap.size + 2 ≠ w.heap.size; omega)]; exact R0.out)
          have X3 : Hid (Ext w W3) := Lib.hid (hW3 ▸ below_set X0.out (Nat.le_refl _) _)
          rw [← hW3]
          clear hW3 x0 x1 x2 x3 x4 x5 x6 x7 f3 f5 m0 m1 m2
          obtain ⟨⟨⟨x0, x1⟩, x2, x3⟩, ⟨x4, x5⟩, x6, x7⟩ := cells8U D3.out
          go_wp2_with (first | refine haltst 66 ?_)
          refine .inl ?_
          refine st_l 66 (.tmp 4) (.tmp 45) (w.heap.size + 2) 0 66 #[.int .i64 0, .int .i64 0, .int .i64 0, .bool false, .bool false, .bool false, .bool false, .bool false] #[.int .i64 y0, .int .i64 y1, .int .i64 y2, .bool y3, .bool y4, .bool true, .bool y6, .bool y7] #[.int .i64 y0, .int .i64 y1, .int .i64 y2, .bool y3, .bool y4, .bool true, .bool y6, .bool y7] rfl rfl R3.out (by kernel_rfl) (by simp) rfl rfl ?_
          intro W9 hW9 o9
          simp only [Act.put]
          go_wp2
          exact bodyPost_ret (v := .tuple #[.agg #[.int .i64 y0, .int .i64 y1, .int .i64 y2, .bool y3, .bool y4, .bool true, .bool y6, .bool y7], .int .i64 0]) (res_ct 5 rfl rfl hW9 uSide (by kernel_rfl)) rfl ⟨rfl, ext_off X3.out o9 (fun b hb => by omega)⟩
        · have HF : Hid (((0 : Int) = z0 ∧ (0 : Int) = z1 ∧ (0 : Int) = z2 ∧ false = z3 ∧ false = z4 ∧ false = z5 ∧ false = z6 ∧ false = z7) ∧ (132 : Int) = er) := Lib.hid (by have h := HR.out; unfold withR at h; simp [Sd.zero] at h; simpa [eq_comm, and_assoc] using h)
          clear HR h1
          obtain ⟨⟨rfl, rfl, rfl, rfl, rfl, rfl, rfl, rfl⟩, rfl⟩ := HF.out
          go_enter Tryz.func164, Tryz.ntmps164
          go_upto_region 2 with (fail)
          rw [← HW0.out]
          go_upto_region 5 with (fail)
          go_wp2_with (first | refine haltst 66 ?_)
          refine .inl ?_
          refine st_l 66 (.tmp 4) (.tmp 39) (w.heap.size + 2) 0 66 #[.int .i64 0, .int .i64 0, .int .i64 0, .bool false, .bool false, .bool false, .bool false, .bool false] #[.int .i64 0, .int .i64 0, .int .i64 0, .bool false, .bool false, .bool false, .bool false, .bool false] #[.int .i64 0, .int .i64 0, .int .i64 0, .bool false, .bool false, .bool false, .bool false, .bool false] rfl rfl R0.out (by kernel_rfl) (by simp) rfl rfl ?_
          intro W9 hW9 o9
          simp only [Act.put]
          go_wp2
          exact bodyPost_ret (v := .tuple #[.agg #[.int .i64 0, .int .i64 0, .int .i64 0, .bool false, .bool false, .bool false, .bool false, .bool false], .int .i64 132]) (res_ct 5 rfl rfl hW9 uSide (by kernel_rfl)) rfl ⟨rfl, ext_off X0.out o9 (fun b hb => by omega)⟩
      · have HF : Hid (((0 : Int) = z0 ∧ (0 : Int) = z1 ∧ (0 : Int) = z2 ∧ false = z3 ∧ false = z4 ∧ false = z5 ∧ false = z6 ∧ false = z7) ∧ (133 : Int) = er) := Lib.hid (by have h := HR.out; unfold withR at h; simp [h1, h2, Sd.zero] at h; simpa [eq_comm, and_assoc] using h)
        have t1 : (k != 1) = true := by simp [h1]
        have t2 : (k != 2) = true := by simp [h2]
        subst hn
        clear HR h1 h2
        obtain ⟨⟨rfl, rfl, rfl, rfl, rfl, rfl, rfl, rfl⟩, rfl⟩ := HF.out
        go_enter Tryz.func164, Tryz.ntmps164
        go_upto_region 2 with (fail)
        rw [← HW0.out]
        go_upto_region 3 with (fail)
        go_wp2_with (first | refine haltst 66 ?_)
        refine .inl ?_
        refine st_l 66 (.tmp 4) (.tmp 21) (w.heap.size + 2) 0 66 #[.int .i64 0, .int .i64 0, .int .i64 0, .bool false, .bool false, .bool false, .bool false, .bool false] #[.int .i64 0, .int .i64 0, .int .i64 0, .bool false, .bool false, .bool false, .bool false, .bool false] #[.int .i64 0, .int .i64 0, .int .i64 0, .bool false, .bool false, .bool false, .bool false, .bool false] rfl rfl R0.out (by kernel_rfl) (by simp) rfl rfl ?_
        intro W9 hW9 o9
        simp only [Act.put]
        go_wp2
        exact bodyPost_ret (v := .tuple #[.agg #[.int .i64 0, .int .i64 0, .int .i64 0, .bool false, .bool false, .bool false, .bool false, .bool false], .int .i64 133]) (res_ct 5 rfl rfl hW9 uSide (by kernel_rfl)) rfl ⟨rfl, ext_off X0.out o9 (fun b hb => by omega)⟩
  · have HF : Hid (((0 : Int) = z0 ∧ (0 : Int) = z1 ∧ (0 : Int) = z2 ∧ false = z3 ∧ false = z4 ∧ false = z5 ∧ false = z6 ∧ false = z7) ∧ (133 : Int) = er) := Lib.hid (by have h := HR.out; unfold withR at h; simp [hn, Sd.zero] at h; simpa [eq_comm, and_assoc] using h)
    have t0 : (n != 0) = true := by simp [hn]
    clear HR hn
    obtain ⟨⟨rfl, rfl, rfl, rfl, rfl, rfl, rfl, rfl⟩, rfl⟩ := HF.out
    go_enter Tryz.func164, Tryz.ntmps164
    go_upto_region 2 with (fail)
    rw [← HW0.out]
    go_upto_region 3 with (fail)
    go_wp2_with (first | refine haltst 66 ?_)
    refine .inl ?_
    refine st_l 66 (.tmp 4) (.tmp 21) (w.heap.size + 2) 0 66 #[.int .i64 0, .int .i64 0, .int .i64 0, .bool false, .bool false, .bool false, .bool false, .bool false] #[.int .i64 0, .int .i64 0, .int .i64 0, .bool false, .bool false, .bool false, .bool false, .bool false] #[.int .i64 0, .int .i64 0, .int .i64 0, .bool false, .bool false, .bool false, .bool false, .bool false] rfl rfl R0.out (by kernel_rfl) (by simp) rfl rfl ?_
    intro W9 hW9 o9
    simp only [Act.put]
    go_wp2
    exact bodyPost_ret (v := .tuple #[.agg #[.int .i64 0, .int .i64 0, .int .i64 0, .bool false, .bool false, .bool false, .bool false, .bool false], .int .i64 133]) (res_ct 5 rfl rfl hW9 uSide (by kernel_rfl)) rfl ⟨rfl, ext_off X0.out o9 (fun b hb => by omega)⟩
end Go.Proofs.YtfbambemjokmgaaGreat
namespace Go.Proofs.YtfbambemjokmgaaGreat
open Go.RowKit
set_option maxRecDepth 100000 in
set_option maxHeartbeats 2000000 in
theorem meant_one (W : World) (g1 g2 : Nat) (p k me n : Int) (s : Sd) (h1 : W.heap[g1]? = some (.cells #[.int .i64 p] 3 (0, 0))) (h2 : W.heap[g2]? = some (.cells #[.int .i64 k, .int .i64 me, .int .i64 n] 93 (0, 0))) (t : Bool) (ht : (s.peer == p && s.epoch == me) = t) :
    Calls Tryz.prog 163 #[.agg s.cs, .pointer (some ⟨g1, 0, none⟩), .pointer (some ⟨g2, 0, none⟩)] W fun e W' => e = .returned (.bool t) ∧ Ext W W' := by
  obtain ⟨y0, y1, y2, y3, y4, y5, y6, y7⟩ := s
  unfold Sd.cs
  dsimp only at ht ⊢
  obtain ⟨W1, hW1⟩ : ∃ W1, W1 = W.alloc (.cells #[.int .i64 y0, .int .i64 y1, .int .i64 y2, .bool y3, .bool y4, .bool y5, .bool y6, .bool y7] 66) := ⟨_, rfl⟩
  have X1 : Hid (Ext W W1) := Lib.hid (hW1 ▸ (Ext.refl W).alloc _)
  have d1 : W1.heap[W.heap.size]? = some (.cells #[.int .i64 y0, .int .i64 y1, .int .i64 y2, .bool y3, .bool y4, .bool y5, .bool y6, .bool y7] 66 (0, 0)) := hW1 ▸ at0 W _
  have HW1 := Lib.hid hW1
  have x0 := blk_cell d1 0 rfl
  have x1 := blk_cell d1 1 rfl
  have k1 := blk_cell (keepU h1 X1.out) 0 rfl
  have k2 := blk_cell (keepU h2 X1.out) 1 rfl
  have HT := Lib.hid ht
  clear ht h1 h2 hW1 d1
  by_cases e1 : y0 = p
  · have t1 : (y0 == p) = true := by simp [e1]
    by_cases e2 : y1 = me
    · have t2 : (y1 == me) = true := by simp [e2]
      have HF : Hid (true = t) := Lib.hid (by rw [← HT.out, t1, t2]; rfl)
      clear e1 e2 HT
      go_enter Tryz.func163, Tryz.ntmps163
      go_upto_region 1 with (fail)
      rw [← HW1.out]
      go_wp2
      go_ret
      exact ⟨ret_bool HF.out, X1.out⟩
    · have t2 : (y1 == me) = false := by simp [e2]
      have HF : Hid (false = t) := Lib.hid (by rw [← HT.out, t1, t2]; rfl)
      clear e1 e2 HT
      go_enter Tryz.func163, Tryz.ntmps163
      go_upto_region 1 with (fail)
      rw [← HW1.out]
      go_wp2
      go_ret
      exact ⟨ret_bool HF.out, X1.out⟩
  · have t1 : (y0 == p) = false := by simp [e1]
    have HF : Hid (false = t) := Lib.hid (by rw [← HT.out, t1]; rfl)
    clear e1 HT
    go_enter Tryz.func163, Tryz.ntmps163
    go_upto_region 1 with (fail)
    rw [← HW1.out]
    go_wp2
    go_ret
    exact ⟨ret_bool HF.out, X1.out⟩
theorem index_meant (w : World) (v : Value) (L : List Sd) (g1 g2 : Nat) (p k me n : Int) (h : Sl w v L) (h1 : w.heap[g1]? = some (.cells #[.int .i64 p] 3 (0, 0))) (h2 : w.heap[g2]? = some (.cells #[.int .i64 k, .int .i64 me, .int .i64 n] 93 (0, 0))) :
    Calls Tryz.prog 162 #[v, .func (.func 163) #[] #[.pointer (some ⟨g1, 0, none⟩), .pointer (some ⟨g2, 0, none⟩)]] w fun e w' => ∃ r : Int, e = .returned (.int .i64 r) ∧ ((r = -1 ∧ findS (fun s => s.peer == p && s.epoch == me) L = none) ∨ ∃ (i : Nat) (s : Sd), r = (i : Int) ∧ L[i]? = some s ∧ findS (fun s => s.peer == p && s.epoch == me) L = some (i, s)) ∧ Ext w w' := by
  refine (indexFunc_sd w v L 163 #[.pointer (some ⟨g1, 0, none⟩), .pointer (some ⟨g2, 0, none⟩)] (fun _ V => Ext w V) (fun _ s => s.peer == p && s.epoch == me) (enters_of Tryz.func163 (by kernel_rfl) rfl) (fun _ W hW => h.ext hW) ?_ (Ext.refl w)).mono ?_
  · intro i s W hi hW
    refine (meant_one W g1 g2 p k me n s (keepU h1 hW) (keepU h2 hW) _ rfl).mono ?_
    rintro e W' ⟨rfl, hx⟩
    exact ⟨rfl, Ext.trans hW hx⟩
  · rintro e w' ⟨r, rfl, hr, i, hx⟩
    refine ⟨r, rfl, ?_, hx⟩
    rcases hr with ⟨e, hn⟩ | ⟨i, s, e, hs, hq, hn⟩
    · exact .inl ⟨e, findS_none hn⟩
    · exact .inr ⟨i, s, e, hs, findS_some hs hq hn⟩
set_option maxRecDepth 100000 in
set_option maxHeartbeats 8000000 in
theorem get_any (w : World) (id ph p k me n : Int) (v : Value) (L : List Sd) (h : Sl w v L) (hl : L.length ≤ 1000) :
    Calls Tryz.prog 135 #[.agg #[.int .i64 id, .int .i64 ph, v], .int .i64 p, .agg #[.int .i64 k, .int .i64 me, .int .i64 n]] w (GivesE w (getR ⟨id, ph, L⟩ p k me n)) := by
  obtain ⟨ao, c, rfl⟩ := h.len
  have hmf : ∀ (fn : Fn) (first cap : Array Value) (w : World), (Instr.makeFunc fn first cap).run Tryz.prog w = .ok (.func fn first cap) w := fun _ _ _ _ => rfl
  have hlen := h.length_le
  obtain ⟨W0, hW0⟩ : ∃ W0, W0 = (((w.alloc (.cells #[.int .i64 id, .int .i64 ph, .slice ao L.length c] 61)).alloc (.cells #[.int .i64 p] 3)).alloc (.cells #[.int .i64 k, .int .i64 me, .int .i64 n] 93)).alloc (.cells #[.int .i64 0, .int .i64 0, .slice none 0 0] 61) := ⟨_, rfl⟩
  have X0 : Hid (Ext w W0) := Lib.hid (hW0 ▸ ((((Ext.refl w).alloc _).alloc _).alloc _).alloc _)
  have D0 : Hid (W0.heap[w.heap.size]? = some (.cells #[.int .i64 id, .int .i64 ph, .slice ao L.length c] 61 (0, 0))) := Lib.hid (hW0 ▸ old1 (old1 (old1 (at0 w _) _) _) _)
  have P0 : Hid (W0.heap[w.heap.size + 1]? = some (.cells #[.int .i64 p] 3 (0, 0))) := Lib.hid (hW0 ▸ old1 (old1 (at1 w _ _) _) _)
  have M0 : Hid (W0.heap[w.heap.size + 2]? = some (.cells #[.int .i64 k, .int .i64 me, .int .i64 n] 93 (0, 0))) := Lib.hid (hW0 ▸ old1 (at2 w _ _ _) _)
  have R0 : Hid (W0.heap[w.heap.size + 3]? = some (.cells #[.int .i64 0, .int .i64 0, .slice none 0 0] 61 (0, 0))) := Lib.hid (hW0 ▸ at3 w _ _ _ _)
  have hs0 : W0.heap.size = w.heap.size + 4 := by rw [hW0, size_alloc, size_alloc, size_alloc, size_alloc]
  have HW0 := Lib.hid hW0
  have HS := Lib.hid (h.ext X0.out)
  clear h hW0
  obtain ⟨d0, d1, d2⟩ := cells3U D0.out
  obtain ⟨t, ht⟩ : ∃ t, dnOk ⟨id, ph, L⟩ = t := ⟨_, rfl⟩
  have HT := Lib.hid ht
  clear ht
  go_enter Tryz.func135, Tryz.ntmps135
  go_upto_region 1 with (fail)
  rw [← HW0.out]
  cases t
  · have HR : Hid (getR ⟨id, ph, L⟩ p k me n = (noD, 130)) := Lib.hid (by unfold getR; rw [HT.out]; rfl)
    go_upto_region 3 with (first
      | (go_at_call 103; refine (dCheck_any W0 id ph _ L HS.out false HT.out).mono ?_; rintro e w1 ⟨rfl, hx⟩; dsimp only [cond]; have X1 := Lib.hid hx; clear hx))
    go_wp2_with (first | refine haltst 61 ?_)
    refine .inl ?_
    refine st_l 61 (.tmp 6) (.tmp 17) (w.heap.size + 3) 0 61 #[.int .i64 0, .int .i64 0, .slice none 0 0] #[.int .i64 0, .int .i64 0, .slice none 0 0] #[.int .i64 0, .int .i64 0, .slice none 0 0] rfl rfl (keepU R0.out X1.out) (by kernel_rfl) (by simp) rfl rfl ?_
    intro W9 hW9 o9
    simp only [Act.put]
    go_wp2
    exact bodyPost_ret (v := .tuple #[.agg #[.int .i64 0, .int .i64 0, .slice none 0 0], .int .i64 130]) (res_ct 7 rfl rfl hW9 uDiner (by kernel_rfl)) rfl (givesNo HR.out (ext_off (X0.out.trans X1.out) o9 (fun b hb => by omega)))
  · go_upto_region 4 with (first
      | (go_at_call 103; refine (dCheck_any W0 id ph _ L HS.out true HT.out).mono ?_; rintro e w1 ⟨rfl, hx⟩; dsimp only [cond]; have X1 := Lib.hid hx; clear hx))
    clear d0 d1 d2
    obtain ⟨d0, d1, d2⟩ := cells3U (keepU D0.out X1.out)
    go_upto_region 6 with (first
      | (go_at_call 162; refine (index_meant w1 _ L (w.heap.size + 1) (w.heap.size + 2) p k me n (HS.out.ext X1.out) (keepU P0.out X1.out) (keepU M0.out X1.out)).mono ?_; rintro e w2 ⟨r, rfl, hr, hx⟩; have X2 := Lib.hid (X1.out.trans hx); have HRR := Lib.hid hr; clear hx hr))
    clear d0 d1 d2
    obtain ⟨d0, d1, d2⟩ := cells3U (keepU D0.out X2.out)
    rcases HRR.out with ⟨rfl, hf⟩ | ⟨i, s, rfl, hsi, hf⟩
    · have HR : Hid (getR ⟨id, ph, L⟩ p k me n = (noD, 131)) := Lib.hid (by unfold getR; rw [HT.out, if_pos rfl]; dsimp only; rw [hf])
      clear hf HRR
      go_upto_region 7 with (fail)
      go_wp2_with (first | refine haltst 61 ?_)
      refine .inl ?_
      refine st_l 61 (.tmp 6) (.tmp 26) (w.heap.size + 3) 0 61 #[.int .i64 0, .int .i64 0, .slice none 0 0] #[.int .i64 0, .int .i64 0, .slice none 0 0] #[.int .i64 0, .int .i64 0, .slice none 0 0] rfl rfl (keepU R0.out X2.out) (by kernel_rfl) (by simp) rfl rfl ?_
      intro W9 hW9 o9
      simp only [Act.put]
      go_wp2
      exact bodyPost_ret (v := .tuple #[.agg #[.int .i64 0, .int .i64 0, .slice none 0 0], .int .i64 131]) (res_ct 7 rfl rfl hW9 uDiner (by kernel_rfl)) rfl (givesNo HR.out (ext_off (X0.out.trans X2.out) o9 (fun b hb => by omega)))
    · have hlt : i < L.length := (List.getElem?_eq_some_iff.1 hsi).1
      have ho1 : ¬ ((i : Int) < 0) := by omega
      obtain ⟨⟨s', er⟩, hwr⟩ : ∃ r, withR s k n = r := ⟨_, rfl⟩
      have HWI := Lib.hid (fun W => hwr ▸ with_any W s k me n)
      have HRR2 : Hid (getR ⟨id, ph, L⟩ p k me n = if er = 0 then (⟨id, ph, L.set i s'⟩, 0) else (noD, er)) := Lib.hid (by unfold getR; rw [HT.out, if_pos rfl]; dsimp only; rw [hf]; dsimp only; rw [hwr])
      clear hf HRR hwr
      obtain ⟨b1, off, s2, hsy, hsj, rfl, hn1, hnc, hc63, hb, hcs⟩ := HS.out.sidesAt hlt
      obtain rfl : s2 = s := by have := hsj.symm.trans hsi; simpa using this
      have HCS := Lib.hid hcs
      clear hsy hsj hsi hcs hn1
      obtain ⟨y0, y1, y2, y3, y4, y5, y6, y7⟩ := s2
      obtain ⟨u0, u1, u2, u3, u4, u5, u6, u7⟩ := s'
      unfold Sd.cs at HWI
      dsimp only at HCS HWI
      go_upto_region 8 with (fail)
      go_cut [11, 12] (fun s11 s12 wx => ∃ g, s11 = .pointer (some ⟨g, 0, none⟩) ∧ s12 = .int .i64 er ∧ Hid (wx.heap[g]? = some (.cells #[.int .i64 u0, .int .i64 u1, .int .i64 u2, .bool u3, .bool u4, .bool u5, .bool u6, .bool u7] 66 (0, 0))) ∧ Hid (Ext W0 wx) ∧ W0.heap.size ≤ g)
      case first =>
        (refine wp_region_X_lit (K := fun V => Ext W0 V) (by kernel_rfl) (fun w1 hw1 => ?_))
        have HV1 : Hid (Ext W0 w1) := Lib.hid (X2.out.trans hw1)
        clear hw1
        refine xtv 0 (h := ?_)
        refine xtv 1 (hv := by intro w' hw'; have q2 := blk_cell (keepU D0.out hw') 2 rfl; go_simp; first | done | with_reducible rfl) (h := ?_)
        refine xtv 2 (h := ?_)
        refine xtv 3 (h := ?_)
        refine xtv 4 (hv := by intro w' hw'; obtain ⟨⟨⟨x0, x1⟩, x2, x3⟩, ⟨x4, x5⟩, x6, x7⟩ := HCS.out w' hw'; go_simp; first | done | with_reducible rfl) (h := ?_)
        refine xtv 5 (hv := by intro w' hw'; obtain ⟨m0, m1, m2⟩ := cells3U (keepU M0.out hw'); go_simp; first | done | with_reducible rfl) (h := ?_)
        refine xtwo 6 10 (hk := HV1.out) (h := RunX.of 6 (h := ?_)) (h' := RunX.of 10 (h := ?_))
        · go_simp
          refine (HWI.out w1).mono ?_
          rintro e6 w6 ⟨rfl, x6⟩
          have Y6 : Hid (Ext W0 w6) := Lib.hid (Ext.trans HV1.out x6)
          clear x6
          dsimp only
          (try (simp only [Act.put, List.setIfInBounds_toArray, List.set]))
          refine xtv 7 (h := ?_)
          refine xtv 8 (h := ?_)
          refine xtv 9 (h := ?_)
          refine xone 10 (hk := Y6.out) (h := RunX.of 10 (h := ?_))
          go_simp
          (try (simp only [Act.put, List.setIfInBounds_toArray, List.set]))
          obtain ⟨W7, hW7⟩ : ∃ W7, W7 = w6.alloc (.cells #[.int .i64 0, .int .i64 0, .int .i64 0, .bool false, .bool false, .bool false, .bool false, .bool false] 66) := ⟨_, rfl⟩
          have Y7 : Hid (Ext W0 W7) := Lib.hid (hW7 ▸ Y6.out.alloc _)
          have B7 : Hid (W7.heap[w6.heap.size]? = some (.cells #[.int .i64 0, .int .i64 0, .int .i64 0, .bool false, .bool false, .bool false, .bool false, .bool false] 66 (0, 0))) := Lib.hid (hW7 ▸ at0 w6 _)
          have hg7 : W0.heap.size ≤ w6.heap.size := Below.size Y6.out
          rw [← hW7]
          clear hW7
          refine xone 11 (hk := Y7.out) (h := RunX.of 11 (h := ?_))
          refine wp_st 66 (.tmp 11) (.tmp 35) rfl w6.heap.size 0 66 #[.int .i64 0, .int .i64 0, .int .i64 0, .bool false, .bool false, .bool false, .bool false, .bool false] #[.int .i64 u0, .int .i64 u1, .int .i64 u2, .bool u3, .bool u4, .bool u5, .bool u6, .bool u7] #[.int .i64 u0, .int .i64 u1, .int .i64 u2, .bool u3, .bool u4, .bool u5, .bool u6, .bool u7] rfl rfl B7.out (by kernel_rfl) (by simp) rfl rfl ?_
          intro WB hWB oB
          simp only [Act.put]
          have YB : Hid (Ext W0 WB) := Lib.hid (ext_off Y7.out oB (fun b hb => by omega))
          have RB := Lib.hid hWB
          clear hWB oB
          refine xtv 12 (h := ?_)
          (refine xdone (by kernel_rfl) (YB.out) ?_)
          go_wp2_with fail
          go_meet
          exact ⟨_, rfl, rfl, RB, YB, hg7⟩
        · go_simp
          (try (simp only [Act.put, List.setIfInBounds_toArray, List.set]))
          obtain ⟨W7, hW7⟩ : ∃ W7, W7 = w1.alloc (.cells #[.int .i64 0, .int .i64 0, .int .i64 0, .bool false, .bool false, .bool false, .bool false, .bool false] 66) := ⟨_, rfl⟩
          have Y7 : Hid (Ext W0 W7) := Lib.hid (hW7 ▸ HV1.out.alloc _)
          have B7 : Hid (W7.heap[w1.heap.size]? = some (.cells #[.int .i64 0, .int .i64 0, .int .i64 0, .bool false, .bool false, .bool false, .bool false, .bool false] 66 (0, 0))) := Lib.hid (hW7 ▸ at0 w1 _)
          have hg7 : W0.heap.size ≤ w1.heap.size := Below.size HV1.out
          rw [← hW7]
          clear hW7
          refine xone 6 (hk := Y7.out) (h := RunX.of 6 (h := ?_))
          go_simp
          refine (HWI.out W7).mono ?_
          rintro e6 w6 ⟨rfl, x6⟩
          have Y6 : Hid (Ext W0 w6) := Lib.hid (Ext.trans Y7.out x6)
          have B6 : Hid (w6.heap[w1.heap.size]? = some (.cells #[.int .i64 0, .int .i64 0, .int .i64 0, .bool false, .bool false, .bool false, .bool false, .bool false] 66 (0, 0))) := Lib.hid (keepU B7.out x6)
          clear x6
          dsimp only
          (try (simp only [Act.put, List.setIfInBounds_toArray, List.set]))
          refine xtv 7 (h := ?_)
          refine xtv 8 (h := ?_)
          refine xtv 9 (h := ?_)
          refine xone 11 (hk := Y6.out) (h := RunX.of 11 (h := ?_))
          refine wp_st 66 (.tmp 11) (.tmp 35) rfl w1.heap.size 0 66 #[.int .i64 0, .int .i64 0, .int .i64 0, .bool false, .bool false, .bool false, .bool false, .bool false] #[.int .i64 u0, .int .i64 u1, .int .i64 u2, .bool u3, .bool u4, .bool u5, .bool u6, .bool u7] #[.int .i64 u0, .int .i64 u1, .int .i64 u2, .bool u3, .bool u4, .bool u5, .bool u6, .bool u7] rfl rfl B6.out (by kernel_rfl) (by simp) rfl rfl ?_
          intro WB hWB oB
          simp only [Act.put]
          have YB : Hid (Ext W0 WB) := Lib.hid (ext_off Y6.out oB (fun b hb => by omega))
          have RB := Lib.hid hWB
          clear hWB oB
          refine xtv 12 (h := ?_)
          (refine xdone (by kernel_rfl) (YB.out) ?_)
          go_wp2_with fail
          go_meet
          exact ⟨_, rfl, rfl, RB, YB, hg7⟩
      case rest =>
        obtain ⟨g, rfl, rfl, HG, HXC, hg⟩ := hcut
        clear d0 d1 d2
        by_cases he : er = 0
        · subst he
          have HR : Hid (getR ⟨id, ph, L⟩ p k me n = (⟨id, ph, L.set i ⟨u0, u1, u2, u3, u4, u5, u6, u7⟩⟩, 0)) := Lib.hid (by rw [HRR2.out, if_pos rfl])
          have d2 := blk_cell (keepU D0.out HXC.out) 2 rfl
          go_upto_region 11 with (fail)
          go_upto_region 12 with (first
            | (go_at_call 72; refine (clone_sd wc _ L (HS.out.ext HXC.out) hl).mono ?_; rintro e w5 ⟨v5, rfl, o5, x5⟩; obtain ⟨a5, n5, c5, rfl⟩ := o5.sh; have X5 : Hid (Ext wc w5) := Lib.hid x5; have O5 := Lib.hid o5; have hcc := blk_cell (keepU (keepU D0.out HXC.out) x5) 2 rfl; have f5 := blk_free (keepU (keepU D0.out HXC.out) x5) 2; clear o5 x5))
          have hcs : W0.heap.size ≤ wc.heap.size := Below.size HXC.out
          have hgc : g < wc.heap.size := blk_lt HG.out
          obtain ⟨W6, hW6⟩ : ∃ W6, W6 = w5.setCell ⟨w.heap.size, 2, none⟩ (.slice a5 n5 c5) := ⟨_, rfl⟩
          have D6 : Hid (W6.heap[w.heap.size]? = some (.cells #[.int .i64 id, .int .i64 ph, .slice a5 n5 c5] 61 (0, 0))) := Lib.hid (by rw [hW6, blk_set (keepU (keepU D0.out HXC.out) X5.out)]; rfl)
          have R6 : Hid (W6.heap[w.heap.size + 3]? = some (.cells #[.int .i64 0, .int .i64 0, .slice none 0 0] 61 (0, 0))) := Lib.hid (by rw [hW6, set_other _ _ _ _ (by show w.heap.size + 3 ≠ w.heap.size; omega)]; exact keepU (keepU R0.out HXC.out) X5.out)
          have G6 : Hid (W6.heap[g]? = some (.cells #[.int .i64 u0, .int .i64 u1, .int .i64 u2, .bool u3, .bool u4, .bool u5, .bool u6, .bool u7] 66 (0, 0))) := Lib.hid (by rw [hW6, set_other _ _ _ _ (by show g ≠ w.heap.size; omega)]; exact keepU HG.out X5.out)
          have X6 : Hid (Ext w W6) := Lib.hid (hW6 ▸ below_set (X0.out.trans (HXC.out.trans X5.out)) (Nat.le_refl _) _)
          have S6 : Ow W6 wc.heap.size (.slice a5 n5 c5) L := hW6 ▸ O5.out.set (d := ⟨w.heap.size, 2, none⟩) (by show w.heap.size < _; omega) _
          rw [← hW6]
          clear hW6 d2 f5 hcc O5
          obtain ⟨gs, cur, rfl, hgs, rfl, hnc6, hc636, hcur, hcsz, hput⟩ := S6.setAt hlt ⟨u0, u1, u2, u3, u4, u5, u6, u7⟩
          have HCUR := Lib.hid hcur
          have HPUT := Lib.hid hput
          have HCZ : Hid (i * 8 + 8 ≤ cur.size) := Lib.hid hcsz
          have d2 := blk_cell D6.out 2 rfl
          obtain ⟨⟨⟨z0, z1⟩, z2, z3⟩, ⟨z4, z5⟩, z6, z7⟩ := cells8U G6.out
          clear hcur hput hcsz S6
          go_wp2_with (first | refine haltst 66 ?_)
          refine .inl ?_
          refine st_l 66 (.tmp 49) (.tmp 48) gs (i * 8) 66 cur #[.int .i64 u0, .int .i64 u1, .int .i64 u2, .bool u3, .bool u4, .bool u5, .bool u6, .bool u7] _ rfl rfl HCUR.out (by kernel_rfl) HCZ.out rfl rfl ?_
          intro W8 hW8 o8
          simp only [Act.put]
          have O8 := Lib.hid (HPUT.out W8 hW8)
          have X8 := Lib.hid (ext_off X6.out o8 (fun b hb => by omega))
          have R8 := Lib.hid ((o8.block (w.heap.size + 3) (blk_lt R6.out) (by omega)).trans R6.out)
          have hd8 := (o8.block w.heap.size (blk_lt D6.out) (by omega)).trans D6.out
          obtain ⟨e0, e1, e2⟩ := cells3U hd8
          clear hW8 o8 hd8 d2 z0 z1 z2 z3 z4 z5 z6 z7
          go_wp2_with (first | refine haltst 61 ?_)
          refine .inl ?_
          refine st_l 61 (.tmp 6) (.tmp 50) (w.heap.size + 3) 0 61 #[.int .i64 0, .int .i64 0, .slice none 0 0] #[.int .i64 id, .int .i64 ph, .slice (some ⟨gs, 0, none⟩) L.length c5] #[.int .i64 id, .int .i64 ph, .slice (some ⟨gs, 0, none⟩) L.length c5] rfl rfl R8.out (by kernel_rfl) (by simp) rfl rfl ?_
          intro W9 hW9 o9
          simp only [Act.put]
          go_wp2
          exact bodyPost_ret (v := .tuple #[.agg #[.int .i64 id, .int .i64 ph, .slice (some ⟨gs, 0, none⟩) L.length c5], .int .i64 0]) (res_ct 7 rfl rfl hW9 uDiner (by kernel_rfl)) rfl (by
            rw [HR.out]
            exact ⟨_, rfl, slOffU O8.out.sl (fun b hb => (O8.out.low b hb).1) o9 (by omega), ext_off X8.out o9 (fun b hb => by omega), fun b hb => by have := (O8.out.low b hb).1; omega⟩)
        · have HR : Hid (getR ⟨id, ph, L⟩ p k me n = (noD, er)) := Lib.hid (by rw [HRR2.out, if_neg he])
          have t9 : (er != 0) = true := by simp [he]
          clear he
          go_upto_region 10 with (fail)
          go_wp2_with (first | refine haltst 61 ?_)
          refine .inl ?_
          refine st_l 61 (.tmp 6) (.tmp 39) (w.heap.size + 3) 0 61 #[.int .i64 0, .int .i64 0, .slice none 0 0] #[.int .i64 0, .int .i64 0, .slice none 0 0] #[.int .i64 0, .int .i64 0, .slice none 0 0] rfl rfl (keepU R0.out HXC.out) (by kernel_rfl) (by simp) rfl rfl ?_
          intro W9 hW9 o9
          simp only [Act.put]
          go_wp2
          exact bodyPost_ret (v := .tuple #[.agg #[.int .i64 0, .int .i64 0, .slice none 0 0], .int .i64 er]) (res_ct 7 rfl rfl hW9 uDiner (by kernel_rfl)) rfl (givesNo HR.out (ext_off (X0.out.trans HXC.out) o9 (fun b hb => by omega)))
end Go.Proofs.YtfbambemjokmgaaGreat
namespace Go.Proofs.YtfbambemjokmgaaGreat
theorem findS_spec {q : Sd → Bool} : ∀ {L : List Sd} {k : Nat} {s : Sd}, findS q L = some (k, s) → L[k]? = some s ∧ q s = true
  | [], _, _, h => by simp [findS] at h
  | t :: L, k, s, h => by
    unfold findS at h
    split at h
    · next hq =>
      simp only [Option.some.injEq, Prod.mk.injEq] at h
      obtain ⟨rfl, rfl⟩ := h
      exact ⟨rfl, hq⟩
    · rw [Option.map_eq_some_iff] at h
      obtain ⟨⟨k', s'⟩, h1, h2⟩ := h
      simp only [Prod.mk.injEq] at h2
      obtain ⟨rfl, rfl⟩ := h2
      have := findS_spec h1
      exact ⟨by simpa using this.1, this.2⟩
end Go.Proofs.YtfbambemjokmgaaGreat
namespace Go.Proofs.YtfbambemjokmgaaGreat
def updP (P : Nat → Int) (i : Nat) (p : Int) : Nat → Int := fun a => if a = i then p else P a
def updX (X : Nat → Nat → Sd) (i k : Nat) (s : Sd) : Nat → Nat → Sd := fun a b => if a = i ∧ b = k then s else X a b
section
variable {n : Nat} {nb : Nat → List Nat} {ep : Int} {X : Nat → Nat → Sd} {P : Nat → Int} {ms : List Ml} {i : Nat}
theorem chan_cut {l1 l2 : List Ml} {m : Ml} {a b : Int} (h : ¬ (m.from_ = a ∧ m.to_ = b)) : chan (l1 ++ m :: l2) a b = chan (l1 ++ l2) a b := by
  unfold chan
  rw [List.filter_append, List.filter_append, List.filter_cons, if_neg]
  intro e
  simp only [Bool.and_eq_true, beq_iff_eq] at e
  exact h e
theorem chan_first {l1 l2 : List Ml} {m : Ml} {a b : Int} (h : m.from_ = a ∧ m.to_ = b) (hno : ∀ x ∈ l1, ¬ (x.from_ = a ∧ x.to_ = b)) : chan (l1 ++ m :: l2) a b = m :: chan (l1 ++ l2) a b := by
  have e1 : l1.filter (fun m => m.from_ == a && m.to_ == b) = [] := by
    rw [List.filter_eq_nil_iff]
    intro x hx e
    simp only [Bool.and_eq_true, beq_iff_eq] at e
    exact hno x hx e
  unfold chan
  rw [List.filter_append, List.filter_append, List.filter_cons, e1, if_pos (by simp [h.1, h.2]), List.nil_append, List.nil_append]
def ah (X : Nat → Nat → Sd) (ms : List Ml) (i k : Nat) : Bool := ahd (X i k) (X k i) (chan ms k i)
def NoRound (n : Nat) (nb : Nat → List Nat) (X : Nat → Nat → Sd) (ms : List Ml) : Prop := ∃ r : Nat → Nat, ∀ a k, a < n → k ∈ nb a → ah X ms a k = true → r a < r k
theorem top_of (r : Nat → Nat) : ∀ n, ∃ t, ∀ a, a < n → r a < t
  | 0 => ⟨0, fun a h => by omega⟩
  | n + 1 => by
    obtain ⟨t, ht⟩ := top_of r n
    refine ⟨max t (r n + 1), fun a h => ?_⟩
    by_cases e : a = n
    · subst e; omega
    · have := ht a (by omega); omega
end
end Go.Proofs.YtfbambemjokmgaaGreat
namespace Go.Proofs.YtfbambemjokmgaaGreat
section
variable {n : Nat} {nb : Nat → List Nat} {ep : Int} {X : Nat → Nat → Sd} {P : Nat → Int} {ms : List Ml} {i : Nat}
theorem up_len : ∀ {l : List Nat} {a b : Nat}, l.Pairwise (· < ·) → (∀ x ∈ l, a ≤ x ∧ x < b) → l.length ≤ b - a
  | [], _, _, _, _ => Nat.zero_le _
  | x :: l, a, b, h, hx => by
    obtain ⟨h1, h2⟩ := List.pairwise_cons.1 h
    have q := hx x (List.mem_cons_self ..)
    have := up_len (a := x + 1) (b := b) h2 fun y hy => ⟨h1 y hy, (hx y (List.mem_cons_of_mem _ hy)).2⟩
    rw [List.length_cons]
    omega
theorem nb_len (hn : NB n nb) (hi : i < n) : (nb i).length ≤ n - 1 := by
  -- all are below n, and i isn't one
  have h1 : (nb i).length = ((nb i).map fun k => if k < i then k else k - 1).length := by rw [List.length_map]
  rw [h1]
  refine up_len (a := 0) (b := n - 1) ?_ fun x hx => ?_
  · rw [List.pairwise_map]
    refine (hn.up i).imp_of_mem fun {a b} ha hb hab => ?_
    have q1 := (hn.back i a hi ha).2.1
    have q2 := (hn.back i b hi hb).2.1
    split <;> split <;> omega
  · obtain ⟨k, hk, rfl⟩ := List.mem_map.1 hx
    have q := hn.back i k hi hk
    split <;> omega
theorem sidesD_nb {id : Int} (f : Nat → Sd) : ∀ {l : List Nat} {last : Int}, l.Pairwise (· < ·) → (∀ k ∈ l, last < k ∧ (f k).peer = k ∧ (k : Int) ≠ id ∧ 0 ≤ (f k).epoch ∧ (f k).epoch ≤ 65535 ∧ (f k).state = 0 ∧ ((f k).dirty && !(f k).fork) = false) → sidesD id last (l.map f) = true
  | [], _, _, _ => rfl
  | k :: l, last, h, hf => by
    obtain ⟨h1, h2⟩ := List.pairwise_cons.1 h
    obtain ⟨q1, q2, q3, q4, q5, q6, q7⟩ := hf k (List.mem_cons_self ..)
    rw [List.map_cons]
    refine sidesD_cons.2 ⟨?_, ?_⟩
    · unfold sideD
      rw [q2, q6, q7]
      simp only [Bool.and_eq_true, decide_eq_true_eq]
      exact ⟨q1, q3, q4, q5, by decide, by decide, rfl⟩
    · rw [q2]
      exact sidesD_nb f h2 fun j hj => ⟨by have := h1 j hj; omega, (hf j (List.mem_cons_of_mem _ hj)).2⟩
theorem Cl.dx {x y : Sd} {pa : Int} (c : Cl x y pa) : (x.dirty && !x.fork) = false ∧ (y.dirty && !y.fork) = false := by
  refine ⟨?_, by rw [c.yd]; rfl⟩
  cases h : x.fork
  · rw [c.xd h]; rfl
  · simp
theorem EO.dx {a b ep : Int} {x y : Sd} {mab mba : List Ml} {pa pb : Int} (h : EO a b ep x y mab mba pa pb) : (x.dirty && !x.fork) = false := by
  rcases h with h | h
  · exact h.c.dx.1
  · exact h.c.dx.2
theorem TB.ok (hn : NB n nb) (h64 : n ≤ 64) (h0 : 0 ≤ ep) (h1 : ep ≤ 65535) (h : TB n nb ep X P ms) (hi : i < n) : dnOk ⟨i, P i, (nb i).map (X i)⟩ = true := by
  unfold dnOk headD
  dsimp only
  have hl := nb_len hn hi
  rw [Bool.and_eq_true, Bool.and_eq_true, Bool.and_eq_true]
  refine ⟨⟨by rw [decide_eq_true_eq]; omega, ?_, by rw [decide_eq_true_eq, List.length_map]; omega⟩, ?_⟩
  · have := h.ph i hi
    simp only [Bool.or_eq_true, decide_eq_true_eq]
    omega
  · refine sidesD_nb (X i) (hn.up i) fun k hk => ?_
    have q := h.pr i k hi hk
    have b := hn.back i k hi hk
    exact ⟨by omega, q.1, by omega, by rw [q.2]; exact h0, by rw [q.2]; exact h1, h.lv i k hi hk, (h.edge i k hi hk).dx⟩
theorem set_nb (f : Nat → Sd) (s : Sd) {k : Nat} : ∀ {l : List Nat} {j : Nat}, l.Pairwise (· < ·) → l[j]? = some k → (l.map f).set j s = l.map fun a => if a = k then s else f a
  | [], _, _, h => by simp at h
  | a :: l, 0, hp, h => by
    obtain rfl : a = k := by simpa using h
    obtain ⟨h1, h2⟩ := List.pairwise_cons.1 hp
    rw [List.map_cons, List.set_cons_zero, List.map_cons, if_pos rfl]
    congr 1
    refine List.map_congr_left fun b hb => ?_
    rw [if_neg (by have := h1 b hb; omega)]
  | a :: l, j + 1, hp, h => by
    obtain ⟨h1, h2⟩ := List.pairwise_cons.1 hp
    have h' : l[j]? = some k := by simpa using h
    have hk : a ≠ k := by have := h1 k (List.mem_of_getElem? h'); omega
    rw [List.map_cons, List.set_cons_succ, List.map_cons, if_neg hk, set_nb f s h2 h']
theorem find_nb (f : Nat → Sd) (q : Sd → Bool) {k : Nat} {l : List Nat} (hk : k ∈ l) (hp : l.Pairwise (· < ·)) (h1 : q (f k) = true) (h2 : ∀ j, j ∈ l → j ≠ k → q (f j) = false) : ∃ j, l[j]? = some k ∧ findS q (l.map f) = some (j, f k) := by
  obtain ⟨j, hj⟩ := List.getElem?_of_mem hk
  refine ⟨j, hj, findS_some (by rw [List.getElem?_map, hj]; rfl) h1 fun a u ha hu => ?_⟩
  rw [List.getElem?_map, Option.map_eq_some_iff] at hu
  obtain ⟨b, hb, rfl⟩ := hu
  refine h2 b (List.mem_of_getElem? hb) fun e => ?_
  subst e
  obtain ⟨q1, e1⟩ := List.getElem?_eq_some_iff.1 hb
  obtain ⟨q2, e2⟩ := List.getElem?_eq_some_iff.1 hj
  have := List.pairwise_iff_getElem.1 hp a j q1 q2 ha
  omega
end
end Go.Proofs.YtfbambemjokmgaaGreat
namespace Go.Proofs.YtfbambemjokmgaaGreat
def pick (a b : Int) : List Ml → Option (List Ml × Ml × List Ml)
  | [] => none
  | m :: l => if m.from_ = a ∧ m.to_ = b then some ([], m, l) else (pick a b l).map fun x => (m :: x.1, x.2.1, x.2.2)
theorem pick_some {a b : Int} : ∀ {ms : List Ml} {l1 : List Ml} {m : Ml} {l2 : List Ml}, pick a b ms = some (l1, m, l2) → ms = l1 ++ m :: l2 ∧ (m.from_ = a ∧ m.to_ = b) ∧ ∀ x ∈ l1, ¬ (x.from_ = a ∧ x.to_ = b)
  | [], _, _, _, h => by cases h
  | y :: l, l1, m, l2, h => by
    unfold pick at h
    by_cases e : y.from_ = a ∧ y.to_ = b
    · rw [if_pos e] at h
      cases h
      exact ⟨rfl, e, fun x hx => by cases hx⟩
    · rw [if_neg e] at h
      cases hp : pick a b l with
      | none => rw [hp] at h; cases h
      | some t =>
        obtain ⟨u1, v, u2⟩ := t
        rw [hp] at h
        cases h
        obtain ⟨q1, q2, q3⟩ := pick_some hp
        refine ⟨by rw [q1]; rfl, q2, fun x hx => ?_⟩
        rcases List.mem_cons.1 hx with rfl | hx
        · exact e
        · exact q3 x hx
def noS : List Dn × List Ml := ([], [])
section
variable {n : Nat} {nb : Nat → List Nat} {ep : Int} {X : Nat → Nat → Sd} {P : Nat → Int} {ms : List Ml} {i : Nat}
theorem dsOf_len : (dsOf n nb X P).length = n := by unfold dsOf; rw [List.length_map, List.length_range]
def Good (n : Nat) (nb : Nat → List Nat) (ep : Int) (ds : List Dn) (ms : List Ml) : Prop := ∃ (X : Nat → Nat → Sd) (P : Nat → Int), ds = dsOf n nb X P ∧ TB n nb ep X P ms ∧ NoRound n nb X ms
def phN (n : Nat) (P : Nat → Int) (p : Int) : List Nat := (List.range n).filter fun i => P i == p
theorem mem_phN {p : Int} : i ∈ phN n P p ↔ i < n ∧ P i = p := by
  unfold phN
  rw [List.mem_filter, List.mem_range]
  simp
theorem phN_nodup (n : Nat) (P : Nat → Int) (p : Int) : (phN n P p).Nodup := List.Nodup.sublist List.filter_sublist List.nodup_range
end
end Go.Proofs.YtfbambemjokmgaaGreat
