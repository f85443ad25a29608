/- Layer 13, the program: what a message brings to a side; a message that comes. -/
import Derived.Test.YtogbjpipkegecaaUC
namespace Go.Proofs.Ytogbjpipkegecaa
open Go.RowKit

def withR (x : Sd) (k n : Int) : Sd × Int := if n ≠ 0 ∨ (k ≠ 1 ∧ k ≠ 2) then (Sd.zero, 133) else if (k = 1 ∧ x.fork = true) ∨ (k = 2 ∧ x.token = true) then (Sd.zero, 132) else if k = 1 then ({ x with fork := true }, 0) else ({ x with token := true }, 0)
def findS (q : Sd → Bool) : List Sd → Option (Nat × Sd)
  | [] => none
  | s :: L => if q s = true then some (0, s) else (findS q L).map fun x => (x.1 + 1, x.2)
theorem findS_none {q : Sd → Bool} : ∀ {L : List Sd}, (∀ (k : Nat) (s : Sd), L[k]? = some s → q s = false) → findS q L = none
  | [], _ => rfl
  | s :: L, h => by
    have h0 : q s = false := h 0 s rfl
    unfold findS
    rw [h0, findS_none (L := L) fun k u hk => h (k + 1) u hk]; rfl
theorem findS_some {q : Sd → Bool} : ∀ {L : List Sd} {k : Nat} {s : Sd}, L[k]? = some s → q s = true → (∀ (j : Nat) (u : Sd), j < k → L[j]? = some u → q u = false) → findS q L = some (k, s)
  | [], _, _, h, _, _ => by simp at h
  | t :: L, 0, s, h, hq, _ => by
    obtain rfl : t = s := by simpa using h
    unfold findS
    rw [if_pos hq]
  | t :: L, k + 1, s, h, hq, hn => by
    have h0 : q t = false := hn 0 t (by omega) rfl
    unfold findS
    rw [h0, findS_some (L := L) (k := k) (s := s) h hq fun j u hj hu => hn (j + 1) u (by omega) hu]; rfl
def getR (d : Dn) (p k me n : Int) : Dn × Int := if dnOk d = true then (match findS (fun s => s.peer == p && s.epoch == me) d.sides with
  | none => (noD, 131)
  | some (i, s) => if (withR s k n).2 = 0 then (⟨d.id, d.phase, d.sides.set i (withR s k n).1⟩, 0) else (noD, (withR s k n).2)) else (noD, 130)

theorem cells3U {w : World} {g : Nat} {u0 u1 u2 : Value} {t : TypeId} (h : w.heap[g]? = some (.cells #[u0, u1, u2] t (0, 0))) :
    w.cell? ⟨g, 0, none⟩ = some u0 ∧ w.cell? ⟨g, 1, none⟩ = some u1 ∧ w.cell? ⟨g, 2, none⟩ = some u2 := ⟨blk_cell h 0 rfl, blk_cell h 1 rfl, blk_cell h 2 rfl⟩

set_option maxRecDepth 100000 in
set_option maxHeartbeats 4000000 in
theorem with_any (w : World) (x : Sd) (k me n : Int) : Calls Try.prog 32 #[.agg x.cs, .agg #[.int .i64 k, .int .i64 me, .int .i64 n]] w fun e w' => e = .returned (.tuple #[.agg (withR x k n).1.cs, .int .i64 (withR x k n).2]) ∧ Ext w w' := by
  obtain ⟨y0, y1, y2, y3, y4, y5, y6, y7⟩ := x
  obtain ⟨⟨⟨z0, z1, z2, z3, z4, z5, z6, z7⟩, er⟩, hr⟩ : ∃ r, withR ⟨y0, y1, y2, y3, y4, y5, y6, y7⟩ k n = r := ⟨_, rfl⟩
  rw [hr]
  have HR := Lib.hid hr
  clear hr
  unfold Sd.cs
  dsimp only
  obtain ⟨W0, hW0⟩ : ∃ W0, W0 = ((w.alloc (.cells #[.int .i64 y0, .int .i64 y1, .int .i64 y2, .bool y3, .bool y4, .bool y5, .bool y6, .bool y7] 47)).alloc (.cells #[.int .i64 k, .int .i64 me, .int .i64 n] 40)).alloc (.cells #[.int .i64 0, .int .i64 0, .int .i64 0, .bool false, .bool false, .bool false, .bool false, .bool false] 47) := ⟨_, rfl⟩
  have X0 : Hid (Ext w W0) := Lib.hid (hW0 ▸ (((Ext.refl w).alloc _).alloc _).alloc _)
  have D0 : Hid (W0.heap[w.heap.size]? = some (.cells #[.int .i64 y0, .int .i64 y1, .int .i64 y2, .bool y3, .bool y4, .bool y5, .bool y6, .bool y7] 47 (0, 0))) := Lib.hid (hW0 ▸ old1 (old1 (at0 w _) _) _)
  have M0 : Hid (W0.heap[w.heap.size + 1]? = some (.cells #[.int .i64 k, .int .i64 me, .int .i64 n] 40 (0, 0))) := Lib.hid (hW0 ▸ old1 (at1 w _ _) _)
  have R0 : Hid (W0.heap[w.heap.size + 2]? = some (.cells #[.int .i64 0, .int .i64 0, .int .i64 0, .bool false, .bool false, .bool false, .bool false, .bool false] 47 (0, 0))) := Lib.hid (hW0 ▸ at2 w _ _ _)
  have HW0 := Lib.hid hW0
  clear hW0
  obtain ⟨m0, m1, m2⟩ := cells3U M0.out
  obtain ⟨⟨⟨x0, x1⟩, x2, x3⟩, ⟨x4, x5⟩, x6, x7⟩ := cells8U D0.out
  have f3 := blk_free D0.out 3
  have f5 := blk_free D0.out 5
  by_cases hn : n = 0
  · by_cases h1 : k = 1
    · subst hn h1
      cases y3
      · have HF : Hid ((y0 = z0 ∧ y1 = z1 ∧ y2 = z2 ∧ true = z3 ∧ y4 = z4 ∧ y5 = z5 ∧ y6 = z6 ∧ y7 = z7) ∧ (0 : Int) = er) := Lib.hid (by have h := HR.out; unfold withR at h; simp [] at h; simpa [eq_comm, and_assoc] using h)
        clear HR
        obtain ⟨⟨rfl, rfl, rfl, rfl, rfl, rfl, rfl, rfl⟩, rfl⟩ := HF.out
        go_enter Try.func32, Try.ntmps32
        go_upto_region 2 with (fail)
        rw [← HW0.out]
        go_upto_region 8 with (fail)
        obtain ⟨W3, hW3⟩ : ∃ W3, W3 = W0.setCell ⟨w.heap.size, 3, none⟩ (.bool true) := ⟨_, rfl⟩
        have D3 : Hid (W3.heap[w.heap.size]? = some (.cells #[.int .i64 y0, .int .i64 y1, .int .i64 y2, .bool true, .bool y4, .bool y5, .bool y6, .bool y7] 47 (0, 0))) := Lib.hid (by rw [hW3, blk_set D0.out]; rfl)
        have R3 : Hid (W3.heap[w.heap.size + 2]? = some (.cells #[.int .i64 0, .int .i64 0, .int .i64 0, .bool false, .bool false, .bool false, .bool false, .bool false] 47 (0, 0))) := Lib.hid (by rw [hW3, set_other _ _ _ _ (by show w.heap.size + 2 ≠ w.heap.size; omega)]; exact R0.out)
        have X3 : Hid (Ext w W3) := Lib.hid (hW3 ▸ below_set X0.out (Nat.le_refl _) _)
        rw [← hW3]
        clear hW3 x0 x1 x2 x3 x4 x5 x6 x7 f3 f5 m0 m1 m2
        obtain ⟨⟨⟨x0, x1⟩, x2, x3⟩, ⟨x4, x5⟩, x6, x7⟩ := cells8U D3.out
        go_wp2_with (first | refine haltst 47 ?_)
        refine .inl ?_
        refine st_l 47 (.tmp 4) (.tmp 45) (w.heap.size + 2) 0 47 #[.int .i64 0, .int .i64 0, .int .i64 0, .bool false, .bool false, .bool false, .bool false, .bool false] #[.int .i64 y0, .int .i64 y1, .int .i64 y2, .bool true, .bool y4, .bool y5, .bool y6, .bool y7] #[.int .i64 y0, .int .i64 y1, .int .i64 y2, .bool true, .bool y4, .bool y5, .bool y6, .bool y7] rfl rfl R3.out (by kernel_rfl) (by simp) rfl rfl ?_
        intro W9 hW9 o9
        simp only [Act.put]
        go_wp2
        exact bodyPost_ret (v := .tuple #[.agg #[.int .i64 y0, .int .i64 y1, .int .i64 y2, .bool true, .bool y4, .bool y5, .bool y6, .bool y7], .int .i64 0]) (res_ct 5 rfl rfl hW9 uSide (by kernel_rfl)) rfl ⟨rfl, ext_off X3.out o9 (fun b hb => by omega)⟩
      · have HF : Hid (((0 : Int) = z0 ∧ (0 : Int) = z1 ∧ (0 : Int) = z2 ∧ false = z3 ∧ false = z4 ∧ false = z5 ∧ false = z6 ∧ false = z7) ∧ (132 : Int) = er) := Lib.hid (by have h := HR.out; unfold withR at h; simp [Sd.zero] at h; simpa [eq_comm, and_assoc] using h)
        clear HR
        obtain ⟨⟨rfl, rfl, rfl, rfl, rfl, rfl, rfl, rfl⟩, rfl⟩ := HF.out
        go_enter Try.func32, Try.ntmps32
        go_upto_region 2 with (fail)
        rw [← HW0.out]
        go_upto_region 5 with (fail)
        go_wp2_with (first | refine haltst 47 ?_)
        refine .inl ?_
        refine st_l 47 (.tmp 4) (.tmp 39) (w.heap.size + 2) 0 47 #[.int .i64 0, .int .i64 0, .int .i64 0, .bool false, .bool false, .bool false, .bool false, .bool false] #[.int .i64 0, .int .i64 0, .int .i64 0, .bool false, .bool false, .bool false, .bool false, .bool false] #[.int .i64 0, .int .i64 0, .int .i64 0, .bool false, .bool false, .bool false, .bool false, .bool false] rfl rfl R0.out (by kernel_rfl) (by simp) rfl rfl ?_
        intro W9 hW9 o9
        simp only [Act.put]
        go_wp2
        exact bodyPost_ret (v := .tuple #[.agg #[.int .i64 0, .int .i64 0, .int .i64 0, .bool false, .bool false, .bool false, .bool false, .bool false], .int .i64 132]) (res_ct 5 rfl rfl hW9 uSide (by kernel_rfl)) rfl ⟨rfl, ext_off X0.out o9 (fun b hb => by omega)⟩
    · by_cases h2 : k = 2
      · subst hn h2
        cases y5
        · have HF : Hid ((y0 = z0 ∧ y1 = z1 ∧ y2 = z2 ∧ y3 = z3 ∧ y4 = z4 ∧ true = z5 ∧ y6 = z6 ∧ y7 = z7) ∧ (0 : Int) = er) := Lib.hid (by have h := HR.out; unfold withR at h; simp [] at h; simpa [eq_comm, and_assoc] using h)
          clear HR h1
          obtain ⟨⟨rfl, rfl, rfl, rfl, rfl, rfl, rfl, rfl⟩, rfl⟩ := HF.out
          go_enter Try.func32, Try.ntmps32
          go_upto_region 2 with (fail)
          rw [← HW0.out]
          go_upto_region 8 with (fail)
          obtain ⟨W3, hW3⟩ : ∃ W3, W3 = W0.setCell ⟨w.heap.size, 5, none⟩ (.bool true) := ⟨_, rfl⟩
          have D3 : Hid (W3.heap[w.heap.size]? = some (.cells #[.int .i64 y0, .int .i64 y1, .int .i64 y2, .bool y3, .bool y4, .bool true, .bool y6, .bool y7] 47 (0, 0))) := Lib.hid (by rw [hW3, blk_set D0.out]; rfl)
          have R3 : Hid (W3.heap[w.heap.size + 2]? = some (.cells #[.int .i64 0, .int .i64 0, .int .i64 0, .bool false, .bool false, .bool false, .bool false, .bool false] 47 (0, 0))) := Lib.hid (by rw [hW3, set_other _ _ _ _ (by show w.heap.size + 2 ≠ w.heap.size; omega)]; exact R0.out)
          have X3 : Hid (Ext w W3) := Lib.hid (hW3 ▸ below_set X0.out (Nat.le_refl _) _)
          rw [← hW3]
          clear hW3 x0 x1 x2 x3 x4 x5 x6 x7 f3 f5 m0 m1 m2
          obtain ⟨⟨⟨x0, x1⟩, x2, x3⟩, ⟨x4, x5⟩, x6, x7⟩ := cells8U D3.out
          go_wp2_with (first | refine haltst 47 ?_)
          refine .inl ?_
          refine st_l 47 (.tmp 4) (.tmp 45) (w.heap.size + 2) 0 47 #[.int .i64 0, .int .i64 0, .int .i64 0, .bool false, .bool false, .bool false, .bool false, .bool false] #[.int .i64 y0, .int .i64 y1, .int .i64 y2, .bool y3, .bool y4, .bool true, .bool y6, .bool y7] #[.int .i64 y0, .int .i64 y1, .int .i64 y2, .bool y3, .bool y4, .bool true, .bool y6, .bool y7] rfl rfl R3.out (by kernel_rfl) (by simp) rfl rfl ?_
          intro W9 hW9 o9
          simp only [Act.put]
          go_wp2
          exact bodyPost_ret (v := .tuple #[.agg #[.int .i64 y0, .int .i64 y1, .int .i64 y2, .bool y3, .bool y4, .bool true, .bool y6, .bool y7], .int .i64 0]) (res_ct 5 rfl rfl hW9 uSide (by kernel_rfl)) rfl ⟨rfl, ext_off X3.out o9 (fun b hb => by omega)⟩
        · have HF : Hid (((0 : Int) = z0 ∧ (0 : Int) = z1 ∧ (0 : Int) = z2 ∧ false = z3 ∧ false = z4 ∧ false = z5 ∧ false = z6 ∧ false = z7) ∧ (132 : Int) = er) := Lib.hid (by have h := HR.out; unfold withR at h; simp [Sd.zero] at h; simpa [eq_comm, and_assoc] using h)
          clear HR h1
          obtain ⟨⟨rfl, rfl, rfl, rfl, rfl, rfl, rfl, rfl⟩, rfl⟩ := HF.out
          go_enter Try.func32, Try.ntmps32
          go_upto_region 2 with (fail)
          rw [← HW0.out]
          go_upto_region 5 with (fail)
          go_wp2_with (first | refine haltst 47 ?_)
          refine .inl ?_
          refine st_l 47 (.tmp 4) (.tmp 39) (w.heap.size + 2) 0 47 #[.int .i64 0, .int .i64 0, .int .i64 0, .bool false, .bool false, .bool false, .bool false, .bool false] #[.int .i64 0, .int .i64 0, .int .i64 0, .bool false, .bool false, .bool false, .bool false, .bool false] #[.int .i64 0, .int .i64 0, .int .i64 0, .bool false, .bool false, .bool false, .bool false, .bool false] rfl rfl R0.out (by kernel_rfl) (by simp) rfl rfl ?_
          intro W9 hW9 o9
          simp only [Act.put]
          go_wp2
          exact bodyPost_ret (v := .tuple #[.agg #[.int .i64 0, .int .i64 0, .int .i64 0, .bool false, .bool false, .bool false, .bool false, .bool false], .int .i64 132]) (res_ct 5 rfl rfl hW9 uSide (by kernel_rfl)) rfl ⟨rfl, ext_off X0.out o9 (fun b hb => by omega)⟩
      · have HF : Hid (((0 : Int) = z0 ∧ (0 : Int) = z1 ∧ (0 : Int) = z2 ∧ false = z3 ∧ false = z4 ∧ false = z5 ∧ false = z6 ∧ false = z7) ∧ (133 : Int) = er) := Lib.hid (by have h := HR.out; unfold withR at h; simp [h1, h2, Sd.zero] at h; simpa [eq_comm, and_assoc] using h)
        have t1 : (k != 1) = true := by simp [h1]
        have t2 : (k != 2) = true := by simp [h2]
        subst hn
        clear HR h1 h2
        obtain ⟨⟨rfl, rfl, rfl, rfl, rfl, rfl, rfl, rfl⟩, rfl⟩ := HF.out
        go_enter Try.func32, Try.ntmps32
        go_upto_region 2 with (fail)
        rw [← HW0.out]
        go_upto_region 3 with (fail)
        go_wp2_with (first | refine haltst 47 ?_)
        refine .inl ?_
        refine st_l 47 (.tmp 4) (.tmp 21) (w.heap.size + 2) 0 47 #[.int .i64 0, .int .i64 0, .int .i64 0, .bool false, .bool false, .bool false, .bool false, .bool false] #[.int .i64 0, .int .i64 0, .int .i64 0, .bool false, .bool false, .bool false, .bool false, .bool false] #[.int .i64 0, .int .i64 0, .int .i64 0, .bool false, .bool false, .bool false, .bool false, .bool false] rfl rfl R0.out (by kernel_rfl) (by simp) rfl rfl ?_
        intro W9 hW9 o9
        simp only [Act.put]
        go_wp2
        exact bodyPost_ret (v := .tuple #[.agg #[.int .i64 0, .int .i64 0, .int .i64 0, .bool false, .bool false, .bool false, .bool false, .bool false], .int .i64 133]) (res_ct 5 rfl rfl hW9 uSide (by kernel_rfl)) rfl ⟨rfl, ext_off X0.out o9 (fun b hb => by omega)⟩
  · have HF : Hid (((0 : Int) = z0 ∧ (0 : Int) = z1 ∧ (0 : Int) = z2 ∧ false = z3 ∧ false = z4 ∧ false = z5 ∧ false = z6 ∧ false = z7) ∧ (133 : Int) = er) := Lib.hid (by have h := HR.out; unfold withR at h; simp [hn, Sd.zero] at h; simpa [eq_comm, and_assoc] using h)
    have t0 : (n != 0) = true := by simp [hn]
    clear HR hn
    obtain ⟨⟨rfl, rfl, rfl, rfl, rfl, rfl, rfl, rfl⟩, rfl⟩ := HF.out
    go_enter Try.func32, Try.ntmps32
    go_upto_region 2 with (fail)
    rw [← HW0.out]
    go_upto_region 3 with (fail)
    go_wp2_with (first | refine haltst 47 ?_)
    refine .inl ?_
    refine st_l 47 (.tmp 4) (.tmp 21) (w.heap.size + 2) 0 47 #[.int .i64 0, .int .i64 0, .int .i64 0, .bool false, .bool false, .bool false, .bool false, .bool false] #[.int .i64 0, .int .i64 0, .int .i64 0, .bool false, .bool false, .bool false, .bool false, .bool false] #[.int .i64 0, .int .i64 0, .int .i64 0, .bool false, .bool false, .bool false, .bool false, .bool false] rfl rfl R0.out (by kernel_rfl) (by simp) rfl rfl ?_
    intro W9 hW9 o9
    simp only [Act.put]
    go_wp2
    exact bodyPost_ret (v := .tuple #[.agg #[.int .i64 0, .int .i64 0, .int .i64 0, .bool false, .bool false, .bool false, .bool false, .bool false], .int .i64 133]) (res_ct 5 rfl rfl hW9 uSide (by kernel_rfl)) rfl ⟨rfl, ext_off X0.out o9 (fun b hb => by omega)⟩

end Go.Proofs.Ytogbjpipkegecaa
