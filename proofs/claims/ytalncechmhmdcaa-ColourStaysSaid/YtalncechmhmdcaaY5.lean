/- Colours: what becomes of them in a round. -/
import Derived.Test.YtalncechmhmdcaaY4
namespace Go.Proofs.Ytalncechmhmdcaa
open Go.RowKit

set_option maxHeartbeats 2000000 in
theorem behind_any (w : World) (cv fv : Value) (N : Int) (E : List Edge) (c : List Int) (ok : OkG N E) (h : Sl w cv c) (hl : (c.length : Int) = N) (ha : Asks w fv N E) :
    Calls Try.prog 28 #[cv, fv] w (GivesOw w (roundL N E c)) := by
  obtain ⟨vo, k0, rfl⟩ := h.len
  obtain ⟨g, lb, rfl, eg, hq⟩ := ha.any
  have n0 := ok.n0
  have n64 := ok.n64
  have HA := Lib.hid ha
  have HQ := Lib.hid hq
  have HOK := Lib.hid ok
  have HLL := Lib.hid hl
  have X0 : Ext w ((w.alloc (.cells #[.slice vo c.length k0] 25)).alloc (.cells #[.func (.func g) #[] lb] 49)) := ext_two w _ _
  have HX0 := Lib.hid X0
  have HS := Lib.hid (h.ext X0)
  obtain ⟨R, hR⟩ : ∃ R, R = roundL N E c := ⟨_, rfl⟩
  have hRl : R.length = c.length := by rw [hR, roundL_length]; omega
  have HR := Lib.hid hR
  have HRL := Lib.hid hRl
  rw [← hR]
  have hc64 : c.length ≤ 64 := by omega
  have HK : Hid (∀ W, Ext ((w.alloc (.cells #[.slice vo c.length k0] 25)).alloc (.cells #[.func (.func g) #[] lb] 49)) W → W.cell? ⟨w.heap.size, 0, none⟩ = some (.slice vo c.length k0) ∧ W.cell? ⟨w.heap.size + 1, 0, none⟩ = some (.func (.func g) #[] lb)) := Lib.hid fun W hW => by
    obtain ⟨hA, hB⟩ := box2 (hW.mono (by rw [size_alloc, size_alloc]; omega))
    exact ⟨blk_cell hA 0 rfl, blk_cell hB 0 rfl⟩
  have hmf : ∀ (fn : Fn) (first cap : Array Value) (w : World), (Instr.makeFunc fn first cap).run Try.prog w = .ok (.func fn first cap) w := fun _ _ _ _ => rfl
  clear h ha hq ok hl hR hRl X0
  go_enter Try.func28, Try.ntmps28
  go_wp2
  go_loopw [5, 12] (fun q i wr => ∃ k : Nat, k ≤ c.length ∧ i = .int .i64 k ∧ Hid (Ow wr (w.heap.size + 2) q (R.take k)) ∧ Hid (Ext ((w.alloc (.cells #[.slice vo c.length k0] 25)).alloc (.cells #[.func (.func g) #[] lb] 49)) wr)) (fun _ i _ => c.length - (intOf i).toNat)
  case atStart => exact ⟨0, Nat.zero_le _, rfl, Lib.hid (Ow.nil _ _), Lib.hid (Ext.refl _)⟩
  case round =>
    obtain ⟨k, hk, rfl, HO, HX⟩ := hrel
    have hsz : w.heap.size + 2 ≤ wr.heap.size := by have := HX.out.size; rw [size_alloc, size_alloc] at this; omega
    by_cases hlt : k < c.length
    · obtain ⟨b, off, rfl, hn, hnc, hc63, hb, hcell⟩ := HS.out.intsAt hlt
      have hya := (HX.out.cell (p := ⟨b, off + k, none⟩) hb).trans hcell
      obtain ⟨kc, kf⟩ := HK.out wr HX.out
      obtain ⟨y, hy⟩ : ∃ y, y = c.getD k 0 := ⟨_, rfl⟩
      rw [← hy] at hya
      have hkN : (k : Int) < N := by have := HLL.out; omega
      have hcol : col c (k : Int) = y := by rw [hy]; rfl
      have HN : Hid (R.take (k + 1) = R.take k ++ [take1 c (rnear N E k) k]) := Lib.hid (by
        rw [take_next (by rw [HRL.out]; exact hlt) 0]
        congr 2
        have := col_round (N := N) (E := E) (c := c) (i := (k : Int)) (by omega) hkN
        rw [← HR.out] at this
        exact this)
      obtain ⟨L, hL⟩ : ∃ L, L = R.take k := ⟨_, rfl⟩
      have hLl : L.length ≤ 64 := by rw [hL]; simp; omega
      rw [← hL] at HO HN
      -- the box of the node
      obtain ⟨W1, hW1⟩ : ∃ W1, W1 = wr.alloc (.cells #[.int .i64 (k : Int)] 3) := ⟨_, rfl⟩
      have XW : Ext wr W1 := by rw [hW1]; exact (Ext.refl wr).alloc _
      have v1 : W1.cell? ⟨wr.heap.size, 0, none⟩ = some (.int .i64 (k : Int)) := by rw [hW1]; exact blk_cell (get_alloc_new _ _) 0 rfl
      have vsz : W1.heap.size = wr.heap.size + 1 := by rw [hW1, size_alloc]
      have XX := HX.out.trans XW
      obtain ⟨kc1, kf1⟩ := HK.out W1 XX
      have HT := Lib.hid (taken_tells W1 (w.heap.size + 1) wr.heap.size w.heap.size _ _ N E c k HOK.out (by omega) (by omega) (by omega) kf1 v1 kc1 (HS.out.ext XX) HLL.out (HA.out.ext (HX0.out.trans XX)) (by omega) hkN)
      have HW := Lib.hid (HQ.out W1 k _ _ (HX0.out.trans XX) (by omega) hkN ((ahead_tells W1 wr.heap.size w.heap.size _ c k (by omega) (by omega) v1 kc1 (HS.out.ext XX)).imp fun x hx => by have := near_in HOK.out hx; have := HLL.out; omega))
      have HWD : Hid (((rnear N E k).any fun x => decide ((k : Int) < x) && (col c x == 0)) = waits c (rnear N E k) k) := Lib.hid rfl
      have HXW := Lib.hid XW
      clear hy hL hcell XX XW kc1 vsz
      rw [HWD.out] at HW
      subst hW1
      by_cases h0 : y = 0
      · subst h0
        cases hw : waits c (rnear N E k) k
        · have hm := take1_takes hcol hw
          have hmb := hm.le (M := (rnear N E k).map (col c)) fun x hx => taken_mem hx
          have hrl : (rnear N E (k : Int)).length ≤ 64 := by
            unfold rnear
            have := List.length_filter_le (fun b => decide (btw (k : Int) b ∈ E)) ((List.range N.toNat).map (fun i : Nat => (i : Int)))
            simp at this
            omega
          rw [List.length_map] at hmb
          rw [hw] at HW
          obtain ⟨m, hmd⟩ : ∃ m, m = take1 c (rnear N E k) k := ⟨_, rfl⟩
          rw [← hmd] at hm HN hmb
          have HM := Lib.hid hm
          have hm1 := hm.pos
          clear hm hw hmd hcol
          go_wp2_with (first
            | (go_at_fn g; refine HW.out.mono ?_; rintro e w1 ⟨rfl, hx⟩; have X1 := Lib.hid (HXW.out.trans hx); have T1 := Lib.hid (HT.out.ext hx); clear hx)
            | (go_at_call 43; refine (least_any _ _ _ m T1.out HM.out (by omega)).mono ?_; rintro e w2 ⟨rfl, hx⟩; have X2 := Lib.hid (X1.out.trans hx); have hs2 := Below.size X2.out; clear hx)
            | (at_builtin; refine wpList_append_sl (α := Int) rfl (.tmp 30) (.tmp 32) rfl (w.heap.size + 2) _ L rfl ?_ (.slice (some ⟨_, 0, none⟩) 1 1) [m] rfl ?_ ?_ ?_ ?_; exact ((HO.out.ext X2.out).alloc _); exact (Sl.litAt w2 _ rfl [m] (show (1 : Nat) ≤ 1000000 by decide)); (first | omega | (simp; omega)); exact (by first | omega | (rw [size_alloc]; omega)); intro v3 W3 ho3 ha3; have O3 := Lib.hid ho3; have y3 := Lib.hid (Below.trans (HX.out.trans (X2.out.alloc _)) (Below.mono ha3.below (by rw [size_alloc, size_alloc]; omega))); clear ho3 ha3))
          go_roundw
          case rel => exact ⟨k + 1, by omega, by go_num, Lib.hid (by rw [HN.out]; exact O3.out), y3⟩
          case measure => simp [intOf]; omega
        · have hz : take1 c (rnear N E k) k = 0 := (take1_waits hw).trans hcol
          rw [hz] at HN
          rw [hw] at HW
          clear hz hw hcol HT
          go_wp2_with (first
            | (go_at_fn g; refine HW.out.mono ?_; rintro e w1 ⟨rfl, hx⟩; have X1 := Lib.hid (HXW.out.trans hx); have hs1 := Below.size X1.out; clear hx)
            | (at_builtin; refine wpList_append_sl (α := Int) rfl (.tmp 30) (.tmp 32) rfl (w.heap.size + 2) _ L rfl ?_ (.slice (some ⟨_, 0, none⟩) 1 1) [0] rfl ?_ ?_ ?_ ?_; exact ((HO.out.ext X1.out).alloc _); exact (Sl.litAt w1 _ rfl [0] (show (1 : Nat) ≤ 1000000 by decide)); (first | omega | (simp; omega)); exact (by first | omega | (rw [size_alloc]; omega)); intro v3 W3 ho3 ha3; have O3 := Lib.hid ho3; have y3 := Lib.hid (Below.trans (HX.out.trans (X1.out.alloc _)) (Below.mono ha3.below (by rw [size_alloc, size_alloc]; omega))); clear ho3 ha3))
          go_roundw
          case rel => exact ⟨k + 1, by omega, by go_num, Lib.hid (by rw [HN.out]; exact O3.out), y3⟩
          case measure => simp [intOf]; omega
      · have hz : take1 c (rnear N E k) k = y := (take1_keeps (by rw [hcol]; exact h0)).trans hcol
        rw [hz] at HN
        have e0 : (y == 0) = false := by simp [h0]
        clear hz hcol HT HW h0
        go_wp2_with (first
          | (at_builtin; refine wpList_append_sl (α := Int) rfl (.tmp 30) (.tmp 32) rfl (w.heap.size + 2) _ L rfl ?_ (.slice (some ⟨_, 0, none⟩) 1 1) [y] rfl ?_ ?_ ?_ ?_; exact ((HO.out.alloc _).alloc _); exact (Sl.litAt _ _ (by simp) [y] (show (1 : Nat) ≤ 1000000 by decide)); (first | omega | (simp; omega)); exact (by first | omega | (rw [size_alloc]; omega) | (rw [size_alloc, size_alloc]; omega)); intro v3 W3 ho3 ha3; have O3 := Lib.hid ho3; have y3 := Lib.hid (Below.trans ((HX.out.alloc _).alloc _) (Below.mono ha3.below (by rw [size_alloc, size_alloc]; omega))); clear ho3 ha3))
        go_roundw
        case rel => exact ⟨k + 1, by omega, by go_num, Lib.hid (by rw [HN.out]; exact O3.out), y3⟩
        case measure => simp [intOf]; omega
    · have hkl : k = c.length := by omega
      have ho := HO.out
      rw [hkl, ← HRL.out, List.take_length] at ho
      have HO' := Lib.hid ho
      clear ho HO hkl
      go_wp2
      go_ret
      exact ⟨_, rfl, HO'.out.mono (by omega), HX0.out.trans HX.out⟩

end Go.Proofs.Ytalncechmhmdcaa
