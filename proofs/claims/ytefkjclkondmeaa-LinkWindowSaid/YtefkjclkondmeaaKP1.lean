/- The program's ends: Send. -/
import Derived.Test.YtefkjclkondmeaaKP0
import Derived.Test.YtefkjclkondmeaaKF
namespace Go.Proofs.Ytefkjclkondmeaa
open Go.RowKit

/-- a body more, behind an append -/
theorem send_end {w W W2 : World} {p : Nat} {S : EndS} {F : Nat → Prop} {ao a2 : Option Addr} {n c n2 c2 : Nat} {b : ByteArray} (h : EndAt w p S F ao n c) (x : Ext w W)
    (ho : Ow W2 0 (.slice a2 n2 c2) (S.l ++ [b])) (ha : Apd 0 (.slice ao n c) (.slice a2 n2 c2) W W2) (hz : S.sendE b = 0) (r : Value) : MovesE p (S.send b) F r w (.returned r) (W2.setCell ⟨p, 4, none⟩ (.slice a2 n2 c2)) := by
  have hp : p < w.heap.size := blk_lt h.blk
  have hx := x.size
  have hb2 : ∀ k, (Value.slice a2 n2 c2).ownBlock = some k → (Value.slice ao n c).ownBlock = some k ∨ w.heap.size ≤ k := fun k hk => by
    rcases ha.block with h1 | h1
    · exact .inl (h1 ▸ hk)
    · exact .inr (Nat.le_trans hx (h1 k hk))
  have hne : (Value.slice a2 n2 c2).ownBlock ≠ some p := fun e => by
    rcases hb2 p e with h1 | h1
    · exact h.ne h1
    · omega
  have hold : ∀ k, k < w.heap.size → (Value.slice ao n c).ownBlock ≠ some k → W2.heap[k]? = w.heap[k]? := fun k hk hn =>
    (ha.grown.block k (by omega) (fun e => hn e.symm)).trans (x.block k hk)
  have hs : S.send b = { S with l := S.l ++ [b] } := by unfold EndS.send; rw [if_pos hz]
  have ok := h.ok.send b
  rw [hs] at ok ⊢
  refine ⟨fun k => k = p ∨ (Value.slice a2 n2 c2).ownBlock = some k, rfl, ⟨a2, n2, c2, ok, ?_, ?_, hne, fun k => Iff.rfl⟩, ⟨?_, ?_, ?_, ?_, ?_⟩, ?_⟩
  · exact blk_set ((hold p hp h.ne).trans h.blk) 4 _
  · exact ow_at ho fun k hk => set_other _ _ _ _ (by show k ≠ p; intro e; exact hne (e ▸ hk))
  · exact ha.below.os.trans x.os
  · exact ha.below.tape.trans x.tape
  · exact ha.below.output.trans x.output
  · rw [set_size]; exact Nat.le_trans hx ha.below.size
  · intro k hk hn
    rw [set_other _ _ _ _ (by show k ≠ p; intro e; exact hn (e ▸ h.at))]
    exact hold k hk fun e => hn ((h.fp k).2 (.inr e))
  · rintro k (rfl | hk)
    · exact .inl h.at
    · rcases hb2 k hk with h1 | h1
      · exact .inl ((h.fp k).2 (.inr h1))
      · exact .inr h1

set_option maxHeartbeats 1600000 in
theorem pSend {w : World} {p : Nat} {S : EndS} {F : Nat → Prop} (h0 : EAt w p S F) (b : ByteArray) (hb : b.size ≤ 1000) :
    Calls Try.prog 13 #[.pointer (some ⟨p, 0, none⟩), .string b] w (MovesE p (S.send b) F (.int .i64 (S.sendE b : Nat)) w) := by
  have HM := Lib.hid (same_moves h0)
  obtain ⟨ao, n, c, h⟩ := h0
  obtain ⟨ao', c', hv⟩ := h.own.sl.len
  simp only [Value.slice.injEq] at hv
  obtain ⟨rfl, rfl, rfl⟩ := hv
  have h1 := h.ok.len
  have h2 := h.ok.qn
  have H := Lib.hid h
  have HC := Lib.hid (fun W (x : Ext w W) => cells11 (h.ext x).blk)
  have HE := Lib.hid (fun W W2 a2 n2 c2 (x : Ext w W) ho ha hz r => send_end (W2 := W2) (a2 := a2) (n2 := n2) (c2 := c2) (b := b) h x ho ha hz r)
  have hblk := h.blk
  clear h
  by_cases h64 : 64 < b.size
  · have hs : S.sendE b = 90 := if_pos h64
    have hs2 : S.send b = S := by unfold EndS.send; rw [hs, if_neg (by decide)]
    rw [hs, hs2]
    have t1 : (64 : Int) < (b.size : Int) := by omega
    clear h64 h1 h2 hs hs2 hblk
    go_enter Try.func13, Try.ntmps13
    go_wp2
    go_ret
    exact HM.out _ (by repeat (first | exact Ext.refl _ | assumption | refine Ext.alloc ?_ _ | refine Ext.drew ?_ | refine Ext.drewN ?_ _)) _
  · have t1 : ¬ (64 : Int) < (b.size : Int) := by omega
    by_cases hf : S.l.length = S.qn
    · have hs : S.sendE b = 91 := (if_neg h64).trans (if_pos (by omega))
      have hs2 : S.send b = S := by unfold EndS.send; rw [hs, if_neg (by decide)]
      rw [hs, hs2]
      have t2 : ((S.l.length : Int) == (S.qn : Int)) = true := beq_iff_eq.2 (by omega)
      obtain ⟨e, win, qn, wait, l, first, out, ever, want, owes, age⟩ := S
      unfold rCells at hblk
      dsimp only at t2 hblk ⊢
      obtain ⟨⟨c0, c1, c2, c3, c4, c5, c6, c7, c8, c9, c10⟩, _⟩ := cells11 hblk
      clear h64 h1 h2 hs hs2 hf hblk
      go_enter Try.func13, Try.ntmps13
      go_wp2
      go_quiet (fail)
      go_wp2
      go_ret
      exact HM.out _ (by repeat (first | exact Ext.refl _ | assumption | refine Ext.alloc ?_ _ | refine Ext.drew ?_ | refine Ext.drewN ?_ _)) _
    · have hs : S.sendE b = 0 := (if_neg h64).trans (if_neg (by omega))
      rw [hs]
      have HZ := Lib.hid hs
      have t2 : ((S.l.length : Int) == (S.qn : Int)) = false := beq_eq_false_iff_ne.2 (by omega)
      have hl : S.l.length ≤ 64 := by omega
      have hp : p < w.heap.size := blk_lt hblk
      have HCL := Lib.hid (fun W => clone_any W b (by omega))
      obtain ⟨e, win, qn, wait, l, first, out, ever, want, owes, age⟩ := S
      unfold rCells at hblk
      dsimp only at t2 hblk hl ⊢
      obtain ⟨⟨c0, c1, c2, c3, c4, c5, c6, c7, c8, c9, c10⟩, ⟨f0, f1, f2, f3, f4, f5, f6, f7, f8, f9, f10⟩⟩ := cells11 hblk
      clear h64 h1 h2 hs hf hblk hb
      go_enter Try.func13, Try.ntmps13
      go_wp2
      go_quiet (fail)
      go_wp2_with fail
      (refine wp_region_X_lit (K := fun _ => True) (by kernel_rfl) (fun w1 hw1 => ?_))
      replace hw1 : Ext w w1 := Ext.trans (Ext.drewN (Ext.refl w) _) hw1
      have HX1 := Lib.hid hw1
      have d4 := (HC.out w1 hw1).1.2.2.2.2.1
      clear hw1
      (refine xtakeV 0 (v := ?_) (by simp only [List.getElem?_toArray, List.getElem?_cons, reduceIte]; rfl) (by kernel_rfl) (by rfl) (fun w' hw' => ?_) ?_; rotate_left; focus (skip; go_simp; first | done | with_reducible rfl)); (simp only [Act.put, List.setIfInBounds_toArray, List.set])
      (refine xtakeV 1 (v := ?_) (by simp only [List.getElem?_toArray, List.getElem?_cons, reduceIte]; rfl) (by kernel_rfl) (by rfl) (fun w' hw' => ?_) ?_; rotate_left; focus (skip; go_simp; first | done | with_reducible rfl)); (simp only [Act.put, List.setIfInBounds_toArray, List.set])
      (refine xtakeV 2 (v := ?_) (by simp only [List.getElem?_toArray, List.getElem?_cons, reduceIte]; rfl) (by kernel_rfl) (by rfl) (fun w' hw' => ?_) ?_; rotate_left; focus (skip; go_simp; first | done | with_reducible rfl)); (simp only [Act.put, List.setIfInBounds_toArray, List.set])
      (refine xtakeV 3 (v := ?_) (by simp only [List.getElem?_toArray, List.getElem?_cons, reduceIte]; rfl) (by kernel_rfl) (by rfl) (fun w' hw' => ?_) ?_; rotate_left; focus (skip; go_simp; first | done | with_reducible rfl)); (simp only [Act.put, List.setIfInBounds_toArray, List.set])
      (refine xtakeV 5 (v := ?_) (by simp only [List.getElem?_toArray, List.getElem?_cons, reduceIte]; rfl) (by kernel_rfl) (by rfl) (fun w' hw' => ?_) ?_; rotate_left; focus (skip; go_simp; first | done | with_reducible rfl)); (simp only [Act.put, List.setIfInBounds_toArray, List.set])
      (refine xtwo 4 6 (by kernel_rfl) (trivial) (RunX.of 4 (by simp only [List.getElem?_toArray, List.getElem?_cons, reduceIte]; rfl) (by rfl) ?_) (RunX.of 6 (by simp only [List.getElem?_toArray, List.getElem?_cons, reduceIte]; rfl) (by rfl) ?_))
      · go_simp
        (try (simp only [Act.put, List.setIfInBounds_toArray, List.set]))
        (refine xone 6 (by kernel_rfl) (trivial) (RunX.of 6 (by simp only [List.getElem?_toArray, List.getElem?_cons, reduceIte]; rfl) (by rfl) ?_))
        go_simp
        refine (HCL.out _).mono ?_
        rintro e2 w2 ⟨rfl, hx2⟩
        have HX2 := Lib.hid (Ext.trans HX1.out hx2)
        clear hx2
        dsimp only
        (try (simp only [Act.put, List.setIfInBounds_toArray, List.set]))
        (refine xone 7 (by kernel_rfl) (trivial) (RunX.of 7 (by simp only [List.getElem?_toArray, List.getElem?_cons, reduceIte]; rfl) (by rfl) ?_))
        go_simp
        (try (simp only [Act.put, List.setIfInBounds_toArray, List.set]))
        (refine xone 8 (by kernel_rfl) (trivial) (RunX.of 8 (by simp only [List.getElem?_toArray, List.getElem?_cons, reduceIte]; rfl) (by rfl) ?_))
        (refine wp_append_sl (α := ByteArray) (.tmp 22) (.tmp 25) rfl 0 (.slice ao l.length c) l rfl ?_ (.slice (some ⟨_, 0, none⟩) 1 1) [b] rfl ?_ ?_ ?_ ?_; exact ((H.out.ext (HX2.out.alloc (.cells #[.string b] 9))).own); exact (Sl.litAt w2 _ rfl [b] (show (1 : Nat) ≤ 1000000 by decide)); (first | omega | (simp; omega)); (exact Nat.zero_le _); intro v2 W2 ho2 ha2)
        obtain ⟨a2, n2, c2, rfl⟩ := ho2.sh
        have hend := HE.out _ W2 a2 n2 c2 (HX2.out.alloc (.cells #[.string b] 9)) ho2 ha2 HZ.out (.int .i64 0)
        have hk2 : W2.heap[p]? = w.heap[p]? := by have hx := Below.size (HX2.out.alloc (.cells #[.string b] 9)); exact (ha2.grown.block p (by omega) (fun e => H.out.ne e.symm)).trans (((HX2.out.alloc (.cells #[.string b] 9))).block p hp)
        have k4 := blk_cell (hk2.trans H.out.blk) 4 rfl
        have g4 := blk_free (hk2.trans H.out.blk) 4
        unfold rCells at k4
        dsimp only at k4
        have HEND := Lib.hid hend
        clear ho2 ha2 hk2 hend
        dsimp only
        (try (simp only [Act.put, List.setIfInBounds_toArray, List.set]))
        (refine xtakeV 9 (v := ?_) (by simp only [List.getElem?_toArray, List.getElem?_cons, reduceIte]; rfl) (by kernel_rfl) (by rfl) (fun w' hw' => ?_) ?_; rotate_left; focus (skip; go_simp; first | done | with_reducible rfl)); (simp only [Act.put, List.setIfInBounds_toArray, List.set])
        (refine xtakeV 10 (v := ?_) (by simp only [List.getElem?_toArray, List.getElem?_cons, reduceIte]; rfl) (by kernel_rfl) (by rfl) (fun w' hw' => ?_) ?_; rotate_left; focus (skip; go_simp; first | done | with_reducible rfl)); (simp only [Act.put, List.setIfInBounds_toArray, List.set])
        (refine xone 11 (by kernel_rfl) (trivial) (RunX.of 11 (by simp only [List.getElem?_toArray, List.getElem?_cons, reduceIte]; rfl) (by rfl) ?_))
        go_simp
        (try (simp only [Act.put, List.setIfInBounds_toArray, List.set]))
        (refine xdone (by kernel_rfl) (trivial) ?_)
        go_wp2
        go_ret
        exact HEND.out
      · go_simp
        refine (HCL.out _).mono ?_
        rintro e2 w2 ⟨rfl, hx2⟩
        have HX2 := Lib.hid (Ext.trans HX1.out hx2)
        clear hx2
        dsimp only
        (try (simp only [Act.put, List.setIfInBounds_toArray, List.set]))
        (refine xtwo 4 7 (by kernel_rfl) (trivial) (RunX.of 4 (by simp only [List.getElem?_toArray, List.getElem?_cons, reduceIte]; rfl) (by rfl) ?_) (RunX.of 7 (by simp only [List.getElem?_toArray, List.getElem?_cons, reduceIte]; rfl) (by rfl) ?_))
        · have d5 := (HC.out w2 HX2.out).1.2.2.2.2.1
          go_simp
          (try (simp only [Act.put, List.setIfInBounds_toArray, List.set]))
          (refine xone 7 (by kernel_rfl) (trivial) (RunX.of 7 (by simp only [List.getElem?_toArray, List.getElem?_cons, reduceIte]; rfl) (by rfl) ?_))
          go_simp
          (try (simp only [Act.put, List.setIfInBounds_toArray, List.set]))
          (refine xone 8 (by kernel_rfl) (trivial) (RunX.of 8 (by simp only [List.getElem?_toArray, List.getElem?_cons, reduceIte]; rfl) (by rfl) ?_))
          (refine wp_append_sl (α := ByteArray) (.tmp 22) (.tmp 25) rfl 0 (.slice ao l.length c) l rfl ?_ (.slice (some ⟨_, 0, none⟩) 1 1) [b] rfl ?_ ?_ ?_ ?_; exact ((H.out.ext (HX2.out.alloc (.cells #[.string b] 9))).own); exact (Sl.litAt w2 _ rfl [b] (show (1 : Nat) ≤ 1000000 by decide)); (first | omega | (simp; omega)); (exact Nat.zero_le _); intro v2 W2 ho2 ha2)
          obtain ⟨a2, n2, c2, rfl⟩ := ho2.sh
          have hend := HE.out _ W2 a2 n2 c2 (HX2.out.alloc (.cells #[.string b] 9)) ho2 ha2 HZ.out (.int .i64 0)
          have hk2 : W2.heap[p]? = w.heap[p]? := by have hx := Below.size (HX2.out.alloc (.cells #[.string b] 9)); exact (ha2.grown.block p (by omega) (fun e => H.out.ne e.symm)).trans (((HX2.out.alloc (.cells #[.string b] 9))).block p hp)
          have k4 := blk_cell (hk2.trans H.out.blk) 4 rfl
          have g4 := blk_free (hk2.trans H.out.blk) 4
          unfold rCells at k4
          dsimp only at k4
          have HEND := Lib.hid hend
          clear ho2 ha2 hk2 hend
          dsimp only
          (try (simp only [Act.put, List.setIfInBounds_toArray, List.set]))
          (refine xtakeV 9 (v := ?_) (by simp only [List.getElem?_toArray, List.getElem?_cons, reduceIte]; rfl) (by kernel_rfl) (by rfl) (fun w' hw' => ?_) ?_; rotate_left; focus (skip; go_simp; first | done | with_reducible rfl)); (simp only [Act.put, List.setIfInBounds_toArray, List.set])
          (refine xtakeV 10 (v := ?_) (by simp only [List.getElem?_toArray, List.getElem?_cons, reduceIte]; rfl) (by kernel_rfl) (by rfl) (fun w' hw' => ?_) ?_; rotate_left; focus (skip; go_simp; first | done | with_reducible rfl)); (simp only [Act.put, List.setIfInBounds_toArray, List.set])
          (refine xone 11 (by kernel_rfl) (trivial) (RunX.of 11 (by simp only [List.getElem?_toArray, List.getElem?_cons, reduceIte]; rfl) (by rfl) ?_))
          go_simp
          (try (simp only [Act.put, List.setIfInBounds_toArray, List.set]))
          (refine xdone (by kernel_rfl) (trivial) ?_)
          go_wp2
          go_ret
          exact HEND.out
        · go_simp
          (try (simp only [Act.put, List.setIfInBounds_toArray, List.set]))
          have d5 := (HC.out _ (HX2.out.alloc (.cells #[.string b] 9))).1.2.2.2.2.1
          (refine xone 4 (by kernel_rfl) (trivial) (RunX.of 4 (by simp only [List.getElem?_toArray, List.getElem?_cons, reduceIte]; rfl) (by rfl) ?_))
          go_simp
          (try (simp only [Act.put, List.setIfInBounds_toArray, List.set]))
          (refine xone 8 (by kernel_rfl) (trivial) (RunX.of 8 (by simp only [List.getElem?_toArray, List.getElem?_cons, reduceIte]; rfl) (by rfl) ?_))
          (refine wp_append_sl (α := ByteArray) (.tmp 22) (.tmp 25) rfl 0 (.slice ao l.length c) l rfl ?_ (.slice (some ⟨_, 0, none⟩) 1 1) [b] rfl ?_ ?_ ?_ ?_; exact ((H.out.ext (HX2.out.alloc (.cells #[.string b] 9))).own); exact (Sl.litAt w2 _ rfl [b] (show (1 : Nat) ≤ 1000000 by decide)); (first | omega | (simp; omega)); (exact Nat.zero_le _); intro v2 W2 ho2 ha2)
          obtain ⟨a2, n2, c2, rfl⟩ := ho2.sh
          have hend := HE.out _ W2 a2 n2 c2 (HX2.out.alloc (.cells #[.string b] 9)) ho2 ha2 HZ.out (.int .i64 0)
          have hk2 : W2.heap[p]? = w.heap[p]? := by have hx := Below.size (HX2.out.alloc (.cells #[.string b] 9)); exact (ha2.grown.block p (by omega) (fun e => H.out.ne e.symm)).trans (((HX2.out.alloc (.cells #[.string b] 9))).block p hp)
          have k4 := blk_cell (hk2.trans H.out.blk) 4 rfl
          have g4 := blk_free (hk2.trans H.out.blk) 4
          unfold rCells at k4
          dsimp only at k4
          have HEND := Lib.hid hend
          clear ho2 ha2 hk2 hend
          dsimp only
          (try (simp only [Act.put, List.setIfInBounds_toArray, List.set]))
          (refine xtakeV 9 (v := ?_) (by simp only [List.getElem?_toArray, List.getElem?_cons, reduceIte]; rfl) (by kernel_rfl) (by rfl) (fun w' hw' => ?_) ?_; rotate_left; focus (skip; go_simp; first | done | with_reducible rfl)); (simp only [Act.put, List.setIfInBounds_toArray, List.set])
          (refine xtakeV 10 (v := ?_) (by simp only [List.getElem?_toArray, List.getElem?_cons, reduceIte]; rfl) (by kernel_rfl) (by rfl) (fun w' hw' => ?_) ?_; rotate_left; focus (skip; go_simp; first | done | with_reducible rfl)); (simp only [Act.put, List.setIfInBounds_toArray, List.set])
          (refine xone 11 (by kernel_rfl) (trivial) (RunX.of 11 (by simp only [List.getElem?_toArray, List.getElem?_cons, reduceIte]; rfl) (by rfl) ?_))
          go_simp
          (try (simp only [Act.put, List.setIfInBounds_toArray, List.set]))
          (refine xdone (by kernel_rfl) (trivial) ?_)
          go_wp2
          go_ret
          exact HEND.out
end Go.Proofs.Ytefkjclkondmeaa
