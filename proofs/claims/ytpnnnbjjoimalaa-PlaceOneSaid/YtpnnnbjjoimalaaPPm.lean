/- Layer 12, the program: whether two rows of nodes are the same. -/
import Derived.Test.YtpnnnbjjoimalaaPPc
import Derived.Test.YtpnnnbjjoimalaaRowN
import Derived.IntWalk
import Derived.Shelf.Abstract
namespace Go.Proofs.Ytpnnnbjjoimalaa
open Go.RowKit

theorem keepM {w W : World} {g : Nat} {o : Obj} (h : w.heap[g]? = some o) (e : Ext w W) : W.heap[g]? = some o := (e.block _ (blk_lt h)).trans h

set_option maxRecDepth 100000 in
set_option maxHeartbeats 2000000 in
theorem same1_any (w : World) (id1 ph1 id2 ph2 : Int) (v1 v2 : Value) (L M : List Sd) (h : Sl w v1 L) (g : Sl w v2 M) (t : Bool) (ht : decide ((⟨id1, ph1, L⟩ : Dn) = ⟨id2, ph2, M⟩) = t) :
    Calls Try.prog 41 #[.agg #[.int .i64 id1, .int .i64 ph1, v1], .agg #[.int .i64 id2, .int .i64 ph2, v2]] w fun e w' => e = .returned (.bool t) ∧ Ext w w' := by
  obtain ⟨ao1, c1, rfl⟩ := h.len
  obtain ⟨ao2, c2, rfl⟩ := g.len
  have HS := Lib.hid h
  have HM := Lib.hid g
  have HX0 : Hid (Ext w ((w.alloc (.cells #[.int .i64 id1, .int .i64 ph1, .slice ao1 L.length c1] 39)).alloc (.cells #[.int .i64 id2, .int .i64 ph2, .slice ao2 M.length c2] 39))) := Lib.hid (((Ext.refl w).alloc _).alloc _)
  simp only [Dn.mk.injEq] at ht
  clear h g
  by_cases e1 : id1 = id2
  · by_cases e2 : ph1 = ph2
    · have q1 : (id1 == id2) = true := by simp [e1]
      have q2 : (ph1 == ph2) = true := by simp [e2]
      have HE : Hid (decide (L = M) = t) := Lib.hid (by rw [← ht]; simp [e1, e2])
      clear e1 e2 ht
      go_enter Try.func41, Try.ntmps41
      go_wp2_with (go_at_call 42; refine (equal_sd _ _ _ L M (HS.out.ext HX0.out) (HM.out.ext HX0.out) _ HE.out).mono ?_; rintro e w1 ⟨rfl, hx⟩; have HX := Lib.hid (HX0.out.trans hx); clear hx)
      go_ret
      exact ⟨rfl, HX.out⟩
    · have q1 : (id1 == id2) = true := by simp [e1]
      have q2 : (ph1 == ph2) = false := by simp [e2]
      have HF : Hid (false = t) := Lib.hid (by rw [← ht, decide_eq_false fun e => e2 e.2.1])
      clear e1 e2 ht
      go_enter Try.func41, Try.ntmps41
      go_wp2
      go_ret
      exact ⟨ret_bool HF.out, HX0.out⟩
  · have q1 : (id1 == id2) = false := by simp [e1]
    have HF : Hid (false = t) := Lib.hid (by rw [← ht, decide_eq_false fun e => e1 e.1])
    clear e1 ht
    go_enter Try.func41, Try.ntmps41
    go_wp2
    go_ret
    exact ⟨ret_bool HF.out, HX0.out⟩

set_option maxRecDepth 100000 in
set_option maxHeartbeats 2000000 in
theorem equalFunc_dn (F : Nat → Prop) (w : World) (v1 v2 fv : Value) (L M : List Dn) (h : Ns DV F w v1 L) (h' : Ns DV F w v2 M) (g : FuncId) (hfv : fv = .func (.func g) #[] #[]) (eg : ∀ args w, (callFunc g args).run Try.prog w = .ok (.enter g args) w)
    (hp : ∀ (W : World) (i1 p1 i2 p2 : Int) (u1 u2 : Value) (A B : List Sd) (t : Bool), Sl W u1 A → Sl W u2 B → decide ((⟨i1, p1, A⟩ : Dn) = ⟨i2, p2, B⟩) = t → Calls Try.prog g #[.agg #[.int .i64 i1, .int .i64 p1, u1], .agg #[.int .i64 i2, .int .i64 p2, u2]] W fun e w' => e = .returned (.bool t) ∧ Ext W w') (t : Bool) (ht : decide (L = M) = t) :
    Calls Try.prog 40 #[v1, v2, fv] w fun e w' => e = .returned (.bool t) ∧ Ext w w' := by
  subst hfv
  obtain ⟨ao1, c1, rfl⟩ := h.len
  obtain ⟨ao2, c2, rfl⟩ := h'.len
  have l1 := h.length_le
  have l2 := h'.length_le
  have HS := Lib.hid h
  have HM := Lib.hid h'
  have HP := Lib.hid hp
  have HE := Lib.hid ht
  clear h h' hp ht
  by_cases e3 : L.length = M.length
  · have q3 : ((L.length : Int) != (M.length : Int)) = false := by simp [e3]
    have HL3 := Lib.hid e3
    clear e3
    go_enter Try.func40, Try.ntmps40
    go_wp2
    go_loopw [17] (fun i wr => ∃ k : Nat, k ≤ L.length ∧ i = .int .i64 k ∧ Hid (L.take k = M.take k) ∧ Hid (Ext w wr)) (fun i _ => L.length - (intOf i).toNat)
    case atStart => exact ⟨0, Nat.zero_le _, rfl, Lib.hid rfl, Lib.hid (Ext.refl _)⟩
    case round =>
      obtain ⟨k, hk, rfl, HQ, HX⟩ := hrel
      by_cases hlt : k < L.length
      · have hltM : k < M.length := by have := HL3.out; omega
        obtain ⟨b1, o1, so1, sc1, d, hyk, rfl, hn, hnc, hc63, hb, hsl, hcell⟩ := HS.out.dinerAt hlt
        obtain ⟨b2, o2, so2, sc2, f, hzk, rfl, hn', hnc', hc63', hb', hsl', hcell'⟩ := HM.out.dinerAt hltM
        have HN := Lib.hid (take_eqD hyk hzk)
        obtain ⟨s, hs⟩ : ∃ s, decide (d = f) = s := ⟨_, rfl⟩
        have HYZ := Lib.hid hs
        obtain ⟨d0, d1, d2⟩ := d
        obtain ⟨f0, f1, f2⟩ := f
        dsimp only at hcell hcell' hsl hsl'
        obtain ⟨W1, hW1⟩ : ∃ W1, W1 = wr.alloc (.cells #[.int .i64 d0, .int .i64 d1, .slice so1 d2.length sc1] 39) := ⟨_, rfl⟩
        have x1 : Ext wr W1 := hW1 ▸ (Ext.refl _).alloc _
        have b1' : W1.heap[wr.heap.size]? = some (.cells #[.int .i64 d0, .int .i64 d1, .slice so1 d2.length sc1] 39 (0, 0)) := hW1 ▸ at0 wr _
        obtain ⟨W2, hW2⟩ : ∃ W2, W2 = W1.alloc (.cells #[.int .i64 f0, .int .i64 f1, .slice so2 f2.length sc2] 39) := ⟨_, rfl⟩
        have x2 : Ext W1 W2 := hW2 ▸ (Ext.refl _).alloc _
        have b2' : W2.heap[W1.heap.size]? = some (.cells #[.int .i64 f0, .int .i64 f1, .slice so2 f2.length sc2] 39 (0, 0)) := hW2 ▸ at0 W1 _
        have b3' := keepM b1' x2
        have HX1 := Lib.hid (HX.out.trans x1)
        have HX2 := Lib.hid (HX1.out.trans x2)
        have HSL := Lib.hid (And.intro (hsl.sl.ext HX2.out) (hsl'.sl.ext HX2.out))
        obtain ⟨a0, a1, a2⟩ := hcell wr HX.out
        obtain ⟨z0, z1, z2⟩ := hcell' W1 HX1.out
        have j0 := blk_cell b3' 0 rfl
        have j1 := blk_cell b3' 1 rfl
        have j2 := blk_cell b3' 2 rfl
        have i0 := blk_cell b2' 0 rfl
        have i1 := blk_cell b2' 1 rfl
        have i2 := blk_cell b2' 2 rfl
        have HW1 := Lib.hid hW1
        have HW2 := Lib.hid hW2
        clear hcell hcell' hyk hzk hn hn' hs hsl hsl' x1 x2 b1' b2' b3' hW1 hW2
        go_upto_region 6 with (fail)
        rw [← HW1.out]
        go_upto_region 7 with (fail)
        rw [← HW2.out]
        cases s
        · go_wp2_with (go_at_fn g; refine (HP.out W2 d0 d1 f0 f1 _ _ d2 f2 _ HSL.out.1 HSL.out.2 HYZ.out).mono ?_; rintro e w1 ⟨rfl, hx⟩; have HX3 := Lib.hid (HX2.out.trans hx); clear hx)
          go_ret
          exact ⟨ret_bool (by
            rw [← HE.out]
            exact (decide_eq_false fun e => of_decide_eq_false HYZ.out ((HN.out.1 (by rw [e])).2)).symm), HX3.out⟩
        · go_wp2_with (go_at_fn g; refine (HP.out W2 d0 d1 f0 f1 _ _ d2 f2 _ HSL.out.1 HSL.out.2 HYZ.out).mono ?_; rintro e w1 ⟨rfl, hx⟩; have HX3 := Lib.hid (HX2.out.trans hx); clear hx)
          go_roundw
          case rel => exact ⟨k + 1, by omega, by go_num, Lib.hid (HN.out.2 ⟨HQ.out, of_decide_eq_true HYZ.out⟩), HX3⟩
          case measure => simp [intOf]; omega
      · have hkl : k = L.length := by omega
        have HF : Hid (true = t) := Lib.hid (by
          have hq := HQ.out
          rw [hkl, List.take_length, HL3.out, List.take_length] at hq
          rw [← HE.out, decide_eq_true hq])
        go_wp2
        go_ret
        exact ⟨ret_bool HF.out, HX.out⟩
  · have q3 : ((L.length : Int) != (M.length : Int)) = true := by simp; omega
    have HF : Hid (false = t) := Lib.hid (by rw [← HE.out, decide_eq_false fun e => e3 (by rw [e])])
    clear e3
    go_enter Try.func40, Try.ntmps40
    go_wp2
    go_ret
    exact ⟨ret_bool HF.out, Ext.refl _⟩

set_option maxRecDepth 100000 in
theorem pSame_any (w : World) (v1 v2 : Value) (L M : List Dn) (h : Ns DV Non w v1 L) (g : Ns DV Non w v2 M) (t : Bool) (ht : decide (L = M) = t) :
    Calls Try.prog 23 #[v1, v2] w fun e w' => e = .returned (.bool t) ∧ Ext w w' := by
  have HS := Lib.hid h
  have HM := Lib.hid g
  have HT := Lib.hid ht
  obtain ⟨ao1, c1, rfl⟩ := h.len
  obtain ⟨ao2, c2, rfl⟩ := g.len
  clear h g ht
  go_enter Try.func23, Try.ntmps23
  go_wp2_with (go_at_call 40; refine (equalFunc_dn Non _ _ _ _ L M HS.out HM.out 41 rfl (by intro args w; rfl) (fun W i1 p1 i2 p2 u1 u2 A B t h1 h2 h3 => same1_any W i1 p1 i2 p2 u1 u2 A B h1 h2 t h3) _ HT.out).mono ?_; rintro e w1 ⟨rfl, hx⟩; have HX := Lib.hid hx; clear hx)
  go_ret
  exact ⟨rfl, HX.out⟩

end Go.Proofs.Ytpnnnbjjoimalaa
