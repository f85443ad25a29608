/- Layer 10's document: Come: nothing comes, or no frame. -/
import Derived.Test.YtlakolkpfkakoaaGreatDoorMJH
namespace Go.Proofs.YtlakolkpfkakoaaGreatDoor
open Go.RowKit

set_option linter.unusedVariables false

theorem come_yes {P : PipeS} {s k : Int} (ht : P.there s k = true) :
    P.come s k = (if whatN (P.net.look (1 - s) s k) = 0 then ({ P with net := P.net.deliver (1 - s) s k } : PipeS).takeF s (frOf (P.net.look (1 - s) s k)) else { P with net := P.net.deliver (1 - s) s k }) ∧
    P.comeY s k = (decide (whatN (P.net.look (1 - s) s k) = 0) && (P.end' s).told (frOf (P.net.look (1 - s) s k))) ∧
    P.comeB s k = if P.comeY s k = true then (frOf (P.net.look (1 - s) s k)).b else ⟨#[]⟩ := by
  have hi : P.isF s k = decide (whatN (P.net.look (1 - s) s k) = 0) := by unfold PipeS.isF; rw [ht, Bool.true_and]; rfl
  refine ⟨?_, ?_, rfl⟩
  · unfold PipeS.come
    rw [hi]
    by_cases h0 : whatN (P.net.look (1 - s) s k) = 0
    · rw [if_pos (decide_eq_true h0), if_pos h0]; rfl
    · rw [if_neg (by simpa using h0), if_neg h0]; rfl
  · unfold PipeS.comeY
    rw [hi]; rfl

set_option maxRecDepth 50000 in
set_option maxHeartbeats 12800000 in
theorem rComeNo (F : Nat → Prop) (w : World) (hF : ∀ k, F k → k < w.heap.size) (P : PipeS) (l0 l1 g0 g1 ws : SV) (m : Nat) (ok : P.Ok) (h : RP F w P l0 l1 g0 g1 ws m) (hm : m ≤ 5000) (two : P.net.n = 2) (s k : Int) (hth0 : P.there s k = false) (hsd : PipeS.side s = false) :
    Calls Tryz.prog 15 #[.agg (pcs P l0 l1 g0 g1 ws), .int .i64 s, .int .i64 k] w fun ev w' => ∃ v', ev = .returned (.tuple #[v', .string (P.comeB s k), .bool (P.comeY s k)]) ∧ RPipe F w' v' (P.come s k) (m + 1) ∧ Ext w w' := by
  have H := Lib.hid h
  have HF := Lib.hid hF
  have okN := ok.net
  have okE0 := ok.e0
  have okE1 := ok.e1
  have wr := net_wrap okN two s k 0
  obtain ⟨c1, c2, c3⟩ := PipeS.come_no hth0
  rw [c1, c2, c3]
  have hl : P.net.deliver (1 - s) s k = P.net := congrArg PipeS.net (PipeS.lose_no hth0)
  have hth : P.net.there (1 - s) s k = false := hth0
  obtain ⟨⟨e0, y0, q0, t0, L0, f0, o0, v0, d0, s0, x0⟩, ⟨e1, y1, q1, t1, L1, f1, o1, v1, d1, s1, x1⟩, G0, G1, N⟩ := P
  obtain ⟨la, ln, lc⟩ := l0
  obtain ⟨ma, mn, mc⟩ := l1
  obtain ⟨ga, gn, gc⟩ := g0
  obtain ⟨ha, hn, hc⟩ := g1
  obtain ⟨wa, wn, wc⟩ := ws
  dsimp only at okN wr okE0 okE1
  have HR := Lib.hid (fun (W : World) (x : Ext w W) => H.out.boxes (n := 2) x)
  have HNT := Lib.hid (fun (W : World) (x : Ext w W) => (HR.out W x).net)
  have HG : Hid (∀ (W : World), w.heap.size + 2 ≤ W.heap.size → ∀ k, (fun k => F k ∨ (w.heap.size ≤ k ∧ k < w.heap.size + 2)) k → k < W.heap.size) := Lib.hid (fun W hW k hk => by
    rcases hk with hk | hk
    · have := HF.out k hk; omega
    · omega)
  dsimp only at hl hth
  obtain ⟨N', hN'⟩ : ∃ N', N' = N.deliver (1 - s) s k := ⟨_, rfl⟩
  obtain ⟨B, hB⟩ : ∃ B, B = N.look (1 - s) s k := ⟨_, rfl⟩
  obtain ⟨O, hO⟩ : ∃ O, IntKind.i64.wrap (1 - s) = O := ⟨_, rfl⟩
  obtain ⟨h0', h1'⟩ := PipeS.side_no hsd
  have t0' : (s != 0) = true := bne_iff_ne.2 h0'
  have t1' : (s != 1) = true := bne_iff_ne.2 h1'
  have HD : Hid (∀ (G : Nat → Prop) (W : World), (∀ k, G k → k < W.heap.size) → RNet G W (.agg #[.int .i64 N.n, .int .i64 N.room, .slice wa wn wc]) N m → Calls Tryz.prog 52 #[.agg #[.int .i64 N.n, .int .i64 N.room, .slice wa wn wc], .int .i64 O, .int .i64 s, .int .i64 k] W (fun e w' => ∃ v', e = .returned (.tuple #[v', .string B, .bool false]) ∧ RNet G w' v' N' (m + 1) ∧ Ext W w')) := Lib.hid (fun G W hW hv => by
    have h9 := refDeliver_any G W hW _ N m hv hm okN (IntKind.i64.wrap (1 - s)) s k
    rw [wr.1, wr.2.1, wr.2.2.1, ← hN', ← hB, hth] at h9
    rw [hO] at h9
    exact h9)
  unfold pcs
  dsimp only [SV.v]
  clear h hF ok hN' hB wr okN two hm c1 c2 c3 hl hth hth0 okE0 okE1 hsd h0' h1'
  go_enter Tryz.func15, Tryz.ntmps15
  go_wp2_with fail
  refine (HD.out (fun k => F k ∨ (w.heap.size ≤ k ∧ k < w.heap.size + 2)) _ (HG.out _ (by rw [size_alloc, size_alloc]; omega)) (HNT.out _ (Ext.alloc (Ext.alloc (Ext.refl w) _) _))).mono ?_
  rintro ev w2 ⟨v2, rfl, ⟨za, zn, zc, L9, rfl, hr9⟩, x2⟩
  have HX2 := Lib.hid (Ext.trans (Ext.alloc (Ext.alloc (Ext.refl w) _) _) x2)
  have HN2 : Hid (RNet (fun k => F k ∨ (w.heap.size ≤ k ∧ k < w.heap.size + 2)) w2 (.agg #[.int .i64 N'.n, .int .i64 N'.room, .slice za zn zc]) N' (m + 1)) := Lib.hid ⟨za, zn, zc, L9, rfl, hr9⟩
  have k2 : w2.heap[w.heap.size]? = some (.cells #[.int .i64 e0, .int .i64 y0, .int .i64 q0, .int .i64 t0, .slice la ln lc, .int .u64 f0, .int .i64 o0, .int .i64 v0, .int .u64 d0, .bool s0, .int .i64 x0, .int .i64 e1, .int .i64 y1, .int .i64 q1, .int .i64 t1, .slice ma mn mc, .int .u64 f1, .int .i64 o1, .int .i64 v1, .int .u64 d1, .bool s1, .int .i64 x1, .slice ga gn gc, .slice ha hn hc, .int .i64 N.n, .int .i64 N.room, .slice wa wn wc] 35 (0, 0)) ∧ w2.heap[w.heap.size + 1]? = some (.cells #[.int .i64 0, .int .i64 0, .int .i64 0, .int .i64 0, .slice none 0 0, .int .u64 0, .int .i64 0, .int .i64 0, .int .u64 0, .bool false, .int .i64 0, .int .i64 0, .int .i64 0, .int .i64 0, .int .i64 0, .slice none 0 0, .int .u64 0, .int .i64 0, .int .i64 0, .int .u64 0, .bool false, .int .i64 0, .slice none 0 0, .slice none 0 0, .int .i64 0, .int .i64 0, .slice none 0 0] 35 (0, 0)) := ⟨(x2.block _ (by rw [size_alloc, size_alloc]; omega)).trans (old1 (at0 w _) _), (x2.block _ (by rw [size_alloc, size_alloc]; omega)).trans (at1 w _ _)⟩
  clear x2 hr9
  dsimp only
  go_wp2_with (first | refine haltst 35 ?_ | refine haltld 35 ?_)
  refine .inl ?_
  refine ld_l 35 (.tmp 3) (w.heap.size) 35 #[.int .i64 e0, .int .i64 y0, .int .i64 q0, .int .i64 t0, .slice la ln lc, .int .u64 f0, .int .i64 o0, .int .i64 v0, .int .u64 d0, .bool s0, .int .i64 x0, .int .i64 e1, .int .i64 y1, .int .i64 q1, .int .i64 t1, .slice ma mn mc, .int .u64 f1, .int .i64 o1, .int .i64 v1, .int .u64 d1, .bool s1, .int .i64 x1, .slice ga gn gc, .slice ha hn hc, .int .i64 N.n, .int .i64 N.room, .slice wa wn wc] rfl (old1 k2.1 _) uPipe (by kernel_rfl) ?_
  go_wp2_with (first | refine haltst 35 ?_ | refine haltld 35 ?_)
  refine .inl ?_
  refine st_l 35 (.tmp 6) (.tmp 39) (w.heap.size + 1) 0 35 #[.int .i64 0, .int .i64 0, .int .i64 0, .int .i64 0, .slice none 0 0, .int .u64 0, .int .i64 0, .int .i64 0, .int .u64 0, .bool false, .int .i64 0, .int .i64 0, .int .i64 0, .int .i64 0, .int .i64 0, .slice none 0 0, .int .u64 0, .int .i64 0, .int .i64 0, .int .u64 0, .bool false, .int .i64 0, .slice none 0 0, .slice none 0 0, .int .i64 0, .int .i64 0, .slice none 0 0] #[.int .i64 e0, .int .i64 y0, .int .i64 q0, .int .i64 t0, .slice la ln lc, .int .u64 f0, .int .i64 o0, .int .i64 v0, .int .u64 d0, .bool s0, .int .i64 x0, .int .i64 e1, .int .i64 y1, .int .i64 q1, .int .i64 t1, .slice ma mn mc, .int .u64 f1, .int .i64 o1, .int .i64 v1, .int .u64 d1, .bool s1, .int .i64 x1, .slice ga gn gc, .slice ha hn hc, .int .i64 N.n, .int .i64 N.room, .slice wa wn wc] #[.int .i64 e0, .int .i64 y0, .int .i64 q0, .int .i64 t0, .slice la ln lc, .int .u64 f0, .int .i64 o0, .int .i64 v0, .int .u64 d0, .bool s0, .int .i64 x0, .int .i64 e1, .int .i64 y1, .int .i64 q1, .int .i64 t1, .slice ma mn mc, .int .u64 f1, .int .i64 o1, .int .i64 v1, .int .u64 d1, .bool s1, .int .i64 x1, .slice ga gn gc, .slice ha hn hc, .int .i64 N.n, .int .i64 N.room, .slice wa wn wc] rfl rfl (old1 k2.2 _) (by kernel_rfl) (by simp) rfl rfl ?_
  intro W4 hb4 ho4
  go_wp2
  exact bodyPost_ret (v := .tuple #[.agg #[.int .i64 e0, .int .i64 y0, .int .i64 q0, .int .i64 t0, .slice la ln lc, .int .u64 f0, .int .i64 o0, .int .i64 v0, .int .u64 d0, .bool s0, .int .i64 x0, .int .i64 e1, .int .i64 y1, .int .i64 q1, .int .i64 t1, .slice ma mn mc, .int .u64 f1, .int .i64 o1, .int .i64 v1, .int .u64 d1, .bool s1, .int .i64 x1, .slice ga gn gc, .slice ha hn hc, .int .i64 N.n, .int .i64 N.room, .slice wa wn wc], .string ⟨#[]⟩, .bool false]) (res_ctt 7 8 rfl rfl hb4 uPipe (by kernel_rfl)) rfl ⟨_, rfl, (((HR.out _ HX2.out).ext (Ext.alloc (Ext.refl w2) _)).drop ho4 (by omega)).to.more (Nat.le_succ m), ext_off (Ext.trans HX2.out (Ext.alloc (Ext.refl w2) _)) ho4 (fun k hk => by omega)⟩

set_option maxRecDepth 50000 in
set_option maxHeartbeats 12800000 in
theorem rComeNo0 (F : Nat → Prop) (w : World) (hF : ∀ k, F k → k < w.heap.size) (P : PipeS) (l0 l1 g0 g1 ws : SV) (m : Nat) (ok : P.Ok) (h : RP F w P l0 l1 g0 g1 ws m) (hm : m ≤ 5000) (two : P.net.n = 2) (k : Int) (hth0 : P.there 0 k = false) :
    Calls Tryz.prog 15 #[.agg (pcs P l0 l1 g0 g1 ws), .int .i64 0, .int .i64 k] w fun ev w' => ∃ v', ev = .returned (.tuple #[v', .string (P.comeB 0 k), .bool (P.comeY 0 k)]) ∧ RPipe F w' v' (P.come 0 k) (m + 1) ∧ Ext w w' := by
  have H := Lib.hid h
  have HF := Lib.hid hF
  have okN := ok.net
  have okE0 := ok.e0
  have okE1 := ok.e1
  have wr := net_wrap okN two 0 k 0
  obtain ⟨c1, c2, c3⟩ := PipeS.come_no hth0
  rw [c1, c2, c3]
  have hl : P.net.deliver (1 - 0) 0 k = P.net := congrArg PipeS.net (PipeS.lose_no hth0)
  have hth : P.net.there (1 - 0) 0 k = false := hth0
  obtain ⟨⟨e0, y0, q0, t0, L0, f0, o0, v0, d0, s0, x0⟩, ⟨e1, y1, q1, t1, L1, f1, o1, v1, d1, s1, x1⟩, G0, G1, N⟩ := P
  obtain ⟨la, ln, lc⟩ := l0
  obtain ⟨ma, mn, mc⟩ := l1
  obtain ⟨ga, gn, gc⟩ := g0
  obtain ⟨ha, hn, hc⟩ := g1
  obtain ⟨wa, wn, wc⟩ := ws
  dsimp only at okN wr okE0 okE1
  have HR := Lib.hid (fun (W : World) (x : Ext w W) => H.out.boxes (n := 2) x)
  have HNT := Lib.hid (fun (W : World) (x : Ext w W) => (HR.out W x).net)
  have HG : Hid (∀ (W : World), w.heap.size + 2 ≤ W.heap.size → ∀ k, (fun k => F k ∨ (w.heap.size ≤ k ∧ k < w.heap.size + 2)) k → k < W.heap.size) := Lib.hid (fun W hW k hk => by
    rcases hk with hk | hk
    · have := HF.out k hk; omega
    · omega)
  dsimp only at hl hth
  obtain ⟨N', hN'⟩ : ∃ N', N' = N.deliver (1 - 0) 0 k := ⟨_, rfl⟩
  obtain ⟨B, hB⟩ : ∃ B, B = N.look (1 - 0) 0 k := ⟨_, rfl⟩
  have HD : Hid (∀ (G : Nat → Prop) (W : World), (∀ k, G k → k < W.heap.size) → RNet G W (.agg #[.int .i64 N.n, .int .i64 N.room, .slice wa wn wc]) N m → Calls Tryz.prog 52 #[.agg #[.int .i64 N.n, .int .i64 N.room, .slice wa wn wc], .int .i64 1, .int .i64 0, .int .i64 k] W (fun e w' => ∃ v', e = .returned (.tuple #[v', .string B, .bool false]) ∧ RNet G w' v' N' (m + 1) ∧ Ext W w')) := Lib.hid (fun G W hW hv => by
    have h9 := refDeliver_any G W hW _ N m hv hm okN (1 - 0) 0 k
    rw [← hN', ← hB, hth] at h9
    exact h9)
  unfold pcs
  dsimp only [SV.v]
  clear h hF ok hN' hB wr okN two hm c1 c2 c3 hl hth hth0 okE0 okE1
  go_enter Tryz.func15, Tryz.ntmps15
  go_wp2_with fail
  refine (HD.out (fun k => F k ∨ (w.heap.size ≤ k ∧ k < w.heap.size + 2)) _ (HG.out _ (by rw [size_alloc, size_alloc]; omega)) (HNT.out _ (Ext.alloc (Ext.alloc (Ext.refl w) _) _))).mono ?_
  rintro ev w2 ⟨v2, rfl, ⟨za, zn, zc, L9, rfl, hr9⟩, x2⟩
  have HX2 := Lib.hid (Ext.trans (Ext.alloc (Ext.alloc (Ext.refl w) _) _) x2)
  have HN2 : Hid (RNet (fun k => F k ∨ (w.heap.size ≤ k ∧ k < w.heap.size + 2)) w2 (.agg #[.int .i64 N'.n, .int .i64 N'.room, .slice za zn zc]) N' (m + 1)) := Lib.hid ⟨za, zn, zc, L9, rfl, hr9⟩
  have k2 : w2.heap[w.heap.size]? = some (.cells #[.int .i64 e0, .int .i64 y0, .int .i64 q0, .int .i64 t0, .slice la ln lc, .int .u64 f0, .int .i64 o0, .int .i64 v0, .int .u64 d0, .bool s0, .int .i64 x0, .int .i64 e1, .int .i64 y1, .int .i64 q1, .int .i64 t1, .slice ma mn mc, .int .u64 f1, .int .i64 o1, .int .i64 v1, .int .u64 d1, .bool s1, .int .i64 x1, .slice ga gn gc, .slice ha hn hc, .int .i64 N.n, .int .i64 N.room, .slice wa wn wc] 35 (0, 0)) ∧ w2.heap[w.heap.size + 1]? = some (.cells #[.int .i64 0, .int .i64 0, .int .i64 0, .int .i64 0, .slice none 0 0, .int .u64 0, .int .i64 0, .int .i64 0, .int .u64 0, .bool false, .int .i64 0, .int .i64 0, .int .i64 0, .int .i64 0, .int .i64 0, .slice none 0 0, .int .u64 0, .int .i64 0, .int .i64 0, .int .u64 0, .bool false, .int .i64 0, .slice none 0 0, .slice none 0 0, .int .i64 0, .int .i64 0, .slice none 0 0] 35 (0, 0)) := ⟨(x2.block _ (by rw [size_alloc, size_alloc]; omega)).trans (old1 (at0 w _) _), (x2.block _ (by rw [size_alloc, size_alloc]; omega)).trans (at1 w _ _)⟩
  clear x2 hr9
  dsimp only
  go_wp2_with (first | refine haltst 35 ?_ | refine haltld 35 ?_)
  refine .inl ?_
  refine ld_l 35 (.tmp 3) (w.heap.size) 35 #[.int .i64 e0, .int .i64 y0, .int .i64 q0, .int .i64 t0, .slice la ln lc, .int .u64 f0, .int .i64 o0, .int .i64 v0, .int .u64 d0, .bool s0, .int .i64 x0, .int .i64 e1, .int .i64 y1, .int .i64 q1, .int .i64 t1, .slice ma mn mc, .int .u64 f1, .int .i64 o1, .int .i64 v1, .int .u64 d1, .bool s1, .int .i64 x1, .slice ga gn gc, .slice ha hn hc, .int .i64 N.n, .int .i64 N.room, .slice wa wn wc] rfl (old1 k2.1 _) uPipe (by kernel_rfl) ?_
  go_wp2_with (first | refine haltst 35 ?_ | refine haltld 35 ?_)
  refine .inl ?_
  refine st_l 35 (.tmp 6) (.tmp 39) (w.heap.size + 1) 0 35 #[.int .i64 0, .int .i64 0, .int .i64 0, .int .i64 0, .slice none 0 0, .int .u64 0, .int .i64 0, .int .i64 0, .int .u64 0, .bool false, .int .i64 0, .int .i64 0, .int .i64 0, .int .i64 0, .int .i64 0, .slice none 0 0, .int .u64 0, .int .i64 0, .int .i64 0, .int .u64 0, .bool false, .int .i64 0, .slice none 0 0, .slice none 0 0, .int .i64 0, .int .i64 0, .slice none 0 0] #[.int .i64 e0, .int .i64 y0, .int .i64 q0, .int .i64 t0, .slice la ln lc, .int .u64 f0, .int .i64 o0, .int .i64 v0, .int .u64 d0, .bool s0, .int .i64 x0, .int .i64 e1, .int .i64 y1, .int .i64 q1, .int .i64 t1, .slice ma mn mc, .int .u64 f1, .int .i64 o1, .int .i64 v1, .int .u64 d1, .bool s1, .int .i64 x1, .slice ga gn gc, .slice ha hn hc, .int .i64 N.n, .int .i64 N.room, .slice wa wn wc] #[.int .i64 e0, .int .i64 y0, .int .i64 q0, .int .i64 t0, .slice la ln lc, .int .u64 f0, .int .i64 o0, .int .i64 v0, .int .u64 d0, .bool s0, .int .i64 x0, .int .i64 e1, .int .i64 y1, .int .i64 q1, .int .i64 t1, .slice ma mn mc, .int .u64 f1, .int .i64 o1, .int .i64 v1, .int .u64 d1, .bool s1, .int .i64 x1, .slice ga gn gc, .slice ha hn hc, .int .i64 N.n, .int .i64 N.room, .slice wa wn wc] rfl rfl (old1 k2.2 _) (by kernel_rfl) (by simp) rfl rfl ?_
  intro W4 hb4 ho4
  go_wp2
  exact bodyPost_ret (v := .tuple #[.agg #[.int .i64 e0, .int .i64 y0, .int .i64 q0, .int .i64 t0, .slice la ln lc, .int .u64 f0, .int .i64 o0, .int .i64 v0, .int .u64 d0, .bool s0, .int .i64 x0, .int .i64 e1, .int .i64 y1, .int .i64 q1, .int .i64 t1, .slice ma mn mc, .int .u64 f1, .int .i64 o1, .int .i64 v1, .int .u64 d1, .bool s1, .int .i64 x1, .slice ga gn gc, .slice ha hn hc, .int .i64 N.n, .int .i64 N.room, .slice wa wn wc], .string ⟨#[]⟩, .bool false]) (res_ctt 7 8 rfl rfl hb4 uPipe (by kernel_rfl)) rfl ⟨_, rfl, (((HR.out _ HX2.out).ext (Ext.alloc (Ext.refl w2) _)).drop ho4 (by omega)).to.more (Nat.le_succ m), ext_off (Ext.trans HX2.out (Ext.alloc (Ext.refl w2) _)) ho4 (fun k hk => by omega)⟩

set_option maxRecDepth 50000 in
set_option maxHeartbeats 12800000 in
theorem rComeNo1 (F : Nat → Prop) (w : World) (hF : ∀ k, F k → k < w.heap.size) (P : PipeS) (l0 l1 g0 g1 ws : SV) (m : Nat) (ok : P.Ok) (h : RP F w P l0 l1 g0 g1 ws m) (hm : m ≤ 5000) (two : P.net.n = 2) (k : Int) (hth0 : P.there 1 k = false) :
    Calls Tryz.prog 15 #[.agg (pcs P l0 l1 g0 g1 ws), .int .i64 1, .int .i64 k] w fun ev w' => ∃ v', ev = .returned (.tuple #[v', .string (P.comeB 1 k), .bool (P.comeY 1 k)]) ∧ RPipe F w' v' (P.come 1 k) (m + 1) ∧ Ext w w' := by
  have H := Lib.hid h
  have HF := Lib.hid hF
  have okN := ok.net
  have okE0 := ok.e0
  have okE1 := ok.e1
  have wr := net_wrap okN two 1 k 0
  obtain ⟨c1, c2, c3⟩ := PipeS.come_no hth0
  rw [c1, c2, c3]
  have hl : P.net.deliver (1 - 1) 1 k = P.net := congrArg PipeS.net (PipeS.lose_no hth0)
  have hth : P.net.there (1 - 1) 1 k = false := hth0
  obtain ⟨⟨e0, y0, q0, t0, L0, f0, o0, v0, d0, s0, x0⟩, ⟨e1, y1, q1, t1, L1, f1, o1, v1, d1, s1, x1⟩, G0, G1, N⟩ := P
  obtain ⟨la, ln, lc⟩ := l0
  obtain ⟨ma, mn, mc⟩ := l1
  obtain ⟨ga, gn, gc⟩ := g0
  obtain ⟨ha, hn, hc⟩ := g1
  obtain ⟨wa, wn, wc⟩ := ws
  dsimp only at okN wr okE0 okE1
  have HR := Lib.hid (fun (W : World) (x : Ext w W) => H.out.boxes (n := 2) x)
  have HNT := Lib.hid (fun (W : World) (x : Ext w W) => (HR.out W x).net)
  have HG : Hid (∀ (W : World), w.heap.size + 2 ≤ W.heap.size → ∀ k, (fun k => F k ∨ (w.heap.size ≤ k ∧ k < w.heap.size + 2)) k → k < W.heap.size) := Lib.hid (fun W hW k hk => by
    rcases hk with hk | hk
    · have := HF.out k hk; omega
    · omega)
  dsimp only at hl hth
  obtain ⟨N', hN'⟩ : ∃ N', N' = N.deliver (1 - 1) 1 k := ⟨_, rfl⟩
  obtain ⟨B, hB⟩ : ∃ B, B = N.look (1 - 1) 1 k := ⟨_, rfl⟩
  have HD : Hid (∀ (G : Nat → Prop) (W : World), (∀ k, G k → k < W.heap.size) → RNet G W (.agg #[.int .i64 N.n, .int .i64 N.room, .slice wa wn wc]) N m → Calls Tryz.prog 52 #[.agg #[.int .i64 N.n, .int .i64 N.room, .slice wa wn wc], .int .i64 0, .int .i64 1, .int .i64 k] W (fun e w' => ∃ v', e = .returned (.tuple #[v', .string B, .bool false]) ∧ RNet G w' v' N' (m + 1) ∧ Ext W w')) := Lib.hid (fun G W hW hv => by
    have h9 := refDeliver_any G W hW _ N m hv hm okN (1 - 1) 1 k
    rw [← hN', ← hB, hth] at h9
    exact h9)
  unfold pcs
  dsimp only [SV.v]
  clear h hF ok hN' hB wr okN two hm c1 c2 c3 hl hth hth0 okE0 okE1
  go_enter Tryz.func15, Tryz.ntmps15
  go_wp2_with fail
  refine (HD.out (fun k => F k ∨ (w.heap.size ≤ k ∧ k < w.heap.size + 2)) _ (HG.out _ (by rw [size_alloc, size_alloc]; omega)) (HNT.out _ (Ext.alloc (Ext.alloc (Ext.refl w) _) _))).mono ?_
  rintro ev w2 ⟨v2, rfl, ⟨za, zn, zc, L9, rfl, hr9⟩, x2⟩
  have HX2 := Lib.hid (Ext.trans (Ext.alloc (Ext.alloc (Ext.refl w) _) _) x2)
  have HN2 : Hid (RNet (fun k => F k ∨ (w.heap.size ≤ k ∧ k < w.heap.size + 2)) w2 (.agg #[.int .i64 N'.n, .int .i64 N'.room, .slice za zn zc]) N' (m + 1)) := Lib.hid ⟨za, zn, zc, L9, rfl, hr9⟩
  have k2 : w2.heap[w.heap.size]? = some (.cells #[.int .i64 e0, .int .i64 y0, .int .i64 q0, .int .i64 t0, .slice la ln lc, .int .u64 f0, .int .i64 o0, .int .i64 v0, .int .u64 d0, .bool s0, .int .i64 x0, .int .i64 e1, .int .i64 y1, .int .i64 q1, .int .i64 t1, .slice ma mn mc, .int .u64 f1, .int .i64 o1, .int .i64 v1, .int .u64 d1, .bool s1, .int .i64 x1, .slice ga gn gc, .slice ha hn hc, .int .i64 N.n, .int .i64 N.room, .slice wa wn wc] 35 (0, 0)) ∧ w2.heap[w.heap.size + 1]? = some (.cells #[.int .i64 0, .int .i64 0, .int .i64 0, .int .i64 0, .slice none 0 0, .int .u64 0, .int .i64 0, .int .i64 0, .int .u64 0, .bool false, .int .i64 0, .int .i64 0, .int .i64 0, .int .i64 0, .int .i64 0, .slice none 0 0, .int .u64 0, .int .i64 0, .int .i64 0, .int .u64 0, .bool false, .int .i64 0, .slice none 0 0, .slice none 0 0, .int .i64 0, .int .i64 0, .slice none 0 0] 35 (0, 0)) := ⟨(x2.block _ (by rw [size_alloc, size_alloc]; omega)).trans (old1 (at0 w _) _), (x2.block _ (by rw [size_alloc, size_alloc]; omega)).trans (at1 w _ _)⟩
  clear x2 hr9
  dsimp only
  go_wp2_with (first | refine haltst 35 ?_ | refine haltld 35 ?_)
  refine .inl ?_
  refine ld_l 35 (.tmp 3) (w.heap.size) 35 #[.int .i64 e0, .int .i64 y0, .int .i64 q0, .int .i64 t0, .slice la ln lc, .int .u64 f0, .int .i64 o0, .int .i64 v0, .int .u64 d0, .bool s0, .int .i64 x0, .int .i64 e1, .int .i64 y1, .int .i64 q1, .int .i64 t1, .slice ma mn mc, .int .u64 f1, .int .i64 o1, .int .i64 v1, .int .u64 d1, .bool s1, .int .i64 x1, .slice ga gn gc, .slice ha hn hc, .int .i64 N.n, .int .i64 N.room, .slice wa wn wc] rfl (old1 k2.1 _) uPipe (by kernel_rfl) ?_
  go_wp2_with (first | refine haltst 35 ?_ | refine haltld 35 ?_)
  refine .inl ?_
  refine st_l 35 (.tmp 6) (.tmp 39) (w.heap.size + 1) 0 35 #[.int .i64 0, .int .i64 0, .int .i64 0, .int .i64 0, .slice none 0 0, .int .u64 0, .int .i64 0, .int .i64 0, .int .u64 0, .bool false, .int .i64 0, .int .i64 0, .int .i64 0, .int .i64 0, .int .i64 0, .slice none 0 0, .int .u64 0, .int .i64 0, .int .i64 0, .int .u64 0, .bool false, .int .i64 0, .slice none 0 0, .slice none 0 0, .int .i64 0, .int .i64 0, .slice none 0 0] #[.int .i64 e0, .int .i64 y0, .int .i64 q0, .int .i64 t0, .slice la ln lc, .int .u64 f0, .int .i64 o0, .int .i64 v0, .int .u64 d0, .bool s0, .int .i64 x0, .int .i64 e1, .int .i64 y1, .int .i64 q1, .int .i64 t1, .slice ma mn mc, .int .u64 f1, .int .i64 o1, .int .i64 v1, .int .u64 d1, .bool s1, .int .i64 x1, .slice ga gn gc, .slice ha hn hc, .int .i64 N.n, .int .i64 N.room, .slice wa wn wc] #[.int .i64 e0, .int .i64 y0, .int .i64 q0, .int .i64 t0, .slice la ln lc, .int .u64 f0, .int .i64 o0, .int .i64 v0, .int .u64 d0, .bool s0, .int .i64 x0, .int .i64 e1, .int .i64 y1, .int .i64 q1, .int .i64 t1, .slice ma mn mc, .int .u64 f1, .int .i64 o1, .int .i64 v1, .int .u64 d1, .bool s1, .int .i64 x1, .slice ga gn gc, .slice ha hn hc, .int .i64 N.n, .int .i64 N.room, .slice wa wn wc] rfl rfl (old1 k2.2 _) (by kernel_rfl) (by simp) rfl rfl ?_
  intro W4 hb4 ho4
  go_wp2
  exact bodyPost_ret (v := .tuple #[.agg #[.int .i64 e0, .int .i64 y0, .int .i64 q0, .int .i64 t0, .slice la ln lc, .int .u64 f0, .int .i64 o0, .int .i64 v0, .int .u64 d0, .bool s0, .int .i64 x0, .int .i64 e1, .int .i64 y1, .int .i64 q1, .int .i64 t1, .slice ma mn mc, .int .u64 f1, .int .i64 o1, .int .i64 v1, .int .u64 d1, .bool s1, .int .i64 x1, .slice ga gn gc, .slice ha hn hc, .int .i64 N.n, .int .i64 N.room, .slice wa wn wc], .string ⟨#[]⟩, .bool false]) (res_ctt 7 8 rfl rfl hb4 uPipe (by kernel_rfl)) rfl ⟨_, rfl, (((HR.out _ HX2.out).ext (Ext.alloc (Ext.refl w2) _)).drop ho4 (by omega)).to.more (Nat.le_succ m), ext_off (Ext.trans HX2.out (Ext.alloc (Ext.refl w2) _)) ho4 (fun k hk => by omega)⟩

set_option maxRecDepth 50000 in
set_option maxHeartbeats 12800000 in
theorem rComeBad0 (F : Nat → Prop) (w : World) (hF : ∀ k, F k → k < w.heap.size) (P : PipeS) (l0 l1 g0 g1 ws : SV) (m : Nat) (ok : P.Ok) (h : RP F w P l0 l1 g0 g1 ws m) (hm : m ≤ 5000) (two : P.net.n = 2) (k : Int) (hth0 : P.there 0 k = true) (hwh : whatN (P.net.look (1 - 0) 0 k) ≠ 0) :
    Calls Tryz.prog 15 #[.agg (pcs P l0 l1 g0 g1 ws), .int .i64 0, .int .i64 k] w fun ev w' => ∃ v', ev = .returned (.tuple #[v', .string (P.comeB 0 k), .bool (P.comeY 0 k)]) ∧ RPipe F w' v' (P.come 0 k) (m + 1) ∧ Ext w w' := by
  have H := Lib.hid h
  have HF := Lib.hid hF
  have okN := ok.net
  have okE0 := ok.e0
  have okE1 := ok.e1
  have wr := net_wrap okN two 0 k 0
  obtain ⟨c1, c2, c3⟩ := come_yes hth0
  rw [c3, c2, c1]
  have hth : P.net.there (1 - 0) 0 k = true := hth0
  have hbs : (P.net.look (1 - 0) 0 k).size ≤ 1000 := NetS.look_short okN _ _ _
  rw [if_neg hwh, decide_eq_false hwh, Bool.false_and, if_neg (by decide)]
  obtain ⟨⟨e0, y0, q0, t0, L0, f0, o0, v0, d0, s0, x0⟩, ⟨e1, y1, q1, t1, L1, f1, o1, v1, d1, s1, x1⟩, G0, G1, N⟩ := P
  obtain ⟨la, ln, lc⟩ := l0
  obtain ⟨ma, mn, mc⟩ := l1
  obtain ⟨ga, gn, gc⟩ := g0
  obtain ⟨ha, hn, hc⟩ := g1
  obtain ⟨wa, wn, wc⟩ := ws
  dsimp only at okN wr okE0 okE1
  have HR := Lib.hid (fun (W : World) (x : Ext w W) => H.out.boxes (n := 2) x)
  have HNT := Lib.hid (fun (W : World) (x : Ext w W) => (HR.out W x).net)
  have HG : Hid (∀ (W : World), w.heap.size + 2 ≤ W.heap.size → ∀ k, (fun k => F k ∨ (w.heap.size ≤ k ∧ k < w.heap.size + 2)) k → k < W.heap.size) := Lib.hid (fun W hW k hk => by
    rcases hk with hk | hk
    · have := HF.out k hk; omega
    · omega)
  dsimp only at hth hbs hwh ⊢
  obtain ⟨N', hN'⟩ : ∃ N', N' = N.deliver (1 - 0) 0 k := ⟨_, rfl⟩
  obtain ⟨B, hB⟩ : ∃ B, B = N.look (1 - 0) 0 k := ⟨_, rfl⟩
  have HD : Hid (∀ (G : Nat → Prop) (W : World), (∀ k, G k → k < W.heap.size) → RNet G W (.agg #[.int .i64 N.n, .int .i64 N.room, .slice wa wn wc]) N m → Calls Tryz.prog 52 #[.agg #[.int .i64 N.n, .int .i64 N.room, .slice wa wn wc], .int .i64 1, .int .i64 0, .int .i64 k] W (fun e w' => ∃ v', e = .returned (.tuple #[v', .string B, .bool true]) ∧ RNet G w' v' N' (m + 1) ∧ Ext W w')) := Lib.hid (fun G W hW hv => by
    have h9 := refDeliver_any G W hW _ N m hv hm okN (1 - 0) 0 k
    rw [← hN', ← hB, hth] at h9
    exact h9)
  rw [← hN']
  rw [← hB] at hbs hwh
  have cG := fun W => refGet_any W B (Nat.le_trans hbs (by decide))
  unfold GetsR at cG
  obtain ⟨wn9, hwn⟩ : ∃ wn9, wn9 = whatN B := ⟨_, rfl⟩
  obtain ⟨wn8, hwn8⟩ : ∃ wn8, wn8 = whereN B := ⟨_, rfl⟩
  obtain ⟨f, hf⟩ : ∃ f, f = getF B := ⟨_, rfl⟩
  rw [← hwn, ← hf, ← hwn8] at cG
  rw [← hwn] at hwh
  unfold frV at cG
  have HCG := Lib.hid cG
  have hze : ((wn9 : Int) != 0) = true := bne_iff_ne.2 (by omega)
  unfold pcs
  dsimp only [SV.v]
  clear h hF ok hN' hB wr okN two hm c1 c2 c3 hth hth0 okE0 okE1 cG hwn hwn8 hf hwh hbs
  go_enter Tryz.func15, Tryz.ntmps15
  go_wp2_with fail
  refine (HD.out (fun k => F k ∨ (w.heap.size ≤ k ∧ k < w.heap.size + 2)) _ (HG.out _ (by rw [size_alloc, size_alloc]; omega)) (HNT.out _ (Ext.alloc (Ext.alloc (Ext.refl w) _) _))).mono ?_
  rintro ev w2 ⟨v2, rfl, ⟨za, zn, zc, L9, rfl, hr9⟩, x2⟩
  have HX2 := Lib.hid (Ext.trans (Ext.alloc (Ext.alloc (Ext.refl w) _) _) x2)
  have HN2 : Hid (RNet (fun k => F k ∨ (w.heap.size ≤ k ∧ k < w.heap.size + 2)) w2 (.agg #[.int .i64 N'.n, .int .i64 N'.room, .slice za zn zc]) N' (m + 1)) := Lib.hid ⟨za, zn, zc, L9, rfl, hr9⟩
  have k2 : w2.heap[w.heap.size]? = some (.cells #[.int .i64 e0, .int .i64 y0, .int .i64 q0, .int .i64 t0, .slice la ln lc, .int .u64 f0, .int .i64 o0, .int .i64 v0, .int .u64 d0, .bool s0, .int .i64 x0, .int .i64 e1, .int .i64 y1, .int .i64 q1, .int .i64 t1, .slice ma mn mc, .int .u64 f1, .int .i64 o1, .int .i64 v1, .int .u64 d1, .bool s1, .int .i64 x1, .slice ga gn gc, .slice ha hn hc, .int .i64 N.n, .int .i64 N.room, .slice wa wn wc] 35 (0, 0)) ∧ w2.heap[w.heap.size + 1]? = some (.cells #[.int .i64 0, .int .i64 0, .int .i64 0, .int .i64 0, .slice none 0 0, .int .u64 0, .int .i64 0, .int .i64 0, .int .u64 0, .bool false, .int .i64 0, .int .i64 0, .int .i64 0, .int .i64 0, .int .i64 0, .slice none 0 0, .int .u64 0, .int .i64 0, .int .i64 0, .int .u64 0, .bool false, .int .i64 0, .slice none 0 0, .slice none 0 0, .int .i64 0, .int .i64 0, .slice none 0 0] 35 (0, 0)) := ⟨(x2.block _ (by rw [size_alloc, size_alloc]; omega)).trans (old1 (at0 w _) _), (x2.block _ (by rw [size_alloc, size_alloc]; omega)).trans (at1 w _ _)⟩
  clear x2 hr9
  dsimp only
  go_wp2_with (first | refine haltst (x := .tmp 41) 33 ?_)
  refine .inl ?_
  refine st_l 33 (.tmp 41) (.tmp 40) (w.heap.size) 24 35 #[.int .i64 e0, .int .i64 y0, .int .i64 q0, .int .i64 t0, .slice la ln lc, .int .u64 f0, .int .i64 o0, .int .i64 v0, .int .u64 d0, .bool s0, .int .i64 x0, .int .i64 e1, .int .i64 y1, .int .i64 q1, .int .i64 t1, .slice ma mn mc, .int .u64 f1, .int .i64 o1, .int .i64 v1, .int .u64 d1, .bool s1, .int .i64 x1, .slice ga gn gc, .slice ha hn hc, .int .i64 N.n, .int .i64 N.room, .slice wa wn wc] #[.int .i64 N'.n, .int .i64 N'.room, .slice za zn zc] #[.int .i64 e0, .int .i64 y0, .int .i64 q0, .int .i64 t0, .slice la ln lc, .int .u64 f0, .int .i64 o0, .int .i64 v0, .int .u64 d0, .bool s0, .int .i64 x0, .int .i64 e1, .int .i64 y1, .int .i64 q1, .int .i64 t1, .slice ma mn mc, .int .u64 f1, .int .i64 o1, .int .i64 v1, .int .u64 d1, .bool s1, .int .i64 x1, .slice ga gn gc, .slice ha hn hc, .int .i64 N'.n, .int .i64 N'.room, .slice za zn zc] rfl rfl (old1 k2.1 _) (by kernel_rfl) (by simp) rfl rfl ?_
  intro W3 hb3 ho3
  have HQ3 : Hid (GoQ F w W3 ⟨⟨e0, y0, q0, t0, L0, f0, o0, v0, d0, s0, x0⟩, ⟨e1, y1, q1, t1, L1, f1, o1, v1, d1, s1, x1⟩, G0, G1, N'⟩ ⟨la, ln, lc⟩ ⟨ma, mn, mc⟩ ⟨ga, gn, gc⟩ ⟨ha, hn, hc⟩ ⟨za, zn, zc⟩ (m + 1) (.slice none 0 0) []) := Lib.hid ⟨hb3, ho3.blk (old1 k2.2 _) (by omega), (((HR.out _ HX2.out).putN (x := ⟨za, zn, zc⟩) HN2.out (Nat.le_succ m)).ext (Ext.alloc (Ext.refl w2) _)).stay ho3 (by omega), Sa.nil _ _, ext_off (Ext.trans HX2.out (Ext.alloc (Ext.refl w2) _)) ho3 (fun k hk => by omega)⟩
  clear hb3 ho3 k2 HN2
  go_wp2_with fail
  refine (HCG.out _).mono ?_
  rintro ev w5 ⟨rfl, x5⟩
  have HQ5 := Lib.hid (HQ3.out.more (Ext.trans x5 (Ext.alloc (Ext.refl w5) (.cells #[.int .i64 f.k, .int .i64 f.e, .int .u64 f.q, .int .u64 f.a, .string f.b] 83))))
  clear x5 HQ3
  dsimp only
  go_wp2_with (first | refine haltst 35 ?_ | refine haltld 35 ?_)
  refine .inl ?_
  refine ld_l 35 (.tmp 3) (w.heap.size) 35 #[.int .i64 e0, .int .i64 y0, .int .i64 q0, .int .i64 t0, .slice la ln lc, .int .u64 f0, .int .i64 o0, .int .i64 v0, .int .u64 d0, .bool s0, .int .i64 x0, .int .i64 e1, .int .i64 y1, .int .i64 q1, .int .i64 t1, .slice ma mn mc, .int .u64 f1, .int .i64 o1, .int .i64 v1, .int .u64 d1, .bool s1, .int .i64 x1, .slice ga gn gc, .slice ha hn hc, .int .i64 N'.n, .int .i64 N'.room, .slice za zn zc] rfl (HQ5.out.box) uPipe (by kernel_rfl) ?_
  go_wp2_with (first | refine haltst 35 ?_ | refine haltld 35 ?_)
  refine .inl ?_
  refine st_l 35 (.tmp 6) (.tmp 50) (w.heap.size + 1) 0 35 #[.int .i64 0, .int .i64 0, .int .i64 0, .int .i64 0, .slice none 0 0, .int .u64 0, .int .i64 0, .int .i64 0, .int .u64 0, .bool false, .int .i64 0, .int .i64 0, .int .i64 0, .int .i64 0, .int .i64 0, .slice none 0 0, .int .u64 0, .int .i64 0, .int .i64 0, .int .u64 0, .bool false, .int .i64 0, .slice none 0 0, .slice none 0 0, .int .i64 0, .int .i64 0, .slice none 0 0] #[.int .i64 e0, .int .i64 y0, .int .i64 q0, .int .i64 t0, .slice la ln lc, .int .u64 f0, .int .i64 o0, .int .i64 v0, .int .u64 d0, .bool s0, .int .i64 x0, .int .i64 e1, .int .i64 y1, .int .i64 q1, .int .i64 t1, .slice ma mn mc, .int .u64 f1, .int .i64 o1, .int .i64 v1, .int .u64 d1, .bool s1, .int .i64 x1, .slice ga gn gc, .slice ha hn hc, .int .i64 N'.n, .int .i64 N'.room, .slice za zn zc] #[.int .i64 e0, .int .i64 y0, .int .i64 q0, .int .i64 t0, .slice la ln lc, .int .u64 f0, .int .i64 o0, .int .i64 v0, .int .u64 d0, .bool s0, .int .i64 x0, .int .i64 e1, .int .i64 y1, .int .i64 q1, .int .i64 t1, .slice ma mn mc, .int .u64 f1, .int .i64 o1, .int .i64 v1, .int .u64 d1, .bool s1, .int .i64 x1, .slice ga gn gc, .slice ha hn hc, .int .i64 N'.n, .int .i64 N'.room, .slice za zn zc] rfl rfl (HQ5.out.res) (by kernel_rfl) (by simp) rfl rfl ?_
  intro W4 hb4 ho4
  go_wp2
  exact bodyPost_ret (v := .tuple #[.agg #[.int .i64 e0, .int .i64 y0, .int .i64 q0, .int .i64 t0, .slice la ln lc, .int .u64 f0, .int .i64 o0, .int .i64 v0, .int .u64 d0, .bool s0, .int .i64 x0, .int .i64 e1, .int .i64 y1, .int .i64 q1, .int .i64 t1, .slice ma mn mc, .int .u64 f1, .int .i64 o1, .int .i64 v1, .int .u64 d1, .bool s1, .int .i64 x1, .slice ga gn gc, .slice ha hn hc, .int .i64 N'.n, .int .i64 N'.room, .slice za zn zc], .string ⟨#[]⟩, .bool false]) (res_ctt 7 8 rfl rfl hb4 uPipe (by kernel_rfl)) rfl ⟨_, rfl, (HQ5.out.rp.drop ho4 (by omega)).to, ext_off HQ5.out.ext ho4 (fun k hk => by omega)⟩

set_option maxRecDepth 50000 in
set_option maxHeartbeats 12800000 in
theorem rComeBad1 (F : Nat → Prop) (w : World) (hF : ∀ k, F k → k < w.heap.size) (P : PipeS) (l0 l1 g0 g1 ws : SV) (m : Nat) (ok : P.Ok) (h : RP F w P l0 l1 g0 g1 ws m) (hm : m ≤ 5000) (two : P.net.n = 2) (k : Int) (hth0 : P.there 1 k = true) (hwh : whatN (P.net.look (1 - 1) 1 k) ≠ 0) :
    Calls Tryz.prog 15 #[.agg (pcs P l0 l1 g0 g1 ws), .int .i64 1, .int .i64 k] w fun ev w' => ∃ v', ev = .returned (.tuple #[v', .string (P.comeB 1 k), .bool (P.comeY 1 k)]) ∧ RPipe F w' v' (P.come 1 k) (m + 1) ∧ Ext w w' := by
  have H := Lib.hid h
  have HF := Lib.hid hF
  have okN := ok.net
  have okE0 := ok.e0
  have okE1 := ok.e1
  have wr := net_wrap okN two 1 k 0
  obtain ⟨c1, c2, c3⟩ := come_yes hth0
  rw [c3, c2, c1]
  have hth : P.net.there (1 - 1) 1 k = true := hth0
  have hbs : (P.net.look (1 - 1) 1 k).size ≤ 1000 := NetS.look_short okN _ _ _
  rw [if_neg hwh, decide_eq_false hwh, Bool.false_and, if_neg (by decide)]
  obtain ⟨⟨e0, y0, q0, t0, L0, f0, o0, v0, d0, s0, x0⟩, ⟨e1, y1, q1, t1, L1, f1, o1, v1, d1, s1, x1⟩, G0, G1, N⟩ := P
  obtain ⟨la, ln, lc⟩ := l0
  obtain ⟨ma, mn, mc⟩ := l1
  obtain ⟨ga, gn, gc⟩ := g0
  obtain ⟨ha, hn, hc⟩ := g1
  obtain ⟨wa, wn, wc⟩ := ws
  dsimp only at okN wr okE0 okE1
  have HR := Lib.hid (fun (W : World) (x : Ext w W) => H.out.boxes (n := 2) x)
  have HNT := Lib.hid (fun (W : World) (x : Ext w W) => (HR.out W x).net)
  have HG : Hid (∀ (W : World), w.heap.size + 2 ≤ W.heap.size → ∀ k, (fun k => F k ∨ (w.heap.size ≤ k ∧ k < w.heap.size + 2)) k → k < W.heap.size) := Lib.hid (fun W hW k hk => by
    rcases hk with hk | hk
    · have := HF.out k hk; omega
    · omega)
  dsimp only at hth hbs hwh ⊢
  obtain ⟨N', hN'⟩ : ∃ N', N' = N.deliver (1 - 1) 1 k := ⟨_, rfl⟩
  obtain ⟨B, hB⟩ : ∃ B, B = N.look (1 - 1) 1 k := ⟨_, rfl⟩
  have HD : Hid (∀ (G : Nat → Prop) (W : World), (∀ k, G k → k < W.heap.size) → RNet G W (.agg #[.int .i64 N.n, .int .i64 N.room, .slice wa wn wc]) N m → Calls Tryz.prog 52 #[.agg #[.int .i64 N.n, .int .i64 N.room, .slice wa wn wc], .int .i64 0, .int .i64 1, .int .i64 k] W (fun e w' => ∃ v', e = .returned (.tuple #[v', .string B, .bool true]) ∧ RNet G w' v' N' (m + 1) ∧ Ext W w')) := Lib.hid (fun G W hW hv => by
    have h9 := refDeliver_any G W hW _ N m hv hm okN (1 - 1) 1 k
    rw [← hN', ← hB, hth] at h9
    exact h9)
  rw [← hN']
  rw [← hB] at hbs hwh
  have cG := fun W => refGet_any W B (Nat.le_trans hbs (by decide))
  unfold GetsR at cG
  obtain ⟨wn9, hwn⟩ : ∃ wn9, wn9 = whatN B := ⟨_, rfl⟩
  obtain ⟨wn8, hwn8⟩ : ∃ wn8, wn8 = whereN B := ⟨_, rfl⟩
  obtain ⟨f, hf⟩ : ∃ f, f = getF B := ⟨_, rfl⟩
  rw [← hwn, ← hf, ← hwn8] at cG
  rw [← hwn] at hwh
  unfold frV at cG
  have HCG := Lib.hid cG
  have hze : ((wn9 : Int) != 0) = true := bne_iff_ne.2 (by omega)
  unfold pcs
  dsimp only [SV.v]
  clear h hF ok hN' hB wr okN two hm c1 c2 c3 hth hth0 okE0 okE1 cG hwn hwn8 hf hwh hbs
  go_enter Tryz.func15, Tryz.ntmps15
  go_wp2_with fail
  refine (HD.out (fun k => F k ∨ (w.heap.size ≤ k ∧ k < w.heap.size + 2)) _ (HG.out _ (by rw [size_alloc, size_alloc]; omega)) (HNT.out _ (Ext.alloc (Ext.alloc (Ext.refl w) _) _))).mono ?_
  rintro ev w2 ⟨v2, rfl, ⟨za, zn, zc, L9, rfl, hr9⟩, x2⟩
  have HX2 := Lib.hid (Ext.trans (Ext.alloc (Ext.alloc (Ext.refl w) _) _) x2)
  have HN2 : Hid (RNet (fun k => F k ∨ (w.heap.size ≤ k ∧ k < w.heap.size + 2)) w2 (.agg #[.int .i64 N'.n, .int .i64 N'.room, .slice za zn zc]) N' (m + 1)) := Lib.hid ⟨za, zn, zc, L9, rfl, hr9⟩
  have k2 : w2.heap[w.heap.size]? = some (.cells #[.int .i64 e0, .int .i64 y0, .int .i64 q0, .int .i64 t0, .slice la ln lc, .int .u64 f0, .int .i64 o0, .int .i64 v0, .int .u64 d0, .bool s0, .int .i64 x0, .int .i64 e1, .int .i64 y1, .int .i64 q1, .int .i64 t1, .slice ma mn mc, .int .u64 f1, .int .i64 o1, .int .i64 v1, .int .u64 d1, .bool s1, .int .i64 x1, .slice ga gn gc, .slice ha hn hc, .int .i64 N.n, .int .i64 N.room, .slice wa wn wc] 35 (0, 0)) ∧ w2.heap[w.heap.size + 1]? = some (.cells #[.int .i64 0, .int .i64 0, .int .i64 0, .int .i64 0, .slice none 0 0, .int .u64 0, .int .i64 0, .int .i64 0, .int .u64 0, .bool false, .int .i64 0, .int .i64 0, .int .i64 0, .int .i64 0, .int .i64 0, .slice none 0 0, .int .u64 0, .int .i64 0, .int .i64 0, .int .u64 0, .bool false, .int .i64 0, .slice none 0 0, .slice none 0 0, .int .i64 0, .int .i64 0, .slice none 0 0] 35 (0, 0)) := ⟨(x2.block _ (by rw [size_alloc, size_alloc]; omega)).trans (old1 (at0 w _) _), (x2.block _ (by rw [size_alloc, size_alloc]; omega)).trans (at1 w _ _)⟩
  clear x2 hr9
  dsimp only
  go_wp2_with (first | refine haltst (x := .tmp 41) 33 ?_)
  refine .inl ?_
  refine st_l 33 (.tmp 41) (.tmp 40) (w.heap.size) 24 35 #[.int .i64 e0, .int .i64 y0, .int .i64 q0, .int .i64 t0, .slice la ln lc, .int .u64 f0, .int .i64 o0, .int .i64 v0, .int .u64 d0, .bool s0, .int .i64 x0, .int .i64 e1, .int .i64 y1, .int .i64 q1, .int .i64 t1, .slice ma mn mc, .int .u64 f1, .int .i64 o1, .int .i64 v1, .int .u64 d1, .bool s1, .int .i64 x1, .slice ga gn gc, .slice ha hn hc, .int .i64 N.n, .int .i64 N.room, .slice wa wn wc] #[.int .i64 N'.n, .int .i64 N'.room, .slice za zn zc] #[.int .i64 e0, .int .i64 y0, .int .i64 q0, .int .i64 t0, .slice la ln lc, .int .u64 f0, .int .i64 o0, .int .i64 v0, .int .u64 d0, .bool s0, .int .i64 x0, .int .i64 e1, .int .i64 y1, .int .i64 q1, .int .i64 t1, .slice ma mn mc, .int .u64 f1, .int .i64 o1, .int .i64 v1, .int .u64 d1, .bool s1, .int .i64 x1, .slice ga gn gc, .slice ha hn hc, .int .i64 N'.n, .int .i64 N'.room, .slice za zn zc] rfl rfl (old1 k2.1 _) (by kernel_rfl) (by simp) rfl rfl ?_
  intro W3 hb3 ho3
  have HQ3 : Hid (GoQ F w W3 ⟨⟨e0, y0, q0, t0, L0, f0, o0, v0, d0, s0, x0⟩, ⟨e1, y1, q1, t1, L1, f1, o1, v1, d1, s1, x1⟩, G0, G1, N'⟩ ⟨la, ln, lc⟩ ⟨ma, mn, mc⟩ ⟨ga, gn, gc⟩ ⟨ha, hn, hc⟩ ⟨za, zn, zc⟩ (m + 1) (.slice none 0 0) []) := Lib.hid ⟨hb3, ho3.blk (old1 k2.2 _) (by omega), (((HR.out _ HX2.out).putN (x := ⟨za, zn, zc⟩) HN2.out (Nat.le_succ m)).ext (Ext.alloc (Ext.refl w2) _)).stay ho3 (by omega), Sa.nil _ _, ext_off (Ext.trans HX2.out (Ext.alloc (Ext.refl w2) _)) ho3 (fun k hk => by omega)⟩
  clear hb3 ho3 k2 HN2
  go_wp2_with fail
  refine (HCG.out _).mono ?_
  rintro ev w5 ⟨rfl, x5⟩
  have HQ5 := Lib.hid (HQ3.out.more (Ext.trans x5 (Ext.alloc (Ext.refl w5) (.cells #[.int .i64 f.k, .int .i64 f.e, .int .u64 f.q, .int .u64 f.a, .string f.b] 83))))
  clear x5 HQ3
  dsimp only
  go_wp2_with (first | refine haltst 35 ?_ | refine haltld 35 ?_)
  refine .inl ?_
  refine ld_l 35 (.tmp 3) (w.heap.size) 35 #[.int .i64 e0, .int .i64 y0, .int .i64 q0, .int .i64 t0, .slice la ln lc, .int .u64 f0, .int .i64 o0, .int .i64 v0, .int .u64 d0, .bool s0, .int .i64 x0, .int .i64 e1, .int .i64 y1, .int .i64 q1, .int .i64 t1, .slice ma mn mc, .int .u64 f1, .int .i64 o1, .int .i64 v1, .int .u64 d1, .bool s1, .int .i64 x1, .slice ga gn gc, .slice ha hn hc, .int .i64 N'.n, .int .i64 N'.room, .slice za zn zc] rfl (HQ5.out.box) uPipe (by kernel_rfl) ?_
  go_wp2_with (first | refine haltst 35 ?_ | refine haltld 35 ?_)
  refine .inl ?_
  refine st_l 35 (.tmp 6) (.tmp 50) (w.heap.size + 1) 0 35 #[.int .i64 0, .int .i64 0, .int .i64 0, .int .i64 0, .slice none 0 0, .int .u64 0, .int .i64 0, .int .i64 0, .int .u64 0, .bool false, .int .i64 0, .int .i64 0, .int .i64 0, .int .i64 0, .int .i64 0, .slice none 0 0, .int .u64 0, .int .i64 0, .int .i64 0, .int .u64 0, .bool false, .int .i64 0, .slice none 0 0, .slice none 0 0, .int .i64 0, .int .i64 0, .slice none 0 0] #[.int .i64 e0, .int .i64 y0, .int .i64 q0, .int .i64 t0, .slice la ln lc, .int .u64 f0, .int .i64 o0, .int .i64 v0, .int .u64 d0, .bool s0, .int .i64 x0, .int .i64 e1, .int .i64 y1, .int .i64 q1, .int .i64 t1, .slice ma mn mc, .int .u64 f1, .int .i64 o1, .int .i64 v1, .int .u64 d1, .bool s1, .int .i64 x1, .slice ga gn gc, .slice ha hn hc, .int .i64 N'.n, .int .i64 N'.room, .slice za zn zc] #[.int .i64 e0, .int .i64 y0, .int .i64 q0, .int .i64 t0, .slice la ln lc, .int .u64 f0, .int .i64 o0, .int .i64 v0, .int .u64 d0, .bool s0, .int .i64 x0, .int .i64 e1, .int .i64 y1, .int .i64 q1, .int .i64 t1, .slice ma mn mc, .int .u64 f1, .int .i64 o1, .int .i64 v1, .int .u64 d1, .bool s1, .int .i64 x1, .slice ga gn gc, .slice ha hn hc, .int .i64 N'.n, .int .i64 N'.room, .slice za zn zc] rfl rfl (HQ5.out.res) (by kernel_rfl) (by simp) rfl rfl ?_
  intro W4 hb4 ho4
  go_wp2
  exact bodyPost_ret (v := .tuple #[.agg #[.int .i64 e0, .int .i64 y0, .int .i64 q0, .int .i64 t0, .slice la ln lc, .int .u64 f0, .int .i64 o0, .int .i64 v0, .int .u64 d0, .bool s0, .int .i64 x0, .int .i64 e1, .int .i64 y1, .int .i64 q1, .int .i64 t1, .slice ma mn mc, .int .u64 f1, .int .i64 o1, .int .i64 v1, .int .u64 d1, .bool s1, .int .i64 x1, .slice ga gn gc, .slice ha hn hc, .int .i64 N'.n, .int .i64 N'.room, .slice za zn zc], .string ⟨#[]⟩, .bool false]) (res_ctt 7 8 rfl rfl hb4 uPipe (by kernel_rfl)) rfl ⟨_, rfl, (HQ5.out.rp.drop ho4 (by omega)).to, ext_off HQ5.out.ext ho4 (fun k hk => by omega)⟩
end Go.Proofs.YtlakolkpfkakoaaGreatDoor
