/- Layer 10's document: Lose, Double, Flip. -/
import Derived.Test.YtlakolkpfkakoaaGreatDoorMJ1
namespace Go.Proofs.YtlakolkpfkakoaaGreatDoor
open Go.RowKit

set_option linter.unusedVariables false

set_option maxRecDepth 50000 in
set_option maxHeartbeats 6400000 in
theorem rLose_any (F : Nat → Prop) (w : World) (hF : ∀ k, F k → k < w.heap.size) (P : PipeS) (l0 l1 g0 g1 ws : SV) (m : Nat) (ok : P.Ok) (h : RP F w P l0 l1 g0 g1 ws m) (hm : m ≤ 5000) (two : P.net.n = 2) (s k : Int) :
    Calls Tryz.prog 17 #[.agg (pcs P l0 l1 g0 g1 ws), .int .i64 s, .int .i64 k] w fun ev w' => ∃ v', ev = .returned (.tuple #[v', .bool (P.there s k)]) ∧ RPipe F w' v' (P.lose s k) (m + 1) ∧ Ext w w' := by
  have H := Lib.hid h
  have HF := Lib.hid hF
  have okN := ok.net
  have wr := net_wrap okN two s k 0
  obtain ⟨⟨e0, y0, q0, t0, L0, f0, o0, v0, d0, s0, x0⟩, ⟨e1, y1, q1, t1, L1, f1, o1, v1, d1, s1, x1⟩, G0, G1, N⟩ := P
  obtain ⟨la, ln, lc⟩ := l0
  obtain ⟨ma, mn, mc⟩ := l1
  obtain ⟨ga, gn, gc⟩ := g0
  obtain ⟨ha, hn, hc⟩ := g1
  obtain ⟨wa, wn, wc⟩ := ws
  dsimp only at okN wr
  have HR := Lib.hid (fun (W : World) (x : Ext w W) => H.out.boxes (n := 2) x)
  have HNT := Lib.hid (fun (W : World) (x : Ext w W) => (HR.out W x).net)
  have HG : Hid (∀ (W : World), w.heap.size + 2 ≤ W.heap.size → ∀ k, (fun k => F k ∨ (w.heap.size ≤ k ∧ k < w.heap.size + 2)) k → k < W.heap.size) := Lib.hid (fun W hW k hk => by
    rcases hk with hk | hk
    · have := HF.out k hk; omega
    · omega)
  obtain ⟨O, hO⟩ : ∃ O, IntKind.i64.wrap (1 - s) = O := ⟨_, rfl⟩
  have cD := fun (G : Nat → Prop) (W : World) hW (v : Value) hv => refDeliver_any G W hW v N m hv hm okN (IntKind.i64.wrap (1 - s)) s k
  rw [hO] at wr
  rw [hO, wr.1, wr.2.1, wr.2.2.1] at cD
  show Calls _ _ _ _ (fun ev w' => ∃ v', ev = .returned (.tuple #[v', .bool (N.there (1 - s) s k)]) ∧ RPipe F w' v' (⟨⟨e0, y0, q0, t0, L0, f0, o0, v0, d0, s0, x0⟩, ⟨e1, y1, q1, t1, L1, f1, o1, v1, d1, s1, x1⟩, G0, G1, N.deliver (1 - s) s k⟩ : PipeS) (m + 1) ∧ Ext w w')
  obtain ⟨N', hN'⟩ : ∃ N', N' = N.deliver (1 - s) s k := ⟨_, rfl⟩
  obtain ⟨TH, hTH⟩ : ∃ TH, TH = N.there (1 - s) s k := ⟨_, rfl⟩
  obtain ⟨LK, hLK⟩ : ∃ LK, LK = N.look (1 - s) s k := ⟨_, rfl⟩
  rw [← hLK] at cD
  clear hLK
  rw [← hN', ← hTH] at cD
  rw [← hN', ← hTH]
  have HD := Lib.hid cD
  unfold pcs
  dsimp only [SV.v]
  clear h hF ok cD hN' hTH wr okN two hm
  go_enter Tryz.func17, Tryz.ntmps17
  go_wp2_with fail
  refine (HD.out (fun k => F k ∨ (w.heap.size ≤ k ∧ k < w.heap.size + 2)) _ (HG.out _ (by rw [size_alloc, size_alloc]; omega)) _ (HNT.out _ (Ext.alloc (Ext.alloc (Ext.refl w) _) _))).mono ?_
  rintro ev w2 ⟨v2, rfl, ⟨za, zn, zc, L9, rfl, hr9⟩, x2⟩
  have HX2 := Lib.hid (Ext.trans (Ext.alloc (Ext.alloc (Ext.refl w) _) _) x2)
  have HN2 : Hid (RNet (fun k => F k ∨ (w.heap.size ≤ k ∧ k < w.heap.size + 2)) w2 (.agg #[.int .i64 N'.n, .int .i64 N'.room, .slice za zn zc]) N' (m + 1)) := Lib.hid ⟨za, zn, zc, L9, rfl, hr9⟩
  have k2 : w2.heap[w.heap.size]? = some (.cells #[.int .i64 e0, .int .i64 y0, .int .i64 q0, .int .i64 t0, .slice la ln lc, .int .u64 f0, .int .i64 o0, .int .i64 v0, .int .u64 d0, .bool s0, .int .i64 x0, .int .i64 e1, .int .i64 y1, .int .i64 q1, .int .i64 t1, .slice ma mn mc, .int .u64 f1, .int .i64 o1, .int .i64 v1, .int .u64 d1, .bool s1, .int .i64 x1, .slice ga gn gc, .slice ha hn hc, .int .i64 N.n, .int .i64 N.room, .slice wa wn wc] 35 (0, 0)) ∧ w2.heap[w.heap.size + 1]? = some (.cells #[.int .i64 0, .int .i64 0, .int .i64 0, .int .i64 0, .slice none 0 0, .int .u64 0, .int .i64 0, .int .i64 0, .int .u64 0, .bool false, .int .i64 0, .int .i64 0, .int .i64 0, .int .i64 0, .int .i64 0, .slice none 0 0, .int .u64 0, .int .i64 0, .int .i64 0, .int .u64 0, .bool false, .int .i64 0, .slice none 0 0, .slice none 0 0, .int .i64 0, .int .i64 0, .slice none 0 0] 35 (0, 0)) := ⟨(x2.block _ (by rw [size_alloc, size_alloc]; omega)).trans (old1 (at0 w _) _), (x2.block _ (by rw [size_alloc, size_alloc]; omega)).trans (at1 w _ _)⟩
  clear x2 hr9
  dsimp only
  go_wp2_with (first | refine haltst (x := .tmp 23) 33 ?_ | refine haltst 35 ?_ | refine haltld 35 ?_)
  refine .inl ?_
  refine st_l 33 (.tmp 23) (.tmp 22) (w.heap.size) 24 35 #[.int .i64 e0, .int .i64 y0, .int .i64 q0, .int .i64 t0, .slice la ln lc, .int .u64 f0, .int .i64 o0, .int .i64 v0, .int .u64 d0, .bool s0, .int .i64 x0, .int .i64 e1, .int .i64 y1, .int .i64 q1, .int .i64 t1, .slice ma mn mc, .int .u64 f1, .int .i64 o1, .int .i64 v1, .int .u64 d1, .bool s1, .int .i64 x1, .slice ga gn gc, .slice ha hn hc, .int .i64 N.n, .int .i64 N.room, .slice wa wn wc] #[.int .i64 N'.n, .int .i64 N'.room, .slice za zn zc] #[.int .i64 e0, .int .i64 y0, .int .i64 q0, .int .i64 t0, .slice la ln lc, .int .u64 f0, .int .i64 o0, .int .i64 v0, .int .u64 d0, .bool s0, .int .i64 x0, .int .i64 e1, .int .i64 y1, .int .i64 q1, .int .i64 t1, .slice ma mn mc, .int .u64 f1, .int .i64 o1, .int .i64 v1, .int .u64 d1, .bool s1, .int .i64 x1, .slice ga gn gc, .slice ha hn hc, .int .i64 N'.n, .int .i64 N'.room, .slice za zn zc] rfl rfl (old1 k2.1 _) (by kernel_rfl) (by simp) rfl rfl ?_
  intro W1 hb1 ho1
  go_wp2_with (first | refine haltst 35 ?_ | refine haltld 35 ?_)
  refine .inl ?_
  refine ld_l 35 (.tmp 3) (w.heap.size) 35 #[.int .i64 e0, .int .i64 y0, .int .i64 q0, .int .i64 t0, .slice la ln lc, .int .u64 f0, .int .i64 o0, .int .i64 v0, .int .u64 d0, .bool s0, .int .i64 x0, .int .i64 e1, .int .i64 y1, .int .i64 q1, .int .i64 t1, .slice ma mn mc, .int .u64 f1, .int .i64 o1, .int .i64 v1, .int .u64 d1, .bool s1, .int .i64 x1, .slice ga gn gc, .slice ha hn hc, .int .i64 N'.n, .int .i64 N'.room, .slice za zn zc] rfl (hb1) uPipe (by kernel_rfl) ?_
  go_wp2_with (first | refine haltst 35 ?_ | refine haltld 35 ?_)
  refine .inl ?_
  refine st_l 35 (.tmp 6) (.tmp 24) (w.heap.size + 1) 0 35 #[.int .i64 0, .int .i64 0, .int .i64 0, .int .i64 0, .slice none 0 0, .int .u64 0, .int .i64 0, .int .i64 0, .int .u64 0, .bool false, .int .i64 0, .int .i64 0, .int .i64 0, .int .i64 0, .int .i64 0, .slice none 0 0, .int .u64 0, .int .i64 0, .int .i64 0, .int .u64 0, .bool false, .int .i64 0, .slice none 0 0, .slice none 0 0, .int .i64 0, .int .i64 0, .slice none 0 0] #[.int .i64 e0, .int .i64 y0, .int .i64 q0, .int .i64 t0, .slice la ln lc, .int .u64 f0, .int .i64 o0, .int .i64 v0, .int .u64 d0, .bool s0, .int .i64 x0, .int .i64 e1, .int .i64 y1, .int .i64 q1, .int .i64 t1, .slice ma mn mc, .int .u64 f1, .int .i64 o1, .int .i64 v1, .int .u64 d1, .bool s1, .int .i64 x1, .slice ga gn gc, .slice ha hn hc, .int .i64 N'.n, .int .i64 N'.room, .slice za zn zc] #[.int .i64 e0, .int .i64 y0, .int .i64 q0, .int .i64 t0, .slice la ln lc, .int .u64 f0, .int .i64 o0, .int .i64 v0, .int .u64 d0, .bool s0, .int .i64 x0, .int .i64 e1, .int .i64 y1, .int .i64 q1, .int .i64 t1, .slice ma mn mc, .int .u64 f1, .int .i64 o1, .int .i64 v1, .int .u64 d1, .bool s1, .int .i64 x1, .slice ga gn gc, .slice ha hn hc, .int .i64 N'.n, .int .i64 N'.room, .slice za zn zc] rfl rfl (ho1.blk (old1 k2.2 _) (by omega)) (by kernel_rfl) (by simp) rfl rfl ?_
  intro W2 hb2 ho2
  go_wp2
  exact bodyPost_ret (v := .tuple #[.agg #[.int .i64 e0, .int .i64 y0, .int .i64 q0, .int .i64 t0, .slice la ln lc, .int .u64 f0, .int .i64 o0, .int .i64 v0, .int .u64 d0, .bool s0, .int .i64 x0, .int .i64 e1, .int .i64 y1, .int .i64 q1, .int .i64 t1, .slice ma mn mc, .int .u64 f1, .int .i64 o1, .int .i64 v1, .int .u64 d1, .bool s1, .int .i64 x1, .slice ga gn gc, .slice ha hn hc, .int .i64 N'.n, .int .i64 N'.room, .slice za zn zc], .bool TH]) (res_ct 7 rfl rfl hb2 uPipe (by kernel_rfl)) rfl ⟨_, rfl, ((((HR.out _ HX2.out).putN (x := ⟨za, zn, zc⟩) HN2.out (Nat.le_succ m)).ext (Ext.alloc (Ext.refl w2) _)).stay ho1 (by omega)).drop ho2 (by omega) |>.to, ext_off (ext_off (Ext.trans HX2.out (Ext.alloc (Ext.refl w2) _)) ho1 (fun k hk => by omega)) ho2 (fun k hk => by omega)⟩

set_option maxRecDepth 50000 in
set_option maxHeartbeats 6400000 in
theorem rDouble_any (F : Nat → Prop) (w : World) (hF : ∀ k, F k → k < w.heap.size) (P : PipeS) (l0 l1 g0 g1 ws : SV) (m : Nat) (ok : P.Ok) (h : RP F w P l0 l1 g0 g1 ws m) (hm : m ≤ 5000) (two : P.net.n = 2) (s k : Int) :
    Calls Tryz.prog 19 #[.agg (pcs P l0 l1 g0 g1 ws), .int .i64 s, .int .i64 k] w fun ev w' => ∃ v', ev = .returned (.tuple #[v', .bool (P.net.canD (1 - s) s k)]) ∧ RPipe F w' v' (P.double s k) (m + 1) ∧ Ext w w' := by
  have H := Lib.hid h
  have HF := Lib.hid hF
  have okN := ok.net
  have wr := net_wrap okN two s k 0
  obtain ⟨⟨e0, y0, q0, t0, L0, f0, o0, v0, d0, s0, x0⟩, ⟨e1, y1, q1, t1, L1, f1, o1, v1, d1, s1, x1⟩, G0, G1, N⟩ := P
  obtain ⟨la, ln, lc⟩ := l0
  obtain ⟨ma, mn, mc⟩ := l1
  obtain ⟨ga, gn, gc⟩ := g0
  obtain ⟨ha, hn, hc⟩ := g1
  obtain ⟨wa, wn, wc⟩ := ws
  dsimp only at okN wr
  have HR := Lib.hid (fun (W : World) (x : Ext w W) => H.out.boxes (n := 2) x)
  have HNT := Lib.hid (fun (W : World) (x : Ext w W) => (HR.out W x).net)
  have HG : Hid (∀ (W : World), w.heap.size + 2 ≤ W.heap.size → ∀ k, (fun k => F k ∨ (w.heap.size ≤ k ∧ k < w.heap.size + 2)) k → k < W.heap.size) := Lib.hid (fun W hW k hk => by
    rcases hk with hk | hk
    · have := HF.out k hk; omega
    · omega)
  obtain ⟨O, hO⟩ : ∃ O, IntKind.i64.wrap (1 - s) = O := ⟨_, rfl⟩
  have cD := fun (G : Nat → Prop) (W : World) hW (v : Value) hv => refDouble_any G W hW v N m hv hm okN (IntKind.i64.wrap (1 - s)) s k
  rw [hO] at wr
  rw [hO, wr.2.2.2.1, wr.2.2.2.2.1] at cD
  show Calls _ _ _ _ (fun ev w' => ∃ v', ev = .returned (.tuple #[v', .bool (N.canD (1 - s) s k)]) ∧ RPipe F w' v' (⟨⟨e0, y0, q0, t0, L0, f0, o0, v0, d0, s0, x0⟩, ⟨e1, y1, q1, t1, L1, f1, o1, v1, d1, s1, x1⟩, G0, G1, N.double (1 - s) s k⟩ : PipeS) (m + 1) ∧ Ext w w')
  obtain ⟨N', hN'⟩ : ∃ N', N' = N.double (1 - s) s k := ⟨_, rfl⟩
  obtain ⟨TH, hTH⟩ : ∃ TH, TH = N.canD (1 - s) s k := ⟨_, rfl⟩
  rw [← hN', ← hTH] at cD
  rw [← hN', ← hTH]
  have HD := Lib.hid cD
  unfold pcs
  dsimp only [SV.v]
  clear h hF ok cD hN' hTH wr okN two hm
  go_enter Tryz.func19, Tryz.ntmps19
  go_wp2_with fail
  refine (HD.out (fun k => F k ∨ (w.heap.size ≤ k ∧ k < w.heap.size + 2)) _ (HG.out _ (by rw [size_alloc, size_alloc]; omega)) _ (HNT.out _ (Ext.alloc (Ext.alloc (Ext.refl w) _) _))).mono ?_
  rintro ev w2 ⟨v2, rfl, ⟨za, zn, zc, L9, rfl, hr9⟩, x2⟩
  have HX2 := Lib.hid (Ext.trans (Ext.alloc (Ext.alloc (Ext.refl w) _) _) x2)
  have HN2 : Hid (RNet (fun k => F k ∨ (w.heap.size ≤ k ∧ k < w.heap.size + 2)) w2 (.agg #[.int .i64 N'.n, .int .i64 N'.room, .slice za zn zc]) N' (m + 1)) := Lib.hid ⟨za, zn, zc, L9, rfl, hr9⟩
  have k2 : w2.heap[w.heap.size]? = some (.cells #[.int .i64 e0, .int .i64 y0, .int .i64 q0, .int .i64 t0, .slice la ln lc, .int .u64 f0, .int .i64 o0, .int .i64 v0, .int .u64 d0, .bool s0, .int .i64 x0, .int .i64 e1, .int .i64 y1, .int .i64 q1, .int .i64 t1, .slice ma mn mc, .int .u64 f1, .int .i64 o1, .int .i64 v1, .int .u64 d1, .bool s1, .int .i64 x1, .slice ga gn gc, .slice ha hn hc, .int .i64 N.n, .int .i64 N.room, .slice wa wn wc] 35 (0, 0)) ∧ w2.heap[w.heap.size + 1]? = some (.cells #[.int .i64 0, .int .i64 0, .int .i64 0, .int .i64 0, .slice none 0 0, .int .u64 0, .int .i64 0, .int .i64 0, .int .u64 0, .bool false, .int .i64 0, .int .i64 0, .int .i64 0, .int .i64 0, .int .i64 0, .slice none 0 0, .int .u64 0, .int .i64 0, .int .i64 0, .int .u64 0, .bool false, .int .i64 0, .slice none 0 0, .slice none 0 0, .int .i64 0, .int .i64 0, .slice none 0 0] 35 (0, 0)) := ⟨(x2.block _ (by rw [size_alloc, size_alloc]; omega)).trans (old1 (at0 w _) _), (x2.block _ (by rw [size_alloc, size_alloc]; omega)).trans (at1 w _ _)⟩
  clear x2 hr9
  dsimp only
  go_wp2_with (first | refine haltst (x := .tmp 21) 33 ?_ | refine haltst 35 ?_ | refine haltld 35 ?_)
  refine .inl ?_
  refine st_l 33 (.tmp 21) (.tmp 20) (w.heap.size) 24 35 #[.int .i64 e0, .int .i64 y0, .int .i64 q0, .int .i64 t0, .slice la ln lc, .int .u64 f0, .int .i64 o0, .int .i64 v0, .int .u64 d0, .bool s0, .int .i64 x0, .int .i64 e1, .int .i64 y1, .int .i64 q1, .int .i64 t1, .slice ma mn mc, .int .u64 f1, .int .i64 o1, .int .i64 v1, .int .u64 d1, .bool s1, .int .i64 x1, .slice ga gn gc, .slice ha hn hc, .int .i64 N.n, .int .i64 N.room, .slice wa wn wc] #[.int .i64 N'.n, .int .i64 N'.room, .slice za zn zc] #[.int .i64 e0, .int .i64 y0, .int .i64 q0, .int .i64 t0, .slice la ln lc, .int .u64 f0, .int .i64 o0, .int .i64 v0, .int .u64 d0, .bool s0, .int .i64 x0, .int .i64 e1, .int .i64 y1, .int .i64 q1, .int .i64 t1, .slice ma mn mc, .int .u64 f1, .int .i64 o1, .int .i64 v1, .int .u64 d1, .bool s1, .int .i64 x1, .slice ga gn gc, .slice ha hn hc, .int .i64 N'.n, .int .i64 N'.room, .slice za zn zc] rfl rfl (old1 k2.1 _) (by kernel_rfl) (by simp) rfl rfl ?_
  intro W1 hb1 ho1
  go_wp2_with (first | refine haltst 35 ?_ | refine haltld 35 ?_)
  refine .inl ?_
  refine ld_l 35 (.tmp 3) (w.heap.size) 35 #[.int .i64 e0, .int .i64 y0, .int .i64 q0, .int .i64 t0, .slice la ln lc, .int .u64 f0, .int .i64 o0, .int .i64 v0, .int .u64 d0, .bool s0, .int .i64 x0, .int .i64 e1, .int .i64 y1, .int .i64 q1, .int .i64 t1, .slice ma mn mc, .int .u64 f1, .int .i64 o1, .int .i64 v1, .int .u64 d1, .bool s1, .int .i64 x1, .slice ga gn gc, .slice ha hn hc, .int .i64 N'.n, .int .i64 N'.room, .slice za zn zc] rfl (hb1) uPipe (by kernel_rfl) ?_
  go_wp2_with (first | refine haltst 35 ?_ | refine haltld 35 ?_)
  refine .inl ?_
  refine st_l 35 (.tmp 6) (.tmp 22) (w.heap.size + 1) 0 35 #[.int .i64 0, .int .i64 0, .int .i64 0, .int .i64 0, .slice none 0 0, .int .u64 0, .int .i64 0, .int .i64 0, .int .u64 0, .bool false, .int .i64 0, .int .i64 0, .int .i64 0, .int .i64 0, .int .i64 0, .slice none 0 0, .int .u64 0, .int .i64 0, .int .i64 0, .int .u64 0, .bool false, .int .i64 0, .slice none 0 0, .slice none 0 0, .int .i64 0, .int .i64 0, .slice none 0 0] #[.int .i64 e0, .int .i64 y0, .int .i64 q0, .int .i64 t0, .slice la ln lc, .int .u64 f0, .int .i64 o0, .int .i64 v0, .int .u64 d0, .bool s0, .int .i64 x0, .int .i64 e1, .int .i64 y1, .int .i64 q1, .int .i64 t1, .slice ma mn mc, .int .u64 f1, .int .i64 o1, .int .i64 v1, .int .u64 d1, .bool s1, .int .i64 x1, .slice ga gn gc, .slice ha hn hc, .int .i64 N'.n, .int .i64 N'.room, .slice za zn zc] #[.int .i64 e0, .int .i64 y0, .int .i64 q0, .int .i64 t0, .slice la ln lc, .int .u64 f0, .int .i64 o0, .int .i64 v0, .int .u64 d0, .bool s0, .int .i64 x0, .int .i64 e1, .int .i64 y1, .int .i64 q1, .int .i64 t1, .slice ma mn mc, .int .u64 f1, .int .i64 o1, .int .i64 v1, .int .u64 d1, .bool s1, .int .i64 x1, .slice ga gn gc, .slice ha hn hc, .int .i64 N'.n, .int .i64 N'.room, .slice za zn zc] rfl rfl (ho1.blk (old1 k2.2 _) (by omega)) (by kernel_rfl) (by simp) rfl rfl ?_
  intro W2 hb2 ho2
  go_wp2
  exact bodyPost_ret (v := .tuple #[.agg #[.int .i64 e0, .int .i64 y0, .int .i64 q0, .int .i64 t0, .slice la ln lc, .int .u64 f0, .int .i64 o0, .int .i64 v0, .int .u64 d0, .bool s0, .int .i64 x0, .int .i64 e1, .int .i64 y1, .int .i64 q1, .int .i64 t1, .slice ma mn mc, .int .u64 f1, .int .i64 o1, .int .i64 v1, .int .u64 d1, .bool s1, .int .i64 x1, .slice ga gn gc, .slice ha hn hc, .int .i64 N'.n, .int .i64 N'.room, .slice za zn zc], .bool TH]) (res_ct 7 rfl rfl hb2 uPipe (by kernel_rfl)) rfl ⟨_, rfl, ((((HR.out _ HX2.out).putN (x := ⟨za, zn, zc⟩) HN2.out (Nat.le_succ m)).ext (Ext.alloc (Ext.refl w2) _)).stay ho1 (by omega)).drop ho2 (by omega) |>.to, ext_off (ext_off (Ext.trans HX2.out (Ext.alloc (Ext.refl w2) _)) ho1 (fun k hk => by omega)) ho2 (fun k hk => by omega)⟩

set_option maxRecDepth 50000 in
set_option maxHeartbeats 6400000 in
theorem rFlip_any (F : Nat → Prop) (w : World) (hF : ∀ k, F k → k < w.heap.size) (P : PipeS) (l0 l1 g0 g1 ws : SV) (m : Nat) (ok : P.Ok) (h : RP F w P l0 l1 g0 g1 ws m) (hm : m ≤ 5000) (two : P.net.n = 2) (s k bit : Int) (hb : -9223372036854775808 ≤ bit) (hb2 : bit ≤ 9223372036854775807) :
    Calls Tryz.prog 21 #[.agg (pcs P l0 l1 g0 g1 ws), .int .i64 s, .int .i64 k, .int .i64 bit] w fun ev w' => ∃ v', ev = .returned (.tuple #[v', .bool (P.net.canF (1 - s) s k)]) ∧ RPipe F w' v' (P.flip s k bit) (m + 1) ∧ Ext w w' := by
  have H := Lib.hid h
  have HF := Lib.hid hF
  have okN := ok.net
  have wr := net_wrap okN two s k bit
  obtain ⟨⟨e0, y0, q0, t0, L0, f0, o0, v0, d0, s0, x0⟩, ⟨e1, y1, q1, t1, L1, f1, o1, v1, d1, s1, x1⟩, G0, G1, N⟩ := P
  obtain ⟨la, ln, lc⟩ := l0
  obtain ⟨ma, mn, mc⟩ := l1
  obtain ⟨ga, gn, gc⟩ := g0
  obtain ⟨ha, hn, hc⟩ := g1
  obtain ⟨wa, wn, wc⟩ := ws
  dsimp only at okN wr
  have HR := Lib.hid (fun (W : World) (x : Ext w W) => H.out.boxes (n := 2) x)
  have HNT := Lib.hid (fun (W : World) (x : Ext w W) => (HR.out W x).net)
  have HG : Hid (∀ (W : World), w.heap.size + 2 ≤ W.heap.size → ∀ k, (fun k => F k ∨ (w.heap.size ≤ k ∧ k < w.heap.size + 2)) k → k < W.heap.size) := Lib.hid (fun W hW k hk => by
    rcases hk with hk | hk
    · have := HF.out k hk; omega
    · omega)
  obtain ⟨O, hO⟩ : ∃ O, IntKind.i64.wrap (1 - s) = O := ⟨_, rfl⟩
  have cD := fun (G : Nat → Prop) (W : World) hW (v : Value) hv => refFlip_any G W hW v N m hv hm okN (IntKind.i64.wrap (1 - s)) s k bit hb hb2
  rw [hO] at wr
  rw [hO, wr.2.2.2.2.2.1, wr.2.2.2.2.2.2] at cD
  show Calls _ _ _ _ (fun ev w' => ∃ v', ev = .returned (.tuple #[v', .bool (N.canF (1 - s) s k)]) ∧ RPipe F w' v' (⟨⟨e0, y0, q0, t0, L0, f0, o0, v0, d0, s0, x0⟩, ⟨e1, y1, q1, t1, L1, f1, o1, v1, d1, s1, x1⟩, G0, G1, N.flip (1 - s) s k bit⟩ : PipeS) (m + 1) ∧ Ext w w')
  obtain ⟨N', hN'⟩ : ∃ N', N' = N.flip (1 - s) s k bit := ⟨_, rfl⟩
  obtain ⟨TH, hTH⟩ : ∃ TH, TH = N.canF (1 - s) s k := ⟨_, rfl⟩
  rw [← hN', ← hTH] at cD
  rw [← hN', ← hTH]
  have HD := Lib.hid cD
  unfold pcs
  dsimp only [SV.v]
  clear h hF ok cD hN' hTH wr okN two hm hb hb2
  go_enter Tryz.func21, Tryz.ntmps21
  go_wp2_with fail
  refine (HD.out (fun k => F k ∨ (w.heap.size ≤ k ∧ k < w.heap.size + 2)) _ (HG.out _ (by rw [size_alloc, size_alloc]; omega)) _ (HNT.out _ (Ext.alloc (Ext.alloc (Ext.refl w) _) _))).mono ?_
  rintro ev w2 ⟨v2, rfl, ⟨za, zn, zc, L9, rfl, hr9⟩, x2⟩
  have HX2 := Lib.hid (Ext.trans (Ext.alloc (Ext.alloc (Ext.refl w) _) _) x2)
  have HN2 : Hid (RNet (fun k => F k ∨ (w.heap.size ≤ k ∧ k < w.heap.size + 2)) w2 (.agg #[.int .i64 N'.n, .int .i64 N'.room, .slice za zn zc]) N' (m + 1)) := Lib.hid ⟨za, zn, zc, L9, rfl, hr9⟩
  have k2 : w2.heap[w.heap.size]? = some (.cells #[.int .i64 e0, .int .i64 y0, .int .i64 q0, .int .i64 t0, .slice la ln lc, .int .u64 f0, .int .i64 o0, .int .i64 v0, .int .u64 d0, .bool s0, .int .i64 x0, .int .i64 e1, .int .i64 y1, .int .i64 q1, .int .i64 t1, .slice ma mn mc, .int .u64 f1, .int .i64 o1, .int .i64 v1, .int .u64 d1, .bool s1, .int .i64 x1, .slice ga gn gc, .slice ha hn hc, .int .i64 N.n, .int .i64 N.room, .slice wa wn wc] 35 (0, 0)) ∧ w2.heap[w.heap.size + 1]? = some (.cells #[.int .i64 0, .int .i64 0, .int .i64 0, .int .i64 0, .slice none 0 0, .int .u64 0, .int .i64 0, .int .i64 0, .int .u64 0, .bool false, .int .i64 0, .int .i64 0, .int .i64 0, .int .i64 0, .int .i64 0, .slice none 0 0, .int .u64 0, .int .i64 0, .int .i64 0, .int .u64 0, .bool false, .int .i64 0, .slice none 0 0, .slice none 0 0, .int .i64 0, .int .i64 0, .slice none 0 0] 35 (0, 0)) := ⟨(x2.block _ (by rw [size_alloc, size_alloc]; omega)).trans (old1 (at0 w _) _), (x2.block _ (by rw [size_alloc, size_alloc]; omega)).trans (at1 w _ _)⟩
  clear x2 hr9
  dsimp only
  go_wp2_with (first | refine haltst (x := .tmp 24) 33 ?_ | refine haltst 35 ?_ | refine haltld 35 ?_)
  refine .inl ?_
  refine st_l 33 (.tmp 24) (.tmp 23) (w.heap.size) 24 35 #[.int .i64 e0, .int .i64 y0, .int .i64 q0, .int .i64 t0, .slice la ln lc, .int .u64 f0, .int .i64 o0, .int .i64 v0, .int .u64 d0, .bool s0, .int .i64 x0, .int .i64 e1, .int .i64 y1, .int .i64 q1, .int .i64 t1, .slice ma mn mc, .int .u64 f1, .int .i64 o1, .int .i64 v1, .int .u64 d1, .bool s1, .int .i64 x1, .slice ga gn gc, .slice ha hn hc, .int .i64 N.n, .int .i64 N.room, .slice wa wn wc] #[.int .i64 N'.n, .int .i64 N'.room, .slice za zn zc] #[.int .i64 e0, .int .i64 y0, .int .i64 q0, .int .i64 t0, .slice la ln lc, .int .u64 f0, .int .i64 o0, .int .i64 v0, .int .u64 d0, .bool s0, .int .i64 x0, .int .i64 e1, .int .i64 y1, .int .i64 q1, .int .i64 t1, .slice ma mn mc, .int .u64 f1, .int .i64 o1, .int .i64 v1, .int .u64 d1, .bool s1, .int .i64 x1, .slice ga gn gc, .slice ha hn hc, .int .i64 N'.n, .int .i64 N'.room, .slice za zn zc] rfl rfl (old1 k2.1 _) (by kernel_rfl) (by simp) rfl rfl ?_
  intro W1 hb1 ho1
  go_wp2_with (first | refine haltst 35 ?_ | refine haltld 35 ?_)
  refine .inl ?_
  refine ld_l 35 (.tmp 4) (w.heap.size) 35 #[.int .i64 e0, .int .i64 y0, .int .i64 q0, .int .i64 t0, .slice la ln lc, .int .u64 f0, .int .i64 o0, .int .i64 v0, .int .u64 d0, .bool s0, .int .i64 x0, .int .i64 e1, .int .i64 y1, .int .i64 q1, .int .i64 t1, .slice ma mn mc, .int .u64 f1, .int .i64 o1, .int .i64 v1, .int .u64 d1, .bool s1, .int .i64 x1, .slice ga gn gc, .slice ha hn hc, .int .i64 N'.n, .int .i64 N'.room, .slice za zn zc] rfl (hb1) uPipe (by kernel_rfl) ?_
  go_wp2_with (first | refine haltst 35 ?_ | refine haltld 35 ?_)
  refine .inl ?_
  refine st_l 35 (.tmp 8) (.tmp 25) (w.heap.size + 1) 0 35 #[.int .i64 0, .int .i64 0, .int .i64 0, .int .i64 0, .slice none 0 0, .int .u64 0, .int .i64 0, .int .i64 0, .int .u64 0, .bool false, .int .i64 0, .int .i64 0, .int .i64 0, .int .i64 0, .int .i64 0, .slice none 0 0, .int .u64 0, .int .i64 0, .int .i64 0, .int .u64 0, .bool false, .int .i64 0, .slice none 0 0, .slice none 0 0, .int .i64 0, .int .i64 0, .slice none 0 0] #[.int .i64 e0, .int .i64 y0, .int .i64 q0, .int .i64 t0, .slice la ln lc, .int .u64 f0, .int .i64 o0, .int .i64 v0, .int .u64 d0, .bool s0, .int .i64 x0, .int .i64 e1, .int .i64 y1, .int .i64 q1, .int .i64 t1, .slice ma mn mc, .int .u64 f1, .int .i64 o1, .int .i64 v1, .int .u64 d1, .bool s1, .int .i64 x1, .slice ga gn gc, .slice ha hn hc, .int .i64 N'.n, .int .i64 N'.room, .slice za zn zc] #[.int .i64 e0, .int .i64 y0, .int .i64 q0, .int .i64 t0, .slice la ln lc, .int .u64 f0, .int .i64 o0, .int .i64 v0, .int .u64 d0, .bool s0, .int .i64 x0, .int .i64 e1, .int .i64 y1, .int .i64 q1, .int .i64 t1, .slice ma mn mc, .int .u64 f1, .int .i64 o1, .int .i64 v1, .int .u64 d1, .bool s1, .int .i64 x1, .slice ga gn gc, .slice ha hn hc, .int .i64 N'.n, .int .i64 N'.room, .slice za zn zc] rfl rfl (ho1.blk (old1 k2.2 _) (by omega)) (by kernel_rfl) (by simp) rfl rfl ?_
  intro W2 hb2 ho2
  go_wp2
  exact bodyPost_ret (v := .tuple #[.agg #[.int .i64 e0, .int .i64 y0, .int .i64 q0, .int .i64 t0, .slice la ln lc, .int .u64 f0, .int .i64 o0, .int .i64 v0, .int .u64 d0, .bool s0, .int .i64 x0, .int .i64 e1, .int .i64 y1, .int .i64 q1, .int .i64 t1, .slice ma mn mc, .int .u64 f1, .int .i64 o1, .int .i64 v1, .int .u64 d1, .bool s1, .int .i64 x1, .slice ga gn gc, .slice ha hn hc, .int .i64 N'.n, .int .i64 N'.room, .slice za zn zc], .bool TH]) (res_ct 9 rfl rfl hb2 uPipe (by kernel_rfl)) rfl ⟨_, rfl, ((((HR.out _ HX2.out).putN (x := ⟨za, zn, zc⟩) HN2.out (Nat.le_succ m)).ext (Ext.alloc (Ext.refl w2) _)).stay ho1 (by omega)).drop ho2 (by omega) |>.to, ext_off (ext_off (Ext.trans HX2.out (Ext.alloc (Ext.refl w2) _)) ho1 (fun k hk => by omega)) ho2 (fun k hk => by omega)⟩
end Go.Proofs.YtlakolkpfkakoaaGreatDoor

/- Layer 10's document: New. -/
namespace Go.Proofs.YtlakolkpfkakoaaGreatDoor
open Go.RowKit

set_option linter.unusedVariables false

set_option maxRecDepth 50000 in
set_option maxHeartbeats 6400000 in
theorem rNew_any (F : Nat → Prop) (w : World) (hF : ∀ k, F k → k < w.heap.size) (e : Int) (first : Nat) (win qn wait room : Int) :
    Calls Tryz.prog 7 #[.int .i64 e, .int .u64 first, .int .i64 win, .int .i64 qn, .int .i64 wait, .int .i64 room] w fun ev w' => ∃ v', ev = .returned v' ∧ RPipe F w' v' (PipeS.new e first win qn wait room) 0 ∧ Ext w w' := by
  have HE := Lib.hid (fun (G : Nat → Prop) W => refNewE_any G W e first win qn wait)
  have HN := Lib.hid (fun (G : Nat → Prop) W => refNew_any G W 2 room)
  have HF := Lib.hid hF
  unfold PipeS.new
  obtain ⟨N', hN⟩ : ∃ N', N' = NetS.new 2 room := ⟨_, rfl⟩
  obtain ⟨E', hE⟩ : ∃ E', E' = EndS.new e first win qn wait := ⟨_, rfl⟩
  rw [← hN] at HN ⊢
  rw [← hE] at HE ⊢
  clear hN hE hF
  go_enter Tryz.func7, Tryz.ntmps7
  go_wp2_with fail
  refine (HE.out (fun k => F k ∨ (w.heap.size ≤ k ∧ k < w.heap.size + 1)) _).mono ?_
  rintro ev wA ⟨v1, rfl, ⟨ea, en, ec, rfl, hs1⟩, x1⟩
  have HX1 := Lib.hid (Ext.trans (Ext.alloc (Ext.refl w) _) x1)
  have HS1 := Lib.hid hs1
  have kA : wA.heap[w.heap.size]? = some (.cells #[.int .i64 0, .int .i64 0, .int .i64 0, .int .i64 0, .slice none 0 0, .int .u64 0, .int .i64 0, .int .i64 0, .int .u64 0, .bool false, .int .i64 0, .int .i64 0, .int .i64 0, .int .i64 0, .int .i64 0, .slice none 0 0, .int .u64 0, .int .i64 0, .int .i64 0, .int .u64 0, .bool false, .int .i64 0, .slice none 0 0, .slice none 0 0, .int .i64 0, .int .i64 0, .slice none 0 0] 35 (0, 0)) := (x1.block _ (by rw [size_alloc]; omega)).trans (at0 w _)
  clear x1 hs1
  unfold rCells
  dsimp only
  go_wp2_with fail
  (refine wp_region_X_lit (K := fun W => W.heap[wA.heap.size]? = some (.cells #[.int .i64 E'.e, .int .i64 E'.win, .int .i64 E'.qn, .int .i64 E'.wait, .slice ea en ec, .int .u64 E'.first, .int .i64 E'.out, .int .i64 E'.ever, .int .u64 E'.want, .bool E'.owes, .int .i64 E'.age] 30 (0, 0))) (by kernel_rfl) (fun w1 hw1 => ?_))
  have x5 := Ext.trans (Ext.alloc (Ext.refl wA) _) hw1
  have HX2 := Lib.hid (Ext.trans HX1.out x5)
  have HS2 := Lib.hid (HS1.out.ext x5)
  have k2 : w1.heap[w.heap.size]? = some (.cells #[.int .i64 0, .int .i64 0, .int .i64 0, .int .i64 0, .slice none 0 0, .int .u64 0, .int .i64 0, .int .i64 0, .int .u64 0, .bool false, .int .i64 0, .int .i64 0, .int .i64 0, .int .i64 0, .int .i64 0, .slice none 0 0, .int .u64 0, .int .i64 0, .int .i64 0, .int .u64 0, .bool false, .int .i64 0, .slice none 0 0, .slice none 0 0, .int .i64 0, .int .i64 0, .slice none 0 0] 35 (0, 0)) := (x5.block _ (blk_lt kA)).trans kA
  have k1 : w1.heap[wA.heap.size]? = some (.cells #[.int .i64 E'.e, .int .i64 E'.win, .int .i64 E'.qn, .int .i64 E'.wait, .slice ea en ec, .int .u64 E'.first, .int .i64 E'.out, .int .i64 E'.ever, .int .u64 E'.want, .bool E'.owes, .int .i64 E'.age] 30 (0, 0)) := (hw1.block _ (by rw [size_alloc]; omega)).trans (at0 wA _)
  have hne : wA.heap.size ≠ w.heap.size := by have := blk_lt kA; omega
  clear hw1 x5 kA
  refine xtv 0 (hv := by intro w' hw'; obtain ⟨⟨q0, q1, q2, q3, q4, q5, q6, q7, q8, q9, q10⟩, _⟩ := cells11 hw'; go_simp; first | done | with_reducible rfl) (h := ?_)
  refine xtv 1 (hv := by intro w' hw'; obtain ⟨⟨q0, q1, q2, q3, q4, q5, q6, q7, q8, q9, q10⟩, _⟩ := cells11 hw'; go_simp; first | done | with_reducible rfl) (h := ?_)
  refine xtv 2 (h := ?_)
  refine xone 3 (hk := k1) (h := RunX.of 3 (h := ?_))
  go_simp
  refine (HN.out (fun k => F k ∨ (w.heap.size ≤ k ∧ k < w.heap.size + 1)) _).mono ?_
  rintro ev w3 ⟨v3, rfl, ⟨za, zn, zc, L9, rfl, hr9⟩, x3⟩
  have HX3 := Lib.hid (Ext.trans HX2.out x3)
  have HS3 := Lib.hid (HS2.out.ext x3)
  have HN3 : Hid (RNet (fun k => F k ∨ (w.heap.size ≤ k ∧ k < w.heap.size + 1)) w3 (.agg #[.int .i64 N'.n, .int .i64 N'.room, .slice za zn zc]) N' 0) := Lib.hid ⟨za, zn, zc, L9, rfl, hr9⟩
  have k3 := (x3.block _ (blk_lt k1)).trans k1
  have k4 := (x3.block _ (blk_lt k2)).trans k2
  clear x3 hr9 k1 k2
  dsimp only
  (try (simp only [Act.put, List.setIfInBounds_toArray, List.set]))
  refine xtv 4 (h := ?_)
  refine xone 5 (hk := k3) (h := RunX.of 5 (h := ?_))
  refine wp_st 35 (.tmp 12) (.tmp 24) ?_ (w.heap.size) 0 35 #[.int .i64 0, .int .i64 0, .int .i64 0, .int .i64 0, .slice none 0 0, .int .u64 0, .int .i64 0, .int .i64 0, .int .u64 0, .bool false, .int .i64 0, .int .i64 0, .int .i64 0, .int .i64 0, .int .i64 0, .slice none 0 0, .int .u64 0, .int .i64 0, .int .i64 0, .int .u64 0, .bool false, .int .i64 0, .slice none 0 0, .slice none 0 0, .int .i64 0, .int .i64 0, .slice none 0 0] #[.int .i64 E'.e, .int .i64 E'.win, .int .i64 E'.qn, .int .i64 E'.wait, .slice ea en ec, .int .u64 E'.first, .int .i64 E'.out, .int .i64 E'.ever, .int .u64 E'.want, .bool E'.owes, .int .i64 E'.age, .int .i64 E'.e, .int .i64 E'.win, .int .i64 E'.qn, .int .i64 E'.wait, .slice ea en ec, .int .u64 E'.first, .int .i64 E'.out, .int .i64 E'.ever, .int .u64 E'.want, .bool E'.owes, .int .i64 E'.age, .slice none 0 0, .slice none 0 0, .int .i64 N'.n, .int .i64 N'.room, .slice za zn zc] #[.int .i64 E'.e, .int .i64 E'.win, .int .i64 E'.qn, .int .i64 E'.wait, .slice ea en ec, .int .u64 E'.first, .int .i64 E'.out, .int .i64 E'.ever, .int .u64 E'.want, .bool E'.owes, .int .i64 E'.age, .int .i64 E'.e, .int .i64 E'.win, .int .i64 E'.qn, .int .i64 E'.wait, .slice ea en ec, .int .u64 E'.first, .int .i64 E'.out, .int .i64 E'.ever, .int .u64 E'.want, .bool E'.owes, .int .i64 E'.age, .slice none 0 0, .slice none 0 0, .int .i64 N'.n, .int .i64 N'.room, .slice za zn zc] ?_ ?_ k4 (by kernel_rfl) (by simp) rfl rfl ?_
  · exact rfl
  · exact rfl
  · exact rfl
  intro W2 hb2 ho2
  dsimp only
  (try simp only [Act.put])
  (refine xdone (by kernel_rfl) (ho2.blk k3 hne) ?_)
  go_wp2
  have HRP : RP (fun k => F k ∨ (w.heap.size ≤ k ∧ k < w.heap.size + 1)) w3 ⟨E', E', [], [], N'⟩ ⟨ea, en, ec⟩ ⟨ea, en, ec⟩ ⟨none, 0, 0⟩ ⟨none, 0, 0⟩ ⟨za, zn, zc⟩ 0 := ⟨HS3.out, HS3.out, Sa.nil _ _, Sa.nil _ _, HN3.out⟩
  exact bodyPost_ret (v := .agg #[.int .i64 E'.e, .int .i64 E'.win, .int .i64 E'.qn, .int .i64 E'.wait, .slice ea en ec, .int .u64 E'.first, .int .i64 E'.out, .int .i64 E'.ever, .int .u64 E'.want, .bool E'.owes, .int .i64 E'.age, .int .i64 E'.e, .int .i64 E'.win, .int .i64 E'.qn, .int .i64 E'.wait, .slice ea en ec, .int .u64 E'.first, .int .i64 E'.out, .int .i64 E'.ever, .int .u64 E'.want, .bool E'.owes, .int .i64 E'.age, .slice none 0 0, .slice none 0 0, .int .i64 N'.n, .int .i64 N'.room, .slice za zn zc]) (res_c rfl rfl hb2 uPipe (by kernel_rfl)) rfl ⟨_, rfl, (HRP.drop ho2 (by omega)).to, ext_off HX3.out ho2 (fun k hk => by omega)⟩
end Go.Proofs.YtlakolkpfkakoaaGreatDoor
