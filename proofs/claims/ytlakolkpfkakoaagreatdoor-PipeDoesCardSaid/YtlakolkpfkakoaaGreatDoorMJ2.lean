/- Layer 10's document: Tick. -/
import Derived.Test.YtlakolkpfkakoaaGreatDoorMJ1
namespace Go.Proofs.YtlakolkpfkakoaaGreatDoor
open Go.RowKit

set_option linter.unusedVariables false

set_option maxRecDepth 50000 in
set_option maxHeartbeats 6400000 in
theorem rTickNo (F : Nat → Prop) (w : World) (hF : ∀ k, F k → k < w.heap.size) (P : PipeS) (l0 l1 g0 g1 ws : SV) (m : Nat) (ok : P.Ok) (h : RP F w P l0 l1 g0 g1 ws m) (s : Int) (hs : PipeS.side s = false) :
    Calls Tryz.prog 13 #[.agg (pcs P l0 l1 g0 g1 ws), .int .i64 s] w fun ev w' => ∃ v', ev = .returned (v') ∧ RPipe F w' v' P m ∧ Ext w w' := by
  obtain ⟨h0, h1⟩ := PipeS.side_no hs
  have t0' : (s != 0) = true := bne_iff_ne.2 h0
  have t1' : (s != 1) = true := bne_iff_ne.2 h1
  have H := Lib.hid h
  obtain ⟨⟨e0, y0, q0, t0, L0, f0, o0, v0, d0, s0, x0⟩, ⟨e1, y1, q1, t1, L1, f1, o1, v1, d1, s1, x1⟩, G0, G1, N⟩ := P
  obtain ⟨la, ln, lc⟩ := l0
  obtain ⟨ma, mn, mc⟩ := l1
  obtain ⟨ga, gn, gc⟩ := g0
  obtain ⟨ha, hn, hc⟩ := g1
  obtain ⟨wa, wn, wc⟩ := ws
  have HR := Lib.hid (fun (W : World) (x : Ext w W) => H.out.boxes (n := 2) x)
  unfold pcs
  dsimp only [SV.v]
  clear h hF ok hs
  go_enter Tryz.func13, Tryz.ntmps13
  go_wp2_with (first | refine haltst 35 ?_ | refine haltld 35 ?_)
  refine .inl ?_
  refine ld_l 35 (.tmp 2) (w.heap.size) 35 #[.int .i64 e0, .int .i64 y0, .int .i64 q0, .int .i64 t0, .slice la ln lc, .int .u64 f0, .int .i64 o0, .int .i64 v0, .int .u64 d0, .bool s0, .int .i64 x0, .int .i64 e1, .int .i64 y1, .int .i64 q1, .int .i64 t1, .slice ma mn mc, .int .u64 f1, .int .i64 o1, .int .i64 v1, .int .u64 d1, .bool s1, .int .i64 x1, .slice ga gn gc, .slice ha hn hc, .int .i64 N.n, .int .i64 N.room, .slice wa wn wc] rfl (old1 (at0 w _) _) uPipe (by kernel_rfl) ?_
  go_wp2_with (first | refine haltst 35 ?_ | refine haltld 35 ?_)
  refine .inl ?_
  refine st_l 35 (.tmp 4) (.tmp 11) (w.heap.size + 1) 0 35 #[.int .i64 0, .int .i64 0, .int .i64 0, .int .i64 0, .slice none 0 0, .int .u64 0, .int .i64 0, .int .i64 0, .int .u64 0, .bool false, .int .i64 0, .int .i64 0, .int .i64 0, .int .i64 0, .int .i64 0, .slice none 0 0, .int .u64 0, .int .i64 0, .int .i64 0, .int .u64 0, .bool false, .int .i64 0, .slice none 0 0, .slice none 0 0, .int .i64 0, .int .i64 0, .slice none 0 0] #[.int .i64 e0, .int .i64 y0, .int .i64 q0, .int .i64 t0, .slice la ln lc, .int .u64 f0, .int .i64 o0, .int .i64 v0, .int .u64 d0, .bool s0, .int .i64 x0, .int .i64 e1, .int .i64 y1, .int .i64 q1, .int .i64 t1, .slice ma mn mc, .int .u64 f1, .int .i64 o1, .int .i64 v1, .int .u64 d1, .bool s1, .int .i64 x1, .slice ga gn gc, .slice ha hn hc, .int .i64 N.n, .int .i64 N.room, .slice wa wn wc] #[.int .i64 e0, .int .i64 y0, .int .i64 q0, .int .i64 t0, .slice la ln lc, .int .u64 f0, .int .i64 o0, .int .i64 v0, .int .u64 d0, .bool s0, .int .i64 x0, .int .i64 e1, .int .i64 y1, .int .i64 q1, .int .i64 t1, .slice ma mn mc, .int .u64 f1, .int .i64 o1, .int .i64 v1, .int .u64 d1, .bool s1, .int .i64 x1, .slice ga gn gc, .slice ha hn hc, .int .i64 N.n, .int .i64 N.room, .slice wa wn wc] rfl rfl (at1 w _ _) (by kernel_rfl) (by simp) rfl rfl ?_
  intro W2 hb2 ho2
  go_wp2
  exact bodyPost_ret (v := .agg #[.int .i64 e0, .int .i64 y0, .int .i64 q0, .int .i64 t0, .slice la ln lc, .int .u64 f0, .int .i64 o0, .int .i64 v0, .int .u64 d0, .bool s0, .int .i64 x0, .int .i64 e1, .int .i64 y1, .int .i64 q1, .int .i64 t1, .slice ma mn mc, .int .u64 f1, .int .i64 o1, .int .i64 v1, .int .u64 d1, .bool s1, .int .i64 x1, .slice ga gn gc, .slice ha hn hc, .int .i64 N.n, .int .i64 N.room, .slice wa wn wc]) (res_c rfl rfl hb2 uPipe (by kernel_rfl)) rfl ⟨_, rfl, ((HR.out _ (Ext.alloc (Ext.alloc (Ext.refl w) _) _)).drop ho2 (by omega)).to, ext_off (Ext.alloc (Ext.alloc (Ext.refl w) _) _) ho2 (fun k hk => by omega)⟩

set_option maxRecDepth 50000 in
set_option maxHeartbeats 6400000 in
theorem rTick0 (F : Nat → Prop) (w : World) (hF : ∀ k, F k → k < w.heap.size) (P : PipeS) (l0 l1 g0 g1 ws : SV) (m : Nat) (ok : P.Ok) (h : RP F w P l0 l1 g0 g1 ws m) :
    Calls Tryz.prog 13 #[.agg (pcs P l0 l1 g0 g1 ws), .int .i64 0] w fun ev w' => ∃ v', ev = .returned v' ∧ RPipe F w' v' (P.tick 0) m ∧ Ext w w' := by
  have H := Lib.hid h
  have HF := Lib.hid hF
  have okE := ok.e0
  obtain ⟨⟨e0, y0, q0, t0, L0, f0, o0, v0, d0, s0, x0⟩, ⟨e1, y1, q1, t1, L1, f1, o1, v1, d1, s1, x1⟩, G0, G1, N⟩ := P
  obtain ⟨la, ln, lc⟩ := l0
  obtain ⟨ma, mn, mc⟩ := l1
  obtain ⟨ga, gn, gc⟩ := g0
  obtain ⟨ha, hn, hc⟩ := g1
  obtain ⟨wa, wn, wc⟩ := ws
  dsimp only at okE
  have HR := Lib.hid (fun (W : World) (x : Ext w W) => H.out.boxes (n := 2) x)
  have HS := Lib.hid (fun (W : World) (x : Ext w W) => (HR.out W x).s0)
  have cE := fun W => rEnd_any W ⟨⟨e0, y0, q0, t0, L0, f0, o0, v0, d0, s0, x0⟩, ⟨e1, y1, q1, t1, L1, f1, o1, v1, d1, s1, x1⟩, G0, G1, N⟩ ⟨la, ln, lc⟩ ⟨ma, mn, mc⟩ ⟨ga, gn, gc⟩ ⟨ha, hn, hc⟩ ⟨wa, wn, wc⟩ 0 (by decide)
  unfold pcs rCells PipeS.end' at cE
  dsimp only [SV.v] at cE
  rw [if_pos rfl, if_pos rfl] at cE
  have HE := Lib.hid cE
  have cW := fun (W : World) (E : EndS) (l : SV) => rWith0 W ⟨⟨e0, y0, q0, t0, L0, f0, o0, v0, d0, s0, x0⟩, ⟨e1, y1, q1, t1, L1, f1, o1, v1, d1, s1, x1⟩, G0, G1, N⟩ ⟨la, ln, lc⟩ ⟨ma, mn, mc⟩ ⟨ga, gn, gc⟩ ⟨ha, hn, hc⟩ ⟨wa, wn, wc⟩ E l
  unfold pcs rCells at cW
  dsimp only [SV.v] at cW
  have HWI := Lib.hid cW
  have HG : Hid (∀ (W : World), w.heap.size + 2 ≤ W.heap.size → ∀ k, (fun k => F k ∨ (w.heap.size ≤ k ∧ k < w.heap.size + 2)) k → k < W.heap.size) := Lib.hid (fun W hW k hk => by
    rcases hk with hk | hk
    · have := HF.out k hk; omega
    · omega)
  unfold pcs
  dsimp only [SV.v]
  clear h hF ok cE cW
  show Calls _ _ _ _ (fun ev w' => ∃ v', ev = .returned v' ∧ RPipe F w' v' (⟨(EndS.tick ⟨e0, y0, q0, t0, L0, f0, o0, v0, d0, s0, x0⟩), ⟨e1, y1, q1, t1, L1, f1, o1, v1, d1, s1, x1⟩, G0, G1, N⟩ : PipeS) m ∧ Ext w w')
  have cT := fun (G : Nat → Prop) (W : World) (v : Value) => refTick_any G W v ⟨e0, y0, q0, t0, L0, f0, o0, v0, d0, s0, x0⟩ okE
  obtain ⟨E', hE'⟩ : ∃ E', E' = EndS.tick ⟨e0, y0, q0, t0, L0, f0, o0, v0, d0, s0, x0⟩ := ⟨_, rfl⟩
  rw [← hE'] at cT ⊢
  have HT := Lib.hid cT
  clear cT hE' okE
  go_enter Tryz.func13, Tryz.ntmps13
  go_wp2_with fail
  (refine wp_region_X_lit (K := fun W => W.heap[w.heap.size]? = some (.cells #[.int .i64 e0, .int .i64 y0, .int .i64 q0, .int .i64 t0, .slice la ln lc, .int .u64 f0, .int .i64 o0, .int .i64 v0, .int .u64 d0, .bool s0, .int .i64 x0, .int .i64 e1, .int .i64 y1, .int .i64 q1, .int .i64 t1, .slice ma mn mc, .int .u64 f1, .int .i64 o1, .int .i64 v1, .int .u64 d1, .bool s1, .int .i64 x1, .slice ga gn gc, .slice ha hn hc, .int .i64 N.n, .int .i64 N.room, .slice wa wn wc] 35 (0, 0))) (by kernel_rfl) (fun w1 hw1 => ?_))
  have HX := Lib.hid (Ext.trans (Ext.alloc (Ext.alloc (Ext.refl w) _) _) hw1)
  have hsz : w.heap.size + 2 ≤ w1.heap.size := by have := hw1.size; rw [size_alloc, size_alloc] at this; exact this
  have k1 : w1.heap[w.heap.size]? = some (.cells #[.int .i64 e0, .int .i64 y0, .int .i64 q0, .int .i64 t0, .slice la ln lc, .int .u64 f0, .int .i64 o0, .int .i64 v0, .int .u64 d0, .bool s0, .int .i64 x0, .int .i64 e1, .int .i64 y1, .int .i64 q1, .int .i64 t1, .slice ma mn mc, .int .u64 f1, .int .i64 o1, .int .i64 v1, .int .u64 d1, .bool s1, .int .i64 x1, .slice ga gn gc, .slice ha hn hc, .int .i64 N.n, .int .i64 N.room, .slice wa wn wc] 35 (0, 0)) ∧ w1.heap[w.heap.size + 1]? = some (.cells #[.int .i64 0, .int .i64 0, .int .i64 0, .int .i64 0, .slice none 0 0, .int .u64 0, .int .i64 0, .int .i64 0, .int .u64 0, .bool false, .int .i64 0, .int .i64 0, .int .i64 0, .int .i64 0, .int .i64 0, .slice none 0 0, .int .u64 0, .int .i64 0, .int .i64 0, .int .u64 0, .bool false, .int .i64 0, .slice none 0 0, .slice none 0 0, .int .i64 0, .int .i64 0, .slice none 0 0] 35 (0, 0)) := ⟨(hw1.block _ (by rw [size_alloc, size_alloc]; omega)).trans (old1 (at0 w _) _), (hw1.block _ (by rw [size_alloc, size_alloc]; omega)).trans (at1 w _ _)⟩
  clear hw1
  refine xtv 0 (hv := fun w' hw' => ld_op (cs := #[.int .i64 e0, .int .i64 y0, .int .i64 q0, .int .i64 t0, .slice la ln lc, .int .u64 f0, .int .i64 o0, .int .i64 v0, .int .u64 d0, .bool s0, .int .i64 x0, .int .i64 e1, .int .i64 y1, .int .i64 q1, .int .i64 t1, .slice ma mn mc, .int .u64 f1, .int .i64 o1, .int .i64 v1, .int .u64 d1, .bool s1, .int .i64 x1, .slice ga gn gc, .slice ha hn hc, .int .i64 N.n, .int .i64 N.room, .slice wa wn wc]) rfl rfl (hw') uPipe (by kernel_rfl)) (h := ?_)
  refine xtv 1 (h := ?_)
  refine xtv 2 (hv := fun w' hw' => ld_op (cs := #[.int .i64 e0, .int .i64 y0, .int .i64 q0, .int .i64 t0, .slice la ln lc, .int .u64 f0, .int .i64 o0, .int .i64 v0, .int .u64 d0, .bool s0, .int .i64 x0, .int .i64 e1, .int .i64 y1, .int .i64 q1, .int .i64 t1, .slice ma mn mc, .int .u64 f1, .int .i64 o1, .int .i64 v1, .int .u64 d1, .bool s1, .int .i64 x1, .slice ga gn gc, .slice ha hn hc, .int .i64 N.n, .int .i64 N.room, .slice wa wn wc]) rfl rfl (hw') uPipe (by kernel_rfl)) (h := ?_)
  refine xtv 3 (h := ?_)
  refine xone 4 (hk := k1.1) (h := RunX.of 4 (h := ?_))
  go_simp
  refine (HE.out _).mono ?_
  rintro ev w2 ⟨rfl, x2⟩
  have HX2 := Lib.hid (Ext.trans HX.out x2)
  have k2 := And.intro ((x2.block _ (blk_lt k1.1)).trans k1.1) ((x2.block _ (blk_lt k1.2)).trans k1.2)
  have hsz2 := Nat.le_trans hsz x2.size
  clear k1 x2
  dsimp only
  (try (simp only [Act.put, List.setIfInBounds_toArray, List.set]))
  refine xone 5 (hk := k2.1) (h := RunX.of 5 (h := ?_))
  go_simp
  refine (HT.out (fun k => F k ∨ (w.heap.size ≤ k ∧ k < w.heap.size + 2)) _ _ ⟨_, _, _, rfl, HS.out _ HX2.out⟩).mono ?_
  rintro ev w3 ⟨v3, rfl, ⟨ea, en, ec, rfl, hs3⟩, x3⟩
  have HX3 := Lib.hid (Ext.trans HX2.out x3)
  have k3 := And.intro ((x3.block _ (blk_lt k2.1)).trans k2.1) ((x3.block _ (blk_lt k2.2)).trans k2.2)
  have HS3 := Lib.hid hs3
  clear k2 x3 hs3
  dsimp only
  (try (simp only [Act.put, List.setIfInBounds_toArray, List.set]))
  refine xone 6 (hk := k3.1) (h := RunX.of 6 (h := ?_))
  go_simp
  refine (HWI.out _ E' ⟨ea, en, ec⟩).mono ?_
  rintro ev w4 ⟨rfl, x4⟩
  have HX4 := Lib.hid (Ext.trans HX3.out x4)
  have k4 := And.intro ((x4.block _ (blk_lt k3.1)).trans k3.1) ((x4.block _ (blk_lt k3.2)).trans k3.2)
  have HS4 := Lib.hid (HS3.out.ext x4)
  clear k3 x4
  dsimp only
  (try (simp only [Act.put, List.setIfInBounds_toArray, List.set]))
  refine xone 7 (hk := k4.1) (h := RunX.of 7 (h := ?_))
  refine wp_st 35 (.tmp 4) (.tmp 18) ?_ (w.heap.size + 1) 0 35 #[.int .i64 0, .int .i64 0, .int .i64 0, .int .i64 0, .slice none 0 0, .int .u64 0, .int .i64 0, .int .i64 0, .int .u64 0, .bool false, .int .i64 0, .int .i64 0, .int .i64 0, .int .i64 0, .int .i64 0, .slice none 0 0, .int .u64 0, .int .i64 0, .int .i64 0, .int .u64 0, .bool false, .int .i64 0, .slice none 0 0, .slice none 0 0, .int .i64 0, .int .i64 0, .slice none 0 0] #[.int .i64 E'.e, .int .i64 E'.win, .int .i64 E'.qn, .int .i64 E'.wait, .slice ea en ec, .int .u64 E'.first, .int .i64 E'.out, .int .i64 E'.ever, .int .u64 E'.want, .bool E'.owes, .int .i64 E'.age, .int .i64 e1, .int .i64 y1, .int .i64 q1, .int .i64 t1, .slice ma mn mc, .int .u64 f1, .int .i64 o1, .int .i64 v1, .int .u64 d1, .bool s1, .int .i64 x1, .slice ga gn gc, .slice ha hn hc, .int .i64 N.n, .int .i64 N.room, .slice wa wn wc] #[.int .i64 E'.e, .int .i64 E'.win, .int .i64 E'.qn, .int .i64 E'.wait, .slice ea en ec, .int .u64 E'.first, .int .i64 E'.out, .int .i64 E'.ever, .int .u64 E'.want, .bool E'.owes, .int .i64 E'.age, .int .i64 e1, .int .i64 y1, .int .i64 q1, .int .i64 t1, .slice ma mn mc, .int .u64 f1, .int .i64 o1, .int .i64 v1, .int .u64 d1, .bool s1, .int .i64 x1, .slice ga gn gc, .slice ha hn hc, .int .i64 N.n, .int .i64 N.room, .slice wa wn wc] ?_ ?_ k4.2 (by kernel_rfl) (by simp) rfl rfl ?_
  · exact rfl
  · exact rfl
  · exact rfl
  intro W2 hb2 ho2
  dsimp only
  (try simp only [Act.put])
  (refine xdone (by kernel_rfl) (ho2.blk k4.1 (by omega)) ?_)
  go_wp2
  exact bodyPost_ret (v := .agg #[.int .i64 E'.e, .int .i64 E'.win, .int .i64 E'.qn, .int .i64 E'.wait, .slice ea en ec, .int .u64 E'.first, .int .i64 E'.out, .int .i64 E'.ever, .int .u64 E'.want, .bool E'.owes, .int .i64 E'.age, .int .i64 e1, .int .i64 y1, .int .i64 q1, .int .i64 t1, .slice ma mn mc, .int .u64 f1, .int .i64 o1, .int .i64 v1, .int .u64 d1, .bool s1, .int .i64 x1, .slice ga gn gc, .slice ha hn hc, .int .i64 N.n, .int .i64 N.room, .slice wa wn wc]) (res_c rfl rfl hb2 uPipe (by kernel_rfl)) rfl ⟨_, rfl, (((HR.out _ HX4.out).put0 (E := E') (l := ⟨ea, en, ec⟩) HS4.out).drop ho2 (by omega)).to, ext_off HX4.out ho2 (fun k hk => by omega)⟩

set_option maxRecDepth 50000 in
set_option maxHeartbeats 6400000 in
theorem rTick1 (F : Nat → Prop) (w : World) (hF : ∀ k, F k → k < w.heap.size) (P : PipeS) (l0 l1 g0 g1 ws : SV) (m : Nat) (ok : P.Ok) (h : RP F w P l0 l1 g0 g1 ws m) :
    Calls Tryz.prog 13 #[.agg (pcs P l0 l1 g0 g1 ws), .int .i64 1] w fun ev w' => ∃ v', ev = .returned v' ∧ RPipe F w' v' (P.tick 1) m ∧ Ext w w' := by
  have H := Lib.hid h
  have HF := Lib.hid hF
  have okE := ok.e1
  obtain ⟨⟨e0, y0, q0, t0, L0, f0, o0, v0, d0, s0, x0⟩, ⟨e1, y1, q1, t1, L1, f1, o1, v1, d1, s1, x1⟩, G0, G1, N⟩ := P
  obtain ⟨la, ln, lc⟩ := l0
  obtain ⟨ma, mn, mc⟩ := l1
  obtain ⟨ga, gn, gc⟩ := g0
  obtain ⟨ha, hn, hc⟩ := g1
  obtain ⟨wa, wn, wc⟩ := ws
  dsimp only at okE
  have HR := Lib.hid (fun (W : World) (x : Ext w W) => H.out.boxes (n := 2) x)
  have HS := Lib.hid (fun (W : World) (x : Ext w W) => (HR.out W x).s1)
  have cE := fun W => rEnd_any W ⟨⟨e0, y0, q0, t0, L0, f0, o0, v0, d0, s0, x0⟩, ⟨e1, y1, q1, t1, L1, f1, o1, v1, d1, s1, x1⟩, G0, G1, N⟩ ⟨la, ln, lc⟩ ⟨ma, mn, mc⟩ ⟨ga, gn, gc⟩ ⟨ha, hn, hc⟩ ⟨wa, wn, wc⟩ 1 (by decide)
  unfold pcs rCells PipeS.end' at cE
  dsimp only [SV.v] at cE
  rw [if_neg (by decide), if_neg (by decide)] at cE
  have HE := Lib.hid cE
  have cW := fun (W : World) (E : EndS) (l : SV) => rWith1 W ⟨⟨e0, y0, q0, t0, L0, f0, o0, v0, d0, s0, x0⟩, ⟨e1, y1, q1, t1, L1, f1, o1, v1, d1, s1, x1⟩, G0, G1, N⟩ ⟨la, ln, lc⟩ ⟨ma, mn, mc⟩ ⟨ga, gn, gc⟩ ⟨ha, hn, hc⟩ ⟨wa, wn, wc⟩ E l
  unfold pcs rCells at cW
  dsimp only [SV.v] at cW
  have HWI := Lib.hid cW
  have HG : Hid (∀ (W : World), w.heap.size + 2 ≤ W.heap.size → ∀ k, (fun k => F k ∨ (w.heap.size ≤ k ∧ k < w.heap.size + 2)) k → k < W.heap.size) := Lib.hid (fun W hW k hk => by
    rcases hk with hk | hk
    · have := HF.out k hk; omega
    · omega)
  unfold pcs
  dsimp only [SV.v]
  clear h hF ok cE cW
  show Calls _ _ _ _ (fun ev w' => ∃ v', ev = .returned v' ∧ RPipe F w' v' (⟨⟨e0, y0, q0, t0, L0, f0, o0, v0, d0, s0, x0⟩, (EndS.tick ⟨e1, y1, q1, t1, L1, f1, o1, v1, d1, s1, x1⟩), G0, G1, N⟩ : PipeS) m ∧ Ext w w')
  have cT := fun (G : Nat → Prop) (W : World) (v : Value) => refTick_any G W v ⟨e1, y1, q1, t1, L1, f1, o1, v1, d1, s1, x1⟩ okE
  obtain ⟨E', hE'⟩ : ∃ E', E' = EndS.tick ⟨e1, y1, q1, t1, L1, f1, o1, v1, d1, s1, x1⟩ := ⟨_, rfl⟩
  rw [← hE'] at cT ⊢
  have HT := Lib.hid cT
  clear cT hE' okE
  go_enter Tryz.func13, Tryz.ntmps13
  go_wp2_with fail
  (refine wp_region_X_lit (K := fun W => W.heap[w.heap.size]? = some (.cells #[.int .i64 e0, .int .i64 y0, .int .i64 q0, .int .i64 t0, .slice la ln lc, .int .u64 f0, .int .i64 o0, .int .i64 v0, .int .u64 d0, .bool s0, .int .i64 x0, .int .i64 e1, .int .i64 y1, .int .i64 q1, .int .i64 t1, .slice ma mn mc, .int .u64 f1, .int .i64 o1, .int .i64 v1, .int .u64 d1, .bool s1, .int .i64 x1, .slice ga gn gc, .slice ha hn hc, .int .i64 N.n, .int .i64 N.room, .slice wa wn wc] 35 (0, 0))) (by kernel_rfl) (fun w1 hw1 => ?_))
  have HX := Lib.hid (Ext.trans (Ext.alloc (Ext.alloc (Ext.refl w) _) _) hw1)
  have hsz : w.heap.size + 2 ≤ w1.heap.size := by have := hw1.size; rw [size_alloc, size_alloc] at this; exact this
  have k1 : w1.heap[w.heap.size]? = some (.cells #[.int .i64 e0, .int .i64 y0, .int .i64 q0, .int .i64 t0, .slice la ln lc, .int .u64 f0, .int .i64 o0, .int .i64 v0, .int .u64 d0, .bool s0, .int .i64 x0, .int .i64 e1, .int .i64 y1, .int .i64 q1, .int .i64 t1, .slice ma mn mc, .int .u64 f1, .int .i64 o1, .int .i64 v1, .int .u64 d1, .bool s1, .int .i64 x1, .slice ga gn gc, .slice ha hn hc, .int .i64 N.n, .int .i64 N.room, .slice wa wn wc] 35 (0, 0)) ∧ w1.heap[w.heap.size + 1]? = some (.cells #[.int .i64 0, .int .i64 0, .int .i64 0, .int .i64 0, .slice none 0 0, .int .u64 0, .int .i64 0, .int .i64 0, .int .u64 0, .bool false, .int .i64 0, .int .i64 0, .int .i64 0, .int .i64 0, .int .i64 0, .slice none 0 0, .int .u64 0, .int .i64 0, .int .i64 0, .int .u64 0, .bool false, .int .i64 0, .slice none 0 0, .slice none 0 0, .int .i64 0, .int .i64 0, .slice none 0 0] 35 (0, 0)) := ⟨(hw1.block _ (by rw [size_alloc, size_alloc]; omega)).trans (old1 (at0 w _) _), (hw1.block _ (by rw [size_alloc, size_alloc]; omega)).trans (at1 w _ _)⟩
  clear hw1
  refine xtv 0 (hv := fun w' hw' => ld_op (cs := #[.int .i64 e0, .int .i64 y0, .int .i64 q0, .int .i64 t0, .slice la ln lc, .int .u64 f0, .int .i64 o0, .int .i64 v0, .int .u64 d0, .bool s0, .int .i64 x0, .int .i64 e1, .int .i64 y1, .int .i64 q1, .int .i64 t1, .slice ma mn mc, .int .u64 f1, .int .i64 o1, .int .i64 v1, .int .u64 d1, .bool s1, .int .i64 x1, .slice ga gn gc, .slice ha hn hc, .int .i64 N.n, .int .i64 N.room, .slice wa wn wc]) rfl rfl (hw') uPipe (by kernel_rfl)) (h := ?_)
  refine xtv 1 (h := ?_)
  refine xtv 2 (hv := fun w' hw' => ld_op (cs := #[.int .i64 e0, .int .i64 y0, .int .i64 q0, .int .i64 t0, .slice la ln lc, .int .u64 f0, .int .i64 o0, .int .i64 v0, .int .u64 d0, .bool s0, .int .i64 x0, .int .i64 e1, .int .i64 y1, .int .i64 q1, .int .i64 t1, .slice ma mn mc, .int .u64 f1, .int .i64 o1, .int .i64 v1, .int .u64 d1, .bool s1, .int .i64 x1, .slice ga gn gc, .slice ha hn hc, .int .i64 N.n, .int .i64 N.room, .slice wa wn wc]) rfl rfl (hw') uPipe (by kernel_rfl)) (h := ?_)
  refine xtv 3 (h := ?_)
  refine xone 4 (hk := k1.1) (h := RunX.of 4 (h := ?_))
  go_simp
  refine (HE.out _).mono ?_
  rintro ev w2 ⟨rfl, x2⟩
  have HX2 := Lib.hid (Ext.trans HX.out x2)
  have k2 := And.intro ((x2.block _ (blk_lt k1.1)).trans k1.1) ((x2.block _ (blk_lt k1.2)).trans k1.2)
  have hsz2 := Nat.le_trans hsz x2.size
  clear k1 x2
  dsimp only
  (try (simp only [Act.put, List.setIfInBounds_toArray, List.set]))
  refine xone 5 (hk := k2.1) (h := RunX.of 5 (h := ?_))
  go_simp
  refine (HT.out (fun k => F k ∨ (w.heap.size ≤ k ∧ k < w.heap.size + 2)) _ _ ⟨_, _, _, rfl, HS.out _ HX2.out⟩).mono ?_
  rintro ev w3 ⟨v3, rfl, ⟨ea, en, ec, rfl, hs3⟩, x3⟩
  have HX3 := Lib.hid (Ext.trans HX2.out x3)
  have k3 := And.intro ((x3.block _ (blk_lt k2.1)).trans k2.1) ((x3.block _ (blk_lt k2.2)).trans k2.2)
  have HS3 := Lib.hid hs3
  clear k2 x3 hs3
  dsimp only
  (try (simp only [Act.put, List.setIfInBounds_toArray, List.set]))
  refine xone 6 (hk := k3.1) (h := RunX.of 6 (h := ?_))
  go_simp
  refine (HWI.out _ E' ⟨ea, en, ec⟩).mono ?_
  rintro ev w4 ⟨rfl, x4⟩
  have HX4 := Lib.hid (Ext.trans HX3.out x4)
  have k4 := And.intro ((x4.block _ (blk_lt k3.1)).trans k3.1) ((x4.block _ (blk_lt k3.2)).trans k3.2)
  have HS4 := Lib.hid (HS3.out.ext x4)
  clear k3 x4
  dsimp only
  (try (simp only [Act.put, List.setIfInBounds_toArray, List.set]))
  refine xone 7 (hk := k4.1) (h := RunX.of 7 (h := ?_))
  refine wp_st 35 (.tmp 4) (.tmp 18) ?_ (w.heap.size + 1) 0 35 #[.int .i64 0, .int .i64 0, .int .i64 0, .int .i64 0, .slice none 0 0, .int .u64 0, .int .i64 0, .int .i64 0, .int .u64 0, .bool false, .int .i64 0, .int .i64 0, .int .i64 0, .int .i64 0, .int .i64 0, .slice none 0 0, .int .u64 0, .int .i64 0, .int .i64 0, .int .u64 0, .bool false, .int .i64 0, .slice none 0 0, .slice none 0 0, .int .i64 0, .int .i64 0, .slice none 0 0] #[.int .i64 e0, .int .i64 y0, .int .i64 q0, .int .i64 t0, .slice la ln lc, .int .u64 f0, .int .i64 o0, .int .i64 v0, .int .u64 d0, .bool s0, .int .i64 x0, .int .i64 E'.e, .int .i64 E'.win, .int .i64 E'.qn, .int .i64 E'.wait, .slice ea en ec, .int .u64 E'.first, .int .i64 E'.out, .int .i64 E'.ever, .int .u64 E'.want, .bool E'.owes, .int .i64 E'.age, .slice ga gn gc, .slice ha hn hc, .int .i64 N.n, .int .i64 N.room, .slice wa wn wc] #[.int .i64 e0, .int .i64 y0, .int .i64 q0, .int .i64 t0, .slice la ln lc, .int .u64 f0, .int .i64 o0, .int .i64 v0, .int .u64 d0, .bool s0, .int .i64 x0, .int .i64 E'.e, .int .i64 E'.win, .int .i64 E'.qn, .int .i64 E'.wait, .slice ea en ec, .int .u64 E'.first, .int .i64 E'.out, .int .i64 E'.ever, .int .u64 E'.want, .bool E'.owes, .int .i64 E'.age, .slice ga gn gc, .slice ha hn hc, .int .i64 N.n, .int .i64 N.room, .slice wa wn wc] ?_ ?_ k4.2 (by kernel_rfl) (by simp) rfl rfl ?_
  · exact rfl
  · exact rfl
  · exact rfl
  intro W2 hb2 ho2
  dsimp only
  (try simp only [Act.put])
  (refine xdone (by kernel_rfl) (ho2.blk k4.1 (by omega)) ?_)
  go_wp2
  exact bodyPost_ret (v := .agg #[.int .i64 e0, .int .i64 y0, .int .i64 q0, .int .i64 t0, .slice la ln lc, .int .u64 f0, .int .i64 o0, .int .i64 v0, .int .u64 d0, .bool s0, .int .i64 x0, .int .i64 E'.e, .int .i64 E'.win, .int .i64 E'.qn, .int .i64 E'.wait, .slice ea en ec, .int .u64 E'.first, .int .i64 E'.out, .int .i64 E'.ever, .int .u64 E'.want, .bool E'.owes, .int .i64 E'.age, .slice ga gn gc, .slice ha hn hc, .int .i64 N.n, .int .i64 N.room, .slice wa wn wc]) (res_c rfl rfl hb2 uPipe (by kernel_rfl)) rfl ⟨_, rfl, (((HR.out _ HX4.out).put1 (E := E') (l := ⟨ea, en, ec⟩) HS4.out).drop ho2 (by omega)).to, ext_off HX4.out ho2 (fun k hk => by omega)⟩

theorem rTick_any (F : Nat → Prop) (w : World) (hF : ∀ k, F k → k < w.heap.size) (P : PipeS) (l0 l1 g0 g1 ws : SV) (m : Nat) (ok : P.Ok) (h : RP F w P l0 l1 g0 g1 ws m) (s : Int) :
    Calls Tryz.prog 13 #[.agg (pcs P l0 l1 g0 g1 ws), .int .i64 s] w fun ev w' => ∃ v', ev = .returned (v') ∧ RPipe F w' v' (P.tick s) (m) ∧ Ext w w' := by
  cases hs : PipeS.side s
  · rw [PipeS.tick_no hs]
    exact (rTickNo F w hF P l0 l1 g0 g1 ws m ok h s hs)
  · unfold PipeS.side at hs
    simp only [Bool.or_eq_true, decide_eq_true_eq] at hs
    rcases hs with rfl | rfl
    · exact rTick0 F w hF P l0 l1 g0 g1 ws m ok h
    · exact rTick1 F w hF P l0 l1 g0 g1 ws m ok h
end Go.Proofs.YtlakolkpfkakoaaGreatDoor

/- Layer 10's document: Send. -/
namespace Go.Proofs.YtlakolkpfkakoaaGreatDoor
open Go.RowKit

set_option linter.unusedVariables false

set_option maxRecDepth 50000 in
set_option maxHeartbeats 6400000 in
theorem rSendNo (F : Nat → Prop) (w : World) (hF : ∀ k, F k → k < w.heap.size) (P : PipeS) (l0 l1 g0 g1 ws : SV) (m : Nat) (ok : P.Ok) (h : RP F w P l0 l1 g0 g1 ws m) (b : ByteArray) (s : Int) (hs : PipeS.side s = false) :
    Calls Tryz.prog 9 #[.agg (pcs P l0 l1 g0 g1 ws), .int .i64 s, .string b] w fun ev w' => ∃ v', ev = .returned (.tuple #[v', .int .i64 100]) ∧ RPipe F w' v' P m ∧ Ext w w' := by
  obtain ⟨h0, h1⟩ := PipeS.side_no hs
  have t0' : (s != 0) = true := bne_iff_ne.2 h0
  have t1' : (s != 1) = true := bne_iff_ne.2 h1
  have H := Lib.hid h
  obtain ⟨⟨e0, y0, q0, t0, L0, f0, o0, v0, d0, s0, x0⟩, ⟨e1, y1, q1, t1, L1, f1, o1, v1, d1, s1, x1⟩, G0, G1, N⟩ := P
  obtain ⟨la, ln, lc⟩ := l0
  obtain ⟨ma, mn, mc⟩ := l1
  obtain ⟨ga, gn, gc⟩ := g0
  obtain ⟨ha, hn, hc⟩ := g1
  obtain ⟨wa, wn, wc⟩ := ws
  have HR := Lib.hid (fun (W : World) (x : Ext w W) => H.out.boxes (n := 2) x)
  unfold pcs
  dsimp only [SV.v]
  clear h hF ok hs
  go_enter Tryz.func9, Tryz.ntmps9
  go_wp2_with (first | refine haltst 35 ?_ | refine haltld 35 ?_)
  refine .inl ?_
  refine ld_l 35 (.tmp 3) (w.heap.size) 35 #[.int .i64 e0, .int .i64 y0, .int .i64 q0, .int .i64 t0, .slice la ln lc, .int .u64 f0, .int .i64 o0, .int .i64 v0, .int .u64 d0, .bool s0, .int .i64 x0, .int .i64 e1, .int .i64 y1, .int .i64 q1, .int .i64 t1, .slice ma mn mc, .int .u64 f1, .int .i64 o1, .int .i64 v1, .int .u64 d1, .bool s1, .int .i64 x1, .slice ga gn gc, .slice ha hn hc, .int .i64 N.n, .int .i64 N.room, .slice wa wn wc] rfl (old1 (at0 w _) _) uPipe (by kernel_rfl) ?_
  go_wp2_with (first | refine haltst 35 ?_ | refine haltld 35 ?_)
  refine .inl ?_
  refine st_l 35 (.tmp 6) (.tmp 16) (w.heap.size + 1) 0 35 #[.int .i64 0, .int .i64 0, .int .i64 0, .int .i64 0, .slice none 0 0, .int .u64 0, .int .i64 0, .int .i64 0, .int .u64 0, .bool false, .int .i64 0, .int .i64 0, .int .i64 0, .int .i64 0, .int .i64 0, .slice none 0 0, .int .u64 0, .int .i64 0, .int .i64 0, .int .u64 0, .bool false, .int .i64 0, .slice none 0 0, .slice none 0 0, .int .i64 0, .int .i64 0, .slice none 0 0] #[.int .i64 e0, .int .i64 y0, .int .i64 q0, .int .i64 t0, .slice la ln lc, .int .u64 f0, .int .i64 o0, .int .i64 v0, .int .u64 d0, .bool s0, .int .i64 x0, .int .i64 e1, .int .i64 y1, .int .i64 q1, .int .i64 t1, .slice ma mn mc, .int .u64 f1, .int .i64 o1, .int .i64 v1, .int .u64 d1, .bool s1, .int .i64 x1, .slice ga gn gc, .slice ha hn hc, .int .i64 N.n, .int .i64 N.room, .slice wa wn wc] #[.int .i64 e0, .int .i64 y0, .int .i64 q0, .int .i64 t0, .slice la ln lc, .int .u64 f0, .int .i64 o0, .int .i64 v0, .int .u64 d0, .bool s0, .int .i64 x0, .int .i64 e1, .int .i64 y1, .int .i64 q1, .int .i64 t1, .slice ma mn mc, .int .u64 f1, .int .i64 o1, .int .i64 v1, .int .u64 d1, .bool s1, .int .i64 x1, .slice ga gn gc, .slice ha hn hc, .int .i64 N.n, .int .i64 N.room, .slice wa wn wc] rfl rfl (at1 w _ _) (by kernel_rfl) (by simp) rfl rfl ?_
  intro W2 hb2 ho2
  go_wp2
  exact bodyPost_ret (v := .tuple #[.agg #[.int .i64 e0, .int .i64 y0, .int .i64 q0, .int .i64 t0, .slice la ln lc, .int .u64 f0, .int .i64 o0, .int .i64 v0, .int .u64 d0, .bool s0, .int .i64 x0, .int .i64 e1, .int .i64 y1, .int .i64 q1, .int .i64 t1, .slice ma mn mc, .int .u64 f1, .int .i64 o1, .int .i64 v1, .int .u64 d1, .bool s1, .int .i64 x1, .slice ga gn gc, .slice ha hn hc, .int .i64 N.n, .int .i64 N.room, .slice wa wn wc], .int .i64 100]) (res_ct 7 rfl rfl hb2 uPipe (by kernel_rfl)) rfl ⟨_, rfl, ((HR.out _ (Ext.alloc (Ext.alloc (Ext.refl w) _) _)).drop ho2 (by omega)).to, ext_off (Ext.alloc (Ext.alloc (Ext.refl w) _) _) ho2 (fun k hk => by omega)⟩

set_option maxRecDepth 50000 in
set_option maxHeartbeats 6400000 in
theorem rSend0 (F : Nat → Prop) (w : World) (hF : ∀ k, F k → k < w.heap.size) (P : PipeS) (l0 l1 g0 g1 ws : SV) (m : Nat) (ok : P.Ok) (h : RP F w P l0 l1 g0 g1 ws m) (b : ByteArray) :
    Calls Tryz.prog 9 #[.agg (pcs P l0 l1 g0 g1 ws), .int .i64 0, .string b] w fun ev w' => ∃ v', ev = .returned (.tuple #[v', .int .i64 (P.sendE 0 b : Nat)]) ∧ RPipe F w' v' (P.send 0 b) m ∧ Ext w w' := by
  have H := Lib.hid h
  have HF := Lib.hid hF
  have okE := ok.e0
  obtain ⟨⟨e0, y0, q0, t0, L0, f0, o0, v0, d0, s0, x0⟩, ⟨e1, y1, q1, t1, L1, f1, o1, v1, d1, s1, x1⟩, G0, G1, N⟩ := P
  obtain ⟨la, ln, lc⟩ := l0
  obtain ⟨ma, mn, mc⟩ := l1
  obtain ⟨ga, gn, gc⟩ := g0
  obtain ⟨ha, hn, hc⟩ := g1
  obtain ⟨wa, wn, wc⟩ := ws
  dsimp only at okE
  have HR := Lib.hid (fun (W : World) (x : Ext w W) => H.out.boxes (n := 2) x)
  have HS := Lib.hid (fun (W : World) (x : Ext w W) => (HR.out W x).s0)
  have cE := fun W => rEnd_any W ⟨⟨e0, y0, q0, t0, L0, f0, o0, v0, d0, s0, x0⟩, ⟨e1, y1, q1, t1, L1, f1, o1, v1, d1, s1, x1⟩, G0, G1, N⟩ ⟨la, ln, lc⟩ ⟨ma, mn, mc⟩ ⟨ga, gn, gc⟩ ⟨ha, hn, hc⟩ ⟨wa, wn, wc⟩ 0 (by decide)
  unfold pcs rCells PipeS.end' at cE
  dsimp only [SV.v] at cE
  rw [if_pos rfl, if_pos rfl] at cE
  have HE := Lib.hid cE
  have cW := fun (W : World) (E : EndS) (l : SV) => rWith0 W ⟨⟨e0, y0, q0, t0, L0, f0, o0, v0, d0, s0, x0⟩, ⟨e1, y1, q1, t1, L1, f1, o1, v1, d1, s1, x1⟩, G0, G1, N⟩ ⟨la, ln, lc⟩ ⟨ma, mn, mc⟩ ⟨ga, gn, gc⟩ ⟨ha, hn, hc⟩ ⟨wa, wn, wc⟩ E l
  unfold pcs rCells at cW
  dsimp only [SV.v] at cW
  have HWI := Lib.hid cW
  have HG : Hid (∀ (W : World), w.heap.size + 2 ≤ W.heap.size → ∀ k, (fun k => F k ∨ (w.heap.size ≤ k ∧ k < w.heap.size + 2)) k → k < W.heap.size) := Lib.hid (fun W hW k hk => by
    rcases hk with hk | hk
    · have := HF.out k hk; omega
    · omega)
  unfold pcs
  dsimp only [SV.v]
  clear h hF ok cE cW
  show Calls _ _ _ _ (fun ev w' => ∃ v', ev = .returned (.tuple #[v', .int .i64 ((EndS.sendE ⟨e0, y0, q0, t0, L0, f0, o0, v0, d0, s0, x0⟩ b : Nat) : Int)]) ∧ RPipe F w' v' (⟨(EndS.send ⟨e0, y0, q0, t0, L0, f0, o0, v0, d0, s0, x0⟩ b), ⟨e1, y1, q1, t1, L1, f1, o1, v1, d1, s1, x1⟩, G0, G1, N⟩ : PipeS) m ∧ Ext w w')
  have cT := fun (G : Nat → Prop) (W : World) hW (v : Value) hv => refSendE_any G W hW v ⟨e0, y0, q0, t0, L0, f0, o0, v0, d0, s0, x0⟩ okE hv b
  obtain ⟨E', hE'⟩ : ∃ E', E' = EndS.send ⟨e0, y0, q0, t0, L0, f0, o0, v0, d0, s0, x0⟩ b := ⟨_, rfl⟩
  obtain ⟨En, hEn⟩ : ∃ En, En = EndS.sendE ⟨e0, y0, q0, t0, L0, f0, o0, v0, d0, s0, x0⟩ b := ⟨_, rfl⟩
  rw [← hE', ← hEn] at cT
  rw [← hE', ← hEn]
  have HT := Lib.hid cT
  clear cT hE' hEn okE
  go_enter Tryz.func9, Tryz.ntmps9
  go_wp2_with (first | refine haltst 35 ?_ | refine haltld 35 ?_)
  refine .inl ?_
  refine ld_l 35 (.tmp 3) (w.heap.size) 35 #[.int .i64 e0, .int .i64 y0, .int .i64 q0, .int .i64 t0, .slice la ln lc, .int .u64 f0, .int .i64 o0, .int .i64 v0, .int .u64 d0, .bool s0, .int .i64 x0, .int .i64 e1, .int .i64 y1, .int .i64 q1, .int .i64 t1, .slice ma mn mc, .int .u64 f1, .int .i64 o1, .int .i64 v1, .int .u64 d1, .bool s1, .int .i64 x1, .slice ga gn gc, .slice ha hn hc, .int .i64 N.n, .int .i64 N.room, .slice wa wn wc] rfl (old1 (at0 w _) _) uPipe (by kernel_rfl) ?_
  go_wp2_with fail
  refine (HE.out _).mono ?_
  rintro ev w2 ⟨rfl, x2⟩
  have HX2 := Lib.hid (Ext.trans (Ext.alloc (Ext.alloc (Ext.refl w) _) _) x2)
  have k2 : w2.heap[w.heap.size]? = some (.cells #[.int .i64 e0, .int .i64 y0, .int .i64 q0, .int .i64 t0, .slice la ln lc, .int .u64 f0, .int .i64 o0, .int .i64 v0, .int .u64 d0, .bool s0, .int .i64 x0, .int .i64 e1, .int .i64 y1, .int .i64 q1, .int .i64 t1, .slice ma mn mc, .int .u64 f1, .int .i64 o1, .int .i64 v1, .int .u64 d1, .bool s1, .int .i64 x1, .slice ga gn gc, .slice ha hn hc, .int .i64 N.n, .int .i64 N.room, .slice wa wn wc] 35 (0, 0)) ∧ w2.heap[w.heap.size + 1]? = some (.cells #[.int .i64 0, .int .i64 0, .int .i64 0, .int .i64 0, .slice none 0 0, .int .u64 0, .int .i64 0, .int .i64 0, .int .u64 0, .bool false, .int .i64 0, .int .i64 0, .int .i64 0, .int .i64 0, .int .i64 0, .slice none 0 0, .int .u64 0, .int .i64 0, .int .i64 0, .int .u64 0, .bool false, .int .i64 0, .slice none 0 0, .slice none 0 0, .int .i64 0, .int .i64 0, .slice none 0 0] 35 (0, 0)) := ⟨(x2.block _ (by rw [size_alloc, size_alloc]; omega)).trans (old1 (at0 w _) _), (x2.block _ (by rw [size_alloc, size_alloc]; omega)).trans (at1 w _ _)⟩
  have hsz2 : w.heap.size + 2 ≤ w2.heap.size := by have := x2.size; rw [size_alloc, size_alloc] at this; exact this
  clear x2
  go_wp2_with fail
  refine (HT.out (fun k => F k ∨ (w.heap.size ≤ k ∧ k < w.heap.size + 2)) _ (HG.out _ hsz2) _ ⟨_, _, _, rfl, HS.out _ HX2.out⟩).mono ?_
  rintro ev w3 ⟨v3, rfl, ⟨ea, en, ec, rfl, hs3⟩, x3⟩
  have HX3 := Lib.hid (Ext.trans HX2.out x3)
  have k3 := And.intro ((x3.block _ (blk_lt k2.1)).trans k2.1) ((x3.block _ (blk_lt k2.2)).trans k2.2)
  have HS3 := Lib.hid hs3
  unfold rCells
  clear k2 x3 hs3
  dsimp only
  go_wp2_with (first | refine haltst 35 ?_ | refine haltld 35 ?_)
  refine .inl ?_
  refine ld_l 35 (.tmp 3) (w.heap.size) 35 #[.int .i64 e0, .int .i64 y0, .int .i64 q0, .int .i64 t0, .slice la ln lc, .int .u64 f0, .int .i64 o0, .int .i64 v0, .int .u64 d0, .bool s0, .int .i64 x0, .int .i64 e1, .int .i64 y1, .int .i64 q1, .int .i64 t1, .slice ma mn mc, .int .u64 f1, .int .i64 o1, .int .i64 v1, .int .u64 d1, .bool s1, .int .i64 x1, .slice ga gn gc, .slice ha hn hc, .int .i64 N.n, .int .i64 N.room, .slice wa wn wc] rfl (old1 k3.1 _) uPipe (by kernel_rfl) ?_
  go_wp2_with fail
  refine (HWI.out _ E' ⟨ea, en, ec⟩).mono ?_
  rintro ev w4 ⟨rfl, x4⟩
  have x5 := Ext.trans (Ext.alloc (Ext.refl w3) _) x4
  have HX4 := Lib.hid (Ext.trans HX3.out x5)
  have k4 := And.intro ((x5.block _ (blk_lt k3.1)).trans k3.1) ((x5.block _ (blk_lt k3.2)).trans k3.2)
  have HS4 := Lib.hid (HS3.out.ext x5)
  clear k3 x4 x5
  dsimp only
  go_wp2_with (first | refine haltst 35 ?_ | refine haltld 35 ?_)
  refine .inl ?_
  refine st_l 35 (.tmp 6) (.tmp 28) (w.heap.size + 1) 0 35 #[.int .i64 0, .int .i64 0, .int .i64 0, .int .i64 0, .slice none 0 0, .int .u64 0, .int .i64 0, .int .i64 0, .int .u64 0, .bool false, .int .i64 0, .int .i64 0, .int .i64 0, .int .i64 0, .int .i64 0, .slice none 0 0, .int .u64 0, .int .i64 0, .int .i64 0, .int .u64 0, .bool false, .int .i64 0, .slice none 0 0, .slice none 0 0, .int .i64 0, .int .i64 0, .slice none 0 0] #[.int .i64 E'.e, .int .i64 E'.win, .int .i64 E'.qn, .int .i64 E'.wait, .slice ea en ec, .int .u64 E'.first, .int .i64 E'.out, .int .i64 E'.ever, .int .u64 E'.want, .bool E'.owes, .int .i64 E'.age, .int .i64 e1, .int .i64 y1, .int .i64 q1, .int .i64 t1, .slice ma mn mc, .int .u64 f1, .int .i64 o1, .int .i64 v1, .int .u64 d1, .bool s1, .int .i64 x1, .slice ga gn gc, .slice ha hn hc, .int .i64 N.n, .int .i64 N.room, .slice wa wn wc] #[.int .i64 E'.e, .int .i64 E'.win, .int .i64 E'.qn, .int .i64 E'.wait, .slice ea en ec, .int .u64 E'.first, .int .i64 E'.out, .int .i64 E'.ever, .int .u64 E'.want, .bool E'.owes, .int .i64 E'.age, .int .i64 e1, .int .i64 y1, .int .i64 q1, .int .i64 t1, .slice ma mn mc, .int .u64 f1, .int .i64 o1, .int .i64 v1, .int .u64 d1, .bool s1, .int .i64 x1, .slice ga gn gc, .slice ha hn hc, .int .i64 N.n, .int .i64 N.room, .slice wa wn wc] rfl rfl (k4.2) (by kernel_rfl) (by simp) rfl rfl ?_
  intro W2 hb2 ho2
  go_wp2
  exact bodyPost_ret (v := .tuple #[.agg #[.int .i64 E'.e, .int .i64 E'.win, .int .i64 E'.qn, .int .i64 E'.wait, .slice ea en ec, .int .u64 E'.first, .int .i64 E'.out, .int .i64 E'.ever, .int .u64 E'.want, .bool E'.owes, .int .i64 E'.age, .int .i64 e1, .int .i64 y1, .int .i64 q1, .int .i64 t1, .slice ma mn mc, .int .u64 f1, .int .i64 o1, .int .i64 v1, .int .u64 d1, .bool s1, .int .i64 x1, .slice ga gn gc, .slice ha hn hc, .int .i64 N.n, .int .i64 N.room, .slice wa wn wc], .int .i64 En]) (res_ct 7 rfl rfl hb2 uPipe (by kernel_rfl)) rfl ⟨_, rfl, (((HR.out _ HX4.out).put0 (E := E') (l := ⟨ea, en, ec⟩) HS4.out).drop ho2 (by omega)).to, ext_off HX4.out ho2 (fun k hk => by omega)⟩

set_option maxRecDepth 50000 in
set_option maxHeartbeats 6400000 in
theorem rSend1 (F : Nat → Prop) (w : World) (hF : ∀ k, F k → k < w.heap.size) (P : PipeS) (l0 l1 g0 g1 ws : SV) (m : Nat) (ok : P.Ok) (h : RP F w P l0 l1 g0 g1 ws m) (b : ByteArray) :
    Calls Tryz.prog 9 #[.agg (pcs P l0 l1 g0 g1 ws), .int .i64 1, .string b] w fun ev w' => ∃ v', ev = .returned (.tuple #[v', .int .i64 (P.sendE 1 b : Nat)]) ∧ RPipe F w' v' (P.send 1 b) m ∧ Ext w w' := by
  have H := Lib.hid h
  have HF := Lib.hid hF
  have okE := ok.e1
  obtain ⟨⟨e0, y0, q0, t0, L0, f0, o0, v0, d0, s0, x0⟩, ⟨e1, y1, q1, t1, L1, f1, o1, v1, d1, s1, x1⟩, G0, G1, N⟩ := P
  obtain ⟨la, ln, lc⟩ := l0
  obtain ⟨ma, mn, mc⟩ := l1
  obtain ⟨ga, gn, gc⟩ := g0
  obtain ⟨ha, hn, hc⟩ := g1
  obtain ⟨wa, wn, wc⟩ := ws
  dsimp only at okE
  have HR := Lib.hid (fun (W : World) (x : Ext w W) => H.out.boxes (n := 2) x)
  have HS := Lib.hid (fun (W : World) (x : Ext w W) => (HR.out W x).s1)
  have cE := fun W => rEnd_any W ⟨⟨e0, y0, q0, t0, L0, f0, o0, v0, d0, s0, x0⟩, ⟨e1, y1, q1, t1, L1, f1, o1, v1, d1, s1, x1⟩, G0, G1, N⟩ ⟨la, ln, lc⟩ ⟨ma, mn, mc⟩ ⟨ga, gn, gc⟩ ⟨ha, hn, hc⟩ ⟨wa, wn, wc⟩ 1 (by decide)
  unfold pcs rCells PipeS.end' at cE
  dsimp only [SV.v] at cE
  rw [if_neg (by decide), if_neg (by decide)] at cE
  have HE := Lib.hid cE
  have cW := fun (W : World) (E : EndS) (l : SV) => rWith1 W ⟨⟨e0, y0, q0, t0, L0, f0, o0, v0, d0, s0, x0⟩, ⟨e1, y1, q1, t1, L1, f1, o1, v1, d1, s1, x1⟩, G0, G1, N⟩ ⟨la, ln, lc⟩ ⟨ma, mn, mc⟩ ⟨ga, gn, gc⟩ ⟨ha, hn, hc⟩ ⟨wa, wn, wc⟩ E l
  unfold pcs rCells at cW
  dsimp only [SV.v] at cW
  have HWI := Lib.hid cW
  have HG : Hid (∀ (W : World), w.heap.size + 2 ≤ W.heap.size → ∀ k, (fun k => F k ∨ (w.heap.size ≤ k ∧ k < w.heap.size + 2)) k → k < W.heap.size) := Lib.hid (fun W hW k hk => by
    rcases hk with hk | hk
    · have := HF.out k hk; omega
    · omega)
  unfold pcs
  dsimp only [SV.v]
  clear h hF ok cE cW
  show Calls _ _ _ _ (fun ev w' => ∃ v', ev = .returned (.tuple #[v', .int .i64 ((EndS.sendE ⟨e1, y1, q1, t1, L1, f1, o1, v1, d1, s1, x1⟩ b : Nat) : Int)]) ∧ RPipe F w' v' (⟨⟨e0, y0, q0, t0, L0, f0, o0, v0, d0, s0, x0⟩, (EndS.send ⟨e1, y1, q1, t1, L1, f1, o1, v1, d1, s1, x1⟩ b), G0, G1, N⟩ : PipeS) m ∧ Ext w w')
  have cT := fun (G : Nat → Prop) (W : World) hW (v : Value) hv => refSendE_any G W hW v ⟨e1, y1, q1, t1, L1, f1, o1, v1, d1, s1, x1⟩ okE hv b
  obtain ⟨E', hE'⟩ : ∃ E', E' = EndS.send ⟨e1, y1, q1, t1, L1, f1, o1, v1, d1, s1, x1⟩ b := ⟨_, rfl⟩
  obtain ⟨En, hEn⟩ : ∃ En, En = EndS.sendE ⟨e1, y1, q1, t1, L1, f1, o1, v1, d1, s1, x1⟩ b := ⟨_, rfl⟩
  rw [← hE', ← hEn] at cT
  rw [← hE', ← hEn]
  have HT := Lib.hid cT
  clear cT hE' hEn okE
  go_enter Tryz.func9, Tryz.ntmps9
  go_wp2_with (first | refine haltst 35 ?_ | refine haltld 35 ?_)
  refine .inl ?_
  refine ld_l 35 (.tmp 3) (w.heap.size) 35 #[.int .i64 e0, .int .i64 y0, .int .i64 q0, .int .i64 t0, .slice la ln lc, .int .u64 f0, .int .i64 o0, .int .i64 v0, .int .u64 d0, .bool s0, .int .i64 x0, .int .i64 e1, .int .i64 y1, .int .i64 q1, .int .i64 t1, .slice ma mn mc, .int .u64 f1, .int .i64 o1, .int .i64 v1, .int .u64 d1, .bool s1, .int .i64 x1, .slice ga gn gc, .slice ha hn hc, .int .i64 N.n, .int .i64 N.room, .slice wa wn wc] rfl (old1 (at0 w _) _) uPipe (by kernel_rfl) ?_
  go_wp2_with fail
  refine (HE.out _).mono ?_
  rintro ev w2 ⟨rfl, x2⟩
  have HX2 := Lib.hid (Ext.trans (Ext.alloc (Ext.alloc (Ext.refl w) _) _) x2)
  have k2 : w2.heap[w.heap.size]? = some (.cells #[.int .i64 e0, .int .i64 y0, .int .i64 q0, .int .i64 t0, .slice la ln lc, .int .u64 f0, .int .i64 o0, .int .i64 v0, .int .u64 d0, .bool s0, .int .i64 x0, .int .i64 e1, .int .i64 y1, .int .i64 q1, .int .i64 t1, .slice ma mn mc, .int .u64 f1, .int .i64 o1, .int .i64 v1, .int .u64 d1, .bool s1, .int .i64 x1, .slice ga gn gc, .slice ha hn hc, .int .i64 N.n, .int .i64 N.room, .slice wa wn wc] 35 (0, 0)) ∧ w2.heap[w.heap.size + 1]? = some (.cells #[.int .i64 0, .int .i64 0, .int .i64 0, .int .i64 0, .slice none 0 0, .int .u64 0, .int .i64 0, .int .i64 0, .int .u64 0, .bool false, .int .i64 0, .int .i64 0, .int .i64 0, .int .i64 0, .int .i64 0, .slice none 0 0, .int .u64 0, .int .i64 0, .int .i64 0, .int .u64 0, .bool false, .int .i64 0, .slice none 0 0, .slice none 0 0, .int .i64 0, .int .i64 0, .slice none 0 0] 35 (0, 0)) := ⟨(x2.block _ (by rw [size_alloc, size_alloc]; omega)).trans (old1 (at0 w _) _), (x2.block _ (by rw [size_alloc, size_alloc]; omega)).trans (at1 w _ _)⟩
  have hsz2 : w.heap.size + 2 ≤ w2.heap.size := by have := x2.size; rw [size_alloc, size_alloc] at this; exact this
  clear x2
  go_wp2_with fail
  refine (HT.out (fun k => F k ∨ (w.heap.size ≤ k ∧ k < w.heap.size + 2)) _ (HG.out _ hsz2) _ ⟨_, _, _, rfl, HS.out _ HX2.out⟩).mono ?_
  rintro ev w3 ⟨v3, rfl, ⟨ea, en, ec, rfl, hs3⟩, x3⟩
  have HX3 := Lib.hid (Ext.trans HX2.out x3)
  have k3 := And.intro ((x3.block _ (blk_lt k2.1)).trans k2.1) ((x3.block _ (blk_lt k2.2)).trans k2.2)
  have HS3 := Lib.hid hs3
  unfold rCells
  clear k2 x3 hs3
  dsimp only
  go_wp2_with (first | refine haltst 35 ?_ | refine haltld 35 ?_)
  refine .inl ?_
  refine ld_l 35 (.tmp 3) (w.heap.size) 35 #[.int .i64 e0, .int .i64 y0, .int .i64 q0, .int .i64 t0, .slice la ln lc, .int .u64 f0, .int .i64 o0, .int .i64 v0, .int .u64 d0, .bool s0, .int .i64 x0, .int .i64 e1, .int .i64 y1, .int .i64 q1, .int .i64 t1, .slice ma mn mc, .int .u64 f1, .int .i64 o1, .int .i64 v1, .int .u64 d1, .bool s1, .int .i64 x1, .slice ga gn gc, .slice ha hn hc, .int .i64 N.n, .int .i64 N.room, .slice wa wn wc] rfl (old1 k3.1 _) uPipe (by kernel_rfl) ?_
  go_wp2_with fail
  refine (HWI.out _ E' ⟨ea, en, ec⟩).mono ?_
  rintro ev w4 ⟨rfl, x4⟩
  have x5 := Ext.trans (Ext.alloc (Ext.refl w3) _) x4
  have HX4 := Lib.hid (Ext.trans HX3.out x5)
  have k4 := And.intro ((x5.block _ (blk_lt k3.1)).trans k3.1) ((x5.block _ (blk_lt k3.2)).trans k3.2)
  have HS4 := Lib.hid (HS3.out.ext x5)
  clear k3 x4 x5
  dsimp only
  go_wp2_with (first | refine haltst 35 ?_ | refine haltld 35 ?_)
  refine .inl ?_
  refine st_l 35 (.tmp 6) (.tmp 28) (w.heap.size + 1) 0 35 #[.int .i64 0, .int .i64 0, .int .i64 0, .int .i64 0, .slice none 0 0, .int .u64 0, .int .i64 0, .int .i64 0, .int .u64 0, .bool false, .int .i64 0, .int .i64 0, .int .i64 0, .int .i64 0, .int .i64 0, .slice none 0 0, .int .u64 0, .int .i64 0, .int .i64 0, .int .u64 0, .bool false, .int .i64 0, .slice none 0 0, .slice none 0 0, .int .i64 0, .int .i64 0, .slice none 0 0] #[.int .i64 e0, .int .i64 y0, .int .i64 q0, .int .i64 t0, .slice la ln lc, .int .u64 f0, .int .i64 o0, .int .i64 v0, .int .u64 d0, .bool s0, .int .i64 x0, .int .i64 E'.e, .int .i64 E'.win, .int .i64 E'.qn, .int .i64 E'.wait, .slice ea en ec, .int .u64 E'.first, .int .i64 E'.out, .int .i64 E'.ever, .int .u64 E'.want, .bool E'.owes, .int .i64 E'.age, .slice ga gn gc, .slice ha hn hc, .int .i64 N.n, .int .i64 N.room, .slice wa wn wc] #[.int .i64 e0, .int .i64 y0, .int .i64 q0, .int .i64 t0, .slice la ln lc, .int .u64 f0, .int .i64 o0, .int .i64 v0, .int .u64 d0, .bool s0, .int .i64 x0, .int .i64 E'.e, .int .i64 E'.win, .int .i64 E'.qn, .int .i64 E'.wait, .slice ea en ec, .int .u64 E'.first, .int .i64 E'.out, .int .i64 E'.ever, .int .u64 E'.want, .bool E'.owes, .int .i64 E'.age, .slice ga gn gc, .slice ha hn hc, .int .i64 N.n, .int .i64 N.room, .slice wa wn wc] rfl rfl (k4.2) (by kernel_rfl) (by simp) rfl rfl ?_
  intro W2 hb2 ho2
  go_wp2
  exact bodyPost_ret (v := .tuple #[.agg #[.int .i64 e0, .int .i64 y0, .int .i64 q0, .int .i64 t0, .slice la ln lc, .int .u64 f0, .int .i64 o0, .int .i64 v0, .int .u64 d0, .bool s0, .int .i64 x0, .int .i64 E'.e, .int .i64 E'.win, .int .i64 E'.qn, .int .i64 E'.wait, .slice ea en ec, .int .u64 E'.first, .int .i64 E'.out, .int .i64 E'.ever, .int .u64 E'.want, .bool E'.owes, .int .i64 E'.age, .slice ga gn gc, .slice ha hn hc, .int .i64 N.n, .int .i64 N.room, .slice wa wn wc], .int .i64 En]) (res_ct 7 rfl rfl hb2 uPipe (by kernel_rfl)) rfl ⟨_, rfl, (((HR.out _ HX4.out).put1 (E := E') (l := ⟨ea, en, ec⟩) HS4.out).drop ho2 (by omega)).to, ext_off HX4.out ho2 (fun k hk => by omega)⟩

theorem rSend_any (F : Nat → Prop) (w : World) (hF : ∀ k, F k → k < w.heap.size) (P : PipeS) (l0 l1 g0 g1 ws : SV) (m : Nat) (ok : P.Ok) (h : RP F w P l0 l1 g0 g1 ws m) (b : ByteArray) (s : Int) :
    Calls Tryz.prog 9 #[.agg (pcs P l0 l1 g0 g1 ws), .int .i64 s, .string b] w fun ev w' => ∃ v', ev = .returned (.tuple #[v', .int .i64 (P.sendE s b : Nat)]) ∧ RPipe F w' v' (P.send s b) (m) ∧ Ext w w' := by
  cases hs : PipeS.side s
  · rw [PipeS.send_no hs, show P.sendE s b = 100 from by unfold PipeS.sendE; rw [hs, if_neg (by decide)]]
    exact (rSendNo F w hF P l0 l1 g0 g1 ws m ok h b s hs)
  · unfold PipeS.side at hs
    simp only [Bool.or_eq_true, decide_eq_true_eq] at hs
    rcases hs with rfl | rfl
    · exact rSend0 F w hF P l0 l1 g0 g1 ws m ok h b
    · exact rSend1 F w hF P l0 l1 g0 g1 ws m ok h b
end Go.Proofs.YtlakolkpfkakoaaGreatDoor
