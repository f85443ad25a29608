/- Layer 10's document: Go. -/
import Derived.Test.YtlakolkpfkakoaaGreatDoorMJH
namespace Go.Proofs.YtlakolkpfkakoaaGreatDoor
open Go.RowKit

set_option linter.unusedVariables false

set_option maxRecDepth 50000 in
set_option maxHeartbeats 12800000 in
theorem rGo0 (F : Nat → Prop) (w : World) (hF : ∀ k, F k → k < w.heap.size) (P : PipeS) (l0 l1 g0 g1 ws : SV) (m : Nat) (ok : P.Ok) (h : RP F w P l0 l1 g0 g1 ws m) (hm : m ≤ 4000) :
    Calls Tryz.prog 11 #[.agg (pcs P l0 l1 g0 g1 ws), .int .i64 0] w fun ev w' => ∃ v', ev = .returned (.tuple #[v', .int .i64 (P.goN 0 : Nat)]) ∧ RPipe F w' v' (P.go 0) (m + 8) ∧ Ext w w' := by
  have okN := ok.net
  have H := Lib.hid h
  have HF := Lib.hid hF
  have okE := ok.e0
  obtain ⟨⟨e0, y0, q0, t0, L0, f0, o0, v0, d0, s0, x0⟩, ⟨e1, y1, q1, t1, L1, f1, o1, v1, d1, s1, x1⟩, G0, G1, N⟩ := P
  obtain ⟨la, ln, lc⟩ := l0
  obtain ⟨ma, mn, mc⟩ := l1
  obtain ⟨ga, gn, gc⟩ := g0
  obtain ⟨ha, hn, hc⟩ := g1
  obtain ⟨wa, wn, wc⟩ := ws
  dsimp only at okE
  have HR := Lib.hid (fun (W : World) (x : Ext w W) => H.out.boxes (n := 2) x)
  have HS := Lib.hid (fun (W : World) (x : Ext w W) => (HR.out W x).s0)
  have cE := fun W => rEnd_any W ⟨⟨e0, y0, q0, t0, L0, f0, o0, v0, d0, s0, x0⟩, ⟨e1, y1, q1, t1, L1, f1, o1, v1, d1, s1, x1⟩, G0, G1, N⟩ ⟨la, ln, lc⟩ ⟨ma, mn, mc⟩ ⟨ga, gn, gc⟩ ⟨ha, hn, hc⟩ ⟨wa, wn, wc⟩ 0 (by decide)
  unfold pcs rCells PipeS.end' at cE
  dsimp only [SV.v] at cE
  rw [if_pos rfl, if_pos rfl] at cE
  have HE := Lib.hid cE
  have cW := fun (W : World) (E : EndS) (l : SV) => rWith0 W ⟨⟨e0, y0, q0, t0, L0, f0, o0, v0, d0, s0, x0⟩, ⟨e1, y1, q1, t1, L1, f1, o1, v1, d1, s1, x1⟩, G0, G1, N⟩ ⟨la, ln, lc⟩ ⟨ma, mn, mc⟩ ⟨ga, gn, gc⟩ ⟨ha, hn, hc⟩ ⟨wa, wn, wc⟩ E l
  unfold pcs rCells at cW
  dsimp only [SV.v] at cW
  have HWI := Lib.hid cW
  have HG : Hid (∀ (W : World), w.heap.size + 2 ≤ W.heap.size → ∀ k, (fun k => F k ∨ (w.heap.size ≤ k ∧ k < w.heap.size + 2)) k → k < W.heap.size) := Lib.hid (fun W hW k hk => by
    rcases hk with hk | hk
    · have := HF.out k hk; omega
    · omega)
  unfold pcs
  dsimp only [SV.v]
  clear h hF ok cE cW
  dsimp only at okN
  show Calls _ _ _ _ (fun ev w' => ∃ v', ev = .returned (.tuple #[v', .int .i64 (((goes N 0 (1 - 0) (EndS.frames ⟨e0, y0, q0, t0, L0, f0, o0, v0, d0, s0, x0⟩)).2 : Nat) : Int)]) ∧ RPipe F w' v' (⟨EndS.outS ⟨e0, y0, q0, t0, L0, f0, o0, v0, d0, s0, x0⟩, ⟨e1, y1, q1, t1, L1, f1, o1, v1, d1, s1, x1⟩, G0, G1, (goes N 0 (1 - 0) (EndS.frames ⟨e0, y0, q0, t0, L0, f0, o0, v0, d0, s0, x0⟩)).1⟩ : PipeS) (m + 8) ∧ Ext w w')
  have hlen := EndS.frames_le okE
  have hfit := FitO.frames okE
  have cO := fun (G : Nat → Prop) (W : World) hW (v : Value) hv => refOut_any G W hW v ⟨e0, y0, q0, t0, L0, f0, o0, v0, d0, s0, x0⟩ okE hv
  obtain ⟨E', hE'⟩ : ∃ E', E' = EndS.outS ⟨e0, y0, q0, t0, L0, f0, o0, v0, d0, s0, x0⟩ := ⟨_, rfl⟩
  obtain ⟨FR, hFR⟩ : ∃ FR, FR = EndS.frames ⟨e0, y0, q0, t0, L0, f0, o0, v0, d0, s0, x0⟩ := ⟨_, rfl⟩
  rw [← hE', ← hFR] at cO
  rw [← hE', ← hFR]
  rw [← hFR] at hlen hfit
  have hR0 : gS N 0 FR FR.length = (goes N 0 (1 - 0) FR).1 := by unfold gS; rw [List.take_length]
  have hR1 : gN N 0 FR FR.length = (goes N 0 (1 - 0) FR).2 := by unfold gN; rw [List.take_length]
  rw [← hR0, ← hR1]
  have HO := Lib.hid cO
  have HFIT := Lib.hid hfit
  have HOK : Hid (∀ k, (gS N 0 FR k).Ok) := Lib.hid (fun k => goes_ok _ _ _ okN)
  have HNX : Hid (∀ k, k < FR.length → gS N 0 FR (k + 1) = sendF (gS N 0 FR k) 0 (1 - 0) (FR.getD k Fr.zero) ∧ gN N 0 FR (k + 1) = gN N 0 FR k + wentF (gS N 0 FR k) 0 (1 - 0) (FR.getD k Fr.zero)) := Lib.hid (fun k hk => g_next N 0 FR k hk)
  have HNL : Hid (∀ k, gN N 0 FR k ≤ FR.length) := Lib.hid (gN_le N 0 FR)
  have HN0 : Hid (gS N 0 FR 0 = N ∧ gN N 0 FR 0 = 0) := Lib.hid ⟨rfl, rfl⟩
  obtain ⟨GS, hGS⟩ : ∃ GS, GS = gS N 0 FR := ⟨_, rfl⟩
  obtain ⟨GN, hGN⟩ : ∃ GN, GN = gN N 0 FR := ⟨_, rfl⟩
  rw [← hGS] at HOK HNX HN0
  rw [← hGN] at HNX HNL HN0
  rw [← hGS, ← hGN]
  clear cO hE' hFR okE okN hfit hR0 hR1 hGS hGN
  go_enter Tryz.func11, Tryz.ntmps11
  go_wp2_with (first | refine haltst 35 ?_ | refine haltld 35 ?_)
  refine .inl ?_
  refine ld_l 35 (.tmp 2) (w.heap.size) 35 #[.int .i64 e0, .int .i64 y0, .int .i64 q0, .int .i64 t0, .slice la ln lc, .int .u64 f0, .int .i64 o0, .int .i64 v0, .int .u64 d0, .bool s0, .int .i64 x0, .int .i64 e1, .int .i64 y1, .int .i64 q1, .int .i64 t1, .slice ma mn mc, .int .u64 f1, .int .i64 o1, .int .i64 v1, .int .u64 d1, .bool s1, .int .i64 x1, .slice ga gn gc, .slice ha hn hc, .int .i64 N.n, .int .i64 N.room, .slice wa wn wc] rfl (old1 (at0 w _) _) uPipe (by kernel_rfl) ?_
  go_wp2_with fail
  refine (HE.out _).mono ?_
  rintro ev w2 ⟨rfl, x2⟩
  have HX2 := Lib.hid (Ext.trans (Ext.alloc (Ext.alloc (Ext.refl w) _) _) x2)
  have k2 : w2.heap[w.heap.size]? = some (.cells #[.int .i64 e0, .int .i64 y0, .int .i64 q0, .int .i64 t0, .slice la ln lc, .int .u64 f0, .int .i64 o0, .int .i64 v0, .int .u64 d0, .bool s0, .int .i64 x0, .int .i64 e1, .int .i64 y1, .int .i64 q1, .int .i64 t1, .slice ma mn mc, .int .u64 f1, .int .i64 o1, .int .i64 v1, .int .u64 d1, .bool s1, .int .i64 x1, .slice ga gn gc, .slice ha hn hc, .int .i64 N.n, .int .i64 N.room, .slice wa wn wc] 35 (0, 0)) ∧ w2.heap[w.heap.size + 1]? = some (.cells #[.int .i64 0, .int .i64 0, .int .i64 0, .int .i64 0, .slice none 0 0, .int .u64 0, .int .i64 0, .int .i64 0, .int .u64 0, .bool false, .int .i64 0, .int .i64 0, .int .i64 0, .int .i64 0, .int .i64 0, .slice none 0 0, .int .u64 0, .int .i64 0, .int .i64 0, .int .u64 0, .bool false, .int .i64 0, .slice none 0 0, .slice none 0 0, .int .i64 0, .int .i64 0, .slice none 0 0] 35 (0, 0)) := ⟨(x2.block _ (by rw [size_alloc, size_alloc]; omega)).trans (old1 (at0 w _) _), (x2.block _ (by rw [size_alloc, size_alloc]; omega)).trans (at1 w _ _)⟩
  have hsz2 : w.heap.size + 2 ≤ w2.heap.size := by have := x2.size; rw [size_alloc, size_alloc] at this; exact this
  clear x2
  go_wp2_with fail
  refine (HO.out (fun k => F k ∨ (w.heap.size ≤ k ∧ k < w.heap.size + 2)) _ (HG.out _ hsz2) _ ⟨_, _, _, rfl, HS.out _ HX2.out⟩).mono ?_
  rintro ev w3 ⟨v3, ao, fn, fc, rfl, ⟨ea, en, ec, rfl, hs3⟩, hfr, x3⟩
  obtain ⟨ao', fc', hv⟩ := hfr.1.len
  simp only [Value.slice.injEq] at hv
  obtain ⟨rfl, rfl, rfl⟩ := hv
  have HX3 := Lib.hid (Ext.trans HX2.out x3)
  have k3 := And.intro ((x3.block _ (blk_lt k2.1)).trans k2.1) ((x3.block _ (blk_lt k2.2)).trans k2.2)
  have HS3 := Lib.hid hs3
  have HFR3 := Lib.hid hfr
  unfold rCells
  clear k2 x3 hs3 hfr
  dsimp only
  go_wp2_with (first | refine haltst 35 ?_ | refine haltld 35 ?_)
  refine .inl ?_
  refine ld_l 35 (.tmp 2) (w.heap.size) 35 #[.int .i64 e0, .int .i64 y0, .int .i64 q0, .int .i64 t0, .slice la ln lc, .int .u64 f0, .int .i64 o0, .int .i64 v0, .int .u64 d0, .bool s0, .int .i64 x0, .int .i64 e1, .int .i64 y1, .int .i64 q1, .int .i64 t1, .slice ma mn mc, .int .u64 f1, .int .i64 o1, .int .i64 v1, .int .u64 d1, .bool s1, .int .i64 x1, .slice ga gn gc, .slice ha hn hc, .int .i64 N.n, .int .i64 N.room, .slice wa wn wc] rfl (old1 k3.1 _) uPipe (by kernel_rfl) ?_
  go_wp2_with fail
  refine (HWI.out _ E' ⟨ea, en, ec⟩).mono ?_
  rintro ev w4 ⟨rfl, x4⟩
  have x5 := Ext.trans (Ext.alloc (Ext.refl w3) _) x4
  have HX4 := Lib.hid (Ext.trans HX3.out x5)
  have k4 := And.intro ((x5.block _ (blk_lt k3.1)).trans k3.1) ((x5.block _ (blk_lt k3.2)).trans k3.2)
  have HS4 := Lib.hid (HS3.out.ext x5)
  have HFR4 := Lib.hid (HFR3.out.ext x5)
  clear k3 x4 x5
  dsimp only
  go_wp2_with (first | refine haltst 35 ?_ | refine haltld 35 ?_)
  refine .inl ?_
  refine st_l 35 (.tmp 2) (.tmp 29) (w.heap.size) 0 35 #[.int .i64 e0, .int .i64 y0, .int .i64 q0, .int .i64 t0, .slice la ln lc, .int .u64 f0, .int .i64 o0, .int .i64 v0, .int .u64 d0, .bool s0, .int .i64 x0, .int .i64 e1, .int .i64 y1, .int .i64 q1, .int .i64 t1, .slice ma mn mc, .int .u64 f1, .int .i64 o1, .int .i64 v1, .int .u64 d1, .bool s1, .int .i64 x1, .slice ga gn gc, .slice ha hn hc, .int .i64 N.n, .int .i64 N.room, .slice wa wn wc] #[.int .i64 E'.e, .int .i64 E'.win, .int .i64 E'.qn, .int .i64 E'.wait, .slice ea en ec, .int .u64 E'.first, .int .i64 E'.out, .int .i64 E'.ever, .int .u64 E'.want, .bool E'.owes, .int .i64 E'.age, .int .i64 e1, .int .i64 y1, .int .i64 q1, .int .i64 t1, .slice ma mn mc, .int .u64 f1, .int .i64 o1, .int .i64 v1, .int .u64 d1, .bool s1, .int .i64 x1, .slice ga gn gc, .slice ha hn hc, .int .i64 N.n, .int .i64 N.room, .slice wa wn wc] #[.int .i64 E'.e, .int .i64 E'.win, .int .i64 E'.qn, .int .i64 E'.wait, .slice ea en ec, .int .u64 E'.first, .int .i64 E'.out, .int .i64 E'.ever, .int .u64 E'.want, .bool E'.owes, .int .i64 E'.age, .int .i64 e1, .int .i64 y1, .int .i64 q1, .int .i64 t1, .slice ma mn mc, .int .u64 f1, .int .i64 o1, .int .i64 v1, .int .u64 d1, .bool s1, .int .i64 x1, .slice ga gn gc, .slice ha hn hc, .int .i64 N.n, .int .i64 N.room, .slice wa wn wc] rfl rfl (k4.1) (by kernel_rfl) (by simp) rfl rfl ?_
  intro W5 hb5 ho5
  have HQ0 : Hid (GoQ F w W5 ⟨E', ⟨e1, y1, q1, t1, L1, f1, o1, v1, d1, s1, x1⟩, G0, G1, N⟩ ⟨ea, en, ec⟩ ⟨ma, mn, mc⟩ ⟨ga, gn, gc⟩ ⟨ha, hn, hc⟩ ⟨wa, wn, wc⟩ m (.slice ao FR.length fc) FR) := Lib.hid ⟨hb5, ho5.blk k4.2 (by omega), ((HR.out _ HX4.out).put0 (E := E') (l := ⟨ea, en, ec⟩) HS4.out).stay ho5 (by omega), HFR4.out.off (ho5.mono fun k hk => .inr (by omega)) (Grows.refl _ _), ext_off HX4.out ho5 (fun k hk => by omega)⟩
  clear k4 hb5 ho5 HS4 HFR4 HS3 HFR3 HX4 HX3 HX2 hsz2 HE HWI HS HR HO
  go_wp2
  go_loopw [8, 9] (fun a i wr => ∃ (k : Nat) (ya : Option Addr) (yn yc : Nat), k ≤ FR.length ∧ i = .int .i64 k ∧ a = .int .i64 ((GN k : Nat) : Int) ∧ Hid (GoQ F w wr ⟨E', ⟨e1, y1, q1, t1, L1, f1, o1, v1, d1, s1, x1⟩, G0, G1, (GS k)⟩ ⟨ea, en, ec⟩ ⟨ma, mn, mc⟩ ⟨ga, gn, gc⟩ ⟨ha, hn, hc⟩ ⟨ya, yn, yc⟩ (m + k) (.slice ao FR.length fc) FR)) (fun _ i _ => FR.length - (intOf i).toNat)
  case atStart => exact ⟨0, wa, wn, wc, Nat.zero_le _, rfl, by rw [HN0.out.2]; rfl, by rw [HN0.out.1]; exact HQ0⟩
  case round =>
    obtain ⟨k, ya, yn, yc, hk, rfl, rfl, HQ⟩ := hrel
    clear HQ0
    by_cases hlt : k < FR.length
    · have hn2 : IntKind.i64.wrap ((k : Int) + 1) = (k : Int) + 1 := wrapN _ (by omega) (by omega)
      have hN8 : GN k ≤ 8 := Nat.le_trans (HNL.out k) hlen
      have hm1 : IntKind.i64.wrap (((GN k : Nat) : Int) + 1) = ((GN k : Nat) : Int) + 1 := wrapN _ (by omega) (by omega)
      obtain ⟨b9, off9, hoa, _, hoc, hb9, hfr⟩ := Sl.frs_some (ao := ao) (n := FR.length) (c := fc) HQ.out.fr.1 (by omega)
      subst hoa
      have hfr2 := hfr k hlt
      have hfi := HFIT.out _ (show FR.getD k Fr.zero ∈ FR by simp [hlt])
      have hnx := HNX.out k hlt
      obtain ⟨f, hf⟩ : ∃ f, f = FR.getD k Fr.zero := ⟨_, rfl⟩
      rw [← hf] at hfr2 hfi hnx
      obtain ⟨M, hM⟩ : ∃ M, M = GS k := ⟨_, rfl⟩
      have okM : M.Ok := by rw [hM]; exact HOK.out k
      rw [← hM] at HQ hnx
      have cR := Lib.hid (fun W => (refRight_any W f.k f.e f.q f.a f.b : Calls _ _ _ _ (fun ev w' => ev = .returned (.bool (rightB f)) ∧ Ext W w')))
      have hfr3 := hfr2
      obtain ⟨r0, r1, r2, r3, r4⟩ := hfr2
      have hkc3 : (k : Int) ≤ (fc : Int) := by omega
      cases hr : rightB f
      · rw [hr] at cR
        have HSK := Lib.hid (show GS (k + 1) = M ∧ GN (k + 1) = GN k from by
          have e1 : sendF M 0 (1 - 0) f = M := by unfold sendF; rw [hr, if_neg (by decide)]
          have e2 : wentF M 0 (1 - 0) f = 0 := by unfold wentF; rw [hr, Bool.false_and, if_neg (by decide)]
          rw [e1, e2] at hnx
          exact hnx)
        clear hM hf hfr hfi hnx hr okM hoc hb9 hfr3
        go_wp2_with fail
        refine (cR.out _).mono ?_
        rintro ev w6 ⟨rfl, x6⟩
        have HQ6 := Lib.hid (HQ.out.more x6)
        clear x6 HQ
        go_wp2
        exact ⟨⟨k + 1, ya, yn, yc, hlt, by go_num, by rw [HSK.out.2], by rw [HSK.out.1]; exact Lib.hid (HQ6.out.up)⟩, by simp [intOf]; omega⟩
      · rw [hr] at cR
        have cP := Lib.hid (fun W => refPut_all W f hr hfi.2.1 hfi.1)
        obtain ⟨pb, hpb⟩ : ∃ pb, pb = putF f := ⟨_, rfl⟩
        have cS := fun (G : Nat → Prop) (W : World) hW (v : Value) hv => refSend_any G W hW v M (m + k) hv (by omega) okM 0 (1 - 0) pb
        obtain ⟨M2, hM2⟩ : ∃ M2, M2 = M.send 0 (1 - 0) pb := ⟨_, rfl⟩
        obtain ⟨Y, hY⟩ : ∃ Y, Y = M.may 0 (1 - 0) := ⟨_, rfl⟩
        have HFE := Lib.hid hf.symm
        have HSK := Lib.hid (show GS (k + 1) = M2 ∧ GN (k + 1) = GN k + (if Y = true then 1 else 0) from by
          have e1 : sendF M 0 (1 - 0) f = M2 := by unfold sendF; rw [hr, if_pos rfl, hM2, hpb]
          have e2 : wentF M 0 (1 - 0) f = if Y = true then 1 else 0 := by unfold wentF; rw [hr, Bool.true_and, hY]
          rw [e1, e2] at hnx
          exact hnx)
        rw [← hM2, ← hY] at cS
        rw [← hpb] at cP
        have HCS : Hid (∀ G W, (∀ j, G j → j < W.heap.size) → RNet G W (.agg #[.int .i64 M.n, .int .i64 M.room, .slice ya yn yc]) M (m + k) → Calls Tryz.prog 44 #[.agg #[.int .i64 M.n, .int .i64 M.room, .slice ya yn yc], .int .i64 0, .int .i64 1, .string pb] W (fun e w' => ∃ v', e = .returned (.tuple #[v', .bool Y]) ∧ RNet G w' v' M2 (m + k + 1) ∧ Ext W w')) := Lib.hid (fun G W hW hv => by simpa using cS G W hW _ hv)
        clear hM hf hfr hfi hnx hr okM hoc cS hM2 hY hpb
        go_wp2_with fail
        refine (cR.out _).mono ?_
        rintro ev w6 ⟨rfl, x6⟩
        have hq6 := HQ.out.more x6
        have hfr6 := hfr3.ext (x6.mono hb9)
        have hb6 : b9 < w6.heap.size := Nat.lt_of_lt_of_le hb9 x6.size
        clear hfr3 r0 r1 r2 r3 r4 x6 HQ hb9
        go_wp2_with fail
        (refine wp_region_X_lit (K := fun W => W.heap[w.heap.size]? = some (.cells #[.int .i64 E'.e, .int .i64 E'.win, .int .i64 E'.qn, .int .i64 E'.wait, .slice ea en ec, .int .u64 E'.first, .int .i64 E'.out, .int .i64 E'.ever, .int .u64 E'.want, .bool E'.owes, .int .i64 E'.age, .int .i64 e1, .int .i64 y1, .int .i64 q1, .int .i64 t1, .slice ma mn mc, .int .u64 f1, .int .i64 o1, .int .i64 v1, .int .u64 d1, .bool s1, .int .i64 x1, .slice ga gn gc, .slice ha hn hc, .int .i64 M.n, .int .i64 M.room, .slice ya yn yc] 35 (0, 0)) ∧ FrAt W b9 (off9 + k * 5) f) (by kernel_rfl) (fun w1 hw1 => ?_))
        have hq7 := hq6.more hw1
        have k7 : w1.heap[w.heap.size]? = some (.cells #[.int .i64 E'.e, .int .i64 E'.win, .int .i64 E'.qn, .int .i64 E'.wait, .slice ea en ec, .int .u64 E'.first, .int .i64 E'.out, .int .i64 E'.ever, .int .u64 E'.want, .bool E'.owes, .int .i64 E'.age, .int .i64 e1, .int .i64 y1, .int .i64 q1, .int .i64 t1, .slice ma mn mc, .int .u64 f1, .int .i64 o1, .int .i64 v1, .int .u64 d1, .bool s1, .int .i64 x1, .slice ga gn gc, .slice ha hn hc, .int .i64 M.n, .int .i64 M.room, .slice ya yn yc] 35 (0, 0)) ∧ FrAt w1 b9 (off9 + k * 5) f := ⟨hq7.box, hfr6.ext (hw1.mono hb6)⟩
        have hb7 := Nat.lt_of_lt_of_le hb6 hw1.size
        have HQ7 := Lib.hid hq7
        clear hw1 hq6 hq7 hfr6 hb6
        refine xtv 0 (h := ?_)
        refine xtv 1 (hv := by intro w' hw'; obtain ⟨⟨z0, z1, z2, z3, z4, z5, z6, z7, z8, z9, z10, z11, z12, z13, z14, z15, z16, z17, z18, z19, z20, z21, z22, z23, z24, z25, z26⟩, _⟩ := cells27 hw'.1; go_simp; first | done | with_reducible rfl) (h := ?_)
        refine xtv 2 (h := ?_)
        refine xtv 3 (h := ?_)
        refine xtv 4 (h := ?_)
        refine xtv 5 (h := ?_)
        refine xtv 6 (h := ?_)
        refine xtv 7 (h := ?_)
        refine xtv 8 (hv := by intro w' hw'; obtain ⟨r0, r1, r2, r3, r4⟩ := hw'.2; go_simp; first | done | with_reducible rfl) (h := ?_)
        refine xtwo 9 14 (hk := k7) (h := RunX.of 9 (h := ?_)) (h' := RunX.of 14 (h := ?_))
        · skip
          go_simp
          refine (cP.out _).mono ?_
          rintro ev w7 ⟨rfl, x7⟩
          have HQ8 := Lib.hid (HQ7.out.more x7)
          have k8 : w7.heap[w.heap.size]? = some (.cells #[.int .i64 E'.e, .int .i64 E'.win, .int .i64 E'.qn, .int .i64 E'.wait, .slice ea en ec, .int .u64 E'.first, .int .i64 E'.out, .int .i64 E'.ever, .int .u64 E'.want, .bool E'.owes, .int .i64 E'.age, .int .i64 e1, .int .i64 y1, .int .i64 q1, .int .i64 t1, .slice ma mn mc, .int .u64 f1, .int .i64 o1, .int .i64 v1, .int .u64 d1, .bool s1, .int .i64 x1, .slice ga gn gc, .slice ha hn hc, .int .i64 M.n, .int .i64 M.room, .slice ya yn yc] 35 (0, 0)) ∧ FrAt w7 b9 (off9 + k * 5) f := ⟨HQ8.out.box, k7.2.ext (x7.mono hb7)⟩
          have hb8 := Nat.lt_of_lt_of_le hb7 x7.size
          dsimp only
          (try (simp only [Act.put, List.setIfInBounds_toArray, List.set]))
          refine xtwo 10 14 (hk := k8) (h := RunX.of 10 (h := ?_)) (h' := RunX.of 14 (h := ?_))
          · skip
            go_simp
            refine (HCS.out (fun k => F k ∨ (w.heap.size ≤ k ∧ k < w.heap.size + 2)) _ (HG.out _ (by have := blk_lt HQ8.out.res; omega)) HQ8.out.rp.net).mono ?_
            rintro ev w8 ⟨v8, rfl, ⟨za, zn, zc, L9, rfl, hr9⟩, x8⟩
            have HQ9 := Lib.hid (HQ8.out.more x8)
            have k9 : w8.heap[w.heap.size]? = some (.cells #[.int .i64 E'.e, .int .i64 E'.win, .int .i64 E'.qn, .int .i64 E'.wait, .slice ea en ec, .int .u64 E'.first, .int .i64 E'.out, .int .i64 E'.ever, .int .u64 E'.want, .bool E'.owes, .int .i64 E'.age, .int .i64 e1, .int .i64 y1, .int .i64 q1, .int .i64 t1, .slice ma mn mc, .int .u64 f1, .int .i64 o1, .int .i64 v1, .int .u64 d1, .bool s1, .int .i64 x1, .slice ga gn gc, .slice ha hn hc, .int .i64 M.n, .int .i64 M.room, .slice ya yn yc] 35 (0, 0)) ∧ FrAt w8 b9 (off9 + k * 5) f := ⟨HQ9.out.box, k8.2.ext (x8.mono hb8)⟩
            have hb9 := Nat.lt_of_lt_of_le hb8 x8.size
            have HN9 : Hid (RNet (fun k => F k ∨ (w.heap.size ≤ k ∧ k < w.heap.size + 2)) w8 (.agg #[.int .i64 M2.n, .int .i64 M2.room, .slice za zn zc]) M2 (m + k + 1)) := Lib.hid ⟨za, zn, zc, L9, rfl, hr9⟩
            dsimp only
            (try (simp only [Act.put, List.setIfInBounds_toArray, List.set]))
            refine xtv 11 (h := ?_)
            refine xtv 12 (h := ?_)
            refine xtv 13 (h := ?_)
            refine xone 14 (hk := k9) (h := RunX.of 14 (h := ?_))
            go_simp
            (try (simp only [Act.put, List.setIfInBounds_toArray, List.set]))
            obtain ⟨wT, hw9⟩ : ∃ W, W = w8.alloc (.cells #[.int .i64 0, .int .i64 0, .slice none 0 0] 33) := ⟨_, rfl⟩
            have HQ10 : Hid (GoQ (fun k => F k ∨ k = w8.heap.size) w wT ⟨E', ⟨e1, y1, q1, t1, L1, f1, o1, v1, d1, s1, x1⟩, G0, G1, M⟩ ⟨ea, en, ec⟩ ⟨ma, mn, mc⟩ ⟨ga, gn, gc⟩ ⟨ha, hn, hc⟩ ⟨ya, yn, yc⟩ (m + k) (.slice (some ⟨b9, off9, none⟩) FR.length fc) FR) := Lib.hid (by rw [hw9]; exact HQ9.out.aside _)
            have k10 : wT.heap[w.heap.size]? = some (.cells #[.int .i64 E'.e, .int .i64 E'.win, .int .i64 E'.qn, .int .i64 E'.wait, .slice ea en ec, .int .u64 E'.first, .int .i64 E'.out, .int .i64 E'.ever, .int .u64 E'.want, .bool E'.owes, .int .i64 E'.age, .int .i64 e1, .int .i64 y1, .int .i64 q1, .int .i64 t1, .slice ma mn mc, .int .u64 f1, .int .i64 o1, .int .i64 v1, .int .u64 d1, .bool s1, .int .i64 x1, .slice ga gn gc, .slice ha hn hc, .int .i64 M.n, .int .i64 M.room, .slice ya yn yc] 35 (0, 0)) ∧ FrAt wT b9 (off9 + k * 5) f := ⟨HQ10.out.box, by rw [hw9]; exact k9.2.ext (((Ext.refl w8).alloc _).mono hb9)⟩
            have hb10 : b9 < wT.heap.size := by rw [hw9, size_alloc]; omega
            have kA10 : wT.heap[w8.heap.size]? = some (.cells #[.int .i64 0, .int .i64 0, .slice none 0 0] 33 (0, 0)) := by rw [hw9]; exact get_alloc_new w8 _
            have hgA : w.heap.size + 2 ≤ w8.heap.size := by have := blk_lt HQ9.out.res; omega
            have HN10 : Hid (RNet (fun k => (F k ∨ k = w8.heap.size) ∨ (w.heap.size ≤ k ∧ k < w.heap.size + 2)) wT (.agg #[.int .i64 M2.n, .int .i64 M2.room, .slice za zn zc]) M2 (m + k + 1)) := Lib.hid (by rw [hw9]; exact net_aside HN9.out hgA _)
            rw [← hw9]
            clear hw9
            refine xone 15 (hk := k10) (h := RunX.of 15 (h := ?_))
            refine wp_st 33 (.tmp 10) (.tmp 54) ?_ (w8.heap.size) 0 33 #[.int .i64 0, .int .i64 0, .slice none 0 0] #[.int .i64 M2.n, .int .i64 M2.room, .slice za zn zc] #[.int .i64 M2.n, .int .i64 M2.room, .slice za zn zc] ?_ ?_ kA10 (by kernel_rfl) (by simp) rfl rfl ?_
            · exact rfl
            · exact rfl
            · exact rfl
            intro WB hbB hoB
            dsimp only
            (try simp only [Act.put])
            have HQB := Lib.hid (HQ10.out.back hoB hgA)
            have HNB : Hid (RNet (fun k => F k ∨ (w.heap.size ≤ k ∧ k < w.heap.size + 2)) WB (.agg #[.int .i64 M2.n, .int .i64 M2.room, .slice za zn zc]) M2 (m + k + 1)) := Lib.hid (HN10.out.off (hoB.mono fun j hj => .inl (.inr hj)) (grows_back _))
            have kB : WB.heap[w.heap.size]? = some (.cells #[.int .i64 E'.e, .int .i64 E'.win, .int .i64 E'.qn, .int .i64 E'.wait, .slice ea en ec, .int .u64 E'.first, .int .i64 E'.out, .int .i64 E'.ever, .int .u64 E'.want, .bool E'.owes, .int .i64 E'.age, .int .i64 e1, .int .i64 y1, .int .i64 q1, .int .i64 t1, .slice ma mn mc, .int .u64 f1, .int .i64 o1, .int .i64 v1, .int .u64 d1, .bool s1, .int .i64 x1, .slice ga gn gc, .slice ha hn hc, .int .i64 M.n, .int .i64 M.room, .slice ya yn yc] 35 (0, 0)) ∧ FrAt WB b9 (off9 + k * 5) f := ⟨HQB.out.box, by
                obtain ⟨b0, off0, ho0, _, _, _, hfr0⟩ := Sl.frs_some (ao := some ⟨b9, off9, none⟩) (n := FR.length) (c := fc) HQB.out.fr.1 (by omega)
                simp only [Option.some.injEq, Addr.mk.injEq, and_true] at ho0
                obtain ⟨rfl, rfl⟩ := ho0
                have h0 := hfr0 k hlt
                rwa [HFE.out] at h0⟩
            refine xtv 16 (h := ?_)
            (refine xdone (by kernel_rfl) (kB) ?_)
            obtain ⟨t0', t1', t2'⟩ := (cells3 hbB).1
            go_wp2_with (first | refine haltst (x := .tmp 57) 33 ?_)
            refine .inl ?_
            refine st_l 33 (.tmp 57) (.tmp 56) (w.heap.size) 24 35 #[.int .i64 E'.e, .int .i64 E'.win, .int .i64 E'.qn, .int .i64 E'.wait, .slice ea en ec, .int .u64 E'.first, .int .i64 E'.out, .int .i64 E'.ever, .int .u64 E'.want, .bool E'.owes, .int .i64 E'.age, .int .i64 e1, .int .i64 y1, .int .i64 q1, .int .i64 t1, .slice ma mn mc, .int .u64 f1, .int .i64 o1, .int .i64 v1, .int .u64 d1, .bool s1, .int .i64 x1, .slice ga gn gc, .slice ha hn hc, .int .i64 M.n, .int .i64 M.room, .slice ya yn yc] #[.int .i64 M2.n, .int .i64 M2.room, .slice za zn zc] #[.int .i64 E'.e, .int .i64 E'.win, .int .i64 E'.qn, .int .i64 E'.wait, .slice ea en ec, .int .u64 E'.first, .int .i64 E'.out, .int .i64 E'.ever, .int .u64 E'.want, .bool E'.owes, .int .i64 E'.age, .int .i64 e1, .int .i64 y1, .int .i64 q1, .int .i64 t1, .slice ma mn mc, .int .u64 f1, .int .i64 o1, .int .i64 v1, .int .u64 d1, .bool s1, .int .i64 x1, .slice ga gn gc, .slice ha hn hc, .int .i64 M2.n, .int .i64 M2.room, .slice za zn zc] rfl rfl (kB.1) (by kernel_rfl) (by simp) rfl rfl ?_
            intro W9 hb9' ho9
            have HQZ : Hid (GoQ F w W9 ⟨E', ⟨e1, y1, q1, t1, L1, f1, o1, v1, d1, s1, x1⟩, G0, G1, M2⟩ ⟨ea, en, ec⟩ ⟨ma, mn, mc⟩ ⟨ga, gn, gc⟩ ⟨ha, hn, hc⟩ ⟨za, zn, zc⟩ (m + k + 1) (.slice (some ⟨b9, off9, none⟩) FR.length fc) FR) := Lib.hid ⟨hb9', ho9.blk HQB.out.res (by omega), (HQB.out.rp.putN (x := ⟨za, zn, zc⟩) HNB.out (Nat.le_succ _)).stay ho9 (by omega), HQB.out.fr.off (ho9.mono fun j hj => .inr (by omega)) (Grows.refl _ _), ext_off HQB.out.ext ho9 (fun j hj => by omega)⟩
            clear hb9' ho9 kB HNB HQB hbB hoB t0' t1' t2'
            cases Y
            · go_wp2
              exact ⟨⟨k + 1, za, zn, zc, hlt, by go_num, by rw [HSK.out.2]; rfl, by rw [HSK.out.1]; exact HQZ⟩, by simp [intOf]; omega⟩
            · go_wp2
              exact ⟨⟨k + 1, za, zn, zc, hlt, by go_num, by rw [HSK.out.2]; rfl, by rw [HSK.out.1]; exact HQZ⟩, by simp [intOf]; omega⟩
          · skip
            go_simp
            (try (simp only [Act.put, List.setIfInBounds_toArray, List.set]))
            obtain ⟨wT, hw9⟩ : ∃ W, W = w7.alloc (.cells #[.int .i64 0, .int .i64 0, .slice none 0 0] 33) := ⟨_, rfl⟩
            have HQ9 : Hid (GoQ (fun k => F k ∨ k = w7.heap.size) w wT ⟨E', ⟨e1, y1, q1, t1, L1, f1, o1, v1, d1, s1, x1⟩, G0, G1, M⟩ ⟨ea, en, ec⟩ ⟨ma, mn, mc⟩ ⟨ga, gn, gc⟩ ⟨ha, hn, hc⟩ ⟨ya, yn, yc⟩ (m + k) (.slice (some ⟨b9, off9, none⟩) FR.length fc) FR) := Lib.hid (by rw [hw9]; exact HQ8.out.aside _)
            have k9 : wT.heap[w.heap.size]? = some (.cells #[.int .i64 E'.e, .int .i64 E'.win, .int .i64 E'.qn, .int .i64 E'.wait, .slice ea en ec, .int .u64 E'.first, .int .i64 E'.out, .int .i64 E'.ever, .int .u64 E'.want, .bool E'.owes, .int .i64 E'.age, .int .i64 e1, .int .i64 y1, .int .i64 q1, .int .i64 t1, .slice ma mn mc, .int .u64 f1, .int .i64 o1, .int .i64 v1, .int .u64 d1, .bool s1, .int .i64 x1, .slice ga gn gc, .slice ha hn hc, .int .i64 M.n, .int .i64 M.room, .slice ya yn yc] 35 (0, 0)) ∧ FrAt wT b9 (off9 + k * 5) f := ⟨HQ9.out.box, by rw [hw9]; exact k8.2.ext (((Ext.refl w7).alloc _).mono hb8)⟩
            have hb9 : b9 < wT.heap.size := by rw [hw9, size_alloc]; omega
            have kA9 : wT.heap[w7.heap.size]? = some (.cells #[.int .i64 0, .int .i64 0, .slice none 0 0] 33 (0, 0)) := by rw [hw9]; exact get_alloc_new w7 _
            have hgA : w.heap.size + 2 ≤ w7.heap.size := by have := blk_lt HQ8.out.res; omega
            rw [← hw9]
            clear hw9
            refine xone 10 (hk := k9) (h := RunX.of 10 (h := ?_))
            go_simp
            refine (HCS.out (fun k => (F k ∨ k = w7.heap.size) ∨ (w.heap.size ≤ k ∧ k < w.heap.size + 2)) _ (fun j hj => by
                have h1 := blk_lt HQ9.out.res
                have h2 := blk_lt kA9
                rcases hj with (hj | hj) | hj
                · have := HF.out j hj; omega
                · omega
                · omega) HQ9.out.rp.net).mono ?_
            rintro ev w8 ⟨v8, rfl, ⟨za, zn, zc, L9, rfl, hr9⟩, x8⟩
            have HQ10 := Lib.hid (HQ9.out.more x8)
            have k10 : w8.heap[w.heap.size]? = some (.cells #[.int .i64 E'.e, .int .i64 E'.win, .int .i64 E'.qn, .int .i64 E'.wait, .slice ea en ec, .int .u64 E'.first, .int .i64 E'.out, .int .i64 E'.ever, .int .u64 E'.want, .bool E'.owes, .int .i64 E'.age, .int .i64 e1, .int .i64 y1, .int .i64 q1, .int .i64 t1, .slice ma mn mc, .int .u64 f1, .int .i64 o1, .int .i64 v1, .int .u64 d1, .bool s1, .int .i64 x1, .slice ga gn gc, .slice ha hn hc, .int .i64 M.n, .int .i64 M.room, .slice ya yn yc] 35 (0, 0)) ∧ FrAt w8 b9 (off9 + k * 5) f := ⟨HQ10.out.box, k9.2.ext (x8.mono hb9)⟩
            have hb10 := Nat.lt_of_lt_of_le hb9 x8.size
            have kA10 := (x8.block _ (blk_lt kA9)).trans kA9
            have HN10 : Hid (RNet (fun k => (F k ∨ k = w7.heap.size) ∨ (w.heap.size ≤ k ∧ k < w.heap.size + 2)) w8 (.agg #[.int .i64 M2.n, .int .i64 M2.room, .slice za zn zc]) M2 (m + k + 1)) := Lib.hid ⟨za, zn, zc, L9, rfl, hr9⟩
            dsimp only
            (try (simp only [Act.put, List.setIfInBounds_toArray, List.set]))
            refine xtv 11 (h := ?_)
            refine xtv 12 (h := ?_)
            refine xtv 13 (h := ?_)
            refine xone 15 (hk := k10) (h := RunX.of 15 (h := ?_))
            refine wp_st 33 (.tmp 10) (.tmp 54) ?_ (w7.heap.size) 0 33 #[.int .i64 0, .int .i64 0, .slice none 0 0] #[.int .i64 M2.n, .int .i64 M2.room, .slice za zn zc] #[.int .i64 M2.n, .int .i64 M2.room, .slice za zn zc] ?_ ?_ kA10 (by kernel_rfl) (by simp) rfl rfl ?_
            · exact rfl
            · exact rfl
            · exact rfl
            intro WB hbB hoB
            dsimp only
            (try simp only [Act.put])
            have HQB := Lib.hid (HQ10.out.back hoB hgA)
            have HNB : Hid (RNet (fun k => F k ∨ (w.heap.size ≤ k ∧ k < w.heap.size + 2)) WB (.agg #[.int .i64 M2.n, .int .i64 M2.room, .slice za zn zc]) M2 (m + k + 1)) := Lib.hid (HN10.out.off (hoB.mono fun j hj => .inl (.inr hj)) (grows_back _))
            have kB : WB.heap[w.heap.size]? = some (.cells #[.int .i64 E'.e, .int .i64 E'.win, .int .i64 E'.qn, .int .i64 E'.wait, .slice ea en ec, .int .u64 E'.first, .int .i64 E'.out, .int .i64 E'.ever, .int .u64 E'.want, .bool E'.owes, .int .i64 E'.age, .int .i64 e1, .int .i64 y1, .int .i64 q1, .int .i64 t1, .slice ma mn mc, .int .u64 f1, .int .i64 o1, .int .i64 v1, .int .u64 d1, .bool s1, .int .i64 x1, .slice ga gn gc, .slice ha hn hc, .int .i64 M.n, .int .i64 M.room, .slice ya yn yc] 35 (0, 0)) ∧ FrAt WB b9 (off9 + k * 5) f := ⟨HQB.out.box, by
                obtain ⟨b0, off0, ho0, _, _, _, hfr0⟩ := Sl.frs_some (ao := some ⟨b9, off9, none⟩) (n := FR.length) (c := fc) HQB.out.fr.1 (by omega)
                simp only [Option.some.injEq, Addr.mk.injEq, and_true] at ho0
                obtain ⟨rfl, rfl⟩ := ho0
                have h0 := hfr0 k hlt
                rwa [HFE.out] at h0⟩
            refine xtv 16 (h := ?_)
            (refine xdone (by kernel_rfl) (kB) ?_)
            obtain ⟨t0', t1', t2'⟩ := (cells3 hbB).1
            go_wp2_with (first | refine haltst (x := .tmp 57) 33 ?_)
            refine .inl ?_
            refine st_l 33 (.tmp 57) (.tmp 56) (w.heap.size) 24 35 #[.int .i64 E'.e, .int .i64 E'.win, .int .i64 E'.qn, .int .i64 E'.wait, .slice ea en ec, .int .u64 E'.first, .int .i64 E'.out, .int .i64 E'.ever, .int .u64 E'.want, .bool E'.owes, .int .i64 E'.age, .int .i64 e1, .int .i64 y1, .int .i64 q1, .int .i64 t1, .slice ma mn mc, .int .u64 f1, .int .i64 o1, .int .i64 v1, .int .u64 d1, .bool s1, .int .i64 x1, .slice ga gn gc, .slice ha hn hc, .int .i64 M.n, .int .i64 M.room, .slice ya yn yc] #[.int .i64 M2.n, .int .i64 M2.room, .slice za zn zc] #[.int .i64 E'.e, .int .i64 E'.win, .int .i64 E'.qn, .int .i64 E'.wait, .slice ea en ec, .int .u64 E'.first, .int .i64 E'.out, .int .i64 E'.ever, .int .u64 E'.want, .bool E'.owes, .int .i64 E'.age, .int .i64 e1, .int .i64 y1, .int .i64 q1, .int .i64 t1, .slice ma mn mc, .int .u64 f1, .int .i64 o1, .int .i64 v1, .int .u64 d1, .bool s1, .int .i64 x1, .slice ga gn gc, .slice ha hn hc, .int .i64 M2.n, .int .i64 M2.room, .slice za zn zc] rfl rfl (kB.1) (by kernel_rfl) (by simp) rfl rfl ?_
            intro W9 hb9' ho9
            have HQZ : Hid (GoQ F w W9 ⟨E', ⟨e1, y1, q1, t1, L1, f1, o1, v1, d1, s1, x1⟩, G0, G1, M2⟩ ⟨ea, en, ec⟩ ⟨ma, mn, mc⟩ ⟨ga, gn, gc⟩ ⟨ha, hn, hc⟩ ⟨za, zn, zc⟩ (m + k + 1) (.slice (some ⟨b9, off9, none⟩) FR.length fc) FR) := Lib.hid ⟨hb9', ho9.blk HQB.out.res (by omega), (HQB.out.rp.putN (x := ⟨za, zn, zc⟩) HNB.out (Nat.le_succ _)).stay ho9 (by omega), HQB.out.fr.off (ho9.mono fun j hj => .inr (by omega)) (Grows.refl _ _), ext_off HQB.out.ext ho9 (fun j hj => by omega)⟩
            clear hb9' ho9 kB HNB HQB hbB hoB t0' t1' t2'
            cases Y
            · go_wp2
              exact ⟨⟨k + 1, za, zn, zc, hlt, by go_num, by rw [HSK.out.2]; rfl, by rw [HSK.out.1]; exact HQZ⟩, by simp [intOf]; omega⟩
            · go_wp2
              exact ⟨⟨k + 1, za, zn, zc, hlt, by go_num, by rw [HSK.out.2]; rfl, by rw [HSK.out.1]; exact HQZ⟩, by simp [intOf]; omega⟩
        · skip
          go_simp
          (try (simp only [Act.put, List.setIfInBounds_toArray, List.set]))
          obtain ⟨wT, hw9⟩ : ∃ W, W = w1.alloc (.cells #[.int .i64 0, .int .i64 0, .slice none 0 0] 33) := ⟨_, rfl⟩
          have HQ8 : Hid (GoQ (fun k => F k ∨ k = w1.heap.size) w wT ⟨E', ⟨e1, y1, q1, t1, L1, f1, o1, v1, d1, s1, x1⟩, G0, G1, M⟩ ⟨ea, en, ec⟩ ⟨ma, mn, mc⟩ ⟨ga, gn, gc⟩ ⟨ha, hn, hc⟩ ⟨ya, yn, yc⟩ (m + k) (.slice (some ⟨b9, off9, none⟩) FR.length fc) FR) := Lib.hid (by rw [hw9]; exact HQ7.out.aside _)
          have k8 : wT.heap[w.heap.size]? = some (.cells #[.int .i64 E'.e, .int .i64 E'.win, .int .i64 E'.qn, .int .i64 E'.wait, .slice ea en ec, .int .u64 E'.first, .int .i64 E'.out, .int .i64 E'.ever, .int .u64 E'.want, .bool E'.owes, .int .i64 E'.age, .int .i64 e1, .int .i64 y1, .int .i64 q1, .int .i64 t1, .slice ma mn mc, .int .u64 f1, .int .i64 o1, .int .i64 v1, .int .u64 d1, .bool s1, .int .i64 x1, .slice ga gn gc, .slice ha hn hc, .int .i64 M.n, .int .i64 M.room, .slice ya yn yc] 35 (0, 0)) ∧ FrAt wT b9 (off9 + k * 5) f := ⟨HQ8.out.box, by rw [hw9]; exact k7.2.ext (((Ext.refl w1).alloc _).mono hb7)⟩
          have hb8 : b9 < wT.heap.size := by rw [hw9, size_alloc]; omega
          have kA8 : wT.heap[w1.heap.size]? = some (.cells #[.int .i64 0, .int .i64 0, .slice none 0 0] 33 (0, 0)) := by rw [hw9]; exact get_alloc_new w1 _
          have hgA : w.heap.size + 2 ≤ w1.heap.size := by have := blk_lt HQ7.out.res; omega
          rw [← hw9]
          clear hw9
          refine xone 9 (hk := k8) (h := RunX.of 9 (h := ?_))
          go_simp
          refine (cP.out _).mono ?_
          rintro ev w7 ⟨rfl, x7⟩
          have HQ9 := Lib.hid (HQ8.out.more x7)
          have k9 : w7.heap[w.heap.size]? = some (.cells #[.int .i64 E'.e, .int .i64 E'.win, .int .i64 E'.qn, .int .i64 E'.wait, .slice ea en ec, .int .u64 E'.first, .int .i64 E'.out, .int .i64 E'.ever, .int .u64 E'.want, .bool E'.owes, .int .i64 E'.age, .int .i64 e1, .int .i64 y1, .int .i64 q1, .int .i64 t1, .slice ma mn mc, .int .u64 f1, .int .i64 o1, .int .i64 v1, .int .u64 d1, .bool s1, .int .i64 x1, .slice ga gn gc, .slice ha hn hc, .int .i64 M.n, .int .i64 M.room, .slice ya yn yc] 35 (0, 0)) ∧ FrAt w7 b9 (off9 + k * 5) f := ⟨HQ9.out.box, k8.2.ext (x7.mono hb8)⟩
          have hb9 := Nat.lt_of_lt_of_le hb8 x7.size
          have kA9 := (x7.block _ (blk_lt kA8)).trans kA8
          dsimp only
          (try (simp only [Act.put, List.setIfInBounds_toArray, List.set]))
          refine xone 10 (hk := k9) (h := RunX.of 10 (h := ?_))
          go_simp
          refine (HCS.out (fun k => (F k ∨ k = w1.heap.size) ∨ (w.heap.size ≤ k ∧ k < w.heap.size + 2)) _ (fun j hj => by
              have h1 := blk_lt HQ9.out.res
              have h2 := blk_lt kA9
              rcases hj with (hj | hj) | hj
              · have := HF.out j hj; omega
              · omega
              · omega) HQ9.out.rp.net).mono ?_
          rintro ev w8 ⟨v8, rfl, ⟨za, zn, zc, L9, rfl, hr9⟩, x8⟩
          have HQ10 := Lib.hid (HQ9.out.more x8)
          have k10 : w8.heap[w.heap.size]? = some (.cells #[.int .i64 E'.e, .int .i64 E'.win, .int .i64 E'.qn, .int .i64 E'.wait, .slice ea en ec, .int .u64 E'.first, .int .i64 E'.out, .int .i64 E'.ever, .int .u64 E'.want, .bool E'.owes, .int .i64 E'.age, .int .i64 e1, .int .i64 y1, .int .i64 q1, .int .i64 t1, .slice ma mn mc, .int .u64 f1, .int .i64 o1, .int .i64 v1, .int .u64 d1, .bool s1, .int .i64 x1, .slice ga gn gc, .slice ha hn hc, .int .i64 M.n, .int .i64 M.room, .slice ya yn yc] 35 (0, 0)) ∧ FrAt w8 b9 (off9 + k * 5) f := ⟨HQ10.out.box, k9.2.ext (x8.mono hb9)⟩
          have hb10 := Nat.lt_of_lt_of_le hb9 x8.size
          have kA10 := (x8.block _ (blk_lt kA9)).trans kA9
          have HN10 : Hid (RNet (fun k => (F k ∨ k = w1.heap.size) ∨ (w.heap.size ≤ k ∧ k < w.heap.size + 2)) w8 (.agg #[.int .i64 M2.n, .int .i64 M2.room, .slice za zn zc]) M2 (m + k + 1)) := Lib.hid ⟨za, zn, zc, L9, rfl, hr9⟩
          dsimp only
          (try (simp only [Act.put, List.setIfInBounds_toArray, List.set]))
          refine xtv 11 (h := ?_)
          refine xtv 12 (h := ?_)
          refine xtv 13 (h := ?_)
          refine xone 15 (hk := k10) (h := RunX.of 15 (h := ?_))
          refine wp_st 33 (.tmp 10) (.tmp 54) ?_ (w1.heap.size) 0 33 #[.int .i64 0, .int .i64 0, .slice none 0 0] #[.int .i64 M2.n, .int .i64 M2.room, .slice za zn zc] #[.int .i64 M2.n, .int .i64 M2.room, .slice za zn zc] ?_ ?_ kA10 (by kernel_rfl) (by simp) rfl rfl ?_
          · exact rfl
          · exact rfl
          · exact rfl
          intro WB hbB hoB
          dsimp only
          (try simp only [Act.put])
          have HQB := Lib.hid (HQ10.out.back hoB hgA)
          have HNB : Hid (RNet (fun k => F k ∨ (w.heap.size ≤ k ∧ k < w.heap.size + 2)) WB (.agg #[.int .i64 M2.n, .int .i64 M2.room, .slice za zn zc]) M2 (m + k + 1)) := Lib.hid (HN10.out.off (hoB.mono fun j hj => .inl (.inr hj)) (grows_back _))
          have kB : WB.heap[w.heap.size]? = some (.cells #[.int .i64 E'.e, .int .i64 E'.win, .int .i64 E'.qn, .int .i64 E'.wait, .slice ea en ec, .int .u64 E'.first, .int .i64 E'.out, .int .i64 E'.ever, .int .u64 E'.want, .bool E'.owes, .int .i64 E'.age, .int .i64 e1, .int .i64 y1, .int .i64 q1, .int .i64 t1, .slice ma mn mc, .int .u64 f1, .int .i64 o1, .int .i64 v1, .int .u64 d1, .bool s1, .int .i64 x1, .slice ga gn gc, .slice ha hn hc, .int .i64 M.n, .int .i64 M.room, .slice ya yn yc] 35 (0, 0)) ∧ FrAt WB b9 (off9 + k * 5) f := ⟨HQB.out.box, by
              obtain ⟨b0, off0, ho0, _, _, _, hfr0⟩ := Sl.frs_some (ao := some ⟨b9, off9, none⟩) (n := FR.length) (c := fc) HQB.out.fr.1 (by omega)
              simp only [Option.some.injEq, Addr.mk.injEq, and_true] at ho0
              obtain ⟨rfl, rfl⟩ := ho0
              have h0 := hfr0 k hlt
              rwa [HFE.out] at h0⟩
          refine xtv 16 (h := ?_)
          (refine xdone (by kernel_rfl) (kB) ?_)
          obtain ⟨t0', t1', t2'⟩ := (cells3 hbB).1
          go_wp2_with (first | refine haltst (x := .tmp 57) 33 ?_)
          refine .inl ?_
          refine st_l 33 (.tmp 57) (.tmp 56) (w.heap.size) 24 35 #[.int .i64 E'.e, .int .i64 E'.win, .int .i64 E'.qn, .int .i64 E'.wait, .slice ea en ec, .int .u64 E'.first, .int .i64 E'.out, .int .i64 E'.ever, .int .u64 E'.want, .bool E'.owes, .int .i64 E'.age, .int .i64 e1, .int .i64 y1, .int .i64 q1, .int .i64 t1, .slice ma mn mc, .int .u64 f1, .int .i64 o1, .int .i64 v1, .int .u64 d1, .bool s1, .int .i64 x1, .slice ga gn gc, .slice ha hn hc, .int .i64 M.n, .int .i64 M.room, .slice ya yn yc] #[.int .i64 M2.n, .int .i64 M2.room, .slice za zn zc] #[.int .i64 E'.e, .int .i64 E'.win, .int .i64 E'.qn, .int .i64 E'.wait, .slice ea en ec, .int .u64 E'.first, .int .i64 E'.out, .int .i64 E'.ever, .int .u64 E'.want, .bool E'.owes, .int .i64 E'.age, .int .i64 e1, .int .i64 y1, .int .i64 q1, .int .i64 t1, .slice ma mn mc, .int .u64 f1, .int .i64 o1, .int .i64 v1, .int .u64 d1, .bool s1, .int .i64 x1, .slice ga gn gc, .slice ha hn hc, .int .i64 M2.n, .int .i64 M2.room, .slice za zn zc] rfl rfl (kB.1) (by kernel_rfl) (by simp) rfl rfl ?_
          intro W9 hb9' ho9
          have HQZ : Hid (GoQ F w W9 ⟨E', ⟨e1, y1, q1, t1, L1, f1, o1, v1, d1, s1, x1⟩, G0, G1, M2⟩ ⟨ea, en, ec⟩ ⟨ma, mn, mc⟩ ⟨ga, gn, gc⟩ ⟨ha, hn, hc⟩ ⟨za, zn, zc⟩ (m + k + 1) (.slice (some ⟨b9, off9, none⟩) FR.length fc) FR) := Lib.hid ⟨hb9', ho9.blk HQB.out.res (by omega), (HQB.out.rp.putN (x := ⟨za, zn, zc⟩) HNB.out (Nat.le_succ _)).stay ho9 (by omega), HQB.out.fr.off (ho9.mono fun j hj => .inr (by omega)) (Grows.refl _ _), ext_off HQB.out.ext ho9 (fun j hj => by omega)⟩
          clear hb9' ho9 kB HNB HQB hbB hoB t0' t1' t2'
          cases Y
          · go_wp2
            exact ⟨⟨k + 1, za, zn, zc, hlt, by go_num, by rw [HSK.out.2]; rfl, by rw [HSK.out.1]; exact HQZ⟩, by simp [intOf]; omega⟩
          · go_wp2
            exact ⟨⟨k + 1, za, zn, zc, hlt, by go_num, by rw [HSK.out.2]; rfl, by rw [HSK.out.1]; exact HQZ⟩, by simp [intOf]; omega⟩
    · have hke : k = FR.length := by omega
      subst hke
      have kq : wr.heap[w.heap.size]? = some (.cells #[.int .i64 E'.e, .int .i64 E'.win, .int .i64 E'.qn, .int .i64 E'.wait, .slice ea en ec, .int .u64 E'.first, .int .i64 E'.out, .int .i64 E'.ever, .int .u64 E'.want, .bool E'.owes, .int .i64 E'.age, .int .i64 e1, .int .i64 y1, .int .i64 q1, .int .i64 t1, .slice ma mn mc, .int .u64 f1, .int .i64 o1, .int .i64 v1, .int .u64 d1, .bool s1, .int .i64 x1, .slice ga gn gc, .slice ha hn hc, .int .i64 ((GS FR.length).n : Int), .int .i64 ((GS FR.length).room : Int), .slice ya yn yc] 35 (0, 0)) ∧ wr.heap[w.heap.size + 1]? = some (.cells #[.int .i64 0, .int .i64 0, .int .i64 0, .int .i64 0, .slice none 0 0, .int .u64 0, .int .i64 0, .int .i64 0, .int .u64 0, .bool false, .int .i64 0, .int .i64 0, .int .i64 0, .int .i64 0, .int .i64 0, .slice none 0 0, .int .u64 0, .int .i64 0, .int .i64 0, .int .u64 0, .bool false, .int .i64 0, .slice none 0 0, .slice none 0 0, .int .i64 0, .int .i64 0, .slice none 0 0] 35 (0, 0)) := ⟨HQ.out.box, HQ.out.res⟩
      have hlt2 : ¬ (FR.length : Int) < (FR.length : Int) := by omega
      go_wp2_with (first | refine haltst 35 ?_ | refine haltld 35 ?_)
      refine .inl ?_
      refine ld_l 35 (.tmp 2) (w.heap.size) 35 #[.int .i64 E'.e, .int .i64 E'.win, .int .i64 E'.qn, .int .i64 E'.wait, .slice ea en ec, .int .u64 E'.first, .int .i64 E'.out, .int .i64 E'.ever, .int .u64 E'.want, .bool E'.owes, .int .i64 E'.age, .int .i64 e1, .int .i64 y1, .int .i64 q1, .int .i64 t1, .slice ma mn mc, .int .u64 f1, .int .i64 o1, .int .i64 v1, .int .u64 d1, .bool s1, .int .i64 x1, .slice ga gn gc, .slice ha hn hc, .int .i64 ((GS FR.length).n : Int), .int .i64 ((GS FR.length).room : Int), .slice ya yn yc] rfl (kq.1) uPipe (by kernel_rfl) ?_
      go_wp2_with (first | refine haltst 35 ?_ | refine haltld 35 ?_)
      refine .inl ?_
      refine st_l 35 (.tmp 4) (.tmp 61) (w.heap.size + 1) 0 35 #[.int .i64 0, .int .i64 0, .int .i64 0, .int .i64 0, .slice none 0 0, .int .u64 0, .int .i64 0, .int .i64 0, .int .u64 0, .bool false, .int .i64 0, .int .i64 0, .int .i64 0, .int .i64 0, .int .i64 0, .slice none 0 0, .int .u64 0, .int .i64 0, .int .i64 0, .int .u64 0, .bool false, .int .i64 0, .slice none 0 0, .slice none 0 0, .int .i64 0, .int .i64 0, .slice none 0 0] #[.int .i64 E'.e, .int .i64 E'.win, .int .i64 E'.qn, .int .i64 E'.wait, .slice ea en ec, .int .u64 E'.first, .int .i64 E'.out, .int .i64 E'.ever, .int .u64 E'.want, .bool E'.owes, .int .i64 E'.age, .int .i64 e1, .int .i64 y1, .int .i64 q1, .int .i64 t1, .slice ma mn mc, .int .u64 f1, .int .i64 o1, .int .i64 v1, .int .u64 d1, .bool s1, .int .i64 x1, .slice ga gn gc, .slice ha hn hc, .int .i64 ((GS FR.length).n : Int), .int .i64 ((GS FR.length).room : Int), .slice ya yn yc] #[.int .i64 E'.e, .int .i64 E'.win, .int .i64 E'.qn, .int .i64 E'.wait, .slice ea en ec, .int .u64 E'.first, .int .i64 E'.out, .int .i64 E'.ever, .int .u64 E'.want, .bool E'.owes, .int .i64 E'.age, .int .i64 e1, .int .i64 y1, .int .i64 q1, .int .i64 t1, .slice ma mn mc, .int .u64 f1, .int .i64 o1, .int .i64 v1, .int .u64 d1, .bool s1, .int .i64 x1, .slice ga gn gc, .slice ha hn hc, .int .i64 ((GS FR.length).n : Int), .int .i64 ((GS FR.length).room : Int), .slice ya yn yc] rfl rfl (kq.2) (by kernel_rfl) (by simp) rfl rfl ?_
      intro W9 hb9 ho9
      go_wp2
      exact bodyPost_ret (v := .tuple #[.agg #[.int .i64 E'.e, .int .i64 E'.win, .int .i64 E'.qn, .int .i64 E'.wait, .slice ea en ec, .int .u64 E'.first, .int .i64 E'.out, .int .i64 E'.ever, .int .u64 E'.want, .bool E'.owes, .int .i64 E'.age, .int .i64 e1, .int .i64 y1, .int .i64 q1, .int .i64 t1, .slice ma mn mc, .int .u64 f1, .int .i64 o1, .int .i64 v1, .int .u64 d1, .bool s1, .int .i64 x1, .slice ga gn gc, .slice ha hn hc, .int .i64 ((GS FR.length).n : Int), .int .i64 ((GS FR.length).room : Int), .slice ya yn yc], .int .i64 ((GN FR.length : Nat) : Int)]) (res_ct 5 rfl rfl hb9 uPipe (by kernel_rfl)) rfl ⟨_, rfl, ((HQ.out.rp.drop ho9 (by omega)).more (by omega)).to, ext_off HQ.out.ext ho9 (fun j hj => by omega)⟩

set_option maxRecDepth 50000 in
set_option maxHeartbeats 12800000 in
theorem rGo1 (F : Nat → Prop) (w : World) (hF : ∀ k, F k → k < w.heap.size) (P : PipeS) (l0 l1 g0 g1 ws : SV) (m : Nat) (ok : P.Ok) (h : RP F w P l0 l1 g0 g1 ws m) (hm : m ≤ 4000) :
    Calls Tryz.prog 11 #[.agg (pcs P l0 l1 g0 g1 ws), .int .i64 1] w fun ev w' => ∃ v', ev = .returned (.tuple #[v', .int .i64 (P.goN 1 : Nat)]) ∧ RPipe F w' v' (P.go 1) (m + 8) ∧ Ext w w' := by
  have okN := ok.net
  have H := Lib.hid h
  have HF := Lib.hid hF
  have okE := ok.e1
  obtain ⟨⟨e0, y0, q0, t0, L0, f0, o0, v0, d0, s0, x0⟩, ⟨e1, y1, q1, t1, L1, f1, o1, v1, d1, s1, x1⟩, G0, G1, N⟩ := P
  obtain ⟨la, ln, lc⟩ := l0
  obtain ⟨ma, mn, mc⟩ := l1
  obtain ⟨ga, gn, gc⟩ := g0
  obtain ⟨ha, hn, hc⟩ := g1
  obtain ⟨wa, wn, wc⟩ := ws
  dsimp only at okE
  have HR := Lib.hid (fun (W : World) (x : Ext w W) => H.out.boxes (n := 2) x)
  have HS := Lib.hid (fun (W : World) (x : Ext w W) => (HR.out W x).s1)
  have cE := fun W => rEnd_any W ⟨⟨e0, y0, q0, t0, L0, f0, o0, v0, d0, s0, x0⟩, ⟨e1, y1, q1, t1, L1, f1, o1, v1, d1, s1, x1⟩, G0, G1, N⟩ ⟨la, ln, lc⟩ ⟨ma, mn, mc⟩ ⟨ga, gn, gc⟩ ⟨ha, hn, hc⟩ ⟨wa, wn, wc⟩ 1 (by decide)
  unfold pcs rCells PipeS.end' at cE
  dsimp only [SV.v] at cE
  rw [if_neg (by decide), if_neg (by decide)] at cE
  have HE := Lib.hid cE
  have cW := fun (W : World) (E : EndS) (l : SV) => rWith1 W ⟨⟨e0, y0, q0, t0, L0, f0, o0, v0, d0, s0, x0⟩, ⟨e1, y1, q1, t1, L1, f1, o1, v1, d1, s1, x1⟩, G0, G1, N⟩ ⟨la, ln, lc⟩ ⟨ma, mn, mc⟩ ⟨ga, gn, gc⟩ ⟨ha, hn, hc⟩ ⟨wa, wn, wc⟩ E l
  unfold pcs rCells at cW
  dsimp only [SV.v] at cW
  have HWI := Lib.hid cW
  have HG : Hid (∀ (W : World), w.heap.size + 2 ≤ W.heap.size → ∀ k, (fun k => F k ∨ (w.heap.size ≤ k ∧ k < w.heap.size + 2)) k → k < W.heap.size) := Lib.hid (fun W hW k hk => by
    rcases hk with hk | hk
    · have := HF.out k hk; omega
    · omega)
  unfold pcs
  dsimp only [SV.v]
  clear h hF ok cE cW
  dsimp only at okN
  show Calls _ _ _ _ (fun ev w' => ∃ v', ev = .returned (.tuple #[v', .int .i64 (((goes N 1 (1 - 1) (EndS.frames ⟨e1, y1, q1, t1, L1, f1, o1, v1, d1, s1, x1⟩)).2 : Nat) : Int)]) ∧ RPipe F w' v' (⟨⟨e0, y0, q0, t0, L0, f0, o0, v0, d0, s0, x0⟩, EndS.outS ⟨e1, y1, q1, t1, L1, f1, o1, v1, d1, s1, x1⟩, G0, G1, (goes N 1 (1 - 1) (EndS.frames ⟨e1, y1, q1, t1, L1, f1, o1, v1, d1, s1, x1⟩)).1⟩ : PipeS) (m + 8) ∧ Ext w w')
  have hlen := EndS.frames_le okE
  have hfit := FitO.frames okE
  have cO := fun (G : Nat → Prop) (W : World) hW (v : Value) hv => refOut_any G W hW v ⟨e1, y1, q1, t1, L1, f1, o1, v1, d1, s1, x1⟩ okE hv
  obtain ⟨E', hE'⟩ : ∃ E', E' = EndS.outS ⟨e1, y1, q1, t1, L1, f1, o1, v1, d1, s1, x1⟩ := ⟨_, rfl⟩
  obtain ⟨FR, hFR⟩ : ∃ FR, FR = EndS.frames ⟨e1, y1, q1, t1, L1, f1, o1, v1, d1, s1, x1⟩ := ⟨_, rfl⟩
  rw [← hE', ← hFR] at cO
  rw [← hE', ← hFR]
  rw [← hFR] at hlen hfit
  have hR0 : gS N 1 FR FR.length = (goes N 1 (1 - 1) FR).1 := by unfold gS; rw [List.take_length]
  have hR1 : gN N 1 FR FR.length = (goes N 1 (1 - 1) FR).2 := by unfold gN; rw [List.take_length]
  rw [← hR0, ← hR1]
  have HO := Lib.hid cO
  have HFIT := Lib.hid hfit
  have HOK : Hid (∀ k, (gS N 1 FR k).Ok) := Lib.hid (fun k => goes_ok _ _ _ okN)
  have HNX : Hid (∀ k, k < FR.length → gS N 1 FR (k + 1) = sendF (gS N 1 FR k) 1 (1 - 1) (FR.getD k Fr.zero) ∧ gN N 1 FR (k + 1) = gN N 1 FR k + wentF (gS N 1 FR k) 1 (1 - 1) (FR.getD k Fr.zero)) := Lib.hid (fun k hk => g_next N 1 FR k hk)
  have HNL : Hid (∀ k, gN N 1 FR k ≤ FR.length) := Lib.hid (gN_le N 1 FR)
  have HN0 : Hid (gS N 1 FR 0 = N ∧ gN N 1 FR 0 = 0) := Lib.hid ⟨rfl, rfl⟩
  obtain ⟨GS, hGS⟩ : ∃ GS, GS = gS N 1 FR := ⟨_, rfl⟩
  obtain ⟨GN, hGN⟩ : ∃ GN, GN = gN N 1 FR := ⟨_, rfl⟩
  rw [← hGS] at HOK HNX HN0
  rw [← hGN] at HNX HNL HN0
  rw [← hGS, ← hGN]
  clear cO hE' hFR okE okN hfit hR0 hR1 hGS hGN
  go_enter Tryz.func11, Tryz.ntmps11
  go_wp2_with (first | refine haltst 35 ?_ | refine haltld 35 ?_)
  refine .inl ?_
  refine ld_l 35 (.tmp 2) (w.heap.size) 35 #[.int .i64 e0, .int .i64 y0, .int .i64 q0, .int .i64 t0, .slice la ln lc, .int .u64 f0, .int .i64 o0, .int .i64 v0, .int .u64 d0, .bool s0, .int .i64 x0, .int .i64 e1, .int .i64 y1, .int .i64 q1, .int .i64 t1, .slice ma mn mc, .int .u64 f1, .int .i64 o1, .int .i64 v1, .int .u64 d1, .bool s1, .int .i64 x1, .slice ga gn gc, .slice ha hn hc, .int .i64 N.n, .int .i64 N.room, .slice wa wn wc] rfl (old1 (at0 w _) _) uPipe (by kernel_rfl) ?_
  go_wp2_with fail
  refine (HE.out _).mono ?_
  rintro ev w2 ⟨rfl, x2⟩
  have HX2 := Lib.hid (Ext.trans (Ext.alloc (Ext.alloc (Ext.refl w) _) _) x2)
  have k2 : w2.heap[w.heap.size]? = some (.cells #[.int .i64 e0, .int .i64 y0, .int .i64 q0, .int .i64 t0, .slice la ln lc, .int .u64 f0, .int .i64 o0, .int .i64 v0, .int .u64 d0, .bool s0, .int .i64 x0, .int .i64 e1, .int .i64 y1, .int .i64 q1, .int .i64 t1, .slice ma mn mc, .int .u64 f1, .int .i64 o1, .int .i64 v1, .int .u64 d1, .bool s1, .int .i64 x1, .slice ga gn gc, .slice ha hn hc, .int .i64 N.n, .int .i64 N.room, .slice wa wn wc] 35 (0, 0)) ∧ w2.heap[w.heap.size + 1]? = some (.cells #[.int .i64 0, .int .i64 0, .int .i64 0, .int .i64 0, .slice none 0 0, .int .u64 0, .int .i64 0, .int .i64 0, .int .u64 0, .bool false, .int .i64 0, .int .i64 0, .int .i64 0, .int .i64 0, .int .i64 0, .slice none 0 0, .int .u64 0, .int .i64 0, .int .i64 0, .int .u64 0, .bool false, .int .i64 0, .slice none 0 0, .slice none 0 0, .int .i64 0, .int .i64 0, .slice none 0 0] 35 (0, 0)) := ⟨(x2.block _ (by rw [size_alloc, size_alloc]; omega)).trans (old1 (at0 w _) _), (x2.block _ (by rw [size_alloc, size_alloc]; omega)).trans (at1 w _ _)⟩
  have hsz2 : w.heap.size + 2 ≤ w2.heap.size := by have := x2.size; rw [size_alloc, size_alloc] at this; exact this
  clear x2
  go_wp2_with fail
  refine (HO.out (fun k => F k ∨ (w.heap.size ≤ k ∧ k < w.heap.size + 2)) _ (HG.out _ hsz2) _ ⟨_, _, _, rfl, HS.out _ HX2.out⟩).mono ?_
  rintro ev w3 ⟨v3, ao, fn, fc, rfl, ⟨ea, en, ec, rfl, hs3⟩, hfr, x3⟩
  obtain ⟨ao', fc', hv⟩ := hfr.1.len
  simp only [Value.slice.injEq] at hv
  obtain ⟨rfl, rfl, rfl⟩ := hv
  have HX3 := Lib.hid (Ext.trans HX2.out x3)
  have k3 := And.intro ((x3.block _ (blk_lt k2.1)).trans k2.1) ((x3.block _ (blk_lt k2.2)).trans k2.2)
  have HS3 := Lib.hid hs3
  have HFR3 := Lib.hid hfr
  unfold rCells
  clear k2 x3 hs3 hfr
  dsimp only
  go_wp2_with (first | refine haltst 35 ?_ | refine haltld 35 ?_)
  refine .inl ?_
  refine ld_l 35 (.tmp 2) (w.heap.size) 35 #[.int .i64 e0, .int .i64 y0, .int .i64 q0, .int .i64 t0, .slice la ln lc, .int .u64 f0, .int .i64 o0, .int .i64 v0, .int .u64 d0, .bool s0, .int .i64 x0, .int .i64 e1, .int .i64 y1, .int .i64 q1, .int .i64 t1, .slice ma mn mc, .int .u64 f1, .int .i64 o1, .int .i64 v1, .int .u64 d1, .bool s1, .int .i64 x1, .slice ga gn gc, .slice ha hn hc, .int .i64 N.n, .int .i64 N.room, .slice wa wn wc] rfl (old1 k3.1 _) uPipe (by kernel_rfl) ?_
  go_wp2_with fail
  refine (HWI.out _ E' ⟨ea, en, ec⟩).mono ?_
  rintro ev w4 ⟨rfl, x4⟩
  have x5 := Ext.trans (Ext.alloc (Ext.refl w3) _) x4
  have HX4 := Lib.hid (Ext.trans HX3.out x5)
  have k4 := And.intro ((x5.block _ (blk_lt k3.1)).trans k3.1) ((x5.block _ (blk_lt k3.2)).trans k3.2)
  have HS4 := Lib.hid (HS3.out.ext x5)
  have HFR4 := Lib.hid (HFR3.out.ext x5)
  clear k3 x4 x5
  dsimp only
  go_wp2_with (first | refine haltst 35 ?_ | refine haltld 35 ?_)
  refine .inl ?_
  refine st_l 35 (.tmp 2) (.tmp 29) (w.heap.size) 0 35 #[.int .i64 e0, .int .i64 y0, .int .i64 q0, .int .i64 t0, .slice la ln lc, .int .u64 f0, .int .i64 o0, .int .i64 v0, .int .u64 d0, .bool s0, .int .i64 x0, .int .i64 e1, .int .i64 y1, .int .i64 q1, .int .i64 t1, .slice ma mn mc, .int .u64 f1, .int .i64 o1, .int .i64 v1, .int .u64 d1, .bool s1, .int .i64 x1, .slice ga gn gc, .slice ha hn hc, .int .i64 N.n, .int .i64 N.room, .slice wa wn wc] #[.int .i64 e0, .int .i64 y0, .int .i64 q0, .int .i64 t0, .slice la ln lc, .int .u64 f0, .int .i64 o0, .int .i64 v0, .int .u64 d0, .bool s0, .int .i64 x0, .int .i64 E'.e, .int .i64 E'.win, .int .i64 E'.qn, .int .i64 E'.wait, .slice ea en ec, .int .u64 E'.first, .int .i64 E'.out, .int .i64 E'.ever, .int .u64 E'.want, .bool E'.owes, .int .i64 E'.age, .slice ga gn gc, .slice ha hn hc, .int .i64 N.n, .int .i64 N.room, .slice wa wn wc] #[.int .i64 e0, .int .i64 y0, .int .i64 q0, .int .i64 t0, .slice la ln lc, .int .u64 f0, .int .i64 o0, .int .i64 v0, .int .u64 d0, .bool s0, .int .i64 x0, .int .i64 E'.e, .int .i64 E'.win, .int .i64 E'.qn, .int .i64 E'.wait, .slice ea en ec, .int .u64 E'.first, .int .i64 E'.out, .int .i64 E'.ever, .int .u64 E'.want, .bool E'.owes, .int .i64 E'.age, .slice ga gn gc, .slice ha hn hc, .int .i64 N.n, .int .i64 N.room, .slice wa wn wc] rfl rfl (k4.1) (by kernel_rfl) (by simp) rfl rfl ?_
  intro W5 hb5 ho5
  have HQ0 : Hid (GoQ F w W5 ⟨⟨e0, y0, q0, t0, L0, f0, o0, v0, d0, s0, x0⟩, E', G0, G1, N⟩ ⟨la, ln, lc⟩ ⟨ea, en, ec⟩ ⟨ga, gn, gc⟩ ⟨ha, hn, hc⟩ ⟨wa, wn, wc⟩ m (.slice ao FR.length fc) FR) := Lib.hid ⟨hb5, ho5.blk k4.2 (by omega), ((HR.out _ HX4.out).put1 (E := E') (l := ⟨ea, en, ec⟩) HS4.out).stay ho5 (by omega), HFR4.out.off (ho5.mono fun k hk => .inr (by omega)) (Grows.refl _ _), ext_off HX4.out ho5 (fun k hk => by omega)⟩
  clear k4 hb5 ho5 HS4 HFR4 HS3 HFR3 HX4 HX3 HX2 hsz2 HE HWI HS HR HO
  go_wp2
  go_loopw [8, 9] (fun a i wr => ∃ (k : Nat) (ya : Option Addr) (yn yc : Nat), k ≤ FR.length ∧ i = .int .i64 k ∧ a = .int .i64 ((GN k : Nat) : Int) ∧ Hid (GoQ F w wr ⟨⟨e0, y0, q0, t0, L0, f0, o0, v0, d0, s0, x0⟩, E', G0, G1, (GS k)⟩ ⟨la, ln, lc⟩ ⟨ea, en, ec⟩ ⟨ga, gn, gc⟩ ⟨ha, hn, hc⟩ ⟨ya, yn, yc⟩ (m + k) (.slice ao FR.length fc) FR)) (fun _ i _ => FR.length - (intOf i).toNat)
  case atStart => exact ⟨0, wa, wn, wc, Nat.zero_le _, rfl, by rw [HN0.out.2]; rfl, by rw [HN0.out.1]; exact HQ0⟩
  case round =>
    obtain ⟨k, ya, yn, yc, hk, rfl, rfl, HQ⟩ := hrel
    clear HQ0
    by_cases hlt : k < FR.length
    · have hn2 : IntKind.i64.wrap ((k : Int) + 1) = (k : Int) + 1 := wrapN _ (by omega) (by omega)
      have hN8 : GN k ≤ 8 := Nat.le_trans (HNL.out k) hlen
      have hm1 : IntKind.i64.wrap (((GN k : Nat) : Int) + 1) = ((GN k : Nat) : Int) + 1 := wrapN _ (by omega) (by omega)
      obtain ⟨b9, off9, hoa, _, hoc, hb9, hfr⟩ := Sl.frs_some (ao := ao) (n := FR.length) (c := fc) HQ.out.fr.1 (by omega)
      subst hoa
      have hfr2 := hfr k hlt
      have hfi := HFIT.out _ (show FR.getD k Fr.zero ∈ FR by simp [hlt])
      have hnx := HNX.out k hlt
      obtain ⟨f, hf⟩ : ∃ f, f = FR.getD k Fr.zero := ⟨_, rfl⟩
      rw [← hf] at hfr2 hfi hnx
      obtain ⟨M, hM⟩ : ∃ M, M = GS k := ⟨_, rfl⟩
      have okM : M.Ok := by rw [hM]; exact HOK.out k
      rw [← hM] at HQ hnx
      have cR := Lib.hid (fun W => (refRight_any W f.k f.e f.q f.a f.b : Calls _ _ _ _ (fun ev w' => ev = .returned (.bool (rightB f)) ∧ Ext W w')))
      have hfr3 := hfr2
      obtain ⟨r0, r1, r2, r3, r4⟩ := hfr2
      have hkc3 : (k : Int) ≤ (fc : Int) := by omega
      cases hr : rightB f
      · rw [hr] at cR
        have HSK := Lib.hid (show GS (k + 1) = M ∧ GN (k + 1) = GN k from by
          have e1 : sendF M 1 (1 - 1) f = M := by unfold sendF; rw [hr, if_neg (by decide)]
          have e2 : wentF M 1 (1 - 1) f = 0 := by unfold wentF; rw [hr, Bool.false_and, if_neg (by decide)]
          rw [e1, e2] at hnx
          exact hnx)
        clear hM hf hfr hfi hnx hr okM hoc hb9 hfr3
        go_wp2_with fail
        refine (cR.out _).mono ?_
        rintro ev w6 ⟨rfl, x6⟩
        have HQ6 := Lib.hid (HQ.out.more x6)
        clear x6 HQ
        go_wp2
        exact ⟨⟨k + 1, ya, yn, yc, hlt, by go_num, by rw [HSK.out.2], by rw [HSK.out.1]; exact Lib.hid (HQ6.out.up)⟩, by simp [intOf]; omega⟩
      · rw [hr] at cR
        have cP := Lib.hid (fun W => refPut_all W f hr hfi.2.1 hfi.1)
        obtain ⟨pb, hpb⟩ : ∃ pb, pb = putF f := ⟨_, rfl⟩
        have cS := fun (G : Nat → Prop) (W : World) hW (v : Value) hv => refSend_any G W hW v M (m + k) hv (by omega) okM 1 (1 - 1) pb
        obtain ⟨M2, hM2⟩ : ∃ M2, M2 = M.send 1 (1 - 1) pb := ⟨_, rfl⟩
        obtain ⟨Y, hY⟩ : ∃ Y, Y = M.may 1 (1 - 1) := ⟨_, rfl⟩
        have HFE := Lib.hid hf.symm
        have HSK := Lib.hid (show GS (k + 1) = M2 ∧ GN (k + 1) = GN k + (if Y = true then 1 else 0) from by
          have e1 : sendF M 1 (1 - 1) f = M2 := by unfold sendF; rw [hr, if_pos rfl, hM2, hpb]
          have e2 : wentF M 1 (1 - 1) f = if Y = true then 1 else 0 := by unfold wentF; rw [hr, Bool.true_and, hY]
          rw [e1, e2] at hnx
          exact hnx)
        rw [← hM2, ← hY] at cS
        rw [← hpb] at cP
        have HCS : Hid (∀ G W, (∀ j, G j → j < W.heap.size) → RNet G W (.agg #[.int .i64 M.n, .int .i64 M.room, .slice ya yn yc]) M (m + k) → Calls Tryz.prog 44 #[.agg #[.int .i64 M.n, .int .i64 M.room, .slice ya yn yc], .int .i64 1, .int .i64 0, .string pb] W (fun e w' => ∃ v', e = .returned (.tuple #[v', .bool Y]) ∧ RNet G w' v' M2 (m + k + 1) ∧ Ext W w')) := Lib.hid (fun G W hW hv => by simpa using cS G W hW _ hv)
        clear hM hf hfr hfi hnx hr okM hoc cS hM2 hY hpb
        go_wp2_with fail
        refine (cR.out _).mono ?_
        rintro ev w6 ⟨rfl, x6⟩
        have hq6 := HQ.out.more x6
        have hfr6 := hfr3.ext (x6.mono hb9)
        have hb6 : b9 < w6.heap.size := Nat.lt_of_lt_of_le hb9 x6.size
        clear hfr3 r0 r1 r2 r3 r4 x6 HQ hb9
        go_wp2_with fail
        (refine wp_region_X_lit (K := fun W => W.heap[w.heap.size]? = some (.cells #[.int .i64 e0, .int .i64 y0, .int .i64 q0, .int .i64 t0, .slice la ln lc, .int .u64 f0, .int .i64 o0, .int .i64 v0, .int .u64 d0, .bool s0, .int .i64 x0, .int .i64 E'.e, .int .i64 E'.win, .int .i64 E'.qn, .int .i64 E'.wait, .slice ea en ec, .int .u64 E'.first, .int .i64 E'.out, .int .i64 E'.ever, .int .u64 E'.want, .bool E'.owes, .int .i64 E'.age, .slice ga gn gc, .slice ha hn hc, .int .i64 M.n, .int .i64 M.room, .slice ya yn yc] 35 (0, 0)) ∧ FrAt W b9 (off9 + k * 5) f) (by kernel_rfl) (fun w1 hw1 => ?_))
        have hq7 := hq6.more hw1
        have k7 : w1.heap[w.heap.size]? = some (.cells #[.int .i64 e0, .int .i64 y0, .int .i64 q0, .int .i64 t0, .slice la ln lc, .int .u64 f0, .int .i64 o0, .int .i64 v0, .int .u64 d0, .bool s0, .int .i64 x0, .int .i64 E'.e, .int .i64 E'.win, .int .i64 E'.qn, .int .i64 E'.wait, .slice ea en ec, .int .u64 E'.first, .int .i64 E'.out, .int .i64 E'.ever, .int .u64 E'.want, .bool E'.owes, .int .i64 E'.age, .slice ga gn gc, .slice ha hn hc, .int .i64 M.n, .int .i64 M.room, .slice ya yn yc] 35 (0, 0)) ∧ FrAt w1 b9 (off9 + k * 5) f := ⟨hq7.box, hfr6.ext (hw1.mono hb6)⟩
        have hb7 := Nat.lt_of_lt_of_le hb6 hw1.size
        have HQ7 := Lib.hid hq7
        clear hw1 hq6 hq7 hfr6 hb6
        refine xtv 0 (h := ?_)
        refine xtv 1 (hv := by intro w' hw'; obtain ⟨⟨z0, z1, z2, z3, z4, z5, z6, z7, z8, z9, z10, z11, z12, z13, z14, z15, z16, z17, z18, z19, z20, z21, z22, z23, z24, z25, z26⟩, _⟩ := cells27 hw'.1; go_simp; first | done | with_reducible rfl) (h := ?_)
        refine xtv 2 (h := ?_)
        refine xtv 3 (h := ?_)
        refine xtv 4 (h := ?_)
        refine xtv 5 (h := ?_)
        refine xtv 6 (h := ?_)
        refine xtv 7 (h := ?_)
        refine xtv 8 (hv := by intro w' hw'; obtain ⟨r0, r1, r2, r3, r4⟩ := hw'.2; go_simp; first | done | with_reducible rfl) (h := ?_)
        refine xtwo 9 14 (hk := k7) (h := RunX.of 9 (h := ?_)) (h' := RunX.of 14 (h := ?_))
        · skip
          go_simp
          refine (cP.out _).mono ?_
          rintro ev w7 ⟨rfl, x7⟩
          have HQ8 := Lib.hid (HQ7.out.more x7)
          have k8 : w7.heap[w.heap.size]? = some (.cells #[.int .i64 e0, .int .i64 y0, .int .i64 q0, .int .i64 t0, .slice la ln lc, .int .u64 f0, .int .i64 o0, .int .i64 v0, .int .u64 d0, .bool s0, .int .i64 x0, .int .i64 E'.e, .int .i64 E'.win, .int .i64 E'.qn, .int .i64 E'.wait, .slice ea en ec, .int .u64 E'.first, .int .i64 E'.out, .int .i64 E'.ever, .int .u64 E'.want, .bool E'.owes, .int .i64 E'.age, .slice ga gn gc, .slice ha hn hc, .int .i64 M.n, .int .i64 M.room, .slice ya yn yc] 35 (0, 0)) ∧ FrAt w7 b9 (off9 + k * 5) f := ⟨HQ8.out.box, k7.2.ext (x7.mono hb7)⟩
          have hb8 := Nat.lt_of_lt_of_le hb7 x7.size
          dsimp only
          (try (simp only [Act.put, List.setIfInBounds_toArray, List.set]))
          refine xtwo 10 14 (hk := k8) (h := RunX.of 10 (h := ?_)) (h' := RunX.of 14 (h := ?_))
          · skip
            go_simp
            refine (HCS.out (fun k => F k ∨ (w.heap.size ≤ k ∧ k < w.heap.size + 2)) _ (HG.out _ (by have := blk_lt HQ8.out.res; omega)) HQ8.out.rp.net).mono ?_
            rintro ev w8 ⟨v8, rfl, ⟨za, zn, zc, L9, rfl, hr9⟩, x8⟩
            have HQ9 := Lib.hid (HQ8.out.more x8)
            have k9 : w8.heap[w.heap.size]? = some (.cells #[.int .i64 e0, .int .i64 y0, .int .i64 q0, .int .i64 t0, .slice la ln lc, .int .u64 f0, .int .i64 o0, .int .i64 v0, .int .u64 d0, .bool s0, .int .i64 x0, .int .i64 E'.e, .int .i64 E'.win, .int .i64 E'.qn, .int .i64 E'.wait, .slice ea en ec, .int .u64 E'.first, .int .i64 E'.out, .int .i64 E'.ever, .int .u64 E'.want, .bool E'.owes, .int .i64 E'.age, .slice ga gn gc, .slice ha hn hc, .int .i64 M.n, .int .i64 M.room, .slice ya yn yc] 35 (0, 0)) ∧ FrAt w8 b9 (off9 + k * 5) f := ⟨HQ9.out.box, k8.2.ext (x8.mono hb8)⟩
            have hb9 := Nat.lt_of_lt_of_le hb8 x8.size
            have HN9 : Hid (RNet (fun k => F k ∨ (w.heap.size ≤ k ∧ k < w.heap.size + 2)) w8 (.agg #[.int .i64 M2.n, .int .i64 M2.room, .slice za zn zc]) M2 (m + k + 1)) := Lib.hid ⟨za, zn, zc, L9, rfl, hr9⟩
            dsimp only
            (try (simp only [Act.put, List.setIfInBounds_toArray, List.set]))
            refine xtv 11 (h := ?_)
            refine xtv 12 (h := ?_)
            refine xtv 13 (h := ?_)
            refine xone 14 (hk := k9) (h := RunX.of 14 (h := ?_))
            go_simp
            (try (simp only [Act.put, List.setIfInBounds_toArray, List.set]))
            obtain ⟨wT, hw9⟩ : ∃ W, W = w8.alloc (.cells #[.int .i64 0, .int .i64 0, .slice none 0 0] 33) := ⟨_, rfl⟩
            have HQ10 : Hid (GoQ (fun k => F k ∨ k = w8.heap.size) w wT ⟨⟨e0, y0, q0, t0, L0, f0, o0, v0, d0, s0, x0⟩, E', G0, G1, M⟩ ⟨la, ln, lc⟩ ⟨ea, en, ec⟩ ⟨ga, gn, gc⟩ ⟨ha, hn, hc⟩ ⟨ya, yn, yc⟩ (m + k) (.slice (some ⟨b9, off9, none⟩) FR.length fc) FR) := Lib.hid (by rw [hw9]; exact HQ9.out.aside _)
            have k10 : wT.heap[w.heap.size]? = some (.cells #[.int .i64 e0, .int .i64 y0, .int .i64 q0, .int .i64 t0, .slice la ln lc, .int .u64 f0, .int .i64 o0, .int .i64 v0, .int .u64 d0, .bool s0, .int .i64 x0, .int .i64 E'.e, .int .i64 E'.win, .int .i64 E'.qn, .int .i64 E'.wait, .slice ea en ec, .int .u64 E'.first, .int .i64 E'.out, .int .i64 E'.ever, .int .u64 E'.want, .bool E'.owes, .int .i64 E'.age, .slice ga gn gc, .slice ha hn hc, .int .i64 M.n, .int .i64 M.room, .slice ya yn yc] 35 (0, 0)) ∧ FrAt wT b9 (off9 + k * 5) f := ⟨HQ10.out.box, by rw [hw9]; exact k9.2.ext (((Ext.refl w8).alloc _).mono hb9)⟩
            have hb10 : b9 < wT.heap.size := by rw [hw9, size_alloc]; omega
            have kA10 : wT.heap[w8.heap.size]? = some (.cells #[.int .i64 0, .int .i64 0, .slice none 0 0] 33 (0, 0)) := by rw [hw9]; exact get_alloc_new w8 _
            have hgA : w.heap.size + 2 ≤ w8.heap.size := by have := blk_lt HQ9.out.res; omega
            have HN10 : Hid (RNet (fun k => (F k ∨ k = w8.heap.size) ∨ (w.heap.size ≤ k ∧ k < w.heap.size + 2)) wT (.agg #[.int .i64 M2.n, .int .i64 M2.room, .slice za zn zc]) M2 (m + k + 1)) := Lib.hid (by rw [hw9]; exact net_aside HN9.out hgA _)
            rw [← hw9]
            clear hw9
            refine xone 15 (hk := k10) (h := RunX.of 15 (h := ?_))
            refine wp_st 33 (.tmp 10) (.tmp 54) ?_ (w8.heap.size) 0 33 #[.int .i64 0, .int .i64 0, .slice none 0 0] #[.int .i64 M2.n, .int .i64 M2.room, .slice za zn zc] #[.int .i64 M2.n, .int .i64 M2.room, .slice za zn zc] ?_ ?_ kA10 (by kernel_rfl) (by simp) rfl rfl ?_
            · exact rfl
            · exact rfl
            · exact rfl
            intro WB hbB hoB
            dsimp only
            (try simp only [Act.put])
            have HQB := Lib.hid (HQ10.out.back hoB hgA)
            have HNB : Hid (RNet (fun k => F k ∨ (w.heap.size ≤ k ∧ k < w.heap.size + 2)) WB (.agg #[.int .i64 M2.n, .int .i64 M2.room, .slice za zn zc]) M2 (m + k + 1)) := Lib.hid (HN10.out.off (hoB.mono fun j hj => .inl (.inr hj)) (grows_back _))
            have kB : WB.heap[w.heap.size]? = some (.cells #[.int .i64 e0, .int .i64 y0, .int .i64 q0, .int .i64 t0, .slice la ln lc, .int .u64 f0, .int .i64 o0, .int .i64 v0, .int .u64 d0, .bool s0, .int .i64 x0, .int .i64 E'.e, .int .i64 E'.win, .int .i64 E'.qn, .int .i64 E'.wait, .slice ea en ec, .int .u64 E'.first, .int .i64 E'.out, .int .i64 E'.ever, .int .u64 E'.want, .bool E'.owes, .int .i64 E'.age, .slice ga gn gc, .slice ha hn hc, .int .i64 M.n, .int .i64 M.room, .slice ya yn yc] 35 (0, 0)) ∧ FrAt WB b9 (off9 + k * 5) f := ⟨HQB.out.box, by
                obtain ⟨b0, off0, ho0, _, _, _, hfr0⟩ := Sl.frs_some (ao := some ⟨b9, off9, none⟩) (n := FR.length) (c := fc) HQB.out.fr.1 (by omega)
                simp only [Option.some.injEq, Addr.mk.injEq, and_true] at ho0
                obtain ⟨rfl, rfl⟩ := ho0
                have h0 := hfr0 k hlt
                rwa [HFE.out] at h0⟩
            refine xtv 16 (h := ?_)
            (refine xdone (by kernel_rfl) (kB) ?_)
            obtain ⟨t0', t1', t2'⟩ := (cells3 hbB).1
            go_wp2_with (first | refine haltst (x := .tmp 57) 33 ?_)
            refine .inl ?_
            refine st_l 33 (.tmp 57) (.tmp 56) (w.heap.size) 24 35 #[.int .i64 e0, .int .i64 y0, .int .i64 q0, .int .i64 t0, .slice la ln lc, .int .u64 f0, .int .i64 o0, .int .i64 v0, .int .u64 d0, .bool s0, .int .i64 x0, .int .i64 E'.e, .int .i64 E'.win, .int .i64 E'.qn, .int .i64 E'.wait, .slice ea en ec, .int .u64 E'.first, .int .i64 E'.out, .int .i64 E'.ever, .int .u64 E'.want, .bool E'.owes, .int .i64 E'.age, .slice ga gn gc, .slice ha hn hc, .int .i64 M.n, .int .i64 M.room, .slice ya yn yc] #[.int .i64 M2.n, .int .i64 M2.room, .slice za zn zc] #[.int .i64 e0, .int .i64 y0, .int .i64 q0, .int .i64 t0, .slice la ln lc, .int .u64 f0, .int .i64 o0, .int .i64 v0, .int .u64 d0, .bool s0, .int .i64 x0, .int .i64 E'.e, .int .i64 E'.win, .int .i64 E'.qn, .int .i64 E'.wait, .slice ea en ec, .int .u64 E'.first, .int .i64 E'.out, .int .i64 E'.ever, .int .u64 E'.want, .bool E'.owes, .int .i64 E'.age, .slice ga gn gc, .slice ha hn hc, .int .i64 M2.n, .int .i64 M2.room, .slice za zn zc] rfl rfl (kB.1) (by kernel_rfl) (by simp) rfl rfl ?_
            intro W9 hb9' ho9
            have HQZ : Hid (GoQ F w W9 ⟨⟨e0, y0, q0, t0, L0, f0, o0, v0, d0, s0, x0⟩, E', G0, G1, M2⟩ ⟨la, ln, lc⟩ ⟨ea, en, ec⟩ ⟨ga, gn, gc⟩ ⟨ha, hn, hc⟩ ⟨za, zn, zc⟩ (m + k + 1) (.slice (some ⟨b9, off9, none⟩) FR.length fc) FR) := Lib.hid ⟨hb9', ho9.blk HQB.out.res (by omega), (HQB.out.rp.putN (x := ⟨za, zn, zc⟩) HNB.out (Nat.le_succ _)).stay ho9 (by omega), HQB.out.fr.off (ho9.mono fun j hj => .inr (by omega)) (Grows.refl _ _), ext_off HQB.out.ext ho9 (fun j hj => by omega)⟩
            clear hb9' ho9 kB HNB HQB hbB hoB t0' t1' t2'
            cases Y
            · go_wp2
              exact ⟨⟨k + 1, za, zn, zc, hlt, by go_num, by rw [HSK.out.2]; rfl, by rw [HSK.out.1]; exact HQZ⟩, by simp [intOf]; omega⟩
            · go_wp2
              exact ⟨⟨k + 1, za, zn, zc, hlt, by go_num, by rw [HSK.out.2]; rfl, by rw [HSK.out.1]; exact HQZ⟩, by simp [intOf]; omega⟩
          · skip
            go_simp
            (try (simp only [Act.put, List.setIfInBounds_toArray, List.set]))
            obtain ⟨wT, hw9⟩ : ∃ W, W = w7.alloc (.cells #[.int .i64 0, .int .i64 0, .slice none 0 0] 33) := ⟨_, rfl⟩
            have HQ9 : Hid (GoQ (fun k => F k ∨ k = w7.heap.size) w wT ⟨⟨e0, y0, q0, t0, L0, f0, o0, v0, d0, s0, x0⟩, E', G0, G1, M⟩ ⟨la, ln, lc⟩ ⟨ea, en, ec⟩ ⟨ga, gn, gc⟩ ⟨ha, hn, hc⟩ ⟨ya, yn, yc⟩ (m + k) (.slice (some ⟨b9, off9, none⟩) FR.length fc) FR) := Lib.hid (by rw [hw9]; exact HQ8.out.aside _)
            have k9 : wT.heap[w.heap.size]? = some (.cells #[.int .i64 e0, .int .i64 y0, .int .i64 q0, .int .i64 t0, .slice la ln lc, .int .u64 f0, .int .i64 o0, .int .i64 v0, .int .u64 d0, .bool s0, .int .i64 x0, .int .i64 E'.e, .int .i64 E'.win, .int .i64 E'.qn, .int .i64 E'.wait, .slice ea en ec, .int .u64 E'.first, .int .i64 E'.out, .int .i64 E'.ever, .int .u64 E'.want, .bool E'.owes, .int .i64 E'.age, .slice ga gn gc, .slice ha hn hc, .int .i64 M.n, .int .i64 M.room, .slice ya yn yc] 35 (0, 0)) ∧ FrAt wT b9 (off9 + k * 5) f := ⟨HQ9.out.box, by rw [hw9]; exact k8.2.ext (((Ext.refl w7).alloc _).mono hb8)⟩
            have hb9 : b9 < wT.heap.size := by rw [hw9, size_alloc]; omega
            have kA9 : wT.heap[w7.heap.size]? = some (.cells #[.int .i64 0, .int .i64 0, .slice none 0 0] 33 (0, 0)) := by rw [hw9]; exact get_alloc_new w7 _
            have hgA : w.heap.size + 2 ≤ w7.heap.size := by have := blk_lt HQ8.out.res; omega
            rw [← hw9]
            clear hw9
            refine xone 10 (hk := k9) (h := RunX.of 10 (h := ?_))
            go_simp
            refine (HCS.out (fun k => (F k ∨ k = w7.heap.size) ∨ (w.heap.size ≤ k ∧ k < w.heap.size + 2)) _ (fun j hj => by
                have h1 := blk_lt HQ9.out.res
                have h2 := blk_lt kA9
                rcases hj with (hj | hj) | hj
                · have := HF.out j hj; omega
                · omega
                · omega) HQ9.out.rp.net).mono ?_
            rintro ev w8 ⟨v8, rfl, ⟨za, zn, zc, L9, rfl, hr9⟩, x8⟩
            have HQ10 := Lib.hid (HQ9.out.more x8)
            have k10 : w8.heap[w.heap.size]? = some (.cells #[.int .i64 e0, .int .i64 y0, .int .i64 q0, .int .i64 t0, .slice la ln lc, .int .u64 f0, .int .i64 o0, .int .i64 v0, .int .u64 d0, .bool s0, .int .i64 x0, .int .i64 E'.e, .int .i64 E'.win, .int .i64 E'.qn, .int .i64 E'.wait, .slice ea en ec, .int .u64 E'.first, .int .i64 E'.out, .int .i64 E'.ever, .int .u64 E'.want, .bool E'.owes, .int .i64 E'.age, .slice ga gn gc, .slice ha hn hc, .int .i64 M.n, .int .i64 M.room, .slice ya yn yc] 35 (0, 0)) ∧ FrAt w8 b9 (off9 + k * 5) f := ⟨HQ10.out.box, k9.2.ext (x8.mono hb9)⟩
            have hb10 := Nat.lt_of_lt_of_le hb9 x8.size
            have kA10 := (x8.block _ (blk_lt kA9)).trans kA9
            have HN10 : Hid (RNet (fun k => (F k ∨ k = w7.heap.size) ∨ (w.heap.size ≤ k ∧ k < w.heap.size + 2)) w8 (.agg #[.int .i64 M2.n, .int .i64 M2.room, .slice za zn zc]) M2 (m + k + 1)) := Lib.hid ⟨za, zn, zc, L9, rfl, hr9⟩
            dsimp only
            (try (simp only [Act.put, List.setIfInBounds_toArray, List.set]))
            refine xtv 11 (h := ?_)
            refine xtv 12 (h := ?_)
            refine xtv 13 (h := ?_)
            refine xone 15 (hk := k10) (h := RunX.of 15 (h := ?_))
            refine wp_st 33 (.tmp 10) (.tmp 54) ?_ (w7.heap.size) 0 33 #[.int .i64 0, .int .i64 0, .slice none 0 0] #[.int .i64 M2.n, .int .i64 M2.room, .slice za zn zc] #[.int .i64 M2.n, .int .i64 M2.room, .slice za zn zc] ?_ ?_ kA10 (by kernel_rfl) (by simp) rfl rfl ?_
            · exact rfl
            · exact rfl
            · exact rfl
            intro WB hbB hoB
            dsimp only
            (try simp only [Act.put])
            have HQB := Lib.hid (HQ10.out.back hoB hgA)
            have HNB : Hid (RNet (fun k => F k ∨ (w.heap.size ≤ k ∧ k < w.heap.size + 2)) WB (.agg #[.int .i64 M2.n, .int .i64 M2.room, .slice za zn zc]) M2 (m + k + 1)) := Lib.hid (HN10.out.off (hoB.mono fun j hj => .inl (.inr hj)) (grows_back _))
            have kB : WB.heap[w.heap.size]? = some (.cells #[.int .i64 e0, .int .i64 y0, .int .i64 q0, .int .i64 t0, .slice la ln lc, .int .u64 f0, .int .i64 o0, .int .i64 v0, .int .u64 d0, .bool s0, .int .i64 x0, .int .i64 E'.e, .int .i64 E'.win, .int .i64 E'.qn, .int .i64 E'.wait, .slice ea en ec, .int .u64 E'.first, .int .i64 E'.out, .int .i64 E'.ever, .int .u64 E'.want, .bool E'.owes, .int .i64 E'.age, .slice ga gn gc, .slice ha hn hc, .int .i64 M.n, .int .i64 M.room, .slice ya yn yc] 35 (0, 0)) ∧ FrAt WB b9 (off9 + k * 5) f := ⟨HQB.out.box, by
                obtain ⟨b0, off0, ho0, _, _, _, hfr0⟩ := Sl.frs_some (ao := some ⟨b9, off9, none⟩) (n := FR.length) (c := fc) HQB.out.fr.1 (by omega)
                simp only [Option.some.injEq, Addr.mk.injEq, and_true] at ho0
                obtain ⟨rfl, rfl⟩ := ho0
                have h0 := hfr0 k hlt
                rwa [HFE.out] at h0⟩
            refine xtv 16 (h := ?_)
            (refine xdone (by kernel_rfl) (kB) ?_)
            obtain ⟨t0', t1', t2'⟩ := (cells3 hbB).1
            go_wp2_with (first | refine haltst (x := .tmp 57) 33 ?_)
            refine .inl ?_
            refine st_l 33 (.tmp 57) (.tmp 56) (w.heap.size) 24 35 #[.int .i64 e0, .int .i64 y0, .int .i64 q0, .int .i64 t0, .slice la ln lc, .int .u64 f0, .int .i64 o0, .int .i64 v0, .int .u64 d0, .bool s0, .int .i64 x0, .int .i64 E'.e, .int .i64 E'.win, .int .i64 E'.qn, .int .i64 E'.wait, .slice ea en ec, .int .u64 E'.first, .int .i64 E'.out, .int .i64 E'.ever, .int .u64 E'.want, .bool E'.owes, .int .i64 E'.age, .slice ga gn gc, .slice ha hn hc, .int .i64 M.n, .int .i64 M.room, .slice ya yn yc] #[.int .i64 M2.n, .int .i64 M2.room, .slice za zn zc] #[.int .i64 e0, .int .i64 y0, .int .i64 q0, .int .i64 t0, .slice la ln lc, .int .u64 f0, .int .i64 o0, .int .i64 v0, .int .u64 d0, .bool s0, .int .i64 x0, .int .i64 E'.e, .int .i64 E'.win, .int .i64 E'.qn, .int .i64 E'.wait, .slice ea en ec, .int .u64 E'.first, .int .i64 E'.out, .int .i64 E'.ever, .int .u64 E'.want, .bool E'.owes, .int .i64 E'.age, .slice ga gn gc, .slice ha hn hc, .int .i64 M2.n, .int .i64 M2.room, .slice za zn zc] rfl rfl (kB.1) (by kernel_rfl) (by simp) rfl rfl ?_
            intro W9 hb9' ho9
            have HQZ : Hid (GoQ F w W9 ⟨⟨e0, y0, q0, t0, L0, f0, o0, v0, d0, s0, x0⟩, E', G0, G1, M2⟩ ⟨la, ln, lc⟩ ⟨ea, en, ec⟩ ⟨ga, gn, gc⟩ ⟨ha, hn, hc⟩ ⟨za, zn, zc⟩ (m + k + 1) (.slice (some ⟨b9, off9, none⟩) FR.length fc) FR) := Lib.hid ⟨hb9', ho9.blk HQB.out.res (by omega), (HQB.out.rp.putN (x := ⟨za, zn, zc⟩) HNB.out (Nat.le_succ _)).stay ho9 (by omega), HQB.out.fr.off (ho9.mono fun j hj => .inr (by omega)) (Grows.refl _ _), ext_off HQB.out.ext ho9 (fun j hj => by omega)⟩
            clear hb9' ho9 kB HNB HQB hbB hoB t0' t1' t2'
            cases Y
            · go_wp2
              exact ⟨⟨k + 1, za, zn, zc, hlt, by go_num, by rw [HSK.out.2]; rfl, by rw [HSK.out.1]; exact HQZ⟩, by simp [intOf]; omega⟩
            · go_wp2
              exact ⟨⟨k + 1, za, zn, zc, hlt, by go_num, by rw [HSK.out.2]; rfl, by rw [HSK.out.1]; exact HQZ⟩, by simp [intOf]; omega⟩
        · skip
          go_simp
          (try (simp only [Act.put, List.setIfInBounds_toArray, List.set]))
          obtain ⟨wT, hw9⟩ : ∃ W, W = w1.alloc (.cells #[.int .i64 0, .int .i64 0, .slice none 0 0] 33) := ⟨_, rfl⟩
          have HQ8 : Hid (GoQ (fun k => F k ∨ k = w1.heap.size) w wT ⟨⟨e0, y0, q0, t0, L0, f0, o0, v0, d0, s0, x0⟩, E', G0, G1, M⟩ ⟨la, ln, lc⟩ ⟨ea, en, ec⟩ ⟨ga, gn, gc⟩ ⟨ha, hn, hc⟩ ⟨ya, yn, yc⟩ (m + k) (.slice (some ⟨b9, off9, none⟩) FR.length fc) FR) := Lib.hid (by rw [hw9]; exact HQ7.out.aside _)
          have k8 : wT.heap[w.heap.size]? = some (.cells #[.int .i64 e0, .int .i64 y0, .int .i64 q0, .int .i64 t0, .slice la ln lc, .int .u64 f0, .int .i64 o0, .int .i64 v0, .int .u64 d0, .bool s0, .int .i64 x0, .int .i64 E'.e, .int .i64 E'.win, .int .i64 E'.qn, .int .i64 E'.wait, .slice ea en ec, .int .u64 E'.first, .int .i64 E'.out, .int .i64 E'.ever, .int .u64 E'.want, .bool E'.owes, .int .i64 E'.age, .slice ga gn gc, .slice ha hn hc, .int .i64 M.n, .int .i64 M.room, .slice ya yn yc] 35 (0, 0)) ∧ FrAt wT b9 (off9 + k * 5) f := ⟨HQ8.out.box, by rw [hw9]; exact k7.2.ext (((Ext.refl w1).alloc _).mono hb7)⟩
          have hb8 : b9 < wT.heap.size := by rw [hw9, size_alloc]; omega
          have kA8 : wT.heap[w1.heap.size]? = some (.cells #[.int .i64 0, .int .i64 0, .slice none 0 0] 33 (0, 0)) := by rw [hw9]; exact get_alloc_new w1 _
          have hgA : w.heap.size + 2 ≤ w1.heap.size := by have := blk_lt HQ7.out.res; omega
          rw [← hw9]
          clear hw9
          refine xone 9 (hk := k8) (h := RunX.of 9 (h := ?_))
          go_simp
          refine (cP.out _).mono ?_
          rintro ev w7 ⟨rfl, x7⟩
          have HQ9 := Lib.hid (HQ8.out.more x7)
          have k9 : w7.heap[w.heap.size]? = some (.cells #[.int .i64 e0, .int .i64 y0, .int .i64 q0, .int .i64 t0, .slice la ln lc, .int .u64 f0, .int .i64 o0, .int .i64 v0, .int .u64 d0, .bool s0, .int .i64 x0, .int .i64 E'.e, .int .i64 E'.win, .int .i64 E'.qn, .int .i64 E'.wait, .slice ea en ec, .int .u64 E'.first, .int .i64 E'.out, .int .i64 E'.ever, .int .u64 E'.want, .bool E'.owes, .int .i64 E'.age, .slice ga gn gc, .slice ha hn hc, .int .i64 M.n, .int .i64 M.room, .slice ya yn yc] 35 (0, 0)) ∧ FrAt w7 b9 (off9 + k * 5) f := ⟨HQ9.out.box, k8.2.ext (x7.mono hb8)⟩
          have hb9 := Nat.lt_of_lt_of_le hb8 x7.size
          have kA9 := (x7.block _ (blk_lt kA8)).trans kA8
          dsimp only
          (try (simp only [Act.put, List.setIfInBounds_toArray, List.set]))
          refine xone 10 (hk := k9) (h := RunX.of 10 (h := ?_))
          go_simp
          refine (HCS.out (fun k => (F k ∨ k = w1.heap.size) ∨ (w.heap.size ≤ k ∧ k < w.heap.size + 2)) _ (fun j hj => by
              have h1 := blk_lt HQ9.out.res
              have h2 := blk_lt kA9
              rcases hj with (hj | hj) | hj
              · have := HF.out j hj; omega
              · omega
              · omega) HQ9.out.rp.net).mono ?_
          rintro ev w8 ⟨v8, rfl, ⟨za, zn, zc, L9, rfl, hr9⟩, x8⟩
          have HQ10 := Lib.hid (HQ9.out.more x8)
          have k10 : w8.heap[w.heap.size]? = some (.cells #[.int .i64 e0, .int .i64 y0, .int .i64 q0, .int .i64 t0, .slice la ln lc, .int .u64 f0, .int .i64 o0, .int .i64 v0, .int .u64 d0, .bool s0, .int .i64 x0, .int .i64 E'.e, .int .i64 E'.win, .int .i64 E'.qn, .int .i64 E'.wait, .slice ea en ec, .int .u64 E'.first, .int .i64 E'.out, .int .i64 E'.ever, .int .u64 E'.want, .bool E'.owes, .int .i64 E'.age, .slice ga gn gc, .slice ha hn hc, .int .i64 M.n, .int .i64 M.room, .slice ya yn yc] 35 (0, 0)) ∧ FrAt w8 b9 (off9 + k * 5) f := ⟨HQ10.out.box, k9.2.ext (x8.mono hb9)⟩
          have hb10 := Nat.lt_of_lt_of_le hb9 x8.size
          have kA10 := (x8.block _ (blk_lt kA9)).trans kA9
          have HN10 : Hid (RNet (fun k => (F k ∨ k = w1.heap.size) ∨ (w.heap.size ≤ k ∧ k < w.heap.size + 2)) w8 (.agg #[.int .i64 M2.n, .int .i64 M2.room, .slice za zn zc]) M2 (m + k + 1)) := Lib.hid ⟨za, zn, zc, L9, rfl, hr9⟩
          dsimp only
          (try (simp only [Act.put, List.setIfInBounds_toArray, List.set]))
          refine xtv 11 (h := ?_)
          refine xtv 12 (h := ?_)
          refine xtv 13 (h := ?_)
          refine xone 15 (hk := k10) (h := RunX.of 15 (h := ?_))
          refine wp_st 33 (.tmp 10) (.tmp 54) ?_ (w1.heap.size) 0 33 #[.int .i64 0, .int .i64 0, .slice none 0 0] #[.int .i64 M2.n, .int .i64 M2.room, .slice za zn zc] #[.int .i64 M2.n, .int .i64 M2.room, .slice za zn zc] ?_ ?_ kA10 (by kernel_rfl) (by simp) rfl rfl ?_
          · exact rfl
          · exact rfl
          · exact rfl
          intro WB hbB hoB
          dsimp only
          (try simp only [Act.put])
          have HQB := Lib.hid (HQ10.out.back hoB hgA)
          have HNB : Hid (RNet (fun k => F k ∨ (w.heap.size ≤ k ∧ k < w.heap.size + 2)) WB (.agg #[.int .i64 M2.n, .int .i64 M2.room, .slice za zn zc]) M2 (m + k + 1)) := Lib.hid (HN10.out.off (hoB.mono fun j hj => .inl (.inr hj)) (grows_back _))
          have kB : WB.heap[w.heap.size]? = some (.cells #[.int .i64 e0, .int .i64 y0, .int .i64 q0, .int .i64 t0, .slice la ln lc, .int .u64 f0, .int .i64 o0, .int .i64 v0, .int .u64 d0, .bool s0, .int .i64 x0, .int .i64 E'.e, .int .i64 E'.win, .int .i64 E'.qn, .int .i64 E'.wait, .slice ea en ec, .int .u64 E'.first, .int .i64 E'.out, .int .i64 E'.ever, .int .u64 E'.want, .bool E'.owes, .int .i64 E'.age, .slice ga gn gc, .slice ha hn hc, .int .i64 M.n, .int .i64 M.room, .slice ya yn yc] 35 (0, 0)) ∧ FrAt WB b9 (off9 + k * 5) f := ⟨HQB.out.box, by
              obtain ⟨b0, off0, ho0, _, _, _, hfr0⟩ := Sl.frs_some (ao := some ⟨b9, off9, none⟩) (n := FR.length) (c := fc) HQB.out.fr.1 (by omega)
              simp only [Option.some.injEq, Addr.mk.injEq, and_true] at ho0
              obtain ⟨rfl, rfl⟩ := ho0
              have h0 := hfr0 k hlt
              rwa [HFE.out] at h0⟩
          refine xtv 16 (h := ?_)
          (refine xdone (by kernel_rfl) (kB) ?_)
          obtain ⟨t0', t1', t2'⟩ := (cells3 hbB).1
          go_wp2_with (first | refine haltst (x := .tmp 57) 33 ?_)
          refine .inl ?_
          refine st_l 33 (.tmp 57) (.tmp 56) (w.heap.size) 24 35 #[.int .i64 e0, .int .i64 y0, .int .i64 q0, .int .i64 t0, .slice la ln lc, .int .u64 f0, .int .i64 o0, .int .i64 v0, .int .u64 d0, .bool s0, .int .i64 x0, .int .i64 E'.e, .int .i64 E'.win, .int .i64 E'.qn, .int .i64 E'.wait, .slice ea en ec, .int .u64 E'.first, .int .i64 E'.out, .int .i64 E'.ever, .int .u64 E'.want, .bool E'.owes, .int .i64 E'.age, .slice ga gn gc, .slice ha hn hc, .int .i64 M.n, .int .i64 M.room, .slice ya yn yc] #[.int .i64 M2.n, .int .i64 M2.room, .slice za zn zc] #[.int .i64 e0, .int .i64 y0, .int .i64 q0, .int .i64 t0, .slice la ln lc, .int .u64 f0, .int .i64 o0, .int .i64 v0, .int .u64 d0, .bool s0, .int .i64 x0, .int .i64 E'.e, .int .i64 E'.win, .int .i64 E'.qn, .int .i64 E'.wait, .slice ea en ec, .int .u64 E'.first, .int .i64 E'.out, .int .i64 E'.ever, .int .u64 E'.want, .bool E'.owes, .int .i64 E'.age, .slice ga gn gc, .slice ha hn hc, .int .i64 M2.n, .int .i64 M2.room, .slice za zn zc] rfl rfl (kB.1) (by kernel_rfl) (by simp) rfl rfl ?_
          intro W9 hb9' ho9
          have HQZ : Hid (GoQ F w W9 ⟨⟨e0, y0, q0, t0, L0, f0, o0, v0, d0, s0, x0⟩, E', G0, G1, M2⟩ ⟨la, ln, lc⟩ ⟨ea, en, ec⟩ ⟨ga, gn, gc⟩ ⟨ha, hn, hc⟩ ⟨za, zn, zc⟩ (m + k + 1) (.slice (some ⟨b9, off9, none⟩) FR.length fc) FR) := Lib.hid ⟨hb9', ho9.blk HQB.out.res (by omega), (HQB.out.rp.putN (x := ⟨za, zn, zc⟩) HNB.out (Nat.le_succ _)).stay ho9 (by omega), HQB.out.fr.off (ho9.mono fun j hj => .inr (by omega)) (Grows.refl _ _), ext_off HQB.out.ext ho9 (fun j hj => by omega)⟩
          clear hb9' ho9 kB HNB HQB hbB hoB t0' t1' t2'
          cases Y
          · go_wp2
            exact ⟨⟨k + 1, za, zn, zc, hlt, by go_num, by rw [HSK.out.2]; rfl, by rw [HSK.out.1]; exact HQZ⟩, by simp [intOf]; omega⟩
          · go_wp2
            exact ⟨⟨k + 1, za, zn, zc, hlt, by go_num, by rw [HSK.out.2]; rfl, by rw [HSK.out.1]; exact HQZ⟩, by simp [intOf]; omega⟩
    · have hke : k = FR.length := by omega
      subst hke
      have kq : wr.heap[w.heap.size]? = some (.cells #[.int .i64 e0, .int .i64 y0, .int .i64 q0, .int .i64 t0, .slice la ln lc, .int .u64 f0, .int .i64 o0, .int .i64 v0, .int .u64 d0, .bool s0, .int .i64 x0, .int .i64 E'.e, .int .i64 E'.win, .int .i64 E'.qn, .int .i64 E'.wait, .slice ea en ec, .int .u64 E'.first, .int .i64 E'.out, .int .i64 E'.ever, .int .u64 E'.want, .bool E'.owes, .int .i64 E'.age, .slice ga gn gc, .slice ha hn hc, .int .i64 ((GS FR.length).n : Int), .int .i64 ((GS FR.length).room : Int), .slice ya yn yc] 35 (0, 0)) ∧ wr.heap[w.heap.size + 1]? = some (.cells #[.int .i64 0, .int .i64 0, .int .i64 0, .int .i64 0, .slice none 0 0, .int .u64 0, .int .i64 0, .int .i64 0, .int .u64 0, .bool false, .int .i64 0, .int .i64 0, .int .i64 0, .int .i64 0, .int .i64 0, .slice none 0 0, .int .u64 0, .int .i64 0, .int .i64 0, .int .u64 0, .bool false, .int .i64 0, .slice none 0 0, .slice none 0 0, .int .i64 0, .int .i64 0, .slice none 0 0] 35 (0, 0)) := ⟨HQ.out.box, HQ.out.res⟩
      have hlt2 : ¬ (FR.length : Int) < (FR.length : Int) := by omega
      go_wp2_with (first | refine haltst 35 ?_ | refine haltld 35 ?_)
      refine .inl ?_
      refine ld_l 35 (.tmp 2) (w.heap.size) 35 #[.int .i64 e0, .int .i64 y0, .int .i64 q0, .int .i64 t0, .slice la ln lc, .int .u64 f0, .int .i64 o0, .int .i64 v0, .int .u64 d0, .bool s0, .int .i64 x0, .int .i64 E'.e, .int .i64 E'.win, .int .i64 E'.qn, .int .i64 E'.wait, .slice ea en ec, .int .u64 E'.first, .int .i64 E'.out, .int .i64 E'.ever, .int .u64 E'.want, .bool E'.owes, .int .i64 E'.age, .slice ga gn gc, .slice ha hn hc, .int .i64 ((GS FR.length).n : Int), .int .i64 ((GS FR.length).room : Int), .slice ya yn yc] rfl (kq.1) uPipe (by kernel_rfl) ?_
      go_wp2_with (first | refine haltst 35 ?_ | refine haltld 35 ?_)
      refine .inl ?_
      refine st_l 35 (.tmp 4) (.tmp 61) (w.heap.size + 1) 0 35 #[.int .i64 0, .int .i64 0, .int .i64 0, .int .i64 0, .slice none 0 0, .int .u64 0, .int .i64 0, .int .i64 0, .int .u64 0, .bool false, .int .i64 0, .int .i64 0, .int .i64 0, .int .i64 0, .int .i64 0, .slice none 0 0, .int .u64 0, .int .i64 0, .int .i64 0, .int .u64 0, .bool false, .int .i64 0, .slice none 0 0, .slice none 0 0, .int .i64 0, .int .i64 0, .slice none 0 0] #[.int .i64 e0, .int .i64 y0, .int .i64 q0, .int .i64 t0, .slice la ln lc, .int .u64 f0, .int .i64 o0, .int .i64 v0, .int .u64 d0, .bool s0, .int .i64 x0, .int .i64 E'.e, .int .i64 E'.win, .int .i64 E'.qn, .int .i64 E'.wait, .slice ea en ec, .int .u64 E'.first, .int .i64 E'.out, .int .i64 E'.ever, .int .u64 E'.want, .bool E'.owes, .int .i64 E'.age, .slice ga gn gc, .slice ha hn hc, .int .i64 ((GS FR.length).n : Int), .int .i64 ((GS FR.length).room : Int), .slice ya yn yc] #[.int .i64 e0, .int .i64 y0, .int .i64 q0, .int .i64 t0, .slice la ln lc, .int .u64 f0, .int .i64 o0, .int .i64 v0, .int .u64 d0, .bool s0, .int .i64 x0, .int .i64 E'.e, .int .i64 E'.win, .int .i64 E'.qn, .int .i64 E'.wait, .slice ea en ec, .int .u64 E'.first, .int .i64 E'.out, .int .i64 E'.ever, .int .u64 E'.want, .bool E'.owes, .int .i64 E'.age, .slice ga gn gc, .slice ha hn hc, .int .i64 ((GS FR.length).n : Int), .int .i64 ((GS FR.length).room : Int), .slice ya yn yc] rfl rfl (kq.2) (by kernel_rfl) (by simp) rfl rfl ?_
      intro W9 hb9 ho9
      go_wp2
      exact bodyPost_ret (v := .tuple #[.agg #[.int .i64 e0, .int .i64 y0, .int .i64 q0, .int .i64 t0, .slice la ln lc, .int .u64 f0, .int .i64 o0, .int .i64 v0, .int .u64 d0, .bool s0, .int .i64 x0, .int .i64 E'.e, .int .i64 E'.win, .int .i64 E'.qn, .int .i64 E'.wait, .slice ea en ec, .int .u64 E'.first, .int .i64 E'.out, .int .i64 E'.ever, .int .u64 E'.want, .bool E'.owes, .int .i64 E'.age, .slice ga gn gc, .slice ha hn hc, .int .i64 ((GS FR.length).n : Int), .int .i64 ((GS FR.length).room : Int), .slice ya yn yc], .int .i64 ((GN FR.length : Nat) : Int)]) (res_ct 5 rfl rfl hb9 uPipe (by kernel_rfl)) rfl ⟨_, rfl, ((HQ.out.rp.drop ho9 (by omega)).more (by omega)).to, ext_off HQ.out.ext ho9 (fun j hj => by omega)⟩

set_option maxRecDepth 50000 in
set_option maxHeartbeats 6400000 in
theorem rGoNo (F : Nat → Prop) (w : World) (hF : ∀ k, F k → k < w.heap.size) (P : PipeS) (l0 l1 g0 g1 ws : SV) (m : Nat) (ok : P.Ok) (h : RP F w P l0 l1 g0 g1 ws m) (s : Int) (hs : PipeS.side s = false) :
    Calls Tryz.prog 11 #[.agg (pcs P l0 l1 g0 g1 ws), .int .i64 s] w fun ev w' => ∃ v', ev = .returned (.tuple #[v', .int .i64 0]) ∧ RPipe F w' v' P m ∧ Ext w w' := by
  obtain ⟨h0, h1⟩ := PipeS.side_no hs
  have t0' : (s != 0) = true := bne_iff_ne.2 h0
  have t1' : (s != 1) = true := bne_iff_ne.2 h1
  have H := Lib.hid h
  obtain ⟨⟨e0, y0, q0, t0, L0, f0, o0, v0, d0, s0, x0⟩, ⟨e1, y1, q1, t1, L1, f1, o1, v1, d1, s1, x1⟩, G0, G1, N⟩ := P
  obtain ⟨la, ln, lc⟩ := l0
  obtain ⟨ma, mn, mc⟩ := l1
  obtain ⟨ga, gn, gc⟩ := g0
  obtain ⟨ha, hn, hc⟩ := g1
  obtain ⟨wa, wn, wc⟩ := ws
  have HR := Lib.hid (fun (W : World) (x : Ext w W) => H.out.boxes (n := 2) x)
  unfold pcs
  dsimp only [SV.v]
  clear h hF ok hs
  go_enter Tryz.func11, Tryz.ntmps11
  go_wp2_with (first | refine haltst 35 ?_ | refine haltld 35 ?_)
  refine .inl ?_
  refine ld_l 35 (.tmp 2) (w.heap.size) 35 #[.int .i64 e0, .int .i64 y0, .int .i64 q0, .int .i64 t0, .slice la ln lc, .int .u64 f0, .int .i64 o0, .int .i64 v0, .int .u64 d0, .bool s0, .int .i64 x0, .int .i64 e1, .int .i64 y1, .int .i64 q1, .int .i64 t1, .slice ma mn mc, .int .u64 f1, .int .i64 o1, .int .i64 v1, .int .u64 d1, .bool s1, .int .i64 x1, .slice ga gn gc, .slice ha hn hc, .int .i64 N.n, .int .i64 N.room, .slice wa wn wc] rfl (old1 (at0 w _) _) uPipe (by kernel_rfl) ?_
  go_wp2_with (first | refine haltst 35 ?_ | refine haltld 35 ?_)
  refine .inl ?_
  refine st_l 35 (.tmp 4) (.tmp 18) (w.heap.size + 1) 0 35 #[.int .i64 0, .int .i64 0, .int .i64 0, .int .i64 0, .slice none 0 0, .int .u64 0, .int .i64 0, .int .i64 0, .int .u64 0, .bool false, .int .i64 0, .int .i64 0, .int .i64 0, .int .i64 0, .int .i64 0, .slice none 0 0, .int .u64 0, .int .i64 0, .int .i64 0, .int .u64 0, .bool false, .int .i64 0, .slice none 0 0, .slice none 0 0, .int .i64 0, .int .i64 0, .slice none 0 0] #[.int .i64 e0, .int .i64 y0, .int .i64 q0, .int .i64 t0, .slice la ln lc, .int .u64 f0, .int .i64 o0, .int .i64 v0, .int .u64 d0, .bool s0, .int .i64 x0, .int .i64 e1, .int .i64 y1, .int .i64 q1, .int .i64 t1, .slice ma mn mc, .int .u64 f1, .int .i64 o1, .int .i64 v1, .int .u64 d1, .bool s1, .int .i64 x1, .slice ga gn gc, .slice ha hn hc, .int .i64 N.n, .int .i64 N.room, .slice wa wn wc] #[.int .i64 e0, .int .i64 y0, .int .i64 q0, .int .i64 t0, .slice la ln lc, .int .u64 f0, .int .i64 o0, .int .i64 v0, .int .u64 d0, .bool s0, .int .i64 x0, .int .i64 e1, .int .i64 y1, .int .i64 q1, .int .i64 t1, .slice ma mn mc, .int .u64 f1, .int .i64 o1, .int .i64 v1, .int .u64 d1, .bool s1, .int .i64 x1, .slice ga gn gc, .slice ha hn hc, .int .i64 N.n, .int .i64 N.room, .slice wa wn wc] rfl rfl (at1 w _ _) (by kernel_rfl) (by simp) rfl rfl ?_
  intro W2 hb2 ho2
  go_wp2
  exact bodyPost_ret (v := .tuple #[.agg #[.int .i64 e0, .int .i64 y0, .int .i64 q0, .int .i64 t0, .slice la ln lc, .int .u64 f0, .int .i64 o0, .int .i64 v0, .int .u64 d0, .bool s0, .int .i64 x0, .int .i64 e1, .int .i64 y1, .int .i64 q1, .int .i64 t1, .slice ma mn mc, .int .u64 f1, .int .i64 o1, .int .i64 v1, .int .u64 d1, .bool s1, .int .i64 x1, .slice ga gn gc, .slice ha hn hc, .int .i64 N.n, .int .i64 N.room, .slice wa wn wc], .int .i64 0]) (res_ct 5 rfl rfl hb2 uPipe (by kernel_rfl)) rfl ⟨_, rfl, ((HR.out _ (Ext.alloc (Ext.alloc (Ext.refl w) _) _)).drop ho2 (by omega)).to, ext_off (Ext.alloc (Ext.alloc (Ext.refl w) _) _) ho2 (fun k hk => by omega)⟩

theorem rGo_any (F : Nat → Prop) (w : World) (hF : ∀ k, F k → k < w.heap.size) (P : PipeS) (l0 l1 g0 g1 ws : SV) (m : Nat) (ok : P.Ok) (h : RP F w P l0 l1 g0 g1 ws m) (hm : m ≤ 4000) (s : Int) :
    Calls Tryz.prog 11 #[.agg (pcs P l0 l1 g0 g1 ws), .int .i64 s] w fun ev w' => ∃ v', ev = .returned (.tuple #[v', .int .i64 (P.goN s : Nat)]) ∧ RPipe F w' v' (P.go s) (m + 8) ∧ Ext w w' := by
  cases hs : PipeS.side s
  · rw [PipeS.go_no hs, show P.goN s = 0 from by unfold PipeS.goN; rw [hs, if_neg (by decide)]]
    refine (rGoNo F w hF P l0 l1 g0 g1 ws m ok h s hs).mono ?_
    rintro ev w' ⟨v', h1, h2, h3⟩
    exact ⟨v', h1, h2.more (by omega), h3⟩
  · unfold PipeS.side at hs
    simp only [Bool.or_eq_true, decide_eq_true_eq] at hs
    rcases hs with rfl | rfl
    · exact rGo0 F w hF P l0 l1 g0 g1 ws m ok h hm
    · exact rGo1 F w hF P l0 l1 g0 g1 ws m ok h hm
end Go.Proofs.YtlakolkpfkakoaaGreatDoor
