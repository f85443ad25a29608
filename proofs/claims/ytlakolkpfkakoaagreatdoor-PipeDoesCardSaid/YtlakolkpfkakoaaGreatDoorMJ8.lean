/- Layer 10's document: Come: a frame. -/
import Derived.Test.YtlakolkpfkakoaaGreatDoorMJ7
import Derived.Test.YtlakolkpfkakoaaGreatDoorMP
namespace Go.Proofs.YtlakolkpfkakoaaGreatDoor
open Go.RowKit

set_option linter.unusedVariables false

theorem takeF0 (P : PipeS) (N : NetS) (f : Fr) : ({ P with net := N } : PipeS).takeF 0 f = if P.e0.told f = true then ⟨P.e0.take f, P.e1, P.g0 ++ [f.b], P.g1, N⟩ else ⟨P.e0.take f, P.e1, P.g0, P.g1, N⟩ := by
  unfold PipeS.takeF
  show PipeS.setG (PipeS.setE _ 0 (P.e0.take f)) 0 (if P.e0.told f = true then P.g0 ++ [f.b] else P.g0) = _
  cases P.e0.told f <;> rfl
theorem takeF1 (P : PipeS) (N : NetS) (f : Fr) : ({ P with net := N } : PipeS).takeF 1 f = if P.e1.told f = true then ⟨P.e0, P.e1.take f, P.g0, P.g1 ++ [f.b], N⟩ else ⟨P.e0, P.e1.take f, P.g0, P.g1, N⟩ := by
  unfold PipeS.takeF
  show PipeS.setG (PipeS.setE _ 1 (P.e1.take f)) 1 (if P.e1.told f = true then P.g1 ++ [f.b] else P.g1) = _
  cases P.e1.told f <;> rfl
theorem RP.putG0 {F : Nat → Prop} {w : World} {P : PipeS} {l0 l1 g0 g1 ws g : SV} {m : Nat} {b : ByteArray} (h : RP F w P l0 l1 g0 g1 ws m) (s : Sa F w g.v (P.g0 ++ [b])) : RP F w { P with g0 := P.g0 ++ [b] } l0 l1 g g1 ws m := ⟨h.s0, h.s1, s, h.g1, h.net⟩
theorem RP.putG1 {F : Nat → Prop} {w : World} {P : PipeS} {l0 l1 g0 g1 ws g : SV} {m : Nat} {b : ByteArray} (h : RP F w P l0 l1 g0 g1 ws m) (s : Sa F w g.v (P.g1 ++ [b])) : RP F w { P with g1 := P.g1 ++ [b] } l0 l1 g0 g ws m := ⟨h.s0, h.s1, h.g0, s, h.net⟩
theorem sa_aside {α : Type} [Elem α] {F : Nat → Prop} {xs : List α} {v : Value} {B : Nat} {wr : World} (h : Sa (fun k => F k ∨ (B ≤ k ∧ k < B + 2)) wr v xs) (hB : B + 2 ≤ wr.heap.size) (Z : Obj) : Sa (fun k => (F k ∨ k = wr.heap.size) ∨ (B ≤ k ∧ k < B + 2)) (wr.alloc Z) v xs :=
  (h.wide (fun k h1 h2 => by
    rcases h2 with (h2 | h2) | h2
    · exact .inl h2
    · omega
    · exact .inr h2)).ext ((Ext.refl wr).alloc _)

set_option maxRecDepth 50000 in
set_option maxHeartbeats 12800000 in
theorem rComeF0n (F : Nat → Prop) (w : World) (hF : ∀ k, F k → k < w.heap.size) (P : PipeS) (l0 l1 g0 g1 ws : SV) (m : Nat) (ok : P.Ok) (h : RP F w P l0 l1 g0 g1 ws m) (hm : m ≤ 5000) (two : P.net.n = 2) (k : Int) (hth0 : P.there 0 k = true) (hwh : whatN (P.net.look (1 - 0) 0 k) = 0) (hto : P.e0.told (frOf (P.net.look (1 - 0) 0 k)) = false) :
    Calls Tryz.prog 15 #[.agg (pcs P l0 l1 g0 g1 ws), .int .i64 0, .int .i64 k] w fun ev w' => ∃ v', ev = .returned (.tuple #[v', .string (P.comeB 0 k), .bool (P.comeY 0 k)]) ∧ RPipe F w' v' (P.come 0 k) (m + 1) ∧ Ext w w' := by
  have H := Lib.hid h
  have HF := Lib.hid hF
  have okN := ok.net
  have okE0 := ok.e0
  have okE1 := ok.e1
  have wr := net_wrap okN two 0 k 0
  obtain ⟨c1, c2, c3⟩ := come_yes hth0
  rw [c3, c2, c1]
  have hth : P.net.there (1 - 0) 0 k = true := hth0
  have hbs : (P.net.look (1 - 0) 0 k).size ≤ 1000 := NetS.look_short okN _ _ _
  have hfi := frOf_in9 hbs
  have htk := takeF0 P (P.net.deliver (1 - 0) 0 k) (frOf (P.net.look (1 - 0) 0 k))
  rw [hto] at htk
  rw [if_pos hwh, decide_eq_true hwh, Bool.true_and, htk]
  show Calls _ _ _ _ (fun ev w' => ∃ v', ev = .returned (.tuple #[v', .string (if P.e0.told (frOf (P.net.look (1 - 0) 0 k)) = true then (frOf (P.net.look (1 - 0) 0 k)).b else ⟨#[]⟩), .bool (P.e0.told (frOf (P.net.look (1 - 0) 0 k)))]) ∧ _)
  rw [hto, if_neg (by decide)]
  obtain ⟨⟨e0, y0, q0, t0, L0, f0, o0, v0, d0, s0, x0⟩, ⟨e1, y1, q1, t1, L1, f1, o1, v1, d1, s1, x1⟩, G0, G1, N⟩ := P
  obtain ⟨la, ln, lc⟩ := l0
  obtain ⟨ma, mn, mc⟩ := l1
  obtain ⟨ga, gn, gc⟩ := g0
  obtain ⟨ha, hn, hc⟩ := g1
  obtain ⟨wa, wn, wc⟩ := ws
  dsimp only at okN wr okE0 okE1
  have HR := Lib.hid (fun (W : World) (x : Ext w W) => H.out.boxes (n := 2) x)
  have HNT := Lib.hid (fun (W : World) (x : Ext w W) => (HR.out W x).net)
  have HG : Hid (∀ (W : World), w.heap.size + 2 ≤ W.heap.size → ∀ k, (fun k => F k ∨ (w.heap.size ≤ k ∧ k < w.heap.size + 2)) k → k < W.heap.size) := Lib.hid (fun W hW k hk => by
    rcases hk with hk | hk
    · have := HF.out k hk; omega
    · omega)
  dsimp only at hth hbs hwh hto hfi ⊢
  obtain ⟨N', hN'⟩ : ∃ N', N' = N.deliver (1 - 0) 0 k := ⟨_, rfl⟩
  obtain ⟨B, hB⟩ : ∃ B, B = N.look (1 - 0) 0 k := ⟨_, rfl⟩
  have HD : Hid (∀ (G : Nat → Prop) (W : World), (∀ k, G k → k < W.heap.size) → RNet G W (.agg #[.int .i64 N.n, .int .i64 N.room, .slice wa wn wc]) N m → Calls Tryz.prog 52 #[.agg #[.int .i64 N.n, .int .i64 N.room, .slice wa wn wc], .int .i64 1, .int .i64 0, .int .i64 k] W (fun e w' => ∃ v', e = .returned (.tuple #[v', .string B, .bool true]) ∧ RNet G w' v' N' (m + 1) ∧ Ext W w')) := Lib.hid (fun G W hW hv => by
    have h9 := refDeliver_any G W hW _ N m hv hm okN (1 - 0) 0 k
    rw [← hN', ← hB, hth] at h9
    exact h9)
  rw [← hN']
  try rw [← hB]
  rw [← hB] at hbs hwh hto hfi
  have cG := fun W => refGet_any W B (Nat.le_trans hbs (by decide))
  unfold GetsR at cG
  obtain ⟨wn8, hwn8⟩ : ∃ wn8, wn8 = whereN B := ⟨_, rfl⟩
  rw [hwh, ← hwn8, show getF B = frOf B from by unfold getF; rw [hwh, if_pos rfl]] at cG
  obtain ⟨f, hf⟩ : ∃ f, f = frOf B := ⟨_, rfl⟩
  rw [← hf] at cG hto hfi
  try rw [← hf]
  unfold frV at cG
  have cT := fun (G : Nat → Prop) (W : World) (v : Value) hv => refTake_any G W v ⟨e0, y0, q0, t0, L0, f0, o0, v0, d0, s0, x0⟩ okE0 hv f hfi.2.1
  unfold TakesR EndS.body at cT
  rw [hto, if_neg (by decide)] at cT
  obtain ⟨E', hE'⟩ : ∃ E', E' = EndS.take ⟨e0, y0, q0, t0, L0, f0, o0, v0, d0, s0, x0⟩ f := ⟨_, rfl⟩
  rw [← hE'] at cT
  rw [← hE']
  have hfb := hfi.2.2
  obtain ⟨fk, fe, fq, fa, fb⟩ := f
  dsimp only at cG cT hfb ⊢
  have HCG := Lib.hid cG
  have HTK := Lib.hid cT
  have cE := fun (W : World) (M : NetS) (za : Option Addr) (zn zc : Nat) => rEnd_any W ⟨⟨e0, y0, q0, t0, L0, f0, o0, v0, d0, s0, x0⟩, ⟨e1, y1, q1, t1, L1, f1, o1, v1, d1, s1, x1⟩, G0, G1, M⟩ ⟨la, ln, lc⟩ ⟨ma, mn, mc⟩ ⟨ga, gn, gc⟩ ⟨ha, hn, hc⟩ ⟨za, zn, zc⟩ 0 (by decide)
  unfold pcs rCells PipeS.end' at cE
  dsimp only [SV.v] at cE
  simp only [reduceIte] at cE
  have HE := Lib.hid cE
  have cW := fun (W : World) (M : NetS) (za : Option Addr) (zn zc : Nat) (E : EndS) (l : SV) => rWith0 W ⟨⟨e0, y0, q0, t0, L0, f0, o0, v0, d0, s0, x0⟩, ⟨e1, y1, q1, t1, L1, f1, o1, v1, d1, s1, x1⟩, G0, G1, M⟩ ⟨la, ln, lc⟩ ⟨ma, mn, mc⟩ ⟨ga, gn, gc⟩ ⟨ha, hn, hc⟩ ⟨za, zn, zc⟩ E l
  unfold pcs rCells at cW
  dsimp only [SV.v] at cW
  have HWI := Lib.hid cW
  unfold pcs
  dsimp only [SV.v]
  clear h hF ok hN' hB wr okN two hm c1 c2 c3 hth hth0 okE0 okE1 cG hwn8 hf hwh hbs hto hfi cT cE cW hE' htk
  go_enter Tryz.func15, Tryz.ntmps15
  go_wp2_with fail
  refine (HD.out (fun k => F k ∨ (w.heap.size ≤ k ∧ k < w.heap.size + 2)) _ (HG.out _ (by rw [size_alloc, size_alloc]; omega)) (HNT.out _ (Ext.alloc (Ext.alloc (Ext.refl w) _) _))).mono ?_
  rintro ev w2 ⟨v2, rfl, ⟨za, zn, zc, L9, rfl, hr9⟩, x2⟩
  have HX2 := Lib.hid (Ext.trans (Ext.alloc (Ext.alloc (Ext.refl w) _) _) x2)
  have HN2 : Hid (RNet (fun k => F k ∨ (w.heap.size ≤ k ∧ k < w.heap.size + 2)) w2 (.agg #[.int .i64 N'.n, .int .i64 N'.room, .slice za zn zc]) N' (m + 1)) := Lib.hid ⟨za, zn, zc, L9, rfl, hr9⟩
  have k2 : w2.heap[w.heap.size]? = some (.cells #[.int .i64 e0, .int .i64 y0, .int .i64 q0, .int .i64 t0, .slice la ln lc, .int .u64 f0, .int .i64 o0, .int .i64 v0, .int .u64 d0, .bool s0, .int .i64 x0, .int .i64 e1, .int .i64 y1, .int .i64 q1, .int .i64 t1, .slice ma mn mc, .int .u64 f1, .int .i64 o1, .int .i64 v1, .int .u64 d1, .bool s1, .int .i64 x1, .slice ga gn gc, .slice ha hn hc, .int .i64 N.n, .int .i64 N.room, .slice wa wn wc] 35 (0, 0)) ∧ w2.heap[w.heap.size + 1]? = some (.cells #[.int .i64 0, .int .i64 0, .int .i64 0, .int .i64 0, .slice none 0 0, .int .u64 0, .int .i64 0, .int .i64 0, .int .u64 0, .bool false, .int .i64 0, .int .i64 0, .int .i64 0, .int .i64 0, .int .i64 0, .slice none 0 0, .int .u64 0, .int .i64 0, .int .i64 0, .int .u64 0, .bool false, .int .i64 0, .slice none 0 0, .slice none 0 0, .int .i64 0, .int .i64 0, .slice none 0 0] 35 (0, 0)) := ⟨(x2.block _ (by rw [size_alloc, size_alloc]; omega)).trans (old1 (at0 w _) _), (x2.block _ (by rw [size_alloc, size_alloc]; omega)).trans (at1 w _ _)⟩
  clear x2 hr9
  dsimp only
  go_wp2_with (first | refine haltst (x := .tmp 41) 33 ?_)
  refine .inl ?_
  refine st_l 33 (.tmp 41) (.tmp 40) (w.heap.size) 24 35 #[.int .i64 e0, .int .i64 y0, .int .i64 q0, .int .i64 t0, .slice la ln lc, .int .u64 f0, .int .i64 o0, .int .i64 v0, .int .u64 d0, .bool s0, .int .i64 x0, .int .i64 e1, .int .i64 y1, .int .i64 q1, .int .i64 t1, .slice ma mn mc, .int .u64 f1, .int .i64 o1, .int .i64 v1, .int .u64 d1, .bool s1, .int .i64 x1, .slice ga gn gc, .slice ha hn hc, .int .i64 N.n, .int .i64 N.room, .slice wa wn wc] #[.int .i64 N'.n, .int .i64 N'.room, .slice za zn zc] #[.int .i64 e0, .int .i64 y0, .int .i64 q0, .int .i64 t0, .slice la ln lc, .int .u64 f0, .int .i64 o0, .int .i64 v0, .int .u64 d0, .bool s0, .int .i64 x0, .int .i64 e1, .int .i64 y1, .int .i64 q1, .int .i64 t1, .slice ma mn mc, .int .u64 f1, .int .i64 o1, .int .i64 v1, .int .u64 d1, .bool s1, .int .i64 x1, .slice ga gn gc, .slice ha hn hc, .int .i64 N'.n, .int .i64 N'.room, .slice za zn zc] rfl rfl (old1 k2.1 _) (by kernel_rfl) (by simp) rfl rfl ?_
  intro W3 hb3 ho3
  have HQ3 : Hid (GoQ F w W3 ⟨⟨e0, y0, q0, t0, L0, f0, o0, v0, d0, s0, x0⟩, ⟨e1, y1, q1, t1, L1, f1, o1, v1, d1, s1, x1⟩, G0, G1, N'⟩ ⟨la, ln, lc⟩ ⟨ma, mn, mc⟩ ⟨ga, gn, gc⟩ ⟨ha, hn, hc⟩ ⟨za, zn, zc⟩ (m + 1) (.slice none 0 0) []) := Lib.hid ⟨hb3, ho3.blk (old1 k2.2 _) (by omega), (((HR.out _ HX2.out).putN (x := ⟨za, zn, zc⟩) HN2.out (Nat.le_succ m)).ext (Ext.alloc (Ext.refl w2) _)).stay ho3 (by omega), Sa.nil _ _, ext_off (Ext.trans HX2.out (Ext.alloc (Ext.refl w2) _)) ho3 (fun k hk => by omega)⟩
  clear hb3 ho3 k2 HN2
  go_wp2_with fail
  refine (HCG.out _).mono ?_
  rintro ev w5 ⟨rfl, x5⟩
  have HQ5 := Lib.hid (HQ3.out.more x5)
  clear x5 HQ3
  dsimp only
  go_wp2_with fail
  (refine wp_region_X_lit (K := fun W => W.heap[w.heap.size]? = some (.cells #[.int .i64 e0, .int .i64 y0, .int .i64 q0, .int .i64 t0, .slice la ln lc, .int .u64 f0, .int .i64 o0, .int .i64 v0, .int .u64 d0, .bool s0, .int .i64 x0, .int .i64 e1, .int .i64 y1, .int .i64 q1, .int .i64 t1, .slice ma mn mc, .int .u64 f1, .int .i64 o1, .int .i64 v1, .int .u64 d1, .bool s1, .int .i64 x1, .slice ga gn gc, .slice ha hn hc, .int .i64 N'.n, .int .i64 N'.room, .slice za zn zc] 35 (0, 0)) ∧ W.heap[w5.heap.size]? = some (.cells #[.int .i64 fk, .int .i64 fe, .int .u64 fq, .int .u64 fa, .string fb] 83 (0, 0))) (by kernel_rfl) (fun w1 hw1 => ?_))
  have HQ7 := Lib.hid (HQ5.out.more (Ext.trans (Ext.alloc (Ext.refl w5) _) hw1))
  have k7 : w1.heap[w.heap.size]? = some (.cells #[.int .i64 e0, .int .i64 y0, .int .i64 q0, .int .i64 t0, .slice la ln lc, .int .u64 f0, .int .i64 o0, .int .i64 v0, .int .u64 d0, .bool s0, .int .i64 x0, .int .i64 e1, .int .i64 y1, .int .i64 q1, .int .i64 t1, .slice ma mn mc, .int .u64 f1, .int .i64 o1, .int .i64 v1, .int .u64 d1, .bool s1, .int .i64 x1, .slice ga gn gc, .slice ha hn hc, .int .i64 N'.n, .int .i64 N'.room, .slice za zn zc] 35 (0, 0)) ∧ w1.heap[w5.heap.size]? = some (.cells #[.int .i64 fk, .int .i64 fe, .int .u64 fq, .int .u64 fa, .string fb] 83 (0, 0)) := ⟨HQ7.out.box, (hw1.block _ (by rw [size_alloc]; omega)).trans (get_alloc_new w5 _)⟩
  clear hw1 HQ5
  refine xtv 0 (hv := fun w' hw' => ld_op (cs := #[.int .i64 e0, .int .i64 y0, .int .i64 q0, .int .i64 t0, .slice la ln lc, .int .u64 f0, .int .i64 o0, .int .i64 v0, .int .u64 d0, .bool s0, .int .i64 x0, .int .i64 e1, .int .i64 y1, .int .i64 q1, .int .i64 t1, .slice ma mn mc, .int .u64 f1, .int .i64 o1, .int .i64 v1, .int .u64 d1, .bool s1, .int .i64 x1, .slice ga gn gc, .slice ha hn hc, .int .i64 N'.n, .int .i64 N'.room, .slice za zn zc]) rfl rfl (hw'.1) uPipe (by kernel_rfl)) (h := ?_)
  refine xtv 1 (h := ?_)
  refine xtv 3 (hv := by intro w' hw'; obtain ⟨⟨r0, r1, r2, r3, r4⟩, _⟩ := cells5 hw'.2; go_simp; first | done | with_reducible rfl) (h := ?_)
  refine xtwo 2 9 (hk := k7) (h := RunX.of 2 (h := ?_)) (h' := RunX.of 9 (h := ?_))
  · skip
    go_simp
    refine (HE.out _ _ _ _ _).mono ?_
    rintro ev w7 ⟨rfl, x7⟩
    have HQ8 := Lib.hid (HQ7.out.more x7)
    have k8 : w7.heap[w.heap.size]? = some (.cells #[.int .i64 e0, .int .i64 y0, .int .i64 q0, .int .i64 t0, .slice la ln lc, .int .u64 f0, .int .i64 o0, .int .i64 v0, .int .u64 d0, .bool s0, .int .i64 x0, .int .i64 e1, .int .i64 y1, .int .i64 q1, .int .i64 t1, .slice ma mn mc, .int .u64 f1, .int .i64 o1, .int .i64 v1, .int .u64 d1, .bool s1, .int .i64 x1, .slice ga gn gc, .slice ha hn hc, .int .i64 N'.n, .int .i64 N'.room, .slice za zn zc] 35 (0, 0)) ∧ w7.heap[w5.heap.size]? = some (.cells #[.int .i64 fk, .int .i64 fe, .int .u64 fq, .int .u64 fa, .string fb] 83 (0, 0)) := ⟨HQ8.out.box, (x7.block _ (blk_lt k7.2)).trans k7.2⟩
    dsimp only
    (try (simp only [Act.put, List.setIfInBounds_toArray, List.set]))
    refine xtwo 4 9 (hk := k8) (h := RunX.of 4 (h := ?_)) (h' := RunX.of 9 (h := ?_))
    · skip
      go_simp
      refine (HTK.out (fun k => F k ∨ (w.heap.size ≤ k ∧ k < w.heap.size + 2)) _ _ ⟨_, _, _, rfl, HQ8.out.rp.s0⟩).mono ?_
      rintro ev w8 ⟨v8, rfl, ⟨ea, en, ec, rfl, hs8⟩, x8⟩
      have HQ9 := Lib.hid (HQ8.out.more x8)
      have k9 : w8.heap[w.heap.size]? = some (.cells #[.int .i64 e0, .int .i64 y0, .int .i64 q0, .int .i64 t0, .slice la ln lc, .int .u64 f0, .int .i64 o0, .int .i64 v0, .int .u64 d0, .bool s0, .int .i64 x0, .int .i64 e1, .int .i64 y1, .int .i64 q1, .int .i64 t1, .slice ma mn mc, .int .u64 f1, .int .i64 o1, .int .i64 v1, .int .u64 d1, .bool s1, .int .i64 x1, .slice ga gn gc, .slice ha hn hc, .int .i64 N'.n, .int .i64 N'.room, .slice za zn zc] 35 (0, 0)) ∧ w8.heap[w5.heap.size]? = some (.cells #[.int .i64 fk, .int .i64 fe, .int .u64 fq, .int .u64 fa, .string fb] 83 (0, 0)) := ⟨HQ9.out.box, (x8.block _ (blk_lt k8.2)).trans k8.2⟩
      have HS9 : Hid (Sa (fun k => F k ∨ (w.heap.size ≤ k ∧ k < w.heap.size + 2)) w8 (.slice ea en ec) E'.l) := Lib.hid hs8
      unfold rCells
      dsimp only
      (try (simp only [Act.put, List.setIfInBounds_toArray, List.set]))
      refine xtv 5 (h := ?_)
      refine xtv 6 (h := ?_)
      refine xtv 7 (h := ?_)
      refine xtv 8 (h := ?_)
      refine xone 9 (hk := k9) (h := RunX.of 9 (h := ?_))
      go_simp
      (try (simp only [Act.put, List.setIfInBounds_toArray, List.set]))
      obtain ⟨wT, hw9⟩ : ∃ W, W = w8.alloc (.cells #[.int .i64 0, .int .i64 0, .int .i64 0, .int .i64 0, .slice none 0 0, .int .u64 0, .int .i64 0, .int .i64 0, .int .u64 0, .bool false, .int .i64 0] 30) := ⟨_, rfl⟩
      have HQ10 : Hid (GoQ (fun k => F k ∨ k = w8.heap.size) w wT ⟨⟨e0, y0, q0, t0, L0, f0, o0, v0, d0, s0, x0⟩, ⟨e1, y1, q1, t1, L1, f1, o1, v1, d1, s1, x1⟩, G0, G1, N'⟩ ⟨la, ln, lc⟩ ⟨ma, mn, mc⟩ ⟨ga, gn, gc⟩ ⟨ha, hn, hc⟩ ⟨za, zn, zc⟩ (m + 1) (.slice none 0 0) []) := Lib.hid (by rw [hw9]; exact HQ9.out.aside _)
      have k10 : wT.heap[w.heap.size]? = some (.cells #[.int .i64 e0, .int .i64 y0, .int .i64 q0, .int .i64 t0, .slice la ln lc, .int .u64 f0, .int .i64 o0, .int .i64 v0, .int .u64 d0, .bool s0, .int .i64 x0, .int .i64 e1, .int .i64 y1, .int .i64 q1, .int .i64 t1, .slice ma mn mc, .int .u64 f1, .int .i64 o1, .int .i64 v1, .int .u64 d1, .bool s1, .int .i64 x1, .slice ga gn gc, .slice ha hn hc, .int .i64 N'.n, .int .i64 N'.room, .slice za zn zc] 35 (0, 0)) ∧ wT.heap[w5.heap.size]? = some (.cells #[.int .i64 fk, .int .i64 fe, .int .u64 fq, .int .u64 fa, .string fb] 83 (0, 0)) := ⟨HQ10.out.box, by rw [hw9]; exact old1 k9.2 _⟩
      have kA10 : wT.heap[w8.heap.size]? = some (.cells #[.int .i64 0, .int .i64 0, .int .i64 0, .int .i64 0, .slice none 0 0, .int .u64 0, .int .i64 0, .int .i64 0, .int .u64 0, .bool false, .int .i64 0] 30 (0, 0)) := by rw [hw9]; exact get_alloc_new w8 _
      have hgA : w.heap.size + 2 ≤ w8.heap.size := by have := blk_lt HQ9.out.res; omega
      have hgF : w5.heap.size ≠ w8.heap.size := by have := blk_lt k9.2; omega
      have HS10 : Hid (Sa (fun k => (F k ∨ k = w8.heap.size) ∨ (w.heap.size ≤ k ∧ k < w.heap.size + 2)) wT (.slice ea en ec) E'.l) := Lib.hid (by rw [hw9]; exact sa_aside HS9.out hgA _)
      rw [← hw9]
      clear hw9
      refine xone 10 (hk := k10) (h := RunX.of 10 (h := ?_))
      refine wp_st 30 (.tmp 15) (.tmp 57) ?_ (w8.heap.size) 0 30 #[.int .i64 0, .int .i64 0, .int .i64 0, .int .i64 0, .slice none 0 0, .int .u64 0, .int .i64 0, .int .i64 0, .int .u64 0, .bool false, .int .i64 0] #[.int .i64 E'.e, .int .i64 E'.win, .int .i64 E'.qn, .int .i64 E'.wait, .slice ea en ec, .int .u64 E'.first, .int .i64 E'.out, .int .i64 E'.ever, .int .u64 E'.want, .bool E'.owes, .int .i64 E'.age] #[.int .i64 E'.e, .int .i64 E'.win, .int .i64 E'.qn, .int .i64 E'.wait, .slice ea en ec, .int .u64 E'.first, .int .i64 E'.out, .int .i64 E'.ever, .int .u64 E'.want, .bool E'.owes, .int .i64 E'.age] ?_ ?_ kA10 (by kernel_rfl) (by simp) rfl rfl ?_
      · exact rfl
      · exact rfl
      · exact rfl
      intro WB hbB hoB
      dsimp only
      (try simp only [Act.put])
      have HQB := Lib.hid (HQ10.out.back hoB hgA)
      have HSB : Hid (Sa (fun k => F k ∨ (w.heap.size ≤ k ∧ k < w.heap.size + 2)) WB (.slice ea en ec) E'.l) := Lib.hid (HS10.out.off (hoB.mono fun j hj => .inl (.inr hj)) (grows_back _))
      have kB : WB.heap[w.heap.size]? = some (.cells #[.int .i64 e0, .int .i64 y0, .int .i64 q0, .int .i64 t0, .slice la ln lc, .int .u64 f0, .int .i64 o0, .int .i64 v0, .int .u64 d0, .bool s0, .int .i64 x0, .int .i64 e1, .int .i64 y1, .int .i64 q1, .int .i64 t1, .slice ma mn mc, .int .u64 f1, .int .i64 o1, .int .i64 v1, .int .u64 d1, .bool s1, .int .i64 x1, .slice ga gn gc, .slice ha hn hc, .int .i64 N'.n, .int .i64 N'.room, .slice za zn zc] 35 (0, 0)) ∧ WB.heap[w5.heap.size]? = some (.cells #[.int .i64 fk, .int .i64 fe, .int .u64 fq, .int .u64 fa, .string fb] 83 (0, 0)) := ⟨HQB.out.box, hoB.blk k10.2 hgF⟩
      refine xtv 11 (h := ?_)
      refine xtv 12 (h := ?_)
      (refine xdone (by kernel_rfl) (kB) ?_)
      obtain ⟨⟨j0, j1, j2, j3, j4, j5, j6, j7, j8, j9, j10⟩, _⟩ := cells11 hbB
      go_wp2_with (first | refine haltst 35 ?_ | refine haltld 35 ?_)
      refine .inl ?_
      refine ld_l 35 (.tmp 3) (w.heap.size) 35 #[.int .i64 e0, .int .i64 y0, .int .i64 q0, .int .i64 t0, .slice la ln lc, .int .u64 f0, .int .i64 o0, .int .i64 v0, .int .u64 d0, .bool s0, .int .i64 x0, .int .i64 e1, .int .i64 y1, .int .i64 q1, .int .i64 t1, .slice ma mn mc, .int .u64 f1, .int .i64 o1, .int .i64 v1, .int .u64 d1, .bool s1, .int .i64 x1, .slice ga gn gc, .slice ha hn hc, .int .i64 N'.n, .int .i64 N'.room, .slice za zn zc] rfl (kB.1) uPipe (by kernel_rfl) ?_
      go_wp2_with fail
      refine (HWI.out _ _ _ _ _ E' ⟨ea, en, ec⟩).mono ?_
      rintro ev WC ⟨rfl, xC⟩
      have HQC := Lib.hid (HQB.out.more xC)
      have HSC := Lib.hid (HSB.out.ext xC)
      clear kB HQB HSB hbB hoB j0 j1 j2 j3 j4 j5 j6 j7 j8 j9 j10 xC
      dsimp only
      go_wp2_with (first | refine haltst 35 ?_ | refine haltld 35 ?_)
      refine .inl ?_
      refine st_l 35 (.tmp 3) (.tmp 63) (w.heap.size) 0 35 #[.int .i64 e0, .int .i64 y0, .int .i64 q0, .int .i64 t0, .slice la ln lc, .int .u64 f0, .int .i64 o0, .int .i64 v0, .int .u64 d0, .bool s0, .int .i64 x0, .int .i64 e1, .int .i64 y1, .int .i64 q1, .int .i64 t1, .slice ma mn mc, .int .u64 f1, .int .i64 o1, .int .i64 v1, .int .u64 d1, .bool s1, .int .i64 x1, .slice ga gn gc, .slice ha hn hc, .int .i64 N'.n, .int .i64 N'.room, .slice za zn zc] #[.int .i64 E'.e, .int .i64 E'.win, .int .i64 E'.qn, .int .i64 E'.wait, .slice ea en ec, .int .u64 E'.first, .int .i64 E'.out, .int .i64 E'.ever, .int .u64 E'.want, .bool E'.owes, .int .i64 E'.age, .int .i64 e1, .int .i64 y1, .int .i64 q1, .int .i64 t1, .slice ma mn mc, .int .u64 f1, .int .i64 o1, .int .i64 v1, .int .u64 d1, .bool s1, .int .i64 x1, .slice ga gn gc, .slice ha hn hc, .int .i64 N'.n, .int .i64 N'.room, .slice za zn zc] #[.int .i64 E'.e, .int .i64 E'.win, .int .i64 E'.qn, .int .i64 E'.wait, .slice ea en ec, .int .u64 E'.first, .int .i64 E'.out, .int .i64 E'.ever, .int .u64 E'.want, .bool E'.owes, .int .i64 E'.age, .int .i64 e1, .int .i64 y1, .int .i64 q1, .int .i64 t1, .slice ma mn mc, .int .u64 f1, .int .i64 o1, .int .i64 v1, .int .u64 d1, .bool s1, .int .i64 x1, .slice ga gn gc, .slice ha hn hc, .int .i64 N'.n, .int .i64 N'.room, .slice za zn zc] rfl rfl (HQC.out.box) (by kernel_rfl) (by simp) rfl rfl ?_
      intro WD hbD hoD
      have HQD : Hid (GoQ F w WD ⟨E', ⟨e1, y1, q1, t1, L1, f1, o1, v1, d1, s1, x1⟩, G0, G1, N'⟩ ⟨ea, en, ec⟩ ⟨ma, mn, mc⟩ ⟨ga, gn, gc⟩ ⟨ha, hn, hc⟩ ⟨za, zn, zc⟩ (m + 1) (.slice none 0 0) []) := Lib.hid ⟨hbD, hoD.blk HQC.out.res (by omega), (HQC.out.rp.put0 (E := E') (l := ⟨ea, en, ec⟩) HSC.out).stay hoD (by omega), Sa.nil _ _, ext_off HQC.out.ext hoD (fun j hj => by omega)⟩
      clear hbD hoD HQC HSC
      go_wp2_with (first | refine haltst 35 ?_ | refine haltld 35 ?_)
      refine .inl ?_
      refine ld_l 35 (.tmp 3) (w.heap.size) 35 #[.int .i64 E'.e, .int .i64 E'.win, .int .i64 E'.qn, .int .i64 E'.wait, .slice ea en ec, .int .u64 E'.first, .int .i64 E'.out, .int .i64 E'.ever, .int .u64 E'.want, .bool E'.owes, .int .i64 E'.age, .int .i64 e1, .int .i64 y1, .int .i64 q1, .int .i64 t1, .slice ma mn mc, .int .u64 f1, .int .i64 o1, .int .i64 v1, .int .u64 d1, .bool s1, .int .i64 x1, .slice ga gn gc, .slice ha hn hc, .int .i64 N'.n, .int .i64 N'.room, .slice za zn zc] rfl (HQD.out.box) uPipe (by kernel_rfl) ?_
      go_wp2_with (first | refine haltst 35 ?_ | refine haltld 35 ?_)
      refine .inl ?_
      refine st_l 35 (.tmp 6) (.tmp 90) (w.heap.size + 1) 0 35 #[.int .i64 0, .int .i64 0, .int .i64 0, .int .i64 0, .slice none 0 0, .int .u64 0, .int .i64 0, .int .i64 0, .int .u64 0, .bool false, .int .i64 0, .int .i64 0, .int .i64 0, .int .i64 0, .int .i64 0, .slice none 0 0, .int .u64 0, .int .i64 0, .int .i64 0, .int .u64 0, .bool false, .int .i64 0, .slice none 0 0, .slice none 0 0, .int .i64 0, .int .i64 0, .slice none 0 0] #[.int .i64 E'.e, .int .i64 E'.win, .int .i64 E'.qn, .int .i64 E'.wait, .slice ea en ec, .int .u64 E'.first, .int .i64 E'.out, .int .i64 E'.ever, .int .u64 E'.want, .bool E'.owes, .int .i64 E'.age, .int .i64 e1, .int .i64 y1, .int .i64 q1, .int .i64 t1, .slice ma mn mc, .int .u64 f1, .int .i64 o1, .int .i64 v1, .int .u64 d1, .bool s1, .int .i64 x1, .slice ga gn gc, .slice ha hn hc, .int .i64 N'.n, .int .i64 N'.room, .slice za zn zc] #[.int .i64 E'.e, .int .i64 E'.win, .int .i64 E'.qn, .int .i64 E'.wait, .slice ea en ec, .int .u64 E'.first, .int .i64 E'.out, .int .i64 E'.ever, .int .u64 E'.want, .bool E'.owes, .int .i64 E'.age, .int .i64 e1, .int .i64 y1, .int .i64 q1, .int .i64 t1, .slice ma mn mc, .int .u64 f1, .int .i64 o1, .int .i64 v1, .int .u64 d1, .bool s1, .int .i64 x1, .slice ga gn gc, .slice ha hn hc, .int .i64 N'.n, .int .i64 N'.room, .slice za zn zc] rfl rfl (HQD.out.res) (by kernel_rfl) (by simp) rfl rfl ?_
      intro WZ hbZ hoZ
      go_wp2
      exact bodyPost_ret (v := .tuple #[.agg #[.int .i64 E'.e, .int .i64 E'.win, .int .i64 E'.qn, .int .i64 E'.wait, .slice ea en ec, .int .u64 E'.first, .int .i64 E'.out, .int .i64 E'.ever, .int .u64 E'.want, .bool E'.owes, .int .i64 E'.age, .int .i64 e1, .int .i64 y1, .int .i64 q1, .int .i64 t1, .slice ma mn mc, .int .u64 f1, .int .i64 o1, .int .i64 v1, .int .u64 d1, .bool s1, .int .i64 x1, .slice ga gn gc, .slice ha hn hc, .int .i64 N'.n, .int .i64 N'.room, .slice za zn zc], .string ⟨#[]⟩, .bool false]) (res_ctt 7 8 rfl rfl hbZ uPipe (by kernel_rfl)) rfl ⟨_, rfl, (HQD.out.rp.drop hoZ (by omega)).to, ext_off HQD.out.ext hoZ (fun k hk => by omega)⟩
    · skip
      go_simp
      (try (simp only [Act.put, List.setIfInBounds_toArray, List.set]))
      obtain ⟨wT, hw9⟩ : ∃ W, W = w7.alloc (.cells #[.int .i64 0, .int .i64 0, .int .i64 0, .int .i64 0, .slice none 0 0, .int .u64 0, .int .i64 0, .int .i64 0, .int .u64 0, .bool false, .int .i64 0] 30) := ⟨_, rfl⟩
      have HQ9 : Hid (GoQ (fun k => F k ∨ k = w7.heap.size) w wT ⟨⟨e0, y0, q0, t0, L0, f0, o0, v0, d0, s0, x0⟩, ⟨e1, y1, q1, t1, L1, f1, o1, v1, d1, s1, x1⟩, G0, G1, N'⟩ ⟨la, ln, lc⟩ ⟨ma, mn, mc⟩ ⟨ga, gn, gc⟩ ⟨ha, hn, hc⟩ ⟨za, zn, zc⟩ (m + 1) (.slice none 0 0) []) := Lib.hid (by rw [hw9]; exact HQ8.out.aside _)
      have k9 : wT.heap[w.heap.size]? = some (.cells #[.int .i64 e0, .int .i64 y0, .int .i64 q0, .int .i64 t0, .slice la ln lc, .int .u64 f0, .int .i64 o0, .int .i64 v0, .int .u64 d0, .bool s0, .int .i64 x0, .int .i64 e1, .int .i64 y1, .int .i64 q1, .int .i64 t1, .slice ma mn mc, .int .u64 f1, .int .i64 o1, .int .i64 v1, .int .u64 d1, .bool s1, .int .i64 x1, .slice ga gn gc, .slice ha hn hc, .int .i64 N'.n, .int .i64 N'.room, .slice za zn zc] 35 (0, 0)) ∧ wT.heap[w5.heap.size]? = some (.cells #[.int .i64 fk, .int .i64 fe, .int .u64 fq, .int .u64 fa, .string fb] 83 (0, 0)) := ⟨HQ9.out.box, by rw [hw9]; exact old1 k8.2 _⟩
      have kA9 : wT.heap[w7.heap.size]? = some (.cells #[.int .i64 0, .int .i64 0, .int .i64 0, .int .i64 0, .slice none 0 0, .int .u64 0, .int .i64 0, .int .i64 0, .int .u64 0, .bool false, .int .i64 0] 30 (0, 0)) := by rw [hw9]; exact get_alloc_new w7 _
      have hgA : w.heap.size + 2 ≤ w7.heap.size := by have := blk_lt HQ8.out.res; omega
      have hgF : w5.heap.size ≠ w7.heap.size := by have := blk_lt k8.2; omega
      rw [← hw9]
      clear hw9
      refine xone 4 (hk := k9) (h := RunX.of 4 (h := ?_))
      go_simp
      refine (HTK.out (fun k => (F k ∨ k = w7.heap.size) ∨ (w.heap.size ≤ k ∧ k < w.heap.size + 2)) _ _ ⟨_, _, _, rfl, HQ9.out.rp.s0⟩).mono ?_
      rintro ev w8 ⟨v8, rfl, ⟨ea, en, ec, rfl, hs8⟩, x8⟩
      have HQ10 := Lib.hid (HQ9.out.more x8)
      have k10 : w8.heap[w.heap.size]? = some (.cells #[.int .i64 e0, .int .i64 y0, .int .i64 q0, .int .i64 t0, .slice la ln lc, .int .u64 f0, .int .i64 o0, .int .i64 v0, .int .u64 d0, .bool s0, .int .i64 x0, .int .i64 e1, .int .i64 y1, .int .i64 q1, .int .i64 t1, .slice ma mn mc, .int .u64 f1, .int .i64 o1, .int .i64 v1, .int .u64 d1, .bool s1, .int .i64 x1, .slice ga gn gc, .slice ha hn hc, .int .i64 N'.n, .int .i64 N'.room, .slice za zn zc] 35 (0, 0)) ∧ w8.heap[w5.heap.size]? = some (.cells #[.int .i64 fk, .int .i64 fe, .int .u64 fq, .int .u64 fa, .string fb] 83 (0, 0)) := ⟨HQ10.out.box, (x8.block _ (blk_lt k9.2)).trans k9.2⟩
      have kA10 := (x8.block _ (blk_lt kA9)).trans kA9
      have HS10 : Hid (Sa (fun k => (F k ∨ k = w7.heap.size) ∨ (w.heap.size ≤ k ∧ k < w.heap.size + 2)) w8 (.slice ea en ec) E'.l) := Lib.hid hs8
      unfold rCells
      dsimp only
      (try (simp only [Act.put, List.setIfInBounds_toArray, List.set]))
      refine xtv 5 (h := ?_)
      refine xtv 6 (h := ?_)
      refine xtv 7 (h := ?_)
      refine xtv 8 (h := ?_)
      refine xone 10 (hk := k10) (h := RunX.of 10 (h := ?_))
      refine wp_st 30 (.tmp 15) (.tmp 57) ?_ (w7.heap.size) 0 30 #[.int .i64 0, .int .i64 0, .int .i64 0, .int .i64 0, .slice none 0 0, .int .u64 0, .int .i64 0, .int .i64 0, .int .u64 0, .bool false, .int .i64 0] #[.int .i64 E'.e, .int .i64 E'.win, .int .i64 E'.qn, .int .i64 E'.wait, .slice ea en ec, .int .u64 E'.first, .int .i64 E'.out, .int .i64 E'.ever, .int .u64 E'.want, .bool E'.owes, .int .i64 E'.age] #[.int .i64 E'.e, .int .i64 E'.win, .int .i64 E'.qn, .int .i64 E'.wait, .slice ea en ec, .int .u64 E'.first, .int .i64 E'.out, .int .i64 E'.ever, .int .u64 E'.want, .bool E'.owes, .int .i64 E'.age] ?_ ?_ kA10 (by kernel_rfl) (by simp) rfl rfl ?_
      · exact rfl
      · exact rfl
      · exact rfl
      intro WB hbB hoB
      dsimp only
      (try simp only [Act.put])
      have HQB := Lib.hid (HQ10.out.back hoB hgA)
      have HSB : Hid (Sa (fun k => F k ∨ (w.heap.size ≤ k ∧ k < w.heap.size + 2)) WB (.slice ea en ec) E'.l) := Lib.hid (HS10.out.off (hoB.mono fun j hj => .inl (.inr hj)) (grows_back _))
      have kB : WB.heap[w.heap.size]? = some (.cells #[.int .i64 e0, .int .i64 y0, .int .i64 q0, .int .i64 t0, .slice la ln lc, .int .u64 f0, .int .i64 o0, .int .i64 v0, .int .u64 d0, .bool s0, .int .i64 x0, .int .i64 e1, .int .i64 y1, .int .i64 q1, .int .i64 t1, .slice ma mn mc, .int .u64 f1, .int .i64 o1, .int .i64 v1, .int .u64 d1, .bool s1, .int .i64 x1, .slice ga gn gc, .slice ha hn hc, .int .i64 N'.n, .int .i64 N'.room, .slice za zn zc] 35 (0, 0)) ∧ WB.heap[w5.heap.size]? = some (.cells #[.int .i64 fk, .int .i64 fe, .int .u64 fq, .int .u64 fa, .string fb] 83 (0, 0)) := ⟨HQB.out.box, hoB.blk k10.2 hgF⟩
      refine xtv 11 (h := ?_)
      refine xtv 12 (h := ?_)
      (refine xdone (by kernel_rfl) (kB) ?_)
      obtain ⟨⟨j0, j1, j2, j3, j4, j5, j6, j7, j8, j9, j10⟩, _⟩ := cells11 hbB
      go_wp2_with (first | refine haltst 35 ?_ | refine haltld 35 ?_)
      refine .inl ?_
      refine ld_l 35 (.tmp 3) (w.heap.size) 35 #[.int .i64 e0, .int .i64 y0, .int .i64 q0, .int .i64 t0, .slice la ln lc, .int .u64 f0, .int .i64 o0, .int .i64 v0, .int .u64 d0, .bool s0, .int .i64 x0, .int .i64 e1, .int .i64 y1, .int .i64 q1, .int .i64 t1, .slice ma mn mc, .int .u64 f1, .int .i64 o1, .int .i64 v1, .int .u64 d1, .bool s1, .int .i64 x1, .slice ga gn gc, .slice ha hn hc, .int .i64 N'.n, .int .i64 N'.room, .slice za zn zc] rfl (kB.1) uPipe (by kernel_rfl) ?_
      go_wp2_with fail
      refine (HWI.out _ _ _ _ _ E' ⟨ea, en, ec⟩).mono ?_
      rintro ev WC ⟨rfl, xC⟩
      have HQC := Lib.hid (HQB.out.more xC)
      have HSC := Lib.hid (HSB.out.ext xC)
      clear kB HQB HSB hbB hoB j0 j1 j2 j3 j4 j5 j6 j7 j8 j9 j10 xC
      dsimp only
      go_wp2_with (first | refine haltst 35 ?_ | refine haltld 35 ?_)
      refine .inl ?_
      refine st_l 35 (.tmp 3) (.tmp 63) (w.heap.size) 0 35 #[.int .i64 e0, .int .i64 y0, .int .i64 q0, .int .i64 t0, .slice la ln lc, .int .u64 f0, .int .i64 o0, .int .i64 v0, .int .u64 d0, .bool s0, .int .i64 x0, .int .i64 e1, .int .i64 y1, .int .i64 q1, .int .i64 t1, .slice ma mn mc, .int .u64 f1, .int .i64 o1, .int .i64 v1, .int .u64 d1, .bool s1, .int .i64 x1, .slice ga gn gc, .slice ha hn hc, .int .i64 N'.n, .int .i64 N'.room, .slice za zn zc] #[.int .i64 E'.e, .int .i64 E'.win, .int .i64 E'.qn, .int .i64 E'.wait, .slice ea en ec, .int .u64 E'.first, .int .i64 E'.out, .int .i64 E'.ever, .int .u64 E'.want, .bool E'.owes, .int .i64 E'.age, .int .i64 e1, .int .i64 y1, .int .i64 q1, .int .i64 t1, .slice ma mn mc, .int .u64 f1, .int .i64 o1, .int .i64 v1, .int .u64 d1, .bool s1, .int .i64 x1, .slice ga gn gc, .slice ha hn hc, .int .i64 N'.n, .int .i64 N'.room, .slice za zn zc] #[.int .i64 E'.e, .int .i64 E'.win, .int .i64 E'.qn, .int .i64 E'.wait, .slice ea en ec, .int .u64 E'.first, .int .i64 E'.out, .int .i64 E'.ever, .int .u64 E'.want, .bool E'.owes, .int .i64 E'.age, .int .i64 e1, .int .i64 y1, .int .i64 q1, .int .i64 t1, .slice ma mn mc, .int .u64 f1, .int .i64 o1, .int .i64 v1, .int .u64 d1, .bool s1, .int .i64 x1, .slice ga gn gc, .slice ha hn hc, .int .i64 N'.n, .int .i64 N'.room, .slice za zn zc] rfl rfl (HQC.out.box) (by kernel_rfl) (by simp) rfl rfl ?_
      intro WD hbD hoD
      have HQD : Hid (GoQ F w WD ⟨E', ⟨e1, y1, q1, t1, L1, f1, o1, v1, d1, s1, x1⟩, G0, G1, N'⟩ ⟨ea, en, ec⟩ ⟨ma, mn, mc⟩ ⟨ga, gn, gc⟩ ⟨ha, hn, hc⟩ ⟨za, zn, zc⟩ (m + 1) (.slice none 0 0) []) := Lib.hid ⟨hbD, hoD.blk HQC.out.res (by omega), (HQC.out.rp.put0 (E := E') (l := ⟨ea, en, ec⟩) HSC.out).stay hoD (by omega), Sa.nil _ _, ext_off HQC.out.ext hoD (fun j hj => by omega)⟩
      clear hbD hoD HQC HSC
      go_wp2_with (first | refine haltst 35 ?_ | refine haltld 35 ?_)
      refine .inl ?_
      refine ld_l 35 (.tmp 3) (w.heap.size) 35 #[.int .i64 E'.e, .int .i64 E'.win, .int .i64 E'.qn, .int .i64 E'.wait, .slice ea en ec, .int .u64 E'.first, .int .i64 E'.out, .int .i64 E'.ever, .int .u64 E'.want, .bool E'.owes, .int .i64 E'.age, .int .i64 e1, .int .i64 y1, .int .i64 q1, .int .i64 t1, .slice ma mn mc, .int .u64 f1, .int .i64 o1, .int .i64 v1, .int .u64 d1, .bool s1, .int .i64 x1, .slice ga gn gc, .slice ha hn hc, .int .i64 N'.n, .int .i64 N'.room, .slice za zn zc] rfl (HQD.out.box) uPipe (by kernel_rfl) ?_
      go_wp2_with (first | refine haltst 35 ?_ | refine haltld 35 ?_)
      refine .inl ?_
      refine st_l 35 (.tmp 6) (.tmp 90) (w.heap.size + 1) 0 35 #[.int .i64 0, .int .i64 0, .int .i64 0, .int .i64 0, .slice none 0 0, .int .u64 0, .int .i64 0, .int .i64 0, .int .u64 0, .bool false, .int .i64 0, .int .i64 0, .int .i64 0, .int .i64 0, .int .i64 0, .slice none 0 0, .int .u64 0, .int .i64 0, .int .i64 0, .int .u64 0, .bool false, .int .i64 0, .slice none 0 0, .slice none 0 0, .int .i64 0, .int .i64 0, .slice none 0 0] #[.int .i64 E'.e, .int .i64 E'.win, .int .i64 E'.qn, .int .i64 E'.wait, .slice ea en ec, .int .u64 E'.first, .int .i64 E'.out, .int .i64 E'.ever, .int .u64 E'.want, .bool E'.owes, .int .i64 E'.age, .int .i64 e1, .int .i64 y1, .int .i64 q1, .int .i64 t1, .slice ma mn mc, .int .u64 f1, .int .i64 o1, .int .i64 v1, .int .u64 d1, .bool s1, .int .i64 x1, .slice ga gn gc, .slice ha hn hc, .int .i64 N'.n, .int .i64 N'.room, .slice za zn zc] #[.int .i64 E'.e, .int .i64 E'.win, .int .i64 E'.qn, .int .i64 E'.wait, .slice ea en ec, .int .u64 E'.first, .int .i64 E'.out, .int .i64 E'.ever, .int .u64 E'.want, .bool E'.owes, .int .i64 E'.age, .int .i64 e1, .int .i64 y1, .int .i64 q1, .int .i64 t1, .slice ma mn mc, .int .u64 f1, .int .i64 o1, .int .i64 v1, .int .u64 d1, .bool s1, .int .i64 x1, .slice ga gn gc, .slice ha hn hc, .int .i64 N'.n, .int .i64 N'.room, .slice za zn zc] rfl rfl (HQD.out.res) (by kernel_rfl) (by simp) rfl rfl ?_
      intro WZ hbZ hoZ
      go_wp2
      exact bodyPost_ret (v := .tuple #[.agg #[.int .i64 E'.e, .int .i64 E'.win, .int .i64 E'.qn, .int .i64 E'.wait, .slice ea en ec, .int .u64 E'.first, .int .i64 E'.out, .int .i64 E'.ever, .int .u64 E'.want, .bool E'.owes, .int .i64 E'.age, .int .i64 e1, .int .i64 y1, .int .i64 q1, .int .i64 t1, .slice ma mn mc, .int .u64 f1, .int .i64 o1, .int .i64 v1, .int .u64 d1, .bool s1, .int .i64 x1, .slice ga gn gc, .slice ha hn hc, .int .i64 N'.n, .int .i64 N'.room, .slice za zn zc], .string ⟨#[]⟩, .bool false]) (res_ctt 7 8 rfl rfl hbZ uPipe (by kernel_rfl)) rfl ⟨_, rfl, (HQD.out.rp.drop hoZ (by omega)).to, ext_off HQD.out.ext hoZ (fun k hk => by omega)⟩
  · skip
    go_simp
    (try (simp only [Act.put, List.setIfInBounds_toArray, List.set]))
    obtain ⟨wT, hw9⟩ : ∃ W, W = w1.alloc (.cells #[.int .i64 0, .int .i64 0, .int .i64 0, .int .i64 0, .slice none 0 0, .int .u64 0, .int .i64 0, .int .i64 0, .int .u64 0, .bool false, .int .i64 0] 30) := ⟨_, rfl⟩
    have HQ8 : Hid (GoQ (fun k => F k ∨ k = w1.heap.size) w wT ⟨⟨e0, y0, q0, t0, L0, f0, o0, v0, d0, s0, x0⟩, ⟨e1, y1, q1, t1, L1, f1, o1, v1, d1, s1, x1⟩, G0, G1, N'⟩ ⟨la, ln, lc⟩ ⟨ma, mn, mc⟩ ⟨ga, gn, gc⟩ ⟨ha, hn, hc⟩ ⟨za, zn, zc⟩ (m + 1) (.slice none 0 0) []) := Lib.hid (by rw [hw9]; exact HQ7.out.aside _)
    have k8 : wT.heap[w.heap.size]? = some (.cells #[.int .i64 e0, .int .i64 y0, .int .i64 q0, .int .i64 t0, .slice la ln lc, .int .u64 f0, .int .i64 o0, .int .i64 v0, .int .u64 d0, .bool s0, .int .i64 x0, .int .i64 e1, .int .i64 y1, .int .i64 q1, .int .i64 t1, .slice ma mn mc, .int .u64 f1, .int .i64 o1, .int .i64 v1, .int .u64 d1, .bool s1, .int .i64 x1, .slice ga gn gc, .slice ha hn hc, .int .i64 N'.n, .int .i64 N'.room, .slice za zn zc] 35 (0, 0)) ∧ wT.heap[w5.heap.size]? = some (.cells #[.int .i64 fk, .int .i64 fe, .int .u64 fq, .int .u64 fa, .string fb] 83 (0, 0)) := ⟨HQ8.out.box, by rw [hw9]; exact old1 k7.2 _⟩
    have kA8 : wT.heap[w1.heap.size]? = some (.cells #[.int .i64 0, .int .i64 0, .int .i64 0, .int .i64 0, .slice none 0 0, .int .u64 0, .int .i64 0, .int .i64 0, .int .u64 0, .bool false, .int .i64 0] 30 (0, 0)) := by rw [hw9]; exact get_alloc_new w1 _
    have hgA : w.heap.size + 2 ≤ w1.heap.size := by have := blk_lt HQ7.out.res; omega
    have hgF : w5.heap.size ≠ w1.heap.size := by have := blk_lt k7.2; omega
    rw [← hw9]
    clear hw9
    refine xone 2 (hk := k8) (h := RunX.of 2 (h := ?_))
    go_simp
    refine (HE.out _ _ _ _ _).mono ?_
    rintro ev w7 ⟨rfl, x7⟩
    have HQ9 := Lib.hid (HQ8.out.more x7)
    have k9 : w7.heap[w.heap.size]? = some (.cells #[.int .i64 e0, .int .i64 y0, .int .i64 q0, .int .i64 t0, .slice la ln lc, .int .u64 f0, .int .i64 o0, .int .i64 v0, .int .u64 d0, .bool s0, .int .i64 x0, .int .i64 e1, .int .i64 y1, .int .i64 q1, .int .i64 t1, .slice ma mn mc, .int .u64 f1, .int .i64 o1, .int .i64 v1, .int .u64 d1, .bool s1, .int .i64 x1, .slice ga gn gc, .slice ha hn hc, .int .i64 N'.n, .int .i64 N'.room, .slice za zn zc] 35 (0, 0)) ∧ w7.heap[w5.heap.size]? = some (.cells #[.int .i64 fk, .int .i64 fe, .int .u64 fq, .int .u64 fa, .string fb] 83 (0, 0)) := ⟨HQ9.out.box, (x7.block _ (blk_lt k8.2)).trans k8.2⟩
    have kA9 := (x7.block _ (blk_lt kA8)).trans kA8
    dsimp only
    (try (simp only [Act.put, List.setIfInBounds_toArray, List.set]))
    refine xone 4 (hk := k9) (h := RunX.of 4 (h := ?_))
    go_simp
    refine (HTK.out (fun k => (F k ∨ k = w1.heap.size) ∨ (w.heap.size ≤ k ∧ k < w.heap.size + 2)) _ _ ⟨_, _, _, rfl, HQ9.out.rp.s0⟩).mono ?_
    rintro ev w8 ⟨v8, rfl, ⟨ea, en, ec, rfl, hs8⟩, x8⟩
    have HQ10 := Lib.hid (HQ9.out.more x8)
    have k10 : w8.heap[w.heap.size]? = some (.cells #[.int .i64 e0, .int .i64 y0, .int .i64 q0, .int .i64 t0, .slice la ln lc, .int .u64 f0, .int .i64 o0, .int .i64 v0, .int .u64 d0, .bool s0, .int .i64 x0, .int .i64 e1, .int .i64 y1, .int .i64 q1, .int .i64 t1, .slice ma mn mc, .int .u64 f1, .int .i64 o1, .int .i64 v1, .int .u64 d1, .bool s1, .int .i64 x1, .slice ga gn gc, .slice ha hn hc, .int .i64 N'.n, .int .i64 N'.room, .slice za zn zc] 35 (0, 0)) ∧ w8.heap[w5.heap.size]? = some (.cells #[.int .i64 fk, .int .i64 fe, .int .u64 fq, .int .u64 fa, .string fb] 83 (0, 0)) := ⟨HQ10.out.box, (x8.block _ (blk_lt k9.2)).trans k9.2⟩
    have kA10 := (x8.block _ (blk_lt kA9)).trans kA9
    have HS10 : Hid (Sa (fun k => (F k ∨ k = w1.heap.size) ∨ (w.heap.size ≤ k ∧ k < w.heap.size + 2)) w8 (.slice ea en ec) E'.l) := Lib.hid hs8
    unfold rCells
    dsimp only
    (try (simp only [Act.put, List.setIfInBounds_toArray, List.set]))
    refine xtv 5 (h := ?_)
    refine xtv 6 (h := ?_)
    refine xtv 7 (h := ?_)
    refine xtv 8 (h := ?_)
    refine xone 10 (hk := k10) (h := RunX.of 10 (h := ?_))
    refine wp_st 30 (.tmp 15) (.tmp 57) ?_ (w1.heap.size) 0 30 #[.int .i64 0, .int .i64 0, .int .i64 0, .int .i64 0, .slice none 0 0, .int .u64 0, .int .i64 0, .int .i64 0, .int .u64 0, .bool false, .int .i64 0] #[.int .i64 E'.e, .int .i64 E'.win, .int .i64 E'.qn, .int .i64 E'.wait, .slice ea en ec, .int .u64 E'.first, .int .i64 E'.out, .int .i64 E'.ever, .int .u64 E'.want, .bool E'.owes, .int .i64 E'.age] #[.int .i64 E'.e, .int .i64 E'.win, .int .i64 E'.qn, .int .i64 E'.wait, .slice ea en ec, .int .u64 E'.first, .int .i64 E'.out, .int .i64 E'.ever, .int .u64 E'.want, .bool E'.owes, .int .i64 E'.age] ?_ ?_ kA10 (by kernel_rfl) (by simp) rfl rfl ?_
    · exact rfl
    · exact rfl
    · exact rfl
    intro WB hbB hoB
    dsimp only
    (try simp only [Act.put])
    have HQB := Lib.hid (HQ10.out.back hoB hgA)
    have HSB : Hid (Sa (fun k => F k ∨ (w.heap.size ≤ k ∧ k < w.heap.size + 2)) WB (.slice ea en ec) E'.l) := Lib.hid (HS10.out.off (hoB.mono fun j hj => .inl (.inr hj)) (grows_back _))
    have kB : WB.heap[w.heap.size]? = some (.cells #[.int .i64 e0, .int .i64 y0, .int .i64 q0, .int .i64 t0, .slice la ln lc, .int .u64 f0, .int .i64 o0, .int .i64 v0, .int .u64 d0, .bool s0, .int .i64 x0, .int .i64 e1, .int .i64 y1, .int .i64 q1, .int .i64 t1, .slice ma mn mc, .int .u64 f1, .int .i64 o1, .int .i64 v1, .int .u64 d1, .bool s1, .int .i64 x1, .slice ga gn gc, .slice ha hn hc, .int .i64 N'.n, .int .i64 N'.room, .slice za zn zc] 35 (0, 0)) ∧ WB.heap[w5.heap.size]? = some (.cells #[.int .i64 fk, .int .i64 fe, .int .u64 fq, .int .u64 fa, .string fb] 83 (0, 0)) := ⟨HQB.out.box, hoB.blk k10.2 hgF⟩
    refine xtv 11 (h := ?_)
    refine xtv 12 (h := ?_)
    (refine xdone (by kernel_rfl) (kB) ?_)
    obtain ⟨⟨j0, j1, j2, j3, j4, j5, j6, j7, j8, j9, j10⟩, _⟩ := cells11 hbB
    go_wp2_with (first | refine haltst 35 ?_ | refine haltld 35 ?_)
    refine .inl ?_
    refine ld_l 35 (.tmp 3) (w.heap.size) 35 #[.int .i64 e0, .int .i64 y0, .int .i64 q0, .int .i64 t0, .slice la ln lc, .int .u64 f0, .int .i64 o0, .int .i64 v0, .int .u64 d0, .bool s0, .int .i64 x0, .int .i64 e1, .int .i64 y1, .int .i64 q1, .int .i64 t1, .slice ma mn mc, .int .u64 f1, .int .i64 o1, .int .i64 v1, .int .u64 d1, .bool s1, .int .i64 x1, .slice ga gn gc, .slice ha hn hc, .int .i64 N'.n, .int .i64 N'.room, .slice za zn zc] rfl (kB.1) uPipe (by kernel_rfl) ?_
    go_wp2_with fail
    refine (HWI.out _ _ _ _ _ E' ⟨ea, en, ec⟩).mono ?_
    rintro ev WC ⟨rfl, xC⟩
    have HQC := Lib.hid (HQB.out.more xC)
    have HSC := Lib.hid (HSB.out.ext xC)
    clear kB HQB HSB hbB hoB j0 j1 j2 j3 j4 j5 j6 j7 j8 j9 j10 xC
    dsimp only
    go_wp2_with (first | refine haltst 35 ?_ | refine haltld 35 ?_)
    refine .inl ?_
    refine st_l 35 (.tmp 3) (.tmp 63) (w.heap.size) 0 35 #[.int .i64 e0, .int .i64 y0, .int .i64 q0, .int .i64 t0, .slice la ln lc, .int .u64 f0, .int .i64 o0, .int .i64 v0, .int .u64 d0, .bool s0, .int .i64 x0, .int .i64 e1, .int .i64 y1, .int .i64 q1, .int .i64 t1, .slice ma mn mc, .int .u64 f1, .int .i64 o1, .int .i64 v1, .int .u64 d1, .bool s1, .int .i64 x1, .slice ga gn gc, .slice ha hn hc, .int .i64 N'.n, .int .i64 N'.room, .slice za zn zc] #[.int .i64 E'.e, .int .i64 E'.win, .int .i64 E'.qn, .int .i64 E'.wait, .slice ea en ec, .int .u64 E'.first, .int .i64 E'.out, .int .i64 E'.ever, .int .u64 E'.want, .bool E'.owes, .int .i64 E'.age, .int .i64 e1, .int .i64 y1, .int .i64 q1, .int .i64 t1, .slice ma mn mc, .int .u64 f1, .int .i64 o1, .int .i64 v1, .int .u64 d1, .bool s1, .int .i64 x1, .slice ga gn gc, .slice ha hn hc, .int .i64 N'.n, .int .i64 N'.room, .slice za zn zc] #[.int .i64 E'.e, .int .i64 E'.win, .int .i64 E'.qn, .int .i64 E'.wait, .slice ea en ec, .int .u64 E'.first, .int .i64 E'.out, .int .i64 E'.ever, .int .u64 E'.want, .bool E'.owes, .int .i64 E'.age, .int .i64 e1, .int .i64 y1, .int .i64 q1, .int .i64 t1, .slice ma mn mc, .int .u64 f1, .int .i64 o1, .int .i64 v1, .int .u64 d1, .bool s1, .int .i64 x1, .slice ga gn gc, .slice ha hn hc, .int .i64 N'.n, .int .i64 N'.room, .slice za zn zc] rfl rfl (HQC.out.box) (by kernel_rfl) (by simp) rfl rfl ?_
    intro WD hbD hoD
    have HQD : Hid (GoQ F w WD ⟨E', ⟨e1, y1, q1, t1, L1, f1, o1, v1, d1, s1, x1⟩, G0, G1, N'⟩ ⟨ea, en, ec⟩ ⟨ma, mn, mc⟩ ⟨ga, gn, gc⟩ ⟨ha, hn, hc⟩ ⟨za, zn, zc⟩ (m + 1) (.slice none 0 0) []) := Lib.hid ⟨hbD, hoD.blk HQC.out.res (by omega), (HQC.out.rp.put0 (E := E') (l := ⟨ea, en, ec⟩) HSC.out).stay hoD (by omega), Sa.nil _ _, ext_off HQC.out.ext hoD (fun j hj => by omega)⟩
    clear hbD hoD HQC HSC
    go_wp2_with (first | refine haltst 35 ?_ | refine haltld 35 ?_)
    refine .inl ?_
    refine ld_l 35 (.tmp 3) (w.heap.size) 35 #[.int .i64 E'.e, .int .i64 E'.win, .int .i64 E'.qn, .int .i64 E'.wait, .slice ea en ec, .int .u64 E'.first, .int .i64 E'.out, .int .i64 E'.ever, .int .u64 E'.want, .bool E'.owes, .int .i64 E'.age, .int .i64 e1, .int .i64 y1, .int .i64 q1, .int .i64 t1, .slice ma mn mc, .int .u64 f1, .int .i64 o1, .int .i64 v1, .int .u64 d1, .bool s1, .int .i64 x1, .slice ga gn gc, .slice ha hn hc, .int .i64 N'.n, .int .i64 N'.room, .slice za zn zc] rfl (HQD.out.box) uPipe (by kernel_rfl) ?_
    go_wp2_with (first | refine haltst 35 ?_ | refine haltld 35 ?_)
    refine .inl ?_
    refine st_l 35 (.tmp 6) (.tmp 90) (w.heap.size + 1) 0 35 #[.int .i64 0, .int .i64 0, .int .i64 0, .int .i64 0, .slice none 0 0, .int .u64 0, .int .i64 0, .int .i64 0, .int .u64 0, .bool false, .int .i64 0, .int .i64 0, .int .i64 0, .int .i64 0, .int .i64 0, .slice none 0 0, .int .u64 0, .int .i64 0, .int .i64 0, .int .u64 0, .bool false, .int .i64 0, .slice none 0 0, .slice none 0 0, .int .i64 0, .int .i64 0, .slice none 0 0] #[.int .i64 E'.e, .int .i64 E'.win, .int .i64 E'.qn, .int .i64 E'.wait, .slice ea en ec, .int .u64 E'.first, .int .i64 E'.out, .int .i64 E'.ever, .int .u64 E'.want, .bool E'.owes, .int .i64 E'.age, .int .i64 e1, .int .i64 y1, .int .i64 q1, .int .i64 t1, .slice ma mn mc, .int .u64 f1, .int .i64 o1, .int .i64 v1, .int .u64 d1, .bool s1, .int .i64 x1, .slice ga gn gc, .slice ha hn hc, .int .i64 N'.n, .int .i64 N'.room, .slice za zn zc] #[.int .i64 E'.e, .int .i64 E'.win, .int .i64 E'.qn, .int .i64 E'.wait, .slice ea en ec, .int .u64 E'.first, .int .i64 E'.out, .int .i64 E'.ever, .int .u64 E'.want, .bool E'.owes, .int .i64 E'.age, .int .i64 e1, .int .i64 y1, .int .i64 q1, .int .i64 t1, .slice ma mn mc, .int .u64 f1, .int .i64 o1, .int .i64 v1, .int .u64 d1, .bool s1, .int .i64 x1, .slice ga gn gc, .slice ha hn hc, .int .i64 N'.n, .int .i64 N'.room, .slice za zn zc] rfl rfl (HQD.out.res) (by kernel_rfl) (by simp) rfl rfl ?_
    intro WZ hbZ hoZ
    go_wp2
    exact bodyPost_ret (v := .tuple #[.agg #[.int .i64 E'.e, .int .i64 E'.win, .int .i64 E'.qn, .int .i64 E'.wait, .slice ea en ec, .int .u64 E'.first, .int .i64 E'.out, .int .i64 E'.ever, .int .u64 E'.want, .bool E'.owes, .int .i64 E'.age, .int .i64 e1, .int .i64 y1, .int .i64 q1, .int .i64 t1, .slice ma mn mc, .int .u64 f1, .int .i64 o1, .int .i64 v1, .int .u64 d1, .bool s1, .int .i64 x1, .slice ga gn gc, .slice ha hn hc, .int .i64 N'.n, .int .i64 N'.room, .slice za zn zc], .string ⟨#[]⟩, .bool false]) (res_ctt 7 8 rfl rfl hbZ uPipe (by kernel_rfl)) rfl ⟨_, rfl, (HQD.out.rp.drop hoZ (by omega)).to, ext_off HQD.out.ext hoZ (fun k hk => by omega)⟩

set_option maxRecDepth 50000 in
set_option maxHeartbeats 12800000 in
theorem rComeF1n (F : Nat → Prop) (w : World) (hF : ∀ k, F k → k < w.heap.size) (P : PipeS) (l0 l1 g0 g1 ws : SV) (m : Nat) (ok : P.Ok) (h : RP F w P l0 l1 g0 g1 ws m) (hm : m ≤ 5000) (two : P.net.n = 2) (k : Int) (hth0 : P.there 1 k = true) (hwh : whatN (P.net.look (1 - 1) 1 k) = 0) (hto : P.e1.told (frOf (P.net.look (1 - 1) 1 k)) = false) :
    Calls Tryz.prog 15 #[.agg (pcs P l0 l1 g0 g1 ws), .int .i64 1, .int .i64 k] w fun ev w' => ∃ v', ev = .returned (.tuple #[v', .string (P.comeB 1 k), .bool (P.comeY 1 k)]) ∧ RPipe F w' v' (P.come 1 k) (m + 1) ∧ Ext w w' := by
  have H := Lib.hid h
  have HF := Lib.hid hF
  have okN := ok.net
  have okE0 := ok.e0
  have okE1 := ok.e1
  have wr := net_wrap okN two 1 k 0
  obtain ⟨c1, c2, c3⟩ := come_yes hth0
  rw [c3, c2, c1]
  have hth : P.net.there (1 - 1) 1 k = true := hth0
  have hbs : (P.net.look (1 - 1) 1 k).size ≤ 1000 := NetS.look_short okN _ _ _
  have hfi := frOf_in9 hbs
  have htk := takeF1 P (P.net.deliver (1 - 1) 1 k) (frOf (P.net.look (1 - 1) 1 k))
  rw [hto] at htk
  rw [if_pos hwh, decide_eq_true hwh, Bool.true_and, htk]
  show Calls _ _ _ _ (fun ev w' => ∃ v', ev = .returned (.tuple #[v', .string (if P.e1.told (frOf (P.net.look (1 - 1) 1 k)) = true then (frOf (P.net.look (1 - 1) 1 k)).b else ⟨#[]⟩), .bool (P.e1.told (frOf (P.net.look (1 - 1) 1 k)))]) ∧ _)
  rw [hto, if_neg (by decide)]
  obtain ⟨⟨e0, y0, q0, t0, L0, f0, o0, v0, d0, s0, x0⟩, ⟨e1, y1, q1, t1, L1, f1, o1, v1, d1, s1, x1⟩, G0, G1, N⟩ := P
  obtain ⟨la, ln, lc⟩ := l0
  obtain ⟨ma, mn, mc⟩ := l1
  obtain ⟨ga, gn, gc⟩ := g0
  obtain ⟨ha, hn, hc⟩ := g1
  obtain ⟨wa, wn, wc⟩ := ws
  dsimp only at okN wr okE0 okE1
  have HR := Lib.hid (fun (W : World) (x : Ext w W) => H.out.boxes (n := 2) x)
  have HNT := Lib.hid (fun (W : World) (x : Ext w W) => (HR.out W x).net)
  have HG : Hid (∀ (W : World), w.heap.size + 2 ≤ W.heap.size → ∀ k, (fun k => F k ∨ (w.heap.size ≤ k ∧ k < w.heap.size + 2)) k → k < W.heap.size) := Lib.hid (fun W hW k hk => by
    rcases hk with hk | hk
    · have := HF.out k hk; omega
    · omega)
  dsimp only at hth hbs hwh hto hfi ⊢
  obtain ⟨N', hN'⟩ : ∃ N', N' = N.deliver (1 - 1) 1 k := ⟨_, rfl⟩
  obtain ⟨B, hB⟩ : ∃ B, B = N.look (1 - 1) 1 k := ⟨_, rfl⟩
  have HD : Hid (∀ (G : Nat → Prop) (W : World), (∀ k, G k → k < W.heap.size) → RNet G W (.agg #[.int .i64 N.n, .int .i64 N.room, .slice wa wn wc]) N m → Calls Tryz.prog 52 #[.agg #[.int .i64 N.n, .int .i64 N.room, .slice wa wn wc], .int .i64 0, .int .i64 1, .int .i64 k] W (fun e w' => ∃ v', e = .returned (.tuple #[v', .string B, .bool true]) ∧ RNet G w' v' N' (m + 1) ∧ Ext W w')) := Lib.hid (fun G W hW hv => by
    have h9 := refDeliver_any G W hW _ N m hv hm okN (1 - 1) 1 k
    rw [← hN', ← hB, hth] at h9
    exact h9)
  rw [← hN']
  try rw [← hB]
  rw [← hB] at hbs hwh hto hfi
  have cG := fun W => refGet_any W B (Nat.le_trans hbs (by decide))
  unfold GetsR at cG
  obtain ⟨wn8, hwn8⟩ : ∃ wn8, wn8 = whereN B := ⟨_, rfl⟩
  rw [hwh, ← hwn8, show getF B = frOf B from by unfold getF; rw [hwh, if_pos rfl]] at cG
  obtain ⟨f, hf⟩ : ∃ f, f = frOf B := ⟨_, rfl⟩
  rw [← hf] at cG hto hfi
  try rw [← hf]
  unfold frV at cG
  have cT := fun (G : Nat → Prop) (W : World) (v : Value) hv => refTake_any G W v ⟨e1, y1, q1, t1, L1, f1, o1, v1, d1, s1, x1⟩ okE1 hv f hfi.2.1
  unfold TakesR EndS.body at cT
  rw [hto, if_neg (by decide)] at cT
  obtain ⟨E', hE'⟩ : ∃ E', E' = EndS.take ⟨e1, y1, q1, t1, L1, f1, o1, v1, d1, s1, x1⟩ f := ⟨_, rfl⟩
  rw [← hE'] at cT
  rw [← hE']
  have hfb := hfi.2.2
  obtain ⟨fk, fe, fq, fa, fb⟩ := f
  dsimp only at cG cT hfb ⊢
  have HCG := Lib.hid cG
  have HTK := Lib.hid cT
  have cE := fun (W : World) (M : NetS) (za : Option Addr) (zn zc : Nat) => rEnd_any W ⟨⟨e0, y0, q0, t0, L0, f0, o0, v0, d0, s0, x0⟩, ⟨e1, y1, q1, t1, L1, f1, o1, v1, d1, s1, x1⟩, G0, G1, M⟩ ⟨la, ln, lc⟩ ⟨ma, mn, mc⟩ ⟨ga, gn, gc⟩ ⟨ha, hn, hc⟩ ⟨za, zn, zc⟩ 1 (by decide)
  unfold pcs rCells PipeS.end' at cE
  dsimp only [SV.v] at cE
  simp only [show ¬ (1 : Int) = 0 by decide, reduceIte] at cE
  have HE := Lib.hid cE
  have cW := fun (W : World) (M : NetS) (za : Option Addr) (zn zc : Nat) (E : EndS) (l : SV) => rWith1 W ⟨⟨e0, y0, q0, t0, L0, f0, o0, v0, d0, s0, x0⟩, ⟨e1, y1, q1, t1, L1, f1, o1, v1, d1, s1, x1⟩, G0, G1, M⟩ ⟨la, ln, lc⟩ ⟨ma, mn, mc⟩ ⟨ga, gn, gc⟩ ⟨ha, hn, hc⟩ ⟨za, zn, zc⟩ E l
  unfold pcs rCells at cW
  dsimp only [SV.v] at cW
  have HWI := Lib.hid cW
  unfold pcs
  dsimp only [SV.v]
  clear h hF ok hN' hB wr okN two hm c1 c2 c3 hth hth0 okE0 okE1 cG hwn8 hf hwh hbs hto hfi cT cE cW hE' htk
  go_enter Tryz.func15, Tryz.ntmps15
  go_wp2_with fail
  refine (HD.out (fun k => F k ∨ (w.heap.size ≤ k ∧ k < w.heap.size + 2)) _ (HG.out _ (by rw [size_alloc, size_alloc]; omega)) (HNT.out _ (Ext.alloc (Ext.alloc (Ext.refl w) _) _))).mono ?_
  rintro ev w2 ⟨v2, rfl, ⟨za, zn, zc, L9, rfl, hr9⟩, x2⟩
  have HX2 := Lib.hid (Ext.trans (Ext.alloc (Ext.alloc (Ext.refl w) _) _) x2)
  have HN2 : Hid (RNet (fun k => F k ∨ (w.heap.size ≤ k ∧ k < w.heap.size + 2)) w2 (.agg #[.int .i64 N'.n, .int .i64 N'.room, .slice za zn zc]) N' (m + 1)) := Lib.hid ⟨za, zn, zc, L9, rfl, hr9⟩
  have k2 : w2.heap[w.heap.size]? = some (.cells #[.int .i64 e0, .int .i64 y0, .int .i64 q0, .int .i64 t0, .slice la ln lc, .int .u64 f0, .int .i64 o0, .int .i64 v0, .int .u64 d0, .bool s0, .int .i64 x0, .int .i64 e1, .int .i64 y1, .int .i64 q1, .int .i64 t1, .slice ma mn mc, .int .u64 f1, .int .i64 o1, .int .i64 v1, .int .u64 d1, .bool s1, .int .i64 x1, .slice ga gn gc, .slice ha hn hc, .int .i64 N.n, .int .i64 N.room, .slice wa wn wc] 35 (0, 0)) ∧ w2.heap[w.heap.size + 1]? = some (.cells #[.int .i64 0, .int .i64 0, .int .i64 0, .int .i64 0, .slice none 0 0, .int .u64 0, .int .i64 0, .int .i64 0, .int .u64 0, .bool false, .int .i64 0, .int .i64 0, .int .i64 0, .int .i64 0, .int .i64 0, .slice none 0 0, .int .u64 0, .int .i64 0, .int .i64 0, .int .u64 0, .bool false, .int .i64 0, .slice none 0 0, .slice none 0 0, .int .i64 0, .int .i64 0, .slice none 0 0] 35 (0, 0)) := ⟨(x2.block _ (by rw [size_alloc, size_alloc]; omega)).trans (old1 (at0 w _) _), (x2.block _ (by rw [size_alloc, size_alloc]; omega)).trans (at1 w _ _)⟩
  clear x2 hr9
  dsimp only
  go_wp2_with (first | refine haltst (x := .tmp 41) 33 ?_)
  refine .inl ?_
  refine st_l 33 (.tmp 41) (.tmp 40) (w.heap.size) 24 35 #[.int .i64 e0, .int .i64 y0, .int .i64 q0, .int .i64 t0, .slice la ln lc, .int .u64 f0, .int .i64 o0, .int .i64 v0, .int .u64 d0, .bool s0, .int .i64 x0, .int .i64 e1, .int .i64 y1, .int .i64 q1, .int .i64 t1, .slice ma mn mc, .int .u64 f1, .int .i64 o1, .int .i64 v1, .int .u64 d1, .bool s1, .int .i64 x1, .slice ga gn gc, .slice ha hn hc, .int .i64 N.n, .int .i64 N.room, .slice wa wn wc] #[.int .i64 N'.n, .int .i64 N'.room, .slice za zn zc] #[.int .i64 e0, .int .i64 y0, .int .i64 q0, .int .i64 t0, .slice la ln lc, .int .u64 f0, .int .i64 o0, .int .i64 v0, .int .u64 d0, .bool s0, .int .i64 x0, .int .i64 e1, .int .i64 y1, .int .i64 q1, .int .i64 t1, .slice ma mn mc, .int .u64 f1, .int .i64 o1, .int .i64 v1, .int .u64 d1, .bool s1, .int .i64 x1, .slice ga gn gc, .slice ha hn hc, .int .i64 N'.n, .int .i64 N'.room, .slice za zn zc] rfl rfl (old1 k2.1 _) (by kernel_rfl) (by simp) rfl rfl ?_
  intro W3 hb3 ho3
  have HQ3 : Hid (GoQ F w W3 ⟨⟨e0, y0, q0, t0, L0, f0, o0, v0, d0, s0, x0⟩, ⟨e1, y1, q1, t1, L1, f1, o1, v1, d1, s1, x1⟩, G0, G1, N'⟩ ⟨la, ln, lc⟩ ⟨ma, mn, mc⟩ ⟨ga, gn, gc⟩ ⟨ha, hn, hc⟩ ⟨za, zn, zc⟩ (m + 1) (.slice none 0 0) []) := Lib.hid ⟨hb3, ho3.blk (old1 k2.2 _) (by omega), (((HR.out _ HX2.out).putN (x := ⟨za, zn, zc⟩) HN2.out (Nat.le_succ m)).ext (Ext.alloc (Ext.refl w2) _)).stay ho3 (by omega), Sa.nil _ _, ext_off (Ext.trans HX2.out (Ext.alloc (Ext.refl w2) _)) ho3 (fun k hk => by omega)⟩
  clear hb3 ho3 k2 HN2
  go_wp2_with fail
  refine (HCG.out _).mono ?_
  rintro ev w5 ⟨rfl, x5⟩
  have HQ5 := Lib.hid (HQ3.out.more x5)
  clear x5 HQ3
  dsimp only
  go_wp2_with fail
  (refine wp_region_X_lit (K := fun W => W.heap[w.heap.size]? = some (.cells #[.int .i64 e0, .int .i64 y0, .int .i64 q0, .int .i64 t0, .slice la ln lc, .int .u64 f0, .int .i64 o0, .int .i64 v0, .int .u64 d0, .bool s0, .int .i64 x0, .int .i64 e1, .int .i64 y1, .int .i64 q1, .int .i64 t1, .slice ma mn mc, .int .u64 f1, .int .i64 o1, .int .i64 v1, .int .u64 d1, .bool s1, .int .i64 x1, .slice ga gn gc, .slice ha hn hc, .int .i64 N'.n, .int .i64 N'.room, .slice za zn zc] 35 (0, 0)) ∧ W.heap[w5.heap.size]? = some (.cells #[.int .i64 fk, .int .i64 fe, .int .u64 fq, .int .u64 fa, .string fb] 83 (0, 0))) (by kernel_rfl) (fun w1 hw1 => ?_))
  have HQ7 := Lib.hid (HQ5.out.more (Ext.trans (Ext.alloc (Ext.refl w5) _) hw1))
  have k7 : w1.heap[w.heap.size]? = some (.cells #[.int .i64 e0, .int .i64 y0, .int .i64 q0, .int .i64 t0, .slice la ln lc, .int .u64 f0, .int .i64 o0, .int .i64 v0, .int .u64 d0, .bool s0, .int .i64 x0, .int .i64 e1, .int .i64 y1, .int .i64 q1, .int .i64 t1, .slice ma mn mc, .int .u64 f1, .int .i64 o1, .int .i64 v1, .int .u64 d1, .bool s1, .int .i64 x1, .slice ga gn gc, .slice ha hn hc, .int .i64 N'.n, .int .i64 N'.room, .slice za zn zc] 35 (0, 0)) ∧ w1.heap[w5.heap.size]? = some (.cells #[.int .i64 fk, .int .i64 fe, .int .u64 fq, .int .u64 fa, .string fb] 83 (0, 0)) := ⟨HQ7.out.box, (hw1.block _ (by rw [size_alloc]; omega)).trans (get_alloc_new w5 _)⟩
  clear hw1 HQ5
  refine xtv 0 (hv := fun w' hw' => ld_op (cs := #[.int .i64 e0, .int .i64 y0, .int .i64 q0, .int .i64 t0, .slice la ln lc, .int .u64 f0, .int .i64 o0, .int .i64 v0, .int .u64 d0, .bool s0, .int .i64 x0, .int .i64 e1, .int .i64 y1, .int .i64 q1, .int .i64 t1, .slice ma mn mc, .int .u64 f1, .int .i64 o1, .int .i64 v1, .int .u64 d1, .bool s1, .int .i64 x1, .slice ga gn gc, .slice ha hn hc, .int .i64 N'.n, .int .i64 N'.room, .slice za zn zc]) rfl rfl (hw'.1) uPipe (by kernel_rfl)) (h := ?_)
  refine xtv 1 (h := ?_)
  refine xtv 3 (hv := by intro w' hw'; obtain ⟨⟨r0, r1, r2, r3, r4⟩, _⟩ := cells5 hw'.2; go_simp; first | done | with_reducible rfl) (h := ?_)
  refine xtwo 2 9 (hk := k7) (h := RunX.of 2 (h := ?_)) (h' := RunX.of 9 (h := ?_))
  · skip
    go_simp
    refine (HE.out _ _ _ _ _).mono ?_
    rintro ev w7 ⟨rfl, x7⟩
    have HQ8 := Lib.hid (HQ7.out.more x7)
    have k8 : w7.heap[w.heap.size]? = some (.cells #[.int .i64 e0, .int .i64 y0, .int .i64 q0, .int .i64 t0, .slice la ln lc, .int .u64 f0, .int .i64 o0, .int .i64 v0, .int .u64 d0, .bool s0, .int .i64 x0, .int .i64 e1, .int .i64 y1, .int .i64 q1, .int .i64 t1, .slice ma mn mc, .int .u64 f1, .int .i64 o1, .int .i64 v1, .int .u64 d1, .bool s1, .int .i64 x1, .slice ga gn gc, .slice ha hn hc, .int .i64 N'.n, .int .i64 N'.room, .slice za zn zc] 35 (0, 0)) ∧ w7.heap[w5.heap.size]? = some (.cells #[.int .i64 fk, .int .i64 fe, .int .u64 fq, .int .u64 fa, .string fb] 83 (0, 0)) := ⟨HQ8.out.box, (x7.block _ (blk_lt k7.2)).trans k7.2⟩
    dsimp only
    (try (simp only [Act.put, List.setIfInBounds_toArray, List.set]))
    refine xtwo 4 9 (hk := k8) (h := RunX.of 4 (h := ?_)) (h' := RunX.of 9 (h := ?_))
    · skip
      go_simp
      refine (HTK.out (fun k => F k ∨ (w.heap.size ≤ k ∧ k < w.heap.size + 2)) _ _ ⟨_, _, _, rfl, HQ8.out.rp.s1⟩).mono ?_
      rintro ev w8 ⟨v8, rfl, ⟨ea, en, ec, rfl, hs8⟩, x8⟩
      have HQ9 := Lib.hid (HQ8.out.more x8)
      have k9 : w8.heap[w.heap.size]? = some (.cells #[.int .i64 e0, .int .i64 y0, .int .i64 q0, .int .i64 t0, .slice la ln lc, .int .u64 f0, .int .i64 o0, .int .i64 v0, .int .u64 d0, .bool s0, .int .i64 x0, .int .i64 e1, .int .i64 y1, .int .i64 q1, .int .i64 t1, .slice ma mn mc, .int .u64 f1, .int .i64 o1, .int .i64 v1, .int .u64 d1, .bool s1, .int .i64 x1, .slice ga gn gc, .slice ha hn hc, .int .i64 N'.n, .int .i64 N'.room, .slice za zn zc] 35 (0, 0)) ∧ w8.heap[w5.heap.size]? = some (.cells #[.int .i64 fk, .int .i64 fe, .int .u64 fq, .int .u64 fa, .string fb] 83 (0, 0)) := ⟨HQ9.out.box, (x8.block _ (blk_lt k8.2)).trans k8.2⟩
      have HS9 : Hid (Sa (fun k => F k ∨ (w.heap.size ≤ k ∧ k < w.heap.size + 2)) w8 (.slice ea en ec) E'.l) := Lib.hid hs8
      unfold rCells
      dsimp only
      (try (simp only [Act.put, List.setIfInBounds_toArray, List.set]))
      refine xtv 5 (h := ?_)
      refine xtv 6 (h := ?_)
      refine xtv 7 (h := ?_)
      refine xtv 8 (h := ?_)
      refine xone 9 (hk := k9) (h := RunX.of 9 (h := ?_))
      go_simp
      (try (simp only [Act.put, List.setIfInBounds_toArray, List.set]))
      obtain ⟨wT, hw9⟩ : ∃ W, W = w8.alloc (.cells #[.int .i64 0, .int .i64 0, .int .i64 0, .int .i64 0, .slice none 0 0, .int .u64 0, .int .i64 0, .int .i64 0, .int .u64 0, .bool false, .int .i64 0] 30) := ⟨_, rfl⟩
      have HQ10 : Hid (GoQ (fun k => F k ∨ k = w8.heap.size) w wT ⟨⟨e0, y0, q0, t0, L0, f0, o0, v0, d0, s0, x0⟩, ⟨e1, y1, q1, t1, L1, f1, o1, v1, d1, s1, x1⟩, G0, G1, N'⟩ ⟨la, ln, lc⟩ ⟨ma, mn, mc⟩ ⟨ga, gn, gc⟩ ⟨ha, hn, hc⟩ ⟨za, zn, zc⟩ (m + 1) (.slice none 0 0) []) := Lib.hid (by rw [hw9]; exact HQ9.out.aside _)
      have k10 : wT.heap[w.heap.size]? = some (.cells #[.int .i64 e0, .int .i64 y0, .int .i64 q0, .int .i64 t0, .slice la ln lc, .int .u64 f0, .int .i64 o0, .int .i64 v0, .int .u64 d0, .bool s0, .int .i64 x0, .int .i64 e1, .int .i64 y1, .int .i64 q1, .int .i64 t1, .slice ma mn mc, .int .u64 f1, .int .i64 o1, .int .i64 v1, .int .u64 d1, .bool s1, .int .i64 x1, .slice ga gn gc, .slice ha hn hc, .int .i64 N'.n, .int .i64 N'.room, .slice za zn zc] 35 (0, 0)) ∧ wT.heap[w5.heap.size]? = some (.cells #[.int .i64 fk, .int .i64 fe, .int .u64 fq, .int .u64 fa, .string fb] 83 (0, 0)) := ⟨HQ10.out.box, by rw [hw9]; exact old1 k9.2 _⟩
      have kA10 : wT.heap[w8.heap.size]? = some (.cells #[.int .i64 0, .int .i64 0, .int .i64 0, .int .i64 0, .slice none 0 0, .int .u64 0, .int .i64 0, .int .i64 0, .int .u64 0, .bool false, .int .i64 0] 30 (0, 0)) := by rw [hw9]; exact get_alloc_new w8 _
      have hgA : w.heap.size + 2 ≤ w8.heap.size := by have := blk_lt HQ9.out.res; omega
      have hgF : w5.heap.size ≠ w8.heap.size := by have := blk_lt k9.2; omega
      have HS10 : Hid (Sa (fun k => (F k ∨ k = w8.heap.size) ∨ (w.heap.size ≤ k ∧ k < w.heap.size + 2)) wT (.slice ea en ec) E'.l) := Lib.hid (by rw [hw9]; exact sa_aside HS9.out hgA _)
      rw [← hw9]
      clear hw9
      refine xone 10 (hk := k10) (h := RunX.of 10 (h := ?_))
      refine wp_st 30 (.tmp 15) (.tmp 57) ?_ (w8.heap.size) 0 30 #[.int .i64 0, .int .i64 0, .int .i64 0, .int .i64 0, .slice none 0 0, .int .u64 0, .int .i64 0, .int .i64 0, .int .u64 0, .bool false, .int .i64 0] #[.int .i64 E'.e, .int .i64 E'.win, .int .i64 E'.qn, .int .i64 E'.wait, .slice ea en ec, .int .u64 E'.first, .int .i64 E'.out, .int .i64 E'.ever, .int .u64 E'.want, .bool E'.owes, .int .i64 E'.age] #[.int .i64 E'.e, .int .i64 E'.win, .int .i64 E'.qn, .int .i64 E'.wait, .slice ea en ec, .int .u64 E'.first, .int .i64 E'.out, .int .i64 E'.ever, .int .u64 E'.want, .bool E'.owes, .int .i64 E'.age] ?_ ?_ kA10 (by kernel_rfl) (by simp) rfl rfl ?_
      · exact rfl
      · exact rfl
      · exact rfl
      intro WB hbB hoB
      dsimp only
      (try simp only [Act.put])
      have HQB := Lib.hid (HQ10.out.back hoB hgA)
      have HSB : Hid (Sa (fun k => F k ∨ (w.heap.size ≤ k ∧ k < w.heap.size + 2)) WB (.slice ea en ec) E'.l) := Lib.hid (HS10.out.off (hoB.mono fun j hj => .inl (.inr hj)) (grows_back _))
      have kB : WB.heap[w.heap.size]? = some (.cells #[.int .i64 e0, .int .i64 y0, .int .i64 q0, .int .i64 t0, .slice la ln lc, .int .u64 f0, .int .i64 o0, .int .i64 v0, .int .u64 d0, .bool s0, .int .i64 x0, .int .i64 e1, .int .i64 y1, .int .i64 q1, .int .i64 t1, .slice ma mn mc, .int .u64 f1, .int .i64 o1, .int .i64 v1, .int .u64 d1, .bool s1, .int .i64 x1, .slice ga gn gc, .slice ha hn hc, .int .i64 N'.n, .int .i64 N'.room, .slice za zn zc] 35 (0, 0)) ∧ WB.heap[w5.heap.size]? = some (.cells #[.int .i64 fk, .int .i64 fe, .int .u64 fq, .int .u64 fa, .string fb] 83 (0, 0)) := ⟨HQB.out.box, hoB.blk k10.2 hgF⟩
      refine xtv 11 (h := ?_)
      refine xtv 12 (h := ?_)
      (refine xdone (by kernel_rfl) (kB) ?_)
      obtain ⟨⟨j0, j1, j2, j3, j4, j5, j6, j7, j8, j9, j10⟩, _⟩ := cells11 hbB
      go_wp2_with (first | refine haltst 35 ?_ | refine haltld 35 ?_)
      refine .inl ?_
      refine ld_l 35 (.tmp 3) (w.heap.size) 35 #[.int .i64 e0, .int .i64 y0, .int .i64 q0, .int .i64 t0, .slice la ln lc, .int .u64 f0, .int .i64 o0, .int .i64 v0, .int .u64 d0, .bool s0, .int .i64 x0, .int .i64 e1, .int .i64 y1, .int .i64 q1, .int .i64 t1, .slice ma mn mc, .int .u64 f1, .int .i64 o1, .int .i64 v1, .int .u64 d1, .bool s1, .int .i64 x1, .slice ga gn gc, .slice ha hn hc, .int .i64 N'.n, .int .i64 N'.room, .slice za zn zc] rfl (kB.1) uPipe (by kernel_rfl) ?_
      go_wp2_with fail
      refine (HWI.out _ _ _ _ _ E' ⟨ea, en, ec⟩).mono ?_
      rintro ev WC ⟨rfl, xC⟩
      have HQC := Lib.hid (HQB.out.more xC)
      have HSC := Lib.hid (HSB.out.ext xC)
      clear kB HQB HSB hbB hoB j0 j1 j2 j3 j4 j5 j6 j7 j8 j9 j10 xC
      dsimp only
      go_wp2_with (first | refine haltst 35 ?_ | refine haltld 35 ?_)
      refine .inl ?_
      refine st_l 35 (.tmp 3) (.tmp 63) (w.heap.size) 0 35 #[.int .i64 e0, .int .i64 y0, .int .i64 q0, .int .i64 t0, .slice la ln lc, .int .u64 f0, .int .i64 o0, .int .i64 v0, .int .u64 d0, .bool s0, .int .i64 x0, .int .i64 e1, .int .i64 y1, .int .i64 q1, .int .i64 t1, .slice ma mn mc, .int .u64 f1, .int .i64 o1, .int .i64 v1, .int .u64 d1, .bool s1, .int .i64 x1, .slice ga gn gc, .slice ha hn hc, .int .i64 N'.n, .int .i64 N'.room, .slice za zn zc] #[.int .i64 e0, .int .i64 y0, .int .i64 q0, .int .i64 t0, .slice la ln lc, .int .u64 f0, .int .i64 o0, .int .i64 v0, .int .u64 d0, .bool s0, .int .i64 x0, .int .i64 E'.e, .int .i64 E'.win, .int .i64 E'.qn, .int .i64 E'.wait, .slice ea en ec, .int .u64 E'.first, .int .i64 E'.out, .int .i64 E'.ever, .int .u64 E'.want, .bool E'.owes, .int .i64 E'.age, .slice ga gn gc, .slice ha hn hc, .int .i64 N'.n, .int .i64 N'.room, .slice za zn zc] #[.int .i64 e0, .int .i64 y0, .int .i64 q0, .int .i64 t0, .slice la ln lc, .int .u64 f0, .int .i64 o0, .int .i64 v0, .int .u64 d0, .bool s0, .int .i64 x0, .int .i64 E'.e, .int .i64 E'.win, .int .i64 E'.qn, .int .i64 E'.wait, .slice ea en ec, .int .u64 E'.first, .int .i64 E'.out, .int .i64 E'.ever, .int .u64 E'.want, .bool E'.owes, .int .i64 E'.age, .slice ga gn gc, .slice ha hn hc, .int .i64 N'.n, .int .i64 N'.room, .slice za zn zc] rfl rfl (HQC.out.box) (by kernel_rfl) (by simp) rfl rfl ?_
      intro WD hbD hoD
      have HQD : Hid (GoQ F w WD ⟨⟨e0, y0, q0, t0, L0, f0, o0, v0, d0, s0, x0⟩, E', G0, G1, N'⟩ ⟨la, ln, lc⟩ ⟨ea, en, ec⟩ ⟨ga, gn, gc⟩ ⟨ha, hn, hc⟩ ⟨za, zn, zc⟩ (m + 1) (.slice none 0 0) []) := Lib.hid ⟨hbD, hoD.blk HQC.out.res (by omega), (HQC.out.rp.put1 (E := E') (l := ⟨ea, en, ec⟩) HSC.out).stay hoD (by omega), Sa.nil _ _, ext_off HQC.out.ext hoD (fun j hj => by omega)⟩
      clear hbD hoD HQC HSC
      go_wp2_with (first | refine haltst 35 ?_ | refine haltld 35 ?_)
      refine .inl ?_
      refine ld_l 35 (.tmp 3) (w.heap.size) 35 #[.int .i64 e0, .int .i64 y0, .int .i64 q0, .int .i64 t0, .slice la ln lc, .int .u64 f0, .int .i64 o0, .int .i64 v0, .int .u64 d0, .bool s0, .int .i64 x0, .int .i64 E'.e, .int .i64 E'.win, .int .i64 E'.qn, .int .i64 E'.wait, .slice ea en ec, .int .u64 E'.first, .int .i64 E'.out, .int .i64 E'.ever, .int .u64 E'.want, .bool E'.owes, .int .i64 E'.age, .slice ga gn gc, .slice ha hn hc, .int .i64 N'.n, .int .i64 N'.room, .slice za zn zc] rfl (HQD.out.box) uPipe (by kernel_rfl) ?_
      go_wp2_with (first | refine haltst 35 ?_ | refine haltld 35 ?_)
      refine .inl ?_
      refine st_l 35 (.tmp 6) (.tmp 90) (w.heap.size + 1) 0 35 #[.int .i64 0, .int .i64 0, .int .i64 0, .int .i64 0, .slice none 0 0, .int .u64 0, .int .i64 0, .int .i64 0, .int .u64 0, .bool false, .int .i64 0, .int .i64 0, .int .i64 0, .int .i64 0, .int .i64 0, .slice none 0 0, .int .u64 0, .int .i64 0, .int .i64 0, .int .u64 0, .bool false, .int .i64 0, .slice none 0 0, .slice none 0 0, .int .i64 0, .int .i64 0, .slice none 0 0] #[.int .i64 e0, .int .i64 y0, .int .i64 q0, .int .i64 t0, .slice la ln lc, .int .u64 f0, .int .i64 o0, .int .i64 v0, .int .u64 d0, .bool s0, .int .i64 x0, .int .i64 E'.e, .int .i64 E'.win, .int .i64 E'.qn, .int .i64 E'.wait, .slice ea en ec, .int .u64 E'.first, .int .i64 E'.out, .int .i64 E'.ever, .int .u64 E'.want, .bool E'.owes, .int .i64 E'.age, .slice ga gn gc, .slice ha hn hc, .int .i64 N'.n, .int .i64 N'.room, .slice za zn zc] #[.int .i64 e0, .int .i64 y0, .int .i64 q0, .int .i64 t0, .slice la ln lc, .int .u64 f0, .int .i64 o0, .int .i64 v0, .int .u64 d0, .bool s0, .int .i64 x0, .int .i64 E'.e, .int .i64 E'.win, .int .i64 E'.qn, .int .i64 E'.wait, .slice ea en ec, .int .u64 E'.first, .int .i64 E'.out, .int .i64 E'.ever, .int .u64 E'.want, .bool E'.owes, .int .i64 E'.age, .slice ga gn gc, .slice ha hn hc, .int .i64 N'.n, .int .i64 N'.room, .slice za zn zc] rfl rfl (HQD.out.res) (by kernel_rfl) (by simp) rfl rfl ?_
      intro WZ hbZ hoZ
      go_wp2
      exact bodyPost_ret (v := .tuple #[.agg #[.int .i64 e0, .int .i64 y0, .int .i64 q0, .int .i64 t0, .slice la ln lc, .int .u64 f0, .int .i64 o0, .int .i64 v0, .int .u64 d0, .bool s0, .int .i64 x0, .int .i64 E'.e, .int .i64 E'.win, .int .i64 E'.qn, .int .i64 E'.wait, .slice ea en ec, .int .u64 E'.first, .int .i64 E'.out, .int .i64 E'.ever, .int .u64 E'.want, .bool E'.owes, .int .i64 E'.age, .slice ga gn gc, .slice ha hn hc, .int .i64 N'.n, .int .i64 N'.room, .slice za zn zc], .string ⟨#[]⟩, .bool false]) (res_ctt 7 8 rfl rfl hbZ uPipe (by kernel_rfl)) rfl ⟨_, rfl, (HQD.out.rp.drop hoZ (by omega)).to, ext_off HQD.out.ext hoZ (fun k hk => by omega)⟩
    · skip
      go_simp
      (try (simp only [Act.put, List.setIfInBounds_toArray, List.set]))
      obtain ⟨wT, hw9⟩ : ∃ W, W = w7.alloc (.cells #[.int .i64 0, .int .i64 0, .int .i64 0, .int .i64 0, .slice none 0 0, .int .u64 0, .int .i64 0, .int .i64 0, .int .u64 0, .bool false, .int .i64 0] 30) := ⟨_, rfl⟩
      have HQ9 : Hid (GoQ (fun k => F k ∨ k = w7.heap.size) w wT ⟨⟨e0, y0, q0, t0, L0, f0, o0, v0, d0, s0, x0⟩, ⟨e1, y1, q1, t1, L1, f1, o1, v1, d1, s1, x1⟩, G0, G1, N'⟩ ⟨la, ln, lc⟩ ⟨ma, mn, mc⟩ ⟨ga, gn, gc⟩ ⟨ha, hn, hc⟩ ⟨za, zn, zc⟩ (m + 1) (.slice none 0 0) []) := Lib.hid (by rw [hw9]; exact HQ8.out.aside _)
      have k9 : wT.heap[w.heap.size]? = some (.cells #[.int .i64 e0, .int .i64 y0, .int .i64 q0, .int .i64 t0, .slice la ln lc, .int .u64 f0, .int .i64 o0, .int .i64 v0, .int .u64 d0, .bool s0, .int .i64 x0, .int .i64 e1, .int .i64 y1, .int .i64 q1, .int .i64 t1, .slice ma mn mc, .int .u64 f1, .int .i64 o1, .int .i64 v1, .int .u64 d1, .bool s1, .int .i64 x1, .slice ga gn gc, .slice ha hn hc, .int .i64 N'.n, .int .i64 N'.room, .slice za zn zc] 35 (0, 0)) ∧ wT.heap[w5.heap.size]? = some (.cells #[.int .i64 fk, .int .i64 fe, .int .u64 fq, .int .u64 fa, .string fb] 83 (0, 0)) := ⟨HQ9.out.box, by rw [hw9]; exact old1 k8.2 _⟩
      have kA9 : wT.heap[w7.heap.size]? = some (.cells #[.int .i64 0, .int .i64 0, .int .i64 0, .int .i64 0, .slice none 0 0, .int .u64 0, .int .i64 0, .int .i64 0, .int .u64 0, .bool false, .int .i64 0] 30 (0, 0)) := by rw [hw9]; exact get_alloc_new w7 _
      have hgA : w.heap.size + 2 ≤ w7.heap.size := by have := blk_lt HQ8.out.res; omega
      have hgF : w5.heap.size ≠ w7.heap.size := by have := blk_lt k8.2; omega
      rw [← hw9]
      clear hw9
      refine xone 4 (hk := k9) (h := RunX.of 4 (h := ?_))
      go_simp
      refine (HTK.out (fun k => (F k ∨ k = w7.heap.size) ∨ (w.heap.size ≤ k ∧ k < w.heap.size + 2)) _ _ ⟨_, _, _, rfl, HQ9.out.rp.s1⟩).mono ?_
      rintro ev w8 ⟨v8, rfl, ⟨ea, en, ec, rfl, hs8⟩, x8⟩
      have HQ10 := Lib.hid (HQ9.out.more x8)
      have k10 : w8.heap[w.heap.size]? = some (.cells #[.int .i64 e0, .int .i64 y0, .int .i64 q0, .int .i64 t0, .slice la ln lc, .int .u64 f0, .int .i64 o0, .int .i64 v0, .int .u64 d0, .bool s0, .int .i64 x0, .int .i64 e1, .int .i64 y1, .int .i64 q1, .int .i64 t1, .slice ma mn mc, .int .u64 f1, .int .i64 o1, .int .i64 v1, .int .u64 d1, .bool s1, .int .i64 x1, .slice ga gn gc, .slice ha hn hc, .int .i64 N'.n, .int .i64 N'.room, .slice za zn zc] 35 (0, 0)) ∧ w8.heap[w5.heap.size]? = some (.cells #[.int .i64 fk, .int .i64 fe, .int .u64 fq, .int .u64 fa, .string fb] 83 (0, 0)) := ⟨HQ10.out.box, (x8.block _ (blk_lt k9.2)).trans k9.2⟩
      have kA10 := (x8.block _ (blk_lt kA9)).trans kA9
      have HS10 : Hid (Sa (fun k => (F k ∨ k = w7.heap.size) ∨ (w.heap.size ≤ k ∧ k < w.heap.size + 2)) w8 (.slice ea en ec) E'.l) := Lib.hid hs8
      unfold rCells
      dsimp only
      (try (simp only [Act.put, List.setIfInBounds_toArray, List.set]))
      refine xtv 5 (h := ?_)
      refine xtv 6 (h := ?_)
      refine xtv 7 (h := ?_)
      refine xtv 8 (h := ?_)
      refine xone 10 (hk := k10) (h := RunX.of 10 (h := ?_))
      refine wp_st 30 (.tmp 15) (.tmp 57) ?_ (w7.heap.size) 0 30 #[.int .i64 0, .int .i64 0, .int .i64 0, .int .i64 0, .slice none 0 0, .int .u64 0, .int .i64 0, .int .i64 0, .int .u64 0, .bool false, .int .i64 0] #[.int .i64 E'.e, .int .i64 E'.win, .int .i64 E'.qn, .int .i64 E'.wait, .slice ea en ec, .int .u64 E'.first, .int .i64 E'.out, .int .i64 E'.ever, .int .u64 E'.want, .bool E'.owes, .int .i64 E'.age] #[.int .i64 E'.e, .int .i64 E'.win, .int .i64 E'.qn, .int .i64 E'.wait, .slice ea en ec, .int .u64 E'.first, .int .i64 E'.out, .int .i64 E'.ever, .int .u64 E'.want, .bool E'.owes, .int .i64 E'.age] ?_ ?_ kA10 (by kernel_rfl) (by simp) rfl rfl ?_
      · exact rfl
      · exact rfl
      · exact rfl
      intro WB hbB hoB
      dsimp only
      (try simp only [Act.put])
      have HQB := Lib.hid (HQ10.out.back hoB hgA)
      have HSB : Hid (Sa (fun k => F k ∨ (w.heap.size ≤ k ∧ k < w.heap.size + 2)) WB (.slice ea en ec) E'.l) := Lib.hid (HS10.out.off (hoB.mono fun j hj => .inl (.inr hj)) (grows_back _))
      have kB : WB.heap[w.heap.size]? = some (.cells #[.int .i64 e0, .int .i64 y0, .int .i64 q0, .int .i64 t0, .slice la ln lc, .int .u64 f0, .int .i64 o0, .int .i64 v0, .int .u64 d0, .bool s0, .int .i64 x0, .int .i64 e1, .int .i64 y1, .int .i64 q1, .int .i64 t1, .slice ma mn mc, .int .u64 f1, .int .i64 o1, .int .i64 v1, .int .u64 d1, .bool s1, .int .i64 x1, .slice ga gn gc, .slice ha hn hc, .int .i64 N'.n, .int .i64 N'.room, .slice za zn zc] 35 (0, 0)) ∧ WB.heap[w5.heap.size]? = some (.cells #[.int .i64 fk, .int .i64 fe, .int .u64 fq, .int .u64 fa, .string fb] 83 (0, 0)) := ⟨HQB.out.box, hoB.blk k10.2 hgF⟩
      refine xtv 11 (h := ?_)
      refine xtv 12 (h := ?_)
      (refine xdone (by kernel_rfl) (kB) ?_)
      obtain ⟨⟨j0, j1, j2, j3, j4, j5, j6, j7, j8, j9, j10⟩, _⟩ := cells11 hbB
      go_wp2_with (first | refine haltst 35 ?_ | refine haltld 35 ?_)
      refine .inl ?_
      refine ld_l 35 (.tmp 3) (w.heap.size) 35 #[.int .i64 e0, .int .i64 y0, .int .i64 q0, .int .i64 t0, .slice la ln lc, .int .u64 f0, .int .i64 o0, .int .i64 v0, .int .u64 d0, .bool s0, .int .i64 x0, .int .i64 e1, .int .i64 y1, .int .i64 q1, .int .i64 t1, .slice ma mn mc, .int .u64 f1, .int .i64 o1, .int .i64 v1, .int .u64 d1, .bool s1, .int .i64 x1, .slice ga gn gc, .slice ha hn hc, .int .i64 N'.n, .int .i64 N'.room, .slice za zn zc] rfl (kB.1) uPipe (by kernel_rfl) ?_
      go_wp2_with fail
      refine (HWI.out _ _ _ _ _ E' ⟨ea, en, ec⟩).mono ?_
      rintro ev WC ⟨rfl, xC⟩
      have HQC := Lib.hid (HQB.out.more xC)
      have HSC := Lib.hid (HSB.out.ext xC)
      clear kB HQB HSB hbB hoB j0 j1 j2 j3 j4 j5 j6 j7 j8 j9 j10 xC
      dsimp only
      go_wp2_with (first | refine haltst 35 ?_ | refine haltld 35 ?_)
      refine .inl ?_
      refine st_l 35 (.tmp 3) (.tmp 63) (w.heap.size) 0 35 #[.int .i64 e0, .int .i64 y0, .int .i64 q0, .int .i64 t0, .slice la ln lc, .int .u64 f0, .int .i64 o0, .int .i64 v0, .int .u64 d0, .bool s0, .int .i64 x0, .int .i64 e1, .int .i64 y1, .int .i64 q1, .int .i64 t1, .slice ma mn mc, .int .u64 f1, .int .i64 o1, .int .i64 v1, .int .u64 d1, .bool s1, .int .i64 x1, .slice ga gn gc, .slice ha hn hc, .int .i64 N'.n, .int .i64 N'.room, .slice za zn zc] #[.int .i64 e0, .int .i64 y0, .int .i64 q0, .int .i64 t0, .slice la ln lc, .int .u64 f0, .int .i64 o0, .int .i64 v0, .int .u64 d0, .bool s0, .int .i64 x0, .int .i64 E'.e, .int .i64 E'.win, .int .i64 E'.qn, .int .i64 E'.wait, .slice ea en ec, .int .u64 E'.first, .int .i64 E'.out, .int .i64 E'.ever, .int .u64 E'.want, .bool E'.owes, .int .i64 E'.age, .slice ga gn gc, .slice ha hn hc, .int .i64 N'.n, .int .i64 N'.room, .slice za zn zc] #[.int .i64 e0, .int .i64 y0, .int .i64 q0, .int .i64 t0, .slice la ln lc, .int .u64 f0, .int .i64 o0, .int .i64 v0, .int .u64 d0, .bool s0, .int .i64 x0, .int .i64 E'.e, .int .i64 E'.win, .int .i64 E'.qn, .int .i64 E'.wait, .slice ea en ec, .int .u64 E'.first, .int .i64 E'.out, .int .i64 E'.ever, .int .u64 E'.want, .bool E'.owes, .int .i64 E'.age, .slice ga gn gc, .slice ha hn hc, .int .i64 N'.n, .int .i64 N'.room, .slice za zn zc] rfl rfl (HQC.out.box) (by kernel_rfl) (by simp) rfl rfl ?_
      intro WD hbD hoD
      have HQD : Hid (GoQ F w WD ⟨⟨e0, y0, q0, t0, L0, f0, o0, v0, d0, s0, x0⟩, E', G0, G1, N'⟩ ⟨la, ln, lc⟩ ⟨ea, en, ec⟩ ⟨ga, gn, gc⟩ ⟨ha, hn, hc⟩ ⟨za, zn, zc⟩ (m + 1) (.slice none 0 0) []) := Lib.hid ⟨hbD, hoD.blk HQC.out.res (by omega), (HQC.out.rp.put1 (E := E') (l := ⟨ea, en, ec⟩) HSC.out).stay hoD (by omega), Sa.nil _ _, ext_off HQC.out.ext hoD (fun j hj => by omega)⟩
      clear hbD hoD HQC HSC
      go_wp2_with (first | refine haltst 35 ?_ | refine haltld 35 ?_)
      refine .inl ?_
      refine ld_l 35 (.tmp 3) (w.heap.size) 35 #[.int .i64 e0, .int .i64 y0, .int .i64 q0, .int .i64 t0, .slice la ln lc, .int .u64 f0, .int .i64 o0, .int .i64 v0, .int .u64 d0, .bool s0, .int .i64 x0, .int .i64 E'.e, .int .i64 E'.win, .int .i64 E'.qn, .int .i64 E'.wait, .slice ea en ec, .int .u64 E'.first, .int .i64 E'.out, .int .i64 E'.ever, .int .u64 E'.want, .bool E'.owes, .int .i64 E'.age, .slice ga gn gc, .slice ha hn hc, .int .i64 N'.n, .int .i64 N'.room, .slice za zn zc] rfl (HQD.out.box) uPipe (by kernel_rfl) ?_
      go_wp2_with (first | refine haltst 35 ?_ | refine haltld 35 ?_)
      refine .inl ?_
      refine st_l 35 (.tmp 6) (.tmp 90) (w.heap.size + 1) 0 35 #[.int .i64 0, .int .i64 0, .int .i64 0, .int .i64 0, .slice none 0 0, .int .u64 0, .int .i64 0, .int .i64 0, .int .u64 0, .bool false, .int .i64 0, .int .i64 0, .int .i64 0, .int .i64 0, .int .i64 0, .slice none 0 0, .int .u64 0, .int .i64 0, .int .i64 0, .int .u64 0, .bool false, .int .i64 0, .slice none 0 0, .slice none 0 0, .int .i64 0, .int .i64 0, .slice none 0 0] #[.int .i64 e0, .int .i64 y0, .int .i64 q0, .int .i64 t0, .slice la ln lc, .int .u64 f0, .int .i64 o0, .int .i64 v0, .int .u64 d0, .bool s0, .int .i64 x0, .int .i64 E'.e, .int .i64 E'.win, .int .i64 E'.qn, .int .i64 E'.wait, .slice ea en ec, .int .u64 E'.first, .int .i64 E'.out, .int .i64 E'.ever, .int .u64 E'.want, .bool E'.owes, .int .i64 E'.age, .slice ga gn gc, .slice ha hn hc, .int .i64 N'.n, .int .i64 N'.room, .slice za zn zc] #[.int .i64 e0, .int .i64 y0, .int .i64 q0, .int .i64 t0, .slice la ln lc, .int .u64 f0, .int .i64 o0, .int .i64 v0, .int .u64 d0, .bool s0, .int .i64 x0, .int .i64 E'.e, .int .i64 E'.win, .int .i64 E'.qn, .int .i64 E'.wait, .slice ea en ec, .int .u64 E'.first, .int .i64 E'.out, .int .i64 E'.ever, .int .u64 E'.want, .bool E'.owes, .int .i64 E'.age, .slice ga gn gc, .slice ha hn hc, .int .i64 N'.n, .int .i64 N'.room, .slice za zn zc] rfl rfl (HQD.out.res) (by kernel_rfl) (by simp) rfl rfl ?_
      intro WZ hbZ hoZ
      go_wp2
      exact bodyPost_ret (v := .tuple #[.agg #[.int .i64 e0, .int .i64 y0, .int .i64 q0, .int .i64 t0, .slice la ln lc, .int .u64 f0, .int .i64 o0, .int .i64 v0, .int .u64 d0, .bool s0, .int .i64 x0, .int .i64 E'.e, .int .i64 E'.win, .int .i64 E'.qn, .int .i64 E'.wait, .slice ea en ec, .int .u64 E'.first, .int .i64 E'.out, .int .i64 E'.ever, .int .u64 E'.want, .bool E'.owes, .int .i64 E'.age, .slice ga gn gc, .slice ha hn hc, .int .i64 N'.n, .int .i64 N'.room, .slice za zn zc], .string ⟨#[]⟩, .bool false]) (res_ctt 7 8 rfl rfl hbZ uPipe (by kernel_rfl)) rfl ⟨_, rfl, (HQD.out.rp.drop hoZ (by omega)).to, ext_off HQD.out.ext hoZ (fun k hk => by omega)⟩
  · skip
    go_simp
    (try (simp only [Act.put, List.setIfInBounds_toArray, List.set]))
    obtain ⟨wT, hw9⟩ : ∃ W, W = w1.alloc (.cells #[.int .i64 0, .int .i64 0, .int .i64 0, .int .i64 0, .slice none 0 0, .int .u64 0, .int .i64 0, .int .i64 0, .int .u64 0, .bool false, .int .i64 0] 30) := ⟨_, rfl⟩
    have HQ8 : Hid (GoQ (fun k => F k ∨ k = w1.heap.size) w wT ⟨⟨e0, y0, q0, t0, L0, f0, o0, v0, d0, s0, x0⟩, ⟨e1, y1, q1, t1, L1, f1, o1, v1, d1, s1, x1⟩, G0, G1, N'⟩ ⟨la, ln, lc⟩ ⟨ma, mn, mc⟩ ⟨ga, gn, gc⟩ ⟨ha, hn, hc⟩ ⟨za, zn, zc⟩ (m + 1) (.slice none 0 0) []) := Lib.hid (by rw [hw9]; exact HQ7.out.aside _)
    have k8 : wT.heap[w.heap.size]? = some (.cells #[.int .i64 e0, .int .i64 y0, .int .i64 q0, .int .i64 t0, .slice la ln lc, .int .u64 f0, .int .i64 o0, .int .i64 v0, .int .u64 d0, .bool s0, .int .i64 x0, .int .i64 e1, .int .i64 y1, .int .i64 q1, .int .i64 t1, .slice ma mn mc, .int .u64 f1, .int .i64 o1, .int .i64 v1, .int .u64 d1, .bool s1, .int .i64 x1, .slice ga gn gc, .slice ha hn hc, .int .i64 N'.n, .int .i64 N'.room, .slice za zn zc] 35 (0, 0)) ∧ wT.heap[w5.heap.size]? = some (.cells #[.int .i64 fk, .int .i64 fe, .int .u64 fq, .int .u64 fa, .string fb] 83 (0, 0)) := ⟨HQ8.out.box, by rw [hw9]; exact old1 k7.2 _⟩
    have kA8 : wT.heap[w1.heap.size]? = some (.cells #[.int .i64 0, .int .i64 0, .int .i64 0, .int .i64 0, .slice none 0 0, .int .u64 0, .int .i64 0, .int .i64 0, .int .u64 0, .bool false, .int .i64 0] 30 (0, 0)) := by rw [hw9]; exact get_alloc_new w1 _
    have hgA : w.heap.size + 2 ≤ w1.heap.size := by have := blk_lt HQ7.out.res; omega
    have hgF : w5.heap.size ≠ w1.heap.size := by have := blk_lt k7.2; omega
    rw [← hw9]
    clear hw9
    refine xone 2 (hk := k8) (h := RunX.of 2 (h := ?_))
    go_simp
    refine (HE.out _ _ _ _ _).mono ?_
    rintro ev w7 ⟨rfl, x7⟩
    have HQ9 := Lib.hid (HQ8.out.more x7)
    have k9 : w7.heap[w.heap.size]? = some (.cells #[.int .i64 e0, .int .i64 y0, .int .i64 q0, .int .i64 t0, .slice la ln lc, .int .u64 f0, .int .i64 o0, .int .i64 v0, .int .u64 d0, .bool s0, .int .i64 x0, .int .i64 e1, .int .i64 y1, .int .i64 q1, .int .i64 t1, .slice ma mn mc, .int .u64 f1, .int .i64 o1, .int .i64 v1, .int .u64 d1, .bool s1, .int .i64 x1, .slice ga gn gc, .slice ha hn hc, .int .i64 N'.n, .int .i64 N'.room, .slice za zn zc] 35 (0, 0)) ∧ w7.heap[w5.heap.size]? = some (.cells #[.int .i64 fk, .int .i64 fe, .int .u64 fq, .int .u64 fa, .string fb] 83 (0, 0)) := ⟨HQ9.out.box, (x7.block _ (blk_lt k8.2)).trans k8.2⟩
    have kA9 := (x7.block _ (blk_lt kA8)).trans kA8
    dsimp only
    (try (simp only [Act.put, List.setIfInBounds_toArray, List.set]))
    refine xone 4 (hk := k9) (h := RunX.of 4 (h := ?_))
    go_simp
    refine (HTK.out (fun k => (F k ∨ k = w1.heap.size) ∨ (w.heap.size ≤ k ∧ k < w.heap.size + 2)) _ _ ⟨_, _, _, rfl, HQ9.out.rp.s1⟩).mono ?_
    rintro ev w8 ⟨v8, rfl, ⟨ea, en, ec, rfl, hs8⟩, x8⟩
    have HQ10 := Lib.hid (HQ9.out.more x8)
    have k10 : w8.heap[w.heap.size]? = some (.cells #[.int .i64 e0, .int .i64 y0, .int .i64 q0, .int .i64 t0, .slice la ln lc, .int .u64 f0, .int .i64 o0, .int .i64 v0, .int .u64 d0, .bool s0, .int .i64 x0, .int .i64 e1, .int .i64 y1, .int .i64 q1, .int .i64 t1, .slice ma mn mc, .int .u64 f1, .int .i64 o1, .int .i64 v1, .int .u64 d1, .bool s1, .int .i64 x1, .slice ga gn gc, .slice ha hn hc, .int .i64 N'.n, .int .i64 N'.room, .slice za zn zc] 35 (0, 0)) ∧ w8.heap[w5.heap.size]? = some (.cells #[.int .i64 fk, .int .i64 fe, .int .u64 fq, .int .u64 fa, .string fb] 83 (0, 0)) := ⟨HQ10.out.box, (x8.block _ (blk_lt k9.2)).trans k9.2⟩
    have kA10 := (x8.block _ (blk_lt kA9)).trans kA9
    have HS10 : Hid (Sa (fun k => (F k ∨ k = w1.heap.size) ∨ (w.heap.size ≤ k ∧ k < w.heap.size + 2)) w8 (.slice ea en ec) E'.l) := Lib.hid hs8
    unfold rCells
    dsimp only
    (try (simp only [Act.put, List.setIfInBounds_toArray, List.set]))
    refine xtv 5 (h := ?_)
    refine xtv 6 (h := ?_)
    refine xtv 7 (h := ?_)
    refine xtv 8 (h := ?_)
    refine xone 10 (hk := k10) (h := RunX.of 10 (h := ?_))
    refine wp_st 30 (.tmp 15) (.tmp 57) ?_ (w1.heap.size) 0 30 #[.int .i64 0, .int .i64 0, .int .i64 0, .int .i64 0, .slice none 0 0, .int .u64 0, .int .i64 0, .int .i64 0, .int .u64 0, .bool false, .int .i64 0] #[.int .i64 E'.e, .int .i64 E'.win, .int .i64 E'.qn, .int .i64 E'.wait, .slice ea en ec, .int .u64 E'.first, .int .i64 E'.out, .int .i64 E'.ever, .int .u64 E'.want, .bool E'.owes, .int .i64 E'.age] #[.int .i64 E'.e, .int .i64 E'.win, .int .i64 E'.qn, .int .i64 E'.wait, .slice ea en ec, .int .u64 E'.first, .int .i64 E'.out, .int .i64 E'.ever, .int .u64 E'.want, .bool E'.owes, .int .i64 E'.age] ?_ ?_ kA10 (by kernel_rfl) (by simp) rfl rfl ?_
    · exact rfl
    · exact rfl
    · exact rfl
    intro WB hbB hoB
    dsimp only
    (try simp only [Act.put])
    have HQB := Lib.hid (HQ10.out.back hoB hgA)
    have HSB : Hid (Sa (fun k => F k ∨ (w.heap.size ≤ k ∧ k < w.heap.size + 2)) WB (.slice ea en ec) E'.l) := Lib.hid (HS10.out.off (hoB.mono fun j hj => .inl (.inr hj)) (grows_back _))
    have kB : WB.heap[w.heap.size]? = some (.cells #[.int .i64 e0, .int .i64 y0, .int .i64 q0, .int .i64 t0, .slice la ln lc, .int .u64 f0, .int .i64 o0, .int .i64 v0, .int .u64 d0, .bool s0, .int .i64 x0, .int .i64 e1, .int .i64 y1, .int .i64 q1, .int .i64 t1, .slice ma mn mc, .int .u64 f1, .int .i64 o1, .int .i64 v1, .int .u64 d1, .bool s1, .int .i64 x1, .slice ga gn gc, .slice ha hn hc, .int .i64 N'.n, .int .i64 N'.room, .slice za zn zc] 35 (0, 0)) ∧ WB.heap[w5.heap.size]? = some (.cells #[.int .i64 fk, .int .i64 fe, .int .u64 fq, .int .u64 fa, .string fb] 83 (0, 0)) := ⟨HQB.out.box, hoB.blk k10.2 hgF⟩
    refine xtv 11 (h := ?_)
    refine xtv 12 (h := ?_)
    (refine xdone (by kernel_rfl) (kB) ?_)
    obtain ⟨⟨j0, j1, j2, j3, j4, j5, j6, j7, j8, j9, j10⟩, _⟩ := cells11 hbB
    go_wp2_with (first | refine haltst 35 ?_ | refine haltld 35 ?_)
    refine .inl ?_
    refine ld_l 35 (.tmp 3) (w.heap.size) 35 #[.int .i64 e0, .int .i64 y0, .int .i64 q0, .int .i64 t0, .slice la ln lc, .int .u64 f0, .int .i64 o0, .int .i64 v0, .int .u64 d0, .bool s0, .int .i64 x0, .int .i64 e1, .int .i64 y1, .int .i64 q1, .int .i64 t1, .slice ma mn mc, .int .u64 f1, .int .i64 o1, .int .i64 v1, .int .u64 d1, .bool s1, .int .i64 x1, .slice ga gn gc, .slice ha hn hc, .int .i64 N'.n, .int .i64 N'.room, .slice za zn zc] rfl (kB.1) uPipe (by kernel_rfl) ?_
    go_wp2_with fail
    refine (HWI.out _ _ _ _ _ E' ⟨ea, en, ec⟩).mono ?_
    rintro ev WC ⟨rfl, xC⟩
    have HQC := Lib.hid (HQB.out.more xC)
    have HSC := Lib.hid (HSB.out.ext xC)
    clear kB HQB HSB hbB hoB j0 j1 j2 j3 j4 j5 j6 j7 j8 j9 j10 xC
    dsimp only
    go_wp2_with (first | refine haltst 35 ?_ | refine haltld 35 ?_)
    refine .inl ?_
    refine st_l 35 (.tmp 3) (.tmp 63) (w.heap.size) 0 35 #[.int .i64 e0, .int .i64 y0, .int .i64 q0, .int .i64 t0, .slice la ln lc, .int .u64 f0, .int .i64 o0, .int .i64 v0, .int .u64 d0, .bool s0, .int .i64 x0, .int .i64 e1, .int .i64 y1, .int .i64 q1, .int .i64 t1, .slice ma mn mc, .int .u64 f1, .int .i64 o1, .int .i64 v1, .int .u64 d1, .bool s1, .int .i64 x1, .slice ga gn gc, .slice ha hn hc, .int .i64 N'.n, .int .i64 N'.room, .slice za zn zc] #[.int .i64 e0, .int .i64 y0, .int .i64 q0, .int .i64 t0, .slice la ln lc, .int .u64 f0, .int .i64 o0, .int .i64 v0, .int .u64 d0, .bool s0, .int .i64 x0, .int .i64 E'.e, .int .i64 E'.win, .int .i64 E'.qn, .int .i64 E'.wait, .slice ea en ec, .int .u64 E'.first, .int .i64 E'.out, .int .i64 E'.ever, .int .u64 E'.want, .bool E'.owes, .int .i64 E'.age, .slice ga gn gc, .slice ha hn hc, .int .i64 N'.n, .int .i64 N'.room, .slice za zn zc] #[.int .i64 e0, .int .i64 y0, .int .i64 q0, .int .i64 t0, .slice la ln lc, .int .u64 f0, .int .i64 o0, .int .i64 v0, .int .u64 d0, .bool s0, .int .i64 x0, .int .i64 E'.e, .int .i64 E'.win, .int .i64 E'.qn, .int .i64 E'.wait, .slice ea en ec, .int .u64 E'.first, .int .i64 E'.out, .int .i64 E'.ever, .int .u64 E'.want, .bool E'.owes, .int .i64 E'.age, .slice ga gn gc, .slice ha hn hc, .int .i64 N'.n, .int .i64 N'.room, .slice za zn zc] rfl rfl (HQC.out.box) (by kernel_rfl) (by simp) rfl rfl ?_
    intro WD hbD hoD
    have HQD : Hid (GoQ F w WD ⟨⟨e0, y0, q0, t0, L0, f0, o0, v0, d0, s0, x0⟩, E', G0, G1, N'⟩ ⟨la, ln, lc⟩ ⟨ea, en, ec⟩ ⟨ga, gn, gc⟩ ⟨ha, hn, hc⟩ ⟨za, zn, zc⟩ (m + 1) (.slice none 0 0) []) := Lib.hid ⟨hbD, hoD.blk HQC.out.res (by omega), (HQC.out.rp.put1 (E := E') (l := ⟨ea, en, ec⟩) HSC.out).stay hoD (by omega), Sa.nil _ _, ext_off HQC.out.ext hoD (fun j hj => by omega)⟩
    clear hbD hoD HQC HSC
    go_wp2_with (first | refine haltst 35 ?_ | refine haltld 35 ?_)
    refine .inl ?_
    refine ld_l 35 (.tmp 3) (w.heap.size) 35 #[.int .i64 e0, .int .i64 y0, .int .i64 q0, .int .i64 t0, .slice la ln lc, .int .u64 f0, .int .i64 o0, .int .i64 v0, .int .u64 d0, .bool s0, .int .i64 x0, .int .i64 E'.e, .int .i64 E'.win, .int .i64 E'.qn, .int .i64 E'.wait, .slice ea en ec, .int .u64 E'.first, .int .i64 E'.out, .int .i64 E'.ever, .int .u64 E'.want, .bool E'.owes, .int .i64 E'.age, .slice ga gn gc, .slice ha hn hc, .int .i64 N'.n, .int .i64 N'.room, .slice za zn zc] rfl (HQD.out.box) uPipe (by kernel_rfl) ?_
    go_wp2_with (first | refine haltst 35 ?_ | refine haltld 35 ?_)
    refine .inl ?_
    refine st_l 35 (.tmp 6) (.tmp 90) (w.heap.size + 1) 0 35 #[.int .i64 0, .int .i64 0, .int .i64 0, .int .i64 0, .slice none 0 0, .int .u64 0, .int .i64 0, .int .i64 0, .int .u64 0, .bool false, .int .i64 0, .int .i64 0, .int .i64 0, .int .i64 0, .int .i64 0, .slice none 0 0, .int .u64 0, .int .i64 0, .int .i64 0, .int .u64 0, .bool false, .int .i64 0, .slice none 0 0, .slice none 0 0, .int .i64 0, .int .i64 0, .slice none 0 0] #[.int .i64 e0, .int .i64 y0, .int .i64 q0, .int .i64 t0, .slice la ln lc, .int .u64 f0, .int .i64 o0, .int .i64 v0, .int .u64 d0, .bool s0, .int .i64 x0, .int .i64 E'.e, .int .i64 E'.win, .int .i64 E'.qn, .int .i64 E'.wait, .slice ea en ec, .int .u64 E'.first, .int .i64 E'.out, .int .i64 E'.ever, .int .u64 E'.want, .bool E'.owes, .int .i64 E'.age, .slice ga gn gc, .slice ha hn hc, .int .i64 N'.n, .int .i64 N'.room, .slice za zn zc] #[.int .i64 e0, .int .i64 y0, .int .i64 q0, .int .i64 t0, .slice la ln lc, .int .u64 f0, .int .i64 o0, .int .i64 v0, .int .u64 d0, .bool s0, .int .i64 x0, .int .i64 E'.e, .int .i64 E'.win, .int .i64 E'.qn, .int .i64 E'.wait, .slice ea en ec, .int .u64 E'.first, .int .i64 E'.out, .int .i64 E'.ever, .int .u64 E'.want, .bool E'.owes, .int .i64 E'.age, .slice ga gn gc, .slice ha hn hc, .int .i64 N'.n, .int .i64 N'.room, .slice za zn zc] rfl rfl (HQD.out.res) (by kernel_rfl) (by simp) rfl rfl ?_
    intro WZ hbZ hoZ
    go_wp2
    exact bodyPost_ret (v := .tuple #[.agg #[.int .i64 e0, .int .i64 y0, .int .i64 q0, .int .i64 t0, .slice la ln lc, .int .u64 f0, .int .i64 o0, .int .i64 v0, .int .u64 d0, .bool s0, .int .i64 x0, .int .i64 E'.e, .int .i64 E'.win, .int .i64 E'.qn, .int .i64 E'.wait, .slice ea en ec, .int .u64 E'.first, .int .i64 E'.out, .int .i64 E'.ever, .int .u64 E'.want, .bool E'.owes, .int .i64 E'.age, .slice ga gn gc, .slice ha hn hc, .int .i64 N'.n, .int .i64 N'.room, .slice za zn zc], .string ⟨#[]⟩, .bool false]) (res_ctt 7 8 rfl rfl hbZ uPipe (by kernel_rfl)) rfl ⟨_, rfl, (HQD.out.rp.drop hoZ (by omega)).to, ext_off HQD.out.ext hoZ (fun k hk => by omega)⟩
end Go.Proofs.YtlakolkpfkakoaaGreatDoor
