/- An act on a pipe: what is on its way comes. -/
import Derived.Test.YtcjoemkplghonaaDoorMR
import Derived.BigGuard
namespace Go.Proofs.YtcjoemkplghonaaDoor
open Go.RowKit

set_option linter.unusedVariables false

set_option maxRecDepth 50000 in
set_option maxHeartbeats 8000000 in
theorem iplay_none0 (w0 wB w : World) (Kp : Nat → Prop) (hs : Std w0) (p : Nat) (P : PipeS) (L : Nat → List ByteArray) (x : Nat → SV) (F : Nat → Nat → Prop) (h : Wt w0 wB Kp w p P x L F) (an ax : Int) (ab : ByteArray) (hsz : (P.look 0 an).size ≤ 1000) (hg : (P.got 0).length ≤ 1000000) (ht : P.there 0 an = false) :
    Calls Tryd.prog 11 #[.pointer (some ⟨p, 0, none⟩), .agg #[.int .i64 3, .int .i64 0, .int .i64 an, .int .i64 ax, .string ab], .agg (two2 x 0), .agg (two2 x 2)] w (PlayTo w0 wB Kp p (P.come 0 an) L true) := by
  have H := Lib.hid h
  have HST := Lib.hid hs
  have HF : Hid (∀ j i, ¬ F i (w.heap.size + j)) := Lib.hid (fun j i hk => by have := (h.low i _ hk).2; omega)
  have HW0 : Hid (w0.heap.size ≤ w.heap.size) := Lib.hid h.ext.size
  have HK0 : Hid (∀ k, w.heap.size ≤ k → ¬ Kp k) := Lib.hid (fun k h1 h2 => by have := (h.kp k h2).1; have := h.kb; omega)
  obtain ⟨⟨a0, n0, c0⟩, h0⟩ : ∃ s, x 0 = s := ⟨_, rfl⟩
  obtain ⟨⟨a1, n1, c1⟩, h1⟩ : ∃ s, x 1 = s := ⟨_, rfl⟩
  obtain ⟨⟨a2, n2, c2⟩, h2⟩ : ∃ s, x 2 = s := ⟨_, rfl⟩
  obtain ⟨⟨a3, n3, c3⟩, h3⟩ : ∃ s, x 3 = s := ⟨_, rfl⟩
  unfold two2
  rw [h0, h1, h2, h3]
  have HX := Lib.hid (And.intro h0 (And.intro h1 (And.intro h2 h3)))
  dsimp only
  clear h hs h0 h1 h2 h3
  obtain ⟨B, hB⟩ : ∃ B, B = P.look 0 an := ⟨_, rfl⟩
  rw [← hB] at hsz
  have HG := Lib.hid hg
  have HT := Lib.hid ht
  clear hg ht
  have HSZ := Lib.hid (show B.size ≤ 281474976710656 by omega)
  have HBV := Lib.hid hB
  clear hsz hB
  go_enter Tryd.func11, Tryd.ntmps11
  (try dsimp only [List.append])
  go_wp2_with fail
  obtain ⟨W1, hW1⟩ : ∃ W, W = (five w #[.int .i64 3, .int .i64 0, .int .i64 an, .int .i64 ax, .string ab] #[.slice a0 n0 c0, .slice a1 n1 c1] #[.slice a2 n2 c2, .slice a3 n3 c3] zz zz) := ⟨_, rfl⟩
  have HB := Lib.hid (five_b5 w #[.int .i64 3, .int .i64 0, .int .i64 an, .int .i64 ax, .string ab] #[.slice a0 n0 c0, .slice a1 n1 c1] #[.slice a2 n2 c2, .slice a3 n3 c3] zz zz)
  have H1 := Lib.hid (H.out.more (five_ext w #[.int .i64 3, .int .i64 0, .int .i64 an, .int .i64 ax, .string ab] #[.slice a0 n0 c0, .slice a1 n1 c1] #[.slice a2 n2 c2, .slice a3 n3 c3] zz zz))
  rw [← hW1] at HB H1
  try change Calls _ _ _ (five w #[.int .i64 3, .int .i64 0, .int .i64 an, .int .i64 ax, .string ab] #[.slice a0 n0 c0, .slice a1 n1 c1] #[.slice a2 n2 c2, .slice a3 n3 c3] zz zz) _
  rw [← hW1]
  have cL := iLook H1.out.e 0 an
  rw [← HBV.out, HT.out] at cL
  refine (cL).mono ?_
  rintro e w3 ⟨F3, rfl, nn, o, g⟩
  have HB3 := Lib.hid (HB.out.off o (fun i _ => HF.out i 0))
  have S3 := Lib.hid (H1.out.moves nn o g)
  have HN : Hid (∀ i j, i < 5 → ¬ upd F 0 F3 j (w.heap.size + i)) := Lib.hid (fun i j hi => nb_upd (HF.out i) (by have := HB.out.lt; omega) g j)
  clear cL nn o g hW1 HB H1
  dsimp only
  go_wp2_with fail
  refine (get_any _ (HST.out.ext S3.out.ext) B HSZ.out).mono ?_
  rintro ev w4 ⟨rfl, x4⟩
  obtain ⟨⟨fk, fe, fq, fa, fb⟩, hf⟩ : ∃ f, f = getF B := ⟨_, rfl⟩
  rw [← hf]
  unfold frV
  dsimp only
  have HB4 := Lib.hid (HB3.out.ext (x4.alloc (.cells #[.int .i64 fk, .int .i64 fe, .int .u64 (fq : Int), .int .u64 (fa : Int), .string fb] 57 (0, 0))))
  have S4 := Lib.hid (S3.out.more (x4.alloc (.cells #[.int .i64 fk, .int .i64 fe, .int .u64 (fq : Int), .int .u64 (fa : Int), .string fb] 57 (0, 0))))
  clear x4 hf HB3 S3
  obtain ⟨d0, d1, d2, d3, d4⟩ := cells5t HB4.out.ba
  obtain ⟨⟨f0, f1⟩, _⟩ := cells2t HB4.out.bw
  go_wp2_with fail
  have cC := Lib.hid (iCome (HST.out.ext S4.out.ext) S4.out.e 0 an HG.out)
  refine cC.out.mono ?_
  rintro e w6 ⟨F6, rfl, nn, o, g⟩
  have HB3 := Lib.hid (HB4.out.off o (fun i hi => HN.out i 0 hi))
  have S3 := Lib.hid (S4.out.moves nn o g)
  have HN2 : Hid (∀ i j, i < 5 → ¬ upd (upd F 0 F3) 0 F6 j (w.heap.size + i)) := Lib.hid (fun i j hi => nb_upd (fun j => HN.out i j hi) (by have := HB4.out.lt; omega) g j)
  clear nn o g HB4 S4 cC HN d0 d1 d2 d3 d4 f0 f1
  have HN := HN2
  clear HN2
  dsimp only
  go_wp2_with fail
  (refine wp_region_X_lit (K := fun W => W.cell? ⟨w.heap.size + 1, 0, none⟩ = some (.slice a0 n0 c0) ∧ W.cell? ⟨w.heap.size + 1, 1, none⟩ = some (.slice a1 n1 c1) ∧ W.cell? ⟨w.heap.size + 2, 0, none⟩ = some (.slice a2 n2 c2) ∧ W.cell? ⟨w.heap.size + 2, 1, none⟩ = some (.slice a3 n3 c3)) (by kernel_rfl) (fun w1 hw1 => ?_))
  have hb3 := HB3.out.ext hw1
  have S4 := Lib.hid (S3.out.more hw1)
  have k3 : w1.cell? ⟨w.heap.size + 1, 0, none⟩ = some (.slice a0 n0 c0) ∧ w1.cell? ⟨w.heap.size + 1, 1, none⟩ = some (.slice a1 n1 c1) ∧ w1.cell? ⟨w.heap.size + 2, 0, none⟩ = some (.slice a2 n2 c2) ∧ w1.cell? ⟨w.heap.size + 2, 1, none⟩ = some (.slice a3 n3 c3) := ⟨(cells2t hb3.bw).1.1, (cells2t hb3.bw).1.2, (cells2t hb3.bs).1.1, (cells2t hb3.bs).1.2⟩
  obtain ⟨⟨z0, z1⟩, y0, y1⟩ := cells2t hb3.z1
  obtain ⟨⟨z2, z3⟩, y2, y3⟩ := cells2t hb3.z2
  clear hw1
  (refine xtakeV 0 (v := ?_) (by simp only [List.getElem?_toArray, List.getElem?_cons, reduceIte]; rfl) (by kernel_rfl) (by rfl) (fun w' hw' => ?_) ?_; rotate_left; focus (have hc := hw'.1; have hd := hw'.2.1; go_simp; first | done | with_reducible rfl)); (simp only [Act.put, List.setIfInBounds_toArray, List.set])
  (refine xtakeV 1 (v := ?_) (by simp only [List.getElem?_toArray, List.getElem?_cons, reduceIte]; rfl) (by kernel_rfl) (by rfl) (fun w' hw' => ?_) ?_; rotate_left; focus (have hc := hw'.2.2.1; have hd := hw'.2.2.2; go_simp; first | done | with_reducible rfl)); (simp only [Act.put, List.setIfInBounds_toArray, List.set])
  (refine xone 2 (by kernel_rfl) (k3) (RunX.of 2 (by simp only [List.getElem?_toArray, List.getElem?_cons, reduceIte]; rfl) (by rfl) ?_))
  go_simp
  (try (simp only [Act.put, List.setIfInBounds_toArray, List.set]))
  have hb4 := hb3.setz1 (.slice a0 n0 c0) (.slice a1 n1 c1)
  have k4 := And.intro (cells2t hb4.bw).1.1 (And.intro (cells2t hb4.bw).1.2 (cells2t hb4.bs).1)
  have S5 := Lib.hid (S4.out.box (off_set2 w1 (w.heap.size + 3) (.slice a0 n0 c0) (.slice a1 n1 c1)) (fun i k hk => by rw [hk]; exact HN.out 3 i (by decide)) (fun k hk => by rw [hk]; exact HK0.out _ (Nat.le_add_right _ _)) (fun k hk => by rw [hk]; have := HW0.out; omega))
  clear z0 z1 y0 y1 z2 z3 y2 y3 k3
  obtain ⟨⟨z2, z3⟩, y2, y3⟩ := cells2t hb4.z2
  simp only [set2] at z2 z3 y2 y3
  (refine xone 3 (by kernel_rfl) (k4) (RunX.of 3 (by simp only [List.getElem?_toArray, List.getElem?_cons, reduceIte]; rfl) (by rfl) ?_))
  go_simp
  (try (simp only [Act.put, List.setIfInBounds_toArray, List.set]))
  have hb5 := hb4.setz2 (.slice a2 n2 c2) (.slice a3 n3 c3)
  have k5 := And.intro (cells2t hb5.bw).1.1 (And.intro (cells2t hb5.bw).1.2 (cells2t hb5.bs).1)
  have S6 := Lib.hid (S5.out.box (off_set2 (set2 w1 (w.heap.size + 3) (.slice a0 n0 c0) (.slice a1 n1 c1)) (w.heap.size + 4) (.slice a2 n2 c2) (.slice a3 n3 c3)) (fun i k hk => by rw [hk]; exact HN.out 4 i (by decide)) (fun k hk => by rw [hk]; exact HK0.out _ (Nat.le_add_right _ _)) (fun k hk => by rw [hk]; have := HW0.out; omega))
  clear z2 z3 y2 y3 k4
  (refine xtakeV 4 (v := ?_) (by simp only [List.getElem?_toArray, List.getElem?_cons, reduceIte]; rfl) (by kernel_rfl) (by rfl) (fun w' hw' => ?_) ?_; rotate_left; focus (skip; go_simp; first | done | with_reducible rfl)); (simp only [Act.put, List.setIfInBounds_toArray, List.set])
  (refine xdone (by kernel_rfl) (k5) ?_)
  obtain ⟨⟨z0, z1⟩, _⟩ := cells2t hb5.z1
  obtain ⟨⟨z2, z3⟩, _⟩ := cells2t hb5.z2
  simp only [set2] at z0 z1 z2 z3
  clear k5 hb3 hb4 hb5
  go_wp2_with fail
  refine bodyPost_ret (v := .tuple #[.agg #[.slice a0 n0 c0, .slice a1 n1 c1], .agg #[.slice a2 n2 c2, .slice a3 n3 c3], .bool true]) (by simp [results, Tryd.results11, go_sem, z0, z1, z2, z3]) rfl ?_
  exact ⟨_, _, by rw [two2_of (i := 0) HX.out.1 HX.out.2.1, two2_of (i := 2) HX.out.2.2.1 HX.out.2.2.2], S6.out⟩

set_option maxRecDepth 50000 in
set_option maxHeartbeats 8000000 in
theorem iplay_err0 (w0 wB w : World) (Kp : Nat → Prop) (hs : Std w0) (p : Nat) (P : PipeS) (L : Nat → List ByteArray) (x : Nat → SV) (F : Nat → Nat → Prop) (h : Wt w0 wB Kp w p P x L F) (an ax : Int) (ab : ByteArray) (hsz : (P.look 0 an).size ≤ 1000) (hg : (P.got 0).length ≤ 1000000) (ht : P.there 0 an = true) (hw : whatN (P.look 0 an) ≠ 0) :
    Calls Tryd.prog 11 #[.pointer (some ⟨p, 0, none⟩), .agg #[.int .i64 3, .int .i64 0, .int .i64 an, .int .i64 ax, .string ab], .agg (two2 x 0), .agg (two2 x 2)] w (PlayTo w0 wB Kp p (P.come 0 an) L true) := by
  have H := Lib.hid h
  have HST := Lib.hid hs
  have HF : Hid (∀ j i, ¬ F i (w.heap.size + j)) := Lib.hid (fun j i hk => by have := (h.low i _ hk).2; omega)
  have HW0 : Hid (w0.heap.size ≤ w.heap.size) := Lib.hid h.ext.size
  have HK0 : Hid (∀ k, w.heap.size ≤ k → ¬ Kp k) := Lib.hid (fun k h1 h2 => by have := (h.kp k h2).1; have := h.kb; omega)
  obtain ⟨⟨a0, n0, c0⟩, h0⟩ : ∃ s, x 0 = s := ⟨_, rfl⟩
  obtain ⟨⟨a1, n1, c1⟩, h1⟩ : ∃ s, x 1 = s := ⟨_, rfl⟩
  obtain ⟨⟨a2, n2, c2⟩, h2⟩ : ∃ s, x 2 = s := ⟨_, rfl⟩
  obtain ⟨⟨a3, n3, c3⟩, h3⟩ : ∃ s, x 3 = s := ⟨_, rfl⟩
  unfold two2
  rw [h0, h1, h2, h3]
  have HX := Lib.hid (And.intro h0 (And.intro h1 (And.intro h2 h3)))
  dsimp only
  clear h hs h0 h1 h2 h3
  obtain ⟨B, hB⟩ : ∃ B, B = P.look 0 an := ⟨_, rfl⟩
  rw [← hB] at hsz hw
  have HG := Lib.hid hg
  have HT := Lib.hid ht
  have hw2 : (((whatN B : Nat) : Int) == 0) = false := by simpa using hw
  clear hg ht hw
  have HSZ := Lib.hid (show B.size ≤ 281474976710656 by omega)
  have HBV := Lib.hid hB
  clear hsz hB
  go_enter Tryd.func11, Tryd.ntmps11
  (try dsimp only [List.append])
  go_wp2_with fail
  obtain ⟨W1, hW1⟩ : ∃ W, W = (five w #[.int .i64 3, .int .i64 0, .int .i64 an, .int .i64 ax, .string ab] #[.slice a0 n0 c0, .slice a1 n1 c1] #[.slice a2 n2 c2, .slice a3 n3 c3] zz zz) := ⟨_, rfl⟩
  have HB := Lib.hid (five_b5 w #[.int .i64 3, .int .i64 0, .int .i64 an, .int .i64 ax, .string ab] #[.slice a0 n0 c0, .slice a1 n1 c1] #[.slice a2 n2 c2, .slice a3 n3 c3] zz zz)
  have H1 := Lib.hid (H.out.more (five_ext w #[.int .i64 3, .int .i64 0, .int .i64 an, .int .i64 ax, .string ab] #[.slice a0 n0 c0, .slice a1 n1 c1] #[.slice a2 n2 c2, .slice a3 n3 c3] zz zz))
  rw [← hW1] at HB H1
  try change Calls _ _ _ (five w #[.int .i64 3, .int .i64 0, .int .i64 an, .int .i64 ax, .string ab] #[.slice a0 n0 c0, .slice a1 n1 c1] #[.slice a2 n2 c2, .slice a3 n3 c3] zz zz) _
  rw [← hW1]
  have cL := iLook H1.out.e 0 an
  rw [← HBV.out, HT.out] at cL
  refine (cL).mono ?_
  rintro e w3 ⟨F3, rfl, nn, o, g⟩
  have HB3 := Lib.hid (HB.out.off o (fun i _ => HF.out i 0))
  have S3 := Lib.hid (H1.out.moves nn o g)
  have HN : Hid (∀ i j, i < 5 → ¬ upd F 0 F3 j (w.heap.size + i)) := Lib.hid (fun i j hi => nb_upd (HF.out i) (by have := HB.out.lt; omega) g j)
  clear cL nn o g hW1 HB H1
  dsimp only
  go_wp2_with fail
  refine (get_any _ (HST.out.ext S3.out.ext) B HSZ.out).mono ?_
  rintro ev w4 ⟨rfl, x4⟩
  obtain ⟨⟨fk, fe, fq, fa, fb⟩, hf⟩ : ∃ f, f = getF B := ⟨_, rfl⟩
  rw [← hf]
  unfold frV
  dsimp only
  have HB4 := Lib.hid (HB3.out.ext (x4.alloc (.cells #[.int .i64 fk, .int .i64 fe, .int .u64 (fq : Int), .int .u64 (fa : Int), .string fb] 57 (0, 0))))
  have S4 := Lib.hid (S3.out.more (x4.alloc (.cells #[.int .i64 fk, .int .i64 fe, .int .u64 (fq : Int), .int .u64 (fa : Int), .string fb] 57 (0, 0))))
  clear x4 hf HB3 S3
  obtain ⟨d0, d1, d2, d3, d4⟩ := cells5t HB4.out.ba
  obtain ⟨⟨f0, f1⟩, _⟩ := cells2t HB4.out.bw
  go_wp2_with fail
  have cC := Lib.hid (iCome (HST.out.ext S4.out.ext) S4.out.e 0 an HG.out)
  refine cC.out.mono ?_
  rintro e w6 ⟨F6, rfl, nn, o, g⟩
  have HB3 := Lib.hid (HB4.out.off o (fun i hi => HN.out i 0 hi))
  have S3 := Lib.hid (S4.out.moves nn o g)
  have HN2 : Hid (∀ i j, i < 5 → ¬ upd (upd F 0 F3) 0 F6 j (w.heap.size + i)) := Lib.hid (fun i j hi => nb_upd (fun j => HN.out i j hi) (by have := HB4.out.lt; omega) g j)
  clear nn o g HB4 S4 cC HN d0 d1 d2 d3 d4 f0 f1
  have HN := HN2
  clear HN2
  dsimp only
  go_wp2_with fail
  (refine wp_region_X_lit (K := fun W => W.cell? ⟨w.heap.size + 1, 0, none⟩ = some (.slice a0 n0 c0) ∧ W.cell? ⟨w.heap.size + 1, 1, none⟩ = some (.slice a1 n1 c1) ∧ W.cell? ⟨w.heap.size + 2, 0, none⟩ = some (.slice a2 n2 c2) ∧ W.cell? ⟨w.heap.size + 2, 1, none⟩ = some (.slice a3 n3 c3)) (by kernel_rfl) (fun w1 hw1 => ?_))
  have hb3 := HB3.out.ext hw1
  have S4 := Lib.hid (S3.out.more hw1)
  have k3 : w1.cell? ⟨w.heap.size + 1, 0, none⟩ = some (.slice a0 n0 c0) ∧ w1.cell? ⟨w.heap.size + 1, 1, none⟩ = some (.slice a1 n1 c1) ∧ w1.cell? ⟨w.heap.size + 2, 0, none⟩ = some (.slice a2 n2 c2) ∧ w1.cell? ⟨w.heap.size + 2, 1, none⟩ = some (.slice a3 n3 c3) := ⟨(cells2t hb3.bw).1.1, (cells2t hb3.bw).1.2, (cells2t hb3.bs).1.1, (cells2t hb3.bs).1.2⟩
  obtain ⟨⟨z0, z1⟩, y0, y1⟩ := cells2t hb3.z1
  obtain ⟨⟨z2, z3⟩, y2, y3⟩ := cells2t hb3.z2
  clear hw1
  (refine xtakeV 0 (v := ?_) (by simp only [List.getElem?_toArray, List.getElem?_cons, reduceIte]; rfl) (by kernel_rfl) (by rfl) (fun w' hw' => ?_) ?_; rotate_left; focus (have hc := hw'.1; have hd := hw'.2.1; go_simp; first | done | with_reducible rfl)); (simp only [Act.put, List.setIfInBounds_toArray, List.set])
  (refine xtakeV 1 (v := ?_) (by simp only [List.getElem?_toArray, List.getElem?_cons, reduceIte]; rfl) (by kernel_rfl) (by rfl) (fun w' hw' => ?_) ?_; rotate_left; focus (have hc := hw'.2.2.1; have hd := hw'.2.2.2; go_simp; first | done | with_reducible rfl)); (simp only [Act.put, List.setIfInBounds_toArray, List.set])
  (refine xone 2 (by kernel_rfl) (k3) (RunX.of 2 (by simp only [List.getElem?_toArray, List.getElem?_cons, reduceIte]; rfl) (by rfl) ?_))
  go_simp
  (try (simp only [Act.put, List.setIfInBounds_toArray, List.set]))
  have hb4 := hb3.setz1 (.slice a0 n0 c0) (.slice a1 n1 c1)
  have k4 := And.intro (cells2t hb4.bw).1.1 (And.intro (cells2t hb4.bw).1.2 (cells2t hb4.bs).1)
  have S5 := Lib.hid (S4.out.box (off_set2 w1 (w.heap.size + 3) (.slice a0 n0 c0) (.slice a1 n1 c1)) (fun i k hk => by rw [hk]; exact HN.out 3 i (by decide)) (fun k hk => by rw [hk]; exact HK0.out _ (Nat.le_add_right _ _)) (fun k hk => by rw [hk]; have := HW0.out; omega))
  clear z0 z1 y0 y1 z2 z3 y2 y3 k3
  obtain ⟨⟨z2, z3⟩, y2, y3⟩ := cells2t hb4.z2
  simp only [set2] at z2 z3 y2 y3
  (refine xone 3 (by kernel_rfl) (k4) (RunX.of 3 (by simp only [List.getElem?_toArray, List.getElem?_cons, reduceIte]; rfl) (by rfl) ?_))
  go_simp
  (try (simp only [Act.put, List.setIfInBounds_toArray, List.set]))
  have hb5 := hb4.setz2 (.slice a2 n2 c2) (.slice a3 n3 c3)
  have k5 := And.intro (cells2t hb5.bw).1.1 (And.intro (cells2t hb5.bw).1.2 (cells2t hb5.bs).1)
  have S6 := Lib.hid (S5.out.box (off_set2 (set2 w1 (w.heap.size + 3) (.slice a0 n0 c0) (.slice a1 n1 c1)) (w.heap.size + 4) (.slice a2 n2 c2) (.slice a3 n3 c3)) (fun i k hk => by rw [hk]; exact HN.out 4 i (by decide)) (fun k hk => by rw [hk]; exact HK0.out _ (Nat.le_add_right _ _)) (fun k hk => by rw [hk]; have := HW0.out; omega))
  clear z2 z3 y2 y3 k4
  (refine xtakeV 4 (v := ?_) (by simp only [List.getElem?_toArray, List.getElem?_cons, reduceIte]; rfl) (by kernel_rfl) (by rfl) (fun w' hw' => ?_) ?_; rotate_left; focus (skip; go_simp; first | done | with_reducible rfl)); (simp only [Act.put, List.setIfInBounds_toArray, List.set])
  (refine xdone (by kernel_rfl) (k5) ?_)
  obtain ⟨⟨z0, z1⟩, _⟩ := cells2t hb5.z1
  obtain ⟨⟨z2, z3⟩, _⟩ := cells2t hb5.z2
  simp only [set2] at z0 z1 z2 z3
  clear k5 hb3 hb4 hb5
  go_wp2_with fail
  refine bodyPost_ret (v := .tuple #[.agg #[.slice a0 n0 c0, .slice a1 n1 c1], .agg #[.slice a2 n2 c2, .slice a3 n3 c3], .bool true]) (by simp [results, Tryd.results11, go_sem, z0, z1, z2, z3]) rfl ?_
  exact ⟨_, _, by rw [two2_of (i := 0) HX.out.1 HX.out.2.1, two2_of (i := 2) HX.out.2.2.1 HX.out.2.2.2], S6.out⟩

set_option maxRecDepth 50000 in
set_option maxHeartbeats 8000000 in
theorem iplay_in0 (w0 wB w : World) (Kp : Nat → Prop) (hs : Std w0) (p : Nat) (P : PipeS) (L : Nat → List ByteArray) (x : Nat → SV) (F : Nat → Nat → Prop) (h : Wt w0 wB Kp w p P x L F) (an ax : Int) (ab : ByteArray) (hsz : (P.look 0 an).size ≤ 1000) (hg : (P.got 0).length ≤ 1000000) (ht : P.there 0 an = true) (hw : whatN (P.look 0 an) = 0) (hm : mem (L 0) (P.look 0 an) = true) :
    Calls Tryd.prog 11 #[.pointer (some ⟨p, 0, none⟩), .agg #[.int .i64 3, .int .i64 0, .int .i64 an, .int .i64 ax, .string ab], .agg (two2 x 0), .agg (two2 x 2)] w (PlayTo w0 wB Kp p (P.come 0 an) L true) := by
  have H := Lib.hid h
  have HST := Lib.hid hs
  have HF : Hid (∀ j i, ¬ F i (w.heap.size + j)) := Lib.hid (fun j i hk => by have := (h.low i _ hk).2; omega)
  have HW0 : Hid (w0.heap.size ≤ w.heap.size) := Lib.hid h.ext.size
  have HK0 : Hid (∀ k, w.heap.size ≤ k → ¬ Kp k) := Lib.hid (fun k h1 h2 => by have := (h.kp k h2).1; have := h.kb; omega)
  obtain ⟨⟨a0, n0, c0⟩, h0⟩ : ∃ s, x 0 = s := ⟨_, rfl⟩
  obtain ⟨⟨a1, n1, c1⟩, h1⟩ : ∃ s, x 1 = s := ⟨_, rfl⟩
  obtain ⟨⟨a2, n2, c2⟩, h2⟩ : ∃ s, x 2 = s := ⟨_, rfl⟩
  obtain ⟨⟨a3, n3, c3⟩, h3⟩ : ∃ s, x 3 = s := ⟨_, rfl⟩
  unfold two2
  rw [h0, h1, h2, h3]
  have HX := Lib.hid (And.intro h0 (And.intro h1 (And.intro h2 h3)))
  dsimp only
  clear h hs h0 h1 h2 h3
  obtain ⟨B, hB⟩ : ∃ B, B = P.look 0 an := ⟨_, rfl⟩
  rw [← hB] at hsz hw hm
  have HG := Lib.hid hg
  have HT := Lib.hid ht
  have HW := Lib.hid hw
  have HM := Lib.hid hm
  clear hg ht hw hm
  have HSZ := Lib.hid (show B.size ≤ 281474976710656 by omega)
  have HBV := Lib.hid hB
  clear hsz hB
  go_enter Tryd.func11, Tryd.ntmps11
  (try dsimp only [List.append])
  go_wp2_with fail
  obtain ⟨W1, hW1⟩ : ∃ W, W = (five w #[.int .i64 3, .int .i64 0, .int .i64 an, .int .i64 ax, .string ab] #[.slice a0 n0 c0, .slice a1 n1 c1] #[.slice a2 n2 c2, .slice a3 n3 c3] zz zz) := ⟨_, rfl⟩
  have HB := Lib.hid (five_b5 w #[.int .i64 3, .int .i64 0, .int .i64 an, .int .i64 ax, .string ab] #[.slice a0 n0 c0, .slice a1 n1 c1] #[.slice a2 n2 c2, .slice a3 n3 c3] zz zz)
  have H1 := Lib.hid (H.out.more (five_ext w #[.int .i64 3, .int .i64 0, .int .i64 an, .int .i64 ax, .string ab] #[.slice a0 n0 c0, .slice a1 n1 c1] #[.slice a2 n2 c2, .slice a3 n3 c3] zz zz))
  rw [← hW1] at HB H1
  try change Calls _ _ _ (five w #[.int .i64 3, .int .i64 0, .int .i64 an, .int .i64 ax, .string ab] #[.slice a0 n0 c0, .slice a1 n1 c1] #[.slice a2 n2 c2, .slice a3 n3 c3] zz zz) _
  rw [← hW1]
  have cL := iLook H1.out.e 0 an
  rw [← HBV.out, HT.out] at cL
  refine (cL).mono ?_
  rintro e w3 ⟨F3, rfl, nn, o, g⟩
  have HB3 := Lib.hid (HB.out.off o (fun i _ => HF.out i 0))
  have S3 := Lib.hid (H1.out.moves nn o g)
  have HN : Hid (∀ i j, i < 5 → ¬ upd F 0 F3 j (w.heap.size + i)) := Lib.hid (fun i j hi => nb_upd (HF.out i) (by have := HB.out.lt; omega) g j)
  clear cL nn o g hW1 HB H1
  dsimp only
  go_wp2_with fail
  refine (get_any _ (HST.out.ext S3.out.ext) B HSZ.out).mono ?_
  rintro ev w4 ⟨rfl, x4⟩
  obtain ⟨⟨fk, fe, fq, fa, fb⟩, hf⟩ : ∃ f, f = getF B := ⟨_, rfl⟩
  rw [← hf, HW.out]
  unfold frV
  dsimp only
  have HB4 := Lib.hid (HB3.out.ext (x4.alloc (.cells #[.int .i64 fk, .int .i64 fe, .int .u64 (fq : Int), .int .u64 (fa : Int), .string fb] 57 (0, 0))))
  have S4 := Lib.hid (S3.out.more (x4.alloc (.cells #[.int .i64 fk, .int .i64 fe, .int .u64 (fq : Int), .int .u64 (fa : Int), .string fb] 57 (0, 0))))
  clear x4 hf HB3 S3
  obtain ⟨d0, d1, d2, d3, d4⟩ := cells5t HB4.out.ba
  obtain ⟨⟨f0, f1⟩, _⟩ := cells2t HB4.out.bw
  go_wp2_with fail
  refine (in_any _ _ (L 0) (S4.out.own (i := 0) (by decide) HX.out.1).1.sl B).mono ?_
  rintro ev w5 ⟨rfl, rfl⟩
  rw [HM.out]
  go_wp2_with fail
  have cC := Lib.hid (iCome (HST.out.ext S4.out.ext) S4.out.e 0 an HG.out)
  refine cC.out.mono ?_
  rintro e w6 ⟨F6, rfl, nn, o, g⟩
  have HB3 := Lib.hid (HB4.out.off o (fun i hi => HN.out i 0 hi))
  have S3 := Lib.hid (S4.out.moves nn o g)
  have HN2 : Hid (∀ i j, i < 5 → ¬ upd (upd F 0 F3) 0 F6 j (w.heap.size + i)) := Lib.hid (fun i j hi => nb_upd (fun j => HN.out i j hi) (by have := HB4.out.lt; omega) g j)
  clear nn o g HB4 S4 cC HN d0 d1 d2 d3 d4 f0 f1
  have HN := HN2
  clear HN2
  dsimp only
  go_wp2_with fail
  (refine wp_region_X_lit (K := fun W => W.cell? ⟨w.heap.size + 1, 0, none⟩ = some (.slice a0 n0 c0) ∧ W.cell? ⟨w.heap.size + 1, 1, none⟩ = some (.slice a1 n1 c1) ∧ W.cell? ⟨w.heap.size + 2, 0, none⟩ = some (.slice a2 n2 c2) ∧ W.cell? ⟨w.heap.size + 2, 1, none⟩ = some (.slice a3 n3 c3)) (by kernel_rfl) (fun w1 hw1 => ?_))
  have hb3 := HB3.out.ext hw1
  have S4 := Lib.hid (S3.out.more hw1)
  have k3 : w1.cell? ⟨w.heap.size + 1, 0, none⟩ = some (.slice a0 n0 c0) ∧ w1.cell? ⟨w.heap.size + 1, 1, none⟩ = some (.slice a1 n1 c1) ∧ w1.cell? ⟨w.heap.size + 2, 0, none⟩ = some (.slice a2 n2 c2) ∧ w1.cell? ⟨w.heap.size + 2, 1, none⟩ = some (.slice a3 n3 c3) := ⟨(cells2t hb3.bw).1.1, (cells2t hb3.bw).1.2, (cells2t hb3.bs).1.1, (cells2t hb3.bs).1.2⟩
  obtain ⟨⟨z0, z1⟩, y0, y1⟩ := cells2t hb3.z1
  obtain ⟨⟨z2, z3⟩, y2, y3⟩ := cells2t hb3.z2
  clear hw1
  (refine xtakeV 0 (v := ?_) (by simp only [List.getElem?_toArray, List.getElem?_cons, reduceIte]; rfl) (by kernel_rfl) (by rfl) (fun w' hw' => ?_) ?_; rotate_left; focus (have hc := hw'.1; have hd := hw'.2.1; go_simp; first | done | with_reducible rfl)); (simp only [Act.put, List.setIfInBounds_toArray, List.set])
  (refine xtakeV 1 (v := ?_) (by simp only [List.getElem?_toArray, List.getElem?_cons, reduceIte]; rfl) (by kernel_rfl) (by rfl) (fun w' hw' => ?_) ?_; rotate_left; focus (have hc := hw'.2.2.1; have hd := hw'.2.2.2; go_simp; first | done | with_reducible rfl)); (simp only [Act.put, List.setIfInBounds_toArray, List.set])
  (refine xone 2 (by kernel_rfl) (k3) (RunX.of 2 (by simp only [List.getElem?_toArray, List.getElem?_cons, reduceIte]; rfl) (by rfl) ?_))
  go_simp
  (try (simp only [Act.put, List.setIfInBounds_toArray, List.set]))
  have hb4 := hb3.setz1 (.slice a0 n0 c0) (.slice a1 n1 c1)
  have k4 := And.intro (cells2t hb4.bw).1.1 (And.intro (cells2t hb4.bw).1.2 (cells2t hb4.bs).1)
  have S5 := Lib.hid (S4.out.box (off_set2 w1 (w.heap.size + 3) (.slice a0 n0 c0) (.slice a1 n1 c1)) (fun i k hk => by rw [hk]; exact HN.out 3 i (by decide)) (fun k hk => by rw [hk]; exact HK0.out _ (Nat.le_add_right _ _)) (fun k hk => by rw [hk]; have := HW0.out; omega))
  clear z0 z1 y0 y1 z2 z3 y2 y3 k3
  obtain ⟨⟨z2, z3⟩, y2, y3⟩ := cells2t hb4.z2
  simp only [set2] at z2 z3 y2 y3
  (refine xone 3 (by kernel_rfl) (k4) (RunX.of 3 (by simp only [List.getElem?_toArray, List.getElem?_cons, reduceIte]; rfl) (by rfl) ?_))
  go_simp
  (try (simp only [Act.put, List.setIfInBounds_toArray, List.set]))
  have hb5 := hb4.setz2 (.slice a2 n2 c2) (.slice a3 n3 c3)
  have k5 := And.intro (cells2t hb5.bw).1.1 (And.intro (cells2t hb5.bw).1.2 (cells2t hb5.bs).1)
  have S6 := Lib.hid (S5.out.box (off_set2 (set2 w1 (w.heap.size + 3) (.slice a0 n0 c0) (.slice a1 n1 c1)) (w.heap.size + 4) (.slice a2 n2 c2) (.slice a3 n3 c3)) (fun i k hk => by rw [hk]; exact HN.out 4 i (by decide)) (fun k hk => by rw [hk]; exact HK0.out _ (Nat.le_add_right _ _)) (fun k hk => by rw [hk]; have := HW0.out; omega))
  clear z2 z3 y2 y3 k4
  (refine xtakeV 4 (v := ?_) (by simp only [List.getElem?_toArray, List.getElem?_cons, reduceIte]; rfl) (by kernel_rfl) (by rfl) (fun w' hw' => ?_) ?_; rotate_left; focus (skip; go_simp; first | done | with_reducible rfl)); (simp only [Act.put, List.setIfInBounds_toArray, List.set])
  (refine xdone (by kernel_rfl) (k5) ?_)
  obtain ⟨⟨z0, z1⟩, _⟩ := cells2t hb5.z1
  obtain ⟨⟨z2, z3⟩, _⟩ := cells2t hb5.z2
  simp only [set2] at z0 z1 z2 z3
  clear k5 hb3 hb4 hb5
  go_wp2_with fail
  refine bodyPost_ret (v := .tuple #[.agg #[.slice a0 n0 c0, .slice a1 n1 c1], .agg #[.slice a2 n2 c2, .slice a3 n3 c3], .bool true]) (by simp [results, Tryd.results11, go_sem, z0, z1, z2, z3]) rfl ?_
  exact ⟨_, _, by rw [two2_of (i := 0) HX.out.1 HX.out.2.1, two2_of (i := 2) HX.out.2.2.1 HX.out.2.2.2], S6.out⟩

set_option maxRecDepth 50000 in
set_option maxHeartbeats 8000000 in
theorem iplay_bad0 (w0 wB w : World) (Kp : Nat → Prop) (hs : Std w0) (p : Nat) (P : PipeS) (L : Nat → List ByteArray) (x : Nat → SV) (F : Nat → Nat → Prop) (h : Wt w0 wB Kp w p P x L F) (an ax : Int) (ab : ByteArray) (hsz : (P.look 0 an).size ≤ 1000) (hg : (P.got 0).length ≤ 1000000) (ht : P.there 0 an = true) (hw : whatN (P.look 0 an) = 0) (hm : mem (L 0) (P.look 0 an) = false) :
    Calls Tryd.prog 11 #[.pointer (some ⟨p, 0, none⟩), .agg #[.int .i64 3, .int .i64 0, .int .i64 an, .int .i64 ax, .string ab], .agg (two2 x 0), .agg (two2 x 2)] w (PlayTo w0 wB Kp p P L false) := by
  have H := Lib.hid h
  have HST := Lib.hid hs
  have HF : Hid (∀ j i, ¬ F i (w.heap.size + j)) := Lib.hid (fun j i hk => by have := (h.low i _ hk).2; omega)
  have HW0 : Hid (w0.heap.size ≤ w.heap.size) := Lib.hid h.ext.size
  have HK0 : Hid (∀ k, w.heap.size ≤ k → ¬ Kp k) := Lib.hid (fun k h1 h2 => by have := (h.kp k h2).1; have := h.kb; omega)
  obtain ⟨⟨a0, n0, c0⟩, h0⟩ : ∃ s, x 0 = s := ⟨_, rfl⟩
  obtain ⟨⟨a1, n1, c1⟩, h1⟩ : ∃ s, x 1 = s := ⟨_, rfl⟩
  obtain ⟨⟨a2, n2, c2⟩, h2⟩ : ∃ s, x 2 = s := ⟨_, rfl⟩
  obtain ⟨⟨a3, n3, c3⟩, h3⟩ : ∃ s, x 3 = s := ⟨_, rfl⟩
  unfold two2
  rw [h0, h1, h2, h3]
  have HX := Lib.hid (And.intro h0 (And.intro h1 (And.intro h2 h3)))
  dsimp only
  clear h hs h0 h1 h2 h3
  obtain ⟨B, hB⟩ : ∃ B, B = P.look 0 an := ⟨_, rfl⟩
  rw [← hB] at hsz hw hm
  have HG := Lib.hid hg
  have HT := Lib.hid ht
  have HW := Lib.hid hw
  have HM := Lib.hid hm
  clear hg ht hw hm
  have HSZ := Lib.hid (show B.size ≤ 281474976710656 by omega)
  have HBV := Lib.hid hB
  clear hsz hB
  go_enter Tryd.func11, Tryd.ntmps11
  (try dsimp only [List.append])
  go_wp2_with fail
  obtain ⟨W1, hW1⟩ : ∃ W, W = (five w #[.int .i64 3, .int .i64 0, .int .i64 an, .int .i64 ax, .string ab] #[.slice a0 n0 c0, .slice a1 n1 c1] #[.slice a2 n2 c2, .slice a3 n3 c3] zz zz) := ⟨_, rfl⟩
  have HB := Lib.hid (five_b5 w #[.int .i64 3, .int .i64 0, .int .i64 an, .int .i64 ax, .string ab] #[.slice a0 n0 c0, .slice a1 n1 c1] #[.slice a2 n2 c2, .slice a3 n3 c3] zz zz)
  have H1 := Lib.hid (H.out.more (five_ext w #[.int .i64 3, .int .i64 0, .int .i64 an, .int .i64 ax, .string ab] #[.slice a0 n0 c0, .slice a1 n1 c1] #[.slice a2 n2 c2, .slice a3 n3 c3] zz zz))
  rw [← hW1] at HB H1
  try change Calls _ _ _ (five w #[.int .i64 3, .int .i64 0, .int .i64 an, .int .i64 ax, .string ab] #[.slice a0 n0 c0, .slice a1 n1 c1] #[.slice a2 n2 c2, .slice a3 n3 c3] zz zz) _
  rw [← hW1]
  have cL := iLook H1.out.e 0 an
  rw [← HBV.out, HT.out] at cL
  refine (cL).mono ?_
  rintro e w3 ⟨F3, rfl, nn, o, g⟩
  have HB3 := Lib.hid (HB.out.off o (fun i _ => HF.out i 0))
  have S3 := Lib.hid (H1.out.moves nn o g)
  have HN : Hid (∀ i j, i < 5 → ¬ upd F 0 F3 j (w.heap.size + i)) := Lib.hid (fun i j hi => nb_upd (HF.out i) (by have := HB.out.lt; omega) g j)
  clear cL nn o g hW1 HB H1
  dsimp only
  go_wp2_with fail
  refine (get_any _ (HST.out.ext S3.out.ext) B HSZ.out).mono ?_
  rintro ev w4 ⟨rfl, x4⟩
  obtain ⟨⟨fk, fe, fq, fa, fb⟩, hf⟩ : ∃ f, f = getF B := ⟨_, rfl⟩
  rw [← hf, HW.out]
  unfold frV
  dsimp only
  have HB4 := Lib.hid (HB3.out.ext (x4.alloc (.cells #[.int .i64 fk, .int .i64 fe, .int .u64 (fq : Int), .int .u64 (fa : Int), .string fb] 57 (0, 0))))
  have S4 := Lib.hid (S3.out.more (x4.alloc (.cells #[.int .i64 fk, .int .i64 fe, .int .u64 (fq : Int), .int .u64 (fa : Int), .string fb] 57 (0, 0))))
  clear x4 hf HB3 S3
  obtain ⟨d0, d1, d2, d3, d4⟩ := cells5t HB4.out.ba
  obtain ⟨⟨f0, f1⟩, _⟩ := cells2t HB4.out.bw
  go_wp2_with fail
  refine (in_any _ _ (L 0) (S4.out.own (i := 0) (by decide) HX.out.1).1.sl B).mono ?_
  rintro ev w5 ⟨rfl, rfl⟩
  rw [HM.out]
  have HB3 := HB4
  have S3 := S4
  clear HB4 S4 d0 d1 d2 d3 d4 f0 f1
  go_wp2_with fail
  (refine wp_region_X_lit (K := fun W => W.cell? ⟨w.heap.size + 1, 0, none⟩ = some (.slice a0 n0 c0) ∧ W.cell? ⟨w.heap.size + 1, 1, none⟩ = some (.slice a1 n1 c1) ∧ W.cell? ⟨w.heap.size + 2, 0, none⟩ = some (.slice a2 n2 c2) ∧ W.cell? ⟨w.heap.size + 2, 1, none⟩ = some (.slice a3 n3 c3)) (by kernel_rfl) (fun w1 hw1 => ?_))
  have hb3 := HB3.out.ext hw1
  have S4 := Lib.hid (S3.out.more hw1)
  have k3 : w1.cell? ⟨w.heap.size + 1, 0, none⟩ = some (.slice a0 n0 c0) ∧ w1.cell? ⟨w.heap.size + 1, 1, none⟩ = some (.slice a1 n1 c1) ∧ w1.cell? ⟨w.heap.size + 2, 0, none⟩ = some (.slice a2 n2 c2) ∧ w1.cell? ⟨w.heap.size + 2, 1, none⟩ = some (.slice a3 n3 c3) := ⟨(cells2t hb3.bw).1.1, (cells2t hb3.bw).1.2, (cells2t hb3.bs).1.1, (cells2t hb3.bs).1.2⟩
  obtain ⟨⟨z0, z1⟩, y0, y1⟩ := cells2t hb3.z1
  obtain ⟨⟨z2, z3⟩, y2, y3⟩ := cells2t hb3.z2
  clear hw1
  (refine xtakeV 0 (v := ?_) (by simp only [List.getElem?_toArray, List.getElem?_cons, reduceIte]; rfl) (by kernel_rfl) (by rfl) (fun w' hw' => ?_) ?_; rotate_left; focus (have hc := hw'.1; have hd := hw'.2.1; go_simp; first | done | with_reducible rfl)); (simp only [Act.put, List.setIfInBounds_toArray, List.set])
  (refine xtakeV 1 (v := ?_) (by simp only [List.getElem?_toArray, List.getElem?_cons, reduceIte]; rfl) (by kernel_rfl) (by rfl) (fun w' hw' => ?_) ?_; rotate_left; focus (have hc := hw'.2.2.1; have hd := hw'.2.2.2; go_simp; first | done | with_reducible rfl)); (simp only [Act.put, List.setIfInBounds_toArray, List.set])
  (refine xone 2 (by kernel_rfl) (k3) (RunX.of 2 (by simp only [List.getElem?_toArray, List.getElem?_cons, reduceIte]; rfl) (by rfl) ?_))
  go_simp
  (try (simp only [Act.put, List.setIfInBounds_toArray, List.set]))
  have hb4 := hb3.setz1 (.slice a0 n0 c0) (.slice a1 n1 c1)
  have k4 := And.intro (cells2t hb4.bw).1.1 (And.intro (cells2t hb4.bw).1.2 (cells2t hb4.bs).1)
  have S5 := Lib.hid (S4.out.box (off_set2 w1 (w.heap.size + 3) (.slice a0 n0 c0) (.slice a1 n1 c1)) (fun i k hk => by rw [hk]; exact HN.out 3 i (by decide)) (fun k hk => by rw [hk]; exact HK0.out _ (Nat.le_add_right _ _)) (fun k hk => by rw [hk]; have := HW0.out; omega))
  clear z0 z1 y0 y1 z2 z3 y2 y3 k3
  obtain ⟨⟨z2, z3⟩, y2, y3⟩ := cells2t hb4.z2
  simp only [set2] at z2 z3 y2 y3
  (refine xone 3 (by kernel_rfl) (k4) (RunX.of 3 (by simp only [List.getElem?_toArray, List.getElem?_cons, reduceIte]; rfl) (by rfl) ?_))
  go_simp
  (try (simp only [Act.put, List.setIfInBounds_toArray, List.set]))
  have hb5 := hb4.setz2 (.slice a2 n2 c2) (.slice a3 n3 c3)
  have k5 := And.intro (cells2t hb5.bw).1.1 (And.intro (cells2t hb5.bw).1.2 (cells2t hb5.bs).1)
  have S6 := Lib.hid (S5.out.box (off_set2 (set2 w1 (w.heap.size + 3) (.slice a0 n0 c0) (.slice a1 n1 c1)) (w.heap.size + 4) (.slice a2 n2 c2) (.slice a3 n3 c3)) (fun i k hk => by rw [hk]; exact HN.out 4 i (by decide)) (fun k hk => by rw [hk]; exact HK0.out _ (Nat.le_add_right _ _)) (fun k hk => by rw [hk]; have := HW0.out; omega))
  clear z2 z3 y2 y3 k4
  (refine xtakeV 4 (v := ?_) (by simp only [List.getElem?_toArray, List.getElem?_cons, reduceIte]; rfl) (by kernel_rfl) (by rfl) (fun w' hw' => ?_) ?_; rotate_left; focus (skip; go_simp; first | done | with_reducible rfl)); (simp only [Act.put, List.setIfInBounds_toArray, List.set])
  (refine xdone (by kernel_rfl) (k5) ?_)
  obtain ⟨⟨z0, z1⟩, _⟩ := cells2t hb5.z1
  obtain ⟨⟨z2, z3⟩, _⟩ := cells2t hb5.z2
  simp only [set2] at z0 z1 z2 z3
  clear k5 hb3 hb4 hb5
  go_wp2_with fail
  refine bodyPost_ret (v := .tuple #[.agg #[.slice a0 n0 c0, .slice a1 n1 c1], .agg #[.slice a2 n2 c2, .slice a3 n3 c3], .bool false]) (by simp [results, Tryd.results11, go_sem, z0, z1, z2, z3]) rfl ?_
  exact ⟨_, _, by rw [two2_of (i := 0) HX.out.1 HX.out.2.1, two2_of (i := 2) HX.out.2.2.1 HX.out.2.2.2], S6.out⟩

set_option maxRecDepth 50000 in
set_option maxHeartbeats 8000000 in
theorem iplay_none1 (w0 wB w : World) (Kp : Nat → Prop) (hs : Std w0) (p : Nat) (P : PipeS) (L : Nat → List ByteArray) (x : Nat → SV) (F : Nat → Nat → Prop) (h : Wt w0 wB Kp w p P x L F) (an ax : Int) (ab : ByteArray) (hsz : (P.look 1 an).size ≤ 1000) (hg : (P.got 1).length ≤ 1000000) (ht : P.there 1 an = false) :
    Calls Tryd.prog 11 #[.pointer (some ⟨p, 0, none⟩), .agg #[.int .i64 3, .int .i64 1, .int .i64 an, .int .i64 ax, .string ab], .agg (two2 x 0), .agg (two2 x 2)] w (PlayTo w0 wB Kp p (P.come 1 an) L true) := by
  have H := Lib.hid h
  have HST := Lib.hid hs
  have HF : Hid (∀ j i, ¬ F i (w.heap.size + j)) := Lib.hid (fun j i hk => by have := (h.low i _ hk).2; omega)
  have HW0 : Hid (w0.heap.size ≤ w.heap.size) := Lib.hid h.ext.size
  have HK0 : Hid (∀ k, w.heap.size ≤ k → ¬ Kp k) := Lib.hid (fun k h1 h2 => by have := (h.kp k h2).1; have := h.kb; omega)
  obtain ⟨⟨a0, n0, c0⟩, h0⟩ : ∃ s, x 0 = s := ⟨_, rfl⟩
  obtain ⟨⟨a1, n1, c1⟩, h1⟩ : ∃ s, x 1 = s := ⟨_, rfl⟩
  obtain ⟨⟨a2, n2, c2⟩, h2⟩ : ∃ s, x 2 = s := ⟨_, rfl⟩
  obtain ⟨⟨a3, n3, c3⟩, h3⟩ : ∃ s, x 3 = s := ⟨_, rfl⟩
  unfold two2
  rw [h0, h1, h2, h3]
  have HX := Lib.hid (And.intro h0 (And.intro h1 (And.intro h2 h3)))
  dsimp only
  clear h hs h0 h1 h2 h3
  obtain ⟨B, hB⟩ : ∃ B, B = P.look 1 an := ⟨_, rfl⟩
  rw [← hB] at hsz
  have HG := Lib.hid hg
  have HT := Lib.hid ht
  clear hg ht
  have HSZ := Lib.hid (show B.size ≤ 281474976710656 by omega)
  have HBV := Lib.hid hB
  clear hsz hB
  go_enter Tryd.func11, Tryd.ntmps11
  (try dsimp only [List.append])
  go_wp2_with fail
  obtain ⟨W1, hW1⟩ : ∃ W, W = (five w #[.int .i64 3, .int .i64 1, .int .i64 an, .int .i64 ax, .string ab] #[.slice a0 n0 c0, .slice a1 n1 c1] #[.slice a2 n2 c2, .slice a3 n3 c3] zz zz) := ⟨_, rfl⟩
  have HB := Lib.hid (five_b5 w #[.int .i64 3, .int .i64 1, .int .i64 an, .int .i64 ax, .string ab] #[.slice a0 n0 c0, .slice a1 n1 c1] #[.slice a2 n2 c2, .slice a3 n3 c3] zz zz)
  have H1 := Lib.hid (H.out.more (five_ext w #[.int .i64 3, .int .i64 1, .int .i64 an, .int .i64 ax, .string ab] #[.slice a0 n0 c0, .slice a1 n1 c1] #[.slice a2 n2 c2, .slice a3 n3 c3] zz zz))
  rw [← hW1] at HB H1
  try change Calls _ _ _ (five w #[.int .i64 3, .int .i64 1, .int .i64 an, .int .i64 ax, .string ab] #[.slice a0 n0 c0, .slice a1 n1 c1] #[.slice a2 n2 c2, .slice a3 n3 c3] zz zz) _
  rw [← hW1]
  have cL := iLook H1.out.e 1 an
  rw [← HBV.out, HT.out] at cL
  refine (cL).mono ?_
  rintro e w3 ⟨F3, rfl, nn, o, g⟩
  have HB3 := Lib.hid (HB.out.off o (fun i _ => HF.out i 0))
  have S3 := Lib.hid (H1.out.moves nn o g)
  have HN : Hid (∀ i j, i < 5 → ¬ upd F 0 F3 j (w.heap.size + i)) := Lib.hid (fun i j hi => nb_upd (HF.out i) (by have := HB.out.lt; omega) g j)
  clear cL nn o g hW1 HB H1
  dsimp only
  go_wp2_with fail
  refine (get_any _ (HST.out.ext S3.out.ext) B HSZ.out).mono ?_
  rintro ev w4 ⟨rfl, x4⟩
  obtain ⟨⟨fk, fe, fq, fa, fb⟩, hf⟩ : ∃ f, f = getF B := ⟨_, rfl⟩
  rw [← hf]
  unfold frV
  dsimp only
  have HB4 := Lib.hid (HB3.out.ext (x4.alloc (.cells #[.int .i64 fk, .int .i64 fe, .int .u64 (fq : Int), .int .u64 (fa : Int), .string fb] 57 (0, 0))))
  have S4 := Lib.hid (S3.out.more (x4.alloc (.cells #[.int .i64 fk, .int .i64 fe, .int .u64 (fq : Int), .int .u64 (fa : Int), .string fb] 57 (0, 0))))
  clear x4 hf HB3 S3
  obtain ⟨d0, d1, d2, d3, d4⟩ := cells5t HB4.out.ba
  obtain ⟨⟨f0, f1⟩, _⟩ := cells2t HB4.out.bw
  go_wp2_with fail
  have cC := Lib.hid (iCome (HST.out.ext S4.out.ext) S4.out.e 1 an HG.out)
  refine cC.out.mono ?_
  rintro e w6 ⟨F6, rfl, nn, o, g⟩
  have HB3 := Lib.hid (HB4.out.off o (fun i hi => HN.out i 0 hi))
  have S3 := Lib.hid (S4.out.moves nn o g)
  have HN2 : Hid (∀ i j, i < 5 → ¬ upd (upd F 0 F3) 0 F6 j (w.heap.size + i)) := Lib.hid (fun i j hi => nb_upd (fun j => HN.out i j hi) (by have := HB4.out.lt; omega) g j)
  clear nn o g HB4 S4 cC HN d0 d1 d2 d3 d4 f0 f1
  have HN := HN2
  clear HN2
  dsimp only
  go_wp2_with fail
  (refine wp_region_X_lit (K := fun W => W.cell? ⟨w.heap.size + 1, 0, none⟩ = some (.slice a0 n0 c0) ∧ W.cell? ⟨w.heap.size + 1, 1, none⟩ = some (.slice a1 n1 c1) ∧ W.cell? ⟨w.heap.size + 2, 0, none⟩ = some (.slice a2 n2 c2) ∧ W.cell? ⟨w.heap.size + 2, 1, none⟩ = some (.slice a3 n3 c3)) (by kernel_rfl) (fun w1 hw1 => ?_))
  have hb3 := HB3.out.ext hw1
  have S4 := Lib.hid (S3.out.more hw1)
  have k3 : w1.cell? ⟨w.heap.size + 1, 0, none⟩ = some (.slice a0 n0 c0) ∧ w1.cell? ⟨w.heap.size + 1, 1, none⟩ = some (.slice a1 n1 c1) ∧ w1.cell? ⟨w.heap.size + 2, 0, none⟩ = some (.slice a2 n2 c2) ∧ w1.cell? ⟨w.heap.size + 2, 1, none⟩ = some (.slice a3 n3 c3) := ⟨(cells2t hb3.bw).1.1, (cells2t hb3.bw).1.2, (cells2t hb3.bs).1.1, (cells2t hb3.bs).1.2⟩
  obtain ⟨⟨z0, z1⟩, y0, y1⟩ := cells2t hb3.z1
  obtain ⟨⟨z2, z3⟩, y2, y3⟩ := cells2t hb3.z2
  clear hw1
  (refine xtakeV 0 (v := ?_) (by simp only [List.getElem?_toArray, List.getElem?_cons, reduceIte]; rfl) (by kernel_rfl) (by rfl) (fun w' hw' => ?_) ?_; rotate_left; focus (have hc := hw'.1; have hd := hw'.2.1; go_simp; first | done | with_reducible rfl)); (simp only [Act.put, List.setIfInBounds_toArray, List.set])
  (refine xtakeV 1 (v := ?_) (by simp only [List.getElem?_toArray, List.getElem?_cons, reduceIte]; rfl) (by kernel_rfl) (by rfl) (fun w' hw' => ?_) ?_; rotate_left; focus (have hc := hw'.2.2.1; have hd := hw'.2.2.2; go_simp; first | done | with_reducible rfl)); (simp only [Act.put, List.setIfInBounds_toArray, List.set])
  (refine xone 2 (by kernel_rfl) (k3) (RunX.of 2 (by simp only [List.getElem?_toArray, List.getElem?_cons, reduceIte]; rfl) (by rfl) ?_))
  go_simp
  (try (simp only [Act.put, List.setIfInBounds_toArray, List.set]))
  have hb4 := hb3.setz1 (.slice a0 n0 c0) (.slice a1 n1 c1)
  have k4 := And.intro (cells2t hb4.bw).1.1 (And.intro (cells2t hb4.bw).1.2 (cells2t hb4.bs).1)
  have S5 := Lib.hid (S4.out.box (off_set2 w1 (w.heap.size + 3) (.slice a0 n0 c0) (.slice a1 n1 c1)) (fun i k hk => by rw [hk]; exact HN.out 3 i (by decide)) (fun k hk => by rw [hk]; exact HK0.out _ (Nat.le_add_right _ _)) (fun k hk => by rw [hk]; have := HW0.out; omega))
  clear z0 z1 y0 y1 z2 z3 y2 y3 k3
  obtain ⟨⟨z2, z3⟩, y2, y3⟩ := cells2t hb4.z2
  simp only [set2] at z2 z3 y2 y3
  (refine xone 3 (by kernel_rfl) (k4) (RunX.of 3 (by simp only [List.getElem?_toArray, List.getElem?_cons, reduceIte]; rfl) (by rfl) ?_))
  go_simp
  (try (simp only [Act.put, List.setIfInBounds_toArray, List.set]))
  have hb5 := hb4.setz2 (.slice a2 n2 c2) (.slice a3 n3 c3)
  have k5 := And.intro (cells2t hb5.bw).1.1 (And.intro (cells2t hb5.bw).1.2 (cells2t hb5.bs).1)
  have S6 := Lib.hid (S5.out.box (off_set2 (set2 w1 (w.heap.size + 3) (.slice a0 n0 c0) (.slice a1 n1 c1)) (w.heap.size + 4) (.slice a2 n2 c2) (.slice a3 n3 c3)) (fun i k hk => by rw [hk]; exact HN.out 4 i (by decide)) (fun k hk => by rw [hk]; exact HK0.out _ (Nat.le_add_right _ _)) (fun k hk => by rw [hk]; have := HW0.out; omega))
  clear z2 z3 y2 y3 k4
  (refine xtakeV 4 (v := ?_) (by simp only [List.getElem?_toArray, List.getElem?_cons, reduceIte]; rfl) (by kernel_rfl) (by rfl) (fun w' hw' => ?_) ?_; rotate_left; focus (skip; go_simp; first | done | with_reducible rfl)); (simp only [Act.put, List.setIfInBounds_toArray, List.set])
  (refine xdone (by kernel_rfl) (k5) ?_)
  obtain ⟨⟨z0, z1⟩, _⟩ := cells2t hb5.z1
  obtain ⟨⟨z2, z3⟩, _⟩ := cells2t hb5.z2
  simp only [set2] at z0 z1 z2 z3
  clear k5 hb3 hb4 hb5
  go_wp2_with fail
  refine bodyPost_ret (v := .tuple #[.agg #[.slice a0 n0 c0, .slice a1 n1 c1], .agg #[.slice a2 n2 c2, .slice a3 n3 c3], .bool true]) (by simp [results, Tryd.results11, go_sem, z0, z1, z2, z3]) rfl ?_
  exact ⟨_, _, by rw [two2_of (i := 0) HX.out.1 HX.out.2.1, two2_of (i := 2) HX.out.2.2.1 HX.out.2.2.2], S6.out⟩

set_option maxRecDepth 50000 in
set_option maxHeartbeats 8000000 in
theorem iplay_err1 (w0 wB w : World) (Kp : Nat → Prop) (hs : Std w0) (p : Nat) (P : PipeS) (L : Nat → List ByteArray) (x : Nat → SV) (F : Nat → Nat → Prop) (h : Wt w0 wB Kp w p P x L F) (an ax : Int) (ab : ByteArray) (hsz : (P.look 1 an).size ≤ 1000) (hg : (P.got 1).length ≤ 1000000) (ht : P.there 1 an = true) (hw : whatN (P.look 1 an) ≠ 0) :
    Calls Tryd.prog 11 #[.pointer (some ⟨p, 0, none⟩), .agg #[.int .i64 3, .int .i64 1, .int .i64 an, .int .i64 ax, .string ab], .agg (two2 x 0), .agg (two2 x 2)] w (PlayTo w0 wB Kp p (P.come 1 an) L true) := by
  have H := Lib.hid h
  have HST := Lib.hid hs
  have HF : Hid (∀ j i, ¬ F i (w.heap.size + j)) := Lib.hid (fun j i hk => by have := (h.low i _ hk).2; omega)
  have HW0 : Hid (w0.heap.size ≤ w.heap.size) := Lib.hid h.ext.size
  have HK0 : Hid (∀ k, w.heap.size ≤ k → ¬ Kp k) := Lib.hid (fun k h1 h2 => by have := (h.kp k h2).1; have := h.kb; omega)
  obtain ⟨⟨a0, n0, c0⟩, h0⟩ : ∃ s, x 0 = s := ⟨_, rfl⟩
  obtain ⟨⟨a1, n1, c1⟩, h1⟩ : ∃ s, x 1 = s := ⟨_, rfl⟩
  obtain ⟨⟨a2, n2, c2⟩, h2⟩ : ∃ s, x 2 = s := ⟨_, rfl⟩
  obtain ⟨⟨a3, n3, c3⟩, h3⟩ : ∃ s, x 3 = s := ⟨_, rfl⟩
  unfold two2
  rw [h0, h1, h2, h3]
  have HX := Lib.hid (And.intro h0 (And.intro h1 (And.intro h2 h3)))
  dsimp only
  clear h hs h0 h1 h2 h3
  obtain ⟨B, hB⟩ : ∃ B, B = P.look 1 an := ⟨_, rfl⟩
  rw [← hB] at hsz hw
  have HG := Lib.hid hg
  have HT := Lib.hid ht
  have hw2 : (((whatN B : Nat) : Int) == 0) = false := by simpa using hw
  clear hg ht hw
  have HSZ := Lib.hid (show B.size ≤ 281474976710656 by omega)
  have HBV := Lib.hid hB
  clear hsz hB
  go_enter Tryd.func11, Tryd.ntmps11
  (try dsimp only [List.append])
  go_wp2_with fail
  obtain ⟨W1, hW1⟩ : ∃ W, W = (five w #[.int .i64 3, .int .i64 1, .int .i64 an, .int .i64 ax, .string ab] #[.slice a0 n0 c0, .slice a1 n1 c1] #[.slice a2 n2 c2, .slice a3 n3 c3] zz zz) := ⟨_, rfl⟩
  have HB := Lib.hid (five_b5 w #[.int .i64 3, .int .i64 1, .int .i64 an, .int .i64 ax, .string ab] #[.slice a0 n0 c0, .slice a1 n1 c1] #[.slice a2 n2 c2, .slice a3 n3 c3] zz zz)
  have H1 := Lib.hid (H.out.more (five_ext w #[.int .i64 3, .int .i64 1, .int .i64 an, .int .i64 ax, .string ab] #[.slice a0 n0 c0, .slice a1 n1 c1] #[.slice a2 n2 c2, .slice a3 n3 c3] zz zz))
  rw [← hW1] at HB H1
  try change Calls _ _ _ (five w #[.int .i64 3, .int .i64 1, .int .i64 an, .int .i64 ax, .string ab] #[.slice a0 n0 c0, .slice a1 n1 c1] #[.slice a2 n2 c2, .slice a3 n3 c3] zz zz) _
  rw [← hW1]
  have cL := iLook H1.out.e 1 an
  rw [← HBV.out, HT.out] at cL
  refine (cL).mono ?_
  rintro e w3 ⟨F3, rfl, nn, o, g⟩
  have HB3 := Lib.hid (HB.out.off o (fun i _ => HF.out i 0))
  have S3 := Lib.hid (H1.out.moves nn o g)
  have HN : Hid (∀ i j, i < 5 → ¬ upd F 0 F3 j (w.heap.size + i)) := Lib.hid (fun i j hi => nb_upd (HF.out i) (by have := HB.out.lt; omega) g j)
  clear cL nn o g hW1 HB H1
  dsimp only
  go_wp2_with fail
  refine (get_any _ (HST.out.ext S3.out.ext) B HSZ.out).mono ?_
  rintro ev w4 ⟨rfl, x4⟩
  obtain ⟨⟨fk, fe, fq, fa, fb⟩, hf⟩ : ∃ f, f = getF B := ⟨_, rfl⟩
  rw [← hf]
  unfold frV
  dsimp only
  have HB4 := Lib.hid (HB3.out.ext (x4.alloc (.cells #[.int .i64 fk, .int .i64 fe, .int .u64 (fq : Int), .int .u64 (fa : Int), .string fb] 57 (0, 0))))
  have S4 := Lib.hid (S3.out.more (x4.alloc (.cells #[.int .i64 fk, .int .i64 fe, .int .u64 (fq : Int), .int .u64 (fa : Int), .string fb] 57 (0, 0))))
  clear x4 hf HB3 S3
  obtain ⟨d0, d1, d2, d3, d4⟩ := cells5t HB4.out.ba
  obtain ⟨⟨f0, f1⟩, _⟩ := cells2t HB4.out.bw
  go_wp2_with fail
  have cC := Lib.hid (iCome (HST.out.ext S4.out.ext) S4.out.e 1 an HG.out)
  refine cC.out.mono ?_
  rintro e w6 ⟨F6, rfl, nn, o, g⟩
  have HB3 := Lib.hid (HB4.out.off o (fun i hi => HN.out i 0 hi))
  have S3 := Lib.hid (S4.out.moves nn o g)
  have HN2 : Hid (∀ i j, i < 5 → ¬ upd (upd F 0 F3) 0 F6 j (w.heap.size + i)) := Lib.hid (fun i j hi => nb_upd (fun j => HN.out i j hi) (by have := HB4.out.lt; omega) g j)
  clear nn o g HB4 S4 cC HN d0 d1 d2 d3 d4 f0 f1
  have HN := HN2
  clear HN2
  dsimp only
  go_wp2_with fail
  (refine wp_region_X_lit (K := fun W => W.cell? ⟨w.heap.size + 1, 0, none⟩ = some (.slice a0 n0 c0) ∧ W.cell? ⟨w.heap.size + 1, 1, none⟩ = some (.slice a1 n1 c1) ∧ W.cell? ⟨w.heap.size + 2, 0, none⟩ = some (.slice a2 n2 c2) ∧ W.cell? ⟨w.heap.size + 2, 1, none⟩ = some (.slice a3 n3 c3)) (by kernel_rfl) (fun w1 hw1 => ?_))
  have hb3 := HB3.out.ext hw1
  have S4 := Lib.hid (S3.out.more hw1)
  have k3 : w1.cell? ⟨w.heap.size + 1, 0, none⟩ = some (.slice a0 n0 c0) ∧ w1.cell? ⟨w.heap.size + 1, 1, none⟩ = some (.slice a1 n1 c1) ∧ w1.cell? ⟨w.heap.size + 2, 0, none⟩ = some (.slice a2 n2 c2) ∧ w1.cell? ⟨w.heap.size + 2, 1, none⟩ = some (.slice a3 n3 c3) := ⟨(cells2t hb3.bw).1.1, (cells2t hb3.bw).1.2, (cells2t hb3.bs).1.1, (cells2t hb3.bs).1.2⟩
  obtain ⟨⟨z0, z1⟩, y0, y1⟩ := cells2t hb3.z1
  obtain ⟨⟨z2, z3⟩, y2, y3⟩ := cells2t hb3.z2
  clear hw1
  (refine xtakeV 0 (v := ?_) (by simp only [List.getElem?_toArray, List.getElem?_cons, reduceIte]; rfl) (by kernel_rfl) (by rfl) (fun w' hw' => ?_) ?_; rotate_left; focus (have hc := hw'.1; have hd := hw'.2.1; go_simp; first | done | with_reducible rfl)); (simp only [Act.put, List.setIfInBounds_toArray, List.set])
  (refine xtakeV 1 (v := ?_) (by simp only [List.getElem?_toArray, List.getElem?_cons, reduceIte]; rfl) (by kernel_rfl) (by rfl) (fun w' hw' => ?_) ?_; rotate_left; focus (have hc := hw'.2.2.1; have hd := hw'.2.2.2; go_simp; first | done | with_reducible rfl)); (simp only [Act.put, List.setIfInBounds_toArray, List.set])
  (refine xone 2 (by kernel_rfl) (k3) (RunX.of 2 (by simp only [List.getElem?_toArray, List.getElem?_cons, reduceIte]; rfl) (by rfl) ?_))
  go_simp
  (try (simp only [Act.put, List.setIfInBounds_toArray, List.set]))
  have hb4 := hb3.setz1 (.slice a0 n0 c0) (.slice a1 n1 c1)
  have k4 := And.intro (cells2t hb4.bw).1.1 (And.intro (cells2t hb4.bw).1.2 (cells2t hb4.bs).1)
  have S5 := Lib.hid (S4.out.box (off_set2 w1 (w.heap.size + 3) (.slice a0 n0 c0) (.slice a1 n1 c1)) (fun i k hk => by rw [hk]; exact HN.out 3 i (by decide)) (fun k hk => by rw [hk]; exact HK0.out _ (Nat.le_add_right _ _)) (fun k hk => by rw [hk]; have := HW0.out; omega))
  clear z0 z1 y0 y1 z2 z3 y2 y3 k3
  obtain ⟨⟨z2, z3⟩, y2, y3⟩ := cells2t hb4.z2
  simp only [set2] at z2 z3 y2 y3
  (refine xone 3 (by kernel_rfl) (k4) (RunX.of 3 (by simp only [List.getElem?_toArray, List.getElem?_cons, reduceIte]; rfl) (by rfl) ?_))
  go_simp
  (try (simp only [Act.put, List.setIfInBounds_toArray, List.set]))
  have hb5 := hb4.setz2 (.slice a2 n2 c2) (.slice a3 n3 c3)
  have k5 := And.intro (cells2t hb5.bw).1.1 (And.intro (cells2t hb5.bw).1.2 (cells2t hb5.bs).1)
  have S6 := Lib.hid (S5.out.box (off_set2 (set2 w1 (w.heap.size + 3) (.slice a0 n0 c0) (.slice a1 n1 c1)) (w.heap.size + 4) (.slice a2 n2 c2) (.slice a3 n3 c3)) (fun i k hk => by rw [hk]; exact HN.out 4 i (by decide)) (fun k hk => by rw [hk]; exact HK0.out _ (Nat.le_add_right _ _)) (fun k hk => by rw [hk]; have := HW0.out; omega))
  clear z2 z3 y2 y3 k4
  (refine xtakeV 4 (v := ?_) (by simp only [List.getElem?_toArray, List.getElem?_cons, reduceIte]; rfl) (by kernel_rfl) (by rfl) (fun w' hw' => ?_) ?_; rotate_left; focus (skip; go_simp; first | done | with_reducible rfl)); (simp only [Act.put, List.setIfInBounds_toArray, List.set])
  (refine xdone (by kernel_rfl) (k5) ?_)
  obtain ⟨⟨z0, z1⟩, _⟩ := cells2t hb5.z1
  obtain ⟨⟨z2, z3⟩, _⟩ := cells2t hb5.z2
  simp only [set2] at z0 z1 z2 z3
  clear k5 hb3 hb4 hb5
  go_wp2_with fail
  refine bodyPost_ret (v := .tuple #[.agg #[.slice a0 n0 c0, .slice a1 n1 c1], .agg #[.slice a2 n2 c2, .slice a3 n3 c3], .bool true]) (by simp [results, Tryd.results11, go_sem, z0, z1, z2, z3]) rfl ?_
  exact ⟨_, _, by rw [two2_of (i := 0) HX.out.1 HX.out.2.1, two2_of (i := 2) HX.out.2.2.1 HX.out.2.2.2], S6.out⟩

set_option maxRecDepth 50000 in
set_option maxHeartbeats 8000000 in
theorem iplay_in1 (w0 wB w : World) (Kp : Nat → Prop) (hs : Std w0) (p : Nat) (P : PipeS) (L : Nat → List ByteArray) (x : Nat → SV) (F : Nat → Nat → Prop) (h : Wt w0 wB Kp w p P x L F) (an ax : Int) (ab : ByteArray) (hsz : (P.look 1 an).size ≤ 1000) (hg : (P.got 1).length ≤ 1000000) (ht : P.there 1 an = true) (hw : whatN (P.look 1 an) = 0) (hm : mem (L 1) (P.look 1 an) = true) :
    Calls Tryd.prog 11 #[.pointer (some ⟨p, 0, none⟩), .agg #[.int .i64 3, .int .i64 1, .int .i64 an, .int .i64 ax, .string ab], .agg (two2 x 0), .agg (two2 x 2)] w (PlayTo w0 wB Kp p (P.come 1 an) L true) := by
  have H := Lib.hid h
  have HST := Lib.hid hs
  have HF : Hid (∀ j i, ¬ F i (w.heap.size + j)) := Lib.hid (fun j i hk => by have := (h.low i _ hk).2; omega)
  have HW0 : Hid (w0.heap.size ≤ w.heap.size) := Lib.hid h.ext.size
  have HK0 : Hid (∀ k, w.heap.size ≤ k → ¬ Kp k) := Lib.hid (fun k h1 h2 => by have := (h.kp k h2).1; have := h.kb; omega)
  obtain ⟨⟨a0, n0, c0⟩, h0⟩ : ∃ s, x 0 = s := ⟨_, rfl⟩
  obtain ⟨⟨a1, n1, c1⟩, h1⟩ : ∃ s, x 1 = s := ⟨_, rfl⟩
  obtain ⟨⟨a2, n2, c2⟩, h2⟩ : ∃ s, x 2 = s := ⟨_, rfl⟩
  obtain ⟨⟨a3, n3, c3⟩, h3⟩ : ∃ s, x 3 = s := ⟨_, rfl⟩
  unfold two2
  rw [h0, h1, h2, h3]
  have HX := Lib.hid (And.intro h0 (And.intro h1 (And.intro h2 h3)))
  dsimp only
  clear h hs h0 h1 h2 h3
  obtain ⟨B, hB⟩ : ∃ B, B = P.look 1 an := ⟨_, rfl⟩
  rw [← hB] at hsz hw hm
  have HG := Lib.hid hg
  have HT := Lib.hid ht
  have HW := Lib.hid hw
  have HM := Lib.hid hm
  clear hg ht hw hm
  have HSZ := Lib.hid (show B.size ≤ 281474976710656 by omega)
  have HBV := Lib.hid hB
  clear hsz hB
  go_enter Tryd.func11, Tryd.ntmps11
  (try dsimp only [List.append])
  go_wp2_with fail
  obtain ⟨W1, hW1⟩ : ∃ W, W = (five w #[.int .i64 3, .int .i64 1, .int .i64 an, .int .i64 ax, .string ab] #[.slice a0 n0 c0, .slice a1 n1 c1] #[.slice a2 n2 c2, .slice a3 n3 c3] zz zz) := ⟨_, rfl⟩
  have HB := Lib.hid (five_b5 w #[.int .i64 3, .int .i64 1, .int .i64 an, .int .i64 ax, .string ab] #[.slice a0 n0 c0, .slice a1 n1 c1] #[.slice a2 n2 c2, .slice a3 n3 c3] zz zz)
  have H1 := Lib.hid (H.out.more (five_ext w #[.int .i64 3, .int .i64 1, .int .i64 an, .int .i64 ax, .string ab] #[.slice a0 n0 c0, .slice a1 n1 c1] #[.slice a2 n2 c2, .slice a3 n3 c3] zz zz))
  rw [← hW1] at HB H1
  try change Calls _ _ _ (five w #[.int .i64 3, .int .i64 1, .int .i64 an, .int .i64 ax, .string ab] #[.slice a0 n0 c0, .slice a1 n1 c1] #[.slice a2 n2 c2, .slice a3 n3 c3] zz zz) _
  rw [← hW1]
  have cL := iLook H1.out.e 1 an
  rw [← HBV.out, HT.out] at cL
  refine (cL).mono ?_
  rintro e w3 ⟨F3, rfl, nn, o, g⟩
  have HB3 := Lib.hid (HB.out.off o (fun i _ => HF.out i 0))
  have S3 := Lib.hid (H1.out.moves nn o g)
  have HN : Hid (∀ i j, i < 5 → ¬ upd F 0 F3 j (w.heap.size + i)) := Lib.hid (fun i j hi => nb_upd (HF.out i) (by have := HB.out.lt; omega) g j)
  clear cL nn o g hW1 HB H1
  dsimp only
  go_wp2_with fail
  refine (get_any _ (HST.out.ext S3.out.ext) B HSZ.out).mono ?_
  rintro ev w4 ⟨rfl, x4⟩
  obtain ⟨⟨fk, fe, fq, fa, fb⟩, hf⟩ : ∃ f, f = getF B := ⟨_, rfl⟩
  rw [← hf, HW.out]
  unfold frV
  dsimp only
  have HB4 := Lib.hid (HB3.out.ext (x4.alloc (.cells #[.int .i64 fk, .int .i64 fe, .int .u64 (fq : Int), .int .u64 (fa : Int), .string fb] 57 (0, 0))))
  have S4 := Lib.hid (S3.out.more (x4.alloc (.cells #[.int .i64 fk, .int .i64 fe, .int .u64 (fq : Int), .int .u64 (fa : Int), .string fb] 57 (0, 0))))
  clear x4 hf HB3 S3
  obtain ⟨d0, d1, d2, d3, d4⟩ := cells5t HB4.out.ba
  obtain ⟨⟨f0, f1⟩, _⟩ := cells2t HB4.out.bw
  go_wp2_with fail
  refine (in_any _ _ (L 1) (S4.out.own (i := 1) (by decide) HX.out.2.1).1.sl B).mono ?_
  rintro ev w5 ⟨rfl, rfl⟩
  rw [HM.out]
  go_wp2_with fail
  have cC := Lib.hid (iCome (HST.out.ext S4.out.ext) S4.out.e 1 an HG.out)
  refine cC.out.mono ?_
  rintro e w6 ⟨F6, rfl, nn, o, g⟩
  have HB3 := Lib.hid (HB4.out.off o (fun i hi => HN.out i 0 hi))
  have S3 := Lib.hid (S4.out.moves nn o g)
  have HN2 : Hid (∀ i j, i < 5 → ¬ upd (upd F 0 F3) 0 F6 j (w.heap.size + i)) := Lib.hid (fun i j hi => nb_upd (fun j => HN.out i j hi) (by have := HB4.out.lt; omega) g j)
  clear nn o g HB4 S4 cC HN d0 d1 d2 d3 d4 f0 f1
  have HN := HN2
  clear HN2
  dsimp only
  go_wp2_with fail
  (refine wp_region_X_lit (K := fun W => W.cell? ⟨w.heap.size + 1, 0, none⟩ = some (.slice a0 n0 c0) ∧ W.cell? ⟨w.heap.size + 1, 1, none⟩ = some (.slice a1 n1 c1) ∧ W.cell? ⟨w.heap.size + 2, 0, none⟩ = some (.slice a2 n2 c2) ∧ W.cell? ⟨w.heap.size + 2, 1, none⟩ = some (.slice a3 n3 c3)) (by kernel_rfl) (fun w1 hw1 => ?_))
  have hb3 := HB3.out.ext hw1
  have S4 := Lib.hid (S3.out.more hw1)
  have k3 : w1.cell? ⟨w.heap.size + 1, 0, none⟩ = some (.slice a0 n0 c0) ∧ w1.cell? ⟨w.heap.size + 1, 1, none⟩ = some (.slice a1 n1 c1) ∧ w1.cell? ⟨w.heap.size + 2, 0, none⟩ = some (.slice a2 n2 c2) ∧ w1.cell? ⟨w.heap.size + 2, 1, none⟩ = some (.slice a3 n3 c3) := ⟨(cells2t hb3.bw).1.1, (cells2t hb3.bw).1.2, (cells2t hb3.bs).1.1, (cells2t hb3.bs).1.2⟩
  obtain ⟨⟨z0, z1⟩, y0, y1⟩ := cells2t hb3.z1
  obtain ⟨⟨z2, z3⟩, y2, y3⟩ := cells2t hb3.z2
  clear hw1
  (refine xtakeV 0 (v := ?_) (by simp only [List.getElem?_toArray, List.getElem?_cons, reduceIte]; rfl) (by kernel_rfl) (by rfl) (fun w' hw' => ?_) ?_; rotate_left; focus (have hc := hw'.1; have hd := hw'.2.1; go_simp; first | done | with_reducible rfl)); (simp only [Act.put, List.setIfInBounds_toArray, List.set])
  (refine xtakeV 1 (v := ?_) (by simp only [List.getElem?_toArray, List.getElem?_cons, reduceIte]; rfl) (by kernel_rfl) (by rfl) (fun w' hw' => ?_) ?_; rotate_left; focus (have hc := hw'.2.2.1; have hd := hw'.2.2.2; go_simp; first | done | with_reducible rfl)); (simp only [Act.put, List.setIfInBounds_toArray, List.set])
  (refine xone 2 (by kernel_rfl) (k3) (RunX.of 2 (by simp only [List.getElem?_toArray, List.getElem?_cons, reduceIte]; rfl) (by rfl) ?_))
  go_simp
  (try (simp only [Act.put, List.setIfInBounds_toArray, List.set]))
  have hb4 := hb3.setz1 (.slice a0 n0 c0) (.slice a1 n1 c1)
  have k4 := And.intro (cells2t hb4.bw).1.1 (And.intro (cells2t hb4.bw).1.2 (cells2t hb4.bs).1)
  have S5 := Lib.hid (S4.out.box (off_set2 w1 (w.heap.size + 3) (.slice a0 n0 c0) (.slice a1 n1 c1)) (fun i k hk => by rw [hk]; exact HN.out 3 i (by decide)) (fun k hk => by rw [hk]; exact HK0.out _ (Nat.le_add_right _ _)) (fun k hk => by rw [hk]; have := HW0.out; omega))
  clear z0 z1 y0 y1 z2 z3 y2 y3 k3
  obtain ⟨⟨z2, z3⟩, y2, y3⟩ := cells2t hb4.z2
  simp only [set2] at z2 z3 y2 y3
  (refine xone 3 (by kernel_rfl) (k4) (RunX.of 3 (by simp only [List.getElem?_toArray, List.getElem?_cons, reduceIte]; rfl) (by rfl) ?_))
  go_simp
  (try (simp only [Act.put, List.setIfInBounds_toArray, List.set]))
  have hb5 := hb4.setz2 (.slice a2 n2 c2) (.slice a3 n3 c3)
  have k5 := And.intro (cells2t hb5.bw).1.1 (And.intro (cells2t hb5.bw).1.2 (cells2t hb5.bs).1)
  have S6 := Lib.hid (S5.out.box (off_set2 (set2 w1 (w.heap.size + 3) (.slice a0 n0 c0) (.slice a1 n1 c1)) (w.heap.size + 4) (.slice a2 n2 c2) (.slice a3 n3 c3)) (fun i k hk => by rw [hk]; exact HN.out 4 i (by decide)) (fun k hk => by rw [hk]; exact HK0.out _ (Nat.le_add_right _ _)) (fun k hk => by rw [hk]; have := HW0.out; omega))
  clear z2 z3 y2 y3 k4
  (refine xtakeV 4 (v := ?_) (by simp only [List.getElem?_toArray, List.getElem?_cons, reduceIte]; rfl) (by kernel_rfl) (by rfl) (fun w' hw' => ?_) ?_; rotate_left; focus (skip; go_simp; first | done | with_reducible rfl)); (simp only [Act.put, List.setIfInBounds_toArray, List.set])
  (refine xdone (by kernel_rfl) (k5) ?_)
  obtain ⟨⟨z0, z1⟩, _⟩ := cells2t hb5.z1
  obtain ⟨⟨z2, z3⟩, _⟩ := cells2t hb5.z2
  simp only [set2] at z0 z1 z2 z3
  clear k5 hb3 hb4 hb5
  go_wp2_with fail
  refine bodyPost_ret (v := .tuple #[.agg #[.slice a0 n0 c0, .slice a1 n1 c1], .agg #[.slice a2 n2 c2, .slice a3 n3 c3], .bool true]) (by simp [results, Tryd.results11, go_sem, z0, z1, z2, z3]) rfl ?_
  exact ⟨_, _, by rw [two2_of (i := 0) HX.out.1 HX.out.2.1, two2_of (i := 2) HX.out.2.2.1 HX.out.2.2.2], S6.out⟩

set_option maxRecDepth 50000 in
set_option maxHeartbeats 8000000 in
theorem iplay_bad1 (w0 wB w : World) (Kp : Nat → Prop) (hs : Std w0) (p : Nat) (P : PipeS) (L : Nat → List ByteArray) (x : Nat → SV) (F : Nat → Nat → Prop) (h : Wt w0 wB Kp w p P x L F) (an ax : Int) (ab : ByteArray) (hsz : (P.look 1 an).size ≤ 1000) (hg : (P.got 1).length ≤ 1000000) (ht : P.there 1 an = true) (hw : whatN (P.look 1 an) = 0) (hm : mem (L 1) (P.look 1 an) = false) :
    Calls Tryd.prog 11 #[.pointer (some ⟨p, 0, none⟩), .agg #[.int .i64 3, .int .i64 1, .int .i64 an, .int .i64 ax, .string ab], .agg (two2 x 0), .agg (two2 x 2)] w (PlayTo w0 wB Kp p P L false) := by
  have H := Lib.hid h
  have HST := Lib.hid hs
  have HF : Hid (∀ j i, ¬ F i (w.heap.size + j)) := Lib.hid (fun j i hk => by have := (h.low i _ hk).2; omega)
  have HW0 : Hid (w0.heap.size ≤ w.heap.size) := Lib.hid h.ext.size
  have HK0 : Hid (∀ k, w.heap.size ≤ k → ¬ Kp k) := Lib.hid (fun k h1 h2 => by have := (h.kp k h2).1; have := h.kb; omega)
  obtain ⟨⟨a0, n0, c0⟩, h0⟩ : ∃ s, x 0 = s := ⟨_, rfl⟩
  obtain ⟨⟨a1, n1, c1⟩, h1⟩ : ∃ s, x 1 = s := ⟨_, rfl⟩
  obtain ⟨⟨a2, n2, c2⟩, h2⟩ : ∃ s, x 2 = s := ⟨_, rfl⟩
  obtain ⟨⟨a3, n3, c3⟩, h3⟩ : ∃ s, x 3 = s := ⟨_, rfl⟩
  unfold two2
  rw [h0, h1, h2, h3]
  have HX := Lib.hid (And.intro h0 (And.intro h1 (And.intro h2 h3)))
  dsimp only
  clear h hs h0 h1 h2 h3
  obtain ⟨B, hB⟩ : ∃ B, B = P.look 1 an := ⟨_, rfl⟩
  rw [← hB] at hsz hw hm
  have HG := Lib.hid hg
  have HT := Lib.hid ht
  have HW := Lib.hid hw
  have HM := Lib.hid hm
  clear hg ht hw hm
  have HSZ := Lib.hid (show B.size ≤ 281474976710656 by omega)
  have HBV := Lib.hid hB
  clear hsz hB
  go_enter Tryd.func11, Tryd.ntmps11
  (try dsimp only [List.append])
  go_wp2_with fail
  obtain ⟨W1, hW1⟩ : ∃ W, W = (five w #[.int .i64 3, .int .i64 1, .int .i64 an, .int .i64 ax, .string ab] #[.slice a0 n0 c0, .slice a1 n1 c1] #[.slice a2 n2 c2, .slice a3 n3 c3] zz zz) := ⟨_, rfl⟩
  have HB := Lib.hid (five_b5 w #[.int .i64 3, .int .i64 1, .int .i64 an, .int .i64 ax, .string ab] #[.slice a0 n0 c0, .slice a1 n1 c1] #[.slice a2 n2 c2, .slice a3 n3 c3] zz zz)
  have H1 := Lib.hid (H.out.more (five_ext w #[.int .i64 3, .int .i64 1, .int .i64 an, .int .i64 ax, .string ab] #[.slice a0 n0 c0, .slice a1 n1 c1] #[.slice a2 n2 c2, .slice a3 n3 c3] zz zz))
  rw [← hW1] at HB H1
  try change Calls _ _ _ (five w #[.int .i64 3, .int .i64 1, .int .i64 an, .int .i64 ax, .string ab] #[.slice a0 n0 c0, .slice a1 n1 c1] #[.slice a2 n2 c2, .slice a3 n3 c3] zz zz) _
  rw [← hW1]
  have cL := iLook H1.out.e 1 an
  rw [← HBV.out, HT.out] at cL
  refine (cL).mono ?_
  rintro e w3 ⟨F3, rfl, nn, o, g⟩
  have HB3 := Lib.hid (HB.out.off o (fun i _ => HF.out i 0))
  have S3 := Lib.hid (H1.out.moves nn o g)
  have HN : Hid (∀ i j, i < 5 → ¬ upd F 0 F3 j (w.heap.size + i)) := Lib.hid (fun i j hi => nb_upd (HF.out i) (by have := HB.out.lt; omega) g j)
  clear cL nn o g hW1 HB H1
  dsimp only
  go_wp2_with fail
  refine (get_any _ (HST.out.ext S3.out.ext) B HSZ.out).mono ?_
  rintro ev w4 ⟨rfl, x4⟩
  obtain ⟨⟨fk, fe, fq, fa, fb⟩, hf⟩ : ∃ f, f = getF B := ⟨_, rfl⟩
  rw [← hf, HW.out]
  unfold frV
  dsimp only
  have HB4 := Lib.hid (HB3.out.ext (x4.alloc (.cells #[.int .i64 fk, .int .i64 fe, .int .u64 (fq : Int), .int .u64 (fa : Int), .string fb] 57 (0, 0))))
  have S4 := Lib.hid (S3.out.more (x4.alloc (.cells #[.int .i64 fk, .int .i64 fe, .int .u64 (fq : Int), .int .u64 (fa : Int), .string fb] 57 (0, 0))))
  clear x4 hf HB3 S3
  obtain ⟨d0, d1, d2, d3, d4⟩ := cells5t HB4.out.ba
  obtain ⟨⟨f0, f1⟩, _⟩ := cells2t HB4.out.bw
  go_wp2_with fail
  refine (in_any _ _ (L 1) (S4.out.own (i := 1) (by decide) HX.out.2.1).1.sl B).mono ?_
  rintro ev w5 ⟨rfl, rfl⟩
  rw [HM.out]
  have HB3 := HB4
  have S3 := S4
  clear HB4 S4 d0 d1 d2 d3 d4 f0 f1
  go_wp2_with fail
  (refine wp_region_X_lit (K := fun W => W.cell? ⟨w.heap.size + 1, 0, none⟩ = some (.slice a0 n0 c0) ∧ W.cell? ⟨w.heap.size + 1, 1, none⟩ = some (.slice a1 n1 c1) ∧ W.cell? ⟨w.heap.size + 2, 0, none⟩ = some (.slice a2 n2 c2) ∧ W.cell? ⟨w.heap.size + 2, 1, none⟩ = some (.slice a3 n3 c3)) (by kernel_rfl) (fun w1 hw1 => ?_))
  have hb3 := HB3.out.ext hw1
  have S4 := Lib.hid (S3.out.more hw1)
  have k3 : w1.cell? ⟨w.heap.size + 1, 0, none⟩ = some (.slice a0 n0 c0) ∧ w1.cell? ⟨w.heap.size + 1, 1, none⟩ = some (.slice a1 n1 c1) ∧ w1.cell? ⟨w.heap.size + 2, 0, none⟩ = some (.slice a2 n2 c2) ∧ w1.cell? ⟨w.heap.size + 2, 1, none⟩ = some (.slice a3 n3 c3) := ⟨(cells2t hb3.bw).1.1, (cells2t hb3.bw).1.2, (cells2t hb3.bs).1.1, (cells2t hb3.bs).1.2⟩
  obtain ⟨⟨z0, z1⟩, y0, y1⟩ := cells2t hb3.z1
  obtain ⟨⟨z2, z3⟩, y2, y3⟩ := cells2t hb3.z2
  clear hw1
  (refine xtakeV 0 (v := ?_) (by simp only [List.getElem?_toArray, List.getElem?_cons, reduceIte]; rfl) (by kernel_rfl) (by rfl) (fun w' hw' => ?_) ?_; rotate_left; focus (have hc := hw'.1; have hd := hw'.2.1; go_simp; first | done | with_reducible rfl)); (simp only [Act.put, List.setIfInBounds_toArray, List.set])
  (refine xtakeV 1 (v := ?_) (by simp only [List.getElem?_toArray, List.getElem?_cons, reduceIte]; rfl) (by kernel_rfl) (by rfl) (fun w' hw' => ?_) ?_; rotate_left; focus (have hc := hw'.2.2.1; have hd := hw'.2.2.2; go_simp; first | done | with_reducible rfl)); (simp only [Act.put, List.setIfInBounds_toArray, List.set])
  (refine xone 2 (by kernel_rfl) (k3) (RunX.of 2 (by simp only [List.getElem?_toArray, List.getElem?_cons, reduceIte]; rfl) (by rfl) ?_))
  go_simp
  (try (simp only [Act.put, List.setIfInBounds_toArray, List.set]))
  have hb4 := hb3.setz1 (.slice a0 n0 c0) (.slice a1 n1 c1)
  have k4 := And.intro (cells2t hb4.bw).1.1 (And.intro (cells2t hb4.bw).1.2 (cells2t hb4.bs).1)
  have S5 := Lib.hid (S4.out.box (off_set2 w1 (w.heap.size + 3) (.slice a0 n0 c0) (.slice a1 n1 c1)) (fun i k hk => by rw [hk]; exact HN.out 3 i (by decide)) (fun k hk => by rw [hk]; exact HK0.out _ (Nat.le_add_right _ _)) (fun k hk => by rw [hk]; have := HW0.out; omega))
  clear z0 z1 y0 y1 z2 z3 y2 y3 k3
  obtain ⟨⟨z2, z3⟩, y2, y3⟩ := cells2t hb4.z2
  simp only [set2] at z2 z3 y2 y3
  (refine xone 3 (by kernel_rfl) (k4) (RunX.of 3 (by simp only [List.getElem?_toArray, List.getElem?_cons, reduceIte]; rfl) (by rfl) ?_))
  go_simp
  (try (simp only [Act.put, List.setIfInBounds_toArray, List.set]))
  have hb5 := hb4.setz2 (.slice a2 n2 c2) (.slice a3 n3 c3)
  have k5 := And.intro (cells2t hb5.bw).1.1 (And.intro (cells2t hb5.bw).1.2 (cells2t hb5.bs).1)
  have S6 := Lib.hid (S5.out.box (off_set2 (set2 w1 (w.heap.size + 3) (.slice a0 n0 c0) (.slice a1 n1 c1)) (w.heap.size + 4) (.slice a2 n2 c2) (.slice a3 n3 c3)) (fun i k hk => by rw [hk]; exact HN.out 4 i (by decide)) (fun k hk => by rw [hk]; exact HK0.out _ (Nat.le_add_right _ _)) (fun k hk => by rw [hk]; have := HW0.out; omega))
  clear z2 z3 y2 y3 k4
  (refine xtakeV 4 (v := ?_) (by simp only [List.getElem?_toArray, List.getElem?_cons, reduceIte]; rfl) (by kernel_rfl) (by rfl) (fun w' hw' => ?_) ?_; rotate_left; focus (skip; go_simp; first | done | with_reducible rfl)); (simp only [Act.put, List.setIfInBounds_toArray, List.set])
  (refine xdone (by kernel_rfl) (k5) ?_)
  obtain ⟨⟨z0, z1⟩, _⟩ := cells2t hb5.z1
  obtain ⟨⟨z2, z3⟩, _⟩ := cells2t hb5.z2
  simp only [set2] at z0 z1 z2 z3
  clear k5 hb3 hb4 hb5
  go_wp2_with fail
  refine bodyPost_ret (v := .tuple #[.agg #[.slice a0 n0 c0, .slice a1 n1 c1], .agg #[.slice a2 n2 c2, .slice a3 n3 c3], .bool false]) (by simp [results, Tryd.results11, go_sem, z0, z1, z2, z3]) rfl ?_
  exact ⟨_, _, by rw [two2_of (i := 0) HX.out.1 HX.out.2.1, two2_of (i := 2) HX.out.2.2.1 HX.out.2.2.2], S6.out⟩
end Go.Proofs.YtcjoemkplghonaaDoor
