/- An act on a pipe. -/
import Derived.Test.YtcjoemkplghonaaDoorMR
import Derived.BigGuard
namespace Go.Proofs.YtcjoemkplghonaaDoor
open Go.RowKit

set_option linter.unusedVariables false

set_option maxRecDepth 50000 in
set_option maxHeartbeats 8000000 in
theorem iplay_tick0 (w0 wB w : World) (Kp : Nat → Prop) (hs : Std w0) (p : Nat) (P : PipeS) (L : Nat → List ByteArray) (x : Nat → SV) (F : Nat → Nat → Prop) (h : Wt w0 wB Kp w p P x L F) (an ax : Int) (ab : ByteArray) :
    Calls Tryd.prog 11 #[.pointer (some ⟨p, 0, none⟩), .agg #[.int .i64 2, .int .i64 0, .int .i64 an, .int .i64 ax, .string ab], .agg (two2 x 0), .agg (two2 x 2)] w (PlayTo w0 wB Kp p (P.tick 0) L true) := by
  have H := Lib.hid h
  have HST := Lib.hid hs
  have HF : Hid (∀ j i, ¬ F i (w.heap.size + j)) := Lib.hid (fun j i hk => by have := (h.low i _ hk).2; omega)
  have HW0 : Hid (w0.heap.size ≤ w.heap.size) := Lib.hid h.ext.size
  have HK0 : Hid (∀ k, w.heap.size ≤ k → ¬ Kp k) := Lib.hid (fun k h1 h2 => by have := (h.kp k h2).1; have := h.kb; omega)
  obtain ⟨⟨a0, n0, c0⟩, h0⟩ : ∃ s, x 0 = s := ⟨_, rfl⟩
  obtain ⟨⟨a1, n1, c1⟩, h1⟩ : ∃ s, x 1 = s := ⟨_, rfl⟩
  obtain ⟨⟨a2, n2, c2⟩, h2⟩ : ∃ s, x 2 = s := ⟨_, rfl⟩
  obtain ⟨⟨a3, n3, c3⟩, h3⟩ : ∃ s, x 3 = s := ⟨_, rfl⟩
  unfold two2
  rw [h0, h1, h2, h3]
  have HX := Lib.hid (And.intro h0 (And.intro h1 (And.intro h2 h3)))
  dsimp only
  clear h hs h0 h1 h2 h3
  go_enter Tryd.func11, Tryd.ntmps11
  (try dsimp only [List.append])
  go_wp2_with fail
  obtain ⟨W1, hW1⟩ : ∃ W, W = (five w #[.int .i64 2, .int .i64 0, .int .i64 an, .int .i64 ax, .string ab] #[.slice a0 n0 c0, .slice a1 n1 c1] #[.slice a2 n2 c2, .slice a3 n3 c3] zz zz) := ⟨_, rfl⟩
  have HB := Lib.hid (five_b5 w #[.int .i64 2, .int .i64 0, .int .i64 an, .int .i64 ax, .string ab] #[.slice a0 n0 c0, .slice a1 n1 c1] #[.slice a2 n2 c2, .slice a3 n3 c3] zz zz)
  have H1 := Lib.hid (H.out.more (five_ext w #[.int .i64 2, .int .i64 0, .int .i64 an, .int .i64 ax, .string ab] #[.slice a0 n0 c0, .slice a1 n1 c1] #[.slice a2 n2 c2, .slice a3 n3 c3] zz zz))
  rw [← hW1] at HB H1
  try change Calls _ _ _ (five w #[.int .i64 2, .int .i64 0, .int .i64 an, .int .i64 ax, .string ab] #[.slice a0 n0 c0, .slice a1 n1 c1] #[.slice a2 n2 c2, .slice a3 n3 c3] zz zz) _
  rw [← hW1]
  refine (iTick H1.out.e 0).mono ?_
  rintro e w3 ⟨F3, rfl, nn, o, g⟩
  have HB3 := Lib.hid (HB.out.off o (fun i _ => HF.out i 0))
  have S3 := Lib.hid (H1.out.moves nn o g)
  have HN : Hid (∀ i j, i < 5 → ¬ upd F 0 F3 j (w.heap.size + i)) := Lib.hid (fun i j hi => nb_upd (HF.out i) (by have := HB.out.lt; omega) g j)
  clear nn o g hW1 HB H1
  dsimp only
  go_wp2_with fail
  (refine wp_region_X_lit (K := fun W => W.cell? ⟨w.heap.size + 1, 0, none⟩ = some (.slice a0 n0 c0) ∧ W.cell? ⟨w.heap.size + 1, 1, none⟩ = some (.slice a1 n1 c1) ∧ W.cell? ⟨w.heap.size + 2, 0, none⟩ = some (.slice a2 n2 c2) ∧ W.cell? ⟨w.heap.size + 2, 1, none⟩ = some (.slice a3 n3 c3)) (by kernel_rfl) (fun w1 hw1 => ?_))
  have hb3 := HB3.out.ext hw1
  have S4 := Lib.hid (S3.out.more hw1)
  have k3 : w1.cell? ⟨w.heap.size + 1, 0, none⟩ = some (.slice a0 n0 c0) ∧ w1.cell? ⟨w.heap.size + 1, 1, none⟩ = some (.slice a1 n1 c1) ∧ w1.cell? ⟨w.heap.size + 2, 0, none⟩ = some (.slice a2 n2 c2) ∧ w1.cell? ⟨w.heap.size + 2, 1, none⟩ = some (.slice a3 n3 c3) := ⟨(cells2t hb3.bw).1.1, (cells2t hb3.bw).1.2, (cells2t hb3.bs).1.1, (cells2t hb3.bs).1.2⟩
  obtain ⟨⟨z0, z1⟩, y0, y1⟩ := cells2t hb3.z1
  obtain ⟨⟨z2, z3⟩, y2, y3⟩ := cells2t hb3.z2
  clear hw1
  (refine xtakeV 0 (v := ?_) (by simp only [List.getElem?_toArray, List.getElem?_cons, reduceIte]; rfl) (by kernel_rfl) (by rfl) (fun w' hw' => ?_) ?_; rotate_left; focus (have hc := hw'.1; have hd := hw'.2.1; go_simp; first | done | with_reducible rfl)); (simp only [Act.put, List.setIfInBounds_toArray, List.set])
  (refine xtakeV 1 (v := ?_) (by simp only [List.getElem?_toArray, List.getElem?_cons, reduceIte]; rfl) (by kernel_rfl) (by rfl) (fun w' hw' => ?_) ?_; rotate_left; focus (have hc := hw'.2.2.1; have hd := hw'.2.2.2; go_simp; first | done | with_reducible rfl)); (simp only [Act.put, List.setIfInBounds_toArray, List.set])
  (refine xone 2 (by kernel_rfl) (k3) (RunX.of 2 (by simp only [List.getElem?_toArray, List.getElem?_cons, reduceIte]; rfl) (by rfl) ?_))
  go_simp
  (try (simp only [Act.put, List.setIfInBounds_toArray, List.set]))
  have hb4 := hb3.setz1 (.slice a0 n0 c0) (.slice a1 n1 c1)
  have k4 := And.intro (cells2t hb4.bw).1.1 (And.intro (cells2t hb4.bw).1.2 (cells2t hb4.bs).1)
  have S5 := Lib.hid (S4.out.box (off_set2 w1 (w.heap.size + 3) (.slice a0 n0 c0) (.slice a1 n1 c1)) (fun i k hk => by rw [hk]; exact HN.out 3 i (by decide)) (fun k hk => by rw [hk]; exact HK0.out _ (Nat.le_add_right _ _)) (fun k hk => by rw [hk]; have := HW0.out; omega))
  clear z0 z1 y0 y1 z2 z3 y2 y3 k3
  obtain ⟨⟨z2, z3⟩, y2, y3⟩ := cells2t hb4.z2
  simp only [set2] at z2 z3 y2 y3
  (refine xone 3 (by kernel_rfl) (k4) (RunX.of 3 (by simp only [List.getElem?_toArray, List.getElem?_cons, reduceIte]; rfl) (by rfl) ?_))
  go_simp
  (try (simp only [Act.put, List.setIfInBounds_toArray, List.set]))
  have hb5 := hb4.setz2 (.slice a2 n2 c2) (.slice a3 n3 c3)
  have k5 := And.intro (cells2t hb5.bw).1.1 (And.intro (cells2t hb5.bw).1.2 (cells2t hb5.bs).1)
  have S6 := Lib.hid (S5.out.box (off_set2 (set2 w1 (w.heap.size + 3) (.slice a0 n0 c0) (.slice a1 n1 c1)) (w.heap.size + 4) (.slice a2 n2 c2) (.slice a3 n3 c3)) (fun i k hk => by rw [hk]; exact HN.out 4 i (by decide)) (fun k hk => by rw [hk]; exact HK0.out _ (Nat.le_add_right _ _)) (fun k hk => by rw [hk]; have := HW0.out; omega))
  clear z2 z3 y2 y3 k4
  (refine xtakeV 4 (v := ?_) (by simp only [List.getElem?_toArray, List.getElem?_cons, reduceIte]; rfl) (by kernel_rfl) (by rfl) (fun w' hw' => ?_) ?_; rotate_left; focus (skip; go_simp; first | done | with_reducible rfl)); (simp only [Act.put, List.setIfInBounds_toArray, List.set])
  (refine xdone (by kernel_rfl) (k5) ?_)
  obtain ⟨⟨z0, z1⟩, _⟩ := cells2t hb5.z1
  obtain ⟨⟨z2, z3⟩, _⟩ := cells2t hb5.z2
  simp only [set2] at z0 z1 z2 z3
  clear k5 hb3 hb4 hb5
  go_wp2_with fail
  refine bodyPost_ret (v := .tuple #[.agg #[.slice a0 n0 c0, .slice a1 n1 c1], .agg #[.slice a2 n2 c2, .slice a3 n3 c3], .bool true]) (by simp [results, Tryd.results11, go_sem, z0, z1, z2, z3]) rfl ?_
  exact ⟨_, _, by rw [two2_of (i := 0) HX.out.1 HX.out.2.1, two2_of (i := 2) HX.out.2.2.1 HX.out.2.2.2], S6.out⟩

set_option maxRecDepth 50000 in
set_option maxHeartbeats 8000000 in
theorem iplay_lose0 (w0 wB w : World) (Kp : Nat → Prop) (hs : Std w0) (p : Nat) (P : PipeS) (L : Nat → List ByteArray) (x : Nat → SV) (F : Nat → Nat → Prop) (h : Wt w0 wB Kp w p P x L F) (an ax : Int) (ab : ByteArray) :
    Calls Tryd.prog 11 #[.pointer (some ⟨p, 0, none⟩), .agg #[.int .i64 4, .int .i64 0, .int .i64 an, .int .i64 ax, .string ab], .agg (two2 x 0), .agg (two2 x 2)] w (PlayTo w0 wB Kp p (P.lose 0 an) L true) := by
  have H := Lib.hid h
  have HST := Lib.hid hs
  have HF : Hid (∀ j i, ¬ F i (w.heap.size + j)) := Lib.hid (fun j i hk => by have := (h.low i _ hk).2; omega)
  have HW0 : Hid (w0.heap.size ≤ w.heap.size) := Lib.hid h.ext.size
  have HK0 : Hid (∀ k, w.heap.size ≤ k → ¬ Kp k) := Lib.hid (fun k h1 h2 => by have := (h.kp k h2).1; have := h.kb; omega)
  obtain ⟨⟨a0, n0, c0⟩, h0⟩ : ∃ s, x 0 = s := ⟨_, rfl⟩
  obtain ⟨⟨a1, n1, c1⟩, h1⟩ : ∃ s, x 1 = s := ⟨_, rfl⟩
  obtain ⟨⟨a2, n2, c2⟩, h2⟩ : ∃ s, x 2 = s := ⟨_, rfl⟩
  obtain ⟨⟨a3, n3, c3⟩, h3⟩ : ∃ s, x 3 = s := ⟨_, rfl⟩
  unfold two2
  rw [h0, h1, h2, h3]
  have HX := Lib.hid (And.intro h0 (And.intro h1 (And.intro h2 h3)))
  dsimp only
  clear h hs h0 h1 h2 h3
  go_enter Tryd.func11, Tryd.ntmps11
  (try dsimp only [List.append])
  go_wp2_with fail
  obtain ⟨W1, hW1⟩ : ∃ W, W = (five w #[.int .i64 4, .int .i64 0, .int .i64 an, .int .i64 ax, .string ab] #[.slice a0 n0 c0, .slice a1 n1 c1] #[.slice a2 n2 c2, .slice a3 n3 c3] zz zz) := ⟨_, rfl⟩
  have HB := Lib.hid (five_b5 w #[.int .i64 4, .int .i64 0, .int .i64 an, .int .i64 ax, .string ab] #[.slice a0 n0 c0, .slice a1 n1 c1] #[.slice a2 n2 c2, .slice a3 n3 c3] zz zz)
  have H1 := Lib.hid (H.out.more (five_ext w #[.int .i64 4, .int .i64 0, .int .i64 an, .int .i64 ax, .string ab] #[.slice a0 n0 c0, .slice a1 n1 c1] #[.slice a2 n2 c2, .slice a3 n3 c3] zz zz))
  rw [← hW1] at HB H1
  try change Calls _ _ _ (five w #[.int .i64 4, .int .i64 0, .int .i64 an, .int .i64 ax, .string ab] #[.slice a0 n0 c0, .slice a1 n1 c1] #[.slice a2 n2 c2, .slice a3 n3 c3] zz zz) _
  rw [← hW1]
  refine (iLose H1.out.e 0 an).mono ?_
  rintro e w3 ⟨F3, rfl, nn, o, g⟩
  have HB3 := Lib.hid (HB.out.off o (fun i _ => HF.out i 0))
  have S3 := Lib.hid (H1.out.moves nn o g)
  have HN : Hid (∀ i j, i < 5 → ¬ upd F 0 F3 j (w.heap.size + i)) := Lib.hid (fun i j hi => nb_upd (HF.out i) (by have := HB.out.lt; omega) g j)
  clear nn o g hW1 HB H1
  dsimp only
  go_wp2_with fail
  (refine wp_region_X_lit (K := fun W => W.cell? ⟨w.heap.size + 1, 0, none⟩ = some (.slice a0 n0 c0) ∧ W.cell? ⟨w.heap.size + 1, 1, none⟩ = some (.slice a1 n1 c1) ∧ W.cell? ⟨w.heap.size + 2, 0, none⟩ = some (.slice a2 n2 c2) ∧ W.cell? ⟨w.heap.size + 2, 1, none⟩ = some (.slice a3 n3 c3)) (by kernel_rfl) (fun w1 hw1 => ?_))
  have hb3 := HB3.out.ext hw1
  have S4 := Lib.hid (S3.out.more hw1)
  have k3 : w1.cell? ⟨w.heap.size + 1, 0, none⟩ = some (.slice a0 n0 c0) ∧ w1.cell? ⟨w.heap.size + 1, 1, none⟩ = some (.slice a1 n1 c1) ∧ w1.cell? ⟨w.heap.size + 2, 0, none⟩ = some (.slice a2 n2 c2) ∧ w1.cell? ⟨w.heap.size + 2, 1, none⟩ = some (.slice a3 n3 c3) := ⟨(cells2t hb3.bw).1.1, (cells2t hb3.bw).1.2, (cells2t hb3.bs).1.1, (cells2t hb3.bs).1.2⟩
  obtain ⟨⟨z0, z1⟩, y0, y1⟩ := cells2t hb3.z1
  obtain ⟨⟨z2, z3⟩, y2, y3⟩ := cells2t hb3.z2
  clear hw1
  (refine xtakeV 0 (v := ?_) (by simp only [List.getElem?_toArray, List.getElem?_cons, reduceIte]; rfl) (by kernel_rfl) (by rfl) (fun w' hw' => ?_) ?_; rotate_left; focus (have hc := hw'.1; have hd := hw'.2.1; go_simp; first | done | with_reducible rfl)); (simp only [Act.put, List.setIfInBounds_toArray, List.set])
  (refine xtakeV 1 (v := ?_) (by simp only [List.getElem?_toArray, List.getElem?_cons, reduceIte]; rfl) (by kernel_rfl) (by rfl) (fun w' hw' => ?_) ?_; rotate_left; focus (have hc := hw'.2.2.1; have hd := hw'.2.2.2; go_simp; first | done | with_reducible rfl)); (simp only [Act.put, List.setIfInBounds_toArray, List.set])
  (refine xone 2 (by kernel_rfl) (k3) (RunX.of 2 (by simp only [List.getElem?_toArray, List.getElem?_cons, reduceIte]; rfl) (by rfl) ?_))
  go_simp
  (try (simp only [Act.put, List.setIfInBounds_toArray, List.set]))
  have hb4 := hb3.setz1 (.slice a0 n0 c0) (.slice a1 n1 c1)
  have k4 := And.intro (cells2t hb4.bw).1.1 (And.intro (cells2t hb4.bw).1.2 (cells2t hb4.bs).1)
  have S5 := Lib.hid (S4.out.box (off_set2 w1 (w.heap.size + 3) (.slice a0 n0 c0) (.slice a1 n1 c1)) (fun i k hk => by rw [hk]; exact HN.out 3 i (by decide)) (fun k hk => by rw [hk]; exact HK0.out _ (Nat.le_add_right _ _)) (fun k hk => by rw [hk]; have := HW0.out; omega))
  clear z0 z1 y0 y1 z2 z3 y2 y3 k3
  obtain ⟨⟨z2, z3⟩, y2, y3⟩ := cells2t hb4.z2
  simp only [set2] at z2 z3 y2 y3
  (refine xone 3 (by kernel_rfl) (k4) (RunX.of 3 (by simp only [List.getElem?_toArray, List.getElem?_cons, reduceIte]; rfl) (by rfl) ?_))
  go_simp
  (try (simp only [Act.put, List.setIfInBounds_toArray, List.set]))
  have hb5 := hb4.setz2 (.slice a2 n2 c2) (.slice a3 n3 c3)
  have k5 := And.intro (cells2t hb5.bw).1.1 (And.intro (cells2t hb5.bw).1.2 (cells2t hb5.bs).1)
  have S6 := Lib.hid (S5.out.box (off_set2 (set2 w1 (w.heap.size + 3) (.slice a0 n0 c0) (.slice a1 n1 c1)) (w.heap.size + 4) (.slice a2 n2 c2) (.slice a3 n3 c3)) (fun i k hk => by rw [hk]; exact HN.out 4 i (by decide)) (fun k hk => by rw [hk]; exact HK0.out _ (Nat.le_add_right _ _)) (fun k hk => by rw [hk]; have := HW0.out; omega))
  clear z2 z3 y2 y3 k4
  (refine xtakeV 4 (v := ?_) (by simp only [List.getElem?_toArray, List.getElem?_cons, reduceIte]; rfl) (by kernel_rfl) (by rfl) (fun w' hw' => ?_) ?_; rotate_left; focus (skip; go_simp; first | done | with_reducible rfl)); (simp only [Act.put, List.setIfInBounds_toArray, List.set])
  (refine xdone (by kernel_rfl) (k5) ?_)
  obtain ⟨⟨z0, z1⟩, _⟩ := cells2t hb5.z1
  obtain ⟨⟨z2, z3⟩, _⟩ := cells2t hb5.z2
  simp only [set2] at z0 z1 z2 z3
  clear k5 hb3 hb4 hb5
  go_wp2_with fail
  refine bodyPost_ret (v := .tuple #[.agg #[.slice a0 n0 c0, .slice a1 n1 c1], .agg #[.slice a2 n2 c2, .slice a3 n3 c3], .bool true]) (by simp [results, Tryd.results11, go_sem, z0, z1, z2, z3]) rfl ?_
  exact ⟨_, _, by rw [two2_of (i := 0) HX.out.1 HX.out.2.1, two2_of (i := 2) HX.out.2.2.1 HX.out.2.2.2], S6.out⟩

set_option maxRecDepth 50000 in
set_option maxHeartbeats 8000000 in
theorem iplay_double0 (w0 wB w : World) (Kp : Nat → Prop) (hs : Std w0) (p : Nat) (P : PipeS) (L : Nat → List ByteArray) (x : Nat → SV) (F : Nat → Nat → Prop) (h : Wt w0 wB Kp w p P x L F) (an ax : Int) (ab : ByteArray) :
    Calls Tryd.prog 11 #[.pointer (some ⟨p, 0, none⟩), .agg #[.int .i64 5, .int .i64 0, .int .i64 an, .int .i64 ax, .string ab], .agg (two2 x 0), .agg (two2 x 2)] w (PlayTo w0 wB Kp p (P.double 0 an) L true) := by
  have H := Lib.hid h
  have HST := Lib.hid hs
  have HF : Hid (∀ j i, ¬ F i (w.heap.size + j)) := Lib.hid (fun j i hk => by have := (h.low i _ hk).2; omega)
  have HW0 : Hid (w0.heap.size ≤ w.heap.size) := Lib.hid h.ext.size
  have HK0 : Hid (∀ k, w.heap.size ≤ k → ¬ Kp k) := Lib.hid (fun k h1 h2 => by have := (h.kp k h2).1; have := h.kb; omega)
  obtain ⟨⟨a0, n0, c0⟩, h0⟩ : ∃ s, x 0 = s := ⟨_, rfl⟩
  obtain ⟨⟨a1, n1, c1⟩, h1⟩ : ∃ s, x 1 = s := ⟨_, rfl⟩
  obtain ⟨⟨a2, n2, c2⟩, h2⟩ : ∃ s, x 2 = s := ⟨_, rfl⟩
  obtain ⟨⟨a3, n3, c3⟩, h3⟩ : ∃ s, x 3 = s := ⟨_, rfl⟩
  unfold two2
  rw [h0, h1, h2, h3]
  have HX := Lib.hid (And.intro h0 (And.intro h1 (And.intro h2 h3)))
  dsimp only
  clear h hs h0 h1 h2 h3
  go_enter Tryd.func11, Tryd.ntmps11
  (try dsimp only [List.append])
  go_wp2_with fail
  obtain ⟨W1, hW1⟩ : ∃ W, W = (five w #[.int .i64 5, .int .i64 0, .int .i64 an, .int .i64 ax, .string ab] #[.slice a0 n0 c0, .slice a1 n1 c1] #[.slice a2 n2 c2, .slice a3 n3 c3] zz zz) := ⟨_, rfl⟩
  have HB := Lib.hid (five_b5 w #[.int .i64 5, .int .i64 0, .int .i64 an, .int .i64 ax, .string ab] #[.slice a0 n0 c0, .slice a1 n1 c1] #[.slice a2 n2 c2, .slice a3 n3 c3] zz zz)
  have H1 := Lib.hid (H.out.more (five_ext w #[.int .i64 5, .int .i64 0, .int .i64 an, .int .i64 ax, .string ab] #[.slice a0 n0 c0, .slice a1 n1 c1] #[.slice a2 n2 c2, .slice a3 n3 c3] zz zz))
  rw [← hW1] at HB H1
  try change Calls _ _ _ (five w #[.int .i64 5, .int .i64 0, .int .i64 an, .int .i64 ax, .string ab] #[.slice a0 n0 c0, .slice a1 n1 c1] #[.slice a2 n2 c2, .slice a3 n3 c3] zz zz) _
  rw [← hW1]
  refine (iDouble H1.out.e 0 an).mono ?_
  rintro e w3 ⟨F3, rfl, nn, o, g⟩
  have HB3 := Lib.hid (HB.out.off o (fun i _ => HF.out i 0))
  have S3 := Lib.hid (H1.out.moves nn o g)
  have HN : Hid (∀ i j, i < 5 → ¬ upd F 0 F3 j (w.heap.size + i)) := Lib.hid (fun i j hi => nb_upd (HF.out i) (by have := HB.out.lt; omega) g j)
  clear nn o g hW1 HB H1
  dsimp only
  go_wp2_with fail
  (refine wp_region_X_lit (K := fun W => W.cell? ⟨w.heap.size + 1, 0, none⟩ = some (.slice a0 n0 c0) ∧ W.cell? ⟨w.heap.size + 1, 1, none⟩ = some (.slice a1 n1 c1) ∧ W.cell? ⟨w.heap.size + 2, 0, none⟩ = some (.slice a2 n2 c2) ∧ W.cell? ⟨w.heap.size + 2, 1, none⟩ = some (.slice a3 n3 c3)) (by kernel_rfl) (fun w1 hw1 => ?_))
  have hb3 := HB3.out.ext hw1
  have S4 := Lib.hid (S3.out.more hw1)
  have k3 : w1.cell? ⟨w.heap.size + 1, 0, none⟩ = some (.slice a0 n0 c0) ∧ w1.cell? ⟨w.heap.size + 1, 1, none⟩ = some (.slice a1 n1 c1) ∧ w1.cell? ⟨w.heap.size + 2, 0, none⟩ = some (.slice a2 n2 c2) ∧ w1.cell? ⟨w.heap.size + 2, 1, none⟩ = some (.slice a3 n3 c3) := ⟨(cells2t hb3.bw).1.1, (cells2t hb3.bw).1.2, (cells2t hb3.bs).1.1, (cells2t hb3.bs).1.2⟩
  obtain ⟨⟨z0, z1⟩, y0, y1⟩ := cells2t hb3.z1
  obtain ⟨⟨z2, z3⟩, y2, y3⟩ := cells2t hb3.z2
  clear hw1
  (refine xtakeV 0 (v := ?_) (by simp only [List.getElem?_toArray, List.getElem?_cons, reduceIte]; rfl) (by kernel_rfl) (by rfl) (fun w' hw' => ?_) ?_; rotate_left; focus (have hc := hw'.1; have hd := hw'.2.1; go_simp; first | done | with_reducible rfl)); (simp only [Act.put, List.setIfInBounds_toArray, List.set])
  (refine xtakeV 1 (v := ?_) (by simp only [List.getElem?_toArray, List.getElem?_cons, reduceIte]; rfl) (by kernel_rfl) (by rfl) (fun w' hw' => ?_) ?_; rotate_left; focus (have hc := hw'.2.2.1; have hd := hw'.2.2.2; go_simp; first | done | with_reducible rfl)); (simp only [Act.put, List.setIfInBounds_toArray, List.set])
  (refine xone 2 (by kernel_rfl) (k3) (RunX.of 2 (by simp only [List.getElem?_toArray, List.getElem?_cons, reduceIte]; rfl) (by rfl) ?_))
  go_simp
  (try (simp only [Act.put, List.setIfInBounds_toArray, List.set]))
  have hb4 := hb3.setz1 (.slice a0 n0 c0) (.slice a1 n1 c1)
  have k4 := And.intro (cells2t hb4.bw).1.1 (And.intro (cells2t hb4.bw).1.2 (cells2t hb4.bs).1)
  have S5 := Lib.hid (S4.out.box (off_set2 w1 (w.heap.size + 3) (.slice a0 n0 c0) (.slice a1 n1 c1)) (fun i k hk => by rw [hk]; exact HN.out 3 i (by decide)) (fun k hk => by rw [hk]; exact HK0.out _ (Nat.le_add_right _ _)) (fun k hk => by rw [hk]; have := HW0.out; omega))
  clear z0 z1 y0 y1 z2 z3 y2 y3 k3
  obtain ⟨⟨z2, z3⟩, y2, y3⟩ := cells2t hb4.z2
  simp only [set2] at z2 z3 y2 y3
  (refine xone 3 (by kernel_rfl) (k4) (RunX.of 3 (by simp only [List.getElem?_toArray, List.getElem?_cons, reduceIte]; rfl) (by rfl) ?_))
  go_simp
  (try (simp only [Act.put, List.setIfInBounds_toArray, List.set]))
  have hb5 := hb4.setz2 (.slice a2 n2 c2) (.slice a3 n3 c3)
  have k5 := And.intro (cells2t hb5.bw).1.1 (And.intro (cells2t hb5.bw).1.2 (cells2t hb5.bs).1)
  have S6 := Lib.hid (S5.out.box (off_set2 (set2 w1 (w.heap.size + 3) (.slice a0 n0 c0) (.slice a1 n1 c1)) (w.heap.size + 4) (.slice a2 n2 c2) (.slice a3 n3 c3)) (fun i k hk => by rw [hk]; exact HN.out 4 i (by decide)) (fun k hk => by rw [hk]; exact HK0.out _ (Nat.le_add_right _ _)) (fun k hk => by rw [hk]; have := HW0.out; omega))
  clear z2 z3 y2 y3 k4
  (refine xtakeV 4 (v := ?_) (by simp only [List.getElem?_toArray, List.getElem?_cons, reduceIte]; rfl) (by kernel_rfl) (by rfl) (fun w' hw' => ?_) ?_; rotate_left; focus (skip; go_simp; first | done | with_reducible rfl)); (simp only [Act.put, List.setIfInBounds_toArray, List.set])
  (refine xdone (by kernel_rfl) (k5) ?_)
  obtain ⟨⟨z0, z1⟩, _⟩ := cells2t hb5.z1
  obtain ⟨⟨z2, z3⟩, _⟩ := cells2t hb5.z2
  simp only [set2] at z0 z1 z2 z3
  clear k5 hb3 hb4 hb5
  go_wp2_with fail
  refine bodyPost_ret (v := .tuple #[.agg #[.slice a0 n0 c0, .slice a1 n1 c1], .agg #[.slice a2 n2 c2, .slice a3 n3 c3], .bool true]) (by simp [results, Tryd.results11, go_sem, z0, z1, z2, z3]) rfl ?_
  exact ⟨_, _, by rw [two2_of (i := 0) HX.out.1 HX.out.2.1, two2_of (i := 2) HX.out.2.2.1 HX.out.2.2.2], S6.out⟩

set_option maxRecDepth 50000 in
set_option maxHeartbeats 8000000 in
theorem iplay_flip0 (w0 wB w : World) (Kp : Nat → Prop) (hs : Std w0) (p : Nat) (P : PipeS) (L : Nat → List ByteArray) (x : Nat → SV) (F : Nat → Nat → Prop) (h : Wt w0 wB Kp w p P x L F) (an ax : Int) (ab : ByteArray) (ak : Int) (hk : ak ≠ 0 ∧ ak ≠ 1 ∧ ak ≠ 2 ∧ ak ≠ 3 ∧ ak ≠ 4 ∧ ak ≠ 5) (ha : -9223372036854775808 ≤ ax ∧ ax ≤ 9223372036854775807) :
    Calls Tryd.prog 11 #[.pointer (some ⟨p, 0, none⟩), .agg #[.int .i64 ak, .int .i64 0, .int .i64 an, .int .i64 ax, .string ab], .agg (two2 x 0), .agg (two2 x 2)] w (PlayTo w0 wB Kp p (P.flip 0 an ax) L true) := by
  have H := Lib.hid h
  have HST := Lib.hid hs
  have HF : Hid (∀ j i, ¬ F i (w.heap.size + j)) := Lib.hid (fun j i hk => by have := (h.low i _ hk).2; omega)
  have HW0 : Hid (w0.heap.size ≤ w.heap.size) := Lib.hid h.ext.size
  have HK0 : Hid (∀ k, w.heap.size ≤ k → ¬ Kp k) := Lib.hid (fun k h1 h2 => by have := (h.kp k h2).1; have := h.kb; omega)
  obtain ⟨⟨a0, n0, c0⟩, h0⟩ : ∃ s, x 0 = s := ⟨_, rfl⟩
  obtain ⟨⟨a1, n1, c1⟩, h1⟩ : ∃ s, x 1 = s := ⟨_, rfl⟩
  obtain ⟨⟨a2, n2, c2⟩, h2⟩ : ∃ s, x 2 = s := ⟨_, rfl⟩
  obtain ⟨⟨a3, n3, c3⟩, h3⟩ : ∃ s, x 3 = s := ⟨_, rfl⟩
  unfold two2
  rw [h0, h1, h2, h3]
  have HX := Lib.hid (And.intro h0 (And.intro h1 (And.intro h2 h3)))
  dsimp only
  clear h hs h0 h1 h2 h3
  obtain ⟨b0, b1, b2, b3, b4, b5⟩ := hk
  replace b0 : (ak == 0) = false := beq_eq_false_iff_ne.2 b0
  replace b1 : (ak == 1) = false := beq_eq_false_iff_ne.2 b1
  replace b2 : (ak == 2) = false := beq_eq_false_iff_ne.2 b2
  replace b3 : (ak == 3) = false := beq_eq_false_iff_ne.2 b3
  replace b4 : (ak == 4) = false := beq_eq_false_iff_ne.2 b4
  replace b5 : (ak == 5) = false := beq_eq_false_iff_ne.2 b5
  have HA := Lib.hid ha
  clear ha
  go_enter Tryd.func11, Tryd.ntmps11
  (try dsimp only [List.append])
  go_wp2_with fail
  obtain ⟨W1, hW1⟩ : ∃ W, W = (five w #[.int .i64 ak, .int .i64 0, .int .i64 an, .int .i64 ax, .string ab] #[.slice a0 n0 c0, .slice a1 n1 c1] #[.slice a2 n2 c2, .slice a3 n3 c3] zz zz) := ⟨_, rfl⟩
  have HB := Lib.hid (five_b5 w #[.int .i64 ak, .int .i64 0, .int .i64 an, .int .i64 ax, .string ab] #[.slice a0 n0 c0, .slice a1 n1 c1] #[.slice a2 n2 c2, .slice a3 n3 c3] zz zz)
  have H1 := Lib.hid (H.out.more (five_ext w #[.int .i64 ak, .int .i64 0, .int .i64 an, .int .i64 ax, .string ab] #[.slice a0 n0 c0, .slice a1 n1 c1] #[.slice a2 n2 c2, .slice a3 n3 c3] zz zz))
  rw [← hW1] at HB H1
  try change Calls _ _ _ (five w #[.int .i64 ak, .int .i64 0, .int .i64 an, .int .i64 ax, .string ab] #[.slice a0 n0 c0, .slice a1 n1 c1] #[.slice a2 n2 c2, .slice a3 n3 c3] zz zz) _
  rw [← hW1]
  refine (iFlip H1.out.e 0 an ax HA.out.1 HA.out.2).mono ?_
  rintro e w3 ⟨F3, rfl, nn, o, g⟩
  have HB3 := Lib.hid (HB.out.off o (fun i _ => HF.out i 0))
  have S3 := Lib.hid (H1.out.moves nn o g)
  have HN : Hid (∀ i j, i < 5 → ¬ upd F 0 F3 j (w.heap.size + i)) := Lib.hid (fun i j hi => nb_upd (HF.out i) (by have := HB.out.lt; omega) g j)
  clear nn o g hW1 HB H1
  dsimp only
  go_wp2_with fail
  (refine wp_region_X_lit (K := fun W => W.cell? ⟨w.heap.size + 1, 0, none⟩ = some (.slice a0 n0 c0) ∧ W.cell? ⟨w.heap.size + 1, 1, none⟩ = some (.slice a1 n1 c1) ∧ W.cell? ⟨w.heap.size + 2, 0, none⟩ = some (.slice a2 n2 c2) ∧ W.cell? ⟨w.heap.size + 2, 1, none⟩ = some (.slice a3 n3 c3)) (by kernel_rfl) (fun w1 hw1 => ?_))
  have hb3 := HB3.out.ext hw1
  have S4 := Lib.hid (S3.out.more hw1)
  have k3 : w1.cell? ⟨w.heap.size + 1, 0, none⟩ = some (.slice a0 n0 c0) ∧ w1.cell? ⟨w.heap.size + 1, 1, none⟩ = some (.slice a1 n1 c1) ∧ w1.cell? ⟨w.heap.size + 2, 0, none⟩ = some (.slice a2 n2 c2) ∧ w1.cell? ⟨w.heap.size + 2, 1, none⟩ = some (.slice a3 n3 c3) := ⟨(cells2t hb3.bw).1.1, (cells2t hb3.bw).1.2, (cells2t hb3.bs).1.1, (cells2t hb3.bs).1.2⟩
  obtain ⟨⟨z0, z1⟩, y0, y1⟩ := cells2t hb3.z1
  obtain ⟨⟨z2, z3⟩, y2, y3⟩ := cells2t hb3.z2
  clear hw1
  (refine xtakeV 0 (v := ?_) (by simp only [List.getElem?_toArray, List.getElem?_cons, reduceIte]; rfl) (by kernel_rfl) (by rfl) (fun w' hw' => ?_) ?_; rotate_left; focus (have hc := hw'.1; have hd := hw'.2.1; go_simp; first | done | with_reducible rfl)); (simp only [Act.put, List.setIfInBounds_toArray, List.set])
  (refine xtakeV 1 (v := ?_) (by simp only [List.getElem?_toArray, List.getElem?_cons, reduceIte]; rfl) (by kernel_rfl) (by rfl) (fun w' hw' => ?_) ?_; rotate_left; focus (have hc := hw'.2.2.1; have hd := hw'.2.2.2; go_simp; first | done | with_reducible rfl)); (simp only [Act.put, List.setIfInBounds_toArray, List.set])
  (refine xone 2 (by kernel_rfl) (k3) (RunX.of 2 (by simp only [List.getElem?_toArray, List.getElem?_cons, reduceIte]; rfl) (by rfl) ?_))
  go_simp
  (try (simp only [Act.put, List.setIfInBounds_toArray, List.set]))
  have hb4 := hb3.setz1 (.slice a0 n0 c0) (.slice a1 n1 c1)
  have k4 := And.intro (cells2t hb4.bw).1.1 (And.intro (cells2t hb4.bw).1.2 (cells2t hb4.bs).1)
  have S5 := Lib.hid (S4.out.box (off_set2 w1 (w.heap.size + 3) (.slice a0 n0 c0) (.slice a1 n1 c1)) (fun i k hk => by rw [hk]; exact HN.out 3 i (by decide)) (fun k hk => by rw [hk]; exact HK0.out _ (Nat.le_add_right _ _)) (fun k hk => by rw [hk]; have := HW0.out; omega))
  clear z0 z1 y0 y1 z2 z3 y2 y3 k3
  obtain ⟨⟨z2, z3⟩, y2, y3⟩ := cells2t hb4.z2
  simp only [set2] at z2 z3 y2 y3
  (refine xone 3 (by kernel_rfl) (k4) (RunX.of 3 (by simp only [List.getElem?_toArray, List.getElem?_cons, reduceIte]; rfl) (by rfl) ?_))
  go_simp
  (try (simp only [Act.put, List.setIfInBounds_toArray, List.set]))
  have hb5 := hb4.setz2 (.slice a2 n2 c2) (.slice a3 n3 c3)
  have k5 := And.intro (cells2t hb5.bw).1.1 (And.intro (cells2t hb5.bw).1.2 (cells2t hb5.bs).1)
  have S6 := Lib.hid (S5.out.box (off_set2 (set2 w1 (w.heap.size + 3) (.slice a0 n0 c0) (.slice a1 n1 c1)) (w.heap.size + 4) (.slice a2 n2 c2) (.slice a3 n3 c3)) (fun i k hk => by rw [hk]; exact HN.out 4 i (by decide)) (fun k hk => by rw [hk]; exact HK0.out _ (Nat.le_add_right _ _)) (fun k hk => by rw [hk]; have := HW0.out; omega))
  clear z2 z3 y2 y3 k4
  (refine xtakeV 4 (v := ?_) (by simp only [List.getElem?_toArray, List.getElem?_cons, reduceIte]; rfl) (by kernel_rfl) (by rfl) (fun w' hw' => ?_) ?_; rotate_left; focus (skip; go_simp; first | done | with_reducible rfl)); (simp only [Act.put, List.setIfInBounds_toArray, List.set])
  (refine xdone (by kernel_rfl) (k5) ?_)
  obtain ⟨⟨z0, z1⟩, _⟩ := cells2t hb5.z1
  obtain ⟨⟨z2, z3⟩, _⟩ := cells2t hb5.z2
  simp only [set2] at z0 z1 z2 z3
  clear k5 hb3 hb4 hb5
  go_wp2_with fail
  refine bodyPost_ret (v := .tuple #[.agg #[.slice a0 n0 c0, .slice a1 n1 c1], .agg #[.slice a2 n2 c2, .slice a3 n3 c3], .bool true]) (by simp [results, Tryd.results11, go_sem, z0, z1, z2, z3]) rfl ?_
  exact ⟨_, _, by rw [two2_of (i := 0) HX.out.1 HX.out.2.1, two2_of (i := 2) HX.out.2.2.1 HX.out.2.2.2], S6.out⟩

set_option maxRecDepth 50000 in
set_option maxHeartbeats 8000000 in
theorem iplay_tick1 (w0 wB w : World) (Kp : Nat → Prop) (hs : Std w0) (p : Nat) (P : PipeS) (L : Nat → List ByteArray) (x : Nat → SV) (F : Nat → Nat → Prop) (h : Wt w0 wB Kp w p P x L F) (an ax : Int) (ab : ByteArray) :
    Calls Tryd.prog 11 #[.pointer (some ⟨p, 0, none⟩), .agg #[.int .i64 2, .int .i64 1, .int .i64 an, .int .i64 ax, .string ab], .agg (two2 x 0), .agg (two2 x 2)] w (PlayTo w0 wB Kp p (P.tick 1) L true) := by
  have H := Lib.hid h
  have HST := Lib.hid hs
  have HF : Hid (∀ j i, ¬ F i (w.heap.size + j)) := Lib.hid (fun j i hk => by have := (h.low i _ hk).2; omega)
  have HW0 : Hid (w0.heap.size ≤ w.heap.size) := Lib.hid h.ext.size
  have HK0 : Hid (∀ k, w.heap.size ≤ k → ¬ Kp k) := Lib.hid (fun k h1 h2 => by have := (h.kp k h2).1; have := h.kb; omega)
  obtain ⟨⟨a0, n0, c0⟩, h0⟩ : ∃ s, x 0 = s := ⟨_, rfl⟩
  obtain ⟨⟨a1, n1, c1⟩, h1⟩ : ∃ s, x 1 = s := ⟨_, rfl⟩
  obtain ⟨⟨a2, n2, c2⟩, h2⟩ : ∃ s, x 2 = s := ⟨_, rfl⟩
  obtain ⟨⟨a3, n3, c3⟩, h3⟩ : ∃ s, x 3 = s := ⟨_, rfl⟩
  unfold two2
  rw [h0, h1, h2, h3]
  have HX := Lib.hid (And.intro h0 (And.intro h1 (And.intro h2 h3)))
  dsimp only
  clear h hs h0 h1 h2 h3
  go_enter Tryd.func11, Tryd.ntmps11
  (try dsimp only [List.append])
  go_wp2_with fail
  obtain ⟨W1, hW1⟩ : ∃ W, W = (five w #[.int .i64 2, .int .i64 1, .int .i64 an, .int .i64 ax, .string ab] #[.slice a0 n0 c0, .slice a1 n1 c1] #[.slice a2 n2 c2, .slice a3 n3 c3] zz zz) := ⟨_, rfl⟩
  have HB := Lib.hid (five_b5 w #[.int .i64 2, .int .i64 1, .int .i64 an, .int .i64 ax, .string ab] #[.slice a0 n0 c0, .slice a1 n1 c1] #[.slice a2 n2 c2, .slice a3 n3 c3] zz zz)
  have H1 := Lib.hid (H.out.more (five_ext w #[.int .i64 2, .int .i64 1, .int .i64 an, .int .i64 ax, .string ab] #[.slice a0 n0 c0, .slice a1 n1 c1] #[.slice a2 n2 c2, .slice a3 n3 c3] zz zz))
  rw [← hW1] at HB H1
  try change Calls _ _ _ (five w #[.int .i64 2, .int .i64 1, .int .i64 an, .int .i64 ax, .string ab] #[.slice a0 n0 c0, .slice a1 n1 c1] #[.slice a2 n2 c2, .slice a3 n3 c3] zz zz) _
  rw [← hW1]
  refine (iTick H1.out.e 1).mono ?_
  rintro e w3 ⟨F3, rfl, nn, o, g⟩
  have HB3 := Lib.hid (HB.out.off o (fun i _ => HF.out i 0))
  have S3 := Lib.hid (H1.out.moves nn o g)
  have HN : Hid (∀ i j, i < 5 → ¬ upd F 0 F3 j (w.heap.size + i)) := Lib.hid (fun i j hi => nb_upd (HF.out i) (by have := HB.out.lt; omega) g j)
  clear nn o g hW1 HB H1
  dsimp only
  go_wp2_with fail
  (refine wp_region_X_lit (K := fun W => W.cell? ⟨w.heap.size + 1, 0, none⟩ = some (.slice a0 n0 c0) ∧ W.cell? ⟨w.heap.size + 1, 1, none⟩ = some (.slice a1 n1 c1) ∧ W.cell? ⟨w.heap.size + 2, 0, none⟩ = some (.slice a2 n2 c2) ∧ W.cell? ⟨w.heap.size + 2, 1, none⟩ = some (.slice a3 n3 c3)) (by kernel_rfl) (fun w1 hw1 => ?_))
  have hb3 := HB3.out.ext hw1
  have S4 := Lib.hid (S3.out.more hw1)
  have k3 : w1.cell? ⟨w.heap.size + 1, 0, none⟩ = some (.slice a0 n0 c0) ∧ w1.cell? ⟨w.heap.size + 1, 1, none⟩ = some (.slice a1 n1 c1) ∧ w1.cell? ⟨w.heap.size + 2, 0, none⟩ = some (.slice a2 n2 c2) ∧ w1.cell? ⟨w.heap.size + 2, 1, none⟩ = some (.slice a3 n3 c3) := ⟨(cells2t hb3.bw).1.1, (cells2t hb3.bw).1.2, (cells2t hb3.bs).1.1, (cells2t hb3.bs).1.2⟩
  obtain ⟨⟨z0, z1⟩, y0, y1⟩ := cells2t hb3.z1
  obtain ⟨⟨z2, z3⟩, y2, y3⟩ := cells2t hb3.z2
  clear hw1
  (refine xtakeV 0 (v := ?_) (by simp only [List.getElem?_toArray, List.getElem?_cons, reduceIte]; rfl) (by kernel_rfl) (by rfl) (fun w' hw' => ?_) ?_; rotate_left; focus (have hc := hw'.1; have hd := hw'.2.1; go_simp; first | done | with_reducible rfl)); (simp only [Act.put, List.setIfInBounds_toArray, List.set])
  (refine xtakeV 1 (v := ?_) (by simp only [List.getElem?_toArray, List.getElem?_cons, reduceIte]; rfl) (by kernel_rfl) (by rfl) (fun w' hw' => ?_) ?_; rotate_left; focus (have hc := hw'.2.2.1; have hd := hw'.2.2.2; go_simp; first | done | with_reducible rfl)); (simp only [Act.put, List.setIfInBounds_toArray, List.set])
  (refine xone 2 (by kernel_rfl) (k3) (RunX.of 2 (by simp only [List.getElem?_toArray, List.getElem?_cons, reduceIte]; rfl) (by rfl) ?_))
  go_simp
  (try (simp only [Act.put, List.setIfInBounds_toArray, List.set]))
  have hb4 := hb3.setz1 (.slice a0 n0 c0) (.slice a1 n1 c1)
  have k4 := And.intro (cells2t hb4.bw).1.1 (And.intro (cells2t hb4.bw).1.2 (cells2t hb4.bs).1)
  have S5 := Lib.hid (S4.out.box (off_set2 w1 (w.heap.size + 3) (.slice a0 n0 c0) (.slice a1 n1 c1)) (fun i k hk => by rw [hk]; exact HN.out 3 i (by decide)) (fun k hk => by rw [hk]; exact HK0.out _ (Nat.le_add_right _ _)) (fun k hk => by rw [hk]; have := HW0.out; omega))
  clear z0 z1 y0 y1 z2 z3 y2 y3 k3
  obtain ⟨⟨z2, z3⟩, y2, y3⟩ := cells2t hb4.z2
  simp only [set2] at z2 z3 y2 y3
  (refine xone 3 (by kernel_rfl) (k4) (RunX.of 3 (by simp only [List.getElem?_toArray, List.getElem?_cons, reduceIte]; rfl) (by rfl) ?_))
  go_simp
  (try (simp only [Act.put, List.setIfInBounds_toArray, List.set]))
  have hb5 := hb4.setz2 (.slice a2 n2 c2) (.slice a3 n3 c3)
  have k5 := And.intro (cells2t hb5.bw).1.1 (And.intro (cells2t hb5.bw).1.2 (cells2t hb5.bs).1)
  have S6 := Lib.hid (S5.out.box (off_set2 (set2 w1 (w.heap.size + 3) (.slice a0 n0 c0) (.slice a1 n1 c1)) (w.heap.size + 4) (.slice a2 n2 c2) (.slice a3 n3 c3)) (fun i k hk => by rw [hk]; exact HN.out 4 i (by decide)) (fun k hk => by rw [hk]; exact HK0.out _ (Nat.le_add_right _ _)) (fun k hk => by rw [hk]; have := HW0.out; omega))
  clear z2 z3 y2 y3 k4
  (refine xtakeV 4 (v := ?_) (by simp only [List.getElem?_toArray, List.getElem?_cons, reduceIte]; rfl) (by kernel_rfl) (by rfl) (fun w' hw' => ?_) ?_; rotate_left; focus (skip; go_simp; first | done | with_reducible rfl)); (simp only [Act.put, List.setIfInBounds_toArray, List.set])
  (refine xdone (by kernel_rfl) (k5) ?_)
  obtain ⟨⟨z0, z1⟩, _⟩ := cells2t hb5.z1
  obtain ⟨⟨z2, z3⟩, _⟩ := cells2t hb5.z2
  simp only [set2] at z0 z1 z2 z3
  clear k5 hb3 hb4 hb5
  go_wp2_with fail
  refine bodyPost_ret (v := .tuple #[.agg #[.slice a0 n0 c0, .slice a1 n1 c1], .agg #[.slice a2 n2 c2, .slice a3 n3 c3], .bool true]) (by simp [results, Tryd.results11, go_sem, z0, z1, z2, z3]) rfl ?_
  exact ⟨_, _, by rw [two2_of (i := 0) HX.out.1 HX.out.2.1, two2_of (i := 2) HX.out.2.2.1 HX.out.2.2.2], S6.out⟩

set_option maxRecDepth 50000 in
set_option maxHeartbeats 8000000 in
theorem iplay_lose1 (w0 wB w : World) (Kp : Nat → Prop) (hs : Std w0) (p : Nat) (P : PipeS) (L : Nat → List ByteArray) (x : Nat → SV) (F : Nat → Nat → Prop) (h : Wt w0 wB Kp w p P x L F) (an ax : Int) (ab : ByteArray) :
    Calls Tryd.prog 11 #[.pointer (some ⟨p, 0, none⟩), .agg #[.int .i64 4, .int .i64 1, .int .i64 an, .int .i64 ax, .string ab], .agg (two2 x 0), .agg (two2 x 2)] w (PlayTo w0 wB Kp p (P.lose 1 an) L true) := by
  have H := Lib.hid h
  have HST := Lib.hid hs
  have HF : Hid (∀ j i, ¬ F i (w.heap.size + j)) := Lib.hid (fun j i hk => by have := (h.low i _ hk).2; omega)
  have HW0 : Hid (w0.heap.size ≤ w.heap.size) := Lib.hid h.ext.size
  have HK0 : Hid (∀ k, w.heap.size ≤ k → ¬ Kp k) := Lib.hid (fun k h1 h2 => by have := (h.kp k h2).1; have := h.kb; omega)
  obtain ⟨⟨a0, n0, c0⟩, h0⟩ : ∃ s, x 0 = s := ⟨_, rfl⟩
  obtain ⟨⟨a1, n1, c1⟩, h1⟩ : ∃ s, x 1 = s := ⟨_, rfl⟩
  obtain ⟨⟨a2, n2, c2⟩, h2⟩ : ∃ s, x 2 = s := ⟨_, rfl⟩
  obtain ⟨⟨a3, n3, c3⟩, h3⟩ : ∃ s, x 3 = s := ⟨_, rfl⟩
  unfold two2
  rw [h0, h1, h2, h3]
  have HX := Lib.hid (And.intro h0 (And.intro h1 (And.intro h2 h3)))
  dsimp only
  clear h hs h0 h1 h2 h3
  go_enter Tryd.func11, Tryd.ntmps11
  (try dsimp only [List.append])
  go_wp2_with fail
  obtain ⟨W1, hW1⟩ : ∃ W, W = (five w #[.int .i64 4, .int .i64 1, .int .i64 an, .int .i64 ax, .string ab] #[.slice a0 n0 c0, .slice a1 n1 c1] #[.slice a2 n2 c2, .slice a3 n3 c3] zz zz) := ⟨_, rfl⟩
  have HB := Lib.hid (five_b5 w #[.int .i64 4, .int .i64 1, .int .i64 an, .int .i64 ax, .string ab] #[.slice a0 n0 c0, .slice a1 n1 c1] #[.slice a2 n2 c2, .slice a3 n3 c3] zz zz)
  have H1 := Lib.hid (H.out.more (five_ext w #[.int .i64 4, .int .i64 1, .int .i64 an, .int .i64 ax, .string ab] #[.slice a0 n0 c0, .slice a1 n1 c1] #[.slice a2 n2 c2, .slice a3 n3 c3] zz zz))
  rw [← hW1] at HB H1
  try change Calls _ _ _ (five w #[.int .i64 4, .int .i64 1, .int .i64 an, .int .i64 ax, .string ab] #[.slice a0 n0 c0, .slice a1 n1 c1] #[.slice a2 n2 c2, .slice a3 n3 c3] zz zz) _
  rw [← hW1]
  refine (iLose H1.out.e 1 an).mono ?_
  rintro e w3 ⟨F3, rfl, nn, o, g⟩
  have HB3 := Lib.hid (HB.out.off o (fun i _ => HF.out i 0))
  have S3 := Lib.hid (H1.out.moves nn o g)
  have HN : Hid (∀ i j, i < 5 → ¬ upd F 0 F3 j (w.heap.size + i)) := Lib.hid (fun i j hi => nb_upd (HF.out i) (by have := HB.out.lt; omega) g j)
  clear nn o g hW1 HB H1
  dsimp only
  go_wp2_with fail
  (refine wp_region_X_lit (K := fun W => W.cell? ⟨w.heap.size + 1, 0, none⟩ = some (.slice a0 n0 c0) ∧ W.cell? ⟨w.heap.size + 1, 1, none⟩ = some (.slice a1 n1 c1) ∧ W.cell? ⟨w.heap.size + 2, 0, none⟩ = some (.slice a2 n2 c2) ∧ W.cell? ⟨w.heap.size + 2, 1, none⟩ = some (.slice a3 n3 c3)) (by kernel_rfl) (fun w1 hw1 => ?_))
  have hb3 := HB3.out.ext hw1
  have S4 := Lib.hid (S3.out.more hw1)
  have k3 : w1.cell? ⟨w.heap.size + 1, 0, none⟩ = some (.slice a0 n0 c0) ∧ w1.cell? ⟨w.heap.size + 1, 1, none⟩ = some (.slice a1 n1 c1) ∧ w1.cell? ⟨w.heap.size + 2, 0, none⟩ = some (.slice a2 n2 c2) ∧ w1.cell? ⟨w.heap.size + 2, 1, none⟩ = some (.slice a3 n3 c3) := ⟨(cells2t hb3.bw).1.1, (cells2t hb3.bw).1.2, (cells2t hb3.bs).1.1, (cells2t hb3.bs).1.2⟩
  obtain ⟨⟨z0, z1⟩, y0, y1⟩ := cells2t hb3.z1
  obtain ⟨⟨z2, z3⟩, y2, y3⟩ := cells2t hb3.z2
  clear hw1
  (refine xtakeV 0 (v := ?_) (by simp only [List.getElem?_toArray, List.getElem?_cons, reduceIte]; rfl) (by kernel_rfl) (by rfl) (fun w' hw' => ?_) ?_; rotate_left; focus (have hc := hw'.1; have hd := hw'.2.1; go_simp; first | done | with_reducible rfl)); (simp only [Act.put, List.setIfInBounds_toArray, List.set])
  (refine xtakeV 1 (v := ?_) (by simp only [List.getElem?_toArray, List.getElem?_cons, reduceIte]; rfl) (by kernel_rfl) (by rfl) (fun w' hw' => ?_) ?_; rotate_left; focus (have hc := hw'.2.2.1; have hd := hw'.2.2.2; go_simp; first | done | with_reducible rfl)); (simp only [Act.put, List.setIfInBounds_toArray, List.set])
  (refine xone 2 (by kernel_rfl) (k3) (RunX.of 2 (by simp only [List.getElem?_toArray, List.getElem?_cons, reduceIte]; rfl) (by rfl) ?_))
  go_simp
  (try (simp only [Act.put, List.setIfInBounds_toArray, List.set]))
  have hb4 := hb3.setz1 (.slice a0 n0 c0) (.slice a1 n1 c1)
  have k4 := And.intro (cells2t hb4.bw).1.1 (And.intro (cells2t hb4.bw).1.2 (cells2t hb4.bs).1)
  have S5 := Lib.hid (S4.out.box (off_set2 w1 (w.heap.size + 3) (.slice a0 n0 c0) (.slice a1 n1 c1)) (fun i k hk => by rw [hk]; exact HN.out 3 i (by decide)) (fun k hk => by rw [hk]; exact HK0.out _ (Nat.le_add_right _ _)) (fun k hk => by rw [hk]; have := HW0.out; omega))
  clear z0 z1 y0 y1 z2 z3 y2 y3 k3
  obtain ⟨⟨z2, z3⟩, y2, y3⟩ := cells2t hb4.z2
  simp only [set2] at z2 z3 y2 y3
  (refine xone 3 (by kernel_rfl) (k4) (RunX.of 3 (by simp only [List.getElem?_toArray, List.getElem?_cons, reduceIte]; rfl) (by rfl) ?_))
  go_simp
  (try (simp only [Act.put, List.setIfInBounds_toArray, List.set]))
  have hb5 := hb4.setz2 (.slice a2 n2 c2) (.slice a3 n3 c3)
  have k5 := And.intro (cells2t hb5.bw).1.1 (And.intro (cells2t hb5.bw).1.2 (cells2t hb5.bs).1)
  have S6 := Lib.hid (S5.out.box (off_set2 (set2 w1 (w.heap.size + 3) (.slice a0 n0 c0) (.slice a1 n1 c1)) (w.heap.size + 4) (.slice a2 n2 c2) (.slice a3 n3 c3)) (fun i k hk => by rw [hk]; exact HN.out 4 i (by decide)) (fun k hk => by rw [hk]; exact HK0.out _ (Nat.le_add_right _ _)) (fun k hk => by rw [hk]; have := HW0.out; omega))
  clear z2 z3 y2 y3 k4
  (refine xtakeV 4 (v := ?_) (by simp only [List.getElem?_toArray, List.getElem?_cons, reduceIte]; rfl) (by kernel_rfl) (by rfl) (fun w' hw' => ?_) ?_; rotate_left; focus (skip; go_simp; first | done | with_reducible rfl)); (simp only [Act.put, List.setIfInBounds_toArray, List.set])
  (refine xdone (by kernel_rfl) (k5) ?_)
  obtain ⟨⟨z0, z1⟩, _⟩ := cells2t hb5.z1
  obtain ⟨⟨z2, z3⟩, _⟩ := cells2t hb5.z2
  simp only [set2] at z0 z1 z2 z3
  clear k5 hb3 hb4 hb5
  go_wp2_with fail
  refine bodyPost_ret (v := .tuple #[.agg #[.slice a0 n0 c0, .slice a1 n1 c1], .agg #[.slice a2 n2 c2, .slice a3 n3 c3], .bool true]) (by simp [results, Tryd.results11, go_sem, z0, z1, z2, z3]) rfl ?_
  exact ⟨_, _, by rw [two2_of (i := 0) HX.out.1 HX.out.2.1, two2_of (i := 2) HX.out.2.2.1 HX.out.2.2.2], S6.out⟩

set_option maxRecDepth 50000 in
set_option maxHeartbeats 8000000 in
theorem iplay_double1 (w0 wB w : World) (Kp : Nat → Prop) (hs : Std w0) (p : Nat) (P : PipeS) (L : Nat → List ByteArray) (x : Nat → SV) (F : Nat → Nat → Prop) (h : Wt w0 wB Kp w p P x L F) (an ax : Int) (ab : ByteArray) :
    Calls Tryd.prog 11 #[.pointer (some ⟨p, 0, none⟩), .agg #[.int .i64 5, .int .i64 1, .int .i64 an, .int .i64 ax, .string ab], .agg (two2 x 0), .agg (two2 x 2)] w (PlayTo w0 wB Kp p (P.double 1 an) L true) := by
  have H := Lib.hid h
  have HST := Lib.hid hs
  have HF : Hid (∀ j i, ¬ F i (w.heap.size + j)) := Lib.hid (fun j i hk => by have := (h.low i _ hk).2; omega)
  have HW0 : Hid (w0.heap.size ≤ w.heap.size) := Lib.hid h.ext.size
  have HK0 : Hid (∀ k, w.heap.size ≤ k → ¬ Kp k) := Lib.hid (fun k h1 h2 => by have := (h.kp k h2).1; have := h.kb; omega)
  obtain ⟨⟨a0, n0, c0⟩, h0⟩ : ∃ s, x 0 = s := ⟨_, rfl⟩
  obtain ⟨⟨a1, n1, c1⟩, h1⟩ : ∃ s, x 1 = s := ⟨_, rfl⟩
  obtain ⟨⟨a2, n2, c2⟩, h2⟩ : ∃ s, x 2 = s := ⟨_, rfl⟩
  obtain ⟨⟨a3, n3, c3⟩, h3⟩ : ∃ s, x 3 = s := ⟨_, rfl⟩
  unfold two2
  rw [h0, h1, h2, h3]
  have HX := Lib.hid (And.intro h0 (And.intro h1 (And.intro h2 h3)))
  dsimp only
  clear h hs h0 h1 h2 h3
  go_enter Tryd.func11, Tryd.ntmps11
  (try dsimp only [List.append])
  go_wp2_with fail
  obtain ⟨W1, hW1⟩ : ∃ W, W = (five w #[.int .i64 5, .int .i64 1, .int .i64 an, .int .i64 ax, .string ab] #[.slice a0 n0 c0, .slice a1 n1 c1] #[.slice a2 n2 c2, .slice a3 n3 c3] zz zz) := ⟨_, rfl⟩
  have HB := Lib.hid (five_b5 w #[.int .i64 5, .int .i64 1, .int .i64 an, .int .i64 ax, .string ab] #[.slice a0 n0 c0, .slice a1 n1 c1] #[.slice a2 n2 c2, .slice a3 n3 c3] zz zz)
  have H1 := Lib.hid (H.out.more (five_ext w #[.int .i64 5, .int .i64 1, .int .i64 an, .int .i64 ax, .string ab] #[.slice a0 n0 c0, .slice a1 n1 c1] #[.slice a2 n2 c2, .slice a3 n3 c3] zz zz))
  rw [← hW1] at HB H1
  try change Calls _ _ _ (five w #[.int .i64 5, .int .i64 1, .int .i64 an, .int .i64 ax, .string ab] #[.slice a0 n0 c0, .slice a1 n1 c1] #[.slice a2 n2 c2, .slice a3 n3 c3] zz zz) _
  rw [← hW1]
  refine (iDouble H1.out.e 1 an).mono ?_
  rintro e w3 ⟨F3, rfl, nn, o, g⟩
  have HB3 := Lib.hid (HB.out.off o (fun i _ => HF.out i 0))
  have S3 := Lib.hid (H1.out.moves nn o g)
  have HN : Hid (∀ i j, i < 5 → ¬ upd F 0 F3 j (w.heap.size + i)) := Lib.hid (fun i j hi => nb_upd (HF.out i) (by have := HB.out.lt; omega) g j)
  clear nn o g hW1 HB H1
  dsimp only
  go_wp2_with fail
  (refine wp_region_X_lit (K := fun W => W.cell? ⟨w.heap.size + 1, 0, none⟩ = some (.slice a0 n0 c0) ∧ W.cell? ⟨w.heap.size + 1, 1, none⟩ = some (.slice a1 n1 c1) ∧ W.cell? ⟨w.heap.size + 2, 0, none⟩ = some (.slice a2 n2 c2) ∧ W.cell? ⟨w.heap.size + 2, 1, none⟩ = some (.slice a3 n3 c3)) (by kernel_rfl) (fun w1 hw1 => ?_))
  have hb3 := HB3.out.ext hw1
  have S4 := Lib.hid (S3.out.more hw1)
  have k3 : w1.cell? ⟨w.heap.size + 1, 0, none⟩ = some (.slice a0 n0 c0) ∧ w1.cell? ⟨w.heap.size + 1, 1, none⟩ = some (.slice a1 n1 c1) ∧ w1.cell? ⟨w.heap.size + 2, 0, none⟩ = some (.slice a2 n2 c2) ∧ w1.cell? ⟨w.heap.size + 2, 1, none⟩ = some (.slice a3 n3 c3) := ⟨(cells2t hb3.bw).1.1, (cells2t hb3.bw).1.2, (cells2t hb3.bs).1.1, (cells2t hb3.bs).1.2⟩
  obtain ⟨⟨z0, z1⟩, y0, y1⟩ := cells2t hb3.z1
  obtain ⟨⟨z2, z3⟩, y2, y3⟩ := cells2t hb3.z2
  clear hw1
  (refine xtakeV 0 (v := ?_) (by simp only [List.getElem?_toArray, List.getElem?_cons, reduceIte]; rfl) (by kernel_rfl) (by rfl) (fun w' hw' => ?_) ?_; rotate_left; focus (have hc := hw'.1; have hd := hw'.2.1; go_simp; first | done | with_reducible rfl)); (simp only [Act.put, List.setIfInBounds_toArray, List.set])
  (refine xtakeV 1 (v := ?_) (by simp only [List.getElem?_toArray, List.getElem?_cons, reduceIte]; rfl) (by kernel_rfl) (by rfl) (fun w' hw' => ?_) ?_; rotate_left; focus (have hc := hw'.2.2.1; have hd := hw'.2.2.2; go_simp; first | done | with_reducible rfl)); (simp only [Act.put, List.setIfInBounds_toArray, List.set])
  (refine xone 2 (by kernel_rfl) (k3) (RunX.of 2 (by simp only [List.getElem?_toArray, List.getElem?_cons, reduceIte]; rfl) (by rfl) ?_))
  go_simp
  (try (simp only [Act.put, List.setIfInBounds_toArray, List.set]))
  have hb4 := hb3.setz1 (.slice a0 n0 c0) (.slice a1 n1 c1)
  have k4 := And.intro (cells2t hb4.bw).1.1 (And.intro (cells2t hb4.bw).1.2 (cells2t hb4.bs).1)
  have S5 := Lib.hid (S4.out.box (off_set2 w1 (w.heap.size + 3) (.slice a0 n0 c0) (.slice a1 n1 c1)) (fun i k hk => by rw [hk]; exact HN.out 3 i (by decide)) (fun k hk => by rw [hk]; exact HK0.out _ (Nat.le_add_right _ _)) (fun k hk => by rw [hk]; have := HW0.out; omega))
  clear z0 z1 y0 y1 z2 z3 y2 y3 k3
  obtain ⟨⟨z2, z3⟩, y2, y3⟩ := cells2t hb4.z2
  simp only [set2] at z2 z3 y2 y3
  (refine xone 3 (by kernel_rfl) (k4) (RunX.of 3 (by simp only [List.getElem?_toArray, List.getElem?_cons, reduceIte]; rfl) (by rfl) ?_))
  go_simp
  (try (simp only [Act.put, List.setIfInBounds_toArray, List.set]))
  have hb5 := hb4.setz2 (.slice a2 n2 c2) (.slice a3 n3 c3)
  have k5 := And.intro (cells2t hb5.bw).1.1 (And.intro (cells2t hb5.bw).1.2 (cells2t hb5.bs).1)
  have S6 := Lib.hid (S5.out.box (off_set2 (set2 w1 (w.heap.size + 3) (.slice a0 n0 c0) (.slice a1 n1 c1)) (w.heap.size + 4) (.slice a2 n2 c2) (.slice a3 n3 c3)) (fun i k hk => by rw [hk]; exact HN.out 4 i (by decide)) (fun k hk => by rw [hk]; exact HK0.out _ (Nat.le_add_right _ _)) (fun k hk => by rw [hk]; have := HW0.out; omega))
  clear z2 z3 y2 y3 k4
  (refine xtakeV 4 (v := ?_) (by simp only [List.getElem?_toArray, List.getElem?_cons, reduceIte]; rfl) (by kernel_rfl) (by rfl) (fun w' hw' => ?_) ?_; rotate_left; focus (skip; go_simp; first | done | with_reducible rfl)); (simp only [Act.put, List.setIfInBounds_toArray, List.set])
  (refine xdone (by kernel_rfl) (k5) ?_)
  obtain ⟨⟨z0, z1⟩, _⟩ := cells2t hb5.z1
  obtain ⟨⟨z2, z3⟩, _⟩ := cells2t hb5.z2
  simp only [set2] at z0 z1 z2 z3
  clear k5 hb3 hb4 hb5
  go_wp2_with fail
  refine bodyPost_ret (v := .tuple #[.agg #[.slice a0 n0 c0, .slice a1 n1 c1], .agg #[.slice a2 n2 c2, .slice a3 n3 c3], .bool true]) (by simp [results, Tryd.results11, go_sem, z0, z1, z2, z3]) rfl ?_
  exact ⟨_, _, by rw [two2_of (i := 0) HX.out.1 HX.out.2.1, two2_of (i := 2) HX.out.2.2.1 HX.out.2.2.2], S6.out⟩

set_option maxRecDepth 50000 in
set_option maxHeartbeats 8000000 in
theorem iplay_flip1 (w0 wB w : World) (Kp : Nat → Prop) (hs : Std w0) (p : Nat) (P : PipeS) (L : Nat → List ByteArray) (x : Nat → SV) (F : Nat → Nat → Prop) (h : Wt w0 wB Kp w p P x L F) (an ax : Int) (ab : ByteArray) (ak : Int) (hk : ak ≠ 0 ∧ ak ≠ 1 ∧ ak ≠ 2 ∧ ak ≠ 3 ∧ ak ≠ 4 ∧ ak ≠ 5) (ha : -9223372036854775808 ≤ ax ∧ ax ≤ 9223372036854775807) :
    Calls Tryd.prog 11 #[.pointer (some ⟨p, 0, none⟩), .agg #[.int .i64 ak, .int .i64 1, .int .i64 an, .int .i64 ax, .string ab], .agg (two2 x 0), .agg (two2 x 2)] w (PlayTo w0 wB Kp p (P.flip 1 an ax) L true) := by
  have H := Lib.hid h
  have HST := Lib.hid hs
  have HF : Hid (∀ j i, ¬ F i (w.heap.size + j)) := Lib.hid (fun j i hk => by have := (h.low i _ hk).2; omega)
  have HW0 : Hid (w0.heap.size ≤ w.heap.size) := Lib.hid h.ext.size
  have HK0 : Hid (∀ k, w.heap.size ≤ k → ¬ Kp k) := Lib.hid (fun k h1 h2 => by have := (h.kp k h2).1; have := h.kb; omega)
  obtain ⟨⟨a0, n0, c0⟩, h0⟩ : ∃ s, x 0 = s := ⟨_, rfl⟩
  obtain ⟨⟨a1, n1, c1⟩, h1⟩ : ∃ s, x 1 = s := ⟨_, rfl⟩
  obtain ⟨⟨a2, n2, c2⟩, h2⟩ : ∃ s, x 2 = s := ⟨_, rfl⟩
  obtain ⟨⟨a3, n3, c3⟩, h3⟩ : ∃ s, x 3 = s := ⟨_, rfl⟩
  unfold two2
  rw [h0, h1, h2, h3]
  have HX := Lib.hid (And.intro h0 (And.intro h1 (And.intro h2 h3)))
  dsimp only
  clear h hs h0 h1 h2 h3
  obtain ⟨b0, b1, b2, b3, b4, b5⟩ := hk
  replace b0 : (ak == 0) = false := beq_eq_false_iff_ne.2 b0
  replace b1 : (ak == 1) = false := beq_eq_false_iff_ne.2 b1
  replace b2 : (ak == 2) = false := beq_eq_false_iff_ne.2 b2
  replace b3 : (ak == 3) = false := beq_eq_false_iff_ne.2 b3
  replace b4 : (ak == 4) = false := beq_eq_false_iff_ne.2 b4
  replace b5 : (ak == 5) = false := beq_eq_false_iff_ne.2 b5
  have HA := Lib.hid ha
  clear ha
  go_enter Tryd.func11, Tryd.ntmps11
  (try dsimp only [List.append])
  go_wp2_with fail
  obtain ⟨W1, hW1⟩ : ∃ W, W = (five w #[.int .i64 ak, .int .i64 1, .int .i64 an, .int .i64 ax, .string ab] #[.slice a0 n0 c0, .slice a1 n1 c1] #[.slice a2 n2 c2, .slice a3 n3 c3] zz zz) := ⟨_, rfl⟩
  have HB := Lib.hid (five_b5 w #[.int .i64 ak, .int .i64 1, .int .i64 an, .int .i64 ax, .string ab] #[.slice a0 n0 c0, .slice a1 n1 c1] #[.slice a2 n2 c2, .slice a3 n3 c3] zz zz)
  have H1 := Lib.hid (H.out.more (five_ext w #[.int .i64 ak, .int .i64 1, .int .i64 an, .int .i64 ax, .string ab] #[.slice a0 n0 c0, .slice a1 n1 c1] #[.slice a2 n2 c2, .slice a3 n3 c3] zz zz))
  rw [← hW1] at HB H1
  try change Calls _ _ _ (five w #[.int .i64 ak, .int .i64 1, .int .i64 an, .int .i64 ax, .string ab] #[.slice a0 n0 c0, .slice a1 n1 c1] #[.slice a2 n2 c2, .slice a3 n3 c3] zz zz) _
  rw [← hW1]
  refine (iFlip H1.out.e 1 an ax HA.out.1 HA.out.2).mono ?_
  rintro e w3 ⟨F3, rfl, nn, o, g⟩
  have HB3 := Lib.hid (HB.out.off o (fun i _ => HF.out i 0))
  have S3 := Lib.hid (H1.out.moves nn o g)
  have HN : Hid (∀ i j, i < 5 → ¬ upd F 0 F3 j (w.heap.size + i)) := Lib.hid (fun i j hi => nb_upd (HF.out i) (by have := HB.out.lt; omega) g j)
  clear nn o g hW1 HB H1
  dsimp only
  go_wp2_with fail
  (refine wp_region_X_lit (K := fun W => W.cell? ⟨w.heap.size + 1, 0, none⟩ = some (.slice a0 n0 c0) ∧ W.cell? ⟨w.heap.size + 1, 1, none⟩ = some (.slice a1 n1 c1) ∧ W.cell? ⟨w.heap.size + 2, 0, none⟩ = some (.slice a2 n2 c2) ∧ W.cell? ⟨w.heap.size + 2, 1, none⟩ = some (.slice a3 n3 c3)) (by kernel_rfl) (fun w1 hw1 => ?_))
  have hb3 := HB3.out.ext hw1
  have S4 := Lib.hid (S3.out.more hw1)
  have k3 : w1.cell? ⟨w.heap.size + 1, 0, none⟩ = some (.slice a0 n0 c0) ∧ w1.cell? ⟨w.heap.size + 1, 1, none⟩ = some (.slice a1 n1 c1) ∧ w1.cell? ⟨w.heap.size + 2, 0, none⟩ = some (.slice a2 n2 c2) ∧ w1.cell? ⟨w.heap.size + 2, 1, none⟩ = some (.slice a3 n3 c3) := ⟨(cells2t hb3.bw).1.1, (cells2t hb3.bw).1.2, (cells2t hb3.bs).1.1, (cells2t hb3.bs).1.2⟩
  obtain ⟨⟨z0, z1⟩, y0, y1⟩ := cells2t hb3.z1
  obtain ⟨⟨z2, z3⟩, y2, y3⟩ := cells2t hb3.z2
  clear hw1
  (refine xtakeV 0 (v := ?_) (by simp only [List.getElem?_toArray, List.getElem?_cons, reduceIte]; rfl) (by kernel_rfl) (by rfl) (fun w' hw' => ?_) ?_; rotate_left; focus (have hc := hw'.1; have hd := hw'.2.1; go_simp; first | done | with_reducible rfl)); (simp only [Act.put, List.setIfInBounds_toArray, List.set])
  (refine xtakeV 1 (v := ?_) (by simp only [List.getElem?_toArray, List.getElem?_cons, reduceIte]; rfl) (by kernel_rfl) (by rfl) (fun w' hw' => ?_) ?_; rotate_left; focus (have hc := hw'.2.2.1; have hd := hw'.2.2.2; go_simp; first | done | with_reducible rfl)); (simp only [Act.put, List.setIfInBounds_toArray, List.set])
  (refine xone 2 (by kernel_rfl) (k3) (RunX.of 2 (by simp only [List.getElem?_toArray, List.getElem?_cons, reduceIte]; rfl) (by rfl) ?_))
  go_simp
  (try (simp only [Act.put, List.setIfInBounds_toArray, List.set]))
  have hb4 := hb3.setz1 (.slice a0 n0 c0) (.slice a1 n1 c1)
  have k4 := And.intro (cells2t hb4.bw).1.1 (And.intro (cells2t hb4.bw).1.2 (cells2t hb4.bs).1)
  have S5 := Lib.hid (S4.out.box (off_set2 w1 (w.heap.size + 3) (.slice a0 n0 c0) (.slice a1 n1 c1)) (fun i k hk => by rw [hk]; exact HN.out 3 i (by decide)) (fun k hk => by rw [hk]; exact HK0.out _ (Nat.le_add_right _ _)) (fun k hk => by rw [hk]; have := HW0.out; omega))
  clear z0 z1 y0 y1 z2 z3 y2 y3 k3
  obtain ⟨⟨z2, z3⟩, y2, y3⟩ := cells2t hb4.z2
  simp only [set2] at z2 z3 y2 y3
  (refine xone 3 (by kernel_rfl) (k4) (RunX.of 3 (by simp only [List.getElem?_toArray, List.getElem?_cons, reduceIte]; rfl) (by rfl) ?_))
  go_simp
  (try (simp only [Act.put, List.setIfInBounds_toArray, List.set]))
  have hb5 := hb4.setz2 (.slice a2 n2 c2) (.slice a3 n3 c3)
  have k5 := And.intro (cells2t hb5.bw).1.1 (And.intro (cells2t hb5.bw).1.2 (cells2t hb5.bs).1)
  have S6 := Lib.hid (S5.out.box (off_set2 (set2 w1 (w.heap.size + 3) (.slice a0 n0 c0) (.slice a1 n1 c1)) (w.heap.size + 4) (.slice a2 n2 c2) (.slice a3 n3 c3)) (fun i k hk => by rw [hk]; exact HN.out 4 i (by decide)) (fun k hk => by rw [hk]; exact HK0.out _ (Nat.le_add_right _ _)) (fun k hk => by rw [hk]; have := HW0.out; omega))
  clear z2 z3 y2 y3 k4
  (refine xtakeV 4 (v := ?_) (by simp only [List.getElem?_toArray, List.getElem?_cons, reduceIte]; rfl) (by kernel_rfl) (by rfl) (fun w' hw' => ?_) ?_; rotate_left; focus (skip; go_simp; first | done | with_reducible rfl)); (simp only [Act.put, List.setIfInBounds_toArray, List.set])
  (refine xdone (by kernel_rfl) (k5) ?_)
  obtain ⟨⟨z0, z1⟩, _⟩ := cells2t hb5.z1
  obtain ⟨⟨z2, z3⟩, _⟩ := cells2t hb5.z2
  simp only [set2] at z0 z1 z2 z3
  clear k5 hb3 hb4 hb5
  go_wp2_with fail
  refine bodyPost_ret (v := .tuple #[.agg #[.slice a0 n0 c0, .slice a1 n1 c1], .agg #[.slice a2 n2 c2, .slice a3 n3 c3], .bool true]) (by simp [results, Tryd.results11, go_sem, z0, z1, z2, z3]) rfl ?_
  exact ⟨_, _, by rw [two2_of (i := 0) HX.out.1 HX.out.2.1, two2_of (i := 2) HX.out.2.2.1 HX.out.2.2.2], S6.out⟩
end Go.Proofs.YtcjoemkplghonaaDoor
