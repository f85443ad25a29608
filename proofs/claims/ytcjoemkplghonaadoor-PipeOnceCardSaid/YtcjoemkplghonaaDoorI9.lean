/- An act on a pipe: of no side; a body is sent. -/
import Derived.Test.YtcjoemkplghonaaDoorMR
import Derived.BigGuard
namespace Go.Proofs.YtcjoemkplghonaaDoor
open Go.RowKit

set_option linter.unusedVariables false

set_option maxRecDepth 50000 in
set_option maxHeartbeats 8000000 in
theorem iplay_out (w0 wB w : World) (Kp : Nat → Prop) (hs : Std w0) (p : Nat) (P : PipeS) (L : Nat → List ByteArray) (x : Nat → SV) (F : Nat → Nat → Prop) (h : Wt w0 wB Kp w p P x L F) (an ax : Int) (ab : ByteArray) (ak sd : Int) (h0 : sd ≠ 0) (h1 : sd ≠ 1) :
    Calls Tryd.prog 11 #[.pointer (some ⟨p, 0, none⟩), .agg #[.int .i64 ak, .int .i64 sd, .int .i64 an, .int .i64 ax, .string ab], .agg (two2 x 0), .agg (two2 x 2)] w (PlayTo w0 wB Kp p P L true) := by
  have H := Lib.hid h
  have HST := Lib.hid hs
  have HF : Hid (∀ j i, ¬ F i (w.heap.size + j)) := Lib.hid (fun j i hk => by have := (h.low i _ hk).2; omega)
  have HW0 : Hid (w0.heap.size ≤ w.heap.size) := Lib.hid h.ext.size
  have HK0 : Hid (∀ k, w.heap.size ≤ k → ¬ Kp k) := Lib.hid (fun k h1 h2 => by have := (h.kp k h2).1; have := h.kb; omega)
  obtain ⟨⟨a0, n0, c0⟩, h10⟩ : ∃ s, x 0 = s := ⟨_, rfl⟩
  obtain ⟨⟨a1, n1, c1⟩, h11⟩ : ∃ s, x 1 = s := ⟨_, rfl⟩
  obtain ⟨⟨a2, n2, c2⟩, h2⟩ : ∃ s, x 2 = s := ⟨_, rfl⟩
  obtain ⟨⟨a3, n3, c3⟩, h3⟩ : ∃ s, x 3 = s := ⟨_, rfl⟩
  unfold two2
  rw [h10, h11, h2, h3]
  have HX := Lib.hid (And.intro h10 (And.intro h11 (And.intro h2 h3)))
  dsimp only
  clear h hs h10 h11 h2 h3
  have b0 : (sd != 0) = true := by simpa using h0
  have b1 : (sd != 1) = true := by simpa using h1
  clear h0 h1
  go_enter Tryd.func11, Tryd.ntmps11
  (try dsimp only [List.append])
  go_wp2_with fail
  have HB3 := Lib.hid (five_b5 w #[.int .i64 ak, .int .i64 sd, .int .i64 an, .int .i64 ax, .string ab] #[.slice a0 n0 c0, .slice a1 n1 c1] #[.slice a2 n2 c2, .slice a3 n3 c3] zz zz)
  have S3 := Lib.hid (H.out.more (five_ext w #[.int .i64 ak, .int .i64 sd, .int .i64 an, .int .i64 ax, .string ab] #[.slice a0 n0 c0, .slice a1 n1 c1] #[.slice a2 n2 c2, .slice a3 n3 c3] zz zz))
  have HN : Hid (∀ i j, i < 5 → ¬ F j (w.heap.size + i)) := Lib.hid (fun i j _ => HF.out i j)
  (refine wp_region_X_lit (K := fun W => W.cell? ⟨w.heap.size + 1, 0, none⟩ = some (.slice a0 n0 c0) ∧ W.cell? ⟨w.heap.size + 1, 1, none⟩ = some (.slice a1 n1 c1) ∧ W.cell? ⟨w.heap.size + 2, 0, none⟩ = some (.slice a2 n2 c2) ∧ W.cell? ⟨w.heap.size + 2, 1, none⟩ = some (.slice a3 n3 c3)) (by kernel_rfl) (fun w1 hw1 => ?_))
  have hb3 := HB3.out.ext hw1
  have S4 := Lib.hid (S3.out.more hw1)
  have k3 : w1.cell? ⟨w.heap.size + 1, 0, none⟩ = some (.slice a0 n0 c0) ∧ w1.cell? ⟨w.heap.size + 1, 1, none⟩ = some (.slice a1 n1 c1) ∧ w1.cell? ⟨w.heap.size + 2, 0, none⟩ = some (.slice a2 n2 c2) ∧ w1.cell? ⟨w.heap.size + 2, 1, none⟩ = some (.slice a3 n3 c3) := ⟨(cells2t hb3.bw).1.1, (cells2t hb3.bw).1.2, (cells2t hb3.bs).1.1, (cells2t hb3.bs).1.2⟩
  obtain ⟨⟨z0, z1⟩, y0, y1⟩ := cells2t hb3.z1
  obtain ⟨⟨z2, z3⟩, y2, y3⟩ := cells2t hb3.z2
  clear hw1
  (refine xtakeV 0 (v := ?_) (by simp only [List.getElem?_toArray, List.getElem?_cons, reduceIte]; rfl) (by kernel_rfl) (by rfl) (fun w' hw' => ?_) ?_; rotate_left; focus (have hc := hw'.1; have hd := hw'.2.1; go_simp; first | done | with_reducible rfl)); (simp only [Act.put, List.setIfInBounds_toArray, List.set])
  (refine xtakeV 1 (v := ?_) (by simp only [List.getElem?_toArray, List.getElem?_cons, reduceIte]; rfl) (by kernel_rfl) (by rfl) (fun w' hw' => ?_) ?_; rotate_left; focus (have hc := hw'.2.2.1; have hd := hw'.2.2.2; go_simp; first | done | with_reducible rfl)); (simp only [Act.put, List.setIfInBounds_toArray, List.set])
  (refine xone 2 (by kernel_rfl) (k3) (RunX.of 2 (by simp only [List.getElem?_toArray, List.getElem?_cons, reduceIte]; rfl) (by rfl) ?_))
  go_simp
  (try (simp only [Act.put, List.setIfInBounds_toArray, List.set]))
  have hb4 := hb3.setz1 (.slice a0 n0 c0) (.slice a1 n1 c1)
  have k4 := And.intro (cells2t hb4.bw).1.1 (And.intro (cells2t hb4.bw).1.2 (cells2t hb4.bs).1)
  have S5 := Lib.hid (S4.out.box (off_set2 w1 (w.heap.size + 3) (.slice a0 n0 c0) (.slice a1 n1 c1)) (fun i k hk => by rw [hk]; exact HN.out 3 i (by decide)) (fun k hk => by rw [hk]; exact HK0.out _ (Nat.le_add_right _ _)) (fun k hk => by rw [hk]; have := HW0.out; omega))
  clear z0 z1 y0 y1 z2 z3 y2 y3 k3
  obtain ⟨⟨z2, z3⟩, y2, y3⟩ := cells2t hb4.z2
  simp only [set2] at z2 z3 y2 y3
  (refine xone 3 (by kernel_rfl) (k4) (RunX.of 3 (by simp only [List.getElem?_toArray, List.getElem?_cons, reduceIte]; rfl) (by rfl) ?_))
  go_simp
  (try (simp only [Act.put, List.setIfInBounds_toArray, List.set]))
  have hb5 := hb4.setz2 (.slice a2 n2 c2) (.slice a3 n3 c3)
  have k5 := And.intro (cells2t hb5.bw).1.1 (And.intro (cells2t hb5.bw).1.2 (cells2t hb5.bs).1)
  have S6 := Lib.hid (S5.out.box (off_set2 (set2 w1 (w.heap.size + 3) (.slice a0 n0 c0) (.slice a1 n1 c1)) (w.heap.size + 4) (.slice a2 n2 c2) (.slice a3 n3 c3)) (fun i k hk => by rw [hk]; exact HN.out 4 i (by decide)) (fun k hk => by rw [hk]; exact HK0.out _ (Nat.le_add_right _ _)) (fun k hk => by rw [hk]; have := HW0.out; omega))
  clear z2 z3 y2 y3 k4
  (refine xtakeV 4 (v := ?_) (by simp only [List.getElem?_toArray, List.getElem?_cons, reduceIte]; rfl) (by kernel_rfl) (by rfl) (fun w' hw' => ?_) ?_; rotate_left; focus (skip; go_simp; first | done | with_reducible rfl)); (simp only [Act.put, List.setIfInBounds_toArray, List.set])
  (refine xdone (by kernel_rfl) (k5) ?_)
  obtain ⟨⟨z0, z1⟩, _⟩ := cells2t hb5.z1
  obtain ⟨⟨z2, z3⟩, _⟩ := cells2t hb5.z2
  simp only [set2] at z0 z1 z2 z3
  clear k5 hb3 hb4 hb5
  go_wp2_with fail
  refine bodyPost_ret (v := .tuple #[.agg #[.slice a0 n0 c0, .slice a1 n1 c1], .agg #[.slice a2 n2 c2, .slice a3 n3 c3], .bool true]) (by simp [results, Tryd.results11, go_sem, z0, z1, z2, z3]) rfl ?_
  exact ⟨_, _, by rw [two2_of (i := 0) HX.out.1 HX.out.2.1, two2_of (i := 2) HX.out.2.2.1 HX.out.2.2.2], S6.out⟩

set_option maxRecDepth 50000 in
set_option maxHeartbeats 8000000 in
theorem iplay_full0 (w0 wB w : World) (Kp : Nat → Prop) (hs : Std w0) (p : Nat) (P : PipeS) (L : Nat → List ByteArray) (x : Nat → SV) (F : Nat → Nat → Prop) (h : Wt w0 wB Kp w p P x L F) (an ax : Int) (ab : ByteArray) (hb : ab.size ≤ 1000) (hE : P.sendE 0 ab ≠ 0) :
    Calls Tryd.prog 11 #[.pointer (some ⟨p, 0, none⟩), .agg #[.int .i64 0, .int .i64 0, .int .i64 an, .int .i64 ax, .string ab], .agg (two2 x 0), .agg (two2 x 2)] w (PlayTo w0 wB Kp p (P.send 0 ab) L true) := by
  have H := Lib.hid h
  have HST := Lib.hid hs
  have HF : Hid (∀ j i, ¬ F i (w.heap.size + j)) := Lib.hid (fun j i hk => by have := (h.low i _ hk).2; omega)
  have HW0 : Hid (w0.heap.size ≤ w.heap.size) := Lib.hid h.ext.size
  have HK0 : Hid (∀ k, w.heap.size ≤ k → ¬ Kp k) := Lib.hid (fun k h1 h2 => by have := (h.kp k h2).1; have := h.kb; omega)
  obtain ⟨⟨a0, n0, c0⟩, h0⟩ : ∃ s, x 0 = s := ⟨_, rfl⟩
  obtain ⟨⟨a1, n1, c1⟩, h1⟩ : ∃ s, x 1 = s := ⟨_, rfl⟩
  obtain ⟨⟨a2, n2, c2⟩, h2⟩ : ∃ s, x 2 = s := ⟨_, rfl⟩
  obtain ⟨⟨a3, n3, c3⟩, h3⟩ : ∃ s, x 3 = s := ⟨_, rfl⟩
  unfold two2
  rw [h0, h1, h2, h3]
  have HX := Lib.hid (And.intro h0 (And.intro h1 (And.intro h2 h3)))
  dsimp only
  clear h hs h0 h1 h2 h3
  have hE2 : (((P.sendE 0 ab : Nat) : Int) == 0) = false := by simpa using hE
  have HE := Lib.hid hE
  have HBB := Lib.hid hb
  clear hE hb
  go_enter Tryd.func11, Tryd.ntmps11
  (try dsimp only [List.append])
  go_wp2_with fail
  obtain ⟨W1, hW1⟩ : ∃ W, W = (five w #[.int .i64 0, .int .i64 0, .int .i64 an, .int .i64 ax, .string ab] #[.slice a0 n0 c0, .slice a1 n1 c1] #[.slice a2 n2 c2, .slice a3 n3 c3] zz zz) := ⟨_, rfl⟩
  have HB := Lib.hid (five_b5 w #[.int .i64 0, .int .i64 0, .int .i64 an, .int .i64 ax, .string ab] #[.slice a0 n0 c0, .slice a1 n1 c1] #[.slice a2 n2 c2, .slice a3 n3 c3] zz zz)
  have H1 := Lib.hid (H.out.more (five_ext w #[.int .i64 0, .int .i64 0, .int .i64 an, .int .i64 ax, .string ab] #[.slice a0 n0 c0, .slice a1 n1 c1] #[.slice a2 n2 c2, .slice a3 n3 c3] zz zz))
  rw [← hW1] at HB H1
  try change Calls _ _ _ (five w #[.int .i64 0, .int .i64 0, .int .i64 an, .int .i64 ax, .string ab] #[.slice a0 n0 c0, .slice a1 n1 c1] #[.slice a2 n2 c2, .slice a3 n3 c3] zz zz) _
  rw [← hW1]
  refine (iSend H1.out.e 0 ab HBB.out).mono ?_
  rintro e w3 ⟨F3, rfl, nn, o, g⟩
  have HB3 := Lib.hid (HB.out.off o (fun i _ => HF.out i 0))
  have S3 := Lib.hid (H1.out.moves nn o g)
  have HN : Hid (∀ i j, i < 5 → ¬ upd F 0 F3 j (w.heap.size + i)) := Lib.hid (fun i j hi => nb_upd (HF.out i) (by have := HB.out.lt; omega) g j)
  clear nn o g hW1 HB H1
  dsimp only
  go_wp2_with fail
  (refine wp_region_X_lit (K := fun W => W.cell? ⟨w.heap.size + 1, 0, none⟩ = some (.slice a0 n0 c0) ∧ W.cell? ⟨w.heap.size + 1, 1, none⟩ = some (.slice a1 n1 c1) ∧ W.cell? ⟨w.heap.size + 2, 0, none⟩ = some (.slice a2 n2 c2) ∧ W.cell? ⟨w.heap.size + 2, 1, none⟩ = some (.slice a3 n3 c3)) (by kernel_rfl) (fun w1 hw1 => ?_))
  have hb3 := HB3.out.ext hw1
  have S4 := Lib.hid (S3.out.more hw1)
  have k3 : w1.cell? ⟨w.heap.size + 1, 0, none⟩ = some (.slice a0 n0 c0) ∧ w1.cell? ⟨w.heap.size + 1, 1, none⟩ = some (.slice a1 n1 c1) ∧ w1.cell? ⟨w.heap.size + 2, 0, none⟩ = some (.slice a2 n2 c2) ∧ w1.cell? ⟨w.heap.size + 2, 1, none⟩ = some (.slice a3 n3 c3) := ⟨(cells2t hb3.bw).1.1, (cells2t hb3.bw).1.2, (cells2t hb3.bs).1.1, (cells2t hb3.bs).1.2⟩
  obtain ⟨⟨z0, z1⟩, y0, y1⟩ := cells2t hb3.z1
  obtain ⟨⟨z2, z3⟩, y2, y3⟩ := cells2t hb3.z2
  clear hw1
  (refine xtakeV 0 (v := ?_) (by simp only [List.getElem?_toArray, List.getElem?_cons, reduceIte]; rfl) (by kernel_rfl) (by rfl) (fun w' hw' => ?_) ?_; rotate_left; focus (have hc := hw'.1; have hd := hw'.2.1; go_simp; first | done | with_reducible rfl)); (simp only [Act.put, List.setIfInBounds_toArray, List.set])
  (refine xtakeV 1 (v := ?_) (by simp only [List.getElem?_toArray, List.getElem?_cons, reduceIte]; rfl) (by kernel_rfl) (by rfl) (fun w' hw' => ?_) ?_; rotate_left; focus (have hc := hw'.2.2.1; have hd := hw'.2.2.2; go_simp; first | done | with_reducible rfl)); (simp only [Act.put, List.setIfInBounds_toArray, List.set])
  (refine xone 2 (by kernel_rfl) (k3) (RunX.of 2 (by simp only [List.getElem?_toArray, List.getElem?_cons, reduceIte]; rfl) (by rfl) ?_))
  go_simp
  (try (simp only [Act.put, List.setIfInBounds_toArray, List.set]))
  have hb4 := hb3.setz1 (.slice a0 n0 c0) (.slice a1 n1 c1)
  have k4 := And.intro (cells2t hb4.bw).1.1 (And.intro (cells2t hb4.bw).1.2 (cells2t hb4.bs).1)
  have S5 := Lib.hid (S4.out.box (off_set2 w1 (w.heap.size + 3) (.slice a0 n0 c0) (.slice a1 n1 c1)) (fun i k hk => by rw [hk]; exact HN.out 3 i (by decide)) (fun k hk => by rw [hk]; exact HK0.out _ (Nat.le_add_right _ _)) (fun k hk => by rw [hk]; have := HW0.out; omega))
  clear z0 z1 y0 y1 z2 z3 y2 y3 k3
  obtain ⟨⟨z2, z3⟩, y2, y3⟩ := cells2t hb4.z2
  simp only [set2] at z2 z3 y2 y3
  (refine xone 3 (by kernel_rfl) (k4) (RunX.of 3 (by simp only [List.getElem?_toArray, List.getElem?_cons, reduceIte]; rfl) (by rfl) ?_))
  go_simp
  (try (simp only [Act.put, List.setIfInBounds_toArray, List.set]))
  have hb5 := hb4.setz2 (.slice a2 n2 c2) (.slice a3 n3 c3)
  have k5 := And.intro (cells2t hb5.bw).1.1 (And.intro (cells2t hb5.bw).1.2 (cells2t hb5.bs).1)
  have S6 := Lib.hid (S5.out.box (off_set2 (set2 w1 (w.heap.size + 3) (.slice a0 n0 c0) (.slice a1 n1 c1)) (w.heap.size + 4) (.slice a2 n2 c2) (.slice a3 n3 c3)) (fun i k hk => by rw [hk]; exact HN.out 4 i (by decide)) (fun k hk => by rw [hk]; exact HK0.out _ (Nat.le_add_right _ _)) (fun k hk => by rw [hk]; have := HW0.out; omega))
  clear z2 z3 y2 y3 k4
  (refine xtakeV 4 (v := ?_) (by simp only [List.getElem?_toArray, List.getElem?_cons, reduceIte]; rfl) (by kernel_rfl) (by rfl) (fun w' hw' => ?_) ?_; rotate_left; focus (skip; go_simp; first | done | with_reducible rfl)); (simp only [Act.put, List.setIfInBounds_toArray, List.set])
  (refine xdone (by kernel_rfl) (k5) ?_)
  obtain ⟨⟨z0, z1⟩, _⟩ := cells2t hb5.z1
  obtain ⟨⟨z2, z3⟩, _⟩ := cells2t hb5.z2
  simp only [set2] at z0 z1 z2 z3
  clear k5 hb3 hb4 hb5
  go_wp2_with fail
  refine bodyPost_ret (v := .tuple #[.agg #[.slice a0 n0 c0, .slice a1 n1 c1], .agg #[.slice a2 n2 c2, .slice a3 n3 c3], .bool true]) (by simp [results, Tryd.results11, go_sem, z0, z1, z2, z3]) rfl ?_
  exact ⟨_, _, by rw [two2_of (i := 0) HX.out.1 HX.out.2.1, two2_of (i := 2) HX.out.2.2.1 HX.out.2.2.2], S6.out⟩

set_option maxRecDepth 50000 in
set_option maxHeartbeats 8000000 in
theorem iplay_sent0 (w0 wB w : World) (Kp : Nat → Prop) (hs : Std w0) (p : Nat) (P : PipeS) (L : Nat → List ByteArray) (x : Nat → SV) (F : Nat → Nat → Prop) (h : Wt w0 wB Kp w p P x L F) (an ax : Int) (ab : ByteArray) (hb : ab.size ≤ 1000) (hE : P.sendE 0 ab = 0) (hL : ∀ i, i < 4 → (L i).length ≤ 100000) :
    Calls Tryd.prog 11 #[.pointer (some ⟨p, 0, none⟩), .agg #[.int .i64 0, .int .i64 0, .int .i64 an, .int .i64 ax, .string ab], .agg (two2 x 0), .agg (two2 x 2)] w (PlayTo w0 wB Kp p (P.send 0 ab) (updA L 2 (L 2 ++ [ab])) true) := by
  have H := Lib.hid h
  have HST := Lib.hid hs
  have HF : Hid (∀ j i, ¬ F i (w.heap.size + j)) := Lib.hid (fun j i hk => by have := (h.low i _ hk).2; omega)
  have HW0 : Hid (w0.heap.size ≤ w.heap.size) := Lib.hid h.ext.size
  have HK0 : Hid (∀ k, w.heap.size ≤ k → ¬ Kp k) := Lib.hid (fun k h1 h2 => by have := (h.kp k h2).1; have := h.kb; omega)
  obtain ⟨⟨a0, n0, c0⟩, h0⟩ : ∃ s, x 0 = s := ⟨_, rfl⟩
  obtain ⟨⟨a1, n1, c1⟩, h1⟩ : ∃ s, x 1 = s := ⟨_, rfl⟩
  obtain ⟨⟨a2, n2, c2⟩, h2⟩ : ∃ s, x 2 = s := ⟨_, rfl⟩
  obtain ⟨⟨a3, n3, c3⟩, h3⟩ : ∃ s, x 3 = s := ⟨_, rfl⟩
  unfold two2
  rw [h0, h1, h2, h3]
  have HX := Lib.hid (And.intro h0 (And.intro h1 (And.intro h2 h3)))
  dsimp only
  clear h hs h0 h1 h2 h3
  have HE := Lib.hid hE
  have HBB := Lib.hid hb
  have hl := hL 2 (by decide)
  clear hE hb hL
  go_enter Tryd.func11, Tryd.ntmps11
  (try dsimp only [List.append])
  go_wp2_with fail
  obtain ⟨W1, hW1⟩ : ∃ W, W = (five w #[.int .i64 0, .int .i64 0, .int .i64 an, .int .i64 ax, .string ab] #[.slice a0 n0 c0, .slice a1 n1 c1] #[.slice a2 n2 c2, .slice a3 n3 c3] zz zz) := ⟨_, rfl⟩
  have HB := Lib.hid (five_b5 w #[.int .i64 0, .int .i64 0, .int .i64 an, .int .i64 ax, .string ab] #[.slice a0 n0 c0, .slice a1 n1 c1] #[.slice a2 n2 c2, .slice a3 n3 c3] zz zz)
  have H1 := Lib.hid (H.out.more (five_ext w #[.int .i64 0, .int .i64 0, .int .i64 an, .int .i64 ax, .string ab] #[.slice a0 n0 c0, .slice a1 n1 c1] #[.slice a2 n2 c2, .slice a3 n3 c3] zz zz))
  rw [← hW1] at HB H1
  try change Calls _ _ _ (five w #[.int .i64 0, .int .i64 0, .int .i64 an, .int .i64 ax, .string ab] #[.slice a0 n0 c0, .slice a1 n1 c1] #[.slice a2 n2 c2, .slice a3 n3 c3] zz zz) _
  rw [← hW1]
  have cS := iSend H1.out.e 0 ab HBB.out
  rw [HE.out] at cS
  refine (cS).mono ?_
  rintro e w3 ⟨F3, rfl, nn, o, g⟩
  have HB3 := Lib.hid (HB.out.off o (fun i _ => HF.out i 0))
  have S3 := Lib.hid (H1.out.moves nn o g)
  have HN : Hid (∀ i j, i < 5 → ¬ upd F 0 F3 j (w.heap.size + i)) := Lib.hid (fun i j hi => nb_upd (HF.out i) (by have := HB.out.lt; omega) g j)
  clear cS nn o g hW1 HB H1
  dsimp only
  go_wp2_with fail
  (refine wp_region_X_lit (K := fun W => W.cell? ⟨w.heap.size, 1, none⟩ = some (.int .i64 0) ∧ W.cell? ⟨w.heap.size, 4, none⟩ = some (.string ab)) (by kernel_rfl) (fun w1 hw1 => ?_))
  have hb4 := HB3.out.ext hw1
  have S4 := Lib.hid (S3.out.more hw1)
  have k4 := And.intro (cells5t hb4.ba).2.1 (cells5t hb4.ba).2.2.2.2
  clear hw1
  have HB4 := Lib.hid hb4
  obtain ⟨⟨d0, d1⟩, _⟩ := cells2t hb4.bs
  have OWN := Lib.hid (S4.out.own (i := 2) (by decide) HX.out.2.2.1)
  (refine xtakeV 0 (v := ?_) (by simp only [List.getElem?_toArray, List.getElem?_cons, reduceIte]; rfl) (by kernel_rfl) (by rfl) (fun w' hw' => ?_) ?_; rotate_left; focus (skip; go_simp; first | done | with_reducible rfl)); (simp only [Act.put, List.setIfInBounds_toArray, List.set])
  (refine xtakeV 1 (v := ?_) (by simp only [List.getElem?_toArray, List.getElem?_cons, reduceIte]; rfl) (by kernel_rfl) (by rfl) (fun w' hw' => ?_) ?_; rotate_left; focus (have hc := hw'.1; go_simp; first | done | with_reducible rfl)); (simp only [Act.put, List.setIfInBounds_toArray, List.set])
  (refine xtakeV 2 (v := ?_) (by simp only [List.getElem?_toArray, List.getElem?_cons, reduceIte]; rfl) (by kernel_rfl) (by rfl) (fun w' hw' => ?_) ?_; rotate_left; focus (skip; go_simp; first | done | with_reducible rfl)); (simp only [Act.put, List.setIfInBounds_toArray, List.set])
  (refine xtakeV 3 (v := ?_) (by simp only [List.getElem?_toArray, List.getElem?_cons, reduceIte]; rfl) (by kernel_rfl) (by rfl) (fun w' hw' => ?_) ?_; rotate_left; focus (have hc := hw'.1; go_simp; first | done | with_reducible rfl)); (simp only [Act.put, List.setIfInBounds_toArray, List.set])
  (refine xtakeV 4 (v := ?_) (by simp only [List.getElem?_toArray, List.getElem?_cons, reduceIte]; rfl) (by kernel_rfl) (by rfl) (fun w' hw' => ?_) ?_; rotate_left; focus (skip; go_simp; first | done | with_reducible rfl)); (simp only [Act.put, List.setIfInBounds_toArray, List.set])
  (refine xtakeV 6 (v := ?_) (by simp only [List.getElem?_toArray, List.getElem?_cons, reduceIte]; rfl) (by kernel_rfl) (by rfl) (fun w' hw' => ?_) ?_; rotate_left; focus (skip; go_simp; first | done | with_reducible rfl)); (simp only [Act.put, List.setIfInBounds_toArray, List.set])
  (refine xtakeV 7 (v := ?_) (by simp only [List.getElem?_toArray, List.getElem?_cons, reduceIte]; rfl) (by kernel_rfl) (by rfl) (fun w' hw' => ?_) ?_; rotate_left; focus (have hc := hw'.2; go_simp; first | done | with_reducible rfl)); (simp only [Act.put, List.setIfInBounds_toArray, List.set])
  (refine xtwo 5 8 (by kernel_rfl) (k4) (RunX.of 5 (by simp only [List.getElem?_toArray, List.getElem?_cons, reduceIte]; rfl) (by rfl) ?_) (RunX.of 8 (by simp only [List.getElem?_toArray, List.getElem?_cons, reduceIte]; rfl) (by rfl) ?_))
  · go_simp
    (try (simp only [Act.put, List.setIfInBounds_toArray, List.set]))
    (refine xone 8 (by kernel_rfl) (k4) (RunX.of 8 (by simp only [List.getElem?_toArray, List.getElem?_cons, reduceIte]; rfl) (by rfl) ?_))
    go_simp
    (try (simp only [Act.put, List.setIfInBounds_toArray, List.set]))
    have hb5 := hb4.ext ((Ext.refl w1).alloc (.cells #[.string ab] 9))
    have k5 := And.intro (cells5t hb5.ba).2.1 (cells5t hb5.ba).2.2.2.2
    have HB5 := Lib.hid hb5
    clear hb5 hb4
    (refine xone 9 (by kernel_rfl) (k5) (RunX.of 9 (by simp only [List.getElem?_toArray, List.getElem?_cons, reduceIte]; rfl) (by rfl) ?_))
    (refine wp_append_sl (α := ByteArray) (.tmp 58) (.tmp 61) rfl w0.heap.size (.slice a2 n2 c2) (L 2) rfl ?_ (.slice (some ⟨w1.heap.size, 0, none⟩) 1 1) [ab] rfl ?_ ?_ ?_ ?_; exact (OWN.out.1.alloc _); exact (Sl.litAt w1 _ rfl [ab] (show (1 : Nat) ≤ 1000000 by decide)); (first | omega | (simp; omega)); (have := S4.out.ext.size; rw [size_alloc]; omega); intro v2 W2 ho2 ha2; have S5 := Lib.hid (S4.out.more ((Ext.refl w1).alloc (.cells #[.string ab] 9))))
    obtain ⟨ya, yn, yc, rfl⟩ := ho2.sh
    have h6 := HB5.out.off (off_apd (x := ⟨a2, n2, c2⟩) (G := upd F 0 F3 3) ha2 (fun b hb => OWN.out.2 b hb)) (fun i hi => HN.out i 3 hi)
    have S6 := Lib.hid (S5.out.put' (i := 2) (by decide) (y := ⟨ya, yn, yc⟩) HX.out.2.2.1 ho2 ha2)
    have HG6 := Lib.hid (grows_apd (x := ⟨a2, n2, c2⟩) (y := ⟨ya, yn, yc⟩) (G := upd F 0 F3 3) ha2 (fun b hb => OWN.out.2 b hb))
    have k6 := And.intro (cells5t h6.ba).2.1 (cells5t h6.ba).2.2.2.2
    obtain ⟨⟨x0, x1⟩, y0, y1⟩ := cells2t h6.bs
    clear ho2 ha2
    (try (simp only [Act.put, List.setIfInBounds_toArray, List.set]))
    (refine xone 10 (by kernel_rfl) (k6) (RunX.of 10 (by simp only [List.getElem?_toArray, List.getElem?_cons, reduceIte]; rfl) (by rfl) ?_))
    go_simp
    (try (simp only [Act.put, List.setIfInBounds_toArray, List.set]))
    (refine xone 11 (by kernel_rfl) (k6) (RunX.of 11 (by simp only [List.getElem?_toArray, List.getElem?_cons, reduceIte]; rfl) (by rfl) ?_))
    go_simp
    (try (simp only [Act.put, List.setIfInBounds_toArray, List.set]))
    have h7 := h6.sets 0 (.slice ya yn yc)
    simp only [List.setIfInBounds_toArray, List.set_cons_zero] at h7
    have k7 := And.intro (cells5t h7.ba).2.1 (cells5t h7.ba).2.2.2.2
    (refine xdone (by kernel_rfl) (k7) ?_)
    have HN6 : Hid (∀ i j, i < 5 → ¬ upd (upd F 0 F3) 3 (ob ⟨ya, yn, yc⟩) j (w.heap.size + i)) := Lib.hid (fun i j hi => nb_upd (fun j => HN.out i j hi) (by rw [size_alloc]; have := HB4.out.lt; omega) HG6.out j)
    have S7 := Lib.hid (S6.out.box (off_set W2 ⟨w.heap.size + 2, 0, none⟩ (.slice ya yn yc)) (fun i k hk => by rw [hk]; exact HN6.out 2 i (by decide)) (fun k hk => by rw [hk]; exact HK0.out _ (Nat.le_add_right _ _)) (fun k hk => by rw [hk]; show w0.heap.size ≤ w.heap.size + 2; have := HW0.out; omega))
    have HB7 := Lib.hid h7
    clear h6 h7 k5 k6 k7 x0 x1 y0 y1 d0 d1 k4 HB5 S4 S5 S6 HG6 OWN HB3 S3 HN
    have HB3 := HB7
    have S3 := S7
    have HN := HN6
    have HX2 : Hid (updA x 2 ⟨ya, yn, yc⟩ 0 = ⟨a0, n0, c0⟩ ∧ updA x 2 ⟨ya, yn, yc⟩ 1 = ⟨a1, n1, c1⟩ ∧ updA x 2 ⟨ya, yn, yc⟩ 2 = ⟨ya, yn, yc⟩ ∧ updA x 2 ⟨ya, yn, yc⟩ 3 = ⟨a3, n3, c3⟩) := Lib.hid ⟨HX.out.1, HX.out.2.1, rfl, HX.out.2.2.2⟩
    clear HB7 S7 HN6
    go_wp2_with fail
    (refine wp_region_X_lit (K := fun W => W.cell? ⟨w.heap.size + 1, 0, none⟩ = some (.slice a0 n0 c0) ∧ W.cell? ⟨w.heap.size + 1, 1, none⟩ = some (.slice a1 n1 c1) ∧ W.cell? ⟨w.heap.size + 2, 0, none⟩ = some (.slice ya yn yc) ∧ W.cell? ⟨w.heap.size + 2, 1, none⟩ = some (.slice a3 n3 c3)) (by kernel_rfl) (fun w1 hw1 => ?_))
    have hb3 := HB3.out.ext hw1
    have S4 := Lib.hid (S3.out.more hw1)
    have k3 : w1.cell? ⟨w.heap.size + 1, 0, none⟩ = some (.slice a0 n0 c0) ∧ w1.cell? ⟨w.heap.size + 1, 1, none⟩ = some (.slice a1 n1 c1) ∧ w1.cell? ⟨w.heap.size + 2, 0, none⟩ = some (.slice ya yn yc) ∧ w1.cell? ⟨w.heap.size + 2, 1, none⟩ = some (.slice a3 n3 c3) := ⟨(cells2t hb3.bw).1.1, (cells2t hb3.bw).1.2, (cells2t hb3.bs).1.1, (cells2t hb3.bs).1.2⟩
    obtain ⟨⟨z0, z1⟩, y0, y1⟩ := cells2t hb3.z1
    obtain ⟨⟨z2, z3⟩, y2, y3⟩ := cells2t hb3.z2
    clear hw1
    (refine xtakeV 0 (v := ?_) (by simp only [List.getElem?_toArray, List.getElem?_cons, reduceIte]; rfl) (by kernel_rfl) (by rfl) (fun w' hw' => ?_) ?_; rotate_left; focus (have hc := hw'.1; have hd := hw'.2.1; go_simp; first | done | with_reducible rfl)); (simp only [Act.put, List.setIfInBounds_toArray, List.set])
    (refine xtakeV 1 (v := ?_) (by simp only [List.getElem?_toArray, List.getElem?_cons, reduceIte]; rfl) (by kernel_rfl) (by rfl) (fun w' hw' => ?_) ?_; rotate_left; focus (have hc := hw'.2.2.1; have hd := hw'.2.2.2; go_simp; first | done | with_reducible rfl)); (simp only [Act.put, List.setIfInBounds_toArray, List.set])
    (refine xone 2 (by kernel_rfl) (k3) (RunX.of 2 (by simp only [List.getElem?_toArray, List.getElem?_cons, reduceIte]; rfl) (by rfl) ?_))
    go_simp
    (try (simp only [Act.put, List.setIfInBounds_toArray, List.set]))
    have hb4 := hb3.setz1 (.slice a0 n0 c0) (.slice a1 n1 c1)
    have k4 := And.intro (cells2t hb4.bw).1.1 (And.intro (cells2t hb4.bw).1.2 (cells2t hb4.bs).1)
    have S5 := Lib.hid (S4.out.box (off_set2 w1 (w.heap.size + 3) (.slice a0 n0 c0) (.slice a1 n1 c1)) (fun i k hk => by rw [hk]; exact HN.out 3 i (by decide)) (fun k hk => by rw [hk]; exact HK0.out _ (Nat.le_add_right _ _)) (fun k hk => by rw [hk]; have := HW0.out; omega))
    clear z0 z1 y0 y1 z2 z3 y2 y3 k3
    obtain ⟨⟨z2, z3⟩, y2, y3⟩ := cells2t hb4.z2
    simp only [set2] at z2 z3 y2 y3
    (refine xone 3 (by kernel_rfl) (k4) (RunX.of 3 (by simp only [List.getElem?_toArray, List.getElem?_cons, reduceIte]; rfl) (by rfl) ?_))
    go_simp
    (try (simp only [Act.put, List.setIfInBounds_toArray, List.set]))
    have hb5 := hb4.setz2 (.slice ya yn yc) (.slice a3 n3 c3)
    have k5 := And.intro (cells2t hb5.bw).1.1 (And.intro (cells2t hb5.bw).1.2 (cells2t hb5.bs).1)
    have S6 := Lib.hid (S5.out.box (off_set2 (set2 w1 (w.heap.size + 3) (.slice a0 n0 c0) (.slice a1 n1 c1)) (w.heap.size + 4) (.slice ya yn yc) (.slice a3 n3 c3)) (fun i k hk => by rw [hk]; exact HN.out 4 i (by decide)) (fun k hk => by rw [hk]; exact HK0.out _ (Nat.le_add_right _ _)) (fun k hk => by rw [hk]; have := HW0.out; omega))
    clear z2 z3 y2 y3 k4
    (refine xtakeV 4 (v := ?_) (by simp only [List.getElem?_toArray, List.getElem?_cons, reduceIte]; rfl) (by kernel_rfl) (by rfl) (fun w' hw' => ?_) ?_; rotate_left; focus (skip; go_simp; first | done | with_reducible rfl)); (simp only [Act.put, List.setIfInBounds_toArray, List.set])
    (refine xdone (by kernel_rfl) (k5) ?_)
    obtain ⟨⟨z0, z1⟩, _⟩ := cells2t hb5.z1
    obtain ⟨⟨z2, z3⟩, _⟩ := cells2t hb5.z2
    simp only [set2] at z0 z1 z2 z3
    clear k5 hb3 hb4 hb5
    go_wp2_with fail
    refine bodyPost_ret (v := .tuple #[.agg #[.slice a0 n0 c0, .slice a1 n1 c1], .agg #[.slice ya yn yc, .slice a3 n3 c3], .bool true]) (by simp [results, Tryd.results11, go_sem, z0, z1, z2, z3]) rfl ?_
    exact ⟨_, _, by rw [two2_of (i := 0) HX2.out.1 HX2.out.2.1, two2_of (i := 2) HX2.out.2.2.1 HX2.out.2.2.2], S6.out⟩
  · go_simp
    (try (simp only [Act.put, List.setIfInBounds_toArray, List.set]))
    have hb5 := hb4.ext ((Ext.refl w1).alloc (.cells #[.string ab] 9))
    have k5 := And.intro (cells5t hb5.ba).2.1 (cells5t hb5.ba).2.2.2.2
    obtain ⟨⟨f0, f1⟩, _⟩ := cells2t hb5.bs
    have HB5 := Lib.hid hb5
    clear hb5 hb4
    (refine xone 5 (by kernel_rfl) (k5) (RunX.of 5 (by simp only [List.getElem?_toArray, List.getElem?_cons, reduceIte]; rfl) (by rfl) ?_))
    go_simp
    (try (simp only [Act.put, List.setIfInBounds_toArray, List.set]))
    clear f0 f1
    (refine xone 9 (by kernel_rfl) (k5) (RunX.of 9 (by simp only [List.getElem?_toArray, List.getElem?_cons, reduceIte]; rfl) (by rfl) ?_))
    (refine wp_append_sl (α := ByteArray) (.tmp 58) (.tmp 61) rfl w0.heap.size (.slice a2 n2 c2) (L 2) rfl ?_ (.slice (some ⟨w1.heap.size, 0, none⟩) 1 1) [ab] rfl ?_ ?_ ?_ ?_; exact (OWN.out.1.alloc _); exact (Sl.litAt w1 _ rfl [ab] (show (1 : Nat) ≤ 1000000 by decide)); (first | omega | (simp; omega)); (have := S4.out.ext.size; rw [size_alloc]; omega); intro v2 W2 ho2 ha2; have S5 := Lib.hid (S4.out.more ((Ext.refl w1).alloc (.cells #[.string ab] 9))))
    obtain ⟨ya, yn, yc, rfl⟩ := ho2.sh
    have h6 := HB5.out.off (off_apd (x := ⟨a2, n2, c2⟩) (G := upd F 0 F3 3) ha2 (fun b hb => OWN.out.2 b hb)) (fun i hi => HN.out i 3 hi)
    have S6 := Lib.hid (S5.out.put' (i := 2) (by decide) (y := ⟨ya, yn, yc⟩) HX.out.2.2.1 ho2 ha2)
    have HG6 := Lib.hid (grows_apd (x := ⟨a2, n2, c2⟩) (y := ⟨ya, yn, yc⟩) (G := upd F 0 F3 3) ha2 (fun b hb => OWN.out.2 b hb))
    have k6 := And.intro (cells5t h6.ba).2.1 (cells5t h6.ba).2.2.2.2
    obtain ⟨⟨x0, x1⟩, y0, y1⟩ := cells2t h6.bs
    clear ho2 ha2
    (try (simp only [Act.put, List.setIfInBounds_toArray, List.set]))
    (refine xone 10 (by kernel_rfl) (k6) (RunX.of 10 (by simp only [List.getElem?_toArray, List.getElem?_cons, reduceIte]; rfl) (by rfl) ?_))
    go_simp
    (try (simp only [Act.put, List.setIfInBounds_toArray, List.set]))
    (refine xone 11 (by kernel_rfl) (k6) (RunX.of 11 (by simp only [List.getElem?_toArray, List.getElem?_cons, reduceIte]; rfl) (by rfl) ?_))
    go_simp
    (try (simp only [Act.put, List.setIfInBounds_toArray, List.set]))
    have h7 := h6.sets 0 (.slice ya yn yc)
    simp only [List.setIfInBounds_toArray, List.set_cons_zero] at h7
    have k7 := And.intro (cells5t h7.ba).2.1 (cells5t h7.ba).2.2.2.2
    (refine xdone (by kernel_rfl) (k7) ?_)
    have HN6 : Hid (∀ i j, i < 5 → ¬ upd (upd F 0 F3) 3 (ob ⟨ya, yn, yc⟩) j (w.heap.size + i)) := Lib.hid (fun i j hi => nb_upd (fun j => HN.out i j hi) (by rw [size_alloc]; have := HB4.out.lt; omega) HG6.out j)
    have S7 := Lib.hid (S6.out.box (off_set W2 ⟨w.heap.size + 2, 0, none⟩ (.slice ya yn yc)) (fun i k hk => by rw [hk]; exact HN6.out 2 i (by decide)) (fun k hk => by rw [hk]; exact HK0.out _ (Nat.le_add_right _ _)) (fun k hk => by rw [hk]; show w0.heap.size ≤ w.heap.size + 2; have := HW0.out; omega))
    have HB7 := Lib.hid h7
    clear h6 h7 k5 k6 k7 x0 x1 y0 y1 d0 d1 k4 HB5 S4 S5 S6 HG6 OWN HB3 S3 HN
    have HB3 := HB7
    have S3 := S7
    have HN := HN6
    have HX2 : Hid (updA x 2 ⟨ya, yn, yc⟩ 0 = ⟨a0, n0, c0⟩ ∧ updA x 2 ⟨ya, yn, yc⟩ 1 = ⟨a1, n1, c1⟩ ∧ updA x 2 ⟨ya, yn, yc⟩ 2 = ⟨ya, yn, yc⟩ ∧ updA x 2 ⟨ya, yn, yc⟩ 3 = ⟨a3, n3, c3⟩) := Lib.hid ⟨HX.out.1, HX.out.2.1, rfl, HX.out.2.2.2⟩
    clear HB7 S7 HN6
    go_wp2_with fail
    (refine wp_region_X_lit (K := fun W => W.cell? ⟨w.heap.size + 1, 0, none⟩ = some (.slice a0 n0 c0) ∧ W.cell? ⟨w.heap.size + 1, 1, none⟩ = some (.slice a1 n1 c1) ∧ W.cell? ⟨w.heap.size + 2, 0, none⟩ = some (.slice ya yn yc) ∧ W.cell? ⟨w.heap.size + 2, 1, none⟩ = some (.slice a3 n3 c3)) (by kernel_rfl) (fun w1 hw1 => ?_))
    have hb3 := HB3.out.ext hw1
    have S4 := Lib.hid (S3.out.more hw1)
    have k3 : w1.cell? ⟨w.heap.size + 1, 0, none⟩ = some (.slice a0 n0 c0) ∧ w1.cell? ⟨w.heap.size + 1, 1, none⟩ = some (.slice a1 n1 c1) ∧ w1.cell? ⟨w.heap.size + 2, 0, none⟩ = some (.slice ya yn yc) ∧ w1.cell? ⟨w.heap.size + 2, 1, none⟩ = some (.slice a3 n3 c3) := ⟨(cells2t hb3.bw).1.1, (cells2t hb3.bw).1.2, (cells2t hb3.bs).1.1, (cells2t hb3.bs).1.2⟩
    obtain ⟨⟨z0, z1⟩, y0, y1⟩ := cells2t hb3.z1
    obtain ⟨⟨z2, z3⟩, y2, y3⟩ := cells2t hb3.z2
    clear hw1
    (refine xtakeV 0 (v := ?_) (by simp only [List.getElem?_toArray, List.getElem?_cons, reduceIte]; rfl) (by kernel_rfl) (by rfl) (fun w' hw' => ?_) ?_; rotate_left; focus (have hc := hw'.1; have hd := hw'.2.1; go_simp; first | done | with_reducible rfl)); (simp only [Act.put, List.setIfInBounds_toArray, List.set])
    (refine xtakeV 1 (v := ?_) (by simp only [List.getElem?_toArray, List.getElem?_cons, reduceIte]; rfl) (by kernel_rfl) (by rfl) (fun w' hw' => ?_) ?_; rotate_left; focus (have hc := hw'.2.2.1; have hd := hw'.2.2.2; go_simp; first | done | with_reducible rfl)); (simp only [Act.put, List.setIfInBounds_toArray, List.set])
    (refine xone 2 (by kernel_rfl) (k3) (RunX.of 2 (by simp only [List.getElem?_toArray, List.getElem?_cons, reduceIte]; rfl) (by rfl) ?_))
    go_simp
    (try (simp only [Act.put, List.setIfInBounds_toArray, List.set]))
    have hb4 := hb3.setz1 (.slice a0 n0 c0) (.slice a1 n1 c1)
    have k4 := And.intro (cells2t hb4.bw).1.1 (And.intro (cells2t hb4.bw).1.2 (cells2t hb4.bs).1)
    have S5 := Lib.hid (S4.out.box (off_set2 w1 (w.heap.size + 3) (.slice a0 n0 c0) (.slice a1 n1 c1)) (fun i k hk => by rw [hk]; exact HN.out 3 i (by decide)) (fun k hk => by rw [hk]; exact HK0.out _ (Nat.le_add_right _ _)) (fun k hk => by rw [hk]; have := HW0.out; omega))
    clear z0 z1 y0 y1 z2 z3 y2 y3 k3
    obtain ⟨⟨z2, z3⟩, y2, y3⟩ := cells2t hb4.z2
    simp only [set2] at z2 z3 y2 y3
    (refine xone 3 (by kernel_rfl) (k4) (RunX.of 3 (by simp only [List.getElem?_toArray, List.getElem?_cons, reduceIte]; rfl) (by rfl) ?_))
    go_simp
    (try (simp only [Act.put, List.setIfInBounds_toArray, List.set]))
    have hb5 := hb4.setz2 (.slice ya yn yc) (.slice a3 n3 c3)
    have k5 := And.intro (cells2t hb5.bw).1.1 (And.intro (cells2t hb5.bw).1.2 (cells2t hb5.bs).1)
    have S6 := Lib.hid (S5.out.box (off_set2 (set2 w1 (w.heap.size + 3) (.slice a0 n0 c0) (.slice a1 n1 c1)) (w.heap.size + 4) (.slice ya yn yc) (.slice a3 n3 c3)) (fun i k hk => by rw [hk]; exact HN.out 4 i (by decide)) (fun k hk => by rw [hk]; exact HK0.out _ (Nat.le_add_right _ _)) (fun k hk => by rw [hk]; have := HW0.out; omega))
    clear z2 z3 y2 y3 k4
    (refine xtakeV 4 (v := ?_) (by simp only [List.getElem?_toArray, List.getElem?_cons, reduceIte]; rfl) (by kernel_rfl) (by rfl) (fun w' hw' => ?_) ?_; rotate_left; focus (skip; go_simp; first | done | with_reducible rfl)); (simp only [Act.put, List.setIfInBounds_toArray, List.set])
    (refine xdone (by kernel_rfl) (k5) ?_)
    obtain ⟨⟨z0, z1⟩, _⟩ := cells2t hb5.z1
    obtain ⟨⟨z2, z3⟩, _⟩ := cells2t hb5.z2
    simp only [set2] at z0 z1 z2 z3
    clear k5 hb3 hb4 hb5
    go_wp2_with fail
    refine bodyPost_ret (v := .tuple #[.agg #[.slice a0 n0 c0, .slice a1 n1 c1], .agg #[.slice ya yn yc, .slice a3 n3 c3], .bool true]) (by simp [results, Tryd.results11, go_sem, z0, z1, z2, z3]) rfl ?_
    exact ⟨_, _, by rw [two2_of (i := 0) HX2.out.1 HX2.out.2.1, two2_of (i := 2) HX2.out.2.2.1 HX2.out.2.2.2], S6.out⟩

set_option maxRecDepth 50000 in
set_option maxHeartbeats 8000000 in
theorem iplay_full1 (w0 wB w : World) (Kp : Nat → Prop) (hs : Std w0) (p : Nat) (P : PipeS) (L : Nat → List ByteArray) (x : Nat → SV) (F : Nat → Nat → Prop) (h : Wt w0 wB Kp w p P x L F) (an ax : Int) (ab : ByteArray) (hb : ab.size ≤ 1000) (hE : P.sendE 1 ab ≠ 0) :
    Calls Tryd.prog 11 #[.pointer (some ⟨p, 0, none⟩), .agg #[.int .i64 0, .int .i64 1, .int .i64 an, .int .i64 ax, .string ab], .agg (two2 x 0), .agg (two2 x 2)] w (PlayTo w0 wB Kp p (P.send 1 ab) L true) := by
  have H := Lib.hid h
  have HST := Lib.hid hs
  have HF : Hid (∀ j i, ¬ F i (w.heap.size + j)) := Lib.hid (fun j i hk => by have := (h.low i _ hk).2; omega)
  have HW0 : Hid (w0.heap.size ≤ w.heap.size) := Lib.hid h.ext.size
  have HK0 : Hid (∀ k, w.heap.size ≤ k → ¬ Kp k) := Lib.hid (fun k h1 h2 => by have := (h.kp k h2).1; have := h.kb; omega)
  obtain ⟨⟨a0, n0, c0⟩, h0⟩ : ∃ s, x 0 = s := ⟨_, rfl⟩
  obtain ⟨⟨a1, n1, c1⟩, h1⟩ : ∃ s, x 1 = s := ⟨_, rfl⟩
  obtain ⟨⟨a2, n2, c2⟩, h2⟩ : ∃ s, x 2 = s := ⟨_, rfl⟩
  obtain ⟨⟨a3, n3, c3⟩, h3⟩ : ∃ s, x 3 = s := ⟨_, rfl⟩
  unfold two2
  rw [h0, h1, h2, h3]
  have HX := Lib.hid (And.intro h0 (And.intro h1 (And.intro h2 h3)))
  dsimp only
  clear h hs h0 h1 h2 h3
  have hE2 : (((P.sendE 1 ab : Nat) : Int) == 0) = false := by simpa using hE
  have HE := Lib.hid hE
  have HBB := Lib.hid hb
  clear hE hb
  go_enter Tryd.func11, Tryd.ntmps11
  (try dsimp only [List.append])
  go_wp2_with fail
  obtain ⟨W1, hW1⟩ : ∃ W, W = (five w #[.int .i64 0, .int .i64 1, .int .i64 an, .int .i64 ax, .string ab] #[.slice a0 n0 c0, .slice a1 n1 c1] #[.slice a2 n2 c2, .slice a3 n3 c3] zz zz) := ⟨_, rfl⟩
  have HB := Lib.hid (five_b5 w #[.int .i64 0, .int .i64 1, .int .i64 an, .int .i64 ax, .string ab] #[.slice a0 n0 c0, .slice a1 n1 c1] #[.slice a2 n2 c2, .slice a3 n3 c3] zz zz)
  have H1 := Lib.hid (H.out.more (five_ext w #[.int .i64 0, .int .i64 1, .int .i64 an, .int .i64 ax, .string ab] #[.slice a0 n0 c0, .slice a1 n1 c1] #[.slice a2 n2 c2, .slice a3 n3 c3] zz zz))
  rw [← hW1] at HB H1
  try change Calls _ _ _ (five w #[.int .i64 0, .int .i64 1, .int .i64 an, .int .i64 ax, .string ab] #[.slice a0 n0 c0, .slice a1 n1 c1] #[.slice a2 n2 c2, .slice a3 n3 c3] zz zz) _
  rw [← hW1]
  refine (iSend H1.out.e 1 ab HBB.out).mono ?_
  rintro e w3 ⟨F3, rfl, nn, o, g⟩
  have HB3 := Lib.hid (HB.out.off o (fun i _ => HF.out i 0))
  have S3 := Lib.hid (H1.out.moves nn o g)
  have HN : Hid (∀ i j, i < 5 → ¬ upd F 0 F3 j (w.heap.size + i)) := Lib.hid (fun i j hi => nb_upd (HF.out i) (by have := HB.out.lt; omega) g j)
  clear nn o g hW1 HB H1
  dsimp only
  go_wp2_with fail
  (refine wp_region_X_lit (K := fun W => W.cell? ⟨w.heap.size + 1, 0, none⟩ = some (.slice a0 n0 c0) ∧ W.cell? ⟨w.heap.size + 1, 1, none⟩ = some (.slice a1 n1 c1) ∧ W.cell? ⟨w.heap.size + 2, 0, none⟩ = some (.slice a2 n2 c2) ∧ W.cell? ⟨w.heap.size + 2, 1, none⟩ = some (.slice a3 n3 c3)) (by kernel_rfl) (fun w1 hw1 => ?_))
  have hb3 := HB3.out.ext hw1
  have S4 := Lib.hid (S3.out.more hw1)
  have k3 : w1.cell? ⟨w.heap.size + 1, 0, none⟩ = some (.slice a0 n0 c0) ∧ w1.cell? ⟨w.heap.size + 1, 1, none⟩ = some (.slice a1 n1 c1) ∧ w1.cell? ⟨w.heap.size + 2, 0, none⟩ = some (.slice a2 n2 c2) ∧ w1.cell? ⟨w.heap.size + 2, 1, none⟩ = some (.slice a3 n3 c3) := ⟨(cells2t hb3.bw).1.1, (cells2t hb3.bw).1.2, (cells2t hb3.bs).1.1, (cells2t hb3.bs).1.2⟩
  obtain ⟨⟨z0, z1⟩, y0, y1⟩ := cells2t hb3.z1
  obtain ⟨⟨z2, z3⟩, y2, y3⟩ := cells2t hb3.z2
  clear hw1
  (refine xtakeV 0 (v := ?_) (by simp only [List.getElem?_toArray, List.getElem?_cons, reduceIte]; rfl) (by kernel_rfl) (by rfl) (fun w' hw' => ?_) ?_; rotate_left; focus (have hc := hw'.1; have hd := hw'.2.1; go_simp; first | done | with_reducible rfl)); (simp only [Act.put, List.setIfInBounds_toArray, List.set])
  (refine xtakeV 1 (v := ?_) (by simp only [List.getElem?_toArray, List.getElem?_cons, reduceIte]; rfl) (by kernel_rfl) (by rfl) (fun w' hw' => ?_) ?_; rotate_left; focus (have hc := hw'.2.2.1; have hd := hw'.2.2.2; go_simp; first | done | with_reducible rfl)); (simp only [Act.put, List.setIfInBounds_toArray, List.set])
  (refine xone 2 (by kernel_rfl) (k3) (RunX.of 2 (by simp only [List.getElem?_toArray, List.getElem?_cons, reduceIte]; rfl) (by rfl) ?_))
  go_simp
  (try (simp only [Act.put, List.setIfInBounds_toArray, List.set]))
  have hb4 := hb3.setz1 (.slice a0 n0 c0) (.slice a1 n1 c1)
  have k4 := And.intro (cells2t hb4.bw).1.1 (And.intro (cells2t hb4.bw).1.2 (cells2t hb4.bs).1)
  have S5 := Lib.hid (S4.out.box (off_set2 w1 (w.heap.size + 3) (.slice a0 n0 c0) (.slice a1 n1 c1)) (fun i k hk => by rw [hk]; exact HN.out 3 i (by decide)) (fun k hk => by rw [hk]; exact HK0.out _ (Nat.le_add_right _ _)) (fun k hk => by rw [hk]; have := HW0.out; omega))
  clear z0 z1 y0 y1 z2 z3 y2 y3 k3
  obtain ⟨⟨z2, z3⟩, y2, y3⟩ := cells2t hb4.z2
  simp only [set2] at z2 z3 y2 y3
  (refine xone 3 (by kernel_rfl) (k4) (RunX.of 3 (by simp only [List.getElem?_toArray, List.getElem?_cons, reduceIte]; rfl) (by rfl) ?_))
  go_simp
  (try (simp only [Act.put, List.setIfInBounds_toArray, List.set]))
  have hb5 := hb4.setz2 (.slice a2 n2 c2) (.slice a3 n3 c3)
  have k5 := And.intro (cells2t hb5.bw).1.1 (And.intro (cells2t hb5.bw).1.2 (cells2t hb5.bs).1)
  have S6 := Lib.hid (S5.out.box (off_set2 (set2 w1 (w.heap.size + 3) (.slice a0 n0 c0) (.slice a1 n1 c1)) (w.heap.size + 4) (.slice a2 n2 c2) (.slice a3 n3 c3)) (fun i k hk => by rw [hk]; exact HN.out 4 i (by decide)) (fun k hk => by rw [hk]; exact HK0.out _ (Nat.le_add_right _ _)) (fun k hk => by rw [hk]; have := HW0.out; omega))
  clear z2 z3 y2 y3 k4
  (refine xtakeV 4 (v := ?_) (by simp only [List.getElem?_toArray, List.getElem?_cons, reduceIte]; rfl) (by kernel_rfl) (by rfl) (fun w' hw' => ?_) ?_; rotate_left; focus (skip; go_simp; first | done | with_reducible rfl)); (simp only [Act.put, List.setIfInBounds_toArray, List.set])
  (refine xdone (by kernel_rfl) (k5) ?_)
  obtain ⟨⟨z0, z1⟩, _⟩ := cells2t hb5.z1
  obtain ⟨⟨z2, z3⟩, _⟩ := cells2t hb5.z2
  simp only [set2] at z0 z1 z2 z3
  clear k5 hb3 hb4 hb5
  go_wp2_with fail
  refine bodyPost_ret (v := .tuple #[.agg #[.slice a0 n0 c0, .slice a1 n1 c1], .agg #[.slice a2 n2 c2, .slice a3 n3 c3], .bool true]) (by simp [results, Tryd.results11, go_sem, z0, z1, z2, z3]) rfl ?_
  exact ⟨_, _, by rw [two2_of (i := 0) HX.out.1 HX.out.2.1, two2_of (i := 2) HX.out.2.2.1 HX.out.2.2.2], S6.out⟩

set_option maxRecDepth 50000 in
set_option maxHeartbeats 8000000 in
theorem iplay_sent1 (w0 wB w : World) (Kp : Nat → Prop) (hs : Std w0) (p : Nat) (P : PipeS) (L : Nat → List ByteArray) (x : Nat → SV) (F : Nat → Nat → Prop) (h : Wt w0 wB Kp w p P x L F) (an ax : Int) (ab : ByteArray) (hb : ab.size ≤ 1000) (hE : P.sendE 1 ab = 0) (hL : ∀ i, i < 4 → (L i).length ≤ 100000) :
    Calls Tryd.prog 11 #[.pointer (some ⟨p, 0, none⟩), .agg #[.int .i64 0, .int .i64 1, .int .i64 an, .int .i64 ax, .string ab], .agg (two2 x 0), .agg (two2 x 2)] w (PlayTo w0 wB Kp p (P.send 1 ab) (updA L 3 (L 3 ++ [ab])) true) := by
  have H := Lib.hid h
  have HST := Lib.hid hs
  have HF : Hid (∀ j i, ¬ F i (w.heap.size + j)) := Lib.hid (fun j i hk => by have := (h.low i _ hk).2; omega)
  have HW0 : Hid (w0.heap.size ≤ w.heap.size) := Lib.hid h.ext.size
  have HK0 : Hid (∀ k, w.heap.size ≤ k → ¬ Kp k) := Lib.hid (fun k h1 h2 => by have := (h.kp k h2).1; have := h.kb; omega)
  obtain ⟨⟨a0, n0, c0⟩, h0⟩ : ∃ s, x 0 = s := ⟨_, rfl⟩
  obtain ⟨⟨a1, n1, c1⟩, h1⟩ : ∃ s, x 1 = s := ⟨_, rfl⟩
  obtain ⟨⟨a2, n2, c2⟩, h2⟩ : ∃ s, x 2 = s := ⟨_, rfl⟩
  obtain ⟨⟨a3, n3, c3⟩, h3⟩ : ∃ s, x 3 = s := ⟨_, rfl⟩
  unfold two2
  rw [h0, h1, h2, h3]
  have HX := Lib.hid (And.intro h0 (And.intro h1 (And.intro h2 h3)))
  dsimp only
  clear h hs h0 h1 h2 h3
  have HE := Lib.hid hE
  have HBB := Lib.hid hb
  have hl := hL 3 (by decide)
  clear hE hb hL
  go_enter Tryd.func11, Tryd.ntmps11
  (try dsimp only [List.append])
  go_wp2_with fail
  obtain ⟨W1, hW1⟩ : ∃ W, W = (five w #[.int .i64 0, .int .i64 1, .int .i64 an, .int .i64 ax, .string ab] #[.slice a0 n0 c0, .slice a1 n1 c1] #[.slice a2 n2 c2, .slice a3 n3 c3] zz zz) := ⟨_, rfl⟩
  have HB := Lib.hid (five_b5 w #[.int .i64 0, .int .i64 1, .int .i64 an, .int .i64 ax, .string ab] #[.slice a0 n0 c0, .slice a1 n1 c1] #[.slice a2 n2 c2, .slice a3 n3 c3] zz zz)
  have H1 := Lib.hid (H.out.more (five_ext w #[.int .i64 0, .int .i64 1, .int .i64 an, .int .i64 ax, .string ab] #[.slice a0 n0 c0, .slice a1 n1 c1] #[.slice a2 n2 c2, .slice a3 n3 c3] zz zz))
  rw [← hW1] at HB H1
  try change Calls _ _ _ (five w #[.int .i64 0, .int .i64 1, .int .i64 an, .int .i64 ax, .string ab] #[.slice a0 n0 c0, .slice a1 n1 c1] #[.slice a2 n2 c2, .slice a3 n3 c3] zz zz) _
  rw [← hW1]
  have cS := iSend H1.out.e 1 ab HBB.out
  rw [HE.out] at cS
  refine (cS).mono ?_
  rintro e w3 ⟨F3, rfl, nn, o, g⟩
  have HB3 := Lib.hid (HB.out.off o (fun i _ => HF.out i 0))
  have S3 := Lib.hid (H1.out.moves nn o g)
  have HN : Hid (∀ i j, i < 5 → ¬ upd F 0 F3 j (w.heap.size + i)) := Lib.hid (fun i j hi => nb_upd (HF.out i) (by have := HB.out.lt; omega) g j)
  clear cS nn o g hW1 HB H1
  dsimp only
  go_wp2_with fail
  (refine wp_region_X_lit (K := fun W => W.cell? ⟨w.heap.size, 1, none⟩ = some (.int .i64 1) ∧ W.cell? ⟨w.heap.size, 4, none⟩ = some (.string ab)) (by kernel_rfl) (fun w1 hw1 => ?_))
  have hb4 := HB3.out.ext hw1
  have S4 := Lib.hid (S3.out.more hw1)
  have k4 := And.intro (cells5t hb4.ba).2.1 (cells5t hb4.ba).2.2.2.2
  clear hw1
  have HB4 := Lib.hid hb4
  obtain ⟨⟨d0, d1⟩, _⟩ := cells2t hb4.bs
  have OWN := Lib.hid (S4.out.own (i := 3) (by decide) HX.out.2.2.2)
  (refine xtakeV 0 (v := ?_) (by simp only [List.getElem?_toArray, List.getElem?_cons, reduceIte]; rfl) (by kernel_rfl) (by rfl) (fun w' hw' => ?_) ?_; rotate_left; focus (skip; go_simp; first | done | with_reducible rfl)); (simp only [Act.put, List.setIfInBounds_toArray, List.set])
  (refine xtakeV 1 (v := ?_) (by simp only [List.getElem?_toArray, List.getElem?_cons, reduceIte]; rfl) (by kernel_rfl) (by rfl) (fun w' hw' => ?_) ?_; rotate_left; focus (have hc := hw'.1; go_simp; first | done | with_reducible rfl)); (simp only [Act.put, List.setIfInBounds_toArray, List.set])
  (refine xtakeV 2 (v := ?_) (by simp only [List.getElem?_toArray, List.getElem?_cons, reduceIte]; rfl) (by kernel_rfl) (by rfl) (fun w' hw' => ?_) ?_; rotate_left; focus (skip; go_simp; first | done | with_reducible rfl)); (simp only [Act.put, List.setIfInBounds_toArray, List.set])
  (refine xtakeV 3 (v := ?_) (by simp only [List.getElem?_toArray, List.getElem?_cons, reduceIte]; rfl) (by kernel_rfl) (by rfl) (fun w' hw' => ?_) ?_; rotate_left; focus (have hc := hw'.1; go_simp; first | done | with_reducible rfl)); (simp only [Act.put, List.setIfInBounds_toArray, List.set])
  (refine xtakeV 4 (v := ?_) (by simp only [List.getElem?_toArray, List.getElem?_cons, reduceIte]; rfl) (by kernel_rfl) (by rfl) (fun w' hw' => ?_) ?_; rotate_left; focus (skip; go_simp; first | done | with_reducible rfl)); (simp only [Act.put, List.setIfInBounds_toArray, List.set])
  (refine xtakeV 6 (v := ?_) (by simp only [List.getElem?_toArray, List.getElem?_cons, reduceIte]; rfl) (by kernel_rfl) (by rfl) (fun w' hw' => ?_) ?_; rotate_left; focus (skip; go_simp; first | done | with_reducible rfl)); (simp only [Act.put, List.setIfInBounds_toArray, List.set])
  (refine xtakeV 7 (v := ?_) (by simp only [List.getElem?_toArray, List.getElem?_cons, reduceIte]; rfl) (by kernel_rfl) (by rfl) (fun w' hw' => ?_) ?_; rotate_left; focus (have hc := hw'.2; go_simp; first | done | with_reducible rfl)); (simp only [Act.put, List.setIfInBounds_toArray, List.set])
  (refine xtwo 5 8 (by kernel_rfl) (k4) (RunX.of 5 (by simp only [List.getElem?_toArray, List.getElem?_cons, reduceIte]; rfl) (by rfl) ?_) (RunX.of 8 (by simp only [List.getElem?_toArray, List.getElem?_cons, reduceIte]; rfl) (by rfl) ?_))
  · go_simp
    (try (simp only [Act.put, List.setIfInBounds_toArray, List.set]))
    (refine xone 8 (by kernel_rfl) (k4) (RunX.of 8 (by simp only [List.getElem?_toArray, List.getElem?_cons, reduceIte]; rfl) (by rfl) ?_))
    go_simp
    (try (simp only [Act.put, List.setIfInBounds_toArray, List.set]))
    have hb5 := hb4.ext ((Ext.refl w1).alloc (.cells #[.string ab] 9))
    have k5 := And.intro (cells5t hb5.ba).2.1 (cells5t hb5.ba).2.2.2.2
    have HB5 := Lib.hid hb5
    clear hb5 hb4
    (refine xone 9 (by kernel_rfl) (k5) (RunX.of 9 (by simp only [List.getElem?_toArray, List.getElem?_cons, reduceIte]; rfl) (by rfl) ?_))
    (refine wp_append_sl (α := ByteArray) (.tmp 58) (.tmp 61) rfl w0.heap.size (.slice a3 n3 c3) (L 3) rfl ?_ (.slice (some ⟨w1.heap.size, 0, none⟩) 1 1) [ab] rfl ?_ ?_ ?_ ?_; exact (OWN.out.1.alloc _); exact (Sl.litAt w1 _ rfl [ab] (show (1 : Nat) ≤ 1000000 by decide)); (first | omega | (simp; omega)); (have := S4.out.ext.size; rw [size_alloc]; omega); intro v2 W2 ho2 ha2; have S5 := Lib.hid (S4.out.more ((Ext.refl w1).alloc (.cells #[.string ab] 9))))
    obtain ⟨ya, yn, yc, rfl⟩ := ho2.sh
    have h6 := HB5.out.off (off_apd (x := ⟨a3, n3, c3⟩) (G := upd F 0 F3 4) ha2 (fun b hb => OWN.out.2 b hb)) (fun i hi => HN.out i 4 hi)
    have S6 := Lib.hid (S5.out.put' (i := 3) (by decide) (y := ⟨ya, yn, yc⟩) HX.out.2.2.2 ho2 ha2)
    have HG6 := Lib.hid (grows_apd (x := ⟨a3, n3, c3⟩) (y := ⟨ya, yn, yc⟩) (G := upd F 0 F3 4) ha2 (fun b hb => OWN.out.2 b hb))
    have k6 := And.intro (cells5t h6.ba).2.1 (cells5t h6.ba).2.2.2.2
    obtain ⟨⟨x0, x1⟩, y0, y1⟩ := cells2t h6.bs
    clear ho2 ha2
    (try (simp only [Act.put, List.setIfInBounds_toArray, List.set]))
    (refine xone 10 (by kernel_rfl) (k6) (RunX.of 10 (by simp only [List.getElem?_toArray, List.getElem?_cons, reduceIte]; rfl) (by rfl) ?_))
    go_simp
    (try (simp only [Act.put, List.setIfInBounds_toArray, List.set]))
    (refine xone 11 (by kernel_rfl) (k6) (RunX.of 11 (by simp only [List.getElem?_toArray, List.getElem?_cons, reduceIte]; rfl) (by rfl) ?_))
    go_simp
    (try (simp only [Act.put, List.setIfInBounds_toArray, List.set]))
    have h7 := h6.sets 1 (.slice ya yn yc)
    simp only [List.setIfInBounds_toArray, List.set_cons_succ, List.set_cons_zero] at h7
    have k7 := And.intro (cells5t h7.ba).2.1 (cells5t h7.ba).2.2.2.2
    (refine xdone (by kernel_rfl) (k7) ?_)
    have HN6 : Hid (∀ i j, i < 5 → ¬ upd (upd F 0 F3) 4 (ob ⟨ya, yn, yc⟩) j (w.heap.size + i)) := Lib.hid (fun i j hi => nb_upd (fun j => HN.out i j hi) (by rw [size_alloc]; have := HB4.out.lt; omega) HG6.out j)
    have S7 := Lib.hid (S6.out.box (off_set W2 ⟨w.heap.size + 2, 1, none⟩ (.slice ya yn yc)) (fun i k hk => by rw [hk]; exact HN6.out 2 i (by decide)) (fun k hk => by rw [hk]; exact HK0.out _ (Nat.le_add_right _ _)) (fun k hk => by rw [hk]; show w0.heap.size ≤ w.heap.size + 2; have := HW0.out; omega))
    have HB7 := Lib.hid h7
    clear h6 h7 k5 k6 k7 x0 x1 y0 y1 d0 d1 k4 HB5 S4 S5 S6 HG6 OWN HB3 S3 HN
    have HB3 := HB7
    have S3 := S7
    have HN := HN6
    have HX2 : Hid (updA x 3 ⟨ya, yn, yc⟩ 0 = ⟨a0, n0, c0⟩ ∧ updA x 3 ⟨ya, yn, yc⟩ 1 = ⟨a1, n1, c1⟩ ∧ updA x 3 ⟨ya, yn, yc⟩ 2 = ⟨a2, n2, c2⟩ ∧ updA x 3 ⟨ya, yn, yc⟩ 3 = ⟨ya, yn, yc⟩) := Lib.hid ⟨HX.out.1, HX.out.2.1, HX.out.2.2.1, rfl⟩
    clear HB7 S7 HN6
    go_wp2_with fail
    (refine wp_region_X_lit (K := fun W => W.cell? ⟨w.heap.size + 1, 0, none⟩ = some (.slice a0 n0 c0) ∧ W.cell? ⟨w.heap.size + 1, 1, none⟩ = some (.slice a1 n1 c1) ∧ W.cell? ⟨w.heap.size + 2, 0, none⟩ = some (.slice a2 n2 c2) ∧ W.cell? ⟨w.heap.size + 2, 1, none⟩ = some (.slice ya yn yc)) (by kernel_rfl) (fun w1 hw1 => ?_))
    have hb3 := HB3.out.ext hw1
    have S4 := Lib.hid (S3.out.more hw1)
    have k3 : w1.cell? ⟨w.heap.size + 1, 0, none⟩ = some (.slice a0 n0 c0) ∧ w1.cell? ⟨w.heap.size + 1, 1, none⟩ = some (.slice a1 n1 c1) ∧ w1.cell? ⟨w.heap.size + 2, 0, none⟩ = some (.slice a2 n2 c2) ∧ w1.cell? ⟨w.heap.size + 2, 1, none⟩ = some (.slice ya yn yc) := ⟨(cells2t hb3.bw).1.1, (cells2t hb3.bw).1.2, (cells2t hb3.bs).1.1, (cells2t hb3.bs).1.2⟩
    obtain ⟨⟨z0, z1⟩, y0, y1⟩ := cells2t hb3.z1
    obtain ⟨⟨z2, z3⟩, y2, y3⟩ := cells2t hb3.z2
    clear hw1
    (refine xtakeV 0 (v := ?_) (by simp only [List.getElem?_toArray, List.getElem?_cons, reduceIte]; rfl) (by kernel_rfl) (by rfl) (fun w' hw' => ?_) ?_; rotate_left; focus (have hc := hw'.1; have hd := hw'.2.1; go_simp; first | done | with_reducible rfl)); (simp only [Act.put, List.setIfInBounds_toArray, List.set])
    (refine xtakeV 1 (v := ?_) (by simp only [List.getElem?_toArray, List.getElem?_cons, reduceIte]; rfl) (by kernel_rfl) (by rfl) (fun w' hw' => ?_) ?_; rotate_left; focus (have hc := hw'.2.2.1; have hd := hw'.2.2.2; go_simp; first | done | with_reducible rfl)); (simp only [Act.put, List.setIfInBounds_toArray, List.set])
    (refine xone 2 (by kernel_rfl) (k3) (RunX.of 2 (by simp only [List.getElem?_toArray, List.getElem?_cons, reduceIte]; rfl) (by rfl) ?_))
    go_simp
    (try (simp only [Act.put, List.setIfInBounds_toArray, List.set]))
    have hb4 := hb3.setz1 (.slice a0 n0 c0) (.slice a1 n1 c1)
    have k4 := And.intro (cells2t hb4.bw).1.1 (And.intro (cells2t hb4.bw).1.2 (cells2t hb4.bs).1)
    have S5 := Lib.hid (S4.out.box (off_set2 w1 (w.heap.size + 3) (.slice a0 n0 c0) (.slice a1 n1 c1)) (fun i k hk => by rw [hk]; exact HN.out 3 i (by decide)) (fun k hk => by rw [hk]; exact HK0.out _ (Nat.le_add_right _ _)) (fun k hk => by rw [hk]; have := HW0.out; omega))
    clear z0 z1 y0 y1 z2 z3 y2 y3 k3
    obtain ⟨⟨z2, z3⟩, y2, y3⟩ := cells2t hb4.z2
    simp only [set2] at z2 z3 y2 y3
    (refine xone 3 (by kernel_rfl) (k4) (RunX.of 3 (by simp only [List.getElem?_toArray, List.getElem?_cons, reduceIte]; rfl) (by rfl) ?_))
    go_simp
    (try (simp only [Act.put, List.setIfInBounds_toArray, List.set]))
    have hb5 := hb4.setz2 (.slice a2 n2 c2) (.slice ya yn yc)
    have k5 := And.intro (cells2t hb5.bw).1.1 (And.intro (cells2t hb5.bw).1.2 (cells2t hb5.bs).1)
    have S6 := Lib.hid (S5.out.box (off_set2 (set2 w1 (w.heap.size + 3) (.slice a0 n0 c0) (.slice a1 n1 c1)) (w.heap.size + 4) (.slice a2 n2 c2) (.slice ya yn yc)) (fun i k hk => by rw [hk]; exact HN.out 4 i (by decide)) (fun k hk => by rw [hk]; exact HK0.out _ (Nat.le_add_right _ _)) (fun k hk => by rw [hk]; have := HW0.out; omega))
    clear z2 z3 y2 y3 k4
    (refine xtakeV 4 (v := ?_) (by simp only [List.getElem?_toArray, List.getElem?_cons, reduceIte]; rfl) (by kernel_rfl) (by rfl) (fun w' hw' => ?_) ?_; rotate_left; focus (skip; go_simp; first | done | with_reducible rfl)); (simp only [Act.put, List.setIfInBounds_toArray, List.set])
    (refine xdone (by kernel_rfl) (k5) ?_)
    obtain ⟨⟨z0, z1⟩, _⟩ := cells2t hb5.z1
    obtain ⟨⟨z2, z3⟩, _⟩ := cells2t hb5.z2
    simp only [set2] at z0 z1 z2 z3
    clear k5 hb3 hb4 hb5
    go_wp2_with fail
    refine bodyPost_ret (v := .tuple #[.agg #[.slice a0 n0 c0, .slice a1 n1 c1], .agg #[.slice a2 n2 c2, .slice ya yn yc], .bool true]) (by simp [results, Tryd.results11, go_sem, z0, z1, z2, z3]) rfl ?_
    exact ⟨_, _, by rw [two2_of (i := 0) HX2.out.1 HX2.out.2.1, two2_of (i := 2) HX2.out.2.2.1 HX2.out.2.2.2], S6.out⟩
  · go_simp
    (try (simp only [Act.put, List.setIfInBounds_toArray, List.set]))
    have hb5 := hb4.ext ((Ext.refl w1).alloc (.cells #[.string ab] 9))
    have k5 := And.intro (cells5t hb5.ba).2.1 (cells5t hb5.ba).2.2.2.2
    obtain ⟨⟨f0, f1⟩, _⟩ := cells2t hb5.bs
    have HB5 := Lib.hid hb5
    clear hb5 hb4
    (refine xone 5 (by kernel_rfl) (k5) (RunX.of 5 (by simp only [List.getElem?_toArray, List.getElem?_cons, reduceIte]; rfl) (by rfl) ?_))
    go_simp
    (try (simp only [Act.put, List.setIfInBounds_toArray, List.set]))
    clear f0 f1
    (refine xone 9 (by kernel_rfl) (k5) (RunX.of 9 (by simp only [List.getElem?_toArray, List.getElem?_cons, reduceIte]; rfl) (by rfl) ?_))
    (refine wp_append_sl (α := ByteArray) (.tmp 58) (.tmp 61) rfl w0.heap.size (.slice a3 n3 c3) (L 3) rfl ?_ (.slice (some ⟨w1.heap.size, 0, none⟩) 1 1) [ab] rfl ?_ ?_ ?_ ?_; exact (OWN.out.1.alloc _); exact (Sl.litAt w1 _ rfl [ab] (show (1 : Nat) ≤ 1000000 by decide)); (first | omega | (simp; omega)); (have := S4.out.ext.size; rw [size_alloc]; omega); intro v2 W2 ho2 ha2; have S5 := Lib.hid (S4.out.more ((Ext.refl w1).alloc (.cells #[.string ab] 9))))
    obtain ⟨ya, yn, yc, rfl⟩ := ho2.sh
    have h6 := HB5.out.off (off_apd (x := ⟨a3, n3, c3⟩) (G := upd F 0 F3 4) ha2 (fun b hb => OWN.out.2 b hb)) (fun i hi => HN.out i 4 hi)
    have S6 := Lib.hid (S5.out.put' (i := 3) (by decide) (y := ⟨ya, yn, yc⟩) HX.out.2.2.2 ho2 ha2)
    have HG6 := Lib.hid (grows_apd (x := ⟨a3, n3, c3⟩) (y := ⟨ya, yn, yc⟩) (G := upd F 0 F3 4) ha2 (fun b hb => OWN.out.2 b hb))
    have k6 := And.intro (cells5t h6.ba).2.1 (cells5t h6.ba).2.2.2.2
    obtain ⟨⟨x0, x1⟩, y0, y1⟩ := cells2t h6.bs
    clear ho2 ha2
    (try (simp only [Act.put, List.setIfInBounds_toArray, List.set]))
    (refine xone 10 (by kernel_rfl) (k6) (RunX.of 10 (by simp only [List.getElem?_toArray, List.getElem?_cons, reduceIte]; rfl) (by rfl) ?_))
    go_simp
    (try (simp only [Act.put, List.setIfInBounds_toArray, List.set]))
    (refine xone 11 (by kernel_rfl) (k6) (RunX.of 11 (by simp only [List.getElem?_toArray, List.getElem?_cons, reduceIte]; rfl) (by rfl) ?_))
    go_simp
    (try (simp only [Act.put, List.setIfInBounds_toArray, List.set]))
    have h7 := h6.sets 1 (.slice ya yn yc)
    simp only [List.setIfInBounds_toArray, List.set_cons_succ, List.set_cons_zero] at h7
    have k7 := And.intro (cells5t h7.ba).2.1 (cells5t h7.ba).2.2.2.2
    (refine xdone (by kernel_rfl) (k7) ?_)
    have HN6 : Hid (∀ i j, i < 5 → ¬ upd (upd F 0 F3) 4 (ob ⟨ya, yn, yc⟩) j (w.heap.size + i)) := Lib.hid (fun i j hi => nb_upd (fun j => HN.out i j hi) (by rw [size_alloc]; have := HB4.out.lt; omega) HG6.out j)
    have S7 := Lib.hid (S6.out.box (off_set W2 ⟨w.heap.size + 2, 1, none⟩ (.slice ya yn yc)) (fun i k hk => by rw [hk]; exact HN6.out 2 i (by decide)) (fun k hk => by rw [hk]; exact HK0.out _ (Nat.le_add_right _ _)) (fun k hk => by rw [hk]; show w0.heap.size ≤ w.heap.size + 2; have := HW0.out; omega))
    have HB7 := Lib.hid h7
    clear h6 h7 k5 k6 k7 x0 x1 y0 y1 d0 d1 k4 HB5 S4 S5 S6 HG6 OWN HB3 S3 HN
    have HB3 := HB7
    have S3 := S7
    have HN := HN6
    have HX2 : Hid (updA x 3 ⟨ya, yn, yc⟩ 0 = ⟨a0, n0, c0⟩ ∧ updA x 3 ⟨ya, yn, yc⟩ 1 = ⟨a1, n1, c1⟩ ∧ updA x 3 ⟨ya, yn, yc⟩ 2 = ⟨a2, n2, c2⟩ ∧ updA x 3 ⟨ya, yn, yc⟩ 3 = ⟨ya, yn, yc⟩) := Lib.hid ⟨HX.out.1, HX.out.2.1, HX.out.2.2.1, rfl⟩
    clear HB7 S7 HN6
    go_wp2_with fail
    (refine wp_region_X_lit (K := fun W => W.cell? ⟨w.heap.size + 1, 0, none⟩ = some (.slice a0 n0 c0) ∧ W.cell? ⟨w.heap.size + 1, 1, none⟩ = some (.slice a1 n1 c1) ∧ W.cell? ⟨w.heap.size + 2, 0, none⟩ = some (.slice a2 n2 c2) ∧ W.cell? ⟨w.heap.size + 2, 1, none⟩ = some (.slice ya yn yc)) (by kernel_rfl) (fun w1 hw1 => ?_))
    have hb3 := HB3.out.ext hw1
    have S4 := Lib.hid (S3.out.more hw1)
    have k3 : w1.cell? ⟨w.heap.size + 1, 0, none⟩ = some (.slice a0 n0 c0) ∧ w1.cell? ⟨w.heap.size + 1, 1, none⟩ = some (.slice a1 n1 c1) ∧ w1.cell? ⟨w.heap.size + 2, 0, none⟩ = some (.slice a2 n2 c2) ∧ w1.cell? ⟨w.heap.size + 2, 1, none⟩ = some (.slice ya yn yc) := ⟨(cells2t hb3.bw).1.1, (cells2t hb3.bw).1.2, (cells2t hb3.bs).1.1, (cells2t hb3.bs).1.2⟩
    obtain ⟨⟨z0, z1⟩, y0, y1⟩ := cells2t hb3.z1
    obtain ⟨⟨z2, z3⟩, y2, y3⟩ := cells2t hb3.z2
    clear hw1
    (refine xtakeV 0 (v := ?_) (by simp only [List.getElem?_toArray, List.getElem?_cons, reduceIte]; rfl) (by kernel_rfl) (by rfl) (fun w' hw' => ?_) ?_; rotate_left; focus (have hc := hw'.1; have hd := hw'.2.1; go_simp; first | done | with_reducible rfl)); (simp only [Act.put, List.setIfInBounds_toArray, List.set])
    (refine xtakeV 1 (v := ?_) (by simp only [List.getElem?_toArray, List.getElem?_cons, reduceIte]; rfl) (by kernel_rfl) (by rfl) (fun w' hw' => ?_) ?_; rotate_left; focus (have hc := hw'.2.2.1; have hd := hw'.2.2.2; go_simp; first | done | with_reducible rfl)); (simp only [Act.put, List.setIfInBounds_toArray, List.set])
    (refine xone 2 (by kernel_rfl) (k3) (RunX.of 2 (by simp only [List.getElem?_toArray, List.getElem?_cons, reduceIte]; rfl) (by rfl) ?_))
    go_simp
    (try (simp only [Act.put, List.setIfInBounds_toArray, List.set]))
    have hb4 := hb3.setz1 (.slice a0 n0 c0) (.slice a1 n1 c1)
    have k4 := And.intro (cells2t hb4.bw).1.1 (And.intro (cells2t hb4.bw).1.2 (cells2t hb4.bs).1)
    have S5 := Lib.hid (S4.out.box (off_set2 w1 (w.heap.size + 3) (.slice a0 n0 c0) (.slice a1 n1 c1)) (fun i k hk => by rw [hk]; exact HN.out 3 i (by decide)) (fun k hk => by rw [hk]; exact HK0.out _ (Nat.le_add_right _ _)) (fun k hk => by rw [hk]; have := HW0.out; omega))
    clear z0 z1 y0 y1 z2 z3 y2 y3 k3
    obtain ⟨⟨z2, z3⟩, y2, y3⟩ := cells2t hb4.z2
    simp only [set2] at z2 z3 y2 y3
    (refine xone 3 (by kernel_rfl) (k4) (RunX.of 3 (by simp only [List.getElem?_toArray, List.getElem?_cons, reduceIte]; rfl) (by rfl) ?_))
    go_simp
    (try (simp only [Act.put, List.setIfInBounds_toArray, List.set]))
    have hb5 := hb4.setz2 (.slice a2 n2 c2) (.slice ya yn yc)
    have k5 := And.intro (cells2t hb5.bw).1.1 (And.intro (cells2t hb5.bw).1.2 (cells2t hb5.bs).1)
    have S6 := Lib.hid (S5.out.box (off_set2 (set2 w1 (w.heap.size + 3) (.slice a0 n0 c0) (.slice a1 n1 c1)) (w.heap.size + 4) (.slice a2 n2 c2) (.slice ya yn yc)) (fun i k hk => by rw [hk]; exact HN.out 4 i (by decide)) (fun k hk => by rw [hk]; exact HK0.out _ (Nat.le_add_right _ _)) (fun k hk => by rw [hk]; have := HW0.out; omega))
    clear z2 z3 y2 y3 k4
    (refine xtakeV 4 (v := ?_) (by simp only [List.getElem?_toArray, List.getElem?_cons, reduceIte]; rfl) (by kernel_rfl) (by rfl) (fun w' hw' => ?_) ?_; rotate_left; focus (skip; go_simp; first | done | with_reducible rfl)); (simp only [Act.put, List.setIfInBounds_toArray, List.set])
    (refine xdone (by kernel_rfl) (k5) ?_)
    obtain ⟨⟨z0, z1⟩, _⟩ := cells2t hb5.z1
    obtain ⟨⟨z2, z3⟩, _⟩ := cells2t hb5.z2
    simp only [set2] at z0 z1 z2 z3
    clear k5 hb3 hb4 hb5
    go_wp2_with fail
    refine bodyPost_ret (v := .tuple #[.agg #[.slice a0 n0 c0, .slice a1 n1 c1], .agg #[.slice a2 n2 c2, .slice ya yn yc], .bool true]) (by simp [results, Tryd.results11, go_sem, z0, z1, z2, z3]) rfl ?_
    exact ⟨_, _, by rw [two2_of (i := 0) HX2.out.1 HX2.out.2.1, two2_of (i := 2) HX2.out.2.2.1 HX2.out.2.2.2], S6.out⟩
end Go.Proofs.YtcjoemkplghonaaDoor
