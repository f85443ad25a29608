/- An act on a pipe: what goes out goes. -/
import Derived.Test.YtcjoemkplghonaaDoorMR
import Derived.BigGuard
namespace Go.Proofs.YtcjoemkplghonaaDoor
open Go.RowKit

set_option linter.unusedVariables false

set_option maxRecDepth 50000 in
set_option maxHeartbeats 8000000 in
theorem iplay_go0 (w0 wB w : World) (Kp : Nat → Prop) (hs : Std w0) (p : Nat) (P : PipeS) (L : Nat → List ByteArray) (x : Nat → SV) (F : Nat → Nat → Prop) (h : Wt w0 wB Kp w p P x L F) (an ax : Int) (ab : ByteArray) (Q : PipeS) (hQ : P.go 0 = Q) (N : Nat) (hN : P.goN 0 = N) (R : List ByteArray) (hR : Q.net.f 0 1 = R) (hNR : N ≤ R.length) (hL : (L 1).length ≤ 100000) :
    Calls Tryd.prog 11 #[.pointer (some ⟨p, 0, none⟩), .agg #[.int .i64 1, .int .i64 0, .int .i64 an, .int .i64 ax, .string ab], .agg (two2 x 0), .agg (two2 x 2)] w (PlayTo w0 wB Kp p Q (updA L 1 (L 1 ++ R.drop (R.length - N))) true) := by
  have H := Lib.hid h
  have HST := Lib.hid hs
  have HF : Hid (∀ j i, ¬ F i (w.heap.size + j)) := Lib.hid (fun j i hk => by have := (h.low i _ hk).2; omega)
  have HW0 : Hid (w0.heap.size ≤ w.heap.size) := Lib.hid h.ext.size
  have HK0 : Hid (∀ k, w.heap.size ≤ k → ¬ Kp k) := Lib.hid (fun k h1 h2 => by have := (h.kp k h2).1; have := h.kb; omega)
  obtain ⟨⟨a0, n0, c0⟩, h0⟩ : ∃ s, x 0 = s := ⟨_, rfl⟩
  obtain ⟨⟨a1, n1, c1⟩, h1⟩ : ∃ s, x 1 = s := ⟨_, rfl⟩
  obtain ⟨⟨a2, n2, c2⟩, h2⟩ : ∃ s, x 2 = s := ⟨_, rfl⟩
  obtain ⟨⟨a3, n3, c3⟩, h3⟩ : ∃ s, x 3 = s := ⟨_, rfl⟩
  unfold two2
  rw [h0, h1, h2, h3]
  have HX := Lib.hid (And.intro h0 (And.intro h1 (And.intro h2 h3)))
  dsimp only
  clear h hs h0 h1 h2 h3
  have HQ := Lib.hid hQ
  have HNQ := Lib.hid hN
  have HR := Lib.hid hR
  clear hQ hN hR
  go_enter Tryd.func11, Tryd.ntmps11
  (try dsimp only [List.append])
  go_wp2_with fail
  obtain ⟨W1, hW1⟩ : ∃ W, W = (five w #[.int .i64 1, .int .i64 0, .int .i64 an, .int .i64 ax, .string ab] #[.slice a0 n0 c0, .slice a1 n1 c1] #[.slice a2 n2 c2, .slice a3 n3 c3] zz zz) := ⟨_, rfl⟩
  have HB := Lib.hid (five_b5 w #[.int .i64 1, .int .i64 0, .int .i64 an, .int .i64 ax, .string ab] #[.slice a0 n0 c0, .slice a1 n1 c1] #[.slice a2 n2 c2, .slice a3 n3 c3] zz zz)
  have H1 := Lib.hid (H.out.more (five_ext w #[.int .i64 1, .int .i64 0, .int .i64 an, .int .i64 ax, .string ab] #[.slice a0 n0 c0, .slice a1 n1 c1] #[.slice a2 n2 c2, .slice a3 n3 c3] zz zz))
  rw [← hW1] at HB H1
  try change Calls _ _ _ (five w #[.int .i64 1, .int .i64 0, .int .i64 an, .int .i64 ax, .string ab] #[.slice a0 n0 c0, .slice a1 n1 c1] #[.slice a2 n2 c2, .slice a3 n3 c3] zz zz) _
  rw [← hW1]
  have cG := iGo (HST.out.ext H1.out.ext) H1.out.e 0
  rw [HQ.out, HNQ.out] at cG
  refine (cG).mono ?_
  rintro e w3 ⟨F3, rfl, nn, o, g⟩
  have HB3 := Lib.hid (HB.out.off o (fun i _ => HF.out i 0))
  have S3 := Lib.hid (H1.out.moves nn o g)
  have HN : Hid (∀ i j, i < 5 → ¬ upd F 0 F3 j (w.heap.size + i)) := Lib.hid (fun i j hi => nb_upd (HF.out i) (by have := HB.out.lt; omega) g j)
  clear cG nn o g hW1 HB H1
  dsimp only
  have hok := S3.out.e.ok.net
  have hRl : R.length ≤ 1000 := by have h1 := hok.few 0 1; have h2 := hok.rooms; rw [HR.out] at h1; omega
  have TH : Hid (∀ k : Nat, Q.there 1 (k : Int) = decide (k < R.length)) := Lib.hid (fun k => by
    unfold PipeS.there NetS.there
    rw [show (1 - 1 : Int) = 0 from rfl, HR.out]
    simp)
  have LK : Hid (∀ k : Nat, k < R.length → Q.look 1 (k : Int) = R.getD k ⟨#[]⟩) := Lib.hid (fun k hk => by
    unfold PipeS.look NetS.look
    rw [show Q.net.there (1 - 1) 1 (k : Int) = true from (TH.out k).trans (decide_eq_true hk), if_pos rfl, show (1 - 1 : Int) = 0 from rfl, HR.out, Int.toNat_natCast])
  clear hok
  obtain ⟨d0, d1, d2, d3, d4⟩ := cells5t HB3.out.ba
  go_wp2
  go_loopw [13, 14] (fun u i wr => ∃ (k : Nat) (F4 : Nat → Nat → Prop), k ≤ 1001 ∧ i = .int .i64 (k : Int) ∧ u = .int .i64 ((min k R.length : Nat) : Int) ∧ Hid (Wt w0 wB Kp wr p Q x L F4) ∧ Hid (B5 w.heap.size #[.int .i64 1, .int .i64 0, .int .i64 an, .int .i64 ax, .string ab] #[.slice a0 n0 c0, .slice a1 n1 c1] #[.slice a2 n2 c2, .slice a3 n3 c3] zz zz wr) ∧ Hid (∀ i j, i < 5 → ¬ F4 j (w.heap.size + i))) (fun _ i _ => 1001 - (intOf i).toNat)
  case atStart => exact ⟨0, _, Nat.zero_le _, rfl, by rw [Nat.zero_min]; rfl, S3, HB3, HN⟩
  case round =>
    obtain ⟨k, F4, hk, rfl, rfl, HW, HBB, HNN⟩ := hrel
    clear S3 HB3 HN d0 d1 d2 d3 d4
    by_cases hlt : k < 1001
    · have hki : (k : Int) < 1001 := by omega
      have hn1 : IntKind.i64.wrap ((k : Int) + 1) = (k : Int) + 1 := wrapN _ (by omega) (by omega)
      have cL := iLook HW.out.e 1 (k : Int)
      rw [TH.out k] at cL
      obtain ⟨M, hM⟩ : ∃ M, M = min k R.length := ⟨_, rfl⟩
      rw [← hM]
      by_cases hr : k < R.length
      · rw [decide_eq_true hr] at cL
        have hm : min (k + 1) R.length = M + 1 := by omega
        have hn2 : IntKind.i64.wrap ((M : Int) + 1) = (M : Int) + 1 := wrapN _ (by omega) (by omega)
        have HM := Lib.hid hm
        clear hM hm
        go_wp2_with fail
        refine cL.mono ?_
        rintro ev w5 ⟨F5, rfl, nn, oo, g⟩
        have HB5 := Lib.hid (HBB.out.off oo (fun i hi => HNN.out i 0 hi))
        have S5 := Lib.hid (HW.out.moves nn oo g)
        have HN5 : Hid (∀ i j, i < 5 → ¬ upd F4 0 F5 j (w.heap.size + i)) := Lib.hid (fun i j hi => nb_upd (fun j => HNN.out i j hi) (by have := HBB.out.lt; omega) g j)
        clear nn oo g
        dsimp only
        go_wp2
        exact ⟨⟨k + 1, _, hlt, by go_num, by rw [HM.out]; go_num, S5, HB5, HN5⟩, by simp [intOf]; omega⟩
      · rw [decide_eq_false hr] at cL
        have hm : min (k + 1) R.length = M := by omega
        have HM := Lib.hid hm
        clear hM hm
        go_wp2_with fail
        refine cL.mono ?_
        rintro ev w5 ⟨F5, rfl, nn, oo, g⟩
        have HB5 := Lib.hid (HBB.out.off oo (fun i hi => HNN.out i 0 hi))
        have S5 := Lib.hid (HW.out.moves nn oo g)
        have HN5 : Hid (∀ i j, i < 5 → ¬ upd F4 0 F5 j (w.heap.size + i)) := Lib.hid (fun i j hi => nb_upd (fun j => HNN.out i j hi) (by have := HBB.out.lt; omega) g j)
        clear nn oo g
        dsimp only
        go_wp2
        exact ⟨⟨k + 1, _, hlt, by go_num, by rw [HM.out], S5, HB5, HN5⟩, by simp [intOf]; omega⟩
    · have hki : ¬ (k : Int) < 1001 := by omega
      have hM : min k R.length = R.length := by omega
      rw [hM]
      have hw9 : IntKind.i64.wrap ((R.length : Int) - (N : Int)) = ((R.length - N : Nat) : Int) := by rw [wrapN _ (by omega) (by omega)]; omega
      clear hM hlt
      go_wp2
      go_loopw [17] (fun i wr => ∃ (j : Nat) (y : SV) (F4 : Nat → Nat → Prop), R.length - N ≤ j ∧ j ≤ R.length ∧ i = .int .i64 (j : Int) ∧ Hid (Wt w0 wB Kp wr p Q (updA x 1 y) (updA L 1 (L 1 ++ (R.drop (R.length - N)).take (j - (R.length - N)))) F4) ∧ Hid (B5 w.heap.size #[.int .i64 1, .int .i64 0, .int .i64 an, .int .i64 ax, .string ab] #[.slice a0 n0 c0, .slice y.ao y.n y.c] #[.slice a2 n2 c2, .slice a3 n3 c3] zz zz wr) ∧ Hid (∀ i j, i < 5 → ¬ F4 j (w.heap.size + i))) (fun i _ => R.length - (intOf i).toNat)
      case atStart => exact ⟨R.length - N, ⟨a1, n1, c1⟩, _, Nat.le_refl _, Nat.sub_le _ _, rfl, Lib.hid (by rw [Nat.sub_self, List.take_zero, List.append_nil, updA_id, ← HX.out.2.1, updA_id]; exact HW.out), HBB, HNN⟩
      case round =>
        obtain ⟨j, y, F4, hj0, hj, rfl, HW, HBB, HNN⟩ := hrel
        obtain ⟨ya, yn, yc⟩ := y
        dsimp only at HBB
        by_cases hlt : j < R.length
        · have hjr : (j : Int) < (R.length : Int) := by omega
          have hn1 : IntKind.i64.wrap ((j : Int) + 1) = (j : Int) + 1 := wrapN _ (by omega) (by omega)
          have cL := iLook HW.out.e 1 (j : Int)
          rw [TH.out j, decide_eq_true hlt, LK.out j hlt] at cL
          have ht := take_drop_snoc R (R.length - N) j hj0 hlt
          obtain ⟨b, hb⟩ : ∃ b, b = R.getD j ⟨#[]⟩ := ⟨_, rfl⟩
          rw [← hb] at cL ht
          have HT := Lib.hid ht
          clear hb ht
          go_wp2_with fail
          refine cL.mono ?_
          rintro ev w5 ⟨F5, rfl, nn, oo, g⟩
          have HB5 := Lib.hid (HBB.out.off oo (fun i hi => HNN.out i 0 hi))
          have S5 := Lib.hid (HW.out.moves nn oo g)
          have HN5 : Hid (∀ i j, i < 5 → ¬ upd F4 0 F5 j (w.heap.size + i)) := Lib.hid (fun i j hi => nb_upd (fun j => HNN.out i j hi) (by have := HBB.out.lt; omega) g j)
          clear nn oo g
          dsimp only
          obtain ⟨⟨d0, d1⟩, _⟩ := cells2t HB5.out.bw
          have own := S5.out.own (i := 1) (by decide) (updA_at _ _ _)
          rw [updA_at] at own
          have OWN := Lib.hid own
          have hlen : (L 1 ++ (R.drop (R.length - N)).take (j - (R.length - N))).length ≤ 200000 := by rw [List.length_append, List.length_take, List.length_drop]; omega
          clear own cL
          go_wp2_with (
            ((at_builtin; refine wpList_append_sl (α := ByteArray) rfl (.tmp 105) (.tmp 107) rfl w0.heap.size (.slice ya yn yc) (L 1 ++ (R.drop (R.length - N)).take (j - (R.length - N))) rfl ?_ (.slice (some ⟨w5.heap.size, 0, none⟩) 1 1) [b] rfl ?_ ?_ ?_ ?_; exact (OWN.out.1.alloc _); exact (Sl.litAt w5 _ rfl [b] (show (1 : Nat) ≤ 1000000 by decide)); (first | omega | (simp; omega)); (have := S5.out.ext.size; rw [size_alloc]; omega); intro v2 W2 ho2 ha2; have S55 := S5.out.more ((Ext.refl w5).alloc (.cells #[.string b] 9))))
            obtain ⟨za, zn, zc, rfl⟩ := ho2.sh
            have h6 := (HB5.out.ext ((Ext.refl w5).alloc (.cells #[.string b] 9))).off (off_apd (x := ⟨ya, yn, yc⟩) (G := upd F4 0 F5 2) ha2 (fun b hb => OWN.out.2 b hb)) (fun i hi => HN5.out i 2 hi)
            have S6 := S55.put' (i := 1) (by decide) (y := ⟨za, zn, zc⟩) (updA_at _ _ _) ho2 ha2
            rw [updA_updA, updA_updA, List.append_assoc, ← HT.out] at S6
            have HG6 := grows_apd (x := ⟨ya, yn, yc⟩) (y := ⟨za, zn, zc⟩) (G := upd F4 0 F5 2) ha2 (fun b hb => OWN.out.2 b hb)
            have HN6 : Hid (∀ i j, i < 5 → ¬ upd (upd F4 0 F5) 2 (ob ⟨za, zn, zc⟩) j (w.heap.size + i)) := Lib.hid (fun i j hi => nb_upd (fun j => HN5.out i j hi) (by rw [size_alloc]; have := HB5.out.lt; omega) HG6 j)
            have S7 := Lib.hid (S6.box (off_set W2 ⟨w.heap.size + 1, 1, none⟩ (.slice za zn zc)) (fun i k hk => by rw [hk]; exact HN6.out 1 i (by decide)) (fun k hk => by rw [hk]; exact HK0.out _ (Nat.le_add_right _ _)) (fun k hk => by rw [hk]; show w0.heap.size ≤ w.heap.size + 1; have := HW0.out; omega))
            have h7 := h6.setw 1 (.slice za zn zc)
            simp only [List.setIfInBounds_toArray, List.set_cons_succ, List.set_cons_zero] at h7
            have HB7 := Lib.hid h7
            clear d0 d1
            obtain ⟨⟨d0, d1⟩, y0, y1⟩ := cells2t h6.bw
            clear S6 S55 HG6 h6 h7 ho2 ha2 S5 HB5 HN5 HW HBB HNN OWN hlen)
          go_wp2
          exact ⟨⟨j + 1, ⟨za, zn, zc⟩, _, by omega, hlt, by go_num, S7, HB7, HN6⟩, by simp [intOf]; omega⟩
        · have hjr : ¬ (j : Int) < (R.length : Int) := by omega
          have hje : j = R.length := by omega
          subst hje
          have hT : (R.drop (R.length - N)).take (R.length - (R.length - N)) = R.drop (R.length - N) := List.take_of_length_le (by rw [List.length_drop]; omega)
          rw [hT] at HW
          have HB3 := HBB
          have S3 := HW
          have HN := HNN
          have HX2 : Hid (updA x 1 ⟨ya, yn, yc⟩ 0 = ⟨a0, n0, c0⟩ ∧ updA x 1 ⟨ya, yn, yc⟩ 1 = ⟨ya, yn, yc⟩ ∧ updA x 1 ⟨ya, yn, yc⟩ 2 = ⟨a2, n2, c2⟩ ∧ updA x 1 ⟨ya, yn, yc⟩ 3 = ⟨a3, n3, c3⟩) := Lib.hid ⟨HX.out.1, rfl, HX.out.2.2.1, HX.out.2.2.2⟩
          clear HW HBB HNN hT hj hj0 hlt
          go_wp2_with fail
          (refine wp_region_X_lit (K := fun W => W.cell? ⟨w.heap.size + 1, 0, none⟩ = some (.slice a0 n0 c0) ∧ W.cell? ⟨w.heap.size + 1, 1, none⟩ = some (.slice ya yn yc) ∧ W.cell? ⟨w.heap.size + 2, 0, none⟩ = some (.slice a2 n2 c2) ∧ W.cell? ⟨w.heap.size + 2, 1, none⟩ = some (.slice a3 n3 c3)) (by kernel_rfl) (fun w1 hw1 => ?_))
          have hb3 := HB3.out.ext hw1
          have S4 := Lib.hid (S3.out.more hw1)
          have k3 : w1.cell? ⟨w.heap.size + 1, 0, none⟩ = some (.slice a0 n0 c0) ∧ w1.cell? ⟨w.heap.size + 1, 1, none⟩ = some (.slice ya yn yc) ∧ w1.cell? ⟨w.heap.size + 2, 0, none⟩ = some (.slice a2 n2 c2) ∧ w1.cell? ⟨w.heap.size + 2, 1, none⟩ = some (.slice a3 n3 c3) := ⟨(cells2t hb3.bw).1.1, (cells2t hb3.bw).1.2, (cells2t hb3.bs).1.1, (cells2t hb3.bs).1.2⟩
          obtain ⟨⟨z0, z1⟩, y0, y1⟩ := cells2t hb3.z1
          obtain ⟨⟨z2, z3⟩, y2, y3⟩ := cells2t hb3.z2
          clear hw1
          (refine xtakeV 0 (v := ?_) (by simp only [List.getElem?_toArray, List.getElem?_cons, reduceIte]; rfl) (by kernel_rfl) (by rfl) (fun w' hw' => ?_) ?_; rotate_left; focus (have hc := hw'.1; have hd := hw'.2.1; go_simp; first | done | with_reducible rfl)); (simp only [Act.put, List.setIfInBounds_toArray, List.set])
          (refine xtakeV 1 (v := ?_) (by simp only [List.getElem?_toArray, List.getElem?_cons, reduceIte]; rfl) (by kernel_rfl) (by rfl) (fun w' hw' => ?_) ?_; rotate_left; focus (have hc := hw'.2.2.1; have hd := hw'.2.2.2; go_simp; first | done | with_reducible rfl)); (simp only [Act.put, List.setIfInBounds_toArray, List.set])
          (refine xone 2 (by kernel_rfl) (k3) (RunX.of 2 (by simp only [List.getElem?_toArray, List.getElem?_cons, reduceIte]; rfl) (by rfl) ?_))
          go_simp
          (try (simp only [Act.put, List.setIfInBounds_toArray, List.set]))
          have hb4 := hb3.setz1 (.slice a0 n0 c0) (.slice ya yn yc)
          have k4 := And.intro (cells2t hb4.bw).1.1 (And.intro (cells2t hb4.bw).1.2 (cells2t hb4.bs).1)
          have S5 := Lib.hid (S4.out.box (off_set2 w1 (w.heap.size + 3) (.slice a0 n0 c0) (.slice ya yn yc)) (fun i k hk => by rw [hk]; exact HN.out 3 i (by decide)) (fun k hk => by rw [hk]; exact HK0.out _ (Nat.le_add_right _ _)) (fun k hk => by rw [hk]; have := HW0.out; omega))
          clear z0 z1 y0 y1 z2 z3 y2 y3 k3
          obtain ⟨⟨z2, z3⟩, y2, y3⟩ := cells2t hb4.z2
          simp only [set2] at z2 z3 y2 y3
          (refine xone 3 (by kernel_rfl) (k4) (RunX.of 3 (by simp only [List.getElem?_toArray, List.getElem?_cons, reduceIte]; rfl) (by rfl) ?_))
          go_simp
          (try (simp only [Act.put, List.setIfInBounds_toArray, List.set]))
          have hb5 := hb4.setz2 (.slice a2 n2 c2) (.slice a3 n3 c3)
          have k5 := And.intro (cells2t hb5.bw).1.1 (And.intro (cells2t hb5.bw).1.2 (cells2t hb5.bs).1)
          have S6 := Lib.hid (S5.out.box (off_set2 (set2 w1 (w.heap.size + 3) (.slice a0 n0 c0) (.slice ya yn yc)) (w.heap.size + 4) (.slice a2 n2 c2) (.slice a3 n3 c3)) (fun i k hk => by rw [hk]; exact HN.out 4 i (by decide)) (fun k hk => by rw [hk]; exact HK0.out _ (Nat.le_add_right _ _)) (fun k hk => by rw [hk]; have := HW0.out; omega))
          clear z2 z3 y2 y3 k4
          (refine xtakeV 4 (v := ?_) (by simp only [List.getElem?_toArray, List.getElem?_cons, reduceIte]; rfl) (by kernel_rfl) (by rfl) (fun w' hw' => ?_) ?_; rotate_left; focus (skip; go_simp; first | done | with_reducible rfl)); (simp only [Act.put, List.setIfInBounds_toArray, List.set])
          (refine xdone (by kernel_rfl) (k5) ?_)
          obtain ⟨⟨z0, z1⟩, _⟩ := cells2t hb5.z1
          obtain ⟨⟨z2, z3⟩, _⟩ := cells2t hb5.z2
          simp only [set2] at z0 z1 z2 z3
          clear k5 hb3 hb4 hb5
          go_wp2_with fail
          refine bodyPost_ret (v := .tuple #[.agg #[.slice a0 n0 c0, .slice ya yn yc], .agg #[.slice a2 n2 c2, .slice a3 n3 c3], .bool true]) (by simp [results, Tryd.results11, go_sem, z0, z1, z2, z3]) rfl ?_
          exact ⟨_, _, by rw [two2_of (i := 0) HX2.out.1 HX2.out.2.1, two2_of (i := 2) HX2.out.2.2.1 HX2.out.2.2.2], S6.out⟩

set_option maxRecDepth 50000 in
set_option maxHeartbeats 8000000 in
theorem iplay_go1 (w0 wB w : World) (Kp : Nat → Prop) (hs : Std w0) (p : Nat) (P : PipeS) (L : Nat → List ByteArray) (x : Nat → SV) (F : Nat → Nat → Prop) (h : Wt w0 wB Kp w p P x L F) (an ax : Int) (ab : ByteArray) (Q : PipeS) (hQ : P.go 1 = Q) (N : Nat) (hN : P.goN 1 = N) (R : List ByteArray) (hR : Q.net.f 1 0 = R) (hNR : N ≤ R.length) (hL : (L 0).length ≤ 100000) :
    Calls Tryd.prog 11 #[.pointer (some ⟨p, 0, none⟩), .agg #[.int .i64 1, .int .i64 1, .int .i64 an, .int .i64 ax, .string ab], .agg (two2 x 0), .agg (two2 x 2)] w (PlayTo w0 wB Kp p Q (updA L 0 (L 0 ++ R.drop (R.length - N))) true) := by
  have H := Lib.hid h
  have HST := Lib.hid hs
  have HF : Hid (∀ j i, ¬ F i (w.heap.size + j)) := Lib.hid (fun j i hk => by have := (h.low i _ hk).2; omega)
  have HW0 : Hid (w0.heap.size ≤ w.heap.size) := Lib.hid h.ext.size
  have HK0 : Hid (∀ k, w.heap.size ≤ k → ¬ Kp k) := Lib.hid (fun k h1 h2 => by have := (h.kp k h2).1; have := h.kb; omega)
  obtain ⟨⟨a0, n0, c0⟩, h0⟩ : ∃ s, x 0 = s := ⟨_, rfl⟩
  obtain ⟨⟨a1, n1, c1⟩, h1⟩ : ∃ s, x 1 = s := ⟨_, rfl⟩
  obtain ⟨⟨a2, n2, c2⟩, h2⟩ : ∃ s, x 2 = s := ⟨_, rfl⟩
  obtain ⟨⟨a3, n3, c3⟩, h3⟩ : ∃ s, x 3 = s := ⟨_, rfl⟩
  unfold two2
  rw [h0, h1, h2, h3]
  have HX := Lib.hid (And.intro h0 (And.intro h1 (And.intro h2 h3)))
  dsimp only
  clear h hs h0 h1 h2 h3
  have HQ := Lib.hid hQ
  have HNQ := Lib.hid hN
  have HR := Lib.hid hR
  clear hQ hN hR
  go_enter Tryd.func11, Tryd.ntmps11
  (try dsimp only [List.append])
  go_wp2_with fail
  obtain ⟨W1, hW1⟩ : ∃ W, W = (five w #[.int .i64 1, .int .i64 1, .int .i64 an, .int .i64 ax, .string ab] #[.slice a0 n0 c0, .slice a1 n1 c1] #[.slice a2 n2 c2, .slice a3 n3 c3] zz zz) := ⟨_, rfl⟩
  have HB := Lib.hid (five_b5 w #[.int .i64 1, .int .i64 1, .int .i64 an, .int .i64 ax, .string ab] #[.slice a0 n0 c0, .slice a1 n1 c1] #[.slice a2 n2 c2, .slice a3 n3 c3] zz zz)
  have H1 := Lib.hid (H.out.more (five_ext w #[.int .i64 1, .int .i64 1, .int .i64 an, .int .i64 ax, .string ab] #[.slice a0 n0 c0, .slice a1 n1 c1] #[.slice a2 n2 c2, .slice a3 n3 c3] zz zz))
  rw [← hW1] at HB H1
  try change Calls _ _ _ (five w #[.int .i64 1, .int .i64 1, .int .i64 an, .int .i64 ax, .string ab] #[.slice a0 n0 c0, .slice a1 n1 c1] #[.slice a2 n2 c2, .slice a3 n3 c3] zz zz) _
  rw [← hW1]
  have cG := iGo (HST.out.ext H1.out.ext) H1.out.e 1
  rw [HQ.out, HNQ.out] at cG
  refine (cG).mono ?_
  rintro e w3 ⟨F3, rfl, nn, o, g⟩
  have HB3 := Lib.hid (HB.out.off o (fun i _ => HF.out i 0))
  have S3 := Lib.hid (H1.out.moves nn o g)
  have HN : Hid (∀ i j, i < 5 → ¬ upd F 0 F3 j (w.heap.size + i)) := Lib.hid (fun i j hi => nb_upd (HF.out i) (by have := HB.out.lt; omega) g j)
  clear cG nn o g hW1 HB H1
  dsimp only
  have hok := S3.out.e.ok.net
  have hRl : R.length ≤ 1000 := by have h1 := hok.few 1 0; have h2 := hok.rooms; rw [HR.out] at h1; omega
  have TH : Hid (∀ k : Nat, Q.there 0 (k : Int) = decide (k < R.length)) := Lib.hid (fun k => by
    unfold PipeS.there NetS.there
    rw [show (1 - 0 : Int) = 1 from rfl, HR.out]
    simp)
  have LK : Hid (∀ k : Nat, k < R.length → Q.look 0 (k : Int) = R.getD k ⟨#[]⟩) := Lib.hid (fun k hk => by
    unfold PipeS.look NetS.look
    rw [show Q.net.there (1 - 0) 0 (k : Int) = true from (TH.out k).trans (decide_eq_true hk), if_pos rfl, show (1 - 0 : Int) = 1 from rfl, HR.out, Int.toNat_natCast])
  clear hok
  obtain ⟨d0, d1, d2, d3, d4⟩ := cells5t HB3.out.ba
  go_wp2
  go_loopw [13, 14] (fun u i wr => ∃ (k : Nat) (F4 : Nat → Nat → Prop), k ≤ 1001 ∧ i = .int .i64 (k : Int) ∧ u = .int .i64 ((min k R.length : Nat) : Int) ∧ Hid (Wt w0 wB Kp wr p Q x L F4) ∧ Hid (B5 w.heap.size #[.int .i64 1, .int .i64 1, .int .i64 an, .int .i64 ax, .string ab] #[.slice a0 n0 c0, .slice a1 n1 c1] #[.slice a2 n2 c2, .slice a3 n3 c3] zz zz wr) ∧ Hid (∀ i j, i < 5 → ¬ F4 j (w.heap.size + i))) (fun _ i _ => 1001 - (intOf i).toNat)
  case atStart => exact ⟨0, _, Nat.zero_le _, rfl, by rw [Nat.zero_min]; rfl, S3, HB3, HN⟩
  case round =>
    obtain ⟨k, F4, hk, rfl, rfl, HW, HBB, HNN⟩ := hrel
    clear S3 HB3 HN d0 d1 d2 d3 d4
    by_cases hlt : k < 1001
    · have hki : (k : Int) < 1001 := by omega
      have hn1 : IntKind.i64.wrap ((k : Int) + 1) = (k : Int) + 1 := wrapN _ (by omega) (by omega)
      have cL := iLook HW.out.e 0 (k : Int)
      rw [TH.out k] at cL
      obtain ⟨M, hM⟩ : ∃ M, M = min k R.length := ⟨_, rfl⟩
      rw [← hM]
      by_cases hr : k < R.length
      · rw [decide_eq_true hr] at cL
        have hm : min (k + 1) R.length = M + 1 := by omega
        have hn2 : IntKind.i64.wrap ((M : Int) + 1) = (M : Int) + 1 := wrapN _ (by omega) (by omega)
        have HM := Lib.hid hm
        clear hM hm
        go_wp2_with fail
        refine cL.mono ?_
        rintro ev w5 ⟨F5, rfl, nn, oo, g⟩
        have HB5 := Lib.hid (HBB.out.off oo (fun i hi => HNN.out i 0 hi))
        have S5 := Lib.hid (HW.out.moves nn oo g)
        have HN5 : Hid (∀ i j, i < 5 → ¬ upd F4 0 F5 j (w.heap.size + i)) := Lib.hid (fun i j hi => nb_upd (fun j => HNN.out i j hi) (by have := HBB.out.lt; omega) g j)
        clear nn oo g
        dsimp only
        go_wp2
        exact ⟨⟨k + 1, _, hlt, by go_num, by rw [HM.out]; go_num, S5, HB5, HN5⟩, by simp [intOf]; omega⟩
      · rw [decide_eq_false hr] at cL
        have hm : min (k + 1) R.length = M := by omega
        have HM := Lib.hid hm
        clear hM hm
        go_wp2_with fail
        refine cL.mono ?_
        rintro ev w5 ⟨F5, rfl, nn, oo, g⟩
        have HB5 := Lib.hid (HBB.out.off oo (fun i hi => HNN.out i 0 hi))
        have S5 := Lib.hid (HW.out.moves nn oo g)
        have HN5 : Hid (∀ i j, i < 5 → ¬ upd F4 0 F5 j (w.heap.size + i)) := Lib.hid (fun i j hi => nb_upd (fun j => HNN.out i j hi) (by have := HBB.out.lt; omega) g j)
        clear nn oo g
        dsimp only
        go_wp2
        exact ⟨⟨k + 1, _, hlt, by go_num, by rw [HM.out], S5, HB5, HN5⟩, by simp [intOf]; omega⟩
    · have hki : ¬ (k : Int) < 1001 := by omega
      have hM : min k R.length = R.length := by omega
      rw [hM]
      have hw9 : IntKind.i64.wrap ((R.length : Int) - (N : Int)) = ((R.length - N : Nat) : Int) := by rw [wrapN _ (by omega) (by omega)]; omega
      clear hM hlt
      go_wp2
      go_loopw [17] (fun i wr => ∃ (j : Nat) (y : SV) (F4 : Nat → Nat → Prop), R.length - N ≤ j ∧ j ≤ R.length ∧ i = .int .i64 (j : Int) ∧ Hid (Wt w0 wB Kp wr p Q (updA x 0 y) (updA L 0 (L 0 ++ (R.drop (R.length - N)).take (j - (R.length - N)))) F4) ∧ Hid (B5 w.heap.size #[.int .i64 1, .int .i64 1, .int .i64 an, .int .i64 ax, .string ab] #[.slice y.ao y.n y.c, .slice a1 n1 c1] #[.slice a2 n2 c2, .slice a3 n3 c3] zz zz wr) ∧ Hid (∀ i j, i < 5 → ¬ F4 j (w.heap.size + i))) (fun i _ => R.length - (intOf i).toNat)
      case atStart => exact ⟨R.length - N, ⟨a0, n0, c0⟩, _, Nat.le_refl _, Nat.sub_le _ _, rfl, Lib.hid (by rw [Nat.sub_self, List.take_zero, List.append_nil, updA_id, ← HX.out.1, updA_id]; exact HW.out), HBB, HNN⟩
      case round =>
        obtain ⟨j, y, F4, hj0, hj, rfl, HW, HBB, HNN⟩ := hrel
        obtain ⟨ya, yn, yc⟩ := y
        dsimp only at HBB
        by_cases hlt : j < R.length
        · have hjr : (j : Int) < (R.length : Int) := by omega
          have hn1 : IntKind.i64.wrap ((j : Int) + 1) = (j : Int) + 1 := wrapN _ (by omega) (by omega)
          have cL := iLook HW.out.e 0 (j : Int)
          rw [TH.out j, decide_eq_true hlt, LK.out j hlt] at cL
          have ht := take_drop_snoc R (R.length - N) j hj0 hlt
          obtain ⟨b, hb⟩ : ∃ b, b = R.getD j ⟨#[]⟩ := ⟨_, rfl⟩
          rw [← hb] at cL ht
          have HT := Lib.hid ht
          clear hb ht
          go_wp2_with fail
          refine cL.mono ?_
          rintro ev w5 ⟨F5, rfl, nn, oo, g⟩
          have HB5 := Lib.hid (HBB.out.off oo (fun i hi => HNN.out i 0 hi))
          have S5 := Lib.hid (HW.out.moves nn oo g)
          have HN5 : Hid (∀ i j, i < 5 → ¬ upd F4 0 F5 j (w.heap.size + i)) := Lib.hid (fun i j hi => nb_upd (fun j => HNN.out i j hi) (by have := HBB.out.lt; omega) g j)
          clear nn oo g
          dsimp only
          obtain ⟨⟨d0, d1⟩, _⟩ := cells2t HB5.out.bw
          have own := S5.out.own (i := 0) (by decide) (updA_at _ _ _)
          rw [updA_at] at own
          have OWN := Lib.hid own
          have hlen : (L 0 ++ (R.drop (R.length - N)).take (j - (R.length - N))).length ≤ 200000 := by rw [List.length_append, List.length_take, List.length_drop]; omega
          clear own cL
          go_wp2_with (
            ((at_builtin; refine wpList_append_sl (α := ByteArray) rfl (.tmp 105) (.tmp 107) rfl w0.heap.size (.slice ya yn yc) (L 0 ++ (R.drop (R.length - N)).take (j - (R.length - N))) rfl ?_ (.slice (some ⟨w5.heap.size, 0, none⟩) 1 1) [b] rfl ?_ ?_ ?_ ?_; exact (OWN.out.1.alloc _); exact (Sl.litAt w5 _ rfl [b] (show (1 : Nat) ≤ 1000000 by decide)); (first | omega | (simp; omega)); (have := S5.out.ext.size; rw [size_alloc]; omega); intro v2 W2 ho2 ha2; have S55 := S5.out.more ((Ext.refl w5).alloc (.cells #[.string b] 9))))
            obtain ⟨za, zn, zc, rfl⟩ := ho2.sh
            have h6 := (HB5.out.ext ((Ext.refl w5).alloc (.cells #[.string b] 9))).off (off_apd (x := ⟨ya, yn, yc⟩) (G := upd F4 0 F5 1) ha2 (fun b hb => OWN.out.2 b hb)) (fun i hi => HN5.out i 1 hi)
            have S6 := S55.put' (i := 0) (by decide) (y := ⟨za, zn, zc⟩) (updA_at _ _ _) ho2 ha2
            rw [updA_updA, updA_updA, List.append_assoc, ← HT.out] at S6
            have HG6 := grows_apd (x := ⟨ya, yn, yc⟩) (y := ⟨za, zn, zc⟩) (G := upd F4 0 F5 1) ha2 (fun b hb => OWN.out.2 b hb)
            have HN6 : Hid (∀ i j, i < 5 → ¬ upd (upd F4 0 F5) 1 (ob ⟨za, zn, zc⟩) j (w.heap.size + i)) := Lib.hid (fun i j hi => nb_upd (fun j => HN5.out i j hi) (by rw [size_alloc]; have := HB5.out.lt; omega) HG6 j)
            have S7 := Lib.hid (S6.box (off_set W2 ⟨w.heap.size + 1, 0, none⟩ (.slice za zn zc)) (fun i k hk => by rw [hk]; exact HN6.out 1 i (by decide)) (fun k hk => by rw [hk]; exact HK0.out _ (Nat.le_add_right _ _)) (fun k hk => by rw [hk]; show w0.heap.size ≤ w.heap.size + 1; have := HW0.out; omega))
            have h7 := h6.setw 0 (.slice za zn zc)
            simp only [List.setIfInBounds_toArray, List.set_cons_zero] at h7
            have HB7 := Lib.hid h7
            clear d0 d1
            obtain ⟨⟨d0, d1⟩, y0, y1⟩ := cells2t h6.bw
            clear S6 S55 HG6 h6 h7 ho2 ha2 S5 HB5 HN5 HW HBB HNN OWN hlen)
          go_wp2
          exact ⟨⟨j + 1, ⟨za, zn, zc⟩, _, by omega, hlt, by go_num, S7, HB7, HN6⟩, by simp [intOf]; omega⟩
        · have hjr : ¬ (j : Int) < (R.length : Int) := by omega
          have hje : j = R.length := by omega
          subst hje
          have hT : (R.drop (R.length - N)).take (R.length - (R.length - N)) = R.drop (R.length - N) := List.take_of_length_le (by rw [List.length_drop]; omega)
          rw [hT] at HW
          have HB3 := HBB
          have S3 := HW
          have HN := HNN
          have HX2 : Hid (updA x 0 ⟨ya, yn, yc⟩ 0 = ⟨ya, yn, yc⟩ ∧ updA x 0 ⟨ya, yn, yc⟩ 1 = ⟨a1, n1, c1⟩ ∧ updA x 0 ⟨ya, yn, yc⟩ 2 = ⟨a2, n2, c2⟩ ∧ updA x 0 ⟨ya, yn, yc⟩ 3 = ⟨a3, n3, c3⟩) := Lib.hid ⟨rfl, HX.out.2.1, HX.out.2.2.1, HX.out.2.2.2⟩
          clear HW HBB HNN hT hj hj0 hlt
          go_wp2_with fail
          (refine wp_region_X_lit (K := fun W => W.cell? ⟨w.heap.size + 1, 0, none⟩ = some (.slice ya yn yc) ∧ W.cell? ⟨w.heap.size + 1, 1, none⟩ = some (.slice a1 n1 c1) ∧ W.cell? ⟨w.heap.size + 2, 0, none⟩ = some (.slice a2 n2 c2) ∧ W.cell? ⟨w.heap.size + 2, 1, none⟩ = some (.slice a3 n3 c3)) (by kernel_rfl) (fun w1 hw1 => ?_))
          have hb3 := HB3.out.ext hw1
          have S4 := Lib.hid (S3.out.more hw1)
          have k3 : w1.cell? ⟨w.heap.size + 1, 0, none⟩ = some (.slice ya yn yc) ∧ w1.cell? ⟨w.heap.size + 1, 1, none⟩ = some (.slice a1 n1 c1) ∧ w1.cell? ⟨w.heap.size + 2, 0, none⟩ = some (.slice a2 n2 c2) ∧ w1.cell? ⟨w.heap.size + 2, 1, none⟩ = some (.slice a3 n3 c3) := ⟨(cells2t hb3.bw).1.1, (cells2t hb3.bw).1.2, (cells2t hb3.bs).1.1, (cells2t hb3.bs).1.2⟩
          obtain ⟨⟨z0, z1⟩, y0, y1⟩ := cells2t hb3.z1
          obtain ⟨⟨z2, z3⟩, y2, y3⟩ := cells2t hb3.z2
          clear hw1
          (refine xtakeV 0 (v := ?_) (by simp only [List.getElem?_toArray, List.getElem?_cons, reduceIte]; rfl) (by kernel_rfl) (by rfl) (fun w' hw' => ?_) ?_; rotate_left; focus (have hc := hw'.1; have hd := hw'.2.1; go_simp; first | done | with_reducible rfl)); (simp only [Act.put, List.setIfInBounds_toArray, List.set])
          (refine xtakeV 1 (v := ?_) (by simp only [List.getElem?_toArray, List.getElem?_cons, reduceIte]; rfl) (by kernel_rfl) (by rfl) (fun w' hw' => ?_) ?_; rotate_left; focus (have hc := hw'.2.2.1; have hd := hw'.2.2.2; go_simp; first | done | with_reducible rfl)); (simp only [Act.put, List.setIfInBounds_toArray, List.set])
          (refine xone 2 (by kernel_rfl) (k3) (RunX.of 2 (by simp only [List.getElem?_toArray, List.getElem?_cons, reduceIte]; rfl) (by rfl) ?_))
          go_simp
          (try (simp only [Act.put, List.setIfInBounds_toArray, List.set]))
          have hb4 := hb3.setz1 (.slice ya yn yc) (.slice a1 n1 c1)
          have k4 := And.intro (cells2t hb4.bw).1.1 (And.intro (cells2t hb4.bw).1.2 (cells2t hb4.bs).1)
          have S5 := Lib.hid (S4.out.box (off_set2 w1 (w.heap.size + 3) (.slice ya yn yc) (.slice a1 n1 c1)) (fun i k hk => by rw [hk]; exact HN.out 3 i (by decide)) (fun k hk => by rw [hk]; exact HK0.out _ (Nat.le_add_right _ _)) (fun k hk => by rw [hk]; have := HW0.out; omega))
          clear z0 z1 y0 y1 z2 z3 y2 y3 k3
          obtain ⟨⟨z2, z3⟩, y2, y3⟩ := cells2t hb4.z2
          simp only [set2] at z2 z3 y2 y3
          (refine xone 3 (by kernel_rfl) (k4) (RunX.of 3 (by simp only [List.getElem?_toArray, List.getElem?_cons, reduceIte]; rfl) (by rfl) ?_))
          go_simp
          (try (simp only [Act.put, List.setIfInBounds_toArray, List.set]))
          have hb5 := hb4.setz2 (.slice a2 n2 c2) (.slice a3 n3 c3)
          have k5 := And.intro (cells2t hb5.bw).1.1 (And.intro (cells2t hb5.bw).1.2 (cells2t hb5.bs).1)
          have S6 := Lib.hid (S5.out.box (off_set2 (set2 w1 (w.heap.size + 3) (.slice ya yn yc) (.slice a1 n1 c1)) (w.heap.size + 4) (.slice a2 n2 c2) (.slice a3 n3 c3)) (fun i k hk => by rw [hk]; exact HN.out 4 i (by decide)) (fun k hk => by rw [hk]; exact HK0.out _ (Nat.le_add_right _ _)) (fun k hk => by rw [hk]; have := HW0.out; omega))
          clear z2 z3 y2 y3 k4
          (refine xtakeV 4 (v := ?_) (by simp only [List.getElem?_toArray, List.getElem?_cons, reduceIte]; rfl) (by kernel_rfl) (by rfl) (fun w' hw' => ?_) ?_; rotate_left; focus (skip; go_simp; first | done | with_reducible rfl)); (simp only [Act.put, List.setIfInBounds_toArray, List.set])
          (refine xdone (by kernel_rfl) (k5) ?_)
          obtain ⟨⟨z0, z1⟩, _⟩ := cells2t hb5.z1
          obtain ⟨⟨z2, z3⟩, _⟩ := cells2t hb5.z2
          simp only [set2] at z0 z1 z2 z3
          clear k5 hb3 hb4 hb5
          go_wp2_with fail
          refine bodyPost_ret (v := .tuple #[.agg #[.slice ya yn yc, .slice a1 n1 c1], .agg #[.slice a2 n2 c2, .slice a3 n3 c3], .bool true]) (by simp [results, Tryd.results11, go_sem, z0, z1, z2, z3]) rfl ?_
          exact ⟨_, _, by rw [two2_of (i := 0) HX2.out.1 HX2.out.2.1, two2_of (i := 2) HX2.out.2.2.1 HX2.out.2.2.2], S6.out⟩
end Go.Proofs.YtcjoemkplghonaaDoor
