/- The document's nets: look, send. -/
import Derived.Test.YtjnnfnmapigagaaN2
import Derived.Test.YtjnnfnmapigagaaRegX
namespace Go.Proofs.Ytjnnfnmapigagaa
open Go.RowKit

theorem there_iff {S : NetS} {a b k : Int} : S.there a b k = true ↔ 0 ≤ k ∧ k < ((S.f a b).length : Int) := by
  unfold NetS.there
  simp only [Bool.and_eq_true, decide_eq_true_eq]
theorem may_iff {S : NetS} {a b : Int} : S.may a b = true ↔ S.two a b = true ∧ (S.f a b).length < S.room := by
  unfold NetS.may
  simp only [Bool.and_eq_true, decide_eq_true_eq]

/-- .. with its length told -/
theorem refRow_len (F : Nat → Prop) (w : World) (v : Value) (S : NetS) (m : Nat) (h : RNet F w v S m) (a b : Int) (l : List ByteArray) (hl : S.f a b = l) :
    Calls Try.prog 18 #[v, .int .i64 a, .int .i64 b] w fun e w' => ∃ ao c, e = .returned (.slice ao l.length c) ∧ Sa F w' (.slice ao l.length c) l ∧ Ext w w' := by
  refine (refRow_any F w v S m h a b).mono ?_
  rintro e w' ⟨ao, n, c, rfl, hs, x⟩
  rw [hl] at hs
  obtain ⟨ao', c', hv⟩ := hs.1.len
  simp only [Value.slice.injEq] at hv
  obtain ⟨rfl, rfl, rfl⟩ := hv
  exact ⟨_, _, rfl, hs, x⟩

set_option maxHeartbeats 800000 in
theorem refLook_any (F : Nat → Prop) (w : World) (v : Value) (S : NetS) (m : Nat) (h : RNet F w v S m) (a b k : Int) :
    Calls Try.prog 23 #[v, .int .i64 a, .int .i64 b, .int .i64 k] w fun e w' => e = .returned (.tuple #[.string (S.look a b k), .bool (S.there a b k)]) ∧ Ext w w' := by
  have cR := Lib.hid (fun W (x : Ext w W) => refRow_len F W v S m (h.ext x) a b _ rfl)
  obtain ⟨ao, n, c, L, rfl, _⟩ := h
  cases hr : S.there a b k
  · have hn : ¬ (0 ≤ k ∧ k < ((S.f a b).length : Int)) := fun h => by rw [there_iff.2 h] at hr; cases hr
    have HL := Lib.hid (show S.look a b k = ⟨#[]⟩ by unfold NetS.look; rw [if_neg (by rw [hr]; decide)])
    clear hr
    obtain ⟨l, hl⟩ : ∃ l, l = S.f a b := ⟨_, rfl⟩
    rw [← hl] at cR hn
    clear hl
    by_cases hk : k < 0
    all_goals
      go_enter Try.func23, Try.ntmps23
      go_wp2_with (first
        | (go_at_call 18; refine (cR.out _ (by repeat (first | exact Ext.refl _ | assumption | refine Ext.alloc ?_ _ | refine Ext.drew ?_ | refine Ext.drewN ?_ _))).mono ?_; rintro e w2 ⟨a2, c2, rfl, _, x2⟩; have Y2 := Lib.hid (Ext.trans ((Ext.refl w).alloc _) x2); clear x2))
      go_ret2
      exact ⟨by rw [HL.out]; rfl, Y2.out⟩
  · obtain ⟨h0, h1⟩ := there_iff.1 hr
    have HL := Lib.hid (show S.look a b k = (S.f a b).getD k.toNat ⟨#[]⟩ by unfold NetS.look; rw [if_pos hr])
    clear hr
    obtain ⟨l, hl⟩ : ∃ l, l = S.f a b := ⟨_, rfl⟩
    rw [← hl] at cR h1 HL
    clear hl
    obtain ⟨i, rfl⟩ := Int.eq_ofNat_of_zero_le h0
    rw [Int.toNat_natCast] at HL
    obtain ⟨t, ht⟩ : ∃ t, t = l.getD i ⟨#[]⟩ := ⟨_, rfl⟩
    rw [← ht] at HL
    have HT := Lib.hid ht
    clear ht
    go_enter Try.func23, Try.ntmps23
    go_wp2_with (first
      | (go_at_call 18; refine (cR.out _ (by repeat (first | exact Ext.refl _ | assumption | refine Ext.alloc ?_ _ | refine Ext.drew ?_ | refine Ext.drewN ?_ _))).mono ?_; rintro e w2 ⟨a2, c2, rfl, hs2, x2⟩; have Y2 := Lib.hid (Ext.trans ((Ext.refl w).alloc _) x2); have hv2 := hs2.1.texts; rcases hv2 with ⟨h9, _⟩ | ⟨g, off, c', hv, q1, q2, q3, q4, q5⟩; (rw [h9] at h1; simp at h1; omega); simp only [Value.slice.injEq] at hv; obtain ⟨rfl, _, rfl⟩ := hv; have kc := q5 i (by omega); rw [← HT.out] at kc; clear x2 hs2 q5))
    go_ret2
    exact ⟨by rw [HL.out]; rfl, Y2.out⟩

/-- three cells of a box, in every later world -/
theorem three_at {w W : World} {v0 v1 v2 : Value} {t : TypeId} (n : Nat) (hn : n = w.heap.size) (x : Ext (w.alloc (.cells #[v0, v1, v2] t)) W) : W.cell? ⟨n, 0, none⟩ = some v0 ∧ W.cell? ⟨n, 1, none⟩ = some v1 ∧ W.cell? ⟨n, 2, none⟩ = some v2 := by
  subst hn
  exact ⟨cell_at W x rfl, cell_at W x rfl, cell_at W x rfl⟩
/-- three cells of a block known whole, and that they may be written -/
theorem cells3 {W : World} {g : Nat} {v0 v1 v2 : Value} {t : TypeId} (h : W.heap[g]? = some (.cells #[v0, v1, v2] t (0, 0))) :
    (W.cell? ⟨g, 0, none⟩ = some v0 ∧ W.cell? ⟨g, 1, none⟩ = some v1 ∧ W.cell? ⟨g, 2, none⟩ = some v2) ∧ (W.frozen? ⟨g, 0, none⟩ = false ∧ W.frozen? ⟨g, 1, none⟩ = false ∧ W.frozen? ⟨g, 2, none⟩ = false) :=
  ⟨⟨blk_cell h 0 rfl, blk_cell h 1 rfl, blk_cell h 2 rfl⟩, blk_free h 0, blk_free h 1, blk_free h 2⟩
/-- three cells stored -/
def put3 (W : World) (g : Nat) (u0 u1 u2 : Value) : World := ((W.setCell ⟨g, 0, none⟩ u0).setCell ⟨g, 1, none⟩ u1).setCell ⟨g, 2, none⟩ u2
theorem put3_blk {W : World} {g : Nat} {v0 v1 v2 : Value} {t : TypeId} (h : W.heap[g]? = some (.cells #[v0, v1, v2] t (0, 0))) (u0 u1 u2 : Value) : (put3 W g u0 u1 u2).heap[g]? = some (.cells #[u0, u1, u2] t (0, 0)) := by
  have h2 := blk_set (blk_set (blk_set h 0 u0) 1 u1) 2 u2
  simpa [put3] using h2
theorem put3_below {B : Nat} {w W : World} {g : Nat} (x : Below B w W) (hg : B ≤ g) (u0 u1 u2 : Value) : Below B w (put3 W g u0 u1 u2) := below_set (below_set (below_set x hg _) hg _) hg _

theorem off_put3 (W : World) (g : Nat) (u0 u1 u2 : Value) : Off (fun k => k = g) W (put3 W g u0 u1 u2) :=
  ((off_set W ⟨g, 0, none⟩ u0).trans (off_set _ ⟨g, 1, none⟩ u1) (Grows.refl _ _)).trans (off_set _ ⟨g, 2, none⟩ u2) (Grows.refl _ _)
/-- a result of one's own, stored in one's own box -/
theorem RNet.stored {F : Nat → Prop} {W : World} {v : Value} {S : NetS} {m B : Nat} (h : RNet (fun k => F k ∨ (B ≤ k ∧ k < B + 2)) W v S m) (u0 u1 u2 : Value) : RNet F (put3 W (B + 1) u0 u1 u2) v S m :=
  h.off ((off_put3 W (B + 1) u0 u1 u2).mono fun k e => .inr (by omega)) fun _ hk => .inl (.inl hk)

/-- .. while all below stays -/
theorem three_below {V W : World} {v0 v1 v2 : Value} {t : TypeId} (n B : Nat) (hn : n < B) (x : V.heap[n]? = some (.cells #[v0, v1, v2] t)) (y : Below B V W) : W.heap[n]? = some (.cells #[v0, v1, v2] t) := (y.block n hn).trans x

set_option maxHeartbeats 1600000 in
theorem refSend_yes (F : Nat → Prop) (w : World) (hF : ∀ k, F k → k < w.heap.size) (v : Value) (S : NetS) (m : Nat) (h : RNet F w v S m) (hm : m ≤ 5000) (ok : S.Ok) (a b : Int) (s : ByteArray) (hr : S.may a b = true) :
    Calls Try.prog 14 #[v, .int .i64 a, .int .i64 b, .string s] w fun e w' => ∃ v', e = .returned (.tuple #[v', .bool true]) ∧ RNet F w' v' (S.put a b (S.f a b ++ [s])) (m + 1) ∧ Ext w w' := by
  obtain ⟨h1, h2⟩ := may_iff.1 hr
  have h3 := ok.few a b
  have h4 := ok.rooms
  have cN := fun W (x : Ext w W) => refNodes_any F W v S m (h.ext x) a b
  rw [h1] at cN
  replace cN := Lib.hid cN
  have cR := Lib.hid (fun W (x : Ext w W) => refRow_len F W v S m (h.ext x) a b _ rfl)
  have cW := Lib.hid (fun W (x : Ext w W) (hW : w.heap.size + 2 ≤ W.heap.size) ol nl cl (hl : Sa (fun k => F k ∨ (w.heap.size ≤ k ∧ k < w.heap.size + 2)) W (.slice ol nl cl) (S.f a b ++ [s])) => refWith_any (fun k => F k ∨ (w.heap.size ≤ k ∧ k < w.heap.size + 2)) W (fun k hk => by rcases hk with hk | hk; (have := hF k hk; have := x.size; omega); omega) v S m ((h.wide (fun k h1 h2 => by rcases h2 with h2 | h2; exact h2; omega)).ext x) hm a b ol nl cl (S.f a b ++ [s]) hl)
  have HF := Lib.hid hF
  obtain ⟨ao, n, c, L, rfl, _⟩ := h
  obtain ⟨l, hl⟩ : ∃ l, l = S.f a b := ⟨_, rfl⟩
  rw [← hl] at cR cW h2 h3 ⊢
  clear hl hr h1 hF
  have hn : ¬ (S.room : Int) ≤ (l.length : Int) := by omega
  go_enter Try.func14, Try.ntmps14
  go_wp2_with (first
    | (go_at_call 18; refine (cR.out _ (by repeat (first | exact Ext.refl _ | assumption | refine Ext.alloc ?_ _ | refine Ext.drew ?_ | refine Ext.drewN ?_ _))).mono ?_; rintro e w2 ⟨a2, c2, rfl, hs2, x2⟩; have X2 := Lib.hid x2; have HS2 := Lib.hid hs2; have k2 := three_at w.heap.size rfl (Ext.trans ((Ext.refl _).alloc _) x2); clear x2 hs2)
    | (go_at_call 29; refine (cN.out _ (Ext.trans (((Ext.refl w).alloc _).alloc _) X2.out)).mono ?_; rintro e w3 ⟨rfl, x3⟩; have X3 := Lib.hid (Ext.trans X2.out x3); have HS3 := Lib.hid (HS2.out.ext x3); have k3 := three_at w.heap.size rfl (Ext.trans ((Ext.refl _).alloc _) X3.out); clear x3))
  clear k2
  have HK : Hid (∀ W, Below (w.heap.size + 1) w3 W → W.cell? ⟨w.heap.size, 0, none⟩ = some (.int .i64 (S.n : Int)) ∧ W.cell? ⟨w.heap.size, 1, none⟩ = some (.int .i64 (S.room : Int)) ∧ W.cell? ⟨w.heap.size, 2, none⟩ = some (.slice ao n c)) := Lib.hid (fun W y => by
    have hb := (box2 (W := w3) (w := w) (X3.out.mono (by simp))).1
    have hb2 := (y.block w.heap.size (by omega)).trans hb
    exact ⟨blk_cell hb2 0 rfl, blk_cell hb2 1 rfl, blk_cell hb2 2 rfl⟩)
  have hs3 := X3.out.size
  rw [size_alloc, size_alloc] at hs3
  (refine wp_region_X_lit (K := fun W => W.cell? ⟨w.heap.size, 0, none⟩ = some (.int .i64 (S.n : Int)) ∧ W.cell? ⟨w.heap.size, 1, none⟩ = some (.int .i64 (S.room : Int)) ∧ W.cell? ⟨w.heap.size, 2, none⟩ = some (.slice ao n c)) (by kernel_rfl) (fun w1 hw1 => ?_))
  have HS4 := Lib.hid (HS3.out.ext hw1)
  have Y4 := Lib.hid (Below.mono hw1 hs3)
  have hs4 := hw1.size
  clear hw1
  (refine xtakeV 0 (v := ?_) (by simp only [List.getElem?_toArray, List.getElem?_cons, reduceIte]; rfl) (by kernel_rfl) (by rfl) (fun w' hw' => ?_) ?_; rotate_left; focus (obtain ⟨q0, q1, q2⟩ := hw'; go_simp; first | done | with_reducible rfl)); (simp only [Act.put, List.setIfInBounds_toArray, List.set])
  (refine xtakeV 1 (v := ?_) (by simp only [List.getElem?_toArray, List.getElem?_cons, reduceIte]; rfl) (by kernel_rfl) (by rfl) (fun w' hw' => ?_) ?_; rotate_left; focus (skip; go_simp; first | done | with_reducible rfl)); (simp only [Act.put, List.setIfInBounds_toArray, List.set])
  (refine xtakeV 2 (v := ?_) (by simp only [List.getElem?_toArray, List.getElem?_cons, reduceIte]; rfl) (by kernel_rfl) (by rfl) (fun w' hw' => ?_) ?_; rotate_left; focus (skip; go_simp; first | done | with_reducible rfl)); (simp only [Act.put, List.setIfInBounds_toArray, List.set])
  (refine xtakeV 4 (v := ?_) (by simp only [List.getElem?_toArray, List.getElem?_cons, reduceIte]; rfl) (by kernel_rfl) (by rfl) (fun w' hw' => ?_) ?_; rotate_left; focus (skip; go_simp; first | done | with_reducible rfl)); (simp only [Act.put, List.setIfInBounds_toArray, List.set])
  (refine xtakeV 6 (v := ?_) (by simp only [List.getElem?_toArray, List.getElem?_cons, reduceIte]; rfl) (by kernel_rfl) (by rfl) (fun w' hw' => ?_) ?_; rotate_left; focus (skip; go_simp; first | done | with_reducible rfl)); (simp only [Act.put, List.setIfInBounds_toArray, List.set])
  (refine xtwo 3 7 (by kernel_rfl) (HK.out _ (Y4.out.mono (Nat.le_succ _))) (RunX.of 3 (by simp only [List.getElem?_toArray, List.getElem?_cons, reduceIte]; rfl) (by rfl) ?_) (RunX.of 7 (by simp only [List.getElem?_toArray, List.getElem?_cons, reduceIte]; rfl) (by rfl) ?_))
  focus
    go_simp
    (try (simp only [Act.put, List.setIfInBounds_toArray, List.set]))
    have o3 : Ow (w1.alloc (.cells #[] 9)) (w.heap.size + 2) (.slice (some ⟨w1.heap.size, 0, none⟩) 0 0) ([] : List ByteArray) := Ow.litAt w1 _ _ rfl (by (first | omega | (have q5 := z5.out; omega) | (have q7 := z7.out; omega) | (have q5 := z5.out; have q7 := z7.out; omega))) [] (by simp)
    have y5 := Y4.out.alloc (by (first | omega | (have q5 := z5.out; omega) | (have q7 := z7.out; omega) | (have q5 := z5.out; have q7 := z7.out; omega))) (.cells #[] 9)
    have h5 := HS4.out.1.alloc (.cells #[] 9)
    have z5 := size_alloc w1 (.cells #[] 9)
    obtain ⟨wA, hA⟩ : ∃ wA, wA = w1.alloc (.cells #[] 9) := ⟨_, rfl⟩
    rw [← hA] at o3 y5 h5 z5 ⊢
    clear hA
    replace z5 := Lib.hid z5
    have O3 := Lib.hid o3
    have Y5 := Lib.hid y5
    have H5 := Lib.hid h5
    clear o3 y5 h5
    (refine xtwo 5 7 (by kernel_rfl) (HK.out _ (Y5.out.mono (Nat.le_succ _))) (RunX.of 5 (by simp only [List.getElem?_toArray, List.getElem?_cons, reduceIte]; rfl) (by rfl) ?_) (RunX.of 7 (by simp only [List.getElem?_toArray, List.getElem?_cons, reduceIte]; rfl) (by rfl) ?_))
    focus
      (refine wp_append_sl (α := ByteArray) (.tmp 31) (.tmp 32) rfl (w.heap.size + 2) (.slice (some ⟨w1.heap.size, 0, none⟩) 0 0) [] rfl ?_ _ l rfl ?_ ?_ ?_ ?_; exact O3.out; exact H5.out; (first | omega | (simp; omega)); (first | omega | (have q5 := z5.out; omega) | (have q7 := z7.out; omega) | (have q5 := z5.out; have q7 := z7.out; omega)); intro v6 w6 ho6 ha6; have O6 := Lib.hid ho6; have Y6 := Lib.hid (Y5.out.trans ha6.below); obtain ⟨a6, n6, c6, rfl⟩ := ho6.sh; have hs6 := ha6.below.size; clear ho6 ha6)
      (try (simp only [Act.put, List.setIfInBounds_toArray, List.set]))
      (refine xone 7 (by kernel_rfl) (HK.out _ (Y6.out.mono (Nat.le_succ _))) (RunX.of 7 (by simp only [List.getElem?_toArray, List.getElem?_cons, reduceIte]; rfl) (by rfl) ?_))
      go_simp
      (try (simp only [Act.put, List.setIfInBounds_toArray, List.set]))
      have O7 := Lib.hid (O6.out.alloc (.cells #[.string s] 9))
      have L7 := Lib.hid (Sl.litAt w6 _ rfl [s] (by simp))
      have Y7 := Lib.hid (Y6.out.alloc (by (first | omega | (have q5 := z5.out; omega) | (have q7 := z7.out; omega) | (have q5 := z5.out; have q7 := z7.out; omega))) (.cells #[.string s] 9))
      clear O6 Y6 H5 O3 Y5
    rotate_left
    focus
      go_simp
      (try (simp only [Act.put, List.setIfInBounds_toArray, List.set]))
      have l7 : Sl (wA.alloc (.cells #[.string s] 9)) (.slice (some ⟨wA.heap.size, 0, none⟩) 1 1) [s] := Sl.litAt wA _ rfl [s] (by simp)
      have o7 := O3.out.alloc (.cells #[.string s] 9)
      have y7 := Y5.out.alloc (by (first | omega | (have q5 := z5.out; omega) | (have q7 := z7.out; omega) | (have q5 := z5.out; have q7 := z7.out; omega))) (.cells #[.string s] 9)
      have h7 := H5.out.alloc (.cells #[.string s] 9)
      have z7 := size_alloc wA (.cells #[.string s] 9)
      obtain ⟨wB, hB⟩ : ∃ wB, wB = wA.alloc (.cells #[.string s] 9) := ⟨_, rfl⟩
      rw [← hB] at l7 o7 y7 h7 z7 ⊢
      clear hB
      replace z7 := Lib.hid z7
      have L5 := Lib.hid l7
      have O5 := Lib.hid o7
      have Y6 := Lib.hid y7
      have H6 := Lib.hid h7
      clear l7 o7 y7 h7
      (refine xone 5 (by kernel_rfl) (HK.out _ (Y6.out.mono (Nat.le_succ _))) (RunX.of 5 (by simp only [List.getElem?_toArray, List.getElem?_cons, reduceIte]; rfl) (by rfl) ?_))
      (refine wp_append_sl (α := ByteArray) (.tmp 31) (.tmp 32) rfl (w.heap.size + 2) (.slice (some ⟨w1.heap.size, 0, none⟩) 0 0) [] rfl ?_ _ l rfl ?_ ?_ ?_ ?_; exact O5.out; exact H6.out; (first | omega | (simp; omega)); (first | omega | (have q5 := z5.out; omega) | (have q7 := z7.out; omega) | (have q5 := z5.out; have q7 := z7.out; omega)); intro v6 w6 ho6 ha6; have O7 := Lib.hid ho6; have Y7 := Lib.hid (Y6.out.trans ha6.below); have L7 := Lib.hid (L5.out.grown ha6.grown (.inl (by have q5 := z5.out; have q7 := z7.out; simp [Value.ownBlock]; omega))); obtain ⟨a6, n6, c6, rfl⟩ := ho6.sh; have hs6 := ha6.below.size; clear ho6 ha6)
      (try (simp only [Act.put, List.setIfInBounds_toArray, List.set]))
      clear O5 Y6 H6 L5 H5 O3 Y5
  rotate_left 2
  focus
    go_simp
    (try (simp only [Act.put, List.setIfInBounds_toArray, List.set]))
    have l7 : Sl (w1.alloc (.cells #[.string s] 9)) (.slice (some ⟨w1.heap.size, 0, none⟩) 1 1) [s] := Sl.litAt w1 _ rfl [s] (by simp)
    have y7 := Y4.out.alloc (by (first | omega | (have q5 := z5.out; omega) | (have q7 := z7.out; omega) | (have q5 := z5.out; have q7 := z7.out; omega))) (.cells #[.string s] 9)
    have h7 := HS4.out.1.alloc (.cells #[.string s] 9)
    have z7 := size_alloc w1 (.cells #[.string s] 9)
    obtain ⟨wA, hA⟩ : ∃ wA, wA = w1.alloc (.cells #[.string s] 9) := ⟨_, rfl⟩
    rw [← hA] at l7 y7 h7 z7 ⊢
    clear hA
    replace z7 := Lib.hid z7
    have L5 := Lib.hid l7
    have Y5 := Lib.hid y7
    have H5 := Lib.hid h7
    clear l7 y7 h7
    (refine xone 3 (by kernel_rfl) (HK.out _ (Y5.out.mono (Nat.le_succ _))) (RunX.of 3 (by simp only [List.getElem?_toArray, List.getElem?_cons, reduceIte]; rfl) (by rfl) ?_))
    go_simp
    (try (simp only [Act.put, List.setIfInBounds_toArray, List.set]))
    have o3 : Ow (wA.alloc (.cells #[] 9)) (w.heap.size + 2) (.slice (some ⟨wA.heap.size, 0, none⟩) 0 0) ([] : List ByteArray) := Ow.litAt wA _ _ rfl (by (first | omega | (have q5 := z5.out; omega) | (have q7 := z7.out; omega) | (have q5 := z5.out; have q7 := z7.out; omega))) [] (by simp)
    have y5 := Y5.out.alloc (by (first | omega | (have q5 := z5.out; omega) | (have q7 := z7.out; omega) | (have q5 := z5.out; have q7 := z7.out; omega))) (.cells #[] 9)
    have h5 := H5.out.alloc (.cells #[] 9)
    have l5 := L5.out.alloc (.cells #[] 9)
    have z5 := size_alloc wA (.cells #[] 9)
    obtain ⟨wB, hB⟩ : ∃ wB, wB = wA.alloc (.cells #[] 9) := ⟨_, rfl⟩
    rw [← hB] at o3 y5 h5 z5 l5 ⊢
    clear hB
    replace z5 := Lib.hid z5
    have O3 := Lib.hid o3
    have Y6 := Lib.hid y5
    have H6 := Lib.hid h5
    have L6 := Lib.hid l5
    clear o3 y5 h5 l5
    (refine xone 5 (by kernel_rfl) (HK.out _ (Y6.out.mono (Nat.le_succ _))) (RunX.of 5 (by simp only [List.getElem?_toArray, List.getElem?_cons, reduceIte]; rfl) (by rfl) ?_))
    (refine wp_append_sl (α := ByteArray) (.tmp 31) (.tmp 32) rfl (w.heap.size + 2) (.slice (some ⟨wA.heap.size, 0, none⟩) 0 0) [] rfl ?_ _ l rfl ?_ ?_ ?_ ?_; exact O3.out; exact H6.out; (first | omega | (simp; omega)); (first | omega | (have q5 := z5.out; omega) | (have q7 := z7.out; omega) | (have q5 := z5.out; have q7 := z7.out; omega)); intro v6 w6 ho6 ha6; have O7 := Lib.hid ho6; have Y7 := Lib.hid (Y6.out.trans ha6.below); have L7 := Lib.hid (L6.out.grown ha6.grown (.inl (by have q5 := z5.out; have q7 := z7.out; simp [Value.ownBlock]; omega))); obtain ⟨a6, n6, c6, rfl⟩ := ho6.sh; have hs6 := ha6.below.size; clear ho6 ha6)
    (try (simp only [Act.put, List.setIfInBounds_toArray, List.set]))
    clear Y6 H6 L5 L6 H5 O3 Y5
  all_goals
    (refine xone 8 (by kernel_rfl) (HK.out _ (Y7.out.mono (Nat.le_succ _))) (RunX.of 8 (by simp only [List.getElem?_toArray, List.getElem?_cons, reduceIte]; rfl) (by rfl) ?_))
    (refine wp_append_sl (α := ByteArray) (.tmp 33) (.tmp 35) rfl (w.heap.size + 2) _ ([] ++ l) rfl ?_ (.slice (some ⟨_, 0, none⟩) 1 1) [s] rfl ?_ ?_ ?_ ?_; exact O7.out; exact L7.out; (first | omega | (simp; omega)); (have := Y7.out.size; omega); intro v8 w8 ho8 ha8; have O8 := Lib.hid ho8; have Y8 := Lib.hid (Y7.out.trans ha8.below); obtain ⟨a8, n8, c8, rfl⟩ := ho8.sh; clear ho8 ha8)
    (try (simp only [Act.put, List.setIfInBounds_toArray, List.set]))
    (refine xone 9 (by kernel_rfl) (HK.out _ (Y8.out.mono (Nat.le_succ _))) (RunX.of 9 (by simp only [List.getElem?_toArray, List.getElem?_cons, reduceIte]; rfl) (by rfl) ?_))
    go_simp
    refine (cW.out w8 (ext_of_below Y8.out (by omega) (Ext.trans (((Ext.refl w).alloc _).alloc _) X3.out)) (by have := Y8.out.size; omega) a8 n8 c8 (Sa.new O8.out (fun k hk => by rcases hk with hk | hk; (have := HF.out k hk; omega); omega))).mono ?_
    rintro e w9 ⟨v9, rfl, r9, x9⟩
    have R9 := Lib.hid r9
    obtain ⟨ao9, n9, c9, L9, rfl, _⟩ := r9
    have Y9 := Lib.hid (Y8.out.trans (x9.mono (by have := Y8.out.size; omega)))
    clear x9
    dsimp only
    (try (simp only [Act.put, List.setIfInBounds_toArray, List.set]))
    have hb9 := three_below _ (w.heap.size + 2) (by omega) (box2 (W := w3) (w := w) (X3.out.mono (by simp))).2 Y9.out
    obtain ⟨k9, f9⟩ := cells3 hb9
    (refine xone 10 (by kernel_rfl) (HK.out _ (Y9.out.mono (Nat.le_succ _))) (RunX.of 10 (by simp only [List.getElem?_toArray, List.getElem?_cons, reduceIte]; rfl) (by rfl) ?_))
    go_simp
    have z := put3_blk hb9 (.int .i64 ((S.put a b (l ++ [s])).n : Int)) (.int .i64 ((S.put a b (l ++ [s])).room : Int)) (.slice ao9 n9 c9)
    have y10 := put3_below (Y9.out.mono (Nat.le_succ _)) (Nat.le_refl _) (.int .i64 ((S.put a b (l ++ [s])).n : Int)) (.int .i64 ((S.put a b (l ++ [s])).room : Int)) (.slice ao9 n9 c9)
    have r10 := R9.out.stored (.int .i64 ((S.put a b (l ++ [s])).n : Int)) (.int .i64 ((S.put a b (l ++ [s])).room : Int)) (.slice ao9 n9 c9)
    (refine xone 11 (by kernel_rfl) (HK.out _ y10) (RunX.of 11 (by simp only [List.getElem?_toArray, List.getElem?_cons, reduceIte]; rfl) (by rfl) ?_))
    go_simp
    (refine xdone (by kernel_rfl) (HK.out _ y10) ?_)
    obtain ⟨z0, z1, z2⟩ := (cells3 z).1
    simp only [put3] at z0 z1 z2
    have R10 := Lib.hid r10
    have Y10 := Lib.hid y10
    clear r10 y10 z R9
    go_wp2
    refine bodyPost_ret (v := .tuple #[.agg #[.int .i64 ((S.put a b (l ++ [s])).n : Int), .int .i64 ((S.put a b (l ++ [s])).room : Int), .slice ao9 n9 c9], .bool true]) (by simp [results, Try.results14, go_sem, z0, z1, z2]) rfl
      ⟨_, rfl, R10.out, ext_of_below Y10.out (by omega) (Ext.trans (((Ext.refl w).alloc _).alloc _) X3.out)⟩
end Go.Proofs.Ytjnnfnmapigagaa
