/- The document's nets: send, deliver, double, flip, quiet. -/
import Derived.Test.YtjnnfnmapigagaaN3
import Derived.Test.YtjnnfnmapigagaaC7
namespace Go.Proofs.Ytjnnfnmapigagaa
open Go.RowKit

theorem take_eraseIdx {α : Type} (xs : List α) (k : Nat) : xs.take k ++ xs.drop (k + 1) = xs.eraseIdx k := (List.eraseIdx_eq_take_drop_succ xs k).symm

theorem refSend_no (F : Nat → Prop) (w : World) (v : Value) (S : NetS) (m : Nat) (h : RNet F w v S m) (a b : Int) (s : ByteArray) (hr : S.may a b = false) :
    Calls Try.prog 14 #[v, .int .i64 a, .int .i64 b, .string s] w fun e w' => e = .returned (.tuple #[v, .bool false]) ∧ Ext w w' := by
  have cN := fun W (x : Ext w W) => refNodes_any F W v S m (h.ext x) a b
  have cR := Lib.hid (fun W (x : Ext w W) => refRow_len F W v S m (h.ext x) a b _ rfl)
  obtain ⟨ao, n, c, L, rfl, _⟩ := h
  have hn : S.two a b = true → ¬ (S.f a b).length < S.room := fun h1 h2 => by rw [may_iff.2 ⟨h1, h2⟩] at hr; cases hr
  clear hr
  obtain ⟨l, hl⟩ : ∃ l, l = S.f a b := ⟨_, rfl⟩
  rw [← hl] at cR hn
  clear hl
  cases h2 : S.two a b
  all_goals
    rw [h2] at cN hn
    replace cN := Lib.hid cN
    clear h2
  · clear hn
    go_enter Try.func14, Try.ntmps14
    go_wp2_with (first
      | (go_at_call 18; refine (cR.out _ (by repeat (first | exact Ext.refl _ | assumption | refine Ext.alloc ?_ _ | refine Ext.drew ?_ | refine Ext.drewN ?_ _))).mono ?_; rintro e w2 ⟨a2, c2, rfl, hs2, x2⟩; have X2 := Lib.hid x2; have k2 := three_at w.heap.size rfl (Ext.trans ((Ext.refl _).alloc _) x2); clear x2 hs2)
      | (go_at_call 29; refine (cN.out _ (Ext.trans (((Ext.refl w).alloc _).alloc _) X2.out)).mono ?_; rintro e w3 ⟨rfl, x3⟩; have X3 := Lib.hid (Ext.trans X2.out x3); have hb := cells3 ((box2 (W := w3) (w := w) (X3.out.mono (by simp))).1); have hb2 := cells3 ((box2 (W := w3) (w := w) (X3.out.mono (by simp))).2); obtain ⟨k3, k4⟩ := hb; obtain ⟨j3, j4⟩ := hb2; clear x3))
    refine bodyPost_ret (v := .tuple #[.agg #[.int .i64 (S.n : Int), .int .i64 (S.room : Int), .slice ao n c], .bool false]) (by simp [results, Try.results14, go_sem, j3]) rfl ⟨rfl, ?_⟩
    exact below_set (below_set (below_set (Ext.trans (((Ext.refl w).alloc _).alloc _) X3.out) (by simp) _) (by simp) _) (by simp) _
  · have hn2 : (S.room : Int) ≤ (l.length : Int) := by have := hn rfl; omega
    clear hn
    go_enter Try.func14, Try.ntmps14
    go_wp2_with (first
      | (go_at_call 18; refine (cR.out _ (by repeat (first | exact Ext.refl _ | assumption | refine Ext.alloc ?_ _ | refine Ext.drew ?_ | refine Ext.drewN ?_ _))).mono ?_; rintro e w2 ⟨a2, c2, rfl, hs2, x2⟩; have X2 := Lib.hid x2; have k2 := three_at w.heap.size rfl (Ext.trans ((Ext.refl _).alloc _) x2); clear x2 hs2)
      | (go_at_call 29; refine (cN.out _ (Ext.trans (((Ext.refl w).alloc _).alloc _) X2.out)).mono ?_; rintro e w3 ⟨rfl, x3⟩; have X3 := Lib.hid (Ext.trans X2.out x3); have hb := cells3 ((box2 (W := w3) (w := w) (X3.out.mono (by simp))).1); have hb2 := cells3 ((box2 (W := w3) (w := w) (X3.out.mono (by simp))).2); obtain ⟨k3, k4⟩ := hb; obtain ⟨j3, j4⟩ := hb2; clear x3))
    refine bodyPost_ret (v := .tuple #[.agg #[.int .i64 (S.n : Int), .int .i64 (S.room : Int), .slice ao n c], .bool false]) (by simp [results, Try.results14, go_sem, j3]) rfl ⟨rfl, ?_⟩
    exact below_set (below_set (below_set (Ext.trans (((Ext.refl w).alloc _).alloc _) X3.out) (by simp) _) (by simp) _) (by simp) _

theorem refSend_any (F : Nat → Prop) (w : World) (hF : ∀ k, F k → k < w.heap.size) (v : Value) (S : NetS) (m : Nat) (h : RNet F w v S m) (hm : m ≤ 5000) (ok : S.Ok) (a b : Int) (s : ByteArray) :
    Calls Try.prog 14 #[v, .int .i64 a, .int .i64 b, .string s] w fun e w' => ∃ v', e = .returned (.tuple #[v', .bool (S.may a b)]) ∧ RNet F w' v' (S.send a b s) (m + 1) ∧ Ext w w' := by
  unfold NetS.send
  cases hr : S.may a b
  · rw [if_neg (by decide)]
    refine (refSend_no F w v S m h a b s hr).mono ?_
    rintro e w' ⟨rfl, x⟩
    exact ⟨v, rfl, (h.ext x).more (Nat.le_succ _), x⟩
  · rw [if_pos rfl]
    exact refSend_yes F w hF v S m h hm ok a b s hr

set_option maxHeartbeats 1600000 in
theorem refDeliver_yes (F : Nat → Prop) (w : World) (hF : ∀ k, F k → k < w.heap.size) (v : Value) (S : NetS) (m : Nat) (h : RNet F w v S m) (hm : m ≤ 5000) (ok : S.Ok) (a b k : Int) (hr : S.there a b k = true) :
    Calls Try.prog 15 #[v, .int .i64 a, .int .i64 b, .int .i64 k] w fun e w' => ∃ v', e = .returned (.tuple #[v', .string (S.look a b k), .bool true]) ∧ RNet F w' v' (S.put a b ((S.f a b).eraseIdx k.toNat)) (m + 1) ∧ Ext w w' := by
  obtain ⟨h1, h2⟩ := there_iff.1 hr
  have h3 := ok.few a b
  have h4 := ok.rooms
  have cL := fun W (x : Ext w W) => refLook_any F W v S m (h.ext x) a b k
  rw [hr] at cL
  replace cL := Lib.hid cL
  have cR := Lib.hid (fun W (x : Ext w W) => refRow_len (fun k => F k ∨ w.heap.size ≤ k) W v S m ((h.wide (fun k h1 h2 => by rcases h2 with h2 | h2; exact h2; omega)).ext x) a b _ rfl)
  have cW := Lib.hid (fun W (x : Ext w W) (hW : w.heap.size + 2 ≤ W.heap.size) ol nl cl (hl : Sa (fun k => F k ∨ (w.heap.size ≤ k ∧ k < w.heap.size + 2)) W (.slice ol nl cl) ((S.f a b).eraseIdx k.toNat)) => refWith_any (fun k => F k ∨ (w.heap.size ≤ k ∧ k < w.heap.size + 2)) W (fun k hk => by rcases hk with hk | hk; (have := hF k hk; have := x.size; omega); omega) v S m ((h.wide (fun k h1 h2 => by rcases h2 with h2 | h2; exact h2; omega)).ext x) hm a b ol nl cl ((S.f a b).eraseIdx k.toNat) hl)
  have HF := Lib.hid hF
  obtain ⟨ao, n, c, L, rfl, _⟩ := h
  obtain ⟨l, hl⟩ : ∃ l, l = S.f a b := ⟨_, rfl⟩
  rw [← hl] at cR cW h2 h3 ⊢
  obtain ⟨T, hT⟩ : ∃ T, T = S.look a b k := ⟨_, rfl⟩
  rw [← hT] at cL ⊢
  obtain ⟨i, rfl⟩ := Int.eq_ofNat_of_zero_le h1
  rw [Int.toNat_natCast] at cW ⊢
  clear hl hr h1 hF hT
  go_enter Try.func15, Try.ntmps15
  go_wp2_with (first
    | (go_at_call 23; refine (cL.out _ (by repeat (first | exact Ext.refl _ | assumption | refine Ext.alloc ?_ _ | refine Ext.drew ?_ | refine Ext.drewN ?_ _))).mono ?_; rintro e w2 ⟨rfl, x2⟩; have X2 := Lib.hid x2; have k2 := three_at w.heap.size rfl (Ext.trans ((Ext.refl _).alloc _) x2); clear x2)
    | (go_at_call 18; refine (cR.out _ (Ext.trans (((Ext.refl w).alloc _).alloc _) X2.out)).mono ?_; rintro e w3 ⟨a2, c2, rfl, hs2, x3⟩; have X3 := Lib.hid (Ext.trans X2.out x3); have HS3 := Lib.hid hs2; have k3 := three_at w.heap.size rfl (Ext.trans ((Ext.refl _).alloc _) X3.out); clear x3 hs2))
  clear k2 X2
  rcases HS3.out.1.texts with ⟨h9, _⟩ | ⟨g, off, c', hv, q1, q2, q3, q4, q5⟩
  · rw [h9] at h2; simp at h2; omega
  simp only [Value.slice.injEq] at hv
  obtain ⟨rfl, _, rfl⟩ := hv
  clear q5
  have HK : Hid (∀ W, Below (w.heap.size + 1) w3 W → W.cell? ⟨w.heap.size, 0, none⟩ = some (.int .i64 (S.n : Int)) ∧ W.cell? ⟨w.heap.size, 1, none⟩ = some (.int .i64 (S.room : Int)) ∧ W.cell? ⟨w.heap.size, 2, none⟩ = some (.slice ao n c)) := Lib.hid (fun W y => by
    have hb := (box2 (W := w3) (w := w) (X3.out.mono (by simp))).1
    have hb2 := (y.block w.heap.size (by omega)).trans hb
    exact ⟨blk_cell hb2 0 rfl, blk_cell hb2 1 rfl, blk_cell hb2 2 rfl⟩)
  have hs3 := X3.out.size
  rw [size_alloc, size_alloc] at hs3
  have HSO : Hid (∀ W, Below w.heap.size w3 W → Sl W (.slice (some ⟨g, off, none⟩) l.length c2) l) := Lib.hid fun W e => HS3.out.1.off (HS3.out.2.imp id fun h2 b hb hf => h2 b hb (.inr hf)) (Off.of_below e)
  have HC1 : Hid (∀ W, Below w.heap.size w3 W → Sl W (.slice (some ⟨g, off, none⟩) i c2) (l.take i)) := Lib.hid fun W e => by
    have := (HSO.out W e).cut 0 i (by omega) (by omega)
    simpa using this
  have HC2 : Hid (∀ W, Below w.heap.size w3 W → Sl W (.slice (if c2 = i + 1 then some ⟨g, off, none⟩ else some ⟨g, off + (i + 1), none⟩) (l.length - (i + 1)) (c2 - (i + 1))) (l.drop (i + 1))) := Lib.hid fun W e => by
    have := (HSO.out W e).tail (i + 1) (by omega)
    rwa [show off + (i + 1) * Elem.k ByteArray = off + (i + 1) from by show off + (i + 1) * 1 = _; omega] at this
  have hw : IntKind.i64.wrap ((i : Int) + 1) = (i : Int) + 1 := IntWalk.i64_in _ (by omega)
  have hz : (0 : Int) ≤ (i : Int) + 1 := by omega
  have hn : ((i : Int) + 1).toNat = i + 1 := by omega
  have hkc : i ≤ c2 := by omega
  have hkc1 : i + 1 ≤ c2 := by omega
  have hkl1 : i + 1 ≤ l.length := by omega
  have hkl2 : (i : Int) + 1 ≤ (l.length : Int) := by omega
  (refine wp_region_X_lit (K := fun W => W.cell? ⟨w.heap.size, 0, none⟩ = some (.int .i64 (S.n : Int)) ∧ W.cell? ⟨w.heap.size, 1, none⟩ = some (.int .i64 (S.room : Int)) ∧ W.cell? ⟨w.heap.size, 2, none⟩ = some (.slice ao n c)) (by kernel_rfl) (fun w1 hw1 => ?_))
  have Y4 := Lib.hid (Below.mono hw1 hs3)
  have hs4 := hw1.size
  clear hw1
  (refine xtakeV 0 (v := ?_) (by simp only [List.getElem?_toArray, List.getElem?_cons, reduceIte]; rfl) (by kernel_rfl) (by rfl) (fun w' hw' => ?_) ?_; rotate_left; focus (obtain ⟨q0, q1, q2⟩ := hw'; go_simp; first | done | with_reducible rfl)); (simp only [Act.put, List.setIfInBounds_toArray, List.set])
  (refine xtakeV 1 (v := ?_) (by simp only [List.getElem?_toArray, List.getElem?_cons, reduceIte]; rfl) (by kernel_rfl) (by rfl) (fun w' hw' => ?_) ?_; rotate_left; focus (skip; go_simp; first | done | with_reducible rfl)); (simp only [Act.put, List.setIfInBounds_toArray, List.set])
  (refine xtakeV 2 (v := ?_) (by simp only [List.getElem?_toArray, List.getElem?_cons, reduceIte]; rfl) (by kernel_rfl) (by rfl) (fun w' hw' => ?_) ?_; rotate_left; focus (skip; go_simp; first | done | with_reducible rfl)); (simp only [Act.put, List.setIfInBounds_toArray, List.set])
  (refine xtakeV 4 (v := ?_) (by simp only [List.getElem?_toArray, List.getElem?_cons, reduceIte]; rfl) (by kernel_rfl) (by rfl) (fun w' hw' => ?_) ?_; rotate_left; focus (skip; go_simp; first | done | with_reducible rfl)); (simp only [Act.put, List.setIfInBounds_toArray, List.set])
  (refine xtakeV 5 (v := ?_) (by simp only [List.getElem?_toArray, List.getElem?_cons, reduceIte]; rfl) (by kernel_rfl) (by rfl) (fun w' hw' => ?_) ?_; rotate_left; focus (skip; go_simp; first | done | with_reducible rfl)); (simp only [Act.put, List.setIfInBounds_toArray, List.set])
  (refine xtakeV 6 (v := ?_) (by simp only [List.getElem?_toArray, List.getElem?_cons, reduceIte]; rfl) (by kernel_rfl) (by rfl) (fun w' hw' => ?_) ?_; rotate_left; focus (skip; go_simp; first | done | with_reducible rfl)); (simp only [Act.put, List.setIfInBounds_toArray, List.set])
  (refine xtakeV 8 (v := ?_) (by simp only [List.getElem?_toArray, List.getElem?_cons, reduceIte]; rfl) (by kernel_rfl) (by rfl) (fun w' hw' => ?_) ?_; rotate_left; focus (skip; go_simp; first | done | with_reducible rfl)); (simp only [Act.put, List.setIfInBounds_toArray, List.set])
  (refine xtakeV 9 (v := ?_) (by simp only [List.getElem?_toArray, List.getElem?_cons, reduceIte]; rfl) (by kernel_rfl) (by rfl) (fun w' hw' => ?_) ?_; rotate_left; focus (skip; go_simp; first | done | with_reducible rfl)); (simp only [Act.put, List.setIfInBounds_toArray, List.set])
  (refine xtakeV 10 (v := ?_) (by simp only [List.getElem?_toArray, List.getElem?_cons, reduceIte]; rfl) (by kernel_rfl) (by rfl) (fun w' hw' => ?_) ?_; rotate_left; focus (skip; go_simp; first | done | with_reducible rfl)); (simp only [Act.put, List.setIfInBounds_toArray, List.set])
  (refine xtakeV 11 (v := ?_) (by simp only [List.getElem?_toArray, List.getElem?_cons, reduceIte]; rfl) (by kernel_rfl) (by rfl) (fun w' hw' => ?_) ?_; rotate_left; focus (skip; go_simp; first | done | with_reducible rfl)); (simp only [Act.put, List.setIfInBounds_toArray, List.set])
  (refine xtakeV 14 (v := ?_) (by simp only [List.getElem?_toArray, List.getElem?_cons, reduceIte]; rfl) (by kernel_rfl) (by rfl) (fun w' hw' => ?_) ?_; rotate_left; focus (skip; go_simp; first | done | with_reducible rfl)); (simp only [Act.put, List.setIfInBounds_toArray, List.set])
  clear hw hz hn
  (refine xone 3 (by kernel_rfl) (HK.out _ (Y4.out.mono (Nat.le_succ _))) (RunX.of 3 (by simp only [List.getElem?_toArray, List.getElem?_cons, reduceIte]; rfl) (by rfl) ?_))
  go_simp
  (try (simp only [Act.put, List.setIfInBounds_toArray, List.set]))
  have o3 : Ow (w1.alloc (.cells #[] 9)) (w.heap.size + 2) (.slice (some ⟨w1.heap.size, 0, none⟩) 0 0) ([] : List ByteArray) := Ow.litAt w1 _ _ rfl (by omega) [] (by simp)
  have y5 := Y4.out.alloc (by omega) (.cells #[] 9)
  obtain ⟨wA, hA⟩ : ∃ wA, wA = w1.alloc (.cells #[] 9) := ⟨_, rfl⟩
  rw [← hA] at o3 y5 ⊢
  clear hA
  have O3 := Lib.hid o3
  have Y5 := Lib.hid y5
  clear o3 y5
  (refine xone 7 (by kernel_rfl) (HK.out _ (Y5.out.mono (Nat.le_succ _))) (RunX.of 7 (by simp only [List.getElem?_toArray, List.getElem?_cons, reduceIte]; rfl) (by rfl) ?_))
  (refine wp_append_sl (α := ByteArray) (.tmp 32) (.tmp 35) rfl (w.heap.size + 2) _ [] rfl ?_ _ (l.take i) rfl ?_ ?_ ?_ ?_; exact O3.out; exact (HC1.out _ (Y5.out.mono (by omega))); (first | omega | (simp; omega)); (have := Y5.out.size; omega); intro v6 w6 ho6 ha6; have O6 := Lib.hid ho6; have Y6 := Lib.hid (Y5.out.trans ha6.below); obtain ⟨a6, n6, c6, rfl⟩ := ho6.sh; clear ho6 ha6)
  (try (simp only [Act.put, List.setIfInBounds_toArray, List.set]))
  (refine xone 12 (by kernel_rfl) (HK.out _ (Y6.out.mono (Nat.le_succ _))) (RunX.of 12 (by simp only [List.getElem?_toArray, List.getElem?_cons, reduceIte]; rfl) (by rfl) ?_))
  (refine wp_append_sl (α := ByteArray) (.tmp 36) (.tmp 40) rfl (w.heap.size + 2) _ ([] ++ l.take i) rfl ?_ _ (l.drop (i + 1)) rfl ?_ ?_ ?_ ?_; exact O6.out; exact (HC2.out _ (Y6.out.mono (by omega))); (first | omega | (simp; omega)); (have := Y6.out.size; omega); intro v8 w8 ho8 ha8; rw [List.nil_append, take_eraseIdx] at ho8; have O8 := Lib.hid ho8; have Y8 := Lib.hid (Y6.out.trans ha8.below); obtain ⟨a8, n8, c8, rfl⟩ := ho8.sh; clear ho8 ha8)
  (try (simp only [Act.put, List.setIfInBounds_toArray, List.set]))
  (refine xone 13 (by kernel_rfl) (HK.out _ (Y8.out.mono (Nat.le_succ _))) (RunX.of 13 (by simp only [List.getElem?_toArray, List.getElem?_cons, reduceIte]; rfl) (by rfl) ?_))
  go_simp
  refine (cW.out w8 (ext_of_below Y8.out (by omega) (Ext.trans (((Ext.refl w).alloc _).alloc _) X3.out)) (by have := Y8.out.size; omega) a8 n8 c8 (Sa.new O8.out (fun k hk => by rcases hk with hk | hk; (have := HF.out k hk; omega); omega))).mono ?_
  rintro e w9 ⟨v9, rfl, r9, x9⟩
  have R9 := Lib.hid r9
  obtain ⟨ao9, n9, c9, L9, rfl, _⟩ := r9
  have Y9 := Lib.hid (Y8.out.trans (x9.mono (by have := Y8.out.size; omega)))
  clear x9
  dsimp only
  (try (simp only [Act.put, List.setIfInBounds_toArray, List.set]))
  have hb9 := three_below _ (w.heap.size + 2) (by omega) (box2 (W := w3) (w := w) (X3.out.mono (by simp))).2 Y9.out
  obtain ⟨k9, f9⟩ := cells3 hb9
  (refine xone 15 (by kernel_rfl) (HK.out _ (Y9.out.mono (Nat.le_succ _))) (RunX.of 15 (by simp only [List.getElem?_toArray, List.getElem?_cons, reduceIte]; rfl) (by rfl) ?_))
  go_simp
  have z := put3_blk hb9 (.int .i64 ((S.put a b (l.eraseIdx i)).n : Int)) (.int .i64 ((S.put a b (l.eraseIdx i)).room : Int)) (.slice ao9 n9 c9)
  have y10 := put3_below (Y9.out.mono (Nat.le_succ _)) (Nat.le_refl _) (.int .i64 ((S.put a b (l.eraseIdx i)).n : Int)) (.int .i64 ((S.put a b (l.eraseIdx i)).room : Int)) (.slice ao9 n9 c9)
  have r10 := R9.out.stored (.int .i64 ((S.put a b (l.eraseIdx i)).n : Int)) (.int .i64 ((S.put a b (l.eraseIdx i)).room : Int)) (.slice ao9 n9 c9)
  (refine xone 16 (by kernel_rfl) (HK.out _ y10) (RunX.of 16 (by simp only [List.getElem?_toArray, List.getElem?_cons, reduceIte]; rfl) (by rfl) ?_))
  go_simp
  (refine xone 17 (by kernel_rfl) (HK.out _ y10) (RunX.of 17 (by simp only [List.getElem?_toArray, List.getElem?_cons, reduceIte]; rfl) (by rfl) ?_))
  go_simp
  (refine xdone (by kernel_rfl) (HK.out _ y10) ?_)
  obtain ⟨z0, z1, z2⟩ := (cells3 z).1
  simp only [put3] at z0 z1 z2
  have R10 := Lib.hid r10
  have Y10 := Lib.hid y10
  clear r10 y10 z R9
  go_wp2
  all_goals refine bodyPost_ret (v := .tuple #[.agg #[.int .i64 ((S.put a b (l.eraseIdx i)).n : Int), .int .i64 ((S.put a b (l.eraseIdx i)).room : Int), .slice ao9 n9 c9], .string T, .bool true]) (by simp [results, Try.results15, go_sem, z0, z1, z2]) rfl ⟨_, rfl, R10.out, ext_of_below Y10.out (by omega) (Ext.trans (((Ext.refl w).alloc _).alloc _) X3.out)⟩

theorem refDeliver_no (F : Nat → Prop) (w : World) (v : Value) (S : NetS) (m : Nat) (h : RNet F w v S m) (a b k : Int) (hr : S.there a b k = false) :
    Calls Try.prog 15 #[v, .int .i64 a, .int .i64 b, .int .i64 k] w fun e w' => e = .returned (.tuple #[v, .string ⟨#[]⟩, .bool false]) ∧ Ext w w' := by
  have cL := fun W (x : Ext w W) => refLook_any F W v S m (h.ext x) a b k
  rw [hr] at cL
  replace cL := Lib.hid cL
  obtain ⟨ao, n, c, L, rfl, _⟩ := h
  clear hr
  go_enter Try.func15, Try.ntmps15
  go_wp2_with (first
    | (go_at_call 23; refine (cL.out _ (by repeat (first | exact Ext.refl _ | assumption | refine Ext.alloc ?_ _ | refine Ext.drew ?_ | refine Ext.drewN ?_ _))).mono ?_; rintro e w2 ⟨rfl, x2⟩; have X2 := Lib.hid x2; have hb := cells3 ((box2 (W := w2) (w := w) (x2.mono (by simp))).1); have hb2 := cells3 ((box2 (W := w2) (w := w) (x2.mono (by simp))).2); obtain ⟨k3, k4⟩ := hb; obtain ⟨j3, j4⟩ := hb2; clear x2))
  refine bodyPost_ret (v := .tuple #[.agg #[.int .i64 (S.n : Int), .int .i64 (S.room : Int), .slice ao n c], .string ⟨#[]⟩, .bool false]) (by simp [results, Try.results15, go_sem, j3]) rfl ⟨rfl, ?_⟩
  exact below_set (below_set (below_set (Ext.trans (((Ext.refl w).alloc _).alloc _) X2.out) (by simp) _) (by simp) _) (by simp) _

theorem refDeliver_any (F : Nat → Prop) (w : World) (hF : ∀ k, F k → k < w.heap.size) (v : Value) (S : NetS) (m : Nat) (h : RNet F w v S m) (hm : m ≤ 5000) (ok : S.Ok) (a b k : Int) :
    Calls Try.prog 15 #[v, .int .i64 a, .int .i64 b, .int .i64 k] w fun e w' => ∃ v', e = .returned (.tuple #[v', .string (S.look a b k), .bool (S.there a b k)]) ∧ RNet F w' v' (S.deliver a b k) (m + 1) ∧ Ext w w' := by
  unfold NetS.deliver
  cases hr : S.there a b k
  · rw [if_neg (by decide)]
    refine (refDeliver_no F w v S m h a b k hr).mono ?_
    rintro e w' ⟨rfl, x⟩
    refine ⟨v, ?_, (h.ext x).more (Nat.le_succ _), x⟩
    unfold NetS.look
    rw [if_neg (by rw [hr]; decide)]
  · rw [if_pos rfl]
    exact refDeliver_yes F w hF v S m h hm ok a b k hr

set_option maxHeartbeats 800000 in
theorem refDouble_any (F : Nat → Prop) (w : World) (hF : ∀ k, F k → k < w.heap.size) (v : Value) (S : NetS) (m : Nat) (h : RNet F w v S m) (hm : m ≤ 5000) (ok : S.Ok) (a b k : Int) :
    Calls Try.prog 16 #[v, .int .i64 a, .int .i64 b, .int .i64 k] w fun e w' => ∃ v', e = .returned (.tuple #[v', .bool (S.canD a b k)]) ∧ RNet F w' v' (S.double a b k) (m + 1) ∧ Ext w w' := by
  have cL := fun W (x : Ext w W) => refLook_any F W v S m (h.ext x) a b k
  have cS := Lib.hid (fun W (x : Ext w W) (hW : w.heap.size + 2 ≤ W.heap.size) s => refSend_any (fun k => F k ∨ (w.heap.size ≤ k ∧ k < w.heap.size + 2)) W (fun k hk => by rcases hk with hk | hk; (have := hF k hk; have := x.size; omega); omega) v S m ((h.wide (fun k h1 h2 => by rcases h2 with h2 | h2; exact h2; omega)).ext x) hm ok a b s)
  have HN := Lib.hid h
  obtain ⟨ao, n, c, L, rfl, _⟩ := h
  unfold NetS.double NetS.canD
  cases hr : S.there a b k
  · rw [if_neg (by decide), Bool.false_and]
    rw [hr] at cL
    replace cL := Lib.hid cL
    clear hr
    go_enter Try.func16, Try.ntmps16
    go_wp2_with (first
      | (go_at_call 23; refine (cL.out _ (by repeat (first | exact Ext.refl _ | assumption | refine Ext.alloc ?_ _ | refine Ext.drew ?_ | refine Ext.drewN ?_ _))).mono ?_; rintro e w2 ⟨rfl, x2⟩; have X2 := Lib.hid x2; have hb := cells3 ((box2 (W := w2) (w := w) (x2.mono (by simp))).1); have hb2 := cells3 ((box2 (W := w2) (w := w) (x2.mono (by simp))).2); obtain ⟨k3, k4⟩ := hb; obtain ⟨j3, j4⟩ := hb2; clear x2))
    have hx := below_set (below_set (below_set (Ext.trans (((Ext.refl w).alloc _).alloc _) X2.out) (by simp : w.heap.size ≤ (⟨w.heap.size + 1, 0, none⟩ : Addr).block) (.int .i64 (S.n : Int))) (by simp : w.heap.size ≤ (⟨w.heap.size + 1, 1, none⟩ : Addr).block) (.int .i64 (S.room : Int))) (by simp : w.heap.size ≤ (⟨w.heap.size + 1, 2, none⟩ : Addr).block) (.slice ao n c)
    refine bodyPost_ret (v := .tuple #[.agg #[.int .i64 (S.n : Int), .int .i64 (S.room : Int), .slice ao n c], .bool false]) (by simp [results, Try.results16, go_sem, j3]) rfl ⟨_, rfl, (HN.out.ext hx).more (Nat.le_succ _), hx⟩
  · rw [if_pos rfl, Bool.true_and]
    rw [hr] at cL
    replace cL := Lib.hid cL
    clear hr
    obtain ⟨T, hT⟩ : ∃ T, T = S.look a b k := ⟨_, rfl⟩
    rw [← hT] at cL ⊢
    clear hT
    go_enter Try.func16, Try.ntmps16
    go_wp2_with (first
      | (go_at_call 23; refine (cL.out _ (by repeat (first | exact Ext.refl _ | assumption | refine Ext.alloc ?_ _ | refine Ext.drew ?_ | refine Ext.drewN ?_ _))).mono ?_; rintro e w2 ⟨rfl, x2⟩; have X2 := Lib.hid x2; have hb := cells3 ((box2 (W := w2) (w := w) (x2.mono (by simp))).1); obtain ⟨k3, k4⟩ := hb; clear x2)
      | (go_at_call 14; refine (cS.out w2 (Ext.trans (((Ext.refl w).alloc _).alloc _) X2.out) (by have := X2.out.size; rw [size_alloc, size_alloc] at this; exact this) T).mono ?_; rintro e w3 ⟨v3, rfl, r3, x3⟩; have R3 := Lib.hid r3; obtain ⟨ao3, n3, c3, L3, rfl, _⟩ := r3; have X3 := Lib.hid (Ext.trans X2.out x3); have hb2 := (box2 (W := w3) (w := w) (X3.out.mono (by simp))).2; obtain ⟨j3, j4⟩ := cells3 hb2; have HB2 := Lib.hid hb2; clear x3 hb2))
    have z := put3_blk HB2.out (.int .i64 ((S.send a b T).n : Int)) (.int .i64 ((S.send a b T).room : Int)) (.slice ao3 n3 c3)
    have y10 := put3_below (Ext.trans (((Ext.refl w).alloc _).alloc _) X3.out) (Nat.le_succ w.heap.size) (.int .i64 ((S.send a b T).n : Int)) (.int .i64 ((S.send a b T).room : Int)) (.slice ao3 n3 c3)
    have r10 := R3.out.stored (.int .i64 ((S.send a b T).n : Int)) (.int .i64 ((S.send a b T).room : Int)) (.slice ao3 n3 c3)
    obtain ⟨z0, z1, z2⟩ := (cells3 z).1
    simp only [put3] at z0 z1 z2
    refine bodyPost_ret (v := .tuple #[.agg #[.int .i64 ((S.send a b T).n : Int), .int .i64 ((S.send a b T).room : Int), .slice ao3 n3 c3], .bool (S.may a b)]) (by simp [results, Try.results16, go_sem, z0, z1, z2]) rfl ⟨_, rfl, r10, y10⟩
end Go.Proofs.Ytjnnfnmapigagaa
