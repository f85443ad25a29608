/- The program's ends: Take. -/
import Derived.Test.YtefkjclkondmeaaKP2
import Derived.Test.YtefkjclkondmeaaK5
namespace Go.Proofs.Ytefkjclkondmeaa
open Go.RowKit

theorem take_end {w w2 w3 W : World} {p : Nat} {S1 S2 : EndS} {F F' : Nat → Prop} {ao : Option Addr} {n c : Nat} (x : Ext w w2) (o : Off F w2 w3) (g : Grows F F' w2) (h3 : EndAt w3 p S1 F' ao n c) (o3 : Off (fun k => k = p) w3 W)
    (ok : S2.Ok) (hl : S2.l = S1.l) (hb : W.heap[p]? = some (.cells (rCells S2 (.slice ao n c)) 67 (0, 0))) (r : Value) : MovesE p S2 F r w (.returned r) W :=
  ⟨F', rfl, ⟨ao, n, c, h3.put o3 ok hl hb⟩, ((Off.of_ext x).trans o (Grows.refl _ _)).trans (h3.offp o3) (g.back x.size), g.back x.size⟩

theorem drop_want (S : EndS) (k : Nat) : (S.drop k).want = S.want := rfl
theorem good_parts {S : EndS} {f : Fr} (hg : S.good f = true) : rightB f = true ∧ f.e = S.e ∧ (f.k = 1 ∨ f.k = 2) := by
  unfold EndS.good at hg
  rw [Bool.and_eq_true, decide_eq_true_eq] at hg
  refine ⟨hg.1, hg.2, ?_⟩
  have := hg.1
  unfold rightB at this
  simp only [Bool.and_eq_true, Bool.or_eq_true, decide_eq_true_eq] at this
  rcases this.2 with h | h
  · exact .inl h
  · exact .inr h.1

/-- the frame's box, and the end's cells, in every later world -/
theorem take_box {w : World} {p : Nat} {S : EndS} {F : Nat → Prop} {ao : Option Addr} {n c : Nat} (h : EndAt w p S F ao n c) (k e : Int) (q a : Nat) (b : ByteArray) (t : TypeId) :
    ∀ W, Ext (w.alloc (.cells #[.int .i64 k, .int .i64 e, .int .u64 (q : Int), .int .u64 (a : Int), .string b] t)) W →
      W.heap[w.heap.size]? = some (.cells #[.int .i64 k, .int .i64 e, .int .u64 (q : Int), .int .u64 (a : Int), .string b] t (0, 0)) ∧ EndAt W p S F ao n c :=
  fun W x => ⟨(x.block w.heap.size (by rw [size_alloc]; exact Nat.lt_succ_self _)).trans (get_alloc_new _ _), h.ext (Ext.trans ((Ext.refl w).alloc _) x)⟩

set_option maxHeartbeats 3200000 in
theorem take_bad {w : World} {p : Nat} {S : EndS} {F : Nat → Prop} (h0 : EAt w p S F) (f : Fr) (hg : S.good f = false) :
    Calls Try.prog 20 #[.pointer (some ⟨p, 0, none⟩), .agg #[.int .i64 f.k, .int .i64 f.e, .int .u64 (f.q : Int), .int .u64 (f.a : Int), .string f.b]] w (MovesE p (S.take f) F (.tuple #[.string (S.body f), .bool (S.told f)]) w) := by
  have ht : S.told f = false := by unfold EndS.told; rw [hg]; rfl
  have h1 : S.body f = ⟨#[]⟩ := by unfold EndS.body; rw [if_neg (by rw [ht]; decide)]
  have h2 : S.take f = S := by unfold EndS.take; rw [if_neg (by rw [hg]; decide)]
  rw [ht, h1, h2]
  have HM := Lib.hid (same_moves h0)
  have cR := Lib.hid (fun W => right_any W f.k f.e f.q f.a f.b)
  have hcase : rightB ⟨f.k, f.e, f.q, f.a, f.b⟩ = false ∨ (rightB ⟨f.k, f.e, f.q, f.a, f.b⟩ = true ∧ (f.e != S.e) = true) := by
    unfold EndS.good at hg
    have h0 : (⟨f.k, f.e, f.q, f.a, f.b⟩ : Fr) = f := rfl
    rw [h0]
    cases hb : rightB f
    · exact .inl rfl
    · right
      rw [hb] at hg
      refine ⟨rfl, bne_iff_ne.2 (fun e => ?_)⟩
      rw [decide_eq_true e] at hg
      cases hg
  obtain ⟨ao, n, c, h⟩ := h0
  have HX := Lib.hid (take_box h f.k f.e f.q f.a f.b 34)
  clear h hg ht h1 h2
  obtain ⟨e, win, qn, wait, l, first, out, ever, want, owes, age⟩ := S
  obtain ⟨fk, fe, fq, fa, fb⟩ := f
  dsimp only at cR hcase HX HM ⊢
  rcases hcase with hb | ⟨hb, he⟩ <;> rw [hb] at cR <;> clear hb
  · go_enter Try.func20, Try.ntmps20
    go_wp2_with fail
    refine wp_region_M_lit (by kernel_rfl) ?_
    (refine takeV 0 (v := ?_) (by simp only [List.getElem?_toArray, List.getElem?_cons, reduceIte]; rfl) (by kernel_rfl) (by rfl) (fun w' hw' => ?_) ?_; rotate_left; focus (obtain ⟨⟨d0, d1, d2, d3, d4⟩, _⟩ := cells5 (HX.out w' hw').1; go_simp; first | done | with_reducible rfl)); (simp only [Act.put, List.setIfInBounds_toArray, List.set])
    (refine takeG 1 (v := ?_) (by simp only [List.getElem?_toArray, List.getElem?_cons, reduceIte]; rfl) (by kernel_rfl) (by rfl) (fun w' hw' => ?_) ?_; rotate_left; focus (go_simp; refine ⟨Ext.refl _, ?_⟩; (exact cR.out w'))); (simp only [Act.put, List.setIfInBounds_toArray, List.set])
    (refine takeV 2 (v := ?_) (by simp only [List.getElem?_toArray, List.getElem?_cons, reduceIte]; rfl) (by kernel_rfl) (by rfl) (fun w' hw' => ?_) ?_; rotate_left; focus (skip; go_simp; first | done | with_reducible rfl)); (simp only [Act.put, List.setIfInBounds_toArray, List.set])
    (refine takeV 3 (v := ?_) (by simp only [List.getElem?_toArray, List.getElem?_cons, reduceIte]; rfl) (by kernel_rfl) (by rfl) (fun w' hw' => ?_) ?_; rotate_left; focus (skip; go_simp; first | done | with_reducible rfl)); (simp only [Act.put, List.setIfInBounds_toArray, List.set])
    (refine takeU 4 (by simp only [List.getElem?_toArray, List.getElem?_cons, reduceIte]; rfl) (by kernel_rfl) (by rfl) ?_); (simp only [Act.put, List.setIfInBounds_toArray, List.set])
    (refine takeU 5 (by simp only [List.getElem?_toArray, List.getElem?_cons, reduceIte]; rfl) (by kernel_rfl) (by rfl) ?_); (simp only [Act.put, List.setIfInBounds_toArray, List.set])
    (refine takeU 6 (by simp only [List.getElem?_toArray, List.getElem?_cons, reduceIte]; rfl) (by kernel_rfl) (by rfl) ?_); (simp only [Act.put, List.setIfInBounds_toArray, List.set])
    (refine takeU 7 (by simp only [List.getElem?_toArray, List.getElem?_cons, reduceIte]; rfl) (by kernel_rfl) (by rfl) ?_); (simp only [Act.put, List.setIfInBounds_toArray, List.set])
    (refine takeU 8 (by simp only [List.getElem?_toArray, List.getElem?_cons, reduceIte]; rfl) (by kernel_rfl) (by rfl) ?_); (simp only [Act.put, List.setIfInBounds_toArray, List.set])
    (refine takeU 9 (by simp only [List.getElem?_toArray, List.getElem?_cons, reduceIte]; rfl) (by kernel_rfl) (by rfl) ?_); (simp only [Act.put, List.setIfInBounds_toArray, List.set])
    (refine takeU 10 (by simp only [List.getElem?_toArray, List.getElem?_cons, reduceIte]; rfl) (by kernel_rfl) (by rfl) ?_); (simp only [Act.put, List.setIfInBounds_toArray, List.set])
    (refine takeV 11 (v := ?_) (by simp only [List.getElem?_toArray, List.getElem?_cons, reduceIte]; rfl) (by kernel_rfl) (by rfl) (fun w' hw' => ?_) ?_; rotate_left; focus (skip; go_simp; first | done | with_reducible rfl)); (simp only [Act.put, List.setIfInBounds_toArray, List.set])
    (refine doneM (by kernel_rfl) ?_; intro w' hw'; show _)
    have HW := Lib.hid hw'
    clear hw'
    go_wp2
    all_goals refine bodyPost_ret (v := .tuple #[.string ⟨#[]⟩, .bool false]) (by simp [results, Try.results20, go_sem]) rfl ?_
    all_goals exact HM.out _ (Ext.trans ((Ext.refl w).alloc _) HW.out) _
  · go_enter Try.func20, Try.ntmps20
    go_wp2_with fail
    refine wp_region_M_lit (by kernel_rfl) ?_
    (refine takeV 0 (v := ?_) (by simp only [List.getElem?_toArray, List.getElem?_cons, reduceIte]; rfl) (by kernel_rfl) (by rfl) (fun w' hw' => ?_) ?_; rotate_left; focus (obtain ⟨⟨d0, d1, d2, d3, d4⟩, _⟩ := cells5 (HX.out w' hw').1; go_simp; first | done | with_reducible rfl)); (simp only [Act.put, List.setIfInBounds_toArray, List.set])
    (refine takeG 1 (v := ?_) (by simp only [List.getElem?_toArray, List.getElem?_cons, reduceIte]; rfl) (by kernel_rfl) (by rfl) (fun w' hw' => ?_) ?_; rotate_left; focus (go_simp; refine ⟨Ext.refl _, ?_⟩; (exact cR.out w'))); (simp only [Act.put, List.setIfInBounds_toArray, List.set])
    (refine takeV 2 (v := ?_) (by simp only [List.getElem?_toArray, List.getElem?_cons, reduceIte]; rfl) (by kernel_rfl) (by rfl) (fun w' hw' => ?_) ?_; rotate_left; focus (skip; go_simp; first | done | with_reducible rfl)); (simp only [Act.put, List.setIfInBounds_toArray, List.set])
    (refine takeV 3 (v := ?_) (by simp only [List.getElem?_toArray, List.getElem?_cons, reduceIte]; rfl) (by kernel_rfl) (by rfl) (fun w' hw' => ?_) ?_; rotate_left; focus (skip; go_simp; first | done | with_reducible rfl)); (simp only [Act.put, List.setIfInBounds_toArray, List.set])
    (refine takeV 4 (v := ?_) (by simp only [List.getElem?_toArray, List.getElem?_cons, reduceIte]; rfl) (by kernel_rfl) (by rfl) (fun w' hw' => ?_) ?_; rotate_left; focus (skip; go_simp; first | done | with_reducible rfl)); (simp only [Act.put, List.setIfInBounds_toArray, List.set])
    (refine takeV 5 (v := ?_) (by simp only [List.getElem?_toArray, List.getElem?_cons, reduceIte]; rfl) (by kernel_rfl) (by rfl) (fun w' hw' => ?_) ?_; rotate_left; focus (obtain ⟨⟨d0, d1, d2, d3, d4⟩, _⟩ := cells5 (HX.out w' hw').1; go_simp; first | done | with_reducible rfl)); (simp only [Act.put, List.setIfInBounds_toArray, List.set])
    (refine takeV 6 (v := ?_) (by simp only [List.getElem?_toArray, List.getElem?_cons, reduceIte]; rfl) (by kernel_rfl) (by rfl) (fun w' hw' => ?_) ?_; rotate_left; focus (skip; go_simp; first | done | with_reducible rfl)); (simp only [Act.put, List.setIfInBounds_toArray, List.set])
    (refine takeV 7 (v := ?_) (by simp only [List.getElem?_toArray, List.getElem?_cons, reduceIte]; rfl) (by kernel_rfl) (by rfl) (fun w' hw' => ?_) ?_; rotate_left; focus (skip; go_simp; first | done | with_reducible rfl)); (simp only [Act.put, List.setIfInBounds_toArray, List.set])
    (refine takeV 8 (v := ?_) (by simp only [List.getElem?_toArray, List.getElem?_cons, reduceIte]; rfl) (by kernel_rfl) (by rfl) (fun w' hw' => ?_) ?_; rotate_left; focus (skip; go_simp; first | done | with_reducible rfl)); (simp only [Act.put, List.setIfInBounds_toArray, List.set])
    (refine takeV 9 (v := ?_) (by simp only [List.getElem?_toArray, List.getElem?_cons, reduceIte]; rfl) (by kernel_rfl) (by rfl) (fun w' hw' => ?_) ?_; rotate_left; focus (have hc := (HX.out w' hw').2.blk; unfold rCells at hc; dsimp only at hc; obtain ⟨⟨c0, c1, c2, c3, c4, c5, c6, c7, c8, c9, c10⟩, _⟩ := cells11 hc; go_simp; first | done | with_reducible rfl)); (simp only [Act.put, List.setIfInBounds_toArray, List.set])
    (refine takeV 10 (v := ?_) (by simp only [List.getElem?_toArray, List.getElem?_cons, reduceIte]; rfl) (by kernel_rfl) (by rfl) (fun w' hw' => ?_) ?_; rotate_left; focus (skip; go_simp; first | done | with_reducible rfl)); (simp only [Act.put, List.setIfInBounds_toArray, List.set])
    (refine takeV 11 (v := ?_) (by simp only [List.getElem?_toArray, List.getElem?_cons, reduceIte]; rfl) (by kernel_rfl) (by rfl) (fun w' hw' => ?_) ?_; rotate_left; focus (skip; go_simp; first | done | with_reducible rfl)); (simp only [Act.put, List.setIfInBounds_toArray, List.set])
    (refine doneM (by kernel_rfl) ?_; intro w' hw'; show _)
    have HW := Lib.hid hw'
    clear hw'
    go_wp2
    all_goals refine bodyPost_ret (v := .tuple #[.string ⟨#[]⟩, .bool false]) (by simp [results, Try.results20, go_sem]) rfl ?_
    all_goals exact HM.out _ (Ext.trans ((Ext.refl w).alloc _) HW.out) _

set_option maxHeartbeats 6400000 in
theorem take_good {w : World} {p : Nat} {S : EndS} {F : Nat → Prop} (h0 : EAt w p S F) (f : Fr) (ha : f.a < 18446744073709551616) (hb9 : f.b.size ≤ 1000) (hg : S.good f = true) :
    Calls Try.prog 20 #[.pointer (some ⟨p, 0, none⟩), .agg #[.int .i64 f.k, .int .i64 f.e, .int .u64 (f.q : Int), .int .u64 (f.a : Int), .string f.b]] w (MovesE p (S.take f) F (.tuple #[.string (S.body f), .bool (S.told f)]) w) := by
  obtain ⟨hr, he, hk⟩ := good_parts hg
  have cR := Lib.hid (fun W => right_any W f.k f.e f.q f.a f.b)
  rw [show rightB ⟨f.k, f.e, f.q, f.a, f.b⟩ = true from hr] at cR
  have HCL := Lib.hid (fun W => clone_any W f.b (by omega))
  have hne : (f.e != S.e) = false := by rw [bne_eq_false_iff_eq]; exact he
  have cS := Lib.hid (fun W (x : EAt W p S F) => settle_any x f.a ha)
  have hwant : (S.drop (S.gone f.a)).want = S.want := drop_want S _
  have hok := (h0.ok.take f)
  have htake : S.take f = if f.k = 2 then S.drop (S.gone f.a) else { S.drop (S.gone f.a) with owes := true, want := if f.q = S.want then (S.want + 1) % 18446744073709551616 else S.want } := by
    unfold EndS.take; rw [if_pos hg]
  have htold : S.told f = (decide (f.k ≠ 2) && decide (f.q = S.want)) := by unfold EndS.told; rw [hg, Bool.true_and]
  have hbody : S.body f = if S.told f = true then f.b else ⟨#[]⟩ := rfl
  have hw64 := h0.ok.want
  obtain ⟨S1, hS1⟩ : ∃ S1, S1 = S.drop (S.gone f.a) := ⟨_, rfl⟩
  rw [← hS1] at cS hwant htake
  have hlow := h0.low
  obtain ⟨ao, n, c, h⟩ := h0
  have HX := Lib.hid (take_box h f.k f.e f.q f.a f.b 34)
  have HF := Lib.hid hlow
  have HP := Lib.hid (show p < w.heap.size from blk_lt h.blk)
  clear h hg hlow hS1 hr he
  rcases hk with hk | hk
  · by_cases hq : f.q = S.want
    · have htl : S.told f = true := by rw [htold, hk, decide_eq_true hq]; rfl
      have hbd : S.body f = f.b := by rw [hbody, htl]; rfl
      rw [htl, hbd]
      rw [if_neg (by rw [hk]; decide), if_pos hq] at htake
      rw [htake] at hok ⊢
      have t1 : ((f.q : Int) != (S.want : Int)) = false := by rw [bne_eq_false_iff_eq]; omega
      have t2 : IntKind.u64.wrap ((S.want : Int) + 1) = (((S.want + 1) % 18446744073709551616 : Nat) : Int) := seq_wrap S.want 1
      clear htl hbd htold hbody htake hq
      have OK := Lib.hid hok
      clear hok
      obtain ⟨e, win, qn, wait, l, first, out, ever, want, owes, age⟩ := S
      obtain ⟨e1, win1, qn1, wait1, l1, first1, out1, ever1, want1, owes1, age1⟩ := S1
      obtain ⟨fk, fe, fq, fa, fb⟩ := f
      dsimp only at cR HCL hne cS hwant HX hk OK t1 t2 hw64 ha hb9 ⊢
      subst hwant hk
      clear hw64 ha hb9
      go_enter Try.func20, Try.ntmps20
      go_wp2_with fail
      refine wp_region_M_lit (by kernel_rfl) ?_
      (refine takeV 0 (v := ?_) (by simp only [List.getElem?_toArray, List.getElem?_cons, reduceIte]; rfl) (by kernel_rfl) (by rfl) (fun w' hw' => ?_) ?_; rotate_left; focus (obtain ⟨⟨d0, d1, d2, d3, d4⟩, _⟩ := cells5 (HX.out w' hw').1; go_simp; first | done | with_reducible rfl)); (simp only [Act.put, List.setIfInBounds_toArray, List.set])
      (refine takeG 1 (v := ?_) (by simp only [List.getElem?_toArray, List.getElem?_cons, reduceIte]; rfl) (by kernel_rfl) (by rfl) (fun w' hw' => ?_) ?_; rotate_left; focus (go_simp; refine ⟨Ext.refl _, ?_⟩; (exact cR.out w'))); (simp only [Act.put, List.setIfInBounds_toArray, List.set])
      (refine takeV 2 (v := ?_) (by simp only [List.getElem?_toArray, List.getElem?_cons, reduceIte]; rfl) (by kernel_rfl) (by rfl) (fun w' hw' => ?_) ?_; rotate_left; focus (skip; go_simp; first | done | with_reducible rfl)); (simp only [Act.put, List.setIfInBounds_toArray, List.set])
      (refine takeV 3 (v := ?_) (by simp only [List.getElem?_toArray, List.getElem?_cons, reduceIte]; rfl) (by kernel_rfl) (by rfl) (fun w' hw' => ?_) ?_; rotate_left; focus (skip; go_simp; first | done | with_reducible rfl)); (simp only [Act.put, List.setIfInBounds_toArray, List.set])
      (refine takeV 4 (v := ?_) (by simp only [List.getElem?_toArray, List.getElem?_cons, reduceIte]; rfl) (by kernel_rfl) (by rfl) (fun w' hw' => ?_) ?_; rotate_left; focus (skip; go_simp; first | done | with_reducible rfl)); (simp only [Act.put, List.setIfInBounds_toArray, List.set])
      (refine takeV 5 (v := ?_) (by simp only [List.getElem?_toArray, List.getElem?_cons, reduceIte]; rfl) (by kernel_rfl) (by rfl) (fun w' hw' => ?_) ?_; rotate_left; focus (obtain ⟨⟨d0, d1, d2, d3, d4⟩, _⟩ := cells5 (HX.out w' hw').1; go_simp; first | done | with_reducible rfl)); (simp only [Act.put, List.setIfInBounds_toArray, List.set])
      (refine takeV 6 (v := ?_) (by simp only [List.getElem?_toArray, List.getElem?_cons, reduceIte]; rfl) (by kernel_rfl) (by rfl) (fun w' hw' => ?_) ?_; rotate_left; focus (skip; go_simp; first | done | with_reducible rfl)); (simp only [Act.put, List.setIfInBounds_toArray, List.set])
      (refine takeV 7 (v := ?_) (by simp only [List.getElem?_toArray, List.getElem?_cons, reduceIte]; rfl) (by kernel_rfl) (by rfl) (fun w' hw' => ?_) ?_; rotate_left; focus (skip; go_simp; first | done | with_reducible rfl)); (simp only [Act.put, List.setIfInBounds_toArray, List.set])
      (refine takeV 8 (v := ?_) (by simp only [List.getElem?_toArray, List.getElem?_cons, reduceIte]; rfl) (by kernel_rfl) (by rfl) (fun w' hw' => ?_) ?_; rotate_left; focus (skip; go_simp; first | done | with_reducible rfl)); (simp only [Act.put, List.setIfInBounds_toArray, List.set])
      (refine takeV 9 (v := ?_) (by simp only [List.getElem?_toArray, List.getElem?_cons, reduceIte]; rfl) (by kernel_rfl) (by rfl) (fun w' hw' => ?_) ?_; rotate_left; focus (have hc := (HX.out w' hw').2.blk; unfold rCells at hc; dsimp only at hc; obtain ⟨⟨c0, c1, c2, c3, c4, c5, c6, c7, c8, c9, c10⟩, _⟩ := cells11 hc; go_simp; first | done | with_reducible rfl)); (simp only [Act.put, List.setIfInBounds_toArray, List.set])
      (refine takeV 10 (v := ?_) (by simp only [List.getElem?_toArray, List.getElem?_cons, reduceIte]; rfl) (by kernel_rfl) (by rfl) (fun w' hw' => ?_) ?_; rotate_left; focus (skip; go_simp; first | done | with_reducible rfl)); (simp only [Act.put, List.setIfInBounds_toArray, List.set])
      (refine takeV 11 (v := ?_) (by simp only [List.getElem?_toArray, List.getElem?_cons, reduceIte]; rfl) (by kernel_rfl) (by rfl) (fun w' hw' => ?_) ?_; rotate_left; focus (skip; go_simp; first | done | with_reducible rfl)); (simp only [Act.put, List.setIfInBounds_toArray, List.set])
      (refine doneM (by kernel_rfl) ?_; intro w' hw'; show _)
      have HW := Lib.hid hw'
      obtain ⟨⟨d0, d1, d2, d3, d4⟩, _⟩ := cells5 (HX.out w' hw').1
      clear hw'
      go_wp2_with fail
      refine (cS.out _ ⟨ao, n, c, (HX.out _ HW.out).2⟩).mono ?_
      rintro e3 w3 ⟨F', rfl, ⟨a3, n3, c3, h3⟩, o3, g3⟩
      have hbx := o3.blk (HX.out _ HW.out).1 (fun hf => Nat.lt_irrefl _ (HF.out _ hf))
      clear d0 d1 d2 d3 d4
      obtain ⟨⟨d0, d1, d2, d3, d4⟩, _⟩ := cells5 hbx
      have hb3 := h3.blk
      have HB3 := Lib.hid hb3
      have hgp : w.heap.size ≠ p := fun e => by have := HP.out; omega
      have hpg : p ≠ w.heap.size := fun e => hgp e.symm
      unfold rCells at hb3
      dsimp only at hb3
      obtain ⟨⟨c0, c1, c2, c3, c4, c5, c6, c7, c8, c9, c10⟩, ⟨f0, f1, f2, f3, f4, f5, f6, f7, f8, f9, f10⟩⟩ := cells11 hb3
      have H3 := Lib.hid h3
      have O3 := Lib.hid o3
      have G3 := Lib.hid g3
      clear h3 hb3 o3 g3 hbx
      go_wp2_with fail
      go_quiet (fail)
      go_wp2_with fail
      refine (HCL.out _).mono ?_
      rintro e4 w4 ⟨rfl, hx4⟩
      have HX4 := Lib.hid hx4
      clear hx4
      go_wp2
      all_goals refine bodyPost_ret (v := .tuple #[.string fb, .bool true]) (by simp [results, Try.results20, go_sem]) rfl ?_
      have z := blk_set (blk_set HB3.out 9 (.bool true)) 8 (.int .u64 (((want1 + 1) % 18446744073709551616 : Nat) : Int))
      all_goals (refine take_end (Ext.trans ((Ext.refl w).alloc _) HW.out) O3.out G3.out H3.out ?_ OK.out rfl ?_ _; exact Off.ext (by repeat (first | exact Off.refl _ _ | refine off_two ?_ _ _ rfl | refine off_drew ?_ _)) HX4.out; exact (HX4.out.block p (blk_lt z)).trans z)
    · have htl : S.told f = false := by rw [htold, decide_eq_false hq, Bool.and_false]
      have hbd : S.body f = ⟨#[]⟩ := by rw [hbody, htl]; rfl
      rw [htl, hbd]
      rw [if_neg (by rw [hk]; decide), if_neg hq] at htake
      rw [htake] at hok ⊢
      have t1 : ((f.q : Int) != (S.want : Int)) = true := by rw [bne_iff_ne, ne_eq]; omega
      clear htl hbd htold hbody htake hq
      have OK := Lib.hid hok
      clear hok
      obtain ⟨e, win, qn, wait, l, first, out, ever, want, owes, age⟩ := S
      obtain ⟨e1, win1, qn1, wait1, l1, first1, out1, ever1, want1, owes1, age1⟩ := S1
      obtain ⟨fk, fe, fq, fa, fb⟩ := f
      dsimp only at cR HCL hne cS hwant HX hk OK t1 hw64 ha hb9 ⊢
      subst hwant hk
      clear hw64 ha hb9
      go_enter Try.func20, Try.ntmps20
      go_wp2_with fail
      refine wp_region_M_lit (by kernel_rfl) ?_
      (refine takeV 0 (v := ?_) (by simp only [List.getElem?_toArray, List.getElem?_cons, reduceIte]; rfl) (by kernel_rfl) (by rfl) (fun w' hw' => ?_) ?_; rotate_left; focus (obtain ⟨⟨d0, d1, d2, d3, d4⟩, _⟩ := cells5 (HX.out w' hw').1; go_simp; first | done | with_reducible rfl)); (simp only [Act.put, List.setIfInBounds_toArray, List.set])
      (refine takeG 1 (v := ?_) (by simp only [List.getElem?_toArray, List.getElem?_cons, reduceIte]; rfl) (by kernel_rfl) (by rfl) (fun w' hw' => ?_) ?_; rotate_left; focus (go_simp; refine ⟨Ext.refl _, ?_⟩; (exact cR.out w'))); (simp only [Act.put, List.setIfInBounds_toArray, List.set])
      (refine takeV 2 (v := ?_) (by simp only [List.getElem?_toArray, List.getElem?_cons, reduceIte]; rfl) (by kernel_rfl) (by rfl) (fun w' hw' => ?_) ?_; rotate_left; focus (skip; go_simp; first | done | with_reducible rfl)); (simp only [Act.put, List.setIfInBounds_toArray, List.set])
      (refine takeV 3 (v := ?_) (by simp only [List.getElem?_toArray, List.getElem?_cons, reduceIte]; rfl) (by kernel_rfl) (by rfl) (fun w' hw' => ?_) ?_; rotate_left; focus (skip; go_simp; first | done | with_reducible rfl)); (simp only [Act.put, List.setIfInBounds_toArray, List.set])
      (refine takeV 4 (v := ?_) (by simp only [List.getElem?_toArray, List.getElem?_cons, reduceIte]; rfl) (by kernel_rfl) (by rfl) (fun w' hw' => ?_) ?_; rotate_left; focus (skip; go_simp; first | done | with_reducible rfl)); (simp only [Act.put, List.setIfInBounds_toArray, List.set])
      (refine takeV 5 (v := ?_) (by simp only [List.getElem?_toArray, List.getElem?_cons, reduceIte]; rfl) (by kernel_rfl) (by rfl) (fun w' hw' => ?_) ?_; rotate_left; focus (obtain ⟨⟨d0, d1, d2, d3, d4⟩, _⟩ := cells5 (HX.out w' hw').1; go_simp; first | done | with_reducible rfl)); (simp only [Act.put, List.setIfInBounds_toArray, List.set])
      (refine takeV 6 (v := ?_) (by simp only [List.getElem?_toArray, List.getElem?_cons, reduceIte]; rfl) (by kernel_rfl) (by rfl) (fun w' hw' => ?_) ?_; rotate_left; focus (skip; go_simp; first | done | with_reducible rfl)); (simp only [Act.put, List.setIfInBounds_toArray, List.set])
      (refine takeV 7 (v := ?_) (by simp only [List.getElem?_toArray, List.getElem?_cons, reduceIte]; rfl) (by kernel_rfl) (by rfl) (fun w' hw' => ?_) ?_; rotate_left; focus (skip; go_simp; first | done | with_reducible rfl)); (simp only [Act.put, List.setIfInBounds_toArray, List.set])
      (refine takeV 8 (v := ?_) (by simp only [List.getElem?_toArray, List.getElem?_cons, reduceIte]; rfl) (by kernel_rfl) (by rfl) (fun w' hw' => ?_) ?_; rotate_left; focus (skip; go_simp; first | done | with_reducible rfl)); (simp only [Act.put, List.setIfInBounds_toArray, List.set])
      (refine takeV 9 (v := ?_) (by simp only [List.getElem?_toArray, List.getElem?_cons, reduceIte]; rfl) (by kernel_rfl) (by rfl) (fun w' hw' => ?_) ?_; rotate_left; focus (have hc := (HX.out w' hw').2.blk; unfold rCells at hc; dsimp only at hc; obtain ⟨⟨c0, c1, c2, c3, c4, c5, c6, c7, c8, c9, c10⟩, _⟩ := cells11 hc; go_simp; first | done | with_reducible rfl)); (simp only [Act.put, List.setIfInBounds_toArray, List.set])
      (refine takeV 10 (v := ?_) (by simp only [List.getElem?_toArray, List.getElem?_cons, reduceIte]; rfl) (by kernel_rfl) (by rfl) (fun w' hw' => ?_) ?_; rotate_left; focus (skip; go_simp; first | done | with_reducible rfl)); (simp only [Act.put, List.setIfInBounds_toArray, List.set])
      (refine takeV 11 (v := ?_) (by simp only [List.getElem?_toArray, List.getElem?_cons, reduceIte]; rfl) (by kernel_rfl) (by rfl) (fun w' hw' => ?_) ?_; rotate_left; focus (skip; go_simp; first | done | with_reducible rfl)); (simp only [Act.put, List.setIfInBounds_toArray, List.set])
      (refine doneM (by kernel_rfl) ?_; intro w' hw'; show _)
      have HW := Lib.hid hw'
      obtain ⟨⟨d0, d1, d2, d3, d4⟩, _⟩ := cells5 (HX.out w' hw').1
      clear hw'
      go_wp2_with fail
      refine (cS.out _ ⟨ao, n, c, (HX.out _ HW.out).2⟩).mono ?_
      rintro e3 w3 ⟨F', rfl, ⟨a3, n3, c3, h3⟩, o3, g3⟩
      have hbx := o3.blk (HX.out _ HW.out).1 (fun hf => Nat.lt_irrefl _ (HF.out _ hf))
      clear d0 d1 d2 d3 d4
      obtain ⟨⟨d0, d1, d2, d3, d4⟩, _⟩ := cells5 hbx
      have hb3 := h3.blk
      have HB3 := Lib.hid hb3
      have hgp : w.heap.size ≠ p := fun e => by have := HP.out; omega
      have hpg : p ≠ w.heap.size := fun e => hgp e.symm
      unfold rCells at hb3
      dsimp only at hb3
      obtain ⟨⟨c0, c1, c2, c3, c4, c5, c6, c7, c8, c9, c10⟩, ⟨f0, f1, f2, f3, f4, f5, f6, f7, f8, f9, f10⟩⟩ := cells11 hb3
      have H3 := Lib.hid h3
      have O3 := Lib.hid o3
      have G3 := Lib.hid g3
      clear h3 hb3 o3 g3 hbx
      go_wp2_with fail
      go_quiet (fail)
      go_wp2
      all_goals refine bodyPost_ret (v := .tuple #[.string ⟨#[]⟩, .bool false]) (by simp [results, Try.results20, go_sem]) rfl ?_
      all_goals (refine take_end (Ext.trans ((Ext.refl w).alloc _) HW.out) O3.out G3.out H3.out ?_ OK.out rfl ?_ _; exact (by repeat (first | exact Off.refl _ _ | refine off_two ?_ _ _ rfl | refine off_drew ?_ _)); exact blk_set HB3.out 9 _)
  · have htl : S.told f = false := by rw [htold, hk]; rfl
    have hbd : S.body f = ⟨#[]⟩ := by rw [hbody, htl]; rfl
    rw [htl, hbd]
    rw [if_pos hk] at htake
    rw [htake] at hok ⊢
    clear htl hbd htold hbody htake
    have OK := Lib.hid hok
    clear hok
    obtain ⟨e, win, qn, wait, l, first, out, ever, want, owes, age⟩ := S
    obtain ⟨e1, win1, qn1, wait1, l1, first1, out1, ever1, want1, owes1, age1⟩ := S1
    obtain ⟨fk, fe, fq, fa, fb⟩ := f
    dsimp only at cR HCL hne cS hwant HX hk OK hw64 ha hb9 ⊢
    subst hwant hk
    clear hw64 ha hb9
    go_enter Try.func20, Try.ntmps20
    go_wp2_with fail
    refine wp_region_M_lit (by kernel_rfl) ?_
    (refine takeV 0 (v := ?_) (by simp only [List.getElem?_toArray, List.getElem?_cons, reduceIte]; rfl) (by kernel_rfl) (by rfl) (fun w' hw' => ?_) ?_; rotate_left; focus (obtain ⟨⟨d0, d1, d2, d3, d4⟩, _⟩ := cells5 (HX.out w' hw').1; go_simp; first | done | with_reducible rfl)); (simp only [Act.put, List.setIfInBounds_toArray, List.set])
    (refine takeG 1 (v := ?_) (by simp only [List.getElem?_toArray, List.getElem?_cons, reduceIte]; rfl) (by kernel_rfl) (by rfl) (fun w' hw' => ?_) ?_; rotate_left; focus (go_simp; refine ⟨Ext.refl _, ?_⟩; (exact cR.out w'))); (simp only [Act.put, List.setIfInBounds_toArray, List.set])
    (refine takeV 2 (v := ?_) (by simp only [List.getElem?_toArray, List.getElem?_cons, reduceIte]; rfl) (by kernel_rfl) (by rfl) (fun w' hw' => ?_) ?_; rotate_left; focus (skip; go_simp; first | done | with_reducible rfl)); (simp only [Act.put, List.setIfInBounds_toArray, List.set])
    (refine takeV 3 (v := ?_) (by simp only [List.getElem?_toArray, List.getElem?_cons, reduceIte]; rfl) (by kernel_rfl) (by rfl) (fun w' hw' => ?_) ?_; rotate_left; focus (skip; go_simp; first | done | with_reducible rfl)); (simp only [Act.put, List.setIfInBounds_toArray, List.set])
    (refine takeV 4 (v := ?_) (by simp only [List.getElem?_toArray, List.getElem?_cons, reduceIte]; rfl) (by kernel_rfl) (by rfl) (fun w' hw' => ?_) ?_; rotate_left; focus (skip; go_simp; first | done | with_reducible rfl)); (simp only [Act.put, List.setIfInBounds_toArray, List.set])
    (refine takeV 5 (v := ?_) (by simp only [List.getElem?_toArray, List.getElem?_cons, reduceIte]; rfl) (by kernel_rfl) (by rfl) (fun w' hw' => ?_) ?_; rotate_left; focus (obtain ⟨⟨d0, d1, d2, d3, d4⟩, _⟩ := cells5 (HX.out w' hw').1; go_simp; first | done | with_reducible rfl)); (simp only [Act.put, List.setIfInBounds_toArray, List.set])
    (refine takeV 6 (v := ?_) (by simp only [List.getElem?_toArray, List.getElem?_cons, reduceIte]; rfl) (by kernel_rfl) (by rfl) (fun w' hw' => ?_) ?_; rotate_left; focus (skip; go_simp; first | done | with_reducible rfl)); (simp only [Act.put, List.setIfInBounds_toArray, List.set])
    (refine takeV 7 (v := ?_) (by simp only [List.getElem?_toArray, List.getElem?_cons, reduceIte]; rfl) (by kernel_rfl) (by rfl) (fun w' hw' => ?_) ?_; rotate_left; focus (skip; go_simp; first | done | with_reducible rfl)); (simp only [Act.put, List.setIfInBounds_toArray, List.set])
    (refine takeV 8 (v := ?_) (by simp only [List.getElem?_toArray, List.getElem?_cons, reduceIte]; rfl) (by kernel_rfl) (by rfl) (fun w' hw' => ?_) ?_; rotate_left; focus (skip; go_simp; first | done | with_reducible rfl)); (simp only [Act.put, List.setIfInBounds_toArray, List.set])
    (refine takeV 9 (v := ?_) (by simp only [List.getElem?_toArray, List.getElem?_cons, reduceIte]; rfl) (by kernel_rfl) (by rfl) (fun w' hw' => ?_) ?_; rotate_left; focus (have hc := (HX.out w' hw').2.blk; unfold rCells at hc; dsimp only at hc; obtain ⟨⟨c0, c1, c2, c3, c4, c5, c6, c7, c8, c9, c10⟩, _⟩ := cells11 hc; go_simp; first | done | with_reducible rfl)); (simp only [Act.put, List.setIfInBounds_toArray, List.set])
    (refine takeV 10 (v := ?_) (by simp only [List.getElem?_toArray, List.getElem?_cons, reduceIte]; rfl) (by kernel_rfl) (by rfl) (fun w' hw' => ?_) ?_; rotate_left; focus (skip; go_simp; first | done | with_reducible rfl)); (simp only [Act.put, List.setIfInBounds_toArray, List.set])
    (refine takeV 11 (v := ?_) (by simp only [List.getElem?_toArray, List.getElem?_cons, reduceIte]; rfl) (by kernel_rfl) (by rfl) (fun w' hw' => ?_) ?_; rotate_left; focus (skip; go_simp; first | done | with_reducible rfl)); (simp only [Act.put, List.setIfInBounds_toArray, List.set])
    (refine doneM (by kernel_rfl) ?_; intro w' hw'; show _)
    have HW := Lib.hid hw'
    obtain ⟨⟨d0, d1, d2, d3, d4⟩, _⟩ := cells5 (HX.out w' hw').1
    clear hw'
    go_wp2_with fail
    refine (cS.out _ ⟨ao, n, c, (HX.out _ HW.out).2⟩).mono ?_
    rintro e3 w3 ⟨F', rfl, ⟨a3, n3, c3, h3⟩, o3, g3⟩
    have hbx := o3.blk (HX.out _ HW.out).1 (fun hf => Nat.lt_irrefl _ (HF.out _ hf))
    clear d0 d1 d2 d3 d4
    obtain ⟨⟨d0, d1, d2, d3, d4⟩, _⟩ := cells5 hbx
    have hb3 := h3.blk
    have HB3 := Lib.hid hb3
    have hgp : w.heap.size ≠ p := fun e => by have := HP.out; omega
    have hpg : p ≠ w.heap.size := fun e => hgp e.symm
    unfold rCells at hb3
    dsimp only at hb3
    obtain ⟨⟨c0, c1, c2, c3, c4, c5, c6, c7, c8, c9, c10⟩, ⟨f0, f1, f2, f3, f4, f5, f6, f7, f8, f9, f10⟩⟩ := cells11 hb3
    have H3 := Lib.hid h3
    have O3 := Lib.hid o3
    have G3 := Lib.hid g3
    clear h3 hb3 o3 g3 hbx
    go_wp2
    all_goals refine bodyPost_ret (v := .tuple #[.string ⟨#[]⟩, .bool false]) (by simp [results, Try.results20, go_sem]) rfl ?_
    all_goals (refine take_end (Ext.trans ((Ext.refl w).alloc _) HW.out) O3.out G3.out H3.out ?_ OK.out rfl ?_ _; exact (by repeat (first | exact Off.refl _ _ | refine off_two ?_ _ _ rfl | refine off_drew ?_ _)); exact HB3.out)

theorem pTake {w : World} {p : Nat} {S : EndS} {F : Nat → Prop} (_ : Std w) (h : EAt w p S F) (f : Fr) (ha : f.a < 18446744073709551616) (_ : f.q < 18446744073709551616) (hb : f.b.size ≤ 1000) :
    Calls Try.prog 20 #[.pointer (some ⟨p, 0, none⟩), .agg #[.int .i64 f.k, .int .i64 f.e, .int .u64 (f.q : Int), .int .u64 (f.a : Int), .string f.b]] w (MovesE p (S.take f) F (.tuple #[.string (S.body f), .bool (S.told f)]) w) := by
  cases hg : S.good f
  · exact take_bad h f hg
  · exact take_good h f ha hb hg
end Go.Proofs.Ytefkjclkondmeaa
