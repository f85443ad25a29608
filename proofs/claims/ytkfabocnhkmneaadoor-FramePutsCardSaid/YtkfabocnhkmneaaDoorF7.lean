/- What the chapter's example fixes. -/
import Derived.Test.YtkfabocnhkmneaaDoorFP5
namespace Go.Proofs.YtkfabocnhkmneaaDoor
open Go.RowKit

def exF : Fr := ⟨2, 1, 0, 2, ⟨#[]⟩⟩
theorem ex_right : rightB exF = true := by decide
theorem ex_in : exF.In := ⟨by decide, by decide, by decide, by decide, by decide⟩
theorem ex_put : putF exF = putS 2 1 0 2 ⟨#[]⟩ := rfl
theorem ex_size : (putF exF).size = 27 := putF_size ex_right
theorem ex_bl : bl (putF exF) = putL 2 1 0 2 ⟨#[]⟩ ++ tailN (moreN 0 (putL 2 1 0 2 ⟨#[]⟩)) := by rw [ex_put, bl_putS (by decide)]
theorem ex_five : (putF exF).extract 0 5 = ⟨#[78]⟩ ++ ⟨#[1, 2, 0, 1]⟩ := by
  apply bl_inj
  rw [bl_extract, ex_bl]
  rfl
theorem ex_twenty : (bl (putF exF)).getD 20 0 = 2 := by rw [ex_bl]; rfl
theorem five_what : whatN ((putF exF).extract 0 5) = 61 ∧ whereN ((putF exF).extract 0 5) = 5 := by
  have h : ((putF exF).extract 0 5).size = 5 := by rw [ex_five]; rfl
  constructor
  · unfold whatN; rw [if_pos (by omega)]
  · unfold whereN; rw [if_pos (by omega)]; exact h

set_option maxRecDepth 100000 in
set_option maxHeartbeats 1600000 in
theorem awake_any (w : World) (hw : Std w) :
    Calls Tryd.prog 9 #[] w fun e w' => e = .returned (.bool true) ∧ Ext w w' := by
  have HT : Hid (∀ W, Ext w W → Std W) := Lib.hid fun W x => hw.ext x
  clear hw
  obtain ⟨S, sz, x5, x20, HcP, HcG, HcW⟩ : ∃ S : ByteArray, S.size = 27 ∧ S.extract 0 5 = ⟨#[78]⟩ ++ ⟨#[1, 2, 0, 1]⟩ ∧ (∀ h : 20 < S.size, (S[20]'h).toNat = 2) ∧
      Hid (∀ W, Std W → Calls Tryd.prog 10 #[.agg #[.int .i64 2, .int .i64 1, .int .u64 0, .int .u64 2, .string ⟨#[]⟩]] W fun ev w' => ev = .returned (.tuple #[.string S, .int .i64 0]) ∧ Ext W w') ∧
      Hid (∀ W, Std W → Calls Tryd.prog 15 #[.string S] W fun ev w' => ev = .returned (.tuple #[.agg #[.int .i64 2, .int .i64 1, .int .u64 0, .int .u64 2, .string ⟨#[]⟩], .int .i64 0]) ∧ Ext W w') ∧
      Hid (∀ W, Std W → Calls Tryd.prog 16 #[.string (S.extract 0 5)] W fun ev w' => ev = .returned (.tuple #[.int .i64 5, .int .i64 61]) ∧ Ext W w') := by
    refine ⟨putF exF, ex_size, ex_five, fun h => ?_, Lib.hid fun W h => put_any W h exF ex_in, Lib.hid fun W h => ?_, Lib.hid fun W h => ?_⟩
    · rw [bl_at (putF exF) h, ex_twenty]
    · have := get_any W h (putF exF) (by rw [ex_size]; decide)
      obtain ⟨h1, h2⟩ := put_get ex_in.2.2.1 ex_in.2.2.2.1 ex_right
      rwa [h1, h2] at this
    · have := why_any W h ((putF exF).extract 0 5) (by rw [ex_five]; decide)
      rwa [five_what.1, five_what.2] at this
  have x20 := x20 (by omega)
  have l20 : (20 : Int) < (S.size : Int) := by omega
  have l5 : (5 : Int) ≤ (S.size : Int) := by omega
  have m5 : min (S.size : Int) 5 = 5 := by omega
  have x5b : ((S.extract 0 5).toList == (⟨#[78]⟩ ++ ⟨#[1, 2, 0, 1]⟩ : ByteArray).toList) = true := by rw [x5]; simp
  clear x5
  have cR := Lib.hid (show ∀ W, Calls Tryd.prog 11 #[.agg #[.int .i64 2, .int .i64 1, .int .u64 0, .int .u64 2, .string ⟨#[]⟩]] W fun ev w' => ev = .returned (.bool true) ∧ Ext W w' from fun W => right_any W 2 1 0 2 ⟨#[]⟩)
  have cR0 := Lib.hid (show ∀ W, Calls Tryd.prog 11 #[.agg #[.int .i64 0, .int .i64 0, .int .u64 0, .int .u64 0, .string ⟨#[]⟩]] W fun ev w' => ev = .returned (.bool false) ∧ Ext W w' from fun W => right_any W 0 0 0 0 ⟨#[]⟩)
  have cS := Lib.hid (show ∀ W, Calls Tryd.prog 13 #[.agg #[.int .i64 2, .int .i64 1, .int .u64 0, .int .u64 2, .string ⟨#[]⟩], .agg #[.int .i64 2, .int .i64 1, .int .u64 0, .int .u64 2, .string ⟨#[]⟩]] W fun ev w' => ev = .returned (.bool true) ∧ Ext W w' from fun W => same_any W exF exF)
  have cS0 := Lib.hid (show ∀ W, Calls Tryd.prog 13 #[.agg #[.int .i64 2, .int .i64 1, .int .u64 0, .int .u64 2, .string ⟨#[]⟩], .agg #[.int .i64 0, .int .i64 0, .int .u64 0, .int .u64 0, .string ⟨#[]⟩]] W fun ev w' => ev = .returned (.bool false) ∧ Ext W w' from fun W => same_any W exF Fr.zero)
  go_enter Tryd.func9, Tryd.ntmps9
  go_wp2_with (first
    | (go_at_call 10; refine (HcP.out _ (HT.out _ (by repeat (first | exact Ext.refl _ | assumption | refine Ext.alloc ?_ _ | refine Ext.drew ?_ | refine Ext.drewN ?_ _)))).mono ?_; rintro e w1 ⟨rfl, x1⟩)
    | (go_at_call 15; refine (HcG.out _ (HT.out _ (Ext.trans (Ext.alloc (Ext.refl _) _) x1))).mono ?_; rintro e w2 ⟨rfl, x2⟩)
    | (go_at_call 16; refine (HcW.out _ (HT.out _ (Ext.trans (Ext.alloc (Ext.refl _) _) (Ext.trans x1 (Ext.trans x2 (Ext.alloc (Ext.refl _) _)))))).mono ?_; rintro e w3 ⟨rfl, x3⟩))
  have HK := Lib.hid (show ∀ W, Ext w3 W → (W.cell? ⟨w.heap.size, 0, none⟩ = some (.int .i64 2) ∧ W.cell? ⟨w.heap.size, 1, none⟩ = some (.int .i64 1) ∧ W.cell? ⟨w.heap.size, 2, none⟩ = some (.int .u64 0) ∧ W.cell? ⟨w.heap.size, 3, none⟩ = some (.int .u64 2) ∧ W.cell? ⟨w.heap.size, 4, none⟩ = some (.string ⟨#[]⟩)) ∧
      (W.cell? ⟨w2.heap.size, 0, none⟩ = some (.int .i64 2) ∧ W.cell? ⟨w2.heap.size, 1, none⟩ = some (.int .i64 1) ∧ W.cell? ⟨w2.heap.size, 2, none⟩ = some (.int .u64 0) ∧ W.cell? ⟨w2.heap.size, 3, none⟩ = some (.int .u64 2) ∧ W.cell? ⟨w2.heap.size, 4, none⟩ = some (.string ⟨#[]⟩)) from fun W h =>
    ⟨(five_cells (late_blk (Ext.trans x1 (Ext.trans x2 (Ext.trans (Ext.alloc (Ext.refl _) _) (Ext.trans x3 h)))))).1, (five_cells (late_blk (Ext.trans x3 h))).1⟩)
  have HY := Lib.hid (show Ext w w3 from Ext.trans (Ext.alloc (Ext.refl _) _) (Ext.trans x1 (Ext.trans x2 (Ext.trans (Ext.alloc (Ext.refl _) _) x3))))
  clear x1 x2 x3
  refine wp_region_M_lit (by kernel_rfl) ?_
  (refine takeV 0 (v := ?_) (by simp only [List.getElem?_toArray, List.getElem?_cons, reduceIte]; rfl) (by kernel_rfl) (by rfl) (fun w' hw' => ?_) ?_; rotate_left; focus (skip; go_simp; first | done | with_reducible rfl)); (simp only [Act.put, List.setIfInBounds_toArray, List.set])
  (refine takeV 1 (v := ?_) (by simp only [List.getElem?_toArray, List.getElem?_cons, reduceIte]; rfl) (by kernel_rfl) (by rfl) (fun w' hw' => ?_) ?_; rotate_left; focus (skip; go_simp; first | done | with_reducible rfl)); (simp only [Act.put, List.setIfInBounds_toArray, List.set])
  (refine takeV 2 (v := ?_) (by simp only [List.getElem?_toArray, List.getElem?_cons, reduceIte]; rfl) (by kernel_rfl) (by rfl) (fun w' hw' => ?_) ?_; rotate_left; focus (skip; go_simp; first | done | with_reducible rfl)); (simp only [Act.put, List.setIfInBounds_toArray, List.set])
  (refine takeV 3 (v := ?_) (by simp only [List.getElem?_toArray, List.getElem?_cons, reduceIte]; rfl) (by kernel_rfl) (by rfl) (fun w' hw' => ?_) ?_; rotate_left; focus (skip; go_simp; first | done | with_reducible rfl)); (simp only [Act.put, List.setIfInBounds_toArray, List.set])
  (refine takeV 4 (v := ?_) (by simp only [List.getElem?_toArray, List.getElem?_cons, reduceIte]; rfl) (by kernel_rfl) (by rfl) (fun w' hw' => ?_) ?_; rotate_left; focus (skip; go_simp; first | done | with_reducible rfl)); (simp only [Act.put, List.setIfInBounds_toArray, List.set])
  (refine takeV 5 (v := ?_) (by simp only [List.getElem?_toArray, List.getElem?_cons, reduceIte]; rfl) (by kernel_rfl) (by rfl) (fun w' hw' => ?_) ?_; rotate_left; focus (skip; go_simp; first | done | with_reducible rfl)); (simp only [Act.put, List.setIfInBounds_toArray, List.set])
  (refine takeV 6 (v := ?_) (by simp only [List.getElem?_toArray, List.getElem?_cons, reduceIte]; rfl) (by kernel_rfl) (by rfl) (fun w' hw' => ?_) ?_; rotate_left; focus (skip; go_simp; first | done | with_reducible rfl)); (simp only [Act.put, List.setIfInBounds_toArray, List.set])
  (refine takeV 7 (v := ?_) (by simp only [List.getElem?_toArray, List.getElem?_cons, reduceIte]; rfl) (by kernel_rfl) (by rfl) (fun w' hw' => ?_) ?_; rotate_left; focus (skip; go_simp; first | done | with_reducible rfl)); (simp only [Act.put, List.setIfInBounds_toArray, List.set])
  (refine takeV 8 (v := ?_) (by simp only [List.getElem?_toArray, List.getElem?_cons, reduceIte]; rfl) (by kernel_rfl) (by rfl) (fun w' hw' => ?_) ?_; rotate_left; focus (skip; go_simp; first | done | with_reducible rfl)); (simp only [Act.put, List.setIfInBounds_toArray, List.set])
  (refine takeV 9 (v := ?_) (by simp only [List.getElem?_toArray, List.getElem?_cons, reduceIte]; rfl) (by kernel_rfl) (by rfl) (fun w' hw' => ?_) ?_; rotate_left; focus (skip; go_simp; first | done | with_reducible rfl)); (simp only [Act.put, List.setIfInBounds_toArray, List.set])
  (refine runOne 10 (by simp only [List.getElem?_toArray, List.getElem?_cons, reduceIte]; rfl) (by kernel_rfl) (by kernel_rfl) (by rfl) ?_; intro w' hw'; go_simp; refine ⟨Ext.alloc (Ext.refl _) _, ?_⟩; try (simp only [Act.put, List.setIfInBounds_toArray, List.set]))
  have HC := Lib.hid (fun W x => text_later [(1 : Int), 2, 0, 1] w' W x)
  have HZ := Lib.hid hw'
  clear hw'
  obtain ⟨n, hn⟩ : ∃ n, n = w'.heap.size := ⟨_, rfl⟩
  have HX := Lib.hid (Ext.alloc HZ.out (.cells #[.int .u8 1, .int .u8 2, .int .u8 0, .int .u8 1] 5))
  obtain ⟨wB, hB⟩ : ∃ wB, wB = w'.alloc (.cells #[.int .u8 1, .int .u8 2, .int .u8 0, .int .u8 1] 5) := ⟨_, rfl⟩
  have HC : Hid (∀ W, Ext wB W → (convert 41 9 (.slice (some ⟨n, 0, none⟩) 4 4)).run Tryd.prog W = .ok (.string ⟨#[1, 2, 0, 1]⟩) W) := Lib.hid (by rw [hn, hB]; exact HC.out)
  rw [← hn, ← hB]
  rw [← hB] at HX
  clear hn hB
  (refine takeV 11 (v := ?_) (by simp only [List.getElem?_toArray, List.getElem?_cons, reduceIte]; rfl) (by kernel_rfl) (by rfl) (fun w' hw' => ?_) ?_; rotate_left; focus (have hc := HC.out w' hw'; go_simp; first | done | with_reducible rfl)); (simp only [Act.put, List.setIfInBounds_toArray, List.set])
  (refine takeV 12 (v := ?_) (by simp only [List.getElem?_toArray, List.getElem?_cons, reduceIte]; rfl) (by kernel_rfl) (by rfl) (fun w' hw' => ?_) ?_; rotate_left; focus (skip; go_simp; first | done | with_reducible rfl)); (simp only [Act.put, List.setIfInBounds_toArray, List.set])
  (refine takeV 13 (v := ?_) (by simp only [List.getElem?_toArray, List.getElem?_cons, reduceIte]; rfl) (by kernel_rfl) (by rfl) (fun w' hw' => ?_) ?_; rotate_left; focus (skip; go_simp; first | done | with_reducible rfl)); (simp only [Act.put, List.setIfInBounds_toArray, List.set])
  (refine takeV 14 (v := ?_) (by simp only [List.getElem?_toArray, List.getElem?_cons, reduceIte]; rfl) (by kernel_rfl) (by rfl) (fun w' hw' => ?_) ?_; rotate_left; focus (skip; go_simp; first | done | with_reducible rfl)); (simp only [Act.put, List.setIfInBounds_toArray, List.set])
  (refine takeV 15 (v := ?_) (by simp only [List.getElem?_toArray, List.getElem?_cons, reduceIte]; rfl) (by kernel_rfl) (by rfl) (fun w' hw' => ?_) ?_; rotate_left; focus (skip; go_simp; first | done | with_reducible rfl)); (simp only [Act.put, List.setIfInBounds_toArray, List.set])
  (refine takeV 16 (v := ?_) (by simp only [List.getElem?_toArray, List.getElem?_cons, reduceIte]; rfl) (by kernel_rfl) (by rfl) (fun w' hw' => ?_) ?_; rotate_left; focus (skip; go_simp; first | done | with_reducible rfl)); (simp only [Act.put, List.setIfInBounds_toArray, List.set])
  (refine takeV 17 (v := ?_) (by simp only [List.getElem?_toArray, List.getElem?_cons, reduceIte]; rfl) (by kernel_rfl) (by rfl) (fun w' hw' => ?_) ?_; rotate_left; focus (skip; go_simp; first | done | with_reducible rfl)); (simp only [Act.put, List.setIfInBounds_toArray, List.set])
  (refine takeV 18 (v := ?_) (by simp only [List.getElem?_toArray, List.getElem?_cons, reduceIte]; rfl) (by kernel_rfl) (by rfl) (fun w' hw' => ?_) ?_; rotate_left; focus (skip; go_simp; first | done | with_reducible rfl)); (simp only [Act.put, List.setIfInBounds_toArray, List.set])
  (refine takeV 19 (v := ?_) (by simp only [List.getElem?_toArray, List.getElem?_cons, reduceIte]; rfl) (by kernel_rfl) (by rfl) (fun w' hw' => ?_) ?_; rotate_left; focus (skip; go_simp; first | done | with_reducible rfl)); (simp only [Act.put, List.setIfInBounds_toArray, List.set])
  (refine takeV 20 (v := ?_) (by simp only [List.getElem?_toArray, List.getElem?_cons, reduceIte]; rfl) (by kernel_rfl) (by rfl) (fun w' hw' => ?_) ?_; rotate_left; focus (skip; go_simp; first | done | with_reducible rfl)); (simp only [Act.put, List.setIfInBounds_toArray, List.set])
  (refine takeV 21 (v := ?_) (by simp only [List.getElem?_toArray, List.getElem?_cons, reduceIte]; rfl) (by kernel_rfl) (by rfl) (fun w' hw' => ?_) ?_; rotate_left; focus (skip; go_simp; first | done | with_reducible rfl)); (simp only [Act.put, List.setIfInBounds_toArray, List.set])
  (refine takeV 22 (v := ?_) (by simp only [List.getElem?_toArray, List.getElem?_cons, reduceIte]; rfl) (by kernel_rfl) (by rfl) (fun w' hw' => ?_) ?_; rotate_left; focus (skip; go_simp; first | done | with_reducible rfl)); (simp only [Act.put, List.setIfInBounds_toArray, List.set])
  (refine takeV 23 (v := ?_) (by simp only [List.getElem?_toArray, List.getElem?_cons, reduceIte]; rfl) (by kernel_rfl) (by rfl) (fun w' hw' => ?_) ?_; rotate_left; focus (skip; go_simp; first | done | with_reducible rfl)); (simp only [Act.put, List.setIfInBounds_toArray, List.set])
  (refine takeV 24 (v := ?_) (by simp only [List.getElem?_toArray, List.getElem?_cons, reduceIte]; rfl) (by kernel_rfl) (by rfl) (fun w' hw' => ?_) ?_; rotate_left; focus (skip; go_simp; first | done | with_reducible rfl)); (simp only [Act.put, List.setIfInBounds_toArray, List.set])
  (refine takeV 25 (v := ?_) (by simp only [List.getElem?_toArray, List.getElem?_cons, reduceIte]; rfl) (by kernel_rfl) (by rfl) (fun w' hw' => ?_) ?_; rotate_left; focus (have hc := (HK.out w' (Ext.trans HX.out hw')).1; go_simp; first | done | with_reducible rfl)); (simp only [Act.put, List.setIfInBounds_toArray, List.set])
  (refine takeV 26 (v := ?_) (by simp only [List.getElem?_toArray, List.getElem?_cons, reduceIte]; rfl) (by kernel_rfl) (by rfl) (fun w' hw' => ?_) ?_; rotate_left; focus (have hc := (HK.out w' (Ext.trans HX.out hw')).2; go_simp; first | done | with_reducible rfl)); (simp only [Act.put, List.setIfInBounds_toArray, List.set])
  (refine takeG 27 (v := ?_) (by simp only [List.getElem?_toArray, List.getElem?_cons, reduceIte]; rfl) (by kernel_rfl) (by rfl) (fun w' hw' => ?_) ?_; rotate_left; focus (go_simp; refine ⟨Ext.refl _, ?_⟩; (exact cS.out w'))); (simp only [Act.put, List.setIfInBounds_toArray, List.set])
  (refine takeV 28 (v := ?_) (by simp only [List.getElem?_toArray, List.getElem?_cons, reduceIte]; rfl) (by kernel_rfl) (by rfl) (fun w' hw' => ?_) ?_; rotate_left; focus (skip; go_simp; first | done | with_reducible rfl)); (simp only [Act.put, List.setIfInBounds_toArray, List.set])
  (refine takeV 29 (v := ?_) (by simp only [List.getElem?_toArray, List.getElem?_cons, reduceIte]; rfl) (by kernel_rfl) (by rfl) (fun w' hw' => ?_) ?_; rotate_left; focus (skip; go_simp; first | done | with_reducible rfl)); (simp only [Act.put, List.setIfInBounds_toArray, List.set])
  (refine takeV 30 (v := ?_) (by simp only [List.getElem?_toArray, List.getElem?_cons, reduceIte]; rfl) (by kernel_rfl) (by rfl) (fun w' hw' => ?_) ?_; rotate_left; focus (skip; go_simp; first | done | with_reducible rfl)); (simp only [Act.put, List.setIfInBounds_toArray, List.set])
  (refine takeV 31 (v := ?_) (by simp only [List.getElem?_toArray, List.getElem?_cons, reduceIte]; rfl) (by kernel_rfl) (by rfl) (fun w' hw' => ?_) ?_; rotate_left; focus (skip; go_simp; first | done | with_reducible rfl)); (simp only [Act.put, List.setIfInBounds_toArray, List.set])
  (refine takeV 32 (v := ?_) (by simp only [List.getElem?_toArray, List.getElem?_cons, reduceIte]; rfl) (by kernel_rfl) (by rfl) (fun w' hw' => ?_) ?_; rotate_left; focus (skip; go_simp; first | done | with_reducible rfl)); (simp only [Act.put, List.setIfInBounds_toArray, List.set])
  (refine takeV 33 (v := ?_) (by simp only [List.getElem?_toArray, List.getElem?_cons, reduceIte]; rfl) (by kernel_rfl) (by rfl) (fun w' hw' => ?_) ?_; rotate_left; focus (skip; go_simp; first | done | with_reducible rfl)); (simp only [Act.put, List.setIfInBounds_toArray, List.set])
  (refine takeV 34 (v := ?_) (by simp only [List.getElem?_toArray, List.getElem?_cons, reduceIte]; rfl) (by kernel_rfl) (by rfl) (fun w' hw' => ?_) ?_; rotate_left; focus (skip; go_simp; first | done | with_reducible rfl)); (simp only [Act.put, List.setIfInBounds_toArray, List.set])
  (refine takeV 35 (v := ?_) (by simp only [List.getElem?_toArray, List.getElem?_cons, reduceIte]; rfl) (by kernel_rfl) (by rfl) (fun w' hw' => ?_) ?_; rotate_left; focus (skip; go_simp; first | done | with_reducible rfl)); (simp only [Act.put, List.setIfInBounds_toArray, List.set])
  (refine takeV 36 (v := ?_) (by simp only [List.getElem?_toArray, List.getElem?_cons, reduceIte]; rfl) (by kernel_rfl) (by rfl) (fun w' hw' => ?_) ?_; rotate_left; focus (skip; go_simp; first | done | with_reducible rfl)); (simp only [Act.put, List.setIfInBounds_toArray, List.set])
  (refine takeV 37 (v := ?_) (by simp only [List.getElem?_toArray, List.getElem?_cons, reduceIte]; rfl) (by kernel_rfl) (by rfl) (fun w' hw' => ?_) ?_; rotate_left; focus (skip; go_simp; first | done | with_reducible rfl)); (simp only [Act.put, List.setIfInBounds_toArray, List.set])
  (refine takeV 38 (v := ?_) (by simp only [List.getElem?_toArray, List.getElem?_cons, reduceIte]; rfl) (by kernel_rfl) (by rfl) (fun w' hw' => ?_) ?_; rotate_left; focus (have hc := (HK.out w' (Ext.trans HX.out hw')).1; go_simp; first | done | with_reducible rfl)); (simp only [Act.put, List.setIfInBounds_toArray, List.set])
  (refine takeG 39 (v := ?_) (by simp only [List.getElem?_toArray, List.getElem?_cons, reduceIte]; rfl) (by kernel_rfl) (by rfl) (fun w' hw' => ?_) ?_; rotate_left; focus (go_simp; refine ⟨Ext.refl _, ?_⟩; (exact cR.out w'))); (simp only [Act.put, List.setIfInBounds_toArray, List.set])
  (refine takeV 40 (v := ?_) (by simp only [List.getElem?_toArray, List.getElem?_cons, reduceIte]; rfl) (by kernel_rfl) (by rfl) (fun w' hw' => ?_) ?_; rotate_left; focus (skip; go_simp; first | done | with_reducible rfl)); (simp only [Act.put, List.setIfInBounds_toArray, List.set])
  (refine takeV 41 (v := ?_) (by simp only [List.getElem?_toArray, List.getElem?_cons, reduceIte]; rfl) (by kernel_rfl) (by rfl) (fun w' hw' => ?_) ?_; rotate_left; focus (skip; go_simp; first | done | with_reducible rfl)); (simp only [Act.put, List.setIfInBounds_toArray, List.set])
  (refine takeV 42 (v := ?_) (by simp only [List.getElem?_toArray, List.getElem?_cons, reduceIte]; rfl) (by kernel_rfl) (by rfl) (fun w' hw' => ?_) ?_; rotate_left; focus (skip; go_simp; first | done | with_reducible rfl)); (simp only [Act.put, List.setIfInBounds_toArray, List.set])
  (refine takeG 43 (v := ?_) (by simp only [List.getElem?_toArray, List.getElem?_cons, reduceIte]; rfl) (by kernel_rfl) (by rfl) (fun w' hw' => ?_) ?_; rotate_left; focus (go_simp; refine ⟨Ext.refl _, ?_⟩; (exact cR0.out w'))); (simp only [Act.put, List.setIfInBounds_toArray, List.set])
  (refine takeV 44 (v := ?_) (by simp only [List.getElem?_toArray, List.getElem?_cons, reduceIte]; rfl) (by kernel_rfl) (by rfl) (fun w' hw' => ?_) ?_; rotate_left; focus (skip; go_simp; first | done | with_reducible rfl)); (simp only [Act.put, List.setIfInBounds_toArray, List.set])
  (refine takeV 45 (v := ?_) (by simp only [List.getElem?_toArray, List.getElem?_cons, reduceIte]; rfl) (by kernel_rfl) (by rfl) (fun w' hw' => ?_) ?_; rotate_left; focus (skip; go_simp; first | done | with_reducible rfl)); (simp only [Act.put, List.setIfInBounds_toArray, List.set])
  (refine takeV 46 (v := ?_) (by simp only [List.getElem?_toArray, List.getElem?_cons, reduceIte]; rfl) (by kernel_rfl) (by rfl) (fun w' hw' => ?_) ?_; rotate_left; focus (skip; go_simp; first | done | with_reducible rfl)); (simp only [Act.put, List.setIfInBounds_toArray, List.set])
  (refine takeV 47 (v := ?_) (by simp only [List.getElem?_toArray, List.getElem?_cons, reduceIte]; rfl) (by kernel_rfl) (by rfl) (fun w' hw' => ?_) ?_; rotate_left; focus (have hc := (HK.out w' (Ext.trans HX.out hw')).1; go_simp; first | done | with_reducible rfl)); (simp only [Act.put, List.setIfInBounds_toArray, List.set])
  (refine takeV 48 (v := ?_) (by simp only [List.getElem?_toArray, List.getElem?_cons, reduceIte]; rfl) (by kernel_rfl) (by rfl) (fun w' hw' => ?_) ?_; rotate_left; focus (skip; go_simp; first | done | with_reducible rfl)); (simp only [Act.put, List.setIfInBounds_toArray, List.set])
  (refine takeG 49 (v := ?_) (by simp only [List.getElem?_toArray, List.getElem?_cons, reduceIte]; rfl) (by kernel_rfl) (by rfl) (fun w' hw' => ?_) ?_; rotate_left; focus (go_simp; refine ⟨Ext.refl _, ?_⟩; (exact cS0.out w'))); (simp only [Act.put, List.setIfInBounds_toArray, List.set])
  (refine takeV 50 (v := ?_) (by simp only [List.getElem?_toArray, List.getElem?_cons, reduceIte]; rfl) (by kernel_rfl) (by rfl) (fun w' hw' => ?_) ?_; rotate_left; focus (skip; go_simp; first | done | with_reducible rfl)); (simp only [Act.put, List.setIfInBounds_toArray, List.set])
  (refine takeV 51 (v := ?_) (by simp only [List.getElem?_toArray, List.getElem?_cons, reduceIte]; rfl) (by kernel_rfl) (by rfl) (fun w' hw' => ?_) ?_; rotate_left; focus (skip; go_simp; first | done | with_reducible rfl)); (simp only [Act.put, List.setIfInBounds_toArray, List.set])
  (refine takeV 52 (v := ?_) (by simp only [List.getElem?_toArray, List.getElem?_cons, reduceIte]; rfl) (by kernel_rfl) (by rfl) (fun w' hw' => ?_) ?_; rotate_left; focus (skip; go_simp; first | done | with_reducible rfl)); (simp only [Act.put, List.setIfInBounds_toArray, List.set])
  (refine doneM (by kernel_rfl) ?_; intro w' hw'; show _)
  go_wp2
  go_ret
  exact ⟨rfl, Ext.trans HY.out (Ext.trans HX.out hw')⟩
end Go.Proofs.YtkfabocnhkmneaaDoor
