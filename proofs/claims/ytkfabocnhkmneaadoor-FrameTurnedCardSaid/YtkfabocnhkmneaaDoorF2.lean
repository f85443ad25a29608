/- Frames: which may be, their bytes; the document's answers. -/
import Derived.Test.YtkfabocnhkmneaaDoorC5
import Derived.Test.YtkfabocnhkmneaaDoorC7
import Derived.Test.YtkfabocnhkmneaaDoorHigh
import Derived.Test.YtkfabocnhkmneaaDoorReg
namespace Go.Proofs.YtkfabocnhkmneaaDoor
open Go.RowKit

structure Fr where
  k : Int
  e : Int
  q : Nat
  a : Nat
  b : ByteArray
deriving DecidableEq

def Fr.v (f : Fr) : Value := .agg #[.int .i64 f.k, .int .i64 f.e, .int .u64 (f.q : Int), .int .u64 (f.a : Int), .string f.b]
def Fr.zero : Fr := ⟨0, 0, 0, 0, ⟨#[]⟩⟩

/-- the numbers are such -/
def Fr.In (f : Fr) : Prop := (-9223372036854775808 ≤ f.k ∧ f.k ≤ 9223372036854775807) ∧ (-9223372036854775808 ≤ f.e ∧ f.e ≤ 9223372036854775807) ∧ f.q < 18446744073709551616 ∧ f.a < 18446744073709551616 ∧ f.b.size ≤ 281474976710656

theorem size_zero {s : ByteArray} (h : s.size = 0) : s = ⟨#[]⟩ := by
  apply ByteArray.ext
  exact Array.eq_empty_of_size_eq_zero h

theorem empty_size (s : ByteArray) : s.toList.isEmpty = decide (s.size = 0) := by
  rw [ByteArray.toList_eq]
  have : s.data.toList.isEmpty = decide (s.data.size = 0) := by
    rw [← Array.length_toList]
    cases s.data.toList <;> simp
  exact this

/-- it may be -/
def rightB (f : Fr) : Bool := decide (0 ≤ f.e) && decide (f.e ≤ 65535) && decide (f.b.size ≤ 64) && (decide (f.k = 1) || decide (f.k = 2) && decide (f.b.size = 0))

set_option maxHeartbeats 400000 in
theorem refRight_any (w : World) (k e : Int) (q a : Nat) (b : ByteArray) :
    Calls Tryd.prog 12 #[.agg #[.int .i64 k, .int .i64 e, .int .u64 (q : Int), .int .u64 (a : Int), .string b]] w fun ev w' => ev = .returned (.bool (rightB ⟨k, e, q, a, b⟩)) ∧ Ext w w' := by
  go_enter Tryd.func12, Tryd.ntmps12
  go_wp2
  all_goals go_ret
  all_goals refine ⟨ret_bool ?_, (by repeat (first | exact Ext.refl _ | assumption | refine Ext.alloc ?_ _ | refine Ext.drew ?_ | refine Ext.drewN ?_ _))⟩
  all_goals (first | rw [empty_size] | skip)
  all_goals unfold rightB
  all_goals simp
  all_goals (first | omega | skip)
  all_goals (intros; first | omega | skip)
  all_goals
    have h1 : decide (0 ≤ e) = true := decide_eq_true (by omega)
    have h2 : decide (e ≤ 65535) = true := decide_eq_true (by omega)
    have h3 : decide (b.size ≤ 64) = true := decide_eq_true (by omega)
    have h4 : decide (k = 1) = false := decide_eq_false (by omega)
    have h4' : (k == 1) = false := beq_eq_false_iff_ne.2 (by omega)
    rw [h1, h2, h3, h4]
    first
    | (have h5 : decide (k = 2) = true := decide_eq_true (by omega)
       rw [h5]
       simp)
    | (have h5 : decide (k = 2) = false := decide_eq_false (by omega)
       rw [h5, h4']
       simp)

/-- a frame's bytes, ahead of its sum -/
def putL (K E q a : Nat) (b : ByteArray) : List Nat := [78, 1, K] ++ highN E 2 ++ highN q 8 ++ highN a 8 ++ highN b.size 2 ++ bl b
def putS (K E q a : Nat) (b : ByteArray) : ByteArray := textN (putL K E q a b) ++ textN (tailN (moreN 0 (putL K E q a b)))

theorem putL_lt {K E q a : Nat} {b : ByteArray} (hK : K < 256) : ∀ x ∈ putL K E q a b, x < 256 := by
  intro x hx
  unfold putL at hx
  simp only [List.mem_append] at hx
  rcases hx with ((((hx | hx) | hx) | hx) | hx) | hx
  · simp only [List.mem_cons, List.not_mem_nil, or_false] at hx
    omega
  · exact highN_lt _ _ x hx
  · exact highN_lt _ _ x hx
  · exact highN_lt _ _ x hx
  · exact highN_lt _ _ x hx
  · exact bl_lt b x hx

set_option maxHeartbeats 1000000 in
theorem refPut_any (w : World) (K E q a : Nat) (b : ByteArray) (hK : K < 256) (hE : E < 65536) (hq : q < 18446744073709551616) (ha : a < 18446744073709551616) (hb : b.size ≤ 64) :
    Calls Tryd.prog 14 #[.agg #[.int .i64 (K : Int), .int .i64 (E : Int), .int .u64 (q : Int), .int .u64 (a : Int), .string b]] w fun ev w' => ev = .returned (.string (putS K E q a b)) ∧ Ext w w' := by
  have H1 : ∀ W, Ext (w.alloc (.cells #[.int .i64 (K : Int), .int .i64 (E : Int), .int .u64 (q : Int), .int .u64 (a : Int), .string b] 25)) W → W.cell? ⟨w.heap.size, 0, none⟩ = some (.int .i64 (K : Int)) ∧ W.cell? ⟨w.heap.size, 1, none⟩ = some (.int .i64 (E : Int)) ∧ W.cell? ⟨w.heap.size, 2, none⟩ = some (.int .u64 (q : Int)) ∧ W.cell? ⟨w.heap.size, 3, none⟩ = some (.int .u64 (a : Int)) ∧ W.cell? ⟨w.heap.size, 4, none⟩ = some (.string b) :=
    fun W hW => ⟨cell_at W hW rfl, cell_at W hW rfl, cell_at W hW rfl, cell_at W hW rfl, cell_at W hW rfl⟩
  have H1 := Lib.hid H1
  have s1 : IntKind.u64.wrap (E : Int) = (E : Int) := by simp [IntKind.wrap, IntKind.bits, IntKind.signed]; omega
  have s2 : IntKind.u64.wrap (b.size : Int) = (b.size : Int) := by simp [IntKind.wrap, IntKind.bits, IntKind.signed]; omega
  have s3 : IntKind.u8.wrap (K : Int) = (K : Int) := by simp [IntKind.wrap, IntKind.bits, IntKind.signed]; omega
  obtain ⟨A, hA⟩ : ∃ A, A = (⟨#[1, UInt8.ofNat K]⟩ : ByteArray) := ⟨_, rfl⟩
  obtain ⟨B, hB⟩ : ∃ B, B = textN (highN E 2) := ⟨_, rfl⟩
  obtain ⟨C, hC⟩ : ∃ C, C = textN (highN q 8) := ⟨_, rfl⟩
  obtain ⟨D, hD⟩ : ∃ D, D = textN (highN a 8) := ⟨_, rfl⟩
  obtain ⟨F, hF⟩ : ∃ F, F = textN (highN b.size 2) := ⟨_, rfl⟩
  have zA : A.size = 2 := by rw [hA]; rfl
  have zB : B.size = 2 := by rw [hB, textN_size, highN_length]
  have zC : C.size = 8 := by rw [hC, textN_size, highN_length]
  have zD : D.size = 8 := by rw [hD, textN_size, highN_length]
  have zF : F.size = 2 := by rw [hF, textN_size, highN_length]
  have cB := Lib.hid (fun W => refHigh_any W E 2 (by omega) (by decide))
  have cC := Lib.hid (fun W => refHigh_any W q 8 hq (by decide))
  have cD := Lib.hid (fun W => refHigh_any W a 8 ha (by decide))
  have cF := Lib.hid (fun W => refHigh_any W b.size 2 (by omega) (by decide))
  rw [← hB] at cB
  rw [← hC] at cC
  rw [← hD] at cD
  rw [← hF] at cF
  have HCV : ∀ W W' : World, Ext (W.alloc (.cells #[.int .u8 1, .int .u8 (K : Int)] 5)) W' → (convert 41 9 (.slice (some ⟨W.heap.size, 0, none⟩) 2 2)).run Tryd.prog W' = .ok (.string A) W' := fun W W' x => by
    rw [hA]
    exact text_later [(1 : Int), (K : Int)] W W' x
  have HCV := Lib.hid HCV
  have HS := Lib.hid (show putL K E q a b = [78, 1, K] ++ highN E 2 ++ highN q 8 ++ highN a 8 ++ highN b.size 2 ++ bl b from rfl)
  have HA := Lib.hid hA
  have HB := Lib.hid hB
  have HC := Lib.hid hC
  have HD := Lib.hid hD
  have HF := Lib.hid hF
  clear hA hB hC hD hF
  go_enter Tryd.func14, Tryd.ntmps14
  go_wp2_with fail
  refine wp_region_M_lit (by kernel_rfl) ?_
  have HX : Ext (w.alloc (.cells #[.int .i64 (K : Int), .int .i64 (E : Int), .int .u64 (q : Int), .int .u64 (a : Int), .string b] 25)) _ := Ext.refl _
  (refine takeV 0 (v := ?_) (by simp only [List.getElem?_toArray, List.getElem?_cons, reduceIte]; rfl) (by kernel_rfl) (by rfl) (fun w' hw' => ?_) ?_; rotate_left; focus (skip; go_simp; first | done | with_reducible rfl)); (simp only [Act.put, List.setIfInBounds_toArray, List.set])
  (refine takeV 1 (v := ?_) (by simp only [List.getElem?_toArray, List.getElem?_cons, reduceIte]; rfl) (by kernel_rfl) (by rfl) (fun w' hw' => ?_) ?_; rotate_left; focus (have hc := H1.out w' (Ext.trans HX hw'); go_simp; first | done | with_reducible rfl)); (simp only [Act.put, List.setIfInBounds_toArray, List.set])
  (refine takeV 2 (v := ?_) (by simp only [List.getElem?_toArray, List.getElem?_cons, reduceIte]; rfl) (by kernel_rfl) (by rfl) (fun w' hw' => ?_) ?_; rotate_left; focus (skip; go_simp; first | done | with_reducible rfl)); (simp only [Act.put, List.setIfInBounds_toArray, List.set])
  (refine takeV 6 (v := ?_) (by simp only [List.getElem?_toArray, List.getElem?_cons, reduceIte]; rfl) (by kernel_rfl) (by rfl) (fun w' hw' => ?_) ?_; rotate_left; focus (skip; go_simp; first | done | with_reducible rfl)); (simp only [Act.put, List.setIfInBounds_toArray, List.set])
  (refine takeV 7 (v := ?_) (by simp only [List.getElem?_toArray, List.getElem?_cons, reduceIte]; rfl) (by kernel_rfl) (by rfl) (fun w' hw' => ?_) ?_; rotate_left; focus (have hc := H1.out w' (Ext.trans HX hw'); go_simp; first | done | with_reducible rfl)); (simp only [Act.put, List.setIfInBounds_toArray, List.set])
  (refine takeV 8 (v := ?_) (by simp only [List.getElem?_toArray, List.getElem?_cons, reduceIte]; rfl) (by kernel_rfl) (by rfl) (fun w' hw' => ?_) ?_; rotate_left; focus (skip; go_simp; first | done | with_reducible rfl)); (simp only [Act.put, List.setIfInBounds_toArray, List.set])
  (refine takeG 9 (v := ?_) (by simp only [List.getElem?_toArray, List.getElem?_cons, reduceIte]; rfl) (by kernel_rfl) (by rfl) (fun w' hw' => ?_) ?_; rotate_left; focus (go_simp; refine ⟨Ext.refl _, ?_⟩; (exact cB.out w'))); (simp only [Act.put, List.setIfInBounds_toArray, List.set])
  (refine takeV 11 (v := ?_) (by simp only [List.getElem?_toArray, List.getElem?_cons, reduceIte]; rfl) (by kernel_rfl) (by rfl) (fun w' hw' => ?_) ?_; rotate_left; focus (skip; go_simp; first | done | with_reducible rfl)); (simp only [Act.put, List.setIfInBounds_toArray, List.set])
  (refine takeV 12 (v := ?_) (by simp only [List.getElem?_toArray, List.getElem?_cons, reduceIte]; rfl) (by kernel_rfl) (by rfl) (fun w' hw' => ?_) ?_; rotate_left; focus (have hc := H1.out w' (Ext.trans HX hw'); go_simp; first | done | with_reducible rfl)); (simp only [Act.put, List.setIfInBounds_toArray, List.set])
  (refine takeG 13 (v := ?_) (by simp only [List.getElem?_toArray, List.getElem?_cons, reduceIte]; rfl) (by kernel_rfl) (by rfl) (fun w' hw' => ?_) ?_; rotate_left; focus (go_simp; refine ⟨Ext.refl _, ?_⟩; (exact cC.out w'))); (simp only [Act.put, List.setIfInBounds_toArray, List.set])
  (refine takeV 15 (v := ?_) (by simp only [List.getElem?_toArray, List.getElem?_cons, reduceIte]; rfl) (by kernel_rfl) (by rfl) (fun w' hw' => ?_) ?_; rotate_left; focus (skip; go_simp; first | done | with_reducible rfl)); (simp only [Act.put, List.setIfInBounds_toArray, List.set])
  (refine takeV 16 (v := ?_) (by simp only [List.getElem?_toArray, List.getElem?_cons, reduceIte]; rfl) (by kernel_rfl) (by rfl) (fun w' hw' => ?_) ?_; rotate_left; focus (have hc := H1.out w' (Ext.trans HX hw'); go_simp; first | done | with_reducible rfl)); (simp only [Act.put, List.setIfInBounds_toArray, List.set])
  (refine takeG 17 (v := ?_) (by simp only [List.getElem?_toArray, List.getElem?_cons, reduceIte]; rfl) (by kernel_rfl) (by rfl) (fun w' hw' => ?_) ?_; rotate_left; focus (go_simp; refine ⟨Ext.refl _, ?_⟩; (exact cD.out w'))); (simp only [Act.put, List.setIfInBounds_toArray, List.set])
  (refine takeV 19 (v := ?_) (by simp only [List.getElem?_toArray, List.getElem?_cons, reduceIte]; rfl) (by kernel_rfl) (by rfl) (fun w' hw' => ?_) ?_; rotate_left; focus (skip; go_simp; first | done | with_reducible rfl)); (simp only [Act.put, List.setIfInBounds_toArray, List.set])
  (refine takeV 20 (v := ?_) (by simp only [List.getElem?_toArray, List.getElem?_cons, reduceIte]; rfl) (by kernel_rfl) (by rfl) (fun w' hw' => ?_) ?_; rotate_left; focus (have hc := H1.out w' (Ext.trans HX hw'); go_simp; first | done | with_reducible rfl)); (simp only [Act.put, List.setIfInBounds_toArray, List.set])
  (refine takeV 21 (v := ?_) (by simp only [List.getElem?_toArray, List.getElem?_cons, reduceIte]; rfl) (by kernel_rfl) (by rfl) (fun w' hw' => ?_) ?_; rotate_left; focus (skip; go_simp; first | done | with_reducible rfl)); (simp only [Act.put, List.setIfInBounds_toArray, List.set])
  (refine takeV 22 (v := ?_) (by simp only [List.getElem?_toArray, List.getElem?_cons, reduceIte]; rfl) (by kernel_rfl) (by rfl) (fun w' hw' => ?_) ?_; rotate_left; focus (skip; go_simp; first | done | with_reducible rfl)); (simp only [Act.put, List.setIfInBounds_toArray, List.set])
  (refine takeG 23 (v := ?_) (by simp only [List.getElem?_toArray, List.getElem?_cons, reduceIte]; rfl) (by kernel_rfl) (by rfl) (fun w' hw' => ?_) ?_; rotate_left; focus (go_simp; refine ⟨Ext.refl _, ?_⟩; (exact cF.out w'))); (simp only [Act.put, List.setIfInBounds_toArray, List.set])
  (refine takeV 25 (v := ?_) (by simp only [List.getElem?_toArray, List.getElem?_cons, reduceIte]; rfl) (by kernel_rfl) (by rfl) (fun w' hw' => ?_) ?_; rotate_left; focus (skip; go_simp; first | done | with_reducible rfl)); (simp only [Act.put, List.setIfInBounds_toArray, List.set])
  (refine takeV 26 (v := ?_) (by simp only [List.getElem?_toArray, List.getElem?_cons, reduceIte]; rfl) (by kernel_rfl) (by rfl) (fun w' hw' => ?_) ?_; rotate_left; focus (have hc := H1.out w' (Ext.trans HX hw'); go_simp; first | done | with_reducible rfl)); (simp only [Act.put, List.setIfInBounds_toArray, List.set])
  (refine runOne 3 (by simp only [List.getElem?_toArray, List.getElem?_cons, reduceIte]; rfl) (by kernel_rfl) (by kernel_rfl) (by rfl) ?_; intro w' hw'; go_simp; refine ⟨Ext.alloc (Ext.refl _) _, ?_⟩; try (simp only [Act.put, List.setIfInBounds_toArray, List.set]))
  have HX2 := Ext.alloc (Ext.trans HX hw') (.cells #[.int .u8 1, .int .u8 (K : Int)] 5)
  have HCW := Lib.hid (HCV.out w')
  clear HX hw'
  obtain ⟨n, hn⟩ : ∃ n, n = w'.heap.size := ⟨_, rfl⟩
  obtain ⟨w1, hw1⟩ : ∃ w1, w1 = w'.alloc (.cells #[.int .u8 1, .int .u8 (K : Int)] 5) := ⟨_, rfl⟩
  rw [← hn, ← hw1] at HCW
  rw [← hw1] at HX2 ⊢
  rw [← hn]
  clear hn hw1
  (refine takeV 4 (v := ?_) (by simp only [List.getElem?_toArray, List.getElem?_cons, reduceIte]; rfl) (by kernel_rfl) (by rfl) (fun w' hw' => ?_) ?_; rotate_left; focus (have hc := HCW.out w' hw'; go_simp; first | done | with_reducible rfl)); (simp only [Act.put, List.setIfInBounds_toArray, List.set])
  (refine takeV 5 (v := ?_) (by simp only [List.getElem?_toArray, List.getElem?_cons, reduceIte]; rfl) (by kernel_rfl) (by rfl) (fun w' hw' => ?_) ?_; rotate_left; focus (skip; go_simp; first | done | with_reducible rfl)); (simp only [Act.put, List.setIfInBounds_toArray, List.set])
  (refine takeV 10 (v := ?_) (by simp only [List.getElem?_toArray, List.getElem?_cons, reduceIte]; rfl) (by kernel_rfl) (by rfl) (fun w' hw' => ?_) ?_; rotate_left; focus (skip; go_simp; first | done | with_reducible rfl)); (simp only [Act.put, List.setIfInBounds_toArray, List.set])
  (refine takeV 14 (v := ?_) (by simp only [List.getElem?_toArray, List.getElem?_cons, reduceIte]; rfl) (by kernel_rfl) (by rfl) (fun w' hw' => ?_) ?_; rotate_left; focus (skip; go_simp; first | done | with_reducible rfl)); (simp only [Act.put, List.setIfInBounds_toArray, List.set])
  (refine takeV 18 (v := ?_) (by simp only [List.getElem?_toArray, List.getElem?_cons, reduceIte]; rfl) (by kernel_rfl) (by rfl) (fun w' hw' => ?_) ?_; rotate_left; focus (skip; go_simp; first | done | with_reducible rfl)); (simp only [Act.put, List.setIfInBounds_toArray, List.set])
  (refine takeV 24 (v := ?_) (by simp only [List.getElem?_toArray, List.getElem?_cons, reduceIte]; rfl) (by kernel_rfl) (by rfl) (fun w' hw' => ?_) ?_; rotate_left; focus (skip; go_simp; first | done | with_reducible rfl)); (simp only [Act.put, List.setIfInBounds_toArray, List.set])
  (refine takeV 27 (v := ?_) (by simp only [List.getElem?_toArray, List.getElem?_cons, reduceIte]; rfl) (by kernel_rfl) (by rfl) (fun w' hw' => ?_) ?_; rotate_left; focus (have hz : ¬ 9223372036854775807 < 23 + b.size := (by omega); go_simp; first | done | with_reducible rfl)); (simp only [Act.put, List.setIfInBounds_toArray, List.set])
  (refine takeV 28 (v := ?_) (by simp only [List.getElem?_toArray, List.getElem?_cons, reduceIte]; rfl) (by kernel_rfl) (by rfl) (fun w' hw' => ?_) ?_; rotate_left; focus (skip; go_simp; first | done | with_reducible rfl)); (simp only [Act.put, List.setIfInBounds_toArray, List.set])
  (refine doneM (by kernel_rfl) ?_; intro w' hw'; show _)
  obtain ⟨T, hT⟩ : ∃ T : ByteArray, T = ⟨#[78]⟩ ++ A ++ B ++ C ++ D ++ F ++ b := ⟨_, rfl⟩
  have hTT : T = textN (putL K E q a b) := by
    rw [hT, HS.out, HA.out, HB.out, HC.out, HD.out, HF.out]
    obtain ⟨U, hU⟩ : ∃ U, U = bl b := ⟨_, rfl⟩
    have hb2 : b = textN U := by rw [hU, textN_bl]
    rw [← hU, show (⟨#[78]⟩ : ByteArray) = textN [78] from rfl, show (⟨#[1, UInt8.ofNat K]⟩ : ByteArray) = textN [1, K] from rfl]
    generalize b.size = z
    rw [hb2]
    simp only [textN_append]
    rfl
  have hTs : T.size = 23 + b.size := by
    rw [hT]
    simp only [ByteArray.size_append, zA, zB, zC, zD, zF]
    show 1 + 2 + 2 + 8 + 8 + 2 + b.size = _
    omega
  have cM := Lib.hid (refMore_any w' 0 T (by decide) (by omega))
  have hbl : bl T = putL K E q a b := by
    rw [hTT]
    exact bl_textN (putL_lt hK)
  rw [hbl] at cM
  obtain ⟨M, hM⟩ : ∃ M, M = moreN 0 (putL K E q a b) := ⟨_, rfl⟩
  have hMlt : M < 4294967296 := by rw [hM]; exact moreN_lt (by decide) (putL_lt hK)
  rw [← hM] at cM
  have hsz : (textN (tailN M)).size = 4 := tail_size M
  have hz : ¬ 9223372036854775807 < T.size + 4 := by omega
  have HT := Lib.hid hTT
  have HM := Lib.hid hM
  rw [← hT]
  have y1 : Ext w w' := Ext.trans (Ext.trans ((Ext.refl w).alloc _) HX2) hw'
  clear hT hTT hM hbl
  go_wp2_with (first
    | (go_at_call 26; refine (cM.out).mono ?_; rintro e w2 ⟨rfl, rfl⟩)
    | (go_at_call 25; refine (refTail_any _ M hMlt).mono ?_; rintro e w2 ⟨rfl, x2⟩))
  go_ret
  exact ⟨by rw [HT.out, HM.out]; rfl, Ext.trans y1 x2⟩
end Go.Proofs.YtkfabocnhkmneaaDoor
