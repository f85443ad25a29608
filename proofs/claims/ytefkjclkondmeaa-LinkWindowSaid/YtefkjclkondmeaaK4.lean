/- Links: the document's Out. -/
import Derived.Test.YtefkjclkondmeaaK3
namespace Go.Proofs.Ytefkjclkondmeaa
open Go.RowKit

instance : Elem Fr where
  e := 34
  t := 41
  k := 5
  bytes := 48
  z := .agg #[.int .i64 0, .int .i64 0, .int .u64 0, .int .u64 0, .string ⟨#[]⟩]
  enc := fun f => [.int .i64 f.k, .int .i64 f.e, .int .u64 (f.q : Int), .int .u64 (f.a : Int), .string f.b]
  dflt := Fr.zero
  len := fun _ => rfl
  pos := by decide
  one := fun x u hu => by simp at hu; rcases hu with rfl | rfl | rfl | rfl | rfl <;> rfl
  row := by kernel_rfl
  info := by kernel_rfl
  zsize := rfl
  few := by decide

/-- a frame's cells -/
def FrAt (w : World) (b off : Nat) (f : Fr) : Prop :=
  w.cell? ⟨b, off, none⟩ = some (.int .i64 f.k) ∧ w.cell? ⟨b, off + 1, none⟩ = some (.int .i64 f.e) ∧ w.cell? ⟨b, off + 2, none⟩ = some (.int .u64 (f.q : Int)) ∧ w.cell? ⟨b, off + 3, none⟩ = some (.int .u64 (f.a : Int)) ∧ w.cell? ⟨b, off + 4, none⟩ = some (.string f.b)

theorem Sl.frs {w : World} {v : Value} {xs : List Fr} (h : Sl w v xs) :
    (xs = [] ∧ ∃ ao c, v = .slice ao 0 c) ∨
    (∃ b off c, v = .slice (some ⟨b, off, none⟩) xs.length c ∧ xs.length ≤ c ∧ c ≤ 9223372036854775807 ∧ b < w.heap.size ∧ 0 < xs.length ∧ ∀ j, j < xs.length → FrAt w b (off + j * 5) (xs.getD j Fr.zero)) := by
  rcases h.parts with h | ⟨b, off, c, h1, h2, h3, h4, h5, h6⟩
  · exact .inl h
  · refine .inr ⟨b, off, c, h1, h2, h3, h4, h5, fun j hj => ?_⟩
    have e : xs[j]? = some (xs.getD j Fr.zero) := by simp [hj]
    have key : ∀ i u, (Elem.enc (xs.getD j Fr.zero))[i]? = some u → w.cell? ⟨b, off + j * 5 + i, none⟩ = some u := fun i u hu => by
      have := h6 j _ e i u hu
      rwa [show off + (j * Elem.k Fr + i) = off + j * 5 + i from by show off + (j * 5 + i) = _; omega] at this
    exact ⟨key 0 _ rfl, key 1 _ rfl, key 2 _ rfl, key 3 _ rfl, key 4 _ rfl⟩

def lenV : Value → Nat | .slice _ n _ => n | _ => 0

theorem seq_wrap (first i : Nat) : IntKind.u64.wrap ((first : Int) + (i : Int)) = (((first + i) % 18446744073709551616 : Nat) : Int) := by
  rw [wrapM]
  omega

set_option maxRecDepth 100000 in
set_option maxHeartbeats 40000000 in
theorem refOut_any (F : Nat → Prop) (w : World) (hF : ∀ k, F k → k < w.heap.size) (v : Value) (S : EndS) (ok : S.Ok) (h : REnd F w v S) :
    Calls Try.prog 16 #[v] w fun ev w' => ∃ v' ao n c, ev = .returned (.tuple #[v', .slice ao n c]) ∧ REnd F w' v' S.outS ∧ Sa F w' (.slice ao n c) S.frames ∧ Ext w w' := by
  obtain ⟨ao, n, c, rfl, hs⟩ := h
  obtain ⟨ao', c', hv⟩ := hs.1.len
  simp only [Value.slice.injEq] at hv
  obtain ⟨rfl, rfl, rfl⟩ := hv
  have HS := Lib.hid hs
  have HOK := Lib.hid ok
  have h1 := ok.len
  have h2 := ok.qn
  have h3 := ok.win8
  have h4 := ok.ew
  have h5 := ok.oe
  have HF := Lib.hid hF
  clear hs hF ok
  obtain ⟨e, win, qn, wait, l, first, out, ever, want, owes, age⟩ := S
  unfold rCells
  dsimp only at h1 h2 h3 h4 h5 HS ⊢
  obtain ⟨S, hS⟩ : ∃ S : EndS, S = ⟨e, win, qn, wait, l, first, out, ever, want, owes, age⟩ := ⟨_, rfl⟩
  rw [← hS] at HOK ⊢
  have HSS := Lib.hid hS
  have HTOP := Lib.hid (show S.top = min win l.length by rw [hS]; rfl)
  have HDATA := Lib.hid (show ∀ i, S.data i = ⟨1, e, (first + i) % 18446744073709551616, want, l.getD i ⟨#[]⟩⟩ by intro i; rw [hS]; rfl)
  clear hS
  obtain ⟨top, htop⟩ : ∃ top, top = min win l.length := ⟨_, rfl⟩
  have HTT := Lib.hid htop
  have ht1 : top ≤ win := by omega
  have ht2 : top ≤ l.length := by omega
  have ht3 : ∀ i, i < top ↔ i < win ∧ i < l.length := fun i => by omega
  have HT3 := Lib.hid ht3
  clear htop ht3
  have HB : Hid (∀ W, Below (w.heap.size + 2) ((w.alloc (.cells #[.int .i64 e, .int .i64 (win : Int), .int .i64 (qn : Int), .int .i64 (wait : Int), .slice ao l.length c, .int .u64 (first : Int), .int .i64 (out : Int), .int .i64 (ever : Int), .int .u64 (want : Int), .bool owes, .int .i64 (age : Int)] 30)).alloc (.cells #[.int .i64 0, .int .i64 0, .int .i64 0, .int .i64 0, .slice none 0 0, .int .u64 0, .int .i64 0, .int .i64 0, .int .u64 0, .bool false, .int .i64 0] 30)) W → W.heap[w.heap.size]? = some (.cells #[.int .i64 e, .int .i64 (win : Int), .int .i64 (qn : Int), .int .i64 (wait : Int), .slice ao l.length c, .int .u64 (first : Int), .int .i64 (out : Int), .int .i64 (ever : Int), .int .u64 (want : Int), .bool owes, .int .i64 (age : Int)] 30 (0, 0)) ∧ W.heap[w.heap.size + 1]? = some (.cells #[.int .i64 0, .int .i64 0, .int .i64 0, .int .i64 0, .slice none 0 0, .int .u64 0, .int .i64 0, .int .i64 0, .int .u64 0, .bool false, .int .i64 0] 30 (0, 0))) := Lib.hid (fun W x => box2 x)
  go_enter Try.func16, Try.ntmps16
  go_wp2
  have B0 := Lib.hid (HB.out _ (Below.alloc (Below.refl _ _) (by rw [size_alloc, size_alloc]; exact Nat.le_refl _) (.cells #[] 34)))
  have O0 : Hid (Ow (((w.alloc (.cells #[.int .i64 e, .int .i64 (win : Int), .int .i64 (qn : Int), .int .i64 (wait : Int), .slice ao l.length c, .int .u64 (first : Int), .int .i64 (out : Int), .int .i64 (ever : Int), .int .u64 (want : Int), .bool owes, .int .i64 (age : Int)] 30)).alloc (.cells #[.int .i64 0, .int .i64 0, .int .i64 0, .int .i64 0, .slice none 0 0, .int .u64 0, .int .i64 0, .int .i64 0, .int .u64 0, .bool false, .int .i64 0] 30)).alloc (.cells #[] 34)) (w.heap.size + 2) (.slice (some ⟨w.heap.size + 1 + 1, 0, none⟩) 0 0) ([] : List Fr)) := Lib.hid (Ow.litAt _ _ _ (by rw [size_alloc, size_alloc]) (by rw [size_alloc, size_alloc]; exact Nat.le_refl _) ([] : List Fr) (by decide))
  go_loopw [4] (fun q wr => ∃ (i : Nat) (ao' : Option Addr) (n' c' : Nat), q = .slice ao' n' c' ∧ out ≤ i ∧ i ≤ max out top ∧ Hid (Ow wr (w.heap.size + 2) (.slice ao' n' c') (S.datas out (i - out))) ∧ Hid (wr.heap[w.heap.size]? = some (.cells #[.int .i64 e, .int .i64 (win : Int), .int .i64 (qn : Int), .int .i64 (wait : Int), .slice ao l.length c, .int .u64 (first : Int), .int .i64 (i : Int), .int .i64 (ever : Int), .int .u64 (want : Int), .bool owes, .int .i64 (age : Int)] 30 (0, 0)) ∧ wr.heap[w.heap.size + 1]? = some (.cells #[.int .i64 0, .int .i64 0, .int .i64 0, .int .i64 0, .slice none 0 0, .int .u64 0, .int .i64 0, .int .i64 0, .int .u64 0, .bool false, .int .i64 0] 30 (0, 0)) ∧ Below w.heap.size w wr)) (fun q _ => top + 1 - (lenV q + out))
  case atStart => exact ⟨out, _, _, _, rfl, Nat.le_refl _, by omega, by rw [Nat.sub_self]; exact O0, Lib.hid ⟨B0.out.1, B0.out.2, (by first | (repeat (first | exact Ext.refl _ | assumption | refine Ext.alloc ?_ _ | refine Ext.drew ?_ | refine below_set ?_ (by simp) _)))⟩⟩
  case round =>
    obtain ⟨i, ao', n', c', rfl, hi1, hi2, HO, HW⟩ := hrel
    obtain ⟨ks, kf⟩ := cells11 HW.out.1
    have hlen : n' = i - out := by
      obtain ⟨ao2, c2, hv2⟩ := HO.out.sl.len
      rw [EndS.datas_length] at hv2
      simp only [Value.slice.injEq] at hv2
      exact hv2.2.1
    subst hlen
    have hsz : w.heap.size + 2 ≤ wr.heap.size := by have := blk_lt HW.out.2.1; omega
    by_cases hlt : i < top
    · obtain ⟨g1, g2⟩ := (HT3.out i).1 hlt
      have q1 : (i : Int) < (win : Int) := by omega
      have q2 : (i : Int) < (l.length : Int) := by omega
      rcases HS.out.1.texts with ⟨h0, _⟩ | ⟨b, off, c2, hv, hq1, hq2, hbl, hpos, hat⟩
      · rw [h0] at g2; simp at g2
      simp only [Value.slice.injEq] at hv
      obtain ⟨rfl, _, rfl⟩ := hv
      have kb := (HW.out.2.2.cell (p := ⟨b, off + i, none⟩) hbl).trans (hat i g2)
      have hcc : (i : Int) ≤ (c : Int) := by omega
      obtain ⟨Y, hY⟩ : ∃ Y, Y = l.getD i ⟨#[]⟩ := ⟨_, rfl⟩
      rw [← hY] at kb
      have hdata : S.data i = ⟨1, e, (first + i) % 18446744073709551616, want, Y⟩ := by rw [HDATA.out, hY]
      have hsq := seq_wrap first i
      obtain ⟨Q, hQ⟩ : ∃ Q, Q = (first + i) % 18446744073709551616 := ⟨_, rfl⟩
      rw [← hQ] at hdata hsq
      have hu : IntKind.u64.wrap (i : Int) = (i : Int) := wrapU _ (by omega) (by omega)
      have hn1 : IntKind.i64.wrap ((i : Int) + 1) = (i : Int) + 1 := wrapN _ (by omega) (by omega)
      have HD := Lib.hid hdata
      have hdl : (S.datas out (i - out)).length = i - out := EndS.datas_length _ _ _
      have HDL := Lib.hid hdl
      have hdl2 : (S.datas out (i - out)).length ≤ 8 := by omega
      have HKB := Lib.hid kb
      have hbw : b < wr.heap.size := by omega
      clear hY hQ hat hdata hdl
      go_wp2_with fail
      (refine wp_region_X_lit (K := fun W => W.heap[w.heap.size]? = some (.cells #[.int .i64 e, .int .i64 (win : Int), .int .i64 (qn : Int), .int .i64 (wait : Int), .slice (some ⟨b, off, none⟩) l.length c, .int .u64 (first : Int), .int .i64 (i : Int), .int .i64 (ever : Int), .int .u64 (want : Int), .bool owes, .int .i64 (age : Int)] 30 (0, 0)) ∧ W.cell? ⟨b, off + i, none⟩ = some (.string Y)) (by kernel_rfl) (fun w1 hw1 => ?_))
      have HB1 := Lib.hid ((hw1.block _ (blk_lt HW.out.1)).trans HW.out.1)
      have HC1 := Lib.hid ((hw1.cell (p := ⟨b, off + i, none⟩) hbw).trans HKB.out)
      have HZ1 := Lib.hid ((hw1.block _ (blk_lt HW.out.2.1)).trans HW.out.2.1)
      have HO1 := Lib.hid (HO.out.ext hw1)
      have HX1 := Lib.hid (Below.trans HW.out.2.2 (hw1.mono (by omega)))
      have hs1 : w.heap.size + 2 ≤ w1.heap.size := by have := hw1.size; omega
      clear hw1
      (refine xtakeV 0 (v := ?_) (by simp only [List.getElem?_toArray, List.getElem?_cons, reduceIte]; rfl) (by kernel_rfl) (by rfl) (fun w' hw' => ?_) ?_; rotate_left; focus (skip; go_simp; first | done | with_reducible rfl)); (simp only [Act.put, List.setIfInBounds_toArray, List.set])
      (refine xtakeV 1 (v := ?_) (by simp only [List.getElem?_toArray, List.getElem?_cons, reduceIte]; rfl) (by kernel_rfl) (by rfl) (fun w' hw' => ?_) ?_; rotate_left; focus (skip; go_simp; first | done | with_reducible rfl)); (simp only [Act.put, List.setIfInBounds_toArray, List.set])
      (refine xtakeV 2 (v := ?_) (by simp only [List.getElem?_toArray, List.getElem?_cons, reduceIte]; rfl) (by kernel_rfl) (by rfl) (fun w' hw' => ?_) ?_; rotate_left; focus (have hc := (cells11 hw'.1).1; go_simp; first | done | with_reducible rfl)); (simp only [Act.put, List.setIfInBounds_toArray, List.set])
      (refine xtakeV 3 (v := ?_) (by simp only [List.getElem?_toArray, List.getElem?_cons, reduceIte]; rfl) (by kernel_rfl) (by rfl) (fun w' hw' => ?_) ?_; rotate_left; focus (skip; go_simp; first | done | with_reducible rfl)); (simp only [Act.put, List.setIfInBounds_toArray, List.set])
      (refine xtakeV 4 (v := ?_) (by simp only [List.getElem?_toArray, List.getElem?_cons, reduceIte]; rfl) (by kernel_rfl) (by rfl) (fun w' hw' => ?_) ?_; rotate_left; focus (have hc := (cells11 hw'.1).1; go_simp; first | done | with_reducible rfl)); (simp only [Act.put, List.setIfInBounds_toArray, List.set])
      (refine xtakeV 5 (v := ?_) (by simp only [List.getElem?_toArray, List.getElem?_cons, reduceIte]; rfl) (by kernel_rfl) (by rfl) (fun w' hw' => ?_) ?_; rotate_left; focus (skip; go_simp; first | done | with_reducible rfl)); (simp only [Act.put, List.setIfInBounds_toArray, List.set])
      (refine xtakeV 6 (v := ?_) (by simp only [List.getElem?_toArray, List.getElem?_cons, reduceIte]; rfl) (by kernel_rfl) (by rfl) (fun w' hw' => ?_) ?_; rotate_left; focus (have hc := (cells11 hw'.1).1; go_simp; first | done | with_reducible rfl)); (simp only [Act.put, List.setIfInBounds_toArray, List.set])
      (refine xtakeV 7 (v := ?_) (by simp only [List.getElem?_toArray, List.getElem?_cons, reduceIte]; rfl) (by kernel_rfl) (by rfl) (fun w' hw' => ?_) ?_; rotate_left; focus (skip; go_simp; first | done | with_reducible rfl)); (simp only [Act.put, List.setIfInBounds_toArray, List.set])
      (refine xtakeV 8 (v := ?_) (by simp only [List.getElem?_toArray, List.getElem?_cons, reduceIte]; rfl) (by kernel_rfl) (by rfl) (fun w' hw' => ?_) ?_; rotate_left; focus (skip; go_simp; first | done | with_reducible rfl)); (simp only [Act.put, List.setIfInBounds_toArray, List.set])
      (refine xtakeV 9 (v := ?_) (by simp only [List.getElem?_toArray, List.getElem?_cons, reduceIte]; rfl) (by kernel_rfl) (by rfl) (fun w' hw' => ?_) ?_; rotate_left; focus (skip; go_simp; first | done | with_reducible rfl)); (simp only [Act.put, List.setIfInBounds_toArray, List.set])
      (refine xtakeV 10 (v := ?_) (by simp only [List.getElem?_toArray, List.getElem?_cons, reduceIte]; rfl) (by kernel_rfl) (by rfl) (fun w' hw' => ?_) ?_; rotate_left; focus (have hc := (cells11 hw'.1).1; go_simp; first | done | with_reducible rfl)); (simp only [Act.put, List.setIfInBounds_toArray, List.set])
      (refine xtakeV 11 (v := ?_) (by simp only [List.getElem?_toArray, List.getElem?_cons, reduceIte]; rfl) (by kernel_rfl) (by rfl) (fun w' hw' => ?_) ?_; rotate_left; focus (skip; go_simp; first | done | with_reducible rfl)); (simp only [Act.put, List.setIfInBounds_toArray, List.set])
      (refine xtakeV 12 (v := ?_) (by simp only [List.getElem?_toArray, List.getElem?_cons, reduceIte]; rfl) (by kernel_rfl) (by rfl) (fun w' hw' => ?_) ?_; rotate_left; focus (have hc := (cells11 hw'.1).1; go_simp; first | done | with_reducible rfl)); (simp only [Act.put, List.setIfInBounds_toArray, List.set])
      (refine xtakeV 13 (v := ?_) (by simp only [List.getElem?_toArray, List.getElem?_cons, reduceIte]; rfl) (by kernel_rfl) (by rfl) (fun w' hw' => ?_) ?_; rotate_left; focus (skip; go_simp; first | done | with_reducible rfl)); (simp only [Act.put, List.setIfInBounds_toArray, List.set])
      (refine xtakeV 14 (v := ?_) (by simp only [List.getElem?_toArray, List.getElem?_cons, reduceIte]; rfl) (by kernel_rfl) (by rfl) (fun w' hw' => ?_) ?_; rotate_left; focus (have hc := (cells11 hw'.1).1; go_simp; first | done | with_reducible rfl)); (simp only [Act.put, List.setIfInBounds_toArray, List.set])
      (refine xtakeV 15 (v := ?_) (by simp only [List.getElem?_toArray, List.getElem?_cons, reduceIte]; rfl) (by kernel_rfl) (by rfl) (fun w' hw' => ?_) ?_; rotate_left; focus (skip; go_simp; first | done | with_reducible rfl)); (simp only [Act.put, List.setIfInBounds_toArray, List.set])
      (refine xtakeV 16 (v := ?_) (by simp only [List.getElem?_toArray, List.getElem?_cons, reduceIte]; rfl) (by kernel_rfl) (by rfl) (fun w' hw' => ?_) ?_; rotate_left; focus (have hc := hw'.2; go_simp; first | done | with_reducible rfl)); (simp only [Act.put, List.setIfInBounds_toArray, List.set])
      (refine xtakeV 17 (v := ?_) (by simp only [List.getElem?_toArray, List.getElem?_cons, reduceIte]; rfl) (by kernel_rfl) (by rfl) (fun w' hw' => ?_) ?_; rotate_left; focus (skip; go_simp; first | done | with_reducible rfl)); (simp only [Act.put, List.setIfInBounds_toArray, List.set])
      (refine xone 18 (by kernel_rfl) (⟨HB1.out, HC1.out⟩) (RunX.of 18 (by simp only [List.getElem?_toArray, List.getElem?_cons, reduceIte]; rfl) (by rfl) ?_))
      go_simp
      (try (simp only [Act.put, List.setIfInBounds_toArray, List.set]))
      have HB2 := Lib.hid (blk_alloc HB1.out (.cells #[.int .i64 1, .int .i64 e, .int .u64 (Q : Int), .int .u64 (want : Int), .string Y] 34))
      have HC2 := Lib.hid ((World.cell?_of_block (w := w1) (a := ⟨b, off + i, none⟩) (get_alloc_old (o := .cells #[.int .i64 1, .int .i64 e, .int .u64 (Q : Int), .int .u64 (want : Int), .string Y] 34) (by show b < w1.heap.size; omega))).trans HC1.out)
      (refine xone 19 (by kernel_rfl) (⟨HB2.out, HC2.out⟩) (RunX.of 19 (by simp only [List.getElem?_toArray, List.getElem?_cons, reduceIte]; rfl) (by rfl) ?_))
      (refine wp_append_sl (α := Fr) (.tmp 19) (.tmp 37) rfl (w.heap.size + 2) (.slice ao' (i - out) c') (S.datas out (i - out)) rfl ?_ (.slice (some ⟨w1.heap.size, 0, none⟩) 1 1) [(⟨1, e, Q, want, Y⟩ : Fr)] rfl ?_ ?_ ?_ ?_; exact (HO1.out.alloc _); exact (Sl.litAt w1 _ rfl [(⟨1, e, Q, want, Y⟩ : Fr)] (show (1 : Nat) ≤ 1000000 by decide)); (first | omega | (simp; omega)); (rw [size_alloc]; omega); intro v2 W2 ho2 ha2; have O2 := Lib.hid ho2; have HB3 := Lib.hid ((ha2.below.block _ (by omega)).trans HB2.out); have HZ3 := Lib.hid ((ha2.below.block _ (by omega)).trans (blk_alloc HZ1.out (.cells #[.int .i64 1, .int .i64 e, .int .u64 (Q : Int), .int .u64 (want : Int), .string Y] 34))); have HC3 := Lib.hid ((ha2.below.cell (p := ⟨b, off + i, none⟩) (by show b < _; omega)).trans HC2.out); have HX3 := Lib.hid (Below.trans (HX1.out.alloc (by omega) _) (ha2.below.mono (Nat.le_add_right _ _))); obtain ⟨a2, n2, c2, rfl⟩ := ho2.sh; clear ho2 ha2)
      (try (simp only [Act.put, List.setIfInBounds_toArray, List.set]))
      (refine xtakeV 20 (v := ?_) (by simp only [List.getElem?_toArray, List.getElem?_cons, reduceIte]; rfl) (by kernel_rfl) (by rfl) (fun w' hw' => ?_) ?_; rotate_left; focus (skip; go_simp; first | done | with_reducible rfl)); (simp only [Act.put, List.setIfInBounds_toArray, List.set])
      (refine xdone (by kernel_rfl) (⟨HB3.out, HC3.out⟩) ?_)
      obtain ⟨k3, k4⟩ := cells11 HB3.out
      go_wp2
      have hdd : S.datas out (i + 1 - out) = S.datas out (i - out) ++ [⟨1, e, Q, want, Y⟩] := by
        rw [show i + 1 - out = (i - out) + 1 by omega, EndS.datas_succ, show out + (i - out) = i by omega, HD.out]
      have ho3 := O2.out
      rw [← hdd] at ho3
      have hn2 : n2 = i + 1 - out := by
        obtain ⟨ao3, c3, hv3⟩ := ho3.sl.len
        rw [EndS.datas_length] at hv3
        simp only [Value.slice.injEq] at hv3
        exact hv3.2.1
      refine ⟨⟨i + 1, a2, n2, c2, rfl, by omega, by omega, Lib.hid (ho3.set (d := ⟨w.heap.size, 6, none⟩) (by show w.heap.size < _; omega) _), Lib.hid ⟨?_, (set_other _ _ _ _ (by show w.heap.size + 1 ≠ w.heap.size; omega)).trans HZ3.out, below_set HX3.out (Nat.le_refl _) _⟩⟩, ?_⟩
      · have hb6 := blk_set HB3.out 6 (.int .i64 ((i + 1 : Nat) : Int))
        simpa using hb6
      · show top + 1 - (n2 + out) < top + 1 - (i - out + out)
        omega
    · have hi : i = max out top := by omega
      have hmax : max S.out S.top = i := by rw [HTOP.out, ← HTT.out, HSS.out]; exact hi.symm
      obtain ⟨L, hL⟩ : ∃ L, L = S.datas out (i - out) := ⟨_, rfl⟩
      rw [← hL] at HO
      have hLn : L.length = i - out := by rw [hL]; exact EndS.datas_length _ _ _
      have hL8 : L.length ≤ 8 := by omega
      obtain ⟨n', hn'⟩ : ∃ n', n' = i - out := ⟨_, rfl⟩
      rw [← hn'] at HO ⊢
      have hfr : S.frames = if top ≤ out then (if owes = true then [S.ack] else []) else L := by
        unfold EndS.frames
        rw [HTOP.out, ← HTT.out, HSS.out, hL]
        dsimp only
        by_cases h0 : top ≤ out
        · rw [if_pos h0, if_pos h0]
        · rw [if_neg h0, if_neg h0, HSS.out, show i - out = top - out by omega]
      have hack : S.ack = ⟨2, e, 0, want, ⟨#[]⟩⟩ := by rw [HSS.out]; rfl
      rw [hack] at hfr
      have hL0 : top ≤ out → L = [] := fun h0 => List.eq_nil_of_length_eq_zero (by omega)
      have hout : S.outS = ⟨e, win, qn, wait, l, first, i, max ever i, want, false, age⟩ := by
        unfold EndS.outS
        rw [hmax, HSS.out]
      have hcond : (¬ (i : Int) < (win : Int)) ∨ ((i : Int) < (win : Int) ∧ ¬ (i : Int) < (l.length : Int)) := by
        have := (HT3.out i)
        by_cases h0 : i < win
        · exact .inr ⟨by omega, fun h9 => hlt (this.2 ⟨h0, by omega⟩)⟩
        · exact .inl (by omega)
      have hever : ((ever : Int) < (i : Int) ∧ max ever i = i) ∨ (¬ (ever : Int) < (i : Int) ∧ max ever i = ever) := by omega
      have hcase : (((n' : Int) == 0) = false ∧ S.frames = L) ∨ (((n' : Int) == 0) = true ∧ owes = true ∧ S.frames = L ++ [⟨2, e, 0, want, ⟨#[]⟩⟩]) ∨ (((n' : Int) == 0) = true ∧ owes = false ∧ S.frames = L) := by
        by_cases h0 : top ≤ out
        · right
          have hz : ((n' : Int) == 0) = true := beq_iff_eq.2 (by omega)
          rw [if_pos h0] at hfr
          cases owes
          · exact .inr ⟨hz, rfl, by rw [hfr, hL0 h0]; rfl⟩
          · exact .inl ⟨hz, rfl, by rw [hfr, hL0 h0]; rfl⟩
        · left
          exact ⟨beq_eq_false_iff_ne.2 (by omega), by rw [hfr, if_neg h0]⟩
      obtain ⟨kz, kzf⟩ := cells11 HW.out.2.1
      have hwz : wr.heap.size = wr.heap.size := rfl
      clear hi hmax hL hLn hn' hfr hack hL0 hi1 hi2 hlt h1 h2 h3 h4 h5 ht1 ht2 hwz
      have HEV : (¬ (ever : Int) < (i : Int) ∧ Hid (S.outS = ⟨e, win, qn, wait, l, first, i, ever, want, false, age⟩) ∧ Hid (wr.heap[w.heap.size]? = some (.cells #[.int .i64 e, .int .i64 (win : Int), .int .i64 (qn : Int), .int .i64 (wait : Int), .slice ao l.length c, .int .u64 (first : Int), .int .i64 (i : Int), .int .i64 (ever : Int), .int .u64 (want : Int), .bool owes, .int .i64 (age : Int)] 30 (0, 0)))) ∨ ((ever : Int) < (i : Int) ∧ Hid (S.outS = ⟨e, win, qn, wait, l, first, i, i, want, false, age⟩) ∧ Hid ((wr.setCell ⟨w.heap.size, 7, none⟩ (.int .i64 (i : Int))).heap[w.heap.size]? = some (.cells #[.int .i64 e, .int .i64 (win : Int), .int .i64 (qn : Int), .int .i64 (wait : Int), .slice ao l.length c, .int .u64 (first : Int), .int .i64 (i : Int), .int .i64 (i : Int), .int .u64 (want : Int), .bool owes, .int .i64 (age : Int)] 30 (0, 0))) ∧ Hid ((wr.setCell ⟨w.heap.size, 7, none⟩ (.int .i64 (i : Int))).heap[w.heap.size + 1]? = some (.cells #[.int .i64 0, .int .i64 0, .int .i64 0, .int .i64 0, .slice none 0 0, .int .u64 0, .int .i64 0, .int .i64 0, .int .u64 0, .bool false, .int .i64 0] 30 (0, 0))) ∧ Hid (Ow (wr.setCell ⟨w.heap.size, 7, none⟩ (.int .i64 (i : Int))) (w.heap.size + 2) (.slice ao' n' c') L) ∧ Hid (Below w.heap.size w (wr.setCell ⟨w.heap.size, 7, none⟩ (.int .i64 (i : Int)))) ∧ (wr.setCell ⟨w.heap.size, 7, none⟩ (.int .i64 (i : Int))).heap.size = wr.heap.size) := by
        rcases hever with ⟨hv1, hv2⟩ | ⟨hv1, hv2⟩ <;> rw [hv2] at hout
        · right
          refine ⟨hv1, Lib.hid hout, Lib.hid ?_, Lib.hid ((set_other _ _ _ _ (by show w.heap.size + 1 ≠ w.heap.size; omega)).trans HW.out.2.1), Lib.hid (HO.out.set (d := ⟨w.heap.size, 7, none⟩) (by show w.heap.size < _; omega) _), Lib.hid (below_set HW.out.2.2 (Nat.le_refl _) _), set_size _ _ _⟩
          have hb7 := blk_set HW.out.1 7 (.int .i64 (i : Int))
          simpa using hb7
        · exact .inl ⟨hv1, Lib.hid hout, Lib.hid HW.out.1⟩
      clear hever hout
      have HZ := Lib.hid HW.out.2.1
      have HOE := HO
      have HXE := Lib.hid HW.out.2.2
      have hsE : w.heap.size + 2 ≤ wr.heap.size := hsz
      rcases HEV with ⟨hv1, HOUT, HG⟩ | ⟨hv1, HOUT, HG, HZ, HOE, HXE, hsE⟩
      · rcases hcase with ⟨hz, hfr⟩ | ⟨hz, rfl, hfr⟩ | ⟨hz, rfl, hfr⟩ <;> replace hfr := Lib.hid hfr
        · rcases hcond with hc1 | ⟨hc1, hc2⟩
          all_goals
            go_wp2
            have z := set11_blk ((set_other _ ⟨w.heap.size, 9, none⟩ (.bool false) (w.heap.size + 1) (by show w.heap.size + 1 ≠ w.heap.size; omega)).trans HZ.out) (.int .i64 e) (.int .i64 (win : Int)) (.int .i64 (qn : Int)) (.int .i64 (wait : Int)) (.slice ao l.length c) (.int .u64 (first : Int)) (.int .i64 (i : Int)) (.int .i64 (ever : Int)) (.int .u64 (want : Int)) (.bool false) (.int .i64 (age : Int))
            have y5 := set11_below (g := w.heap.size + 1) (below_set (d := ⟨w.heap.size, 9, none⟩) HXE.out (Nat.le_refl _) (.bool false)) (by omega) (.int .i64 e) (.int .i64 (win : Int)) (.int .i64 (qn : Int)) (.int .i64 (wait : Int)) (.slice ao l.length c) (.int .u64 (first : Int)) (.int .i64 (i : Int)) (.int .i64 (ever : Int)) (.int .u64 (want : Int)) (.bool false) (.int .i64 (age : Int))
            have o5 := (HOE.out.set (d := ⟨w.heap.size, 9, none⟩) (by show w.heap.size < _; omega) (.bool false)).set11 (g := w.heap.size + 1) (by omega) (.int .i64 e) (.int .i64 (win : Int)) (.int .i64 (qn : Int)) (.int .i64 (wait : Int)) (.slice ao l.length c) (.int .u64 (first : Int)) (.int .i64 (i : Int)) (.int .i64 (ever : Int)) (.int .u64 (want : Int)) (.bool false) (.int .i64 (age : Int))
            obtain ⟨z0, z1, z2, z3, z4, z5, z6, z7, z8, z9, z10⟩ := (cells11 z).1
            simp only [set11] at z0 z1 z2 z3 z4 z5 z6 z7 z8 z9 z10
            refine bodyPost_ret (v := .tuple #[.agg #[.int .i64 e, .int .i64 (win : Int), .int .i64 (qn : Int), .int .i64 (wait : Int), .slice ao l.length c, .int .u64 (first : Int), .int .i64 (i : Int), .int .i64 (ever : Int), .int .u64 (want : Int), .bool false, .int .i64 (age : Int)], .slice ao' n' c']) (by simp [results, Try.results16, go_sem, z0, z1, z2, z3, z4, z5, z6, z7, z8, z9, z10]; done) rfl ⟨_, _, _, _, rfl, ⟨ao, l.length, c, ?_, ?_⟩, ?_, y5⟩
            · rw [HOUT.out]; rfl
            · rw [HOUT.out]; exact HS.out.ext y5
            · rw [hfr.out]; exact Sa.new o5 (fun k hk => by have := HF.out k hk; omega)
        · rcases hcond with hc1 | ⟨hc1, hc2⟩
          all_goals
            go_wp2_with (first
              | (at_builtin; refine wpList_append_sl (α := Fr) rfl (.tmp 58) (.tmp 64) rfl (w.heap.size + 2) (.slice ao' n' c') L rfl ?_ (.slice (some ⟨_, 0, none⟩) 1 1) [(⟨2, e, 0, want, ⟨#[]⟩⟩ : Fr)] rfl ?_ ?_ ?_ ?_; exact (HOE.out.alloc _); exact (Sl.litAt _ _ (by first | rfl | exact (set_size _ _ _).symm) [(⟨2, e, 0, want, ⟨#[]⟩⟩ : Fr)] (show (1 : Nat) ≤ 1000000 by decide)); (first | omega | (simp; omega)); (first | (rw [size_alloc]; omega) | (rw [size_alloc, set_size]; omega)); intro v2 W2 ho2 ha2; have O2 := Lib.hid ho2; have G2 := Lib.hid ((ha2.below.block _ (by omega)).trans (blk_alloc HG.out (.cells #[.int .i64 2, .int .i64 e, .int .u64 0, .int .u64 (want : Int), .string ⟨#[]⟩] 34))); have Z2 := Lib.hid ((ha2.below.block _ (by omega)).trans (blk_alloc HZ.out (.cells #[.int .i64 2, .int .i64 e, .int .u64 0, .int .u64 (want : Int), .string ⟨#[]⟩] 34))); have X2 := Lib.hid (Below.trans (HXE.out.alloc (by first | omega | (rw [set_size]; omega)) _) (ha2.below.mono (Nat.le_add_right _ _))); obtain ⟨k3, k4⟩ := cells11 G2.out; obtain ⟨k5, k6⟩ := cells11 Z2.out; obtain ⟨a2, n2, c2, rfl⟩ := ho2.sh; clear ho2 ha2))
            have z := set11_blk ((set_other W2 ⟨w.heap.size, 9, none⟩ (.bool false) (w.heap.size + 1) (by show w.heap.size + 1 ≠ w.heap.size; omega)).trans Z2.out) (.int .i64 e) (.int .i64 (win : Int)) (.int .i64 (qn : Int)) (.int .i64 (wait : Int)) (.slice ao l.length c) (.int .u64 (first : Int)) (.int .i64 (i : Int)) (.int .i64 (ever : Int)) (.int .u64 (want : Int)) (.bool false) (.int .i64 (age : Int))
            have y5 := set11_below (g := w.heap.size + 1) (below_set (d := ⟨w.heap.size, 9, none⟩) X2.out (Nat.le_refl _) (.bool false)) (by omega) (.int .i64 e) (.int .i64 (win : Int)) (.int .i64 (qn : Int)) (.int .i64 (wait : Int)) (.slice ao l.length c) (.int .u64 (first : Int)) (.int .i64 (i : Int)) (.int .i64 (ever : Int)) (.int .u64 (want : Int)) (.bool false) (.int .i64 (age : Int))
            have o5 := (O2.out.set (d := ⟨w.heap.size, 9, none⟩) (by show w.heap.size < _; omega) (.bool false)).set11 (g := w.heap.size + 1) (by omega) (.int .i64 e) (.int .i64 (win : Int)) (.int .i64 (qn : Int)) (.int .i64 (wait : Int)) (.slice ao l.length c) (.int .u64 (first : Int)) (.int .i64 (i : Int)) (.int .i64 (ever : Int)) (.int .u64 (want : Int)) (.bool false) (.int .i64 (age : Int))
            obtain ⟨z0, z1, z2, z3, z4, z5, z6, z7, z8, z9, z10⟩ := (cells11 z).1
            simp only [set11] at z0 z1 z2 z3 z4 z5 z6 z7 z8 z9 z10
            refine bodyPost_ret (v := .tuple #[.agg #[.int .i64 e, .int .i64 (win : Int), .int .i64 (qn : Int), .int .i64 (wait : Int), .slice ao l.length c, .int .u64 (first : Int), .int .i64 (i : Int), .int .i64 (ever : Int), .int .u64 (want : Int), .bool false, .int .i64 (age : Int)], .slice a2 n2 c2]) (by simp [results, Try.results16, go_sem, z0, z1, z2, z3, z4, z5, z6, z7, z8, z9, z10]; done) rfl ⟨_, _, _, _, rfl, ⟨ao, l.length, c, ?_, ?_⟩, ?_, y5⟩
            · rw [HOUT.out]; rfl
            · rw [HOUT.out]; exact HS.out.ext y5
            · rw [hfr.out]; exact Sa.new o5 (fun k hk => by have := HF.out k hk; omega)
        · rcases hcond with hc1 | ⟨hc1, hc2⟩
          all_goals
            go_wp2
            have z := set11_blk ((set_other _ ⟨w.heap.size, 9, none⟩ (.bool false) (w.heap.size + 1) (by show w.heap.size + 1 ≠ w.heap.size; omega)).trans HZ.out) (.int .i64 e) (.int .i64 (win : Int)) (.int .i64 (qn : Int)) (.int .i64 (wait : Int)) (.slice ao l.length c) (.int .u64 (first : Int)) (.int .i64 (i : Int)) (.int .i64 (ever : Int)) (.int .u64 (want : Int)) (.bool false) (.int .i64 (age : Int))
            have y5 := set11_below (g := w.heap.size + 1) (below_set (d := ⟨w.heap.size, 9, none⟩) HXE.out (Nat.le_refl _) (.bool false)) (by omega) (.int .i64 e) (.int .i64 (win : Int)) (.int .i64 (qn : Int)) (.int .i64 (wait : Int)) (.slice ao l.length c) (.int .u64 (first : Int)) (.int .i64 (i : Int)) (.int .i64 (ever : Int)) (.int .u64 (want : Int)) (.bool false) (.int .i64 (age : Int))
            have o5 := (HOE.out.set (d := ⟨w.heap.size, 9, none⟩) (by show w.heap.size < _; omega) (.bool false)).set11 (g := w.heap.size + 1) (by omega) (.int .i64 e) (.int .i64 (win : Int)) (.int .i64 (qn : Int)) (.int .i64 (wait : Int)) (.slice ao l.length c) (.int .u64 (first : Int)) (.int .i64 (i : Int)) (.int .i64 (ever : Int)) (.int .u64 (want : Int)) (.bool false) (.int .i64 (age : Int))
            obtain ⟨z0, z1, z2, z3, z4, z5, z6, z7, z8, z9, z10⟩ := (cells11 z).1
            simp only [set11] at z0 z1 z2 z3 z4 z5 z6 z7 z8 z9 z10
            refine bodyPost_ret (v := .tuple #[.agg #[.int .i64 e, .int .i64 (win : Int), .int .i64 (qn : Int), .int .i64 (wait : Int), .slice ao l.length c, .int .u64 (first : Int), .int .i64 (i : Int), .int .i64 (ever : Int), .int .u64 (want : Int), .bool false, .int .i64 (age : Int)], .slice ao' n' c']) (by simp [results, Try.results16, go_sem, z0, z1, z2, z3, z4, z5, z6, z7, z8, z9, z10]; done) rfl ⟨_, _, _, _, rfl, ⟨ao, l.length, c, ?_, ?_⟩, ?_, y5⟩
            · rw [HOUT.out]; rfl
            · rw [HOUT.out]; exact HS.out.ext y5
            · rw [hfr.out]; exact Sa.new o5 (fun k hk => by have := HF.out k hk; omega)
      · rcases hcase with ⟨hz, hfr⟩ | ⟨hz, rfl, hfr⟩ | ⟨hz, rfl, hfr⟩ <;> replace hfr := Lib.hid hfr
        · rcases hcond with hc1 | ⟨hc1, hc2⟩
          all_goals
            go_wp2
            have z := set11_blk ((set_other _ ⟨w.heap.size, 9, none⟩ (.bool false) (w.heap.size + 1) (by show w.heap.size + 1 ≠ w.heap.size; omega)).trans HZ.out) (.int .i64 e) (.int .i64 (win : Int)) (.int .i64 (qn : Int)) (.int .i64 (wait : Int)) (.slice ao l.length c) (.int .u64 (first : Int)) (.int .i64 (i : Int)) (.int .i64 (i : Int)) (.int .u64 (want : Int)) (.bool false) (.int .i64 (age : Int))
            have y5 := set11_below (g := w.heap.size + 1) (below_set (d := ⟨w.heap.size, 9, none⟩) HXE.out (Nat.le_refl _) (.bool false)) (by omega) (.int .i64 e) (.int .i64 (win : Int)) (.int .i64 (qn : Int)) (.int .i64 (wait : Int)) (.slice ao l.length c) (.int .u64 (first : Int)) (.int .i64 (i : Int)) (.int .i64 (i : Int)) (.int .u64 (want : Int)) (.bool false) (.int .i64 (age : Int))
            have o5 := (HOE.out.set (d := ⟨w.heap.size, 9, none⟩) (by show w.heap.size < _; omega) (.bool false)).set11 (g := w.heap.size + 1) (by omega) (.int .i64 e) (.int .i64 (win : Int)) (.int .i64 (qn : Int)) (.int .i64 (wait : Int)) (.slice ao l.length c) (.int .u64 (first : Int)) (.int .i64 (i : Int)) (.int .i64 (i : Int)) (.int .u64 (want : Int)) (.bool false) (.int .i64 (age : Int))
            obtain ⟨z0, z1, z2, z3, z4, z5, z6, z7, z8, z9, z10⟩ := (cells11 z).1
            simp only [set11] at z0 z1 z2 z3 z4 z5 z6 z7 z8 z9 z10
            refine bodyPost_ret (v := .tuple #[.agg #[.int .i64 e, .int .i64 (win : Int), .int .i64 (qn : Int), .int .i64 (wait : Int), .slice ao l.length c, .int .u64 (first : Int), .int .i64 (i : Int), .int .i64 (i : Int), .int .u64 (want : Int), .bool false, .int .i64 (age : Int)], .slice ao' n' c']) (by simp [results, Try.results16, go_sem, z0, z1, z2, z3, z4, z5, z6, z7, z8, z9, z10]; done) rfl ⟨_, _, _, _, rfl, ⟨ao, l.length, c, ?_, ?_⟩, ?_, y5⟩
            · rw [HOUT.out]; rfl
            · rw [HOUT.out]; exact HS.out.ext y5
            · rw [hfr.out]; exact Sa.new o5 (fun k hk => by have := HF.out k hk; omega)
        · rcases hcond with hc1 | ⟨hc1, hc2⟩
          all_goals
            go_wp2_with (first
              | (at_builtin; refine wpList_append_sl (α := Fr) rfl (.tmp 58) (.tmp 64) rfl (w.heap.size + 2) (.slice ao' n' c') L rfl ?_ (.slice (some ⟨_, 0, none⟩) 1 1) [(⟨2, e, 0, want, ⟨#[]⟩⟩ : Fr)] rfl ?_ ?_ ?_ ?_; exact (HOE.out.alloc _); exact (Sl.litAt _ _ (by first | rfl | exact (set_size _ _ _).symm) [(⟨2, e, 0, want, ⟨#[]⟩⟩ : Fr)] (show (1 : Nat) ≤ 1000000 by decide)); (first | omega | (simp; omega)); (first | (rw [size_alloc]; omega) | (rw [size_alloc, set_size]; omega)); intro v2 W2 ho2 ha2; have O2 := Lib.hid ho2; have G2 := Lib.hid ((ha2.below.block _ (by omega)).trans (blk_alloc HG.out (.cells #[.int .i64 2, .int .i64 e, .int .u64 0, .int .u64 (want : Int), .string ⟨#[]⟩] 34))); have Z2 := Lib.hid ((ha2.below.block _ (by omega)).trans (blk_alloc HZ.out (.cells #[.int .i64 2, .int .i64 e, .int .u64 0, .int .u64 (want : Int), .string ⟨#[]⟩] 34))); have X2 := Lib.hid (Below.trans (HXE.out.alloc (by first | omega | (rw [set_size]; omega)) _) (ha2.below.mono (Nat.le_add_right _ _))); obtain ⟨k3, k4⟩ := cells11 G2.out; obtain ⟨k5, k6⟩ := cells11 Z2.out; obtain ⟨a2, n2, c2, rfl⟩ := ho2.sh; clear ho2 ha2))
            have z := set11_blk ((set_other W2 ⟨w.heap.size, 9, none⟩ (.bool false) (w.heap.size + 1) (by show w.heap.size + 1 ≠ w.heap.size; omega)).trans Z2.out) (.int .i64 e) (.int .i64 (win : Int)) (.int .i64 (qn : Int)) (.int .i64 (wait : Int)) (.slice ao l.length c) (.int .u64 (first : Int)) (.int .i64 (i : Int)) (.int .i64 (i : Int)) (.int .u64 (want : Int)) (.bool false) (.int .i64 (age : Int))
            have y5 := set11_below (g := w.heap.size + 1) (below_set (d := ⟨w.heap.size, 9, none⟩) X2.out (Nat.le_refl _) (.bool false)) (by omega) (.int .i64 e) (.int .i64 (win : Int)) (.int .i64 (qn : Int)) (.int .i64 (wait : Int)) (.slice ao l.length c) (.int .u64 (first : Int)) (.int .i64 (i : Int)) (.int .i64 (i : Int)) (.int .u64 (want : Int)) (.bool false) (.int .i64 (age : Int))
            have o5 := (O2.out.set (d := ⟨w.heap.size, 9, none⟩) (by show w.heap.size < _; omega) (.bool false)).set11 (g := w.heap.size + 1) (by omega) (.int .i64 e) (.int .i64 (win : Int)) (.int .i64 (qn : Int)) (.int .i64 (wait : Int)) (.slice ao l.length c) (.int .u64 (first : Int)) (.int .i64 (i : Int)) (.int .i64 (i : Int)) (.int .u64 (want : Int)) (.bool false) (.int .i64 (age : Int))
            obtain ⟨z0, z1, z2, z3, z4, z5, z6, z7, z8, z9, z10⟩ := (cells11 z).1
            simp only [set11] at z0 z1 z2 z3 z4 z5 z6 z7 z8 z9 z10
            refine bodyPost_ret (v := .tuple #[.agg #[.int .i64 e, .int .i64 (win : Int), .int .i64 (qn : Int), .int .i64 (wait : Int), .slice ao l.length c, .int .u64 (first : Int), .int .i64 (i : Int), .int .i64 (i : Int), .int .u64 (want : Int), .bool false, .int .i64 (age : Int)], .slice a2 n2 c2]) (by simp [results, Try.results16, go_sem, z0, z1, z2, z3, z4, z5, z6, z7, z8, z9, z10]; done) rfl ⟨_, _, _, _, rfl, ⟨ao, l.length, c, ?_, ?_⟩, ?_, y5⟩
            · rw [HOUT.out]; rfl
            · rw [HOUT.out]; exact HS.out.ext y5
            · rw [hfr.out]; exact Sa.new o5 (fun k hk => by have := HF.out k hk; omega)
        · rcases hcond with hc1 | ⟨hc1, hc2⟩
          all_goals
            go_wp2
            have z := set11_blk ((set_other _ ⟨w.heap.size, 9, none⟩ (.bool false) (w.heap.size + 1) (by show w.heap.size + 1 ≠ w.heap.size; omega)).trans HZ.out) (.int .i64 e) (.int .i64 (win : Int)) (.int .i64 (qn : Int)) (.int .i64 (wait : Int)) (.slice ao l.length c) (.int .u64 (first : Int)) (.int .i64 (i : Int)) (.int .i64 (i : Int)) (.int .u64 (want : Int)) (.bool false) (.int .i64 (age : Int))
            have y5 := set11_below (g := w.heap.size + 1) (below_set (d := ⟨w.heap.size, 9, none⟩) HXE.out (Nat.le_refl _) (.bool false)) (by omega) (.int .i64 e) (.int .i64 (win : Int)) (.int .i64 (qn : Int)) (.int .i64 (wait : Int)) (.slice ao l.length c) (.int .u64 (first : Int)) (.int .i64 (i : Int)) (.int .i64 (i : Int)) (.int .u64 (want : Int)) (.bool false) (.int .i64 (age : Int))
            have o5 := (HOE.out.set (d := ⟨w.heap.size, 9, none⟩) (by show w.heap.size < _; omega) (.bool false)).set11 (g := w.heap.size + 1) (by omega) (.int .i64 e) (.int .i64 (win : Int)) (.int .i64 (qn : Int)) (.int .i64 (wait : Int)) (.slice ao l.length c) (.int .u64 (first : Int)) (.int .i64 (i : Int)) (.int .i64 (i : Int)) (.int .u64 (want : Int)) (.bool false) (.int .i64 (age : Int))
            obtain ⟨z0, z1, z2, z3, z4, z5, z6, z7, z8, z9, z10⟩ := (cells11 z).1
            simp only [set11] at z0 z1 z2 z3 z4 z5 z6 z7 z8 z9 z10
            refine bodyPost_ret (v := .tuple #[.agg #[.int .i64 e, .int .i64 (win : Int), .int .i64 (qn : Int), .int .i64 (wait : Int), .slice ao l.length c, .int .u64 (first : Int), .int .i64 (i : Int), .int .i64 (i : Int), .int .u64 (want : Int), .bool false, .int .i64 (age : Int)], .slice ao' n' c']) (by simp [results, Try.results16, go_sem, z0, z1, z2, z3, z4, z5, z6, z7, z8, z9, z10]; done) rfl ⟨_, _, _, _, rfl, ⟨ao, l.length, c, ?_, ?_⟩, ?_, y5⟩
            · rw [HOUT.out]; rfl
            · rw [HOUT.out]; exact HS.out.ext y5
            · rw [hfr.out]; exact Sa.new o5 (fun k hk => by have := HF.out k hk; omega)
end Go.Proofs.Ytefkjclkondmeaa
