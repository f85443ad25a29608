/- The program's ends: Out. -/
import Derived.Test.YtefkjclkondmeaaKP4
import Derived.Test.YtefkjclkondmeaaK8
namespace Go.Proofs.Ytefkjclkondmeaa
open Go.RowKit

/-- it answers frames, in new memory, and means S' then -/
def GoesE (p : Nat) (S' : EndS) (F : Nat → Prop) (l : List Fr) (w : World) (e : Ending) (w' : World) : Prop := ∃ ao n c F', e = .returned (.slice ao n c) ∧ Sl w' (.slice ao n c) l ∧ (l = [] ∨ ∀ b, (Value.slice ao n c).ownBlock = some b → w.heap.size ≤ b ∧ ¬ F' b) ∧ EAt w' p S' F' ∧ Off F w w' ∧ Grows F F' w

/-- how many are out, as memory has it -/
def outAt (w : World) (p : Nat) : Nat := match w.cell? ⟨p, 6, none⟩ with
  | some v => (intOf v).toNat
  | none => 0
theorem outAt_of {w : World} {p i : Nat} (h : w.cell? ⟨p, 6, none⟩ = some (.int .i64 (i : Int))) : outAt w p = i := by unfold outAt; rw [h]; simp [intOf]

theorem off_puts {w W W' : World} {p B g2 : Nat} (o : Off (fun k => k = p) w W) (o2 : Off (fun i => i = g2 ∨ B ≤ i) W W') (h2 : w.heap.size ≤ g2) (hB : w.heap.size ≤ B) : Off (fun k => k = p) w W' :=
  o.trans o2 fun k hk => by
    rcases hk with hk | hk
    · exact .inr (by omega)
    · exact .inr (by omega)
theorem Puts.set {W : World} {B g1 g2 p : Nat} {fo : Option Addr} {fn fc : Nat} {fs : List Fr} (h : Puts W B g1 g2 p fo fn fc fs) (d : Addr) (u : Value) (h1 : d.block ≠ g1) (h2 : d.block ≠ g2) (h3 : d.block < B) : Puts (W.setCell d u) B g1 g2 p fo fn fc fs :=
  ⟨(set_other _ _ _ _ (Ne.symm h1)).trans h.bx, (set_other _ _ _ _ (Ne.symm h2)).trans h.bf, h.own.set h3 _, by rw [set_size]; exact h.low, h.l1, h.l2, h.ne⟩
theorem out_end {w W : World} {p B : Nat} {S S' : EndS} {F : Nat → Prop} {ao fo : Option Addr} {n c fn fc : Nat} {fs : List Fr} (h : EndAt w p S F ao n c) (o : Off (fun k => k = p) w W) (ok : S'.Ok) (hl : S'.l = S.l)
    (hb : W.heap[p]? = some (.cells (rCells S' (.slice ao n c)) 67 (0, 0))) (ho : Ow W B (.slice fo fn fc) fs) (hB : w.heap.size ≤ B) : GoesE p S' F fs w (.returned (.slice fo fn fc)) W :=
  ⟨fo, fn, fc, F, rfl, ho.sl, .inr fun b hb => ⟨Nat.le_trans hB (ho.low b hb).1, fun hf => by have := h.lowb b hf; have := (ho.low b hb).1; omega⟩, ⟨ao, n, c, h.put o ok hl hb⟩, h.offp o, Grows.refl _ _⟩

set_option maxRecDepth 100000 in
set_option maxHeartbeats 6400000 in
theorem pOut {w : World} {p : Nat} {S : EndS} {F : Nat → Prop} (h0 : EAt w p S F) :
    Calls Try.prog 15 #[.pointer (some ⟨p, 0, none⟩)] w (GoesE p S.outS F S.frames w) := by
  obtain ⟨ao, n, c, h⟩ := h0
  obtain ⟨ao', c', hv⟩ := h.own.sl.len
  simp only [Value.slice.injEq] at hv
  obtain ⟨rfl, rfl, rfl⟩ := hv
  have H := Lib.hid h
  have OKS := Lib.hid h.ok.outS
  have h1 := h.ok.len
  have h2 := h.ok.qn
  have h3 := h.ok.win8
  have h4 := h.ok.ew
  have h5 := h.ok.oe
  have hsm := h.ok.small
  have hsl := h.own.sl
  have hpw : p < w.heap.size := blk_lt h.blk
  have hblk := h.blk
  have hownb := fun b => h.own.low (v := .slice ao S.l.length c) b
  have hneb := h.ne
  clear h
  obtain ⟨e, win, qn, wait, l, first, out, ever, want, owes, age⟩ := S
  dsimp only at h1 h2 h3 h4 h5 hsm hsl hownb hneb
  obtain ⟨S, hS⟩ : ∃ S : EndS, S = ⟨e, win, qn, wait, l, first, out, ever, want, owes, age⟩ := ⟨_, rfl⟩
  rw [← hS] at H OKS ⊢
  have HSS := Lib.hid hS
  have HTOP := Lib.hid (show S.top = min win l.length by rw [hS]; rfl)
  have HDATA := Lib.hid (show ∀ i, S.data i = ⟨1, e, (first + i) % 18446744073709551616, want, l.getD i ⟨#[]⟩⟩ by intro i; rw [hS]; rfl)
  have HSL := Lib.hid hsl
  have HSM := Lib.hid hsm
  have HOB := Lib.hid hownb
  have HNB := Lib.hid hneb
  clear hS hsl hsm hownb hneb
  obtain ⟨top, htop⟩ : ∃ top, top = min win l.length := ⟨_, rfl⟩
  have HTT := Lib.hid htop
  have ht1 : top ≤ win := by omega
  have ht2 : top ≤ l.length := by omega
  have htm : (top : Int) = min (l.length : Int) (win : Int) := by omega
  have HTM := Lib.hid htm
  have HBLK := Lib.hid hblk
  clear htop htm hblk
  have HP0 : Hid (Puts ((w.alloc (.cells #[.pointer (some ⟨p, 0, none⟩)] 24)).alloc (.cells #[.slice none 0 0] 41)) (w.heap.size + 2) w.heap.size (w.heap.size + 1) p none 0 0 ([] : List Fr)) := Lib.hid
    ⟨blk_alloc (get_alloc_new w _) _, (by have := get_alloc_new (w.alloc (.cells #[.pointer (some ⟨p, 0, none⟩)] 24)) (.cells #[.slice none 0 0] 41); rw [size_alloc] at this; exact this), Ow.nil _ _, by rw [size_alloc, size_alloc]; exact Nat.le_refl _, by omega, by omega, by omega⟩
  have HO0 : Hid (Off (fun k => k = p) w ((w.alloc (.cells #[.pointer (some ⟨p, 0, none⟩)] 24)).alloc (.cells #[.slice none 0 0] 41))) := Lib.hid (Off.of_ext (((Ext.refl w).alloc _).alloc _))
  have HB0 : Hid (((w.alloc (.cells #[.pointer (some ⟨p, 0, none⟩)] 24)).alloc (.cells #[.slice none 0 0] 41)).heap[p]? = some (.cells (rCells ⟨e, win, qn, wait, l, first, out, ever, want, owes, age⟩ (.slice ao l.length c)) 67 (0, 0))) := Lib.hid (blk_alloc (blk_alloc HBLK.out _) _)
  go_enter Try.func15, Try.ntmps15
  go_wp2_with fail
  go_loopw [] (fun wr => ∃ (i : Nat) (fo : Option Addr) (fn fc : Nat), out ≤ i ∧ i ≤ max out top ∧ Hid (wr.heap[p]? = some (.cells (rCells ⟨e, win, qn, wait, l, first, i, ever, want, owes, age⟩ (.slice ao l.length c)) 67 (0, 0))) ∧ Hid (Puts wr (w.heap.size + 2) w.heap.size (w.heap.size + 1) p fo fn fc (S.datas out (i - out))) ∧ Hid (Off (fun k => k = p) w wr)) (fun wr => top + 1 - outAt wr p)
  case atStart => exact ⟨out, none, 0, 0, Nat.le_refl _, by omega, HB0, by rw [Nat.sub_self]; exact HP0, HO0⟩
  case round =>
    clear HP0 HO0 HB0
    obtain ⟨i, fo, fn, fc, hi1, hi2, HB, HP, HO⟩ := hrel
    have hlen : fn = i - out := by
      obtain ⟨ao2, c2, hv2⟩ := HP.out.own.sl.len
      rw [EndS.datas_length] at hv2
      simp only [Value.slice.injEq] at hv2
      exact hv2.2.1
    subst hlen
    have hsz := HP.out.low
    have kb := HB.out
    unfold rCells at kb
    dsimp only at kb
    obtain ⟨⟨c0, c1, c2, c3, c4, c5, c6, c7, c8, c9, c10⟩, ⟨f0, f1, f2, f3, f4, f5, f6, f7, f8, f9, f10⟩⟩ := cells11 kb
    have d1 := blk_cell HP.out.bx 0 rfl
    have d2 := blk_cell HP.out.bf 0 rfl
    clear kb
    by_cases hlt : i < top
    · have q1 : (i : Int) < min (l.length : Int) (win : Int) := by rw [← HTM.out]; omega
      have hil : i < l.length := by omega
      rcases HSL.out.texts with ⟨h0, _⟩ | ⟨bb, off, cc, hv, hq1, hq2, hbl, hpos, hat⟩
      · rw [h0] at hil; simp at hil
      simp only [Value.slice.injEq] at hv
      obtain ⟨rfl, _, rfl⟩ := hv
      have hbp : bb ≠ p := fun e9 => HNB.out (by rw [e9]; rfl)
      obtain ⟨Y, hY⟩ : ∃ Y, Y = l.getD i ⟨#[]⟩ := ⟨_, rfl⟩
      have hY64 : Y.size ≤ 1000 := by
        have : Y ∈ l := by rw [hY]; simp [hil]
        have := HSM.out Y this
        omega
      have hat1 := hat i hil
      rw [← hY] at hat1
      have hatW := (World.cell?_of_block (w := w) (w' := wr) (a := ⟨bb, off + i, none⟩) (HO.out.block bb hbl hbp)).trans hat1
      have hdata : S.data i = ⟨1, e, (first + i) % 18446744073709551616, want, Y⟩ := by rw [HDATA.out, hY]
      have hsq := seq_wrap first i
      obtain ⟨Q, hQ⟩ : ∃ Q, Q = (first + i) % 18446744073709551616 := ⟨_, rfl⟩
      rw [← hQ] at hdata hsq
      have hu : IntKind.u64.wrap (i : Int) = (i : Int) := wrapU _ (by omega) (by omega)
      have hn1 : IntKind.i64.wrap ((i : Int) + 1) = (i : Int) + 1 := wrapN _ (by omega) (by omega)
      have hcc : (i : Int) ≤ (c : Int) := by omega
      have hic : (i : Int) < (l.length : Int) := by omega
      have HD := Lib.hid hdata
      have hdl2 : (S.datas out (i - out)).length ≤ 100 := by rw [EndS.datas_length]; omega
      have HPUT := Lib.hid (fun W fo' fn' fc' (hb : W.heap[p]? = some (.cells (rCells ⟨e, win, qn, wait, l, first, i, ever, want, owes, age⟩ (.slice (some ⟨bb, off, none⟩) l.length c)) 67 (0, 0))) (hp : Puts W (w.heap.size + 2) w.heap.size (w.heap.size + 1) p fo' fn' fc' (S.datas out (i - out))) => put_any hb hp hdl2 1 Q Y hY64)
      have HK : Hid (∀ W, Ext wr W → (W.heap[p]? = some (.cells (rCells ⟨e, win, qn, wait, l, first, i, ever, want, owes, age⟩ (.slice (some ⟨bb, off, none⟩) l.length c)) 67 (0, 0))) ∧ W.cell? ⟨bb, off + i, none⟩ = some (.string Y) ∧ W.cell? ⟨w.heap.size, 0, none⟩ = some (.pointer (some ⟨p, 0, none⟩)) ∧ Puts W (w.heap.size + 2) w.heap.size (w.heap.size + 1) p fo (i - out) fc (S.datas out (i - out))) := Lib.hid (fun W x =>
        ⟨(x.block p (blk_lt HB.out)).trans HB.out, (x.cell (p := ⟨bb, off + i, none⟩) (Nat.lt_of_lt_of_le hbl HO.out.size)).trans hatW, blk_cell (HP.out.ext x).bx 0 rfl, HP.out.ext x⟩)
      have hbw : bb < w.heap.size := hbl
      clear hY hQ hat hat1 hatW hdata hdl2 hY64 hbl
      go_wp2_with fail
      go_quiet (fail)
      go_wp2_with fail
      (refine wp_region_X_lit (K := fun W => (W.heap[p]? = some (.cells (rCells ⟨e, win, qn, wait, l, first, i, ever, want, owes, age⟩ (.slice (some ⟨bb, off, none⟩) l.length c)) 67 (0, 0))) ∧ W.cell? ⟨bb, off + i, none⟩ = some (.string Y) ∧ W.cell? ⟨w.heap.size, 0, none⟩ = some (.pointer (some ⟨p, 0, none⟩))) (by kernel_rfl) (fun w1 hw1 => ?_))
      replace hw1 : Ext wr w1 := Ext.trans (Ext.drewN (Ext.refl wr) _) hw1
      have HX1 := Lib.hid hw1
      have HK1 := Lib.hid (HK.out w1 hw1)
      clear hw1
      (refine xtakeV 0 (v := ?_) (by simp only [List.getElem?_toArray, List.getElem?_cons, reduceIte]; rfl) (by kernel_rfl) (by rfl) (fun w' hw' => ?_) ?_; rotate_left; focus (skip; go_simp; first | done | with_reducible rfl)); (simp only [Act.put, List.setIfInBounds_toArray, List.set])
      (refine xtakeV 1 (v := ?_) (by simp only [List.getElem?_toArray, List.getElem?_cons, reduceIte]; rfl) (by kernel_rfl) (by rfl) (fun w' hw' => ?_) ?_; rotate_left; focus (have kx := hw'.2.2; go_simp; first | done | with_reducible rfl)); (simp only [Act.put, List.setIfInBounds_toArray, List.set])
      (refine xtakeV 2 (v := ?_) (by simp only [List.getElem?_toArray, List.getElem?_cons, reduceIte]; rfl) (by kernel_rfl) (by rfl) (fun w' hw' => ?_) ?_; rotate_left; focus (skip; go_simp; first | done | with_reducible rfl)); (simp only [Act.put, List.setIfInBounds_toArray, List.set])
      (refine xtakeV 3 (v := ?_) (by simp only [List.getElem?_toArray, List.getElem?_cons, reduceIte]; rfl) (by kernel_rfl) (by rfl) (fun w' hw' => ?_) ?_; rotate_left; focus (skip; go_simp; first | done | with_reducible rfl)); (simp only [Act.put, List.setIfInBounds_toArray, List.set])
      (refine xtakeV 4 (v := ?_) (by simp only [List.getElem?_toArray, List.getElem?_cons, reduceIte]; rfl) (by kernel_rfl) (by rfl) (fun w' hw' => ?_) ?_; rotate_left; focus (have kb := hw'.1; unfold rCells at kb; dsimp only at kb; obtain ⟨⟨k0, k1, k2, k3, k4, k5, k6, k7, k8, k9, k10⟩, _⟩ := cells11 kb; go_simp; first | done | with_reducible rfl)); (simp only [Act.put, List.setIfInBounds_toArray, List.set])
      (refine xtakeV 5 (v := ?_) (by simp only [List.getElem?_toArray, List.getElem?_cons, reduceIte]; rfl) (by kernel_rfl) (by rfl) (fun w' hw' => ?_) ?_; rotate_left; focus (have kx := hw'.2.2; go_simp; first | done | with_reducible rfl)); (simp only [Act.put, List.setIfInBounds_toArray, List.set])
      (refine xtakeV 6 (v := ?_) (by simp only [List.getElem?_toArray, List.getElem?_cons, reduceIte]; rfl) (by kernel_rfl) (by rfl) (fun w' hw' => ?_) ?_; rotate_left; focus (skip; go_simp; first | done | with_reducible rfl)); (simp only [Act.put, List.setIfInBounds_toArray, List.set])
      (refine xtakeV 7 (v := ?_) (by simp only [List.getElem?_toArray, List.getElem?_cons, reduceIte]; rfl) (by kernel_rfl) (by rfl) (fun w' hw' => ?_) ?_; rotate_left; focus (skip; go_simp; first | done | with_reducible rfl)); (simp only [Act.put, List.setIfInBounds_toArray, List.set])
      (refine xtakeV 8 (v := ?_) (by simp only [List.getElem?_toArray, List.getElem?_cons, reduceIte]; rfl) (by kernel_rfl) (by rfl) (fun w' hw' => ?_) ?_; rotate_left; focus (have kb := hw'.1; unfold rCells at kb; dsimp only at kb; obtain ⟨⟨k0, k1, k2, k3, k4, k5, k6, k7, k8, k9, k10⟩, _⟩ := cells11 kb; go_simp; first | done | with_reducible rfl)); (simp only [Act.put, List.setIfInBounds_toArray, List.set])
      (refine xtakeV 9 (v := ?_) (by simp only [List.getElem?_toArray, List.getElem?_cons, reduceIte]; rfl) (by kernel_rfl) (by rfl) (fun w' hw' => ?_) ?_; rotate_left; focus (skip; go_simp; first | done | with_reducible rfl)); (simp only [Act.put, List.setIfInBounds_toArray, List.set])
      (refine xtakeV 10 (v := ?_) (by simp only [List.getElem?_toArray, List.getElem?_cons, reduceIte]; rfl) (by kernel_rfl) (by rfl) (fun w' hw' => ?_) ?_; rotate_left; focus (skip; go_simp; first | done | with_reducible rfl)); (simp only [Act.put, List.setIfInBounds_toArray, List.set])
      (refine xtakeV 11 (v := ?_) (by simp only [List.getElem?_toArray, List.getElem?_cons, reduceIte]; rfl) (by kernel_rfl) (by rfl) (fun w' hw' => ?_) ?_; rotate_left; focus (have kx := hw'.2.2; go_simp; first | done | with_reducible rfl)); (simp only [Act.put, List.setIfInBounds_toArray, List.set])
      (refine xtakeV 12 (v := ?_) (by simp only [List.getElem?_toArray, List.getElem?_cons, reduceIte]; rfl) (by kernel_rfl) (by rfl) (fun w' hw' => ?_) ?_; rotate_left; focus (skip; go_simp; first | done | with_reducible rfl)); (simp only [Act.put, List.setIfInBounds_toArray, List.set])
      (refine xtakeV 13 (v := ?_) (by simp only [List.getElem?_toArray, List.getElem?_cons, reduceIte]; rfl) (by kernel_rfl) (by rfl) (fun w' hw' => ?_) ?_; rotate_left; focus (skip; go_simp; first | done | with_reducible rfl)); (simp only [Act.put, List.setIfInBounds_toArray, List.set])
      (refine xtakeV 14 (v := ?_) (by simp only [List.getElem?_toArray, List.getElem?_cons, reduceIte]; rfl) (by kernel_rfl) (by rfl) (fun w' hw' => ?_) ?_; rotate_left; focus (have kb := hw'.1; unfold rCells at kb; dsimp only at kb; obtain ⟨⟨k0, k1, k2, k3, k4, k5, k6, k7, k8, k9, k10⟩, _⟩ := cells11 kb; go_simp; first | done | with_reducible rfl)); (simp only [Act.put, List.setIfInBounds_toArray, List.set])
      (refine xtakeV 15 (v := ?_) (by simp only [List.getElem?_toArray, List.getElem?_cons, reduceIte]; rfl) (by kernel_rfl) (by rfl) (fun w' hw' => ?_) ?_; rotate_left; focus (have kx := hw'.2.2; go_simp; first | done | with_reducible rfl)); (simp only [Act.put, List.setIfInBounds_toArray, List.set])
      (refine xtakeV 16 (v := ?_) (by simp only [List.getElem?_toArray, List.getElem?_cons, reduceIte]; rfl) (by kernel_rfl) (by rfl) (fun w' hw' => ?_) ?_; rotate_left; focus (skip; go_simp; first | done | with_reducible rfl)); (simp only [Act.put, List.setIfInBounds_toArray, List.set])
      (refine xtakeV 17 (v := ?_) (by simp only [List.getElem?_toArray, List.getElem?_cons, reduceIte]; rfl) (by kernel_rfl) (by rfl) (fun w' hw' => ?_) ?_; rotate_left; focus (skip; go_simp; first | done | with_reducible rfl)); (simp only [Act.put, List.setIfInBounds_toArray, List.set])
      (refine xtakeV 18 (v := ?_) (by simp only [List.getElem?_toArray, List.getElem?_cons, reduceIte]; rfl) (by kernel_rfl) (by rfl) (fun w' hw' => ?_) ?_; rotate_left; focus (have kb := hw'.1; unfold rCells at kb; dsimp only at kb; obtain ⟨⟨k0, k1, k2, k3, k4, k5, k6, k7, k8, k9, k10⟩, _⟩ := cells11 kb; go_simp; first | done | with_reducible rfl)); (simp only [Act.put, List.setIfInBounds_toArray, List.set])
      (refine xtakeV 19 (v := ?_) (by simp only [List.getElem?_toArray, List.getElem?_cons, reduceIte]; rfl) (by kernel_rfl) (by rfl) (fun w' hw' => ?_) ?_; rotate_left; focus (skip; go_simp; first | done | with_reducible rfl)); (simp only [Act.put, List.setIfInBounds_toArray, List.set])
      (refine xtakeV 20 (v := ?_) (by simp only [List.getElem?_toArray, List.getElem?_cons, reduceIte]; rfl) (by kernel_rfl) (by rfl) (fun w' hw' => ?_) ?_; rotate_left; focus (have kx := hw'.2.1; go_simp; first | done | with_reducible rfl)); (simp only [Act.put, List.setIfInBounds_toArray, List.set])
      (refine xone 21 (by kernel_rfl) (⟨HK1.out.1, HK1.out.2.1, HK1.out.2.2.1⟩) (RunX.of 21 (by simp only [List.getElem?_toArray, List.getElem?_cons, reduceIte]; rfl) (by rfl) ?_))
      go_simp
      refine (HPUT.out w1 _ _ _ HK1.out.1 HK1.out.2.2.2).mono ?_
      rintro e2 w2 ⟨rfl, fo2, fn2, fc2, hp2, o2⟩
      have hs1 := HX1.out.size
      have b2 := (o2.block p (blk_lt HK1.out.1) (fun h9 => by rcases h9 with h9 | h9 <;> omega)).trans HK1.out.1
      have s2 := (World.cell?_of_block (w := w1) (w' := w2) (a := ⟨bb, off + i, none⟩) (o2.block bb (by omega) (fun h9 => by rcases h9 with h9 | h9 <;> omega))).trans HK1.out.2.1
      have x2 := blk_cell hp2.bx 0 rfl
      dsimp only
      (try (simp only [Act.put, List.setIfInBounds_toArray, List.set]))
      (refine xdone (by kernel_rfl) (⟨b2, s2, x2⟩) ?_)
      have HO2 := Lib.hid (off_puts (HO.out.trans (Off.of_ext HX1.out) (Grows.refl _ _)) o2 (by omega) (by omega))
      have HP2 := Lib.hid hp2
      have HB2 := Lib.hid b2
      clear o2 hp2 s2 c0 c1 c2 c3 c4 c5 c6 c7 c8 c9 c10 f0 f1 f2 f3 f4 f5 f6 f7 f8 f9 f10 d1 d2
      unfold rCells at b2
      dsimp only at b2
      obtain ⟨⟨c0, c1, c2, c3, c4, c5, c6, c7, c8, c9, c10⟩, ⟨f0, f1, f2, f3, f4, f5, f6, f7, f8, f9, f10⟩⟩ := cells11 b2
      clear b2
      go_wp2
      have hdd : S.datas out (i + 1 - out) = S.datas out (i - out) ++ [⟨1, e, Q, want, Y⟩] := by
        rw [show i + 1 - out = (i - out) + 1 by omega, EndS.datas_succ, show out + (i - out) = i by omega, HD.out]
      have hb6 : (w2.setCell ⟨p, 6, none⟩ (.int .i64 ((i : Int) + 1))).heap[p]? = some (.cells (rCells ⟨e, win, qn, wait, l, first, (i + 1), ever, want, owes, age⟩ (.slice (some ⟨bb, off, none⟩) l.length c)) 67 (0, 0)) := blk_set HB2.out 6 _
      refine ⟨⟨i + 1, fo2, fn2, fc2, by omega, by omega, Lib.hid hb6, Lib.hid (by rw [hdd]; exact HP2.out.set _ _ (by show p ≠ _; omega) (by show p ≠ _; omega) (by show p < _; omega)), Lib.hid (off_two HO2.out _ _ rfl)⟩, ?_⟩
      rw [outAt_of (i := i + 1) (blk_cell hb6 6 rfl), outAt_of (i := i) (blk_cell HB.out 6 rfl)]
      omega
    · have hi : i = max out top := by omega
      have hmax : max S.out S.top = i := by rw [HTOP.out, ← HTT.out, HSS.out]; exact hi.symm
      have q1 : ¬ (i : Int) < min (l.length : Int) (win : Int) := by rw [← HTM.out]; omega
      obtain ⟨L, hL⟩ : ∃ L, L = S.datas out (i - out) := ⟨_, rfl⟩
      rw [← hL] at HP
      have hLn : L.length = i - out := by rw [hL]; exact EndS.datas_length _ _ _
      have hL8 : L.length ≤ 100 := by omega
      obtain ⟨n', hn'⟩ : ∃ n', n' = i - out := ⟨_, rfl⟩
      rw [← hn'] at HP d2
      have hfr : S.frames = if top ≤ out then (if owes = true then [S.ack] else []) else L := by
        unfold EndS.frames
        rw [HTOP.out, ← HTT.out, HSS.out, hL]
        dsimp only
        by_cases h0 : top ≤ out
        · rw [if_pos h0, if_pos h0]
        · rw [if_neg h0, if_neg h0, HSS.out, show i - out = top - out by omega]
      have hack : S.ack = ⟨2, e, 0, want, ⟨#[]⟩⟩ := by rw [HSS.out]; rfl
      rw [hack] at hfr
      have hL0 : top ≤ out → L = [] := fun h0 => List.eq_nil_of_length_eq_zero (by omega)
      have hout : S.outS = ⟨e, win, qn, wait, l, first, i, max ever i, want, false, age⟩ := by
        unfold EndS.outS
        rw [hmax, HSS.out]
      have hever : max (ever : Int) (i : Int) = ((max ever i : Nat) : Int) := by omega
      have hSl : S.l = l := by rw [HSS.out]
      rw [hSl] at H
      have HSL2 := Lib.hid hSl
      have HEV := Lib.hid hever
      have hcase : (((n' : Int) == 0) = false ∧ S.frames = L) ∨ (((n' : Int) == 0) = true ∧ owes = true ∧ S.frames = L ++ [⟨2, e, 0, want, ⟨#[]⟩⟩]) ∨ (((n' : Int) == 0) = true ∧ owes = false ∧ S.frames = L) := by
        by_cases h0 : top ≤ out
        · right
          have hz : ((n' : Int) == 0) = true := beq_iff_eq.2 (by omega)
          rw [if_pos h0] at hfr
          cases owes
          · exact .inr ⟨hz, rfl, by rw [hfr, hL0 h0]; rfl⟩
          · exact .inl ⟨hz, rfl, by rw [hfr, hL0 h0]; rfl⟩
        · left
          exact ⟨beq_eq_false_iff_ne.2 (by omega), by rw [hfr, if_neg h0]⟩
      have HPUT := Lib.hid (fun W (x : Ext wr W) => put_any ((x.block p (blk_lt HB.out)).trans HB.out) (HP.out.ext x) hL8 2 0 ⟨#[]⟩ (by decide))
      have HOUT := Lib.hid hout
      have OK2 := OKS
      rw [hout] at OK2
      clear hi hmax hL hLn hn' hack hL0 hi1 hi2 hlt h1 h2 h3 h4 h5 ht1 ht2 hever hout hSl hL8 OKS
      have hg1 : p ≠ w.heap.size := by omega
      have hg2 : p ≠ w.heap.size + 1 := by omega
      rcases hcase with ⟨hz, hfr2⟩ | ⟨hz, ho9, hfr2⟩ | ⟨hz, ho9, hfr2⟩
      · have HFR := Lib.hid hfr2
        clear hfr2 hfr
        have HKB : Hid (∀ W, Ext wr W → (W.heap[p]? = some (.cells (rCells ⟨e, win, qn, wait, l, first, i, ever, want, owes, age⟩ (.slice ao l.length c)) 67 (0, 0))) ∧ Puts W (w.heap.size + 2) w.heap.size (w.heap.size + 1) p fo n' fc L) := Lib.hid (fun W x => ⟨(x.block p (blk_lt HB.out)).trans HB.out, HP.out.ext x⟩)
        go_wp2_with fail
        go_quiet (fail)
        go_wp2_with fail
        (refine wp_region_X_lit (K := fun W => W.cell? ⟨w.heap.size, 0, none⟩ = some (.pointer (some ⟨p, 0, none⟩)) ∧ W.cell? ⟨p, 6, none⟩ = some (.int .i64 (i : Int))) (by kernel_rfl) (fun w1 hw1 => ?_))
        have HW := Lib.hid (Ext.trans (Ext.drewN (Ext.refl wr) _) hw1)
        have kx := blk_cell (HKB.out w1 HW.out).2.bx 0 rfl
        have kf := blk_cell (HKB.out w1 HW.out).2.bf 0 rfl
        have kb := (HKB.out w1 HW.out).1
        have z7 := blk_set kb 7 (.int .i64 (max (ever : Int) (i : Int)))
        have kx7 := (blk_cell ((set_other w1 ⟨p, 7, none⟩ (.int .i64 (max (ever : Int) (i : Int))) w.heap.size (Ne.symm hg1)).trans (HKB.out w1 HW.out).2.bx) 0 rfl)
        have k67 := blk_cell z7 6 rfl
        clear z7 hw1
        unfold rCells at kb
        dsimp only at kb
        obtain ⟨⟨k0, k1, k2, k3, k4, k5, k6, k7, k8, k9, k10⟩, ⟨j0, j1, j2, j3, j4, j5, j6, j7, j8, j9, j10⟩⟩ := cells11 kb
        clear kb
        (refine xtakeV 0 (v := ?_) (by simp only [List.getElem?_toArray, List.getElem?_cons, reduceIte]; rfl) (by kernel_rfl) (by rfl) (fun w' hw' => ?_) ?_; rotate_left; focus (have kx := hw'.1; go_simp; first | done | with_reducible rfl)); (simp only [Act.put, List.setIfInBounds_toArray, List.set])
        (refine xtakeV 1 (v := ?_) (by simp only [List.getElem?_toArray, List.getElem?_cons, reduceIte]; rfl) (by kernel_rfl) (by rfl) (fun w' hw' => ?_) ?_; rotate_left; focus (have kx := hw'.1; go_simp; first | done | with_reducible rfl)); (simp only [Act.put, List.setIfInBounds_toArray, List.set])
        (refine xtakeV 2 (v := ?_) (by simp only [List.getElem?_toArray, List.getElem?_cons, reduceIte]; rfl) (by kernel_rfl) (by rfl) (fun w' hw' => ?_) ?_; rotate_left; focus (skip; go_simp; first | done | with_reducible rfl)); (simp only [Act.put, List.setIfInBounds_toArray, List.set])
        (refine xtakeV 3 (v := ?_) (by simp only [List.getElem?_toArray, List.getElem?_cons, reduceIte]; rfl) (by kernel_rfl) (by rfl) (fun w' hw' => ?_) ?_; rotate_left; focus (skip; go_simp; first | done | with_reducible rfl)); (simp only [Act.put, List.setIfInBounds_toArray, List.set])
        (refine xtakeV 5 (v := ?_) (by simp only [List.getElem?_toArray, List.getElem?_cons, reduceIte]; rfl) (by kernel_rfl) (by rfl) (fun w' hw' => ?_) ?_; rotate_left; focus (have kx := hw'.1; go_simp; first | done | with_reducible rfl)); (simp only [Act.put, List.setIfInBounds_toArray, List.set])
        (refine xtakeV 6 (v := ?_) (by simp only [List.getElem?_toArray, List.getElem?_cons, reduceIte]; rfl) (by kernel_rfl) (by rfl) (fun w' hw' => ?_) ?_; rotate_left; focus (skip; go_simp; first | done | with_reducible rfl)); (simp only [Act.put, List.setIfInBounds_toArray, List.set])
        (refine xtakeV 7 (v := ?_) (by simp only [List.getElem?_toArray, List.getElem?_cons, reduceIte]; rfl) (by kernel_rfl) (by rfl) (fun w' hw' => ?_) ?_; rotate_left; focus (skip; go_simp; first | done | with_reducible rfl)); (simp only [Act.put, List.setIfInBounds_toArray, List.set])
        (refine xtakeV 8 (v := ?_) (by simp only [List.getElem?_toArray, List.getElem?_cons, reduceIte]; rfl) (by kernel_rfl) (by rfl) (fun w' hw' => ?_) ?_; rotate_left; focus (have kx := hw'.2; go_simp; first | done | with_reducible rfl)); (simp only [Act.put, List.setIfInBounds_toArray, List.set])
        (refine xone 4 (by kernel_rfl) (⟨kx, k6⟩) (RunX.of 4 (by simp only [List.getElem?_toArray, List.getElem?_cons, reduceIte]; rfl) (by rfl) ?_))
        go_simp
        (try (simp only [Act.put, List.setIfInBounds_toArray, List.set]))
        (refine xtakeV 9 (v := ?_) (by simp only [List.getElem?_toArray, List.getElem?_cons, reduceIte]; rfl) (by kernel_rfl) (by rfl) (fun w' hw' => ?_) ?_; rotate_left; focus (skip; go_simp; first | done | with_reducible rfl)); (simp only [Act.put, List.setIfInBounds_toArray, List.set])
        (refine xtakeV 10 (v := ?_) (by simp only [List.getElem?_toArray, List.getElem?_cons, reduceIte]; rfl) (by kernel_rfl) (by rfl) (fun w' hw' => ?_) ?_; rotate_left; focus (skip; go_simp; first | done | with_reducible rfl)); (simp only [Act.put, List.setIfInBounds_toArray, List.set])
        (refine xtakeV 11 (v := ?_) (by simp only [List.getElem?_toArray, List.getElem?_cons, reduceIte]; rfl) (by kernel_rfl) (by rfl) (fun w' hw' => ?_) ?_; rotate_left; focus (skip; go_simp; first | done | with_reducible rfl)); (simp only [Act.put, List.setIfInBounds_toArray, List.set])
        (refine xone 12 (by kernel_rfl) (⟨kx, k6⟩) (RunX.of 12 (by simp only [List.getElem?_toArray, List.getElem?_cons, reduceIte]; rfl) (by rfl) ?_))
        go_simp
        (try (simp only [Act.put, List.setIfInBounds_toArray, List.set]))
        (refine xdone (by kernel_rfl) (⟨kx7, k67⟩) ?_)
        go_wp2
        all_goals go_ret
        all_goals rw [HFR.out, HOUT.out, HEV.out]
        all_goals (refine out_end H.out ?_ OK2.out HSL2.out.symm ?_ (B := w.heap.size + 2) ?_ (by omega); exact off_two (off_two (Off.ext HO.out HW.out) _ _ rfl) _ _ rfl; exact blk_set (blk_set (HKB.out _ HW.out).1 7 _) 9 _; exact ((HKB.out _ HW.out).2.own.set (by show p < _; omega) _).set (by show p < _; omega) _)
      · have HFR := Lib.hid hfr2
        subst ho9
        clear hfr2 hfr
        go_wp2_with fail
        go_quiet (fail)
        go_wp2_with fail
        refine (HPUT.out _ (Ext.drewN (Ext.refl wr) _)).mono ?_
        rintro e2 w2 ⟨rfl, fo2, fn2, fc2, hp2, o2⟩
        have b2 := (o2.block p (blk_lt HB.out) (fun h9 => by rcases h9 with h9 | h9 <;> omega)).trans HB.out
        have HO2 := Lib.hid (off_puts (off_drew HO.out _) o2 (by omega) (by omega))
        have HKB : Hid (∀ W, Ext w2 W → (W.heap[p]? = some (.cells (rCells ⟨e, win, qn, wait, l, first, i, ever, want, true, age⟩ (.slice ao l.length c)) 67 (0, 0))) ∧ Puts W (w.heap.size + 2) w.heap.size (w.heap.size + 1) p fo2 fn2 fc2 (L ++ [⟨2, e, 0, want, ⟨#[]⟩⟩])) := Lib.hid (fun W x => ⟨(x.block p (blk_lt b2)).trans b2, hp2.ext x⟩)
        clear o2 hp2 b2 c0 c1 c2 c3 c4 c5 c6 c7 c8 c9 c10 f0 f1 f2 f3 f4 f5 f6 f7 f8 f9 f10 d1 d2
        go_wp2_with fail
        (refine wp_region_X_lit (K := fun W => W.cell? ⟨w.heap.size, 0, none⟩ = some (.pointer (some ⟨p, 0, none⟩)) ∧ W.cell? ⟨p, 6, none⟩ = some (.int .i64 (i : Int))) (by kernel_rfl) (fun w1 hw1 => ?_))
        have HW := Lib.hid hw1
        have kx := blk_cell (HKB.out w1 HW.out).2.bx 0 rfl
        have kf := blk_cell (HKB.out w1 HW.out).2.bf 0 rfl
        have kb := (HKB.out w1 HW.out).1
        have z7 := blk_set kb 7 (.int .i64 (max (ever : Int) (i : Int)))
        have kx7 := (blk_cell ((set_other w1 ⟨p, 7, none⟩ (.int .i64 (max (ever : Int) (i : Int))) w.heap.size (Ne.symm hg1)).trans (HKB.out w1 HW.out).2.bx) 0 rfl)
        have k67 := blk_cell z7 6 rfl
        clear z7 hw1
        unfold rCells at kb
        dsimp only at kb
        obtain ⟨⟨k0, k1, k2, k3, k4, k5, k6, k7, k8, k9, k10⟩, ⟨j0, j1, j2, j3, j4, j5, j6, j7, j8, j9, j10⟩⟩ := cells11 kb
        clear kb
        (refine xtakeV 0 (v := ?_) (by simp only [List.getElem?_toArray, List.getElem?_cons, reduceIte]; rfl) (by kernel_rfl) (by rfl) (fun w' hw' => ?_) ?_; rotate_left; focus (have kx := hw'.1; go_simp; first | done | with_reducible rfl)); (simp only [Act.put, List.setIfInBounds_toArray, List.set])
        (refine xtakeV 1 (v := ?_) (by simp only [List.getElem?_toArray, List.getElem?_cons, reduceIte]; rfl) (by kernel_rfl) (by rfl) (fun w' hw' => ?_) ?_; rotate_left; focus (have kx := hw'.1; go_simp; first | done | with_reducible rfl)); (simp only [Act.put, List.setIfInBounds_toArray, List.set])
        (refine xtakeV 2 (v := ?_) (by simp only [List.getElem?_toArray, List.getElem?_cons, reduceIte]; rfl) (by kernel_rfl) (by rfl) (fun w' hw' => ?_) ?_; rotate_left; focus (skip; go_simp; first | done | with_reducible rfl)); (simp only [Act.put, List.setIfInBounds_toArray, List.set])
        (refine xtakeV 3 (v := ?_) (by simp only [List.getElem?_toArray, List.getElem?_cons, reduceIte]; rfl) (by kernel_rfl) (by rfl) (fun w' hw' => ?_) ?_; rotate_left; focus (skip; go_simp; first | done | with_reducible rfl)); (simp only [Act.put, List.setIfInBounds_toArray, List.set])
        (refine xtakeV 5 (v := ?_) (by simp only [List.getElem?_toArray, List.getElem?_cons, reduceIte]; rfl) (by kernel_rfl) (by rfl) (fun w' hw' => ?_) ?_; rotate_left; focus (have kx := hw'.1; go_simp; first | done | with_reducible rfl)); (simp only [Act.put, List.setIfInBounds_toArray, List.set])
        (refine xtakeV 6 (v := ?_) (by simp only [List.getElem?_toArray, List.getElem?_cons, reduceIte]; rfl) (by kernel_rfl) (by rfl) (fun w' hw' => ?_) ?_; rotate_left; focus (skip; go_simp; first | done | with_reducible rfl)); (simp only [Act.put, List.setIfInBounds_toArray, List.set])
        (refine xtakeV 7 (v := ?_) (by simp only [List.getElem?_toArray, List.getElem?_cons, reduceIte]; rfl) (by kernel_rfl) (by rfl) (fun w' hw' => ?_) ?_; rotate_left; focus (skip; go_simp; first | done | with_reducible rfl)); (simp only [Act.put, List.setIfInBounds_toArray, List.set])
        (refine xtakeV 8 (v := ?_) (by simp only [List.getElem?_toArray, List.getElem?_cons, reduceIte]; rfl) (by kernel_rfl) (by rfl) (fun w' hw' => ?_) ?_; rotate_left; focus (have kx := hw'.2; go_simp; first | done | with_reducible rfl)); (simp only [Act.put, List.setIfInBounds_toArray, List.set])
        (refine xone 4 (by kernel_rfl) (⟨kx, k6⟩) (RunX.of 4 (by simp only [List.getElem?_toArray, List.getElem?_cons, reduceIte]; rfl) (by rfl) ?_))
        go_simp
        (try (simp only [Act.put, List.setIfInBounds_toArray, List.set]))
        (refine xtakeV 9 (v := ?_) (by simp only [List.getElem?_toArray, List.getElem?_cons, reduceIte]; rfl) (by kernel_rfl) (by rfl) (fun w' hw' => ?_) ?_; rotate_left; focus (skip; go_simp; first | done | with_reducible rfl)); (simp only [Act.put, List.setIfInBounds_toArray, List.set])
        (refine xtakeV 10 (v := ?_) (by simp only [List.getElem?_toArray, List.getElem?_cons, reduceIte]; rfl) (by kernel_rfl) (by rfl) (fun w' hw' => ?_) ?_; rotate_left; focus (skip; go_simp; first | done | with_reducible rfl)); (simp only [Act.put, List.setIfInBounds_toArray, List.set])
        (refine xtakeV 11 (v := ?_) (by simp only [List.getElem?_toArray, List.getElem?_cons, reduceIte]; rfl) (by kernel_rfl) (by rfl) (fun w' hw' => ?_) ?_; rotate_left; focus (skip; go_simp; first | done | with_reducible rfl)); (simp only [Act.put, List.setIfInBounds_toArray, List.set])
        (refine xone 12 (by kernel_rfl) (⟨kx, k6⟩) (RunX.of 12 (by simp only [List.getElem?_toArray, List.getElem?_cons, reduceIte]; rfl) (by rfl) ?_))
        go_simp
        (try (simp only [Act.put, List.setIfInBounds_toArray, List.set]))
        (refine xdone (by kernel_rfl) (⟨kx7, k67⟩) ?_)
        go_wp2
        all_goals go_ret
        all_goals rw [HFR.out, HOUT.out, HEV.out]
        all_goals (refine out_end H.out ?_ OK2.out HSL2.out.symm ?_ (B := w.heap.size + 2) ?_ (by omega); exact off_two (off_two (Off.ext HO2.out HW.out) _ _ rfl) _ _ rfl; exact blk_set (blk_set (HKB.out _ HW.out).1 7 _) 9 _; exact ((HKB.out _ HW.out).2.own.set (by show p < _; omega) _).set (by show p < _; omega) _)
      · have HFR := Lib.hid hfr2
        subst ho9
        clear hfr2 hfr
        have HKB : Hid (∀ W, Ext wr W → (W.heap[p]? = some (.cells (rCells ⟨e, win, qn, wait, l, first, i, ever, want, false, age⟩ (.slice ao l.length c)) 67 (0, 0))) ∧ Puts W (w.heap.size + 2) w.heap.size (w.heap.size + 1) p fo n' fc L) := Lib.hid (fun W x => ⟨(x.block p (blk_lt HB.out)).trans HB.out, HP.out.ext x⟩)
        go_wp2_with fail
        go_quiet (fail)
        go_wp2_with fail
        (refine wp_region_X_lit (K := fun W => W.cell? ⟨w.heap.size, 0, none⟩ = some (.pointer (some ⟨p, 0, none⟩)) ∧ W.cell? ⟨p, 6, none⟩ = some (.int .i64 (i : Int))) (by kernel_rfl) (fun w1 hw1 => ?_))
        have HW := Lib.hid (Ext.trans (Ext.drewN (Ext.refl wr) _) hw1)
        have kx := blk_cell (HKB.out w1 HW.out).2.bx 0 rfl
        have kf := blk_cell (HKB.out w1 HW.out).2.bf 0 rfl
        have kb := (HKB.out w1 HW.out).1
        have z7 := blk_set kb 7 (.int .i64 (max (ever : Int) (i : Int)))
        have kx7 := (blk_cell ((set_other w1 ⟨p, 7, none⟩ (.int .i64 (max (ever : Int) (i : Int))) w.heap.size (Ne.symm hg1)).trans (HKB.out w1 HW.out).2.bx) 0 rfl)
        have k67 := blk_cell z7 6 rfl
        clear z7 hw1
        unfold rCells at kb
        dsimp only at kb
        obtain ⟨⟨k0, k1, k2, k3, k4, k5, k6, k7, k8, k9, k10⟩, ⟨j0, j1, j2, j3, j4, j5, j6, j7, j8, j9, j10⟩⟩ := cells11 kb
        clear kb
        (refine xtakeV 0 (v := ?_) (by simp only [List.getElem?_toArray, List.getElem?_cons, reduceIte]; rfl) (by kernel_rfl) (by rfl) (fun w' hw' => ?_) ?_; rotate_left; focus (have kx := hw'.1; go_simp; first | done | with_reducible rfl)); (simp only [Act.put, List.setIfInBounds_toArray, List.set])
        (refine xtakeV 1 (v := ?_) (by simp only [List.getElem?_toArray, List.getElem?_cons, reduceIte]; rfl) (by kernel_rfl) (by rfl) (fun w' hw' => ?_) ?_; rotate_left; focus (have kx := hw'.1; go_simp; first | done | with_reducible rfl)); (simp only [Act.put, List.setIfInBounds_toArray, List.set])
        (refine xtakeV 2 (v := ?_) (by simp only [List.getElem?_toArray, List.getElem?_cons, reduceIte]; rfl) (by kernel_rfl) (by rfl) (fun w' hw' => ?_) ?_; rotate_left; focus (skip; go_simp; first | done | with_reducible rfl)); (simp only [Act.put, List.setIfInBounds_toArray, List.set])
        (refine xtakeV 3 (v := ?_) (by simp only [List.getElem?_toArray, List.getElem?_cons, reduceIte]; rfl) (by kernel_rfl) (by rfl) (fun w' hw' => ?_) ?_; rotate_left; focus (skip; go_simp; first | done | with_reducible rfl)); (simp only [Act.put, List.setIfInBounds_toArray, List.set])
        (refine xtakeV 5 (v := ?_) (by simp only [List.getElem?_toArray, List.getElem?_cons, reduceIte]; rfl) (by kernel_rfl) (by rfl) (fun w' hw' => ?_) ?_; rotate_left; focus (have kx := hw'.1; go_simp; first | done | with_reducible rfl)); (simp only [Act.put, List.setIfInBounds_toArray, List.set])
        (refine xtakeV 6 (v := ?_) (by simp only [List.getElem?_toArray, List.getElem?_cons, reduceIte]; rfl) (by kernel_rfl) (by rfl) (fun w' hw' => ?_) ?_; rotate_left; focus (skip; go_simp; first | done | with_reducible rfl)); (simp only [Act.put, List.setIfInBounds_toArray, List.set])
        (refine xtakeV 7 (v := ?_) (by simp only [List.getElem?_toArray, List.getElem?_cons, reduceIte]; rfl) (by kernel_rfl) (by rfl) (fun w' hw' => ?_) ?_; rotate_left; focus (skip; go_simp; first | done | with_reducible rfl)); (simp only [Act.put, List.setIfInBounds_toArray, List.set])
        (refine xtakeV 8 (v := ?_) (by simp only [List.getElem?_toArray, List.getElem?_cons, reduceIte]; rfl) (by kernel_rfl) (by rfl) (fun w' hw' => ?_) ?_; rotate_left; focus (have kx := hw'.2; go_simp; first | done | with_reducible rfl)); (simp only [Act.put, List.setIfInBounds_toArray, List.set])
        (refine xone 4 (by kernel_rfl) (⟨kx, k6⟩) (RunX.of 4 (by simp only [List.getElem?_toArray, List.getElem?_cons, reduceIte]; rfl) (by rfl) ?_))
        go_simp
        (try (simp only [Act.put, List.setIfInBounds_toArray, List.set]))
        (refine xtakeV 9 (v := ?_) (by simp only [List.getElem?_toArray, List.getElem?_cons, reduceIte]; rfl) (by kernel_rfl) (by rfl) (fun w' hw' => ?_) ?_; rotate_left; focus (skip; go_simp; first | done | with_reducible rfl)); (simp only [Act.put, List.setIfInBounds_toArray, List.set])
        (refine xtakeV 10 (v := ?_) (by simp only [List.getElem?_toArray, List.getElem?_cons, reduceIte]; rfl) (by kernel_rfl) (by rfl) (fun w' hw' => ?_) ?_; rotate_left; focus (skip; go_simp; first | done | with_reducible rfl)); (simp only [Act.put, List.setIfInBounds_toArray, List.set])
        (refine xtakeV 11 (v := ?_) (by simp only [List.getElem?_toArray, List.getElem?_cons, reduceIte]; rfl) (by kernel_rfl) (by rfl) (fun w' hw' => ?_) ?_; rotate_left; focus (skip; go_simp; first | done | with_reducible rfl)); (simp only [Act.put, List.setIfInBounds_toArray, List.set])
        (refine xone 12 (by kernel_rfl) (⟨kx, k6⟩) (RunX.of 12 (by simp only [List.getElem?_toArray, List.getElem?_cons, reduceIte]; rfl) (by rfl) ?_))
        go_simp
        (try (simp only [Act.put, List.setIfInBounds_toArray, List.set]))
        (refine xdone (by kernel_rfl) (⟨kx7, k67⟩) ?_)
        go_wp2
        all_goals go_ret
        all_goals rw [HFR.out, HOUT.out, HEV.out]
        all_goals (refine out_end H.out ?_ OK2.out HSL2.out.symm ?_ (B := w.heap.size + 2) ?_ (by omega); exact off_two (off_two (Off.ext HO.out HW.out) _ _ rfl) _ _ rfl; exact blk_set (blk_set (HKB.out _ HW.out).1 7 _) 9 _; exact ((HKB.out _ HW.out).2.own.set (by show p < _; omega) _).set (by show p < _; omega) _)
end Go.Proofs.Ytefkjclkondmeaa
