/- The document's depths, by going through the arcs again and again. -/
import Derived.Test.YthofgfdhcndpbaaR6
namespace Go.Proofs.Ythofgfdhcndpbaa
open Go.RowKit

theorem relax_bnd {d : List Int} {B : Int} (x : Arc) (h : ∀ i : Nat, 0 ≤ d.getD i 0 ∧ d.getD i 0 ≤ B) : ∀ i : Nat, 0 ≤ (relax d x).getD i 0 ∧ (relax d x).getD i 0 ≤ B + 1 := fun i => by
  unfold relax
  have h1 := h x.a.toNat
  have h2 := h x.b.toNat
  have h3 := h i
  by_cases e : x.b.toNat = i
  · subst e
    by_cases hl : x.b.toNat < d.length
    · rw [getD_set_self hl]; omega
    · rw [List.set_eq_of_length_le (by omega)]; omega
  · rw [getD_set_ne e]; omega
theorem pass_bnd {d : List Int} {B : Int} (L : List Arc) (h : ∀ i : Nat, 0 ≤ d.getD i 0 ∧ d.getD i 0 ≤ B) : ∀ i : Nat, 0 ≤ (pass L d).getD i 0 ∧ (pass L d).getD i 0 ≤ B + L.length := by
  refine snoc_ind (P := fun L => ∀ i : Nat, 0 ≤ (pass L d).getD i 0 ∧ (pass L d).getD i 0 ≤ B + L.length) (fun i => by simpa [pass] using h i) (fun L x ih i => ?_) L
  rw [pass_snoc, List.length_append, List.length_singleton]
  have := relax_bnd x ih i
  omega
theorem passes_bnd {d : List Int} {B : Int} (L : List Arc) (h : ∀ i : Nat, 0 ≤ d.getD i 0 ∧ d.getD i 0 ≤ B) (hL : L.length ≤ 400) : ∀ (k : Nat) (i : Nat), 0 ≤ (passes L k d).getD i 0 ∧ (passes L k d).getD i 0 ≤ B + k * 400
  | 0, i => by simpa [passes] using h i
  | k + 1, i => by
    have := pass_bnd L (passes_bnd L h hL k) i
    show 0 ≤ (pass L (passes L k d)).getD i 0 ∧ (pass L (passes L k d)).getD i 0 ≤ _
    omega
theorem zeros_bnd (n : Nat) : ∀ i : Nat, 0 ≤ (List.replicate n (0 : Int)).getD i 0 ∧ (List.replicate n (0 : Int)).getD i 0 ≤ 0 := fun i => by
  by_cases h : i < n <;> simp [h]

theorem refDepths_no (w : World) (N : Int) (v : Value) (E : List Arc) (h : Sl w v E) (hno : ¬ (OkD N E ∧ roundD N E = false)) :
    Calls Try.prog 16 #[.int .i64 N, v] w (GivesT w [] false) := by
  obtain ⟨ao, c, rfl⟩ := h.len
  have HS := Lib.hid h
  clear h
  by_cases ok : OkD N E
  · have hr : roundD N E = true := by cases e : roundD N E with
      | false => exact absurd ⟨ok, e⟩ hno
      | true => rfl
    have HC := Lib.hid (okD_iff.2 ok)
    have h0 := ok.n0
    have HO := Lib.hid ok
    obtain ⟨n, rfl⟩ := Int.eq_ofNat_of_zero_le h0
    have HR := Lib.hid hr
    clear ok hno hr
    go_enter Try.func16, Try.ntmps16
    go_wp2_with (first
      | (go_at_call 19; refine (refCheck_val _ _ _ E (HS.out.ext (by repeat (first | exact Ext.refl _ | assumption | refine Ext.alloc ?_ _ | refine Ext.drew ?_ | refine Ext.drewN ?_ _))) true HC.out).mono ?_; rintro e w1 ⟨rfl, x1⟩)
      | (go_at_call 27; refine (refRound_val _ _ _ E (HS.out.ext (by repeat (first | exact Ext.refl _ | assumption | exact Hid.out (by assumption) | refine Ext.alloc ?_ _ | refine Ext.drew ?_ | refine Ext.drewN ?_ _ | refine Ext.trans ?_ (by assumption)))) HO.out true HR.out).mono ?_; rintro e w2 ⟨rfl, x2⟩))
    go_ret2
    exact ⟨_, rfl, Ow.nil _ _, x1.trans x2⟩
  · have HC := Lib.hid (okD_no ok)
    clear ok hno
    go_enter Try.func16, Try.ntmps16
    go_wp2_with (first
      | (go_at_call 19; refine (refCheck_val _ _ _ E (HS.out.ext (by repeat (first | exact Ext.refl _ | assumption | refine Ext.alloc ?_ _ | refine Ext.drew ?_ | refine Ext.drewN ?_ _))) false HC.out).mono ?_; rintro e w1 ⟨rfl, x1⟩))
    go_ret2
    exact ⟨_, rfl, Ow.nil _ _, x1⟩

set_option maxRecDepth 100000 in
set_option maxHeartbeats 4000000 in
theorem refDepths_yes (w : World) (n : Nat) (v : Value) (E : List Arc) (h : Sl w v E) (ok : OkD (n : Int) E) (hr : roundD (n : Int) E = false) :
    Calls Try.prog 16 #[.int .i64 n, v] w (GivesT w (passes E n (List.replicate n 0)) true) := by
  obtain ⟨ao, c, rfl⟩ := h.len
  have hle := h.length_le
  have HS := Lib.hid h
  have HC := Lib.hid (okD_iff.2 ok)
  have HO := Lib.hid ok
  have HR := Lib.hid hr
  have hn64 : n ≤ 64 := by have := ok.n64; omega
  have hfew := ok.few
  clear h ok hr
  go_enter Try.func16, Try.ntmps16
  go_wp2_with (first
    | (go_at_call 19; refine (refCheck_val _ _ _ E (HS.out.ext (by repeat (first | exact Ext.refl _ | assumption | refine Ext.alloc ?_ _ | refine Ext.drew ?_ | refine Ext.drewN ?_ _))) true HC.out).mono ?_; rintro e w1 ⟨rfl, x1⟩)
    | (go_at_call 27; refine (refRound_val _ _ _ E (HS.out.ext (by repeat (first | exact Ext.refl _ | assumption | exact Hid.out (by assumption) | refine Ext.alloc ?_ _ | refine Ext.drew ?_ | refine Ext.drewN ?_ _ | refine Ext.trans ?_ (by assumption)))) HO.out false HR.out).mono ?_; rintro e w2 ⟨rfl, x2⟩; have y2 := Ext.trans x1 x2))
  have X2 := Lib.hid y2
  have hs2 : w.heap.size ≤ w2.heap.size := y2.size
  go_loopw [6, 7] (fun q i wr => ∃ k : Nat, k ≤ n ∧ i = .int .i64 k ∧ Hid (Ow wr w2.heap.size q (List.replicate k (0 : Int))) ∧ Hid (q ≠ .slice none 0 0) ∧ Hid (Ext w2 wr)) (fun _ i _ => n - (intOf i).toNat)
  case atStart => exact ⟨0, Nat.zero_le _, rfl, Lib.hid (Ow.lit w2 _ (Nat.le_refl _) [] (by simp)), Lib.hid (by simp), Lib.hid ((Ext.refl _).alloc _)⟩
  case round =>
    obtain ⟨k, hk, rfl, HW, HN, HX⟩ := hrel
    by_cases hlt : k < n
    · obtain ⟨Z, hZ⟩ : ∃ Z, Z = List.replicate k (0 : Int) := ⟨_, rfl⟩
      have HZ : Hid (List.replicate (k + 1) (0 : Int) = Z ++ [0]) := Lib.hid (by rw [hZ, List.replicate_succ'])
      have hZl : Z.length ≤ 1000 := by rw [hZ]; simp; omega
      rw [← hZ] at HW
      have hwr : w2.heap.size ≤ wr.heap.size := HX.out.size
      clear hZ
      go_wp2_with ((at_builtin; refine wpList_append_sl (α := Int) rfl (.tmp 25) (.tmp 26) rfl w2.heap.size u6 Z rfl ?_ (.slice (some ⟨_, 0, none⟩) 1 1) [(0 : Int)] rfl ?_ ?_ ?_ ?_; exact (HW.out.alloc _); exact (Sl.litAt _ _ (by simp) [(0 : Int)] (by simp)); (first | omega | (simp; omega)); exact (by first | (simp; done) | (simp; omega)); intro v3 W3 ho3 ha3; have O3 := Lib.hid ho3; have N3 := Lib.hid (ha3.kept HN.out); have y3 : Hid (Ext w2 W3) := Lib.hid (Below.trans (HX.out.alloc _) ha3.below); clear ho3 ha3))
      go_roundw
      case rel => exact ⟨k + 1, by omega, by go_num, Lib.hid (by rw [HZ.out]; exact O3.out), N3, y3⟩
      case measure => simp [intOf]; omega
    · have hkn : k = n := by omega
      obtain ⟨g6, c6, hu6, _, hg6l, hc6a, hc6b⟩ := HW.out.shape HN.out
      rw [hkn, List.length_replicate] at hu6
      subst hu6
      have HW2 : Hid (Ow wr w2.heap.size (.slice (some ⟨g6, 0, none⟩) n c6) (List.replicate n (0 : Int))) := Lib.hid (by have := HW.out; rwa [hkn] at this)
      have hg6 := (HW2.out.low g6 rfl).1
      have HX6 := HX
      clear hkn HW HN
      go_wp2
      go_loopw [8] (fun i wr => ∃ k : Nat, k ≤ n ∧ i = .int .i64 k ∧ Hid (Ow wr w2.heap.size (.slice (some ⟨g6, 0, none⟩) n c6) (passes E k (List.replicate n (0 : Int)))) ∧ Hid (Ext w2 wr)) (fun i _ => n - (intOf i).toNat)
      case atStart => exact ⟨0, Nat.zero_le _, rfl, HW2, HX⟩
      case round =>
        clear HW2 HX HX6 hg6l
        obtain ⟨k, hk, rfl, HW, HX⟩ := hrel
        by_cases hlt : k < n
        · go_wp2
          go_loopw [9] (fun i wr => ∃ j : Nat, j ≤ E.length ∧ i = .int .i64 j ∧ Hid (Ow wr w2.heap.size (.slice (some ⟨g6, 0, none⟩) n c6) (pass (E.take j) (passes E k (List.replicate n (0 : Int))))) ∧ Hid (Ext w2 wr)) (fun i _ => E.length - (intOf i).toNat)
          case atStart => exact ⟨0, Nat.zero_le _, rfl, HW, HX⟩
          case round =>
            clear HW HX
            obtain ⟨j, hj, rfl, HI, HXI⟩ := hrel
            by_cases hjl : j < E.length
            · obtain ⟨b, off, hao, hq1, hnc, hc63, hb, hya0, hyb0⟩ := HS.out.arcsAt hjl
              subst hao
              obtain ⟨⟨ya, yb⟩, hy⟩ : ∃ y, y = E.getD j ⟨0, 0⟩ := ⟨_, rfl⟩
              rw [← hy] at hya0 hyb0
              have hm : (⟨ya, yb⟩ : Arc) ∈ E := by rw [hy, getD_at hjl]; exact List.getElem_mem hjl
              have hyr : 0 ≤ ya ∧ ya < (n : Int) ∧ 0 ≤ yb ∧ yb < (n : Int) ∧ ya ≠ yb := HO.out.each _ hm
              obtain ⟨un, rfl⟩ := Int.eq_ofNat_of_zero_le hyr.1
              obtain ⟨vn, rfl⟩ := Int.eq_ofNat_of_zero_le hyr.2.2.1
              have hun : un < n := by have := hyr.2.1; omega
              have hvn : vn < n := by have := hyr.2.2.2.1; omega
              have HN : Hid (pass (E.take (j + 1)) (passes E k (List.replicate n (0 : Int))) = relax (pass (E.take j) (passes E k (List.replicate n (0 : Int)))) ⟨(un : Int), (vn : Int)⟩) := Lib.hid (by rw [take_next hjl ⟨0, 0⟩, ← hy, pass_snoc])
              have hbd := pass_bnd (E.take j) (passes_bnd E (zeros_bnd n) hfew k)
              rw [List.length_take] at hbd
              have hdl : (pass (E.take j) (passes E k (List.replicate n (0 : Int)))).length = n := by rw [pass_len, passes_len]; simp
              obtain ⟨d, hd⟩ : ∃ d, d = pass (E.take j) (passes E k (List.replicate n (0 : Int))) := ⟨_, rfl⟩
              rw [← hd] at HI HN hbd hdl
              have hbu := hbd un
              have hbv := hbd vn
              obtain ⟨du, hdu⟩ : ∃ du, du = d.getD un 0 := ⟨_, rfl⟩
              obtain ⟨dv, hdv⟩ : ∃ dv, dv = d.getD vn 0 := ⟨_, rfl⟩
              obtain ⟨bv, ov, ev, hq3, _, _, _, cv⟩ := HI.out.sl.intsAt (show vn < d.length by omega)
              obtain ⟨bu, ou, eu, hq4, _, _, _, cu⟩ := HI.out.sl.intsAt (show un < d.length by omega)
              simp only [Option.some.injEq, Addr.mk.injEq, and_true] at ev eu
              obtain ⟨rfl, rfl⟩ := ev
              obtain ⟨rfl, rfl⟩ := eu
              rw [← hdv, Nat.zero_add] at cv
              rw [← hdu, Nat.zero_add] at cu
              rw [← hdu] at hbu
              rw [← hdv] at hbv
              have HREL : Hid (relax d ⟨(un : Int), (vn : Int)⟩ = d.set vn (max dv (du + 1))) := Lib.hid (by
                unfold relax
                rw [hdu, hdv]
                rfl)
              have hfr : wr.frozen? ⟨g6, vn, none⟩ = false := World.ownsRow.frozenAt (show wr.ownsRow _ _ _ (.slice (some ⟨g6, 0, none⟩) d.length c6) d.length _ by have := HI.out; unfold Ow at this; rw [hdl] at this ⊢; exact this) vn
              have hya := ((X2.out.trans HXI.out).cell (p := ⟨b, off + j * 2, none⟩) hb).trans hya0
              have hyb := ((X2.out.trans HXI.out).cell (p := ⟨b, off + j * 2 + 1, none⟩) hb).trans hyb0
              have hdu1 : 0 ≤ du := hbu.1
              have hdu2 : du ≤ 100000 := by omega
              have hdv1 : 0 ≤ dv := hbv.1
              have hdv2 : dv ≤ 100000 := by omega
              have HF : Hid (∃ W1 : World, W1 = { wr with drawn := wr.drawn + 1 } ∧ (W1.cell? ⟨b, off + j * 2, none⟩ = some (.int .i64 (un : Int)) ∧ W1.cell? ⟨b, off + j * 2 + 1, none⟩ = some (.int .i64 (vn : Int))) ∧ W1.cell? ⟨g6, vn, none⟩ = some (.int .i64 dv) ∧ W1.cell? ⟨g6, un, none⟩ = some (.int .i64 du) ∧ W1.frozen? ⟨g6, vn, none⟩ = false ∧ Ow W1 w2.heap.size (.slice (some ⟨g6, 0, none⟩) n c6) d ∧ Ext w2 W1) := Lib.hid ⟨_, rfl, ⟨hya, hyb⟩, cv, cu, hfr, HI.out, HXI.out.drew⟩
              clear hq1 hq3 hq4 hy hm hyr hbd hdl hd hbu hbv hdu hdv cv cu hfr hya hyb hya0 hyb0
              go_wp2
              refine wp_region_still_tail 25 (by kernel_rfl) (by kernel_rfl) ?_
              simp only [List.take_succ_cons, List.take_zero, List.drop_succ_cons, List.drop_zero]
              obtain ⟨W1, hW1, ⟨hya, hyb⟩, cv, cu, hfr, ho1, hx1⟩ := HF.out
              rw [← hW1]
              have hsum : IntKind.i64.wrap (du + 1) = du + 1 := IntWalk.i64_in _ (by omega)
              have HO1 := Lib.hid ho1
              have HX1 := Lib.hid hx1
              clear hW1 ho1 hx1
              repeat still_step
              refine wpStill_nil ?_
              clear hsum
              go_wp2
              go_roundw
              case rel => exact ⟨j + 1, by omega, by go_num, Lib.hid (by rw [HN.out, HREL.out]; exact (set_ow HO1.out vn (max dv (du + 1))).1), Lib.hid (HX1.out.grown (set_ow HO1.out vn (max dv (du + 1))).2 HX1.out.size (fun q e => by cases e; exact hg6))⟩
              case measure => simp [intOf]; omega
            · have hjl2 : j = E.length := by omega
              have HI2 : Hid (Ow wr w2.heap.size (.slice (some ⟨g6, 0, none⟩) n c6) (passes E (k + 1) (List.replicate n (0 : Int)))) := Lib.hid (by have := HI.out; rwa [hjl2, List.take_length] at this)
              clear hjl2 HI
              go_wp2
              go_roundw
              case rel => exact ⟨k + 1, by omega, by go_num, HI2, HXI⟩
              case measure => simp [intOf]; omega
        · have hkn : k = n := by omega
          have HI2 : Hid (Ow wr w2.heap.size (.slice (some ⟨g6, 0, none⟩) n c6) (passes E n (List.replicate n (0 : Int)))) := Lib.hid (by have := HW.out; rwa [hkn] at this)
          clear hkn HW
          go_wp2
          go_ret2
          exact ⟨_, rfl, HI2.out.mono hs2, X2.out.trans HX.out⟩

end Go.Proofs.Ythofgfdhcndpbaa
