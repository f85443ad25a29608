/- Layer 17, the document's answers: whether a book is small; whether two are the same. -/
import Derived.Test.YtgcnjkabpcbkgaaH2
import Derived.Test.YtgcnjkabpcbkgaaWR
import Derived.Deep.DeepCutAuto
import Derived.Deep.CutBlock
import Derived.BigGuard
namespace Go.Proofs.Ytgcnjkabpcbkgaa
open Go.RowKit

set_option maxRecDepth 100000 in
set_option maxHeartbeats 4000000 in
theorem refBkFew_any (F : Nat → Prop) (w : World) (n : Int) (v : Value) (L : List Se) (h : Ns HV F w v L) (t : Bool) (ht : fewH L = t) :
    Calls Try.prog 10 #[.agg #[.int .i64 n, v]] w fun e w' => e = .returned (.bool t) ∧ Ext w w' := by
  obtain ⟨ao, c, rfl⟩ := h.len
  have hlen := h.length_le
  have HS := Lib.hid h
  have HT := Lib.hid ht
  have HK : Hid (∀ V, Ext (w.alloc (.cells #[.int .i64 n, .slice ao L.length c] 24)) V → V.cell? ⟨w.heap.size, 1, none⟩ = some (.slice ao L.length c)) := Lib.hid fun V hV => cell_atD V hV rfl
  have X0 : Hid (Ext w (w.alloc (.cells #[.int .i64 n, .slice ao L.length c] 24))) := Lib.hid ((Ext.refl w).alloc _)
  clear h ht
  go_enter Try.func10, Try.ntmps10
  go_wp2
  go_loopw [3] (fun i wr => ∃ k : Nat, k ≤ L.length ∧ i = .int .i64 k ∧ Hid (∀ (j : Nat) (u : Se), j < k → L[j]? = some u → u.need.length ≤ 70) ∧ Hid (Ext (w.alloc (.cells #[.int .i64 n, .slice ao L.length c] 24)) wr)) (fun i _ => L.length - (intOf i).toNat)
  case atStart => exact ⟨0, Nat.zero_le _, rfl, Lib.hid (fun j u hj => absurd hj (Nat.not_lt_zero _)), Lib.hid (Ext.refl _)⟩
  case round =>
    obtain ⟨k, hk, rfl, HQ, HX⟩ := hrel
    have k1 := HK.out wr HX.out
    by_cases hlt : k < L.length
    · by_cases h13 : (k : Int) < 13
      · obtain ⟨b1, off, so, sc, s, hsj, rfl, hn, hnc, hc63, hb, hsn, hcs⟩ := HS.out.sessAt hlt
        obtain ⟨⟨x0, x1⟩, x2, x3⟩ := hcs wr (X0.out.trans HX.out)
        have HJ := Lib.hid hsj
        have hsl := hsn.sl.length_le
        clear hcs hsj hn hsn
        obtain ⟨y0, y1, y2, y3⟩ := s
        dsimp only at x0 x1 x2 x3 hsl
        by_cases e : (70 : Int) < (y1.length : Int)
        · have HF : Hid (false = t) := Lib.hid (by rw [← HT.out]; exact (Bool.eq_false_iff.2 fun q => by have := (fewH_iff.1 q).2 _ (List.mem_of_getElem? HJ.out); dsimp only at this; omega).symm)
          go_wp2
          go_ret
          exact ⟨ret_bool HF.out, X0.out.trans HX.out⟩
        · have HY : Hid (y1.length ≤ 70) := Lib.hid (by omega)
          go_wp2
          go_roundw
          case rel => exact ⟨k + 1, by omega, by go_num, Lib.hid (fun j u hj hu => by
            rcases Nat.lt_or_ge j k with q | q
            · exact HQ.out j u q hu
            · obtain rfl : j = k := by omega
              rw [HJ.out] at hu
              simp only [Option.some.injEq] at hu
              subst hu
              exact HY.out), HX⟩
          case measure => simp [intOf]; omega
      · have h12 : ¬ (L.length : Int) ≤ 12 := by omega
        have HF : Hid (false = t) := Lib.hid (by rw [← HT.out]; exact (Bool.eq_false_iff.2 fun q => by have := (fewH_iff.1 q).1; omega).symm)
        go_wp2
        go_ret
        exact ⟨ret_bool HF.out, X0.out.trans HX.out⟩
    · by_cases h12 : (L.length : Int) ≤ 12
      · have HF : Hid (true = t) := Lib.hid (by rw [← HT.out]; exact (fewH_iff.2 ⟨by omega, fun s hs => by
          obtain ⟨j, hj, e⟩ := List.getElem_of_mem hs
          exact HQ.out j s (by omega) (by rw [List.getElem?_eq_getElem hj, e])⟩).symm)
        go_wp2
        go_ret
        exact ⟨ret_bool HF.out, X0.out.trans HX.out⟩
      · have HF : Hid (false = t) := Lib.hid (by rw [← HT.out]; exact (Bool.eq_false_iff.2 fun q => by have := (fewH_iff.1 q).1; omega).symm)
        go_wp2
        go_ret
        exact ⟨ret_bool HF.out, X0.out.trans HX.out⟩

theorem take_eqH {xs ys : List Se} {k : Nat} {x y : Se} (hx : xs[k]? = some x) (hy : ys[k]? = some y) : xs.take (k + 1) = ys.take (k + 1) ↔ xs.take k = ys.take k ∧ x = y := by
  have h1 := (List.getElem?_eq_some_iff.1 hx).1
  have h2 := (List.getElem?_eq_some_iff.1 hy).1
  rw [List.take_succ_eq_append_getElem h1, List.take_succ_eq_append_getElem h2, (List.getElem?_eq_some_iff.1 hx).2, (List.getElem?_eq_some_iff.1 hy).2]
  constructor
  · intro h
    have := List.append_inj h (by simp; omega)
    exact ⟨this.1, by simpa using this.2⟩
  · rintro ⟨ha, hb⟩
    rw [ha, hb]

set_option maxRecDepth 100000 in
set_option maxHeartbeats 16000000 in
theorem refBkSame_any (F G : Nat → Prop) (w : World) (n m : Int) (v u : Value) (L M : List Se) (h : Ns HV F w v L) (g : Ns HV G w u M) (t : Bool) (ht : decide (((n, L) : Bk) = (m, M)) = t) :
    Calls Try.prog 18 #[.agg #[.int .i64 n, v], .agg #[.int .i64 m, u]] w fun e w' => e = .returned (.bool t) ∧ Ext w w' := by
  obtain ⟨ao, c, rfl⟩ := h.len
  obtain ⟨bo, d, rfl⟩ := g.len
  have hlen := h.length_le
  have hlenM := g.length_le
  have HS := Lib.hid h
  have HM := Lib.hid g
  have HT := Lib.hid ht
  have HK : Hid (∀ V, Ext ((w.alloc (.cells #[.int .i64 n, .slice ao L.length c] 24)).alloc (.cells #[.int .i64 m, .slice bo M.length d] 24)) V → (V.cell? ⟨w.heap.size, 0, none⟩ = some (.int .i64 n) ∧ V.cell? ⟨w.heap.size, 1, none⟩ = some (.slice ao L.length c)) ∧ V.cell? ⟨w.heap.size + 1, 0, none⟩ = some (.int .i64 m) ∧ V.cell? ⟨w.heap.size + 1, 1, none⟩ = some (.slice bo M.length d)) := Lib.hid fun V hV => by
    have q1 := keepU (old1 (at0 w _) _) hV
    have q2 := keepU (at1 w _ _) hV
    exact ⟨⟨blk_cell q1 0 rfl, blk_cell q1 1 rfl⟩, blk_cell q2 0 rfl, blk_cell q2 1 rfl⟩
  have X0 : Hid (Ext w ((w.alloc (.cells #[.int .i64 n, .slice ao L.length c] 24)).alloc (.cells #[.int .i64 m, .slice bo M.length d] 24))) := Lib.hid (((Ext.refl w).alloc _).alloc _)
  clear h g ht
  obtain ⟨⟨k0, k1⟩, k2, k3⟩ := HK.out _ (Ext.refl _)
  by_cases hnm : n = m
  rotate_left
  · have hne : (n != m) = true := by simpa using hnm
    have HF : Hid (false = t) := Lib.hid (by rw [← HT.out]; exact (decide_eq_false fun q => hnm (congrArg Prod.fst q)).symm)
    clear hnm
    go_enter Try.func18, Try.ntmps18
    go_wp2
    go_ret
    exact ⟨ret_bool HF.out, X0.out⟩
  have hne : (n != m) = false := by simpa using hnm
  have HNM := Lib.hid hnm
  clear hnm
  by_cases hl : L.length = M.length
  rotate_left
  · have hle : ((L.length : Int) != (M.length : Int)) = true := by simp; omega
    have HF : Hid (false = t) := Lib.hid (by rw [← HT.out]; exact (decide_eq_false fun q => hl (congrArg List.length (congrArg Prod.snd q : L = M))).symm)
    clear hl
    go_enter Try.func18, Try.ntmps18
    go_wp2
    go_ret
    exact ⟨ret_bool HF.out, X0.out⟩
  have hle : ((L.length : Int) != (M.length : Int)) = false := by simp [hl]
  have HL := Lib.hid hl
  clear hl
  go_enter Try.func18, Try.ntmps18
  go_wp2
  clear k0 k1 k2 k3
  go_loopw [5] (fun i wr => ∃ k : Nat, k ≤ L.length ∧ i = .int .i64 k ∧ Hid (L.take k = M.take k) ∧ Hid (Ext ((w.alloc (.cells #[.int .i64 n, .slice ao L.length c] 24)).alloc (.cells #[.int .i64 m, .slice bo M.length d] 24)) wr)) (fun i _ => L.length - (intOf i).toNat)
  case atStart => exact ⟨0, Nat.zero_le _, rfl, Lib.hid (by simp), Lib.hid (Ext.refl _)⟩
  case round =>
    obtain ⟨k, hk, rfl, HQ, HX⟩ := hrel
    obtain ⟨⟨k0, k1⟩, k2, k3⟩ := HK.out wr HX.out
    by_cases hlt : k < L.length
    · have hlt2 : k < M.length := by have := HL.out; omega
      obtain ⟨b1, off, so, sc, s, hsj, rfl, hn, hnc, hc63, hb, hsn, hcs⟩ := HS.out.sessAt hlt
      obtain ⟨b2, off2, so2, sc2, s2, hsj2, rfl, hn2, hnc2, hc632, hb2, hsn2, hcs2⟩ := HM.out.sessAt hlt2
      obtain ⟨⟨x0, x1⟩, x2, x3⟩ := hcs wr (X0.out.trans HX.out)
      obtain ⟨⟨z0, z1⟩, z2, z3⟩ := hcs2 wr (X0.out.trans HX.out)
      have HJ : Hid (s ≠ s2 → false = t) := Lib.hid fun q => by
        rw [← HT.out]
        refine (decide_eq_false fun e => q ?_).symm
        have e2 : L = M := congrArg Prod.snd e
        rw [e2, hsj2] at hsj
        simpa using hsj.symm
      have HG : Hid (s = s2 → L.take (k + 1) = M.take (k + 1)) := Lib.hid fun q => (take_eqH hsj hsj2).2 ⟨HQ.out, q⟩
      have HD1 := Lib.hid (fun V hV => hcs V ((X0.out.trans HX.out).trans hV))
      have HD2 := Lib.hid (fun V hV => hcs2 V ((X0.out.trans HX.out).trans hV))
      have HSN := Lib.hid (hsn.sl.ext (X0.out.trans HX.out))
      have HSN2 := Lib.hid (hsn2.sl.ext (X0.out.trans HX.out))
      clear hcs hsj hn hsn hcs2 hsj2 hn2 hsn2
      obtain ⟨y0, y1, y2, y3⟩ := s
      obtain ⟨u0, u1, u2, u3⟩ := s2
      dsimp only at x0 x1 x2 x3 z0 z1 z2 z3 HSN HSN2
      have HC1 : Hid (∀ V, Ext wr V → (V.cell? ⟨b1, off + k * 4, none⟩ = some (.int .i64 y0) ∧ V.cell? ⟨b1, off + k * 4 + 1, none⟩ = some (.slice so y1.length sc)) ∧ V.cell? ⟨b1, off + k * 4 + 2, none⟩ = some (.int .i64 y2) ∧ V.cell? ⟨b1, off + k * 4 + 3, none⟩ = some (.int .i64 y3)) := Lib.hid fun V hV => HD1.out V hV
      have HC2 : Hid (∀ V, Ext wr V → (V.cell? ⟨b2, off2 + k * 4, none⟩ = some (.int .i64 u0) ∧ V.cell? ⟨b2, off2 + k * 4 + 1, none⟩ = some (.slice so2 u1.length sc2)) ∧ V.cell? ⟨b2, off2 + k * 4 + 2, none⟩ = some (.int .i64 u2) ∧ V.cell? ⟨b2, off2 + k * 4 + 3, none⟩ = some (.int .i64 u3)) := Lib.hid fun V hV => HD2.out V hV
      have HG8 : Hid (∀ V, Ext wr V → V.cell? ⟨w.heap.size, 1, none⟩ = some (.slice (some ⟨b1, off, none⟩) L.length c) ∧ V.cell? ⟨w.heap.size + 1, 1, none⟩ = some (.slice (some ⟨b2, off2, none⟩) M.length d)) := Lib.hid fun V hV => ⟨(HK.out V (HX.out.trans hV)).1.2, (HK.out V (HX.out.trans hV)).2.2⟩
      clear x0 x1 x2 x3 z0 z1 z2 z3 HD1 HD2
      go_upto_region 6 with (fail)
      clear k0 k1 k2 k3
      go_cut [6, 7] (fun s6 s7 wx => ∃ B6 B7, s6 = .pointer (some ⟨B6, 0, none⟩) ∧ s7 = .pointer (some ⟨B7, 0, none⟩) ∧ Hid (Ext wr wx ∧ wx.heap[B6]? = some (.cells #[.int .i64 y0, .slice so y1.length sc, .int .i64 y2, .int .i64 y3] 41 (0, 0)) ∧ wx.heap[B7]? = some (.cells #[.int .i64 u0, .slice so2 u1.length sc2, .int .i64 u2, .int .i64 u3] 41 (0, 0))))
      case first =>
        (refine wp_region_X_lit (K := fun W => Ext wr W) (by kernel_rfl) (fun w1 hw1 => ?_))
        have HW1 := Lib.hid hw1
        clear hw1
        refine xtv 0 (h := ?_)
        refine xtv 1 (hv := by intro w' hw'; have hc := (HG8.out w' hw').1; go_simp; first | done | with_reducible rfl) (h := ?_)
        refine xtv 2 (h := ?_)
        refine xtv 3 (h := ?_)
        refine xtv 4 (hv := by intro w' hw'; obtain ⟨⟨c0, c1⟩, c2, c3⟩ := HC1.out w' hw'; go_simp; first | done | with_reducible rfl) (h := ?_)
        refine xtv 5 (h := ?_)
        refine xtv 6 (hv := by intro w' hw'; have hc := (HG8.out w' hw').2; go_simp; first | done | with_reducible rfl) (h := ?_)
        refine xtv 7 (h := ?_)
        refine xtv 8 (h := ?_)
        refine xtv 9 (hv := by intro w' hw'; obtain ⟨⟨c0, c1⟩, c2, c3⟩ := HC2.out w' hw'; go_simp; first | done | with_reducible rfl) (h := ?_)
        refine xtwo 10 11 (hk := HW1.out) (h := RunX.of 10 (h := ?_)) (h' := RunX.of 11 (h := ?_))
        · go_simp
          (try (simp only [Act.put, List.setIfInBounds_toArray, List.set]))
          refine xone 11 (hk := (HW1.out.alloc _)) (h := RunX.of 11 (h := ?_))
          go_simp
          (try (simp only [Act.put, List.setIfInBounds_toArray, List.set]))
          have HW2 : Hid (Ext wr ((w1.alloc (.cells #[.int .i64 0, .slice none 0 0, .int .i64 0, .int .i64 0] 41)).alloc (.cells #[.int .i64 0, .slice none 0 0, .int .i64 0, .int .i64 0] 41))) := Lib.hid ((HW1.out.alloc _).alloc _)
          have hsw := Below.size HW1.out
          refine xone 12 (hk := HW2.out) (h := RunX.of 12 (h := ?_))
          refine wp_st 41 (.tmp 6) (.tmp 33) rfl (w1.heap.size) 0 41 #[.int .i64 0, .slice none 0 0, .int .i64 0, .int .i64 0] #[.int .i64 y0, .slice so y1.length sc, .int .i64 y2, .int .i64 y3] #[.int .i64 y0, .slice so y1.length sc, .int .i64 y2, .int .i64 y3] rfl rfl (old1 (at0 w1 _) _) (by kernel_rfl) (by simp) rfl rfl ?_
          intro W3 hb3 o3
          simp only [Act.put]
          have HW3 := Lib.hid (ext_off HW2.out o3 (fun k hk => by omega))
          have k7 := (o3.block (w1.heap.size + 1) (by rw [size_alloc, size_alloc]; omega) (by omega)).trans (at1 w1 _ _)
          refine xone 13 (hk := HW3.out) (h := RunX.of 13 (h := ?_))
          refine wp_st 41 (.tmp 7) (.tmp 38) rfl (w1.heap.size + 1) 0 41 #[.int .i64 0, .slice none 0 0, .int .i64 0, .int .i64 0] #[.int .i64 u0, .slice so2 u1.length sc2, .int .i64 u2, .int .i64 u3] #[.int .i64 u0, .slice so2 u1.length sc2, .int .i64 u2, .int .i64 u3] rfl rfl k7 (by kernel_rfl) (by simp) rfl rfl ?_
          intro W4 hb4 o4
          simp only [Act.put]
          have HW4 := Lib.hid (ext_off HW3.out o4 (fun k hk => by omega))
          have HB6 := Lib.hid ((o4.block (w1.heap.size) (blk_lt hb3) (by omega)).trans hb3)
          have HB7 := Lib.hid hb4
          clear hb3 o3 hb4 o4 k7
          (refine xdone (by kernel_rfl) (HW4.out) ?_)
          go_wp2_with fail
          go_meet
          exact ⟨_, _, rfl, rfl, Lib.hid ⟨HW4.out, HB6.out, HB7.out⟩⟩
        · go_simp
          (try (simp only [Act.put, List.setIfInBounds_toArray, List.set]))
          refine xone 10 (hk := (HW1.out.alloc _)) (h := RunX.of 10 (h := ?_))
          go_simp
          (try (simp only [Act.put, List.setIfInBounds_toArray, List.set]))
          have HW2 : Hid (Ext wr ((w1.alloc (.cells #[.int .i64 0, .slice none 0 0, .int .i64 0, .int .i64 0] 41)).alloc (.cells #[.int .i64 0, .slice none 0 0, .int .i64 0, .int .i64 0] 41))) := Lib.hid ((HW1.out.alloc _).alloc _)
          have hsw := Below.size HW1.out
          refine xone 12 (hk := HW2.out) (h := RunX.of 12 (h := ?_))
          refine wp_st 41 (.tmp 6) (.tmp 33) rfl (w1.heap.size + 1) 0 41 #[.int .i64 0, .slice none 0 0, .int .i64 0, .int .i64 0] #[.int .i64 y0, .slice so y1.length sc, .int .i64 y2, .int .i64 y3] #[.int .i64 y0, .slice so y1.length sc, .int .i64 y2, .int .i64 y3] rfl rfl (at1 w1 _ _) (by kernel_rfl) (by simp) rfl rfl ?_
          intro W3 hb3 o3
          simp only [Act.put]
          have HW3 := Lib.hid (ext_off HW2.out o3 (fun k hk => by omega))
          have k7 := (o3.block (w1.heap.size) (by rw [size_alloc, size_alloc]; omega) (by omega)).trans (old1 (at0 w1 _) _)
          refine xone 13 (hk := HW3.out) (h := RunX.of 13 (h := ?_))
          refine wp_st 41 (.tmp 7) (.tmp 38) rfl (w1.heap.size) 0 41 #[.int .i64 0, .slice none 0 0, .int .i64 0, .int .i64 0] #[.int .i64 u0, .slice so2 u1.length sc2, .int .i64 u2, .int .i64 u3] #[.int .i64 u0, .slice so2 u1.length sc2, .int .i64 u2, .int .i64 u3] rfl rfl k7 (by kernel_rfl) (by simp) rfl rfl ?_
          intro W4 hb4 o4
          simp only [Act.put]
          have HW4 := Lib.hid (ext_off HW3.out o4 (fun k hk => by omega))
          have HB6 := Lib.hid ((o4.block (w1.heap.size + 1) (blk_lt hb3) (by omega)).trans hb3)
          have HB7 := Lib.hid hb4
          clear hb3 o3 hb4 o4 k7
          (refine xdone (by kernel_rfl) (HW4.out) ?_)
          go_wp2_with fail
          go_meet
          exact ⟨_, _, rfl, rfl, Lib.hid ⟨HW4.out, HB6.out, HB7.out⟩⟩
      case rest =>
        obtain ⟨B6, B7, rfl, rfl, HCUT⟩ := hcut
        obtain ⟨a, ha⟩ : ∃ a, decide (y1 = u1) = a := ⟨_, rfl⟩
        have HN : Hid (Calls Try.prog 19 #[.slice so y1.length sc, .slice so2 u1.length sc2] wc fun e w' => e = .returned (.bool a) ∧ Ext wc w') := Lib.hid ((refSame_val a wc _ _ y1 u1 (HSN.out.ext HCUT.out.1) (HSN2.out.ext HCUT.out.1) ha).mono fun e w' ⟨he, hm⟩ => ⟨he, Ext.of_drew hm⟩)
        have XC : Hid (∀ V, Ext wc V → Ext ((w.alloc (.cells #[.int .i64 n, .slice (some ⟨b1, off, none⟩) L.length c] 24)).alloc (.cells #[.int .i64 m, .slice (some ⟨b2, off2, none⟩) M.length d] 24)) V) := Lib.hid fun V hV => (HX.out.trans HCUT.out.1).trans hV
        obtain ⟨⟨i0, i1⟩, i2, i3⟩ : (wc.cell? ⟨B6, 0, none⟩ = some (.int .i64 y0) ∧ wc.cell? ⟨B6, 1, none⟩ = some (.slice so y1.length sc)) ∧ wc.cell? ⟨B6, 2, none⟩ = some (.int .i64 y2) ∧ wc.cell? ⟨B6, 3, none⟩ = some (.int .i64 y3) := ⟨⟨blk_cell HCUT.out.2.1 0 rfl, blk_cell HCUT.out.2.1 1 rfl⟩, blk_cell HCUT.out.2.1 2 rfl, blk_cell HCUT.out.2.1 3 rfl⟩
        obtain ⟨⟨j0, j1⟩, j2, j3⟩ : (wc.cell? ⟨B7, 0, none⟩ = some (.int .i64 u0) ∧ wc.cell? ⟨B7, 1, none⟩ = some (.slice so2 u1.length sc2)) ∧ wc.cell? ⟨B7, 2, none⟩ = some (.int .i64 u2) ∧ wc.cell? ⟨B7, 3, none⟩ = some (.int .i64 u3) := ⟨⟨blk_cell HCUT.out.2.2 0 rfl, blk_cell HCUT.out.2.2 1 rfl⟩, blk_cell HCUT.out.2.2 2 rfl, blk_cell HCUT.out.2.2 3 rfl⟩
        have HA := Lib.hid ha
        clear ha
        by_cases e0 : y0 = u0
        rotate_left
        · have H0 : Hid ((y0 != u0) = true) := Lib.hid (by simpa using e0)
          have HB : Hid (false = t) := Lib.hid (HJ.out fun q => by exact e0 (congrArg Se.id q))
          have qH0 := H0.out
          go_wp2_with (go_at_call 19; refine HN.out.mono ?_; rintro e w' ⟨rfl, hx⟩; have HX2 := Lib.hid hx; clear hx)
          go_ret
          exact ⟨ret_bool HB.out, X0.out.trans (XC.out _ (Ext.refl _))⟩
        have H0 : Hid ((y0 != u0) = false) := Lib.hid (by simpa using e0)
        by_cases e2 : y2 = u2
        rotate_left
        · have H2 : Hid ((y2 != u2) = true) := Lib.hid (by simpa using e2)
          have HB : Hid (false = t) := Lib.hid (HJ.out fun q => by exact e2 (congrArg Se.state q))
          have qH0 := H0.out ; have qH2 := H2.out
          go_wp2_with (go_at_call 19; refine HN.out.mono ?_; rintro e w' ⟨rfl, hx⟩; have HX2 := Lib.hid hx; clear hx)
          go_ret
          exact ⟨ret_bool HB.out, X0.out.trans (XC.out _ (Ext.refl _))⟩
        have H2 : Hid ((y2 != u2) = false) := Lib.hid (by simpa using e2)
        by_cases e3 : y3 = u3
        rotate_left
        · have H3 : Hid ((y3 != u3) = true) := Lib.hid (by simpa using e3)
          have HB : Hid (false = t) := Lib.hid (HJ.out fun q => by exact e3 (congrArg Se.age q))
          have qH0 := H0.out ; have qH2 := H2.out ; have qH3 := H3.out
          go_wp2_with (go_at_call 19; refine HN.out.mono ?_; rintro e w' ⟨rfl, hx⟩; have HX2 := Lib.hid hx; clear hx)
          go_ret
          exact ⟨ret_bool HB.out, X0.out.trans (XC.out _ (Ext.refl _))⟩
        have H3 : Hid ((y3 != u3) = false) := Lib.hid (by simpa using e3)
        cases a
        · skip
          have HB : Hid (false = t) := Lib.hid (HJ.out fun q => by exact of_decide_eq_false HA.out (congrArg Se.need q))
          have qH0 := H0.out ; have qH2 := H2.out ; have qH3 := H3.out
          go_wp2_with (go_at_call 19; refine HN.out.mono ?_; rintro e w' ⟨rfl, hx⟩; have HX2 := Lib.hid hx; clear hx)
          go_ret
          exact ⟨ret_bool HB.out, X0.out.trans (XC.out _ HX2.out)⟩
        have HY : Hid (L.take (k + 1) = M.take (k + 1)) := Lib.hid (HG.out (by rw [e0, e2, e3, of_decide_eq_true HA.out]))
        clear e0 e2 e3
        have qH0 := H0.out ; have qH2 := H2.out ; have qH3 := H3.out
        go_wp2_with (go_at_call 19; refine HN.out.mono ?_; rintro e w' ⟨rfl, hx⟩; have HX2 := Lib.hid hx; clear hx)
        go_roundw
        case rel => exact ⟨k + 1, by omega, by go_num, HY, Lib.hid (XC.out _ HX2.out)⟩
        case measure => simp [intOf]; omega
    · have hkl : k = L.length := by omega
      have HF : Hid (true = t) := Lib.hid (by
        have hq := HQ.out
        rw [hkl, List.take_length, HL.out, List.take_length] at hq
        rw [← HT.out, hq, HNM.out]
        exact (decide_eq_true rfl).symm)
      go_wp2
      go_ret
      exact ⟨ret_bool HF.out, X0.out.trans HX.out⟩
end Go.Proofs.Ytgcnjkabpcbkgaa
