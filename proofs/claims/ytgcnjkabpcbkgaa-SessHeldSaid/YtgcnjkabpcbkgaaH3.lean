/- Layer 17, the document's answers: whether a book may be. -/
import Derived.Test.YtgcnjkabpcbkgaaH2
import Derived.Deep.DeepCutAuto
import Derived.Deep.CutBlock
import Derived.BigGuard
namespace Go.Proofs.Ytgcnjkabpcbkgaa
open Go.RowKit

set_option maxRecDepth 100000 in
set_option maxHeartbeats 16000000 in
theorem refBkCheck_any (F : Nat → Prop) (w : World) (n : Int) (v : Value) (L : List Se) (h : Ns HV F w v L) (t : Bool) (ht : chkH (n, L) = t) :
    Calls Try.prog 17 #[.agg #[.int .i64 n, v]] w fun e w' => e = .returned (.bool t) ∧ Ext w w' := by
  obtain ⟨ao, c, rfl⟩ := h.len
  have hlen := h.length_le
  have HS := Lib.hid h
  have HT := Lib.hid ht
  have HK : Hid (∀ V, Ext (w.alloc (.cells #[.int .i64 n, .slice ao L.length c] 24)) V → V.cell? ⟨w.heap.size, 0, none⟩ = some (.int .i64 n) ∧ V.cell? ⟨w.heap.size, 1, none⟩ = some (.slice ao L.length c)) := Lib.hid fun V hV => ⟨cell_atD V hV rfl, cell_atD V hV rfl⟩
  have X0 : Hid (Ext w (w.alloc (.cells #[.int .i64 n, .slice ao L.length c] 24))) := Lib.hid ((Ext.refl w).alloc _)
  clear h ht
  obtain ⟨k0, k1⟩ := HK.out _ (Ext.refl _)
  by_cases hn0 : n < 0
  · have HF : Hid (false = t) := Lib.hid (by rw [← HT.out]; exact (Bool.eq_false_iff.2 fun q => by have := (chk_at.1 q).1; dsimp only at this; omega).symm)
    go_enter Try.func17, Try.ntmps17
    go_wp2
    go_ret
    exact ⟨ret_bool HF.out, X0.out⟩
  by_cases h8 : (8 : Int) < (L.length : Int)
  · have HF : Hid (false = t) := Lib.hid (by rw [← HT.out]; exact (Bool.eq_false_iff.2 fun q => by have := (chk_at.1 q).2.1; dsimp only at this; omega).symm)
    go_enter Try.func17, Try.ntmps17
    go_wp2
    go_ret
    exact ⟨ret_bool HF.out, X0.out⟩
  have HG : Hid (0 ≤ n ∧ L.length ≤ 8) := Lib.hid ⟨by omega, by omega⟩
  go_enter Try.func17, Try.ntmps17
  go_wp2
  clear k0 k1
  go_loopw [3] (fun i wr => ∃ k : Nat, k ≤ L.length ∧ i = .int .i64 k ∧ Hid (∀ (j : Nat) (u : Se), j < k → L[j]? = some u → SeAt (n, L) j u) ∧ Hid (Ext (w.alloc (.cells #[.int .i64 n, .slice ao L.length c] 24)) wr)) (fun i _ => L.length - (intOf i).toNat)
  case atStart => exact ⟨0, Nat.zero_le _, rfl, Lib.hid (fun j u hj => absurd hj (Nat.not_lt_zero _)), Lib.hid (Ext.refl _)⟩
  case round =>
    obtain ⟨k, hk, rfl, HQ, HX⟩ := hrel
    obtain ⟨k0, k1⟩ := HK.out wr HX.out
    by_cases hlt : k < L.length
    · obtain ⟨b1, off, so, sc, s, hsj, rfl, hn, hnc, hc63, hb, hsn, hcs⟩ := HS.out.sessAt hlt
      obtain ⟨⟨x0, x1⟩, x2, x3⟩ := hcs wr (X0.out.trans HX.out)
      have HJ := Lib.hid hsj
      have HBad : Hid ((SeAt (n, L) k s → False) → false = t) := Lib.hid fun q => by rw [← HT.out]; exact (Bool.eq_false_iff.2 fun e => q ((chk_at.1 e).2.2 k s hsj)).symm
      have HGo : Hid (SeAt (n, L) k s → ∀ (j : Nat) (u : Se), j < k + 1 → L[j]? = some u → SeAt (n, L) j u) := Lib.hid fun q j u hj hu => by
        rcases Nat.lt_or_ge j k with e | e
        · exact HQ.out j u e hu
        · obtain rfl : j = k := by omega
          rw [hsj] at hu
          simp only [Option.some.injEq] at hu
          subst hu
          exact q
      have HSN := Lib.hid (hsn.sl.ext (X0.out.trans HX.out))
      have HP : Hid (∀ z, 0 < k → L[k - 1]? = some z → wr.cell? ⟨b1, off + (k - 1) * 4, none⟩ = some (.int .i64 z.id)) := Lib.hid fun z hz hz2 => by
        obtain ⟨b', off', _, _, s', hs', e, _, _, _, _, _, hc'⟩ := HS.out.sessAt (k := k - 1) (by omega)
        rw [hz2] at hs'
        simp only [Option.some.injEq, Addr.mk.injEq] at hs' e
        obtain ⟨rfl, rfl, _⟩ := e
        subst hs'
        exact (hc' wr (X0.out.trans HX.out)).1.1
      clear hcs hsj hn hsn
      obtain ⟨y0, y1, y2, y3⟩ := s
      dsimp only at x0 x1 x2 x3 HSN
      obtain ⟨W5, hW5⟩ : ∃ W5, W5 = wr.alloc (.cells #[.int .i64 y0, .slice so y1.length sc, .int .i64 y2, .int .i64 y3] 41) := ⟨_, rfl⟩
      obtain ⟨g, hg⟩ : ∃ g, needH y1 = g := ⟨_, rfl⟩
      have HN : Hid (∀ q, Calls Try.prog 36 #[.slice so y1.length sc] (W5.drewN q) fun e w' => e = .returned (.bool g) ∧ ∃ m, w' = W5.drewN m) := Lib.hid fun q => (refNeed_any (W5.drewN q) _ y1 (hW5 ▸ (HSN.out.alloc _).drewN q) g hg).mono fun e w' ⟨he, m, hm⟩ => ⟨he, q + m, by rw [hm]; simp [World.drewN, Nat.add_assoc]⟩
      have X5 : Hid (∀ m, Ext (w.alloc (.cells #[.int .i64 n, .slice (some ⟨b1, off, none⟩) L.length c] 24)) (W5.drewN m)) := Lib.hid fun m => hW5 ▸ ((HX.out.alloc _).drewN m)
      have j1 : W5.cell? ⟨w.heap.size, 1, none⟩ = some (.slice (some ⟨b1, off, none⟩) L.length c) := hW5 ▸ (HK.out _ (HX.out.alloc _)).2
      have j0 : W5.cell? ⟨w.heap.size, 0, none⟩ = some (.int .i64 n) := hW5 ▸ (HK.out _ (HX.out.alloc _)).1
      have HPW : Hid (∀ z, 0 < k → L[k - 1]? = some z → W5.cell? ⟨b1, off + (k - 1) * 4, none⟩ = some (.int .i64 z.id)) := Lib.hid fun z hz hz2 => hW5 ▸ (((Ext.refl wr).alloc _).cell (p := ⟨b1, off + (k - 1) * 4, none⟩) (by have := Below.size (X0.out.trans HX.out); show b1 < _; omega)).trans (HP.out z hz hz2)
      have i0 : W5.cell? ⟨wr.heap.size, 0, none⟩ = some (.int .i64 y0) := blk_cell (hW5 ▸ at0 wr _) 0 rfl
      have i1 : W5.cell? ⟨wr.heap.size, 1, none⟩ = some (.slice so y1.length sc) := blk_cell (hW5 ▸ at0 wr _) 1 rfl
      have i2 : W5.cell? ⟨wr.heap.size, 2, none⟩ = some (.int .i64 y2) := blk_cell (hW5 ▸ at0 wr _) 2 rfl
      have i3 : W5.cell? ⟨wr.heap.size, 3, none⟩ = some (.int .i64 y3) := blk_cell (hW5 ▸ at0 wr _) 3 rfl
      have HW5 := Lib.hid hW5
      have HNG := Lib.hid hg
      clear hW5 hg
      go_upto_region 7 with (fail)
      rw [← HW5.out]
      by_cases c0 : y0 < 1
      · have H0 := Lib.hid (decide_eq_true c0)
        have HB : Hid (false = t) := Lib.hid (HBad.out fun q => by have := q.lo; dsimp only at this; omega)
        have qH0 := H0.out
        go_quiet ((go_at_call 36; exact HN.out _))
        go_wp2
        go_ret
        exact ⟨ret_bool HB.out, X0.out.trans (X5.out _)⟩
      have H0 := Lib.hid (decide_eq_false c0)
      by_cases c1 : n < y0
      · have H1 := Lib.hid (decide_eq_true c1)
        have HB : Hid (false = t) := Lib.hid (HBad.out fun q => by have := q.hi; dsimp only at this; omega)
        have qH0 := H0.out ; have qH1 := H1.out
        go_quiet ((go_at_call 36; exact HN.out _))
        go_wp2
        go_ret
        exact ⟨ret_bool HB.out, X0.out.trans (X5.out _)⟩
      have H1 := Lib.hid (decide_eq_false c1)
      by_cases hk0 : 0 < k
      · have H2 := Lib.hid (decide_eq_true hk0)
        obtain ⟨z, hz⟩ : ∃ z, L[k - 1]? = some z := ⟨_, List.getElem?_eq_getElem (by omega)⟩
        have hp := HPW.out z hk0 hz
        obtain ⟨z0, hz0⟩ : ∃ z0, z0 = z.id := ⟨_, rfl⟩
        rw [← hz0] at hp
        have HZ := Lib.hid hz
        have HZ0 := Lib.hid hz0
        clear hz hz0
        by_cases c3 : y0 ≤ z0
        · have H3 := Lib.hid (decide_eq_true c3)
          have HB : Hid (false = t) := Lib.hid (HBad.out fun q => by have := q.rise hk0 z HZ.out; rw [← HZ0.out] at this; dsimp only at this; omega)
          have qH0 := H0.out ; have qH1 := H1.out ; have qH2 := H2.out ; have qH3 := H3.out
          go_quiet ((go_at_call 36; exact HN.out _))
          go_wp2
          go_ret
          exact ⟨ret_bool HB.out, X0.out.trans (X5.out _)⟩
        have H3 := Lib.hid (decide_eq_false c3)
        have HRI : Hid (0 < k → ∀ u : Se, L[k - 1]? = some u → u.id < y0) := Lib.hid fun _ u hu => by rw [HZ.out] at hu; simp only [Option.some.injEq] at hu; subst hu; rw [← HZ0.out]; omega
        cases g
        · skip
          have HB : Hid (false = t) := Lib.hid (HBad.out fun q => by have := q.need; dsimp only at this; rw [HNG.out] at this; cases this)
          have qH0 := H0.out ; have qH1 := H1.out ; have qH2 := H2.out ; have qH3 := H3.out
          go_quiet ((go_at_call 36; exact HN.out _))
          go_wp2
          go_ret
          exact ⟨ret_bool HB.out, X0.out.trans (X5.out _)⟩
        by_cases c5 : y3 < 0
        · have H5 := Lib.hid (decide_eq_true c5)
          have HB : Hid (false = t) := Lib.hid (HBad.out fun q => by have := q.age; dsimp only at this; omega)
          have qH0 := H0.out ; have qH1 := H1.out ; have qH2 := H2.out ; have qH3 := H3.out ; have qH5 := H5.out
          go_quiet ((go_at_call 36; exact HN.out _))
          go_wp2
          go_ret
          exact ⟨ret_bool HB.out, X0.out.trans (X5.out _)⟩
        have H5 := Lib.hid (decide_eq_false c5)
        by_cases e2 : y2 = 0
        · by_cases e3 : y3 = 0
          · have HY : Hid (SeAt (n, L) k ⟨y0, y1, y2, y3⟩) := Lib.hid ⟨by show 1 ≤ y0; omega, by show y0 ≤ n; omega, fun h0 z hz => HRI.out h0 z hz, HNG.out, by show 0 ≤ y3; omega, .inl ⟨e2, e3⟩⟩
            have d2 : (y2 == 0) = true := by simpa using e2
            have d3 : (y3 == 0) = true := by simpa using e3
            clear e2 e3
            have qH0 := H0.out ; have qH1 := H1.out ; have qH2 := H2.out ; have qH3 := H3.out ; have qH5 := H5.out
            go_quiet ((go_at_call 36; exact HN.out _))
            go_wp2
            go_roundw
            case rel => exact ⟨k + 1, by omega, by go_num, Lib.hid (HGo.out HY.out), Lib.hid (X5.out _)⟩
            case measure => simp [intOf]; omega
          · have d2 : (y2 == 0) = true := by simpa using e2
            have d3 : (y3 == 0) = false := by simpa using e3
            have d4 : (y2 != 1) = true := by rw [e2]; rfl
            have HB : Hid (false = t) := Lib.hid (HBad.out fun q => by have := q.way; dsimp only at this; omega)
            clear e2 e3
            have qH0 := H0.out ; have qH1 := H1.out ; have qH2 := H2.out ; have qH3 := H3.out ; have qH5 := H5.out
            go_quiet ((go_at_call 36; exact HN.out _))
            go_wp2
            go_ret
            exact ⟨ret_bool HB.out, X0.out.trans (X5.out _)⟩
        · have d2 : (y2 == 0) = false := by simpa using e2
          by_cases e1 : y2 = 1
          · have d4 : (y2 != 1) = false := by simp [e1]
            have HB : Hid (false = t) := Lib.hid (HBad.out fun q => by have := q.way; dsimp only at this; omega)
            clear e1 e2
            have qH0 := H0.out ; have qH1 := H1.out ; have qH2 := H2.out ; have qH3 := H3.out ; have qH5 := H5.out
            go_quiet ((go_at_call 36; exact HN.out _))
            go_wp2
            go_ret
            exact ⟨ret_bool HB.out, X0.out.trans (X5.out _)⟩
          · have d4 : (y2 != 1) = true := by simpa using e1
            have HB : Hid (false = t) := Lib.hid (HBad.out fun q => by have := q.way; dsimp only at this; omega)
            clear e1 e2
            have qH0 := H0.out ; have qH1 := H1.out ; have qH2 := H2.out ; have qH3 := H3.out ; have qH5 := H5.out
            go_quiet ((go_at_call 36; exact HN.out _))
            go_wp2
            go_ret
            exact ⟨ret_bool HB.out, X0.out.trans (X5.out _)⟩
      · have H2 := Lib.hid (decide_eq_false hk0)
        have HRI : Hid (0 < k → ∀ u : Se, L[k - 1]? = some u → u.id < y0) := Lib.hid fun q => absurd q hk0
        cases g
        · skip
          have HB : Hid (false = t) := Lib.hid (HBad.out fun q => by have := q.need; dsimp only at this; rw [HNG.out] at this; cases this)
          have qH0 := H0.out ; have qH1 := H1.out ; have qH2 := H2.out
          go_quiet ((go_at_call 36; exact HN.out _))
          go_wp2
          go_ret
          exact ⟨ret_bool HB.out, X0.out.trans (X5.out _)⟩
        by_cases c5 : y3 < 0
        · have H5 := Lib.hid (decide_eq_true c5)
          have HB : Hid (false = t) := Lib.hid (HBad.out fun q => by have := q.age; dsimp only at this; omega)
          have qH0 := H0.out ; have qH1 := H1.out ; have qH2 := H2.out ; have qH5 := H5.out
          go_quiet ((go_at_call 36; exact HN.out _))
          go_wp2
          go_ret
          exact ⟨ret_bool HB.out, X0.out.trans (X5.out _)⟩
        have H5 := Lib.hid (decide_eq_false c5)
        by_cases e2 : y2 = 0
        · by_cases e3 : y3 = 0
          · have HY : Hid (SeAt (n, L) k ⟨y0, y1, y2, y3⟩) := Lib.hid ⟨by show 1 ≤ y0; omega, by show y0 ≤ n; omega, fun h0 z hz => HRI.out h0 z hz, HNG.out, by show 0 ≤ y3; omega, .inl ⟨e2, e3⟩⟩
            have d2 : (y2 == 0) = true := by simpa using e2
            have d3 : (y3 == 0) = true := by simpa using e3
            clear e2 e3
            have qH0 := H0.out ; have qH1 := H1.out ; have qH2 := H2.out ; have qH5 := H5.out
            go_quiet ((go_at_call 36; exact HN.out _))
            go_wp2
            go_roundw
            case rel => exact ⟨k + 1, by omega, by go_num, Lib.hid (HGo.out HY.out), Lib.hid (X5.out _)⟩
            case measure => simp [intOf]; omega
          · have d2 : (y2 == 0) = true := by simpa using e2
            have d3 : (y3 == 0) = false := by simpa using e3
            have d4 : (y2 != 1) = true := by rw [e2]; rfl
            have HB : Hid (false = t) := Lib.hid (HBad.out fun q => by have := q.way; dsimp only at this; omega)
            clear e2 e3
            have qH0 := H0.out ; have qH1 := H1.out ; have qH2 := H2.out ; have qH5 := H5.out
            go_quiet ((go_at_call 36; exact HN.out _))
            go_wp2
            go_ret
            exact ⟨ret_bool HB.out, X0.out.trans (X5.out _)⟩
        · have d2 : (y2 == 0) = false := by simpa using e2
          by_cases e1 : y2 = 1
          · have HY : Hid (SeAt (n, L) k ⟨y0, y1, y2, y3⟩) := Lib.hid ⟨by show 1 ≤ y0; omega, by show y0 ≤ n; omega, fun h0 z hz => HRI.out h0 z hz, HNG.out, by show 0 ≤ y3; omega, .inr ⟨e1, by omega⟩⟩
            have d4 : (y2 != 1) = false := by simp [e1]
            clear e1 e2
            have qH0 := H0.out ; have qH1 := H1.out ; have qH2 := H2.out ; have qH5 := H5.out
            go_quiet ((go_at_call 36; exact HN.out _))
            go_wp2
            go_roundw
            case rel => exact ⟨k + 1, by omega, by go_num, Lib.hid (HGo.out HY.out), Lib.hid (X5.out _)⟩
            case measure => simp [intOf]; omega
          · have d4 : (y2 != 1) = true := by simpa using e1
            have HB : Hid (false = t) := Lib.hid (HBad.out fun q => by have := q.way; dsimp only at this; omega)
            clear e1 e2
            have qH0 := H0.out ; have qH1 := H1.out ; have qH2 := H2.out ; have qH5 := H5.out
            go_quiet ((go_at_call 36; exact HN.out _))
            go_wp2
            go_ret
            exact ⟨ret_bool HB.out, X0.out.trans (X5.out _)⟩
    · have hkl : k = L.length := by omega
      have HF : Hid (true = t) := Lib.hid (by rw [← HT.out]; exact (chk_at.2 ⟨HG.out.1, HG.out.2, fun j u hu => HQ.out j u (by have := (List.getElem?_eq_some_iff.1 hu).1; dsimp only at this; omega) hu⟩).symm)
      go_wp2
      go_ret
      exact ⟨ret_bool HF.out, X0.out.trans HX.out⟩
end Go.Proofs.Ytgcnjkabpcbkgaa
