/- Layer 15, the laws: DrinkOpens. -/
import Derived.Test.YtpjpjchnfllcmaaXF
import Derived.Test.YtpjpjchnfllcmaaXE
import Derived.Test.YtpjpjchnfllcmaaX7
import Derived.BigGuard
namespace Go.Proofs.Ytpjpjchnfllcmaa
open Go.RowKit

set_option maxRecDepth 100000 in
set_option maxHeartbeats 16000000 in
theorem drinkOpens_any (w : World) (id ph th : Int) (ao : Option Addr) (c : Nat) (na : Option Addr) (nc : Nat) (L : List Sd) (N : List Int) (qa : Option Addr) (qc : Nat) (Q : List Int) (h : Sl w (.slice ao L.length c) L) (hN : Sl w (.slice na N.length nc) N) (hQ : Sl w (.slice qa Q.length qc) Q) :
    Calls Try.prog 5 #[.agg #[.int .i64 id, .int .i64 ph, .slice ao L.length c, .int .i64 th, .slice na N.length nc], .slice qa Q.length qc] w fun e w' => e = .returned (.bool true) ∧ Ext w w' := by
  have hlen := h.length_le
  have hlenN := hN.length_le
  obtain ⟨W0, hW0⟩ : ∃ W0, W0 = (w.alloc (.cells #[.int .i64 id, .int .i64 ph, .slice ao L.length c, .int .i64 th, .slice na N.length nc] 29)) := ⟨_, rfl⟩
  have X0 : Hid (Ext w W0) := Lib.hid (hW0 ▸ (Ext.refl w).alloc _)
  have D0 : Hid (W0.heap[w.heap.size]? = some (.cells #[.int .i64 id, .int .i64 ph, .slice ao L.length c, .int .i64 th, .slice na N.length nc] 29 (0, 0))) := Lib.hid (hW0 ▸ at0 w _)
  have HW0 := Lib.hid hW0
  have HS := Lib.hid (h.ext X0.out)
  have HN := Lib.hid (hN.ext X0.out)
  have HQ := Lib.hid (hQ.ext X0.out)
  have hlenQ := hQ.length_le
  clear hQ
  clear h hN hW0
  obtain ⟨⟨d0, d1, d2⟩, d3, d4⟩ := cells5 D0.out
  obtain ⟨t70, h70⟩ : ∃ t, (decide (L.length ≤ 70) && decide (N.length ≤ 70)) = t := ⟨_, rfl⟩
  have H70 := Lib.hid h70
  clear h70
  go_enter Try.func5, Try.ntmps5
  go_upto_region 1 with (fail)
  rw [← HW0.out]
  cases t70
  · go_wp2_with (first
      | (go_at_call 10; have hgd := XB; refine (awake_any _).mono ?_; rintro e wc ⟨rfl, hx⟩; have XC : Hid (Ext W0 wc) := Lib.hid (XB.out.trans hx); clear hx hgd)
      | (go_at_call 10; refine (awake_any W0).mono ?_; rintro e wa ⟨rfl, hx⟩; have XA : Hid (Ext W0 wa) := Lib.hid hx; clear d0 d1 d2 d3 d4; obtain ⟨⟨d0, d1, d2⟩, d3, d4⟩ := cells5 (keepU D0.out hx); clear hx)
      | (go_at_call 11; refine (dkFew_any wa id ph th _ _ L N (HS.out.ext XA.out) (HN.out.ext XA.out) _ H70.out).mono ?_; rintro e wb ⟨rfl, hx⟩; have hx := Ext.trans XA.out hx; have XB : Hid (Ext W0 wb) := Lib.hid hx; clear d0 d1 d2 d3 d4; obtain ⟨⟨d0, d1, d2⟩, d3, d4⟩ := cells5 (keepU D0.out hx); clear hx))
    go_ret
    exact ⟨rfl, X0.out.trans XC.out⟩
  have h70 := H70.out
  simp only [Bool.and_eq_true, decide_eq_true_eq] at h70
  have hL : L.length ≤ 1000 := by omega
  have hNl : N.length ≤ 1000 := by omega
  clear h70
  by_cases hq70 : (70 : Int) < (Q.length : Int)
  · go_wp2_with (first
      | (go_at_call 10; have hgd := XB; refine (awake_any _).mono ?_; rintro e wc ⟨rfl, hx⟩; have XC : Hid (Ext W0 wc) := Lib.hid (XB.out.trans hx); clear hx hgd)
      | (go_at_call 10; refine (awake_any W0).mono ?_; rintro e wa ⟨rfl, hx⟩; have XA : Hid (Ext W0 wa) := Lib.hid hx; clear d0 d1 d2 d3 d4; obtain ⟨⟨d0, d1, d2⟩, d3, d4⟩ := cells5 (keepU D0.out hx); clear hx)
      | (go_at_call 11; refine (dkFew_any wa id ph th _ _ L N (HS.out.ext XA.out) (HN.out.ext XA.out) _ H70.out).mono ?_; rintro e wb ⟨rfl, hx⟩; have hx := Ext.trans XA.out hx; have XB : Hid (Ext W0 wb) := Lib.hid hx; clear d0 d1 d2 d3 d4; obtain ⟨⟨d0, d1, d2⟩, d3, d4⟩ := cells5 (keepU D0.out hx); clear hx))
    go_ret
    exact ⟨rfl, X0.out.trans XC.out⟩
  have hQl : Q.length ≤ 1000 := by omega
  obtain ⟨⟨⟨i1, p1, S1, t1, P1⟩, er1⟩, hr1⟩ : ∃ r, openR ⟨id, ph, L, th, N⟩ Q = r := ⟨_, rfl⟩
  obtain ⟨⟨⟨i2, p2, S2, t2, P2⟩, er2⟩, hr2⟩ : ∃ r, closeR ⟨id, ph, L, th, N⟩ = r := ⟨_, rfl⟩
  have HR1 := Lib.hid hr1
  have HR2 := Lib.hid hr2
  clear hr1 hr2
  go_upto_region 3 with (first
    | (go_at_call 10; refine (awake_any W0).mono ?_; rintro e wa ⟨rfl, hx⟩; have XA : Hid (Ext W0 wa) := Lib.hid hx; clear d0 d1 d2 d3 d4; obtain ⟨⟨d0, d1, d2⟩, d3, d4⟩ := cells5 (keepU D0.out hx); clear hx)
    | (go_at_call 11; refine (dkFew_any wa id ph th _ _ L N (HS.out.ext XA.out) (HN.out.ext XA.out) _ H70.out).mono ?_; rintro e wb ⟨rfl, hx⟩; have hx := Ext.trans XA.out hx; have XB : Hid (Ext W0 wb) := Lib.hid hx; clear d0 d1 d2 d3 d4; obtain ⟨⟨d0, d1, d2⟩, d3, d4⟩ := cells5 (keepU D0.out hx); clear hx))
  have HQB := Lib.hid (HQ.out.ext XB.out)
  go_upto_region 4 with (first
    | (go_at_call 13; refine (dkOwn_any wb id ph th _ _ L N (HS.out.ext XB.out) (HN.out.ext XB.out) hL hNl).mono ?_; rintro e w1 ⟨v1, u1, rfl, s1, q1, x1⟩; obtain ⟨a1, c1, rfl⟩ := s1.len; obtain ⟨b1, e1, rfl⟩ := q1.len; have HSd1 := Lib.hid s1; have HNd1 := Lib.hid q1; have X1 : Hid (Ext W0 w1) := Lib.hid (Ext.trans XB.out x1); clear s1 q1 x1)
    | (at_builtin; refine wpList_append_sl (α := Int) rfl (.tmp 29) (.tmp 30) rfl w1.heap.size (.slice (some ⟨_, 0, none⟩) 0 0) [] rfl ?_ _ Q rfl ?_ ?_ ?_ ?_; exact (Ow.litAt w1 _ _ rfl (Nat.le_refl _) [] (by simp)); exact ((HQ.out.ext X1.out).alloc _); (first | omega | (simp; omega)); exact (by rw [size_alloc]; omega); intro v2 w2 ho2 ha2; obtain ⟨a2, n2, c2, rfl⟩ := ho2.sh; have O2 := Lib.hid ho2; have x2 : Ext w1 w2 := Below.trans (Ext.alloc (Ext.refl w1) _) ha2.below; have X2 : Hid (Ext W0 w2) := Lib.hid (X1.out.trans x2); have HSd1' := Lib.hid (HSd1.out.ext x2); have HNd1' := Lib.hid (HNd1.out.ext x2); clear ho2 ha2 x2)
    | (go_at_call 22; refine (HR1.out ▸ dkOpen_any w2 id ph th _ _ _ L N Q HSd1'.out HNd1'.out O2.out.sl hL hQl : Calls Try.prog 22 #[.agg #[.int .i64 id, .int .i64 ph, .slice a1 L.length c1, .int .i64 th, .slice b1 N.length e1], .slice a2 n2 c2] w2 (GivesDN w2 (⟨i1, p1, S1, t1, P1⟩, er1))).mono ?_; rintro e w3 ⟨v3, u3, rfl, s3, q3, x3, _⟩; obtain ⟨a3, c3, rfl⟩ := s3.len; obtain ⟨b3, e3, rfl⟩ := q3.len; have HSd3 := Lib.hid s3; have HNd3 := Lib.hid q3; have X3 : Hid (Ext W0 w3) := Lib.hid (Ext.trans X2.out x3); clear s3 q3 x3))
  obtain ⟨g3, hg3⟩ : ∃ g, g = w3.heap.size := ⟨_, rfl⟩
  obtain ⟨W3, hW3⟩ : ∃ W, W = w3.alloc (.cells #[.int .i64 i1, .int .i64 p1, .slice a3 S1.length c3, .int .i64 t1, .slice b3 P1.length e3] 29) := ⟨_, rfl⟩
  have XW3 : Hid (Ext W0 W3) := Lib.hid (hW3 ▸ X3.out.alloc _)
  have Bg3 : Hid (W3.heap[g3]? = some (.cells #[.int .i64 i1, .int .i64 p1, .slice a3 S1.length c3, .int .i64 t1, .slice b3 P1.length e3] 29 (0, 0))) := Lib.hid (by rw [hW3, hg3]; exact at0 w3 _)
  have SA3 := Lib.hid (hW3 ▸ HSd3.out.alloc _ : Sl W3 (.slice a3 S1.length c3) S1)
  have QA3 := Lib.hid (hW3 ▸ HNd3.out.alloc _ : Sl W3 (.slice b3 P1.length e3) P1)
  rw [← hW3, ← hg3]
  clear hW3 hg3
  clear d0 d1 d2 d3 d4
  obtain ⟨⟨d0, d1, d2⟩, d3, d4⟩ := cells5 (keepU D0.out XW3.out)
  go_upto_region 5 with (first
    | (go_at_call 23; refine (HR1.out ▸ refDkOpen_any W3 id ph th _ _ _ L N Q (HS.out.ext XW3.out) (HN.out.ext XW3.out) (HQ.out.ext XW3.out) hQl : Calls Try.prog 23 #[.agg #[.int .i64 id, .int .i64 ph, .slice ao L.length c, .int .i64 th, .slice na N.length nc], .slice qa Q.length qc] W3 (GivesD W3 (⟨i1, p1, S1, t1, P1⟩, er1))).mono ?_; rintro e w4 ⟨v4, u4, rfl, s4, q4, x4⟩; obtain ⟨a4, c4, rfl⟩ := s4.len; obtain ⟨b4, e4, rfl⟩ := q4.len; have HSd4 := Lib.hid s4; have HNd4 := Lib.hid q4; have X4 : Hid (Ext W0 w4) := Lib.hid (Ext.trans XW3.out x4); have Y4 := Lib.hid x4; clear s4 q4 x4))
  obtain ⟨g4, hg4⟩ : ∃ g, g = w4.heap.size := ⟨_, rfl⟩
  obtain ⟨W4, hW4⟩ : ∃ W, W = w4.alloc (.cells #[.int .i64 i1, .int .i64 p1, .slice a4 S1.length c4, .int .i64 t1, .slice b4 P1.length e4] 29) := ⟨_, rfl⟩
  have XW4 : Hid (Ext W0 W4) := Lib.hid (hW4 ▸ X4.out.alloc _)
  have Bg4 : Hid (W4.heap[g4]? = some (.cells #[.int .i64 i1, .int .i64 p1, .slice a4 S1.length c4, .int .i64 t1, .slice b4 P1.length e4] 29 (0, 0))) := Lib.hid (by rw [hW4, hg4]; exact at0 w4 _)
  have SA4 := Lib.hid (hW4 ▸ HSd4.out.alloc _ : Sl W4 (.slice a4 S1.length c4) S1)
  have QA4 := Lib.hid (hW4 ▸ HNd4.out.alloc _ : Sl W4 (.slice b4 P1.length e4) P1)
  have Z34 := Lib.hid (hW4 ▸ Y4.out.alloc _ : Ext W3 W4)
  rw [← hW4, ← hg4]
  clear hW4 hg4
  clear d0 d1 d2 d3 d4
  obtain ⟨⟨d0, d1, d2⟩, d3, d4⟩ := cells5 (keepU D0.out XW4.out)
  go_upto_region 6 with (first
    | (go_at_call 13; refine (dkOwn_any W4 id ph th _ _ L N (HS.out.ext XW4.out) (HN.out.ext XW4.out) hL hNl).mono ?_; rintro e w5 ⟨v5, u5, rfl, s5, q5, x5⟩; obtain ⟨a5, c5, rfl⟩ := s5.len; obtain ⟨b5, e5, rfl⟩ := q5.len; have HSd5 := Lib.hid s5; have HNd5 := Lib.hid q5; have X5 : Hid (Ext W0 w5) := Lib.hid (Ext.trans XW4.out x5); have Y5 := Lib.hid x5; clear s5 q5 x5)
    | (go_at_call 24; refine (HR2.out ▸ dkClose_any w5 id ph th _ _ L N HSd5.out HNd5.out hL : Calls Try.prog 24 #[.agg #[.int .i64 id, .int .i64 ph, .slice a5 L.length c5, .int .i64 th, .slice b5 N.length e5]] w5 (GivesDN w5 (⟨i2, p2, S2, t2, P2⟩, er2))).mono ?_; rintro e w6 ⟨v6, u6, rfl, s6, q6, x6, _⟩; obtain ⟨a6, c6, rfl⟩ := s6.len; obtain ⟨b6, e6, rfl⟩ := q6.len; have HSd6 := Lib.hid s6; have HNd6 := Lib.hid q6; have X6 : Hid (Ext W0 w6) := Lib.hid (Ext.trans X5.out x6); have Y6 := Lib.hid (Y5.out.trans x6); clear s6 q6 x6))
  obtain ⟨g6, hg6⟩ : ∃ g, g = w6.heap.size := ⟨_, rfl⟩
  obtain ⟨W6, hW6⟩ : ∃ W, W = w6.alloc (.cells #[.int .i64 i2, .int .i64 p2, .slice a6 S2.length c6, .int .i64 t2, .slice b6 P2.length e6] 29) := ⟨_, rfl⟩
  have XW6 : Hid (Ext W0 W6) := Lib.hid (hW6 ▸ X6.out.alloc _)
  have Bg6 : Hid (W6.heap[g6]? = some (.cells #[.int .i64 i2, .int .i64 p2, .slice a6 S2.length c6, .int .i64 t2, .slice b6 P2.length e6] 29 (0, 0))) := Lib.hid (by rw [hW6, hg6]; exact at0 w6 _)
  have SA6 := Lib.hid (hW6 ▸ HSd6.out.alloc _ : Sl W6 (.slice a6 S2.length c6) S2)
  have QA6 := Lib.hid (hW6 ▸ HNd6.out.alloc _ : Sl W6 (.slice b6 P2.length e6) P2)
  have Z46 := Lib.hid (hW6 ▸ Y6.out.alloc _ : Ext W4 W6)
  rw [← hW6, ← hg6]
  clear hW6 hg6
  clear d0 d1 d2 d3 d4
  obtain ⟨⟨d0, d1, d2⟩, d3, d4⟩ := cells5 (keepU D0.out XW6.out)
  go_upto_region 7 with (first
    | (go_at_call 25; refine (HR2.out ▸ refDkClose_any W6 id ph th _ _ L N (HS.out.ext XW6.out) (HN.out.ext XW6.out) : Calls Try.prog 25 #[.agg #[.int .i64 id, .int .i64 ph, .slice ao L.length c, .int .i64 th, .slice na N.length nc]] W6 (GivesD W6 (⟨i2, p2, S2, t2, P2⟩, er2))).mono ?_; rintro e w7 ⟨v7, u7, rfl, s7, q7, x7⟩; obtain ⟨a7, c7, rfl⟩ := s7.len; obtain ⟨b7, e7, rfl⟩ := q7.len; have HSd7 := Lib.hid s7; have HNd7 := Lib.hid q7; have X7 : Hid (Ext W0 w7) := Lib.hid (Ext.trans XW6.out x7); have Y7 := Lib.hid x7; clear s7 q7 x7))
  obtain ⟨g7, hg7⟩ : ∃ g, g = w7.heap.size := ⟨_, rfl⟩
  obtain ⟨W7, hW7⟩ : ∃ W, W = w7.alloc (.cells #[.int .i64 i2, .int .i64 p2, .slice a7 S2.length c7, .int .i64 t2, .slice b7 P2.length e7] 29) := ⟨_, rfl⟩
  have XW7 : Hid (Ext W0 W7) := Lib.hid (hW7 ▸ X7.out.alloc _)
  have Bg7 : Hid (W7.heap[g7]? = some (.cells #[.int .i64 i2, .int .i64 p2, .slice a7 S2.length c7, .int .i64 t2, .slice b7 P2.length e7] 29 (0, 0))) := Lib.hid (by rw [hW7, hg7]; exact at0 w7 _)
  have SA7 := Lib.hid (hW7 ▸ HSd7.out.alloc _ : Sl W7 (.slice a7 S2.length c7) S2)
  have QA7 := Lib.hid (hW7 ▸ HNd7.out.alloc _ : Sl W7 (.slice b7 P2.length e7) P2)
  have Z67 := Lib.hid (hW7 ▸ Y7.out.alloc _ : Ext W6 W7)
  rw [← hW7, ← hg7]
  clear hW7 hg7
  clear d0 d1 d2 d3 d4
  have Z47 := Lib.hid (Z46.out.trans Z67.out)
  have Z37 := Lib.hid (Z34.out.trans Z47.out)
  have HK3 : Hid (∀ V, Ext W7 V → _) := Lib.hid fun V hV => cells5 (keepU (keepU Bg3.out Z37.out) hV)
  have HK4 : Hid (∀ V, Ext W7 V → _) := Lib.hid fun V hV => cells5 (keepU (keepU Bg4.out Z47.out) hV)
  have HK6 : Hid (∀ V, Ext W7 V → _) := Lib.hid fun V hV => cells5 (keepU (keepU Bg6.out Z67.out) hV)
  have HK7 : Hid (∀ V, Ext W7 V → _) := Lib.hid fun V hV => cells5 (keepU Bg7.out hV)
  obtain ⟨⟨k0, k1, k2⟩, k3, k4⟩ := cells5 (keepU Bg3.out Z37.out)
  obtain ⟨⟨l0, l1, l2⟩, l3, l4⟩ := cells5 (keepU Bg4.out Z47.out)
  go_wp2_with (first
    | (go_at_call 15; have hgd := X8; refine (refDkSame_any w8 i2 p2 t2 i2 p2 t2 _ _ _ _ S2 S2 P2 P2 (SA6.out.ext (Z67.out.trans X8.out)) (SA7.out.ext X8.out) (QA6.out.ext (Z67.out.trans X8.out)) (QA7.out.ext X8.out) true (by simp)).mono ?_; rintro e w9 ⟨rfl, hx⟩; have X9 : Hid (Ext W0 w9) := Lib.hid ((XW7.out.trans X8.out).trans hx); clear hx hgd)
    | (go_at_call 15; refine (refDkSame_any W7 i1 p1 t1 i1 p1 t1 _ _ _ _ S1 S1 P1 P1 (SA3.out.ext Z37.out) (SA4.out.ext Z47.out) (QA3.out.ext Z37.out) (QA4.out.ext Z47.out) true (by simp)).mono ?_; rintro e w8 ⟨rfl, hx⟩; have X8 : Hid (Ext W7 w8) := Lib.hid hx; clear k0 k1 k2 k3 k4 l0 l1 l2 l3 l4; obtain ⟨⟨k0, k1, k2⟩, k3, k4⟩ := HK6.out w8 hx; obtain ⟨⟨l0, l1, l2⟩, l3, l4⟩ := HK7.out w8 hx; clear hx))
  go_ret
  exact ⟨rfl, X0.out.trans X9.out⟩
end Go.Proofs.Ytpjpjchnfllcmaa
