/- Layer 15, the laws: DrinkHas. -/
import Derived.Test.YtpjpjchnfllcmaaXF
import Derived.Test.YtpjpjchnfllcmaaXE
import Derived.Test.YtpjpjchnfllcmaaXM
import Derived.Test.YtpjpjchnfllcmaaDR1
import Derived.BigGuard
namespace Go.Proofs.Ytpjpjchnfllcmaa
open Go.RowKit

theorem len_of {y x : Dk} (h : (y.sides = [] ∧ y.need = []) ∨ (chkK y = true ∧ y.thirst = 2 ∧ missB y.need y.sides = false ∧ y.need = x.need ∧ y.sides.length = x.sides.length)) (h1 : x.sides.length ≤ 1000) (h2 : x.need.length ≤ 1000) : y.sides.length ≤ 1000 ∧ y.need.length ≤ 1000 := by
  rcases h with ⟨a, b⟩ | ⟨_, _, _, a, b⟩
  · rw [a, b]; simp
  · rw [a, b]; exact ⟨h1, h2⟩
set_option maxRecDepth 100000 in
set_option maxHeartbeats 16000000 in
theorem drinkHas_any (w : World) (id ph th : Int) (ao : Option Addr) (c : Nat) (na : Option Addr) (nc : Nat) (L : List Sd) (N : List Int) (peer ep : Int) (h : Sl w (.slice ao L.length c) L) (hN : Sl w (.slice na N.length nc) N) :
    Calls Try.prog 7 #[.agg #[.int .i64 id, .int .i64 ph, .slice ao L.length c, .int .i64 th, .slice na N.length nc], .int .i64 peer, .int .i64 ep] w fun e w' => e = .returned (.bool true) ∧ Ext w w' := by
  have hlen := h.length_le
  have hlenN := hN.length_le
  obtain ⟨W0, hW0⟩ : ∃ W0, W0 = (w.alloc (.cells #[.int .i64 id, .int .i64 ph, .slice ao L.length c, .int .i64 th, .slice na N.length nc] 29)) := ⟨_, rfl⟩
  have X0 : Hid (Ext w W0) := Lib.hid (hW0 ▸ (Ext.refl w).alloc _)
  have D0 : Hid (W0.heap[w.heap.size]? = some (.cells #[.int .i64 id, .int .i64 ph, .slice ao L.length c, .int .i64 th, .slice na N.length nc] 29 (0, 0))) := Lib.hid (hW0 ▸ at0 w _)
  have HW0 := Lib.hid hW0
  have HS := Lib.hid (h.ext X0.out)
  have HN := Lib.hid (hN.ext X0.out)
  clear h hN hW0
  obtain ⟨⟨d0, d1, d2⟩, d3, d4⟩ := cells5 D0.out
  obtain ⟨t70, h70⟩ : ∃ t, (decide (L.length ≤ 70) && decide (N.length ≤ 70)) = t := ⟨_, rfl⟩
  have H70 := Lib.hid h70
  clear h70
  go_enter Try.func7, Try.ntmps7
  go_upto_region 1 with (fail)
  rw [← HW0.out]
  cases t70
  · go_wp2_with (first
      | (go_at_call 10; have hgd := XB; refine (awake_any _).mono ?_; rintro e wc ⟨rfl, hx⟩; have XC : Hid (Ext W0 wc) := Lib.hid (XB.out.trans hx); clear hx hgd)
      | (go_at_call 10; refine (awake_any W0).mono ?_; rintro e wa ⟨rfl, hx⟩; have XA : Hid (Ext W0 wa) := Lib.hid hx; clear d0 d1 d2 d3 d4; obtain ⟨⟨d0, d1, d2⟩, d3, d4⟩ := cells5 (keepU D0.out hx); clear hx)
      | (go_at_call 11; refine (dkFew_any wa id ph th _ _ L N (HS.out.ext XA.out) (HN.out.ext XA.out) _ H70.out).mono ?_; rintro e wb ⟨rfl, hx⟩; have hx := Ext.trans XA.out hx; have XB : Hid (Ext W0 wb) := Lib.hid hx; clear d0 d1 d2 d3 d4; obtain ⟨⟨d0, d1, d2⟩, d3, d4⟩ := cells5 (keepU D0.out hx); clear hx))
    go_ret
    exact ⟨rfl, X0.out.trans XC.out⟩
  have h70 := H70.out
  simp only [Bool.and_eq_true, decide_eq_true_eq] at h70
  have hL : L.length ≤ 1000 := by omega
  have hNl : N.length ≤ 1000 := by omega
  clear h70
  by_cases hth : th = 2
  · have t2' : (th == 2) = true := by simp [hth]
    clear hth
    go_wp2_with (first
      | (go_at_call 10; have hgd := XB; refine (awake_any _).mono ?_; rintro e wc ⟨rfl, hx⟩; have XC : Hid (Ext W0 wc) := Lib.hid (XB.out.trans hx); clear hx hgd)
      | (go_at_call 10; refine (awake_any W0).mono ?_; rintro e wa ⟨rfl, hx⟩; have XA : Hid (Ext W0 wa) := Lib.hid hx; clear d0 d1 d2 d3 d4; obtain ⟨⟨d0, d1, d2⟩, d3, d4⟩ := cells5 (keepU D0.out hx); clear hx)
      | (go_at_call 11; refine (dkFew_any wa id ph th _ _ L N (HS.out.ext XA.out) (HN.out.ext XA.out) _ H70.out).mono ?_; rintro e wb ⟨rfl, hx⟩; have hx := Ext.trans XA.out hx; have XB : Hid (Ext W0 wb) := Lib.hid hx; clear d0 d1 d2 d3 d4; obtain ⟨⟨d0, d1, d2⟩, d3, d4⟩ := cells5 (keepU D0.out hx); clear hx))
    go_ret
    exact ⟨rfl, X0.out.trans XC.out⟩
  have t2' : (th == 2) = false := by simp [hth]
  have HTH := Lib.hid hth
  clear hth
  obtain ⟨tc, htc⟩ : ∃ t, chkK ⟨id, ph, L, th, N⟩ = t := ⟨_, rfl⟩
  have HTC := Lib.hid htc
  clear htc
  go_upto_region 3 with (first
    | (go_at_call 10; refine (awake_any W0).mono ?_; rintro e wa ⟨rfl, hx⟩; have XA : Hid (Ext W0 wa) := Lib.hid hx; clear d0 d1 d2 d3 d4; obtain ⟨⟨d0, d1, d2⟩, d3, d4⟩ := cells5 (keepU D0.out hx); clear hx)
    | (go_at_call 11; refine (dkFew_any wa id ph th _ _ L N (HS.out.ext XA.out) (HN.out.ext XA.out) _ H70.out).mono ?_; rintro e wb ⟨rfl, hx⟩; have hx := Ext.trans XA.out hx; have XB : Hid (Ext W0 wb) := Lib.hid hx; clear d0 d1 d2 d3 d4; obtain ⟨⟨d0, d1, d2⟩, d3, d4⟩ := cells5 (keepU D0.out hx); clear hx))
  cases tc
  · have HR := Lib.hid (show fireKR ⟨id, ph, L, th, N⟩ = (noK, [], 150) by unfold fireKR; rw [HTC.out]; rfl)
    go_upto_region 4 with (first
      | (go_at_call 13; refine (dkOwn_any wb id ph th _ _ L N (HS.out.ext XB.out) (HN.out.ext XB.out) hL hNl).mono ?_; rintro e w1 ⟨v1, u1, rfl, s1, q1, x1⟩; obtain ⟨a1, c1, rfl⟩ := s1.len; obtain ⟨b1, e1, rfl⟩ := q1.len; have HSd1 := Lib.hid s1; have HNd1 := Lib.hid q1; have X1 : Hid (Ext W0 w1) := Lib.hid (Ext.trans XB.out x1); clear s1 q1 x1)
      | (go_at_call 12; refine (HR.out ▸ fireK_any w1 id ph th _ _ L N HSd1.out HNd1.out hL hNl : Calls Try.prog 12 #[.agg #[.int .i64 id, .int .i64 ph, .slice a1 L.length c1, .int .i64 th, .slice b1 N.length e1]] w1 (GivesFD w1 (noK, [], 150))).mono ?_; rintro e w2 ⟨v2, u2, l2, rfl, s2, q2, m2, x2, _⟩; obtain ⟨a2, c2, rfl⟩ := s2.len; obtain ⟨b2, e2, rfl⟩ := q2.len; obtain ⟨l2, j2, rfl⟩ := m2.len; have HSd2 := Lib.hid s2; have HNd2 := Lib.hid q2; have HMd2 := Lib.hid m2; have X2 : Hid (Ext W0 w2) := Lib.hid (Ext.trans X1.out x2); clear s2 q2 m2 x2))
    go_wp2
    go_ret
    exact ⟨rfl, X0.out.trans (X2.out.alloc _)⟩
  obtain ⟨⟨⟨i1, p1, S1, t1, P1⟩, M1⟩, hx⟩ : ∃ r, fireAll ⟨id, ph, L, th, N⟩ = r := ⟨_, rfl⟩
  have HR1 := Lib.hid (show fireKR ⟨id, ph, L, th, N⟩ = (⟨i1, p1, S1, t1, P1⟩, M1, 0) by unfold fireKR; rw [if_pos HTC.out, hx])
  have HX1 := Lib.hid hx
  clear hx
  go_upto_region 4 with (first
    | (go_at_call 13; refine (dkOwn_any wb id ph th _ _ L N (HS.out.ext XB.out) (HN.out.ext XB.out) hL hNl).mono ?_; rintro e w1 ⟨v1, u1, rfl, s1, q1, x1⟩; obtain ⟨a1, c1, rfl⟩ := s1.len; obtain ⟨b1, e1, rfl⟩ := q1.len; have HSd1 := Lib.hid s1; have HNd1 := Lib.hid q1; have X1 : Hid (Ext W0 w1) := Lib.hid (Ext.trans XB.out x1); clear s1 q1 x1)
    | (go_at_call 12; refine (HR1.out ▸ fireK_any w1 id ph th _ _ L N HSd1.out HNd1.out hL hNl : Calls Try.prog 12 #[.agg #[.int .i64 id, .int .i64 ph, .slice a1 L.length c1, .int .i64 th, .slice b1 N.length e1]] w1 (GivesFD w1 (⟨i1, p1, S1, t1, P1⟩, M1, 0))).mono ?_; rintro e w3 ⟨v3, u3, l3, rfl, s3, q3, m3, x3, _⟩; obtain ⟨a3, c3, rfl⟩ := s3.len; obtain ⟨b3, e3, rfl⟩ := q3.len; obtain ⟨l3, j3, rfl⟩ := m3.len; have HSd3 := Lib.hid s3; have HNd3 := Lib.hid q3; have HMd3 := Lib.hid m3; have X3 : Hid (Ext W0 w3) := Lib.hid (Ext.trans X1.out x3); clear s3 q3 m3 x3))
  obtain ⟨g3, hg3⟩ : ∃ g, g = w3.heap.size := ⟨_, rfl⟩
  obtain ⟨W3, hW3⟩ : ∃ W, W = w3.alloc (.cells #[.int .i64 i1, .int .i64 p1, .slice a3 S1.length c3, .int .i64 t1, .slice b3 P1.length e3] 29) := ⟨_, rfl⟩
  have XW3 : Hid (Ext W0 W3) := Lib.hid (hW3 ▸ X3.out.alloc _)
  have Bg3 : Hid (W3.heap[g3]? = some (.cells #[.int .i64 i1, .int .i64 p1, .slice a3 S1.length c3, .int .i64 t1, .slice b3 P1.length e3] 29 (0, 0))) := Lib.hid (by rw [hW3, hg3]; exact at0 w3 _)
  have SA3 := Lib.hid (hW3 ▸ HSd3.out.alloc _ : Sl W3 (.slice a3 S1.length c3) S1)
  have QA3 := Lib.hid (hW3 ▸ HNd3.out.alloc _ : Sl W3 (.slice b3 P1.length e3) P1)
  rw [← hW3, ← hg3]
  clear hW3 hg3
  clear d0 d1 d2 d3 d4
  obtain ⟨⟨k0, k1, k2⟩, k3, k4⟩ := cells5 Bg3.out
  by_cases ht : t1 = 2
  case neg =>
    have q2 : (t1 != 2) = true := by simp [ht]
    clear ht
    go_wp2
    go_ret
    exact ⟨rfl, X0.out.trans XW3.out⟩
  obtain ⟨hd1, hd2, hd3, hd4, hd5⟩ := has_start HTC.out HTH.out HX1.out ht
  dsimp only at hd1 hd2 hd3 hd4 hd5
  have q2 : (t1 != 2) = false := by simp [ht]
  have HT1 := Lib.hid ht
  obtain ⟨⟨⟨i2, p2, S2, t2, P2⟩, er2⟩, hg⟩ : ∃ r, getK ⟨i1, p1, S1, t1, P1⟩ peer 4 ep 0 = r := ⟨_, rfl⟩
  obtain ⟨⟨⟨i3, p3, S3, t3, P3⟩, M3, er3⟩, hz⟩ : ∃ r, fireKR ⟨i2, p2, S2, t2, P2⟩ = r := ⟨_, rfl⟩
  have hway := ask_way hd3 ht hd4 hg
  have HLE := Lib.hid (len_of hway (by dsimp only; omega) (by dsimp only; rw [hd2]; exact hNl))
  dsimp only at HLE
  have HS1 : Hid (S1.length ≤ 1000) := Lib.hid (by omega)
  have HP1 : Hid (P1.length ≤ 1000) := Lib.hid (by rw [hd2]; exact hNl)
  have HA : Hid (∀ p ∈ P1, ∃ s, sideR S1 p = (s, true) ∧ s.bottle = true) := Lib.hid (fun p hp => side_has (d := ⟨i1, p1, S1, t1, P1⟩) hd3 hd4 hp)
  have HB : Hid (S2.length = 0 ∨ ∀ p ∈ P1, ∃ s, sideR S3 p = (s, true) ∧ s.bottle = true) := Lib.hid (by
    rcases hway with ⟨a, _⟩ | ⟨a, b, c, e, _⟩
    · dsimp only at a; exact .inl (by rw [a]; rfl)
    · right
      have := drinks_on a b c hz
      dsimp only at this e
      rw [e] at this
      exact this)
  have HR2 := Lib.hid hg
  have HR3 := Lib.hid hz
  have HD1 := Lib.hid hd1
  have HD2 := Lib.hid hd2
  clear ht hd1 hd2 hd3 hd4 hd5 hg hz hway
  go_upto_region 6 with (fail)
  go_upto_region 7 with (first
    | (go_at_call 13; refine (dkOwn_any W3 i1 p1 t1 _ _ S1 P1 (SA3.out) (QA3.out) HS1.out HP1.out).mono ?_; rintro e w4 ⟨v4, u4, rfl, s4, q4, x4⟩; obtain ⟨a4, c4, rfl⟩ := s4.len; obtain ⟨b4, e4, rfl⟩ := q4.len; have HSd4 := Lib.hid s4; have HNd4 := Lib.hid q4; have X4 : Hid (Ext W0 w4) := Lib.hid (Ext.trans XW3.out x4); have Y4 := Lib.hid x4; clear s4 q4 x4)
    | (go_at_call 20; refine (HR2.out ▸ dkGet_any w4 i1 p1 t1 peer 4 ep 0 _ _ S1 P1 HSd4.out HNd4.out HS1.out HP1.out : Calls Try.prog 20 #[.agg #[.int .i64 i1, .int .i64 p1, .slice a4 S1.length c4, .int .i64 t1, .slice b4 P1.length e4], .int .i64 peer, .agg #[.int .i64 4, .int .i64 ep, .int .i64 0]] w4 (GivesDN w4 (⟨i2, p2, S2, t2, P2⟩, er2))).mono ?_; rintro e w5 ⟨v5, u5, rfl, s5, q5, x5, _⟩; obtain ⟨a5, c5, rfl⟩ := s5.len; obtain ⟨b5, e5, rfl⟩ := q5.len; have HSd5 := Lib.hid s5; have HNd5 := Lib.hid q5; have X5 : Hid (Ext W0 w5) := Lib.hid (Ext.trans X4.out x5); have Y5 := Lib.hid (Y4.out.trans x5); clear s5 q5 x5))
  obtain ⟨g5, hg5⟩ : ∃ g, g = w5.heap.size := ⟨_, rfl⟩
  obtain ⟨W5, hW5⟩ : ∃ W, W = w5.alloc (.cells #[.int .i64 i2, .int .i64 p2, .slice a5 S2.length c5, .int .i64 t2, .slice b5 P2.length e5] 29) := ⟨_, rfl⟩
  have XW5 : Hid (Ext W0 W5) := Lib.hid (hW5 ▸ X5.out.alloc _)
  have Bg5 : Hid (W5.heap[g5]? = some (.cells #[.int .i64 i2, .int .i64 p2, .slice a5 S2.length c5, .int .i64 t2, .slice b5 P2.length e5] 29 (0, 0))) := Lib.hid (by rw [hW5, hg5]; exact at0 w5 _)
  have SA5 := Lib.hid (hW5 ▸ HSd5.out.alloc _ : Sl W5 (.slice a5 S2.length c5) S2)
  have QA5 := Lib.hid (hW5 ▸ HNd5.out.alloc _ : Sl W5 (.slice b5 P2.length e5) P2)
  have Z35 := Lib.hid (hW5 ▸ Y5.out.alloc _ : Ext W3 W5)
  rw [← hW5, ← hg5]
  clear hW5 hg5
  clear k0 k1 k2 k3 k4
  obtain ⟨⟨k0, k1, k2⟩, k3, k4⟩ := cells5 Bg5.out
  go_upto_region 8 with (first
    | (go_at_call 13; refine (dkOwn_any W5 i2 p2 t2 _ _ S2 P2 (SA5.out) (QA5.out) HLE.out.1 HLE.out.2).mono ?_; rintro e w6 ⟨v6, u6, rfl, s6, q6, x6⟩; obtain ⟨a6, c6, rfl⟩ := s6.len; obtain ⟨b6, e6, rfl⟩ := q6.len; have HSd6 := Lib.hid s6; have HNd6 := Lib.hid q6; have X6 : Hid (Ext W0 w6) := Lib.hid (Ext.trans XW5.out x6); have Y6 := Lib.hid x6; clear s6 q6 x6)
    | (go_at_call 12; refine (HR3.out ▸ fireK_any w6 i2 p2 t2 _ _ S2 P2 HSd6.out HNd6.out HLE.out.1 HLE.out.2 : Calls Try.prog 12 #[.agg #[.int .i64 i2, .int .i64 p2, .slice a6 S2.length c6, .int .i64 t2, .slice b6 P2.length e6]] w6 (GivesFD w6 (⟨i3, p3, S3, t3, P3⟩, M3, er3))).mono ?_; rintro e w7 ⟨v7, u7, l7, rfl, s7, q7, m7, x7, _⟩; obtain ⟨a7, c7, rfl⟩ := s7.len; obtain ⟨b7, e7, rfl⟩ := q7.len; obtain ⟨l7, j7, rfl⟩ := m7.len; have HSd7 := Lib.hid s7; have HNd7 := Lib.hid q7; have HMd7 := Lib.hid m7; have X7 : Hid (Ext W0 w7) := Lib.hid (Ext.trans X6.out x7); have Y7 := Lib.hid (Y6.out.trans x7); clear s7 q7 m7 x7))
  obtain ⟨g7, hg7⟩ : ∃ g, g = w7.heap.size := ⟨_, rfl⟩
  obtain ⟨W7, hW7⟩ : ∃ W, W = w7.alloc (.cells #[.int .i64 i3, .int .i64 p3, .slice a7 S3.length c7, .int .i64 t3, .slice b7 P3.length e7] 29) := ⟨_, rfl⟩
  have XW7 : Hid (Ext W0 W7) := Lib.hid (hW7 ▸ X7.out.alloc _)
  have Bg7 : Hid (W7.heap[g7]? = some (.cells #[.int .i64 i3, .int .i64 p3, .slice a7 S3.length c7, .int .i64 t3, .slice b7 P3.length e7] 29 (0, 0))) := Lib.hid (by rw [hW7, hg7]; exact at0 w7 _)
  have SA7 := Lib.hid (hW7 ▸ HSd7.out.alloc _ : Sl W7 (.slice a7 S3.length c7) S3)
  have QA7 := Lib.hid (hW7 ▸ HNd7.out.alloc _ : Sl W7 (.slice b7 P3.length e7) P3)
  have Z57 := Lib.hid (hW7 ▸ Y7.out.alloc _ : Ext W5 W7)
  rw [← hW7, ← hg7]
  clear hW7 hg7
  clear k0 k1 k2 k3 k4
  have Z37 := Lib.hid (Z35.out.trans Z57.out)
  have HK3 : Hid (∀ V, Ext W7 V → _) := Lib.hid fun V hV => cells5 (keepU (keepU Bg3.out Z37.out) hV)
  have HK5 : Hid (∀ V, Ext W7 V → _) := Lib.hid fun V hV => cells5 (keepU (keepU Bg5.out Z57.out) hV)
  have HK7 : Hid (∀ V, Ext W7 V → _) := Lib.hid fun V hV => cells5 (keepU Bg7.out hV)
  have HKD : Hid (∀ V, Ext W7 V → _) := Lib.hid fun V hV => cells5 (keepU (keepU D0.out XW7.out) hV)
  have SB3 := Lib.hid (SA3.out.ext Z37.out)
  have QB3 := Lib.hid (QA3.out.ext Z37.out)
  have NBD := Lib.hid (HN.out.ext XW7.out)
  obtain ⟨⟨k0, k1, k2⟩, k3, k4⟩ := cells5 (keepU Bg3.out Z37.out)
  go_wp2
  go_loopw [15] (fun i wr => ∃ k : Nat, k ≤ P1.length ∧ i = .int .i64 k ∧ Hid (Ext W7 wr)) (fun i _ => P1.length - (intOf i).toNat)
  case atStart => exact ⟨0, Nat.zero_le _, rfl, Lib.hid (Ext.refl _)⟩
  case round =>
    obtain ⟨k, hk, rfl, HX⟩ := hrel
    clear k0 k1 k2 k3 k4
    obtain ⟨⟨k0, k1, k2⟩, k3, k4⟩ := HK3.out wr HX.out
    by_cases hlt : k < P1.length
    · rcases QB3.out.ints with ⟨e, _⟩ | ⟨b1, off, c', e, hnc, hc63, hb, hpos, hcell⟩
      · rw [e] at hlt; exact absurd hlt (Nat.not_lt_zero _)
      simp only [Value.slice.injEq] at e
      obtain ⟨rfl, _, rfl⟩ := e
      obtain ⟨y, hy⟩ : ∃ y, y = P1.getD k 0 := ⟨_, rfl⟩
      have HCY : Hid (∀ V, Ext W7 V → V.cell? ⟨b1, off + k, none⟩ = some (.int .i64 y)) := Lib.hid fun V hV => by rw [hy]; exact (Below.cell hV (p := ⟨b1, off + k, none⟩) hb).trans (hcell k hlt)
      have hyP : y ∈ P1 := by rw [hy]; exact getD_mem hlt
      obtain ⟨⟨y0, y1, y2, y3, y4, y5, y6, y7⟩, hs1, hs2⟩ := HA.out y hyP
      dsimp only at hs2
      subst hs2
      obtain ⟨⟨⟨z0, z1, z2, z3, z4, z5, z6, z7⟩, zb⟩, hz⟩ : ∃ r, sideR S3 y = r := ⟨_, rfl⟩
      have HZB : Hid (S2.length = 0 ∨ zb = true ∧ z6 = true) := Lib.hid (by
        rcases HB.out with e | e
        · exact .inl e
        · obtain ⟨s, h1, h2⟩ := e y hyP
          rw [hz] at h1
          simp only [Prod.mk.injEq] at h1
          obtain ⟨rfl, rfl⟩ := h1
          exact .inr ⟨rfl, h2⟩)
      have HSA : Hid (∀ V, Ext wr V → Calls Try.prog 27 #[.agg #[.int .i64 i1, .int .i64 p1, .slice a3 S1.length c3], .int .i64 y] V fun e w' => e = .returned (.tuple #[.agg #[.int .i64 y0, .int .i64 y1, .int .i64 y2, .bool y3, .bool y4, .bool y5, .bool true, .bool y7], .bool true]) ∧ Ext V w') := Lib.hid fun V hV => refSide_any V i1 p1 _ S1 y (SB3.out.ext (HX.out.trans hV)) _ _ hs1
      have HSB0 : Hid (∀ V, Ext W7 V → Calls Try.prog 27 #[.agg #[.int .i64 i3, .int .i64 p3, .slice a7 S3.length c7], .int .i64 y] V fun e w' => e = .returned (.tuple #[.agg #[.int .i64 z0, .int .i64 z1, .int .i64 z2, .bool z3, .bool z4, .bool z5, .bool z6, .bool z7], .bool zb]) ∧ Ext V w') := Lib.hid fun V hV => refSide_any V i3 p3 _ S3 y (SA7.out.ext hV) _ _ hz
      clear hy hyP hs1 hz hcell hpos
      go_upto_region 11 with (fail)
      clear k0 k1 k2 k3 k4
      go_cut [16, 17] (fun s16 s17 wx => ∃ g, s16 = .pointer (some ⟨g, 0, none⟩) ∧ s17 = .bool true ∧ Hid (wx.heap[g]? = some (.cells #[.int .i64 y0, .int .i64 y1, .int .i64 y2, .bool y3, .bool y4, .bool y5, .bool true, .bool y7] 53 (0, 0))) ∧ Hid (Ext wr wx) ∧ wr.heap.size ≤ g)
      case first =>
        (refine wp_region_X_lit (K := fun V => Ext wr V) (by kernel_rfl) (fun w1 hw1 => ?_))
        have XZ : Hid (Ext wr w1) := Lib.hid hw1
        clear hw1
        refine xtv 0 (h := ?_)
        refine xtv 1 (hv := by intro w' hw'; obtain ⟨⟨k0, k1, k2⟩, k3, k4⟩ := HK3.out w' (HX.out.trans hw'); go_simp; first | done | with_reducible rfl) (h := ?_)
        refine xtv 2 (h := ?_)
        refine xtv 3 (hv := by intro w' hw'; obtain ⟨⟨k0, k1, k2⟩, k3, k4⟩ := HK3.out w' (HX.out.trans hw'); go_simp; first | done | with_reducible rfl) (h := ?_)
        refine xtv 4 (h := ?_)
        refine xtv 5 (h := ?_)
        refine xtv 6 (hv := by intro w' hw'; have hc := HCY.out w' (HX.out.trans hw'); go_simp; first | done | with_reducible rfl) (h := ?_)
        refine xtwo 7 11 (hk := XZ.out) (h := RunX.of 7 (h := ?_)) (h' := RunX.of 11 (h := ?_))
        · go_simp
          refine (HSA.out w1 XZ.out).mono ?_
          rintro e6' w6 ⟨rfl, x6⟩
          have X6' : Hid (Ext wr w6) := Lib.hid (Ext.trans XZ.out x6)
          have Y6' := Lib.hid x6
          clear x6
          dsimp only
          (try (simp only [Act.put, List.setIfInBounds_toArray, List.set]))
          refine xtv 8 (h := ?_)
          refine xtv 9 (h := ?_)
          refine xtv 10 (h := ?_)
          refine xone 11 (hk := X6'.out) (h := RunX.of 11 (h := ?_))
          go_simp
          (try (simp only [Act.put, List.setIfInBounds_toArray, List.set]))
          obtain ⟨gx, hgx⟩ : ∃ g, g = w6.heap.size := ⟨_, rfl⟩
          obtain ⟨w7, hw7⟩ : ∃ q, q = w6.alloc (.cells #[.int .i64 0, .int .i64 0, .int .i64 0, .bool false, .bool false, .bool false, .bool false, .bool false] 53) := ⟨_, rfl⟩
          have B7 : Hid (w7.heap[gx]? = some (.cells #[.int .i64 0, .int .i64 0, .int .i64 0, .bool false, .bool false, .bool false, .bool false, .bool false] 53 (0, 0))) := Lib.hid (hw7 ▸ hgx ▸ at0 w6 _)
          have X7' : Hid (Ext wr w7) := Lib.hid (hw7 ▸ X6'.out.alloc _)
          have hgw : wr.heap.size ≤ gx := hgx ▸ Below.size X6'.out
          rw [← hw7, ← hgx]
          clear hw7 hgx
          refine xone 12 (hk := X7'.out) (h := RunX.of 12 (h := ?_))
          refine wp_st 53 (.tmp 16) (.tmp 79) rfl gx 0 53 #[.int .i64 0, .int .i64 0, .int .i64 0, .bool false, .bool false, .bool false, .bool false, .bool false] #[.int .i64 y0, .int .i64 y1, .int .i64 y2, .bool y3, .bool y4, .bool y5, .bool true, .bool y7] #[.int .i64 y0, .int .i64 y1, .int .i64 y2, .bool y3, .bool y4, .bool y5, .bool true, .bool y7] rfl rfl B7.out (by kernel_rfl) (by simp) rfl rfl ?_
          intro WB hWB oB
          simp only [Act.put]
          have YB : Hid (Ext wr WB) := Lib.hid (ext_off X7'.out oB (fun b hb => by omega))
          have RB := Lib.hid hWB
          clear hWB oB
          refine xtv 13 (h := ?_)
          (refine xdone (by kernel_rfl) (YB.out) ?_)
          go_wp2_with fail
          go_meet
          exact ⟨gx, rfl, rfl, RB, YB, hgw⟩
        · go_simp
          (try (simp only [Act.put, List.setIfInBounds_toArray, List.set]))
          obtain ⟨gx, hgx⟩ : ∃ g, g = w1.heap.size := ⟨_, rfl⟩
          obtain ⟨w7, hw7⟩ : ∃ q, q = w1.alloc (.cells #[.int .i64 0, .int .i64 0, .int .i64 0, .bool false, .bool false, .bool false, .bool false, .bool false] 53) := ⟨_, rfl⟩
          have B7 : Hid (w7.heap[gx]? = some (.cells #[.int .i64 0, .int .i64 0, .int .i64 0, .bool false, .bool false, .bool false, .bool false, .bool false] 53 (0, 0))) := Lib.hid (hw7 ▸ hgx ▸ at0 w1 _)
          have X7' : Hid (Ext wr w7) := Lib.hid (hw7 ▸ XZ.out.alloc _)
          have hgw : wr.heap.size ≤ gx := hgx ▸ Below.size XZ.out
          rw [← hw7, ← hgx]
          clear hw7 hgx
          refine xone 7 (hk := X7'.out) (h := RunX.of 7 (h := ?_))
          go_simp
          refine (HSA.out w7 X7'.out).mono ?_
          rintro e6' w6 ⟨rfl, x6⟩
          have X6' : Hid (Ext wr w6) := Lib.hid (Ext.trans X7'.out x6)
          have Y6' := Lib.hid x6
          clear x6
          dsimp only
          (try (simp only [Act.put, List.setIfInBounds_toArray, List.set]))
          refine xtv 8 (h := ?_)
          refine xtv 9 (h := ?_)
          refine xtv 10 (h := ?_)
          refine xone 12 (hk := X6'.out) (h := RunX.of 12 (h := ?_))
          refine wp_st 53 (.tmp 16) (.tmp 79) rfl gx 0 53 #[.int .i64 0, .int .i64 0, .int .i64 0, .bool false, .bool false, .bool false, .bool false, .bool false] #[.int .i64 y0, .int .i64 y1, .int .i64 y2, .bool y3, .bool y4, .bool y5, .bool true, .bool y7] #[.int .i64 y0, .int .i64 y1, .int .i64 y2, .bool y3, .bool y4, .bool y5, .bool true, .bool y7] rfl rfl (keepU B7.out Y6'.out) (by kernel_rfl) (by simp) rfl rfl ?_
          intro WB hWB oB
          simp only [Act.put]
          have YB : Hid (Ext wr WB) := Lib.hid (ext_off X6'.out oB (fun b hb => by omega))
          have RB := Lib.hid hWB
          clear hWB oB
          refine xtv 13 (h := ?_)
          (refine xdone (by kernel_rfl) (YB.out) ?_)
          go_wp2_with fail
          go_meet
          exact ⟨gx, rfl, rfl, RB, YB, hgw⟩
      case rest =>
        obtain ⟨gA, rfl, rfl, HGA, XE0, hgA⟩ := hcut
        obtain ⟨wd, hwd⟩ : ∃ W, W = wc := ⟨_, rfl⟩
        rw [← hwd] at HGA XE0 ⊢
        have XE := XE0
        have HSB : Hid (∀ V, Ext wd V → _) := Lib.hid fun V hV => HSB0.out V ((HX.out.trans XE.out).trans hV)
        clear hwd
        go_upto_region 12 with (fail)
        go_cut [18, 19] (fun s18 s19 wx => ∃ g, s18 = .pointer (some ⟨g, 0, none⟩) ∧ s19 = .bool zb ∧ Hid (wx.heap[g]? = some (.cells #[.int .i64 z0, .int .i64 z1, .int .i64 z2, .bool z3, .bool z4, .bool z5, .bool z6, .bool z7] 53 (0, 0))) ∧ Hid (Ext wd wx) ∧ wd.heap.size ≤ g)
        case first =>
          (refine wp_region_X_lit (K := fun V => Ext wd V) (by kernel_rfl) (fun w1 hw1 => ?_))
          have XZ : Hid (Ext wd w1) := Lib.hid hw1
          clear hw1
          refine xtv 0 (h := ?_)
          refine xtv 1 (hv := by intro w' hw'; obtain ⟨⟨k0, k1, k2⟩, k3, k4⟩ := HK7.out w' ((HX.out.trans XE.out).trans hw'); go_simp; first | done | with_reducible rfl) (h := ?_)
          refine xtv 2 (h := ?_)
          refine xtv 3 (hv := by intro w' hw'; obtain ⟨⟨k0, k1, k2⟩, k3, k4⟩ := HK3.out w' ((HX.out.trans XE.out).trans hw'); go_simp; first | done | with_reducible rfl) (h := ?_)
          refine xtv 4 (h := ?_)
          refine xtv 5 (h := ?_)
          refine xtv 6 (hv := by intro w' hw'; have hc := HCY.out w' ((HX.out.trans XE.out).trans hw'); go_simp; first | done | with_reducible rfl) (h := ?_)
          refine xtwo 7 11 (hk := XZ.out) (h := RunX.of 7 (h := ?_)) (h' := RunX.of 11 (h := ?_))
          · go_simp
            refine (HSB.out w1 XZ.out).mono ?_
            rintro e6' w6 ⟨rfl, x6⟩
            have X6' : Hid (Ext wd w6) := Lib.hid (Ext.trans XZ.out x6)
            have Y6' := Lib.hid x6
            clear x6
            dsimp only
            (try (simp only [Act.put, List.setIfInBounds_toArray, List.set]))
            refine xtv 8 (h := ?_)
            refine xtv 9 (h := ?_)
            refine xtv 10 (h := ?_)
            refine xone 11 (hk := X6'.out) (h := RunX.of 11 (h := ?_))
            go_simp
            (try (simp only [Act.put, List.setIfInBounds_toArray, List.set]))
            obtain ⟨gx, hgx⟩ : ∃ g, g = w6.heap.size := ⟨_, rfl⟩
            obtain ⟨w7, hw7⟩ : ∃ q, q = w6.alloc (.cells #[.int .i64 0, .int .i64 0, .int .i64 0, .bool false, .bool false, .bool false, .bool false, .bool false] 53) := ⟨_, rfl⟩
            have B7 : Hid (w7.heap[gx]? = some (.cells #[.int .i64 0, .int .i64 0, .int .i64 0, .bool false, .bool false, .bool false, .bool false, .bool false] 53 (0, 0))) := Lib.hid (hw7 ▸ hgx ▸ at0 w6 _)
            have X7' : Hid (Ext wd w7) := Lib.hid (hw7 ▸ X6'.out.alloc _)
            have hgw : wd.heap.size ≤ gx := hgx ▸ Below.size X6'.out
            rw [← hw7, ← hgx]
            clear hw7 hgx
            refine xone 12 (hk := X7'.out) (h := RunX.of 12 (h := ?_))
            refine wp_st 53 (.tmp 18) (.tmp 90) rfl gx 0 53 #[.int .i64 0, .int .i64 0, .int .i64 0, .bool false, .bool false, .bool false, .bool false, .bool false] #[.int .i64 z0, .int .i64 z1, .int .i64 z2, .bool z3, .bool z4, .bool z5, .bool z6, .bool z7] #[.int .i64 z0, .int .i64 z1, .int .i64 z2, .bool z3, .bool z4, .bool z5, .bool z6, .bool z7] rfl rfl B7.out (by kernel_rfl) (by simp) rfl rfl ?_
            intro WB hWB oB
            simp only [Act.put]
            have YB : Hid (Ext wd WB) := Lib.hid (ext_off X7'.out oB (fun b hb => by omega))
            have RB := Lib.hid hWB
            clear hWB oB
            refine xtv 13 (h := ?_)
            (refine xdone (by kernel_rfl) (YB.out) ?_)
            go_wp2_with fail
            go_meet
            exact ⟨gx, rfl, rfl, RB, YB, hgw⟩
          · go_simp
            (try (simp only [Act.put, List.setIfInBounds_toArray, List.set]))
            obtain ⟨gx, hgx⟩ : ∃ g, g = w1.heap.size := ⟨_, rfl⟩
            obtain ⟨w7, hw7⟩ : ∃ q, q = w1.alloc (.cells #[.int .i64 0, .int .i64 0, .int .i64 0, .bool false, .bool false, .bool false, .bool false, .bool false] 53) := ⟨_, rfl⟩
            have B7 : Hid (w7.heap[gx]? = some (.cells #[.int .i64 0, .int .i64 0, .int .i64 0, .bool false, .bool false, .bool false, .bool false, .bool false] 53 (0, 0))) := Lib.hid (hw7 ▸ hgx ▸ at0 w1 _)
            have X7' : Hid (Ext wd w7) := Lib.hid (hw7 ▸ XZ.out.alloc _)
            have hgw : wd.heap.size ≤ gx := hgx ▸ Below.size XZ.out
            rw [← hw7, ← hgx]
            clear hw7 hgx
            refine xone 7 (hk := X7'.out) (h := RunX.of 7 (h := ?_))
            go_simp
            refine (HSB.out w7 X7'.out).mono ?_
            rintro e6' w6 ⟨rfl, x6⟩
            have X6' : Hid (Ext wd w6) := Lib.hid (Ext.trans X7'.out x6)
            have Y6' := Lib.hid x6
            clear x6
            dsimp only
            (try (simp only [Act.put, List.setIfInBounds_toArray, List.set]))
            refine xtv 8 (h := ?_)
            refine xtv 9 (h := ?_)
            refine xtv 10 (h := ?_)
            refine xone 12 (hk := X6'.out) (h := RunX.of 12 (h := ?_))
            refine wp_st 53 (.tmp 18) (.tmp 90) rfl gx 0 53 #[.int .i64 0, .int .i64 0, .int .i64 0, .bool false, .bool false, .bool false, .bool false, .bool false] #[.int .i64 z0, .int .i64 z1, .int .i64 z2, .bool z3, .bool z4, .bool z5, .bool z6, .bool z7] #[.int .i64 z0, .int .i64 z1, .int .i64 z2, .bool z3, .bool z4, .bool z5, .bool z6, .bool z7] rfl rfl (keepU B7.out Y6'.out) (by kernel_rfl) (by simp) rfl rfl ?_
            intro WB hWB oB
            simp only [Act.put]
            have YB : Hid (Ext wd WB) := Lib.hid (ext_off X6'.out oB (fun b hb => by omega))
            have RB := Lib.hid hWB
            clear hWB oB
            refine xtv 13 (h := ?_)
            (refine xdone (by kernel_rfl) (YB.out) ?_)
            go_wp2_with fail
            go_meet
            exact ⟨gx, rfl, rfl, RB, YB, hgw⟩
        case rest =>
          obtain ⟨gB, rfl, rfl, HGB, XF, hgB⟩ := hcut
          have XG := Lib.hid ((HX.out.trans XE.out).trans XF.out)
          obtain ⟨⟨⟨x0, x1⟩, x2, x3⟩, ⟨x4, x5⟩, x6, x7⟩ := cells8U (keepU HGA.out XF.out)
          obtain ⟨⟨⟨u0, u1⟩, u2, u3⟩, ⟨u4, u5⟩, u6, u7⟩ := cells8U HGB.out
          obtain ⟨⟨k0, k1, k2⟩, k3, k4⟩ := HK5.out _ XG.out
          obtain ⟨n2, hn2⟩ : ∃ n, n = S2.length := ⟨_, rfl⟩
          rw [← hn2] at k2 HZB
          clear hn2 x0 x1 x2 x3 x4 x5 x7 u0 u1 u2 u3 u4 u5 u7
          have hfin : ∀ e : Int, (e == 0) = true ∨ (e == 0) = false := fun e => by cases e == 0 <;> simp
          rcases hfin er3 with q3 | q3
          · rcases HZB.out with e | ⟨e1, e2⟩
            · subst e
              go_wp2
              go_roundw
              case rel => exact ⟨k + 1, by omega, by go_num, XG⟩
              case measure => simp [intOf]; omega
            · subst e1 e2
              go_wp2
              all_goals (
                go_roundw
                case rel => exact ⟨k + 1, by omega, by go_num, XG⟩
                case measure => simp [intOf]; omega)
          · go_wp2
            go_roundw
            case rel => exact ⟨k + 1, by omega, by go_num, XG⟩
            case measure => simp [intOf]; omega
    · have ht1 : (th == 1) = true := by have := HD1.out; simp [this]
      have hx9 : Hid (∀ V, Ext wr V → Calls Try.prog 28 #[.slice b3 P1.length e3, .slice na N.length nc] V fun e w' => e = .returned (.bool true) ∧ Drew V w') := Lib.hid fun V hV => refSame_val true V _ _ P1 N (QB3.out.ext (HX.out.trans hV)) (NBD.out.ext (HX.out.trans hV)) (by rw [HD2.out]; simp)
      obtain ⟨⟨d0, d1, d2⟩, d3, d4⟩ := HKD.out wr HX.out
      go_wp2_with (first
        | (go_at_call 28; refine (hx9.out wr (Ext.refl _)).mono ?_; rintro e w8 ⟨rfl, hx⟩; have X8 : Hid (Ext wr w8) := Lib.hid (Ext.of_drew hx); clear hx))
      go_ret
      exact ⟨rfl, X0.out.trans (XW7.out.trans (HX.out.trans X8.out))⟩
end Go.Proofs.Ytpjpjchnfllcmaa
