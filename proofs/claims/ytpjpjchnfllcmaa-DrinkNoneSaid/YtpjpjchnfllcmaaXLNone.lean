/- Layer 15, the laws: DrinkNone. -/
import Derived.Test.YtpjpjchnfllcmaaXF
import Derived.Test.YtpjpjchnfllcmaaXE
import Derived.Test.YtpjpjchnfllcmaaX7
import Derived.BigGuard
namespace Go.Proofs.Ytpjpjchnfllcmaa
open Go.RowKit

theorem open_none {id ph th : Int} {L : List Sd} {N : List Int} {i p t er i2 p2 t2 er2 : Int} {S S2 : List Sd} {P P2 : List Int} {M2 : List Ml} (h1 : openR ⟨id, ph, L, th, N⟩ [] = (⟨i, p, S, t, P⟩, er)) (h2 : fireKR ⟨i, p, S, t, P⟩ = (⟨i2, p2, S2, t2, P2⟩, M2, er2)) (hL : L.length ≤ 70) :
    S.length ≤ 1000 ∧ P.length ≤ 1000 ∧ (er = 0 → er2 = 0 ∧ t2 = 2 ∧ P2 = []) := by
  unfold openR at h1
  by_cases hc : chkK ⟨id, ph, L, th, N⟩ = true
  · rw [if_pos hc] at h1
    dsimp only at h1
    by_cases ht : th = 0
    · rw [if_neg (by simp [ht]), if_pos (by simp), norm_nil] at h1
      simp only [Prod.mk.injEq, Dk.mk.injEq] at h1
      obtain ⟨⟨rfl, rfl, rfl, rfl, rfl⟩, rfl⟩ := h1
      refine ⟨by omega, by simp, fun _ => ?_⟩
      have hk : chkK ⟨id, ph, L, 1, []⟩ = true := by
        have hd := chk_dn hc
        unfold chkK
        have : Dk.dn ⟨id, ph, L, 1, []⟩ = Dk.dn ⟨id, ph, L, th, N⟩ := rfl
        rw [this, hd]
        simp [riseB]
      unfold fireKR at h2
      rw [if_pos hk] at h2
      simp only [Prod.mk.injEq] at h2
      obtain ⟨e1, _, e3⟩ := h2
      have f1 := fire_none (d := ⟨id, ph, L, 1, []⟩) rfl rfl
      have f2 := (fire_id ⟨id, ph, L, 1, []⟩).2.1
      rw [e1] at f1 f2
      exact ⟨e3.symm, f1, f2⟩
    · rw [if_pos (by simpa using ht)] at h1
      simp only [noK, Prod.mk.injEq, Dk.mk.injEq] at h1
      obtain ⟨⟨_, _, rfl, _, rfl⟩, rfl⟩ := h1
      exact ⟨by simp, by simp, fun e => by omega⟩
  · rw [if_neg hc] at h1
    simp only [noK, Prod.mk.injEq, Dk.mk.injEq] at h1
    obtain ⟨⟨_, _, rfl, _, rfl⟩, rfl⟩ := h1
    exact ⟨by simp, by simp, fun e => by omega⟩
theorem close_none {id ph th : Int} {L : List Sd} {N : List Int} {i p t er : Int} {S : List Sd} {P : List Int} (h1 : closeR ⟨id, ph, L, th, N⟩ = (⟨i, p, S, t, P⟩, er)) : er = 0 → t = 0 ∧ P = [] ∧ th ≠ 0 := by
  intro he
  unfold closeR at h1
  by_cases hc : chkK ⟨id, ph, L, th, N⟩ = true
  · rw [if_pos hc] at h1
    dsimp only at h1
    by_cases ht : th = 0
    · rw [if_pos ht] at h1
      simp only [Prod.mk.injEq] at h1
      omega
    · rw [if_neg ht] at h1
      simp only [Prod.mk.injEq, Dk.mk.injEq] at h1
      exact ⟨h1.1.2.2.2.1.symm, h1.1.2.2.2.2.symm, ht⟩
  · rw [if_neg hc] at h1
    simp only [Prod.mk.injEq] at h1
    omega

set_option maxRecDepth 100000 in
set_option maxHeartbeats 16000000 in
theorem drinkNone_any (w : World) (id ph th : Int) (ao : Option Addr) (c : Nat) (na : Option Addr) (nc : Nat) (L : List Sd) (N : List Int) (h : Sl w (.slice ao L.length c) L) (hN : Sl w (.slice na N.length nc) N) :
    Calls Try.prog 9 #[.agg #[.int .i64 id, .int .i64 ph, .slice ao L.length c, .int .i64 th, .slice na N.length nc]] w fun e w' => e = .returned (.bool true) ∧ Ext w w' := by
  have hlen := h.length_le
  have hlenN := hN.length_le
  obtain ⟨W0, hW0⟩ : ∃ W0, W0 = (w.alloc (.cells #[.int .i64 id, .int .i64 ph, .slice ao L.length c, .int .i64 th, .slice na N.length nc] 29)) := ⟨_, rfl⟩
  have X0 : Hid (Ext w W0) := Lib.hid (hW0 ▸ (Ext.refl w).alloc _)
  have D0 : Hid (W0.heap[w.heap.size]? = some (.cells #[.int .i64 id, .int .i64 ph, .slice ao L.length c, .int .i64 th, .slice na N.length nc] 29 (0, 0))) := Lib.hid (hW0 ▸ at0 w _)
  have HW0 := Lib.hid hW0
  have HS := Lib.hid (h.ext X0.out)
  have HN := Lib.hid (hN.ext X0.out)
  clear h hN hW0
  obtain ⟨⟨d0, d1, d2⟩, d3, d4⟩ := cells5 D0.out
  obtain ⟨t70, h70⟩ : ∃ t, (decide (L.length ≤ 70) && decide (N.length ≤ 70)) = t := ⟨_, rfl⟩
  have H70 := Lib.hid h70
  clear h70
  go_enter Try.func9, Try.ntmps9
  go_upto_region 1 with (fail)
  rw [← HW0.out]
  cases t70
  · go_wp2_with (first
      | (go_at_call 10; have hgd := XB; refine (awake_any _).mono ?_; rintro e wc ⟨rfl, hx⟩; have XC : Hid (Ext W0 wc) := Lib.hid (XB.out.trans hx); clear hx hgd)
      | (go_at_call 10; refine (awake_any W0).mono ?_; rintro e wa ⟨rfl, hx⟩; have XA : Hid (Ext W0 wa) := Lib.hid hx; clear d0 d1 d2 d3 d4; obtain ⟨⟨d0, d1, d2⟩, d3, d4⟩ := cells5 (keepU D0.out hx); clear hx)
      | (go_at_call 11; refine (dkFew_any wa id ph th _ _ L N (HS.out.ext XA.out) (HN.out.ext XA.out) _ H70.out).mono ?_; rintro e wb ⟨rfl, hx⟩; have hx := Ext.trans XA.out hx; have XB : Hid (Ext W0 wb) := Lib.hid hx; clear d0 d1 d2 d3 d4; obtain ⟨⟨d0, d1, d2⟩, d3, d4⟩ := cells5 (keepU D0.out hx); clear hx))
    go_ret
    exact ⟨rfl, X0.out.trans XC.out⟩
  have h70 := H70.out
  simp only [Bool.and_eq_true, decide_eq_true_eq] at h70
  have hL : L.length ≤ 1000 := by omega
  have hNl : N.length ≤ 1000 := by omega
  have H70b : Hid (L.length ≤ 70) := Lib.hid h70.1
  clear h70
  obtain ⟨⟨⟨i1, p1, S1, t1, P1⟩, er1⟩, hr1⟩ : ∃ r, openR ⟨id, ph, L, th, N⟩ [] = r := ⟨_, rfl⟩
  obtain ⟨⟨⟨i2, p2, S2, t2, P2⟩, M2, er2⟩, hr2⟩ : ∃ r, fireKR ⟨i1, p1, S1, t1, P1⟩ = r := ⟨_, rfl⟩
  obtain ⟨⟨⟨i3, p3, S3, t3, P3⟩, er3⟩, hr3⟩ : ∃ r, closeR ⟨id, ph, L, th, N⟩ = r := ⟨_, rfl⟩
  have HR1 := Lib.hid hr1
  have HR2 := Lib.hid hr2
  have HR3 := Lib.hid hr3
  have HON := Lib.hid (open_none hr1 hr2 H70b.out)
  have HCL := Lib.hid (close_none hr3)
  clear hr1 hr2 hr3
  go_upto_region 3 with (first
    | (go_at_call 10; refine (awake_any W0).mono ?_; rintro e wa ⟨rfl, hx⟩; have XA : Hid (Ext W0 wa) := Lib.hid hx; clear d0 d1 d2 d3 d4; obtain ⟨⟨d0, d1, d2⟩, d3, d4⟩ := cells5 (keepU D0.out hx); clear hx)
    | (go_at_call 11; refine (dkFew_any wa id ph th _ _ L N (HS.out.ext XA.out) (HN.out.ext XA.out) _ H70.out).mono ?_; rintro e wb ⟨rfl, hx⟩; have hx := Ext.trans XA.out hx; have XB : Hid (Ext W0 wb) := Lib.hid hx; clear d0 d1 d2 d3 d4; obtain ⟨⟨d0, d1, d2⟩, d3, d4⟩ := cells5 (keepU D0.out hx); clear hx))
  go_upto_region 4 with (first
    | (go_at_call 13; refine (dkOwn_any wb id ph th _ _ L N (HS.out.ext XB.out) (HN.out.ext XB.out) hL hNl).mono ?_; rintro e w1 ⟨v1, u1, rfl, s1, q1, x1⟩; obtain ⟨a1, c1, rfl⟩ := s1.len; obtain ⟨b1, e1, rfl⟩ := q1.len; have HSd1 := Lib.hid s1; have HNd1 := Lib.hid q1; have X1 : Hid (Ext W0 w1) := Lib.hid (Ext.trans XB.out x1); clear s1 q1 x1)
    | (go_at_call 22; refine (HR1.out ▸ dkOpen_any w1 id ph th _ _ _ L N [] HSd1.out HNd1.out (slNoneU _) hL (by simp) : Calls Try.prog 22 #[.agg #[.int .i64 id, .int .i64 ph, .slice a1 L.length c1, .int .i64 th, .slice b1 N.length e1], .slice none 0 0] w1 (GivesDN w1 (⟨i1, p1, S1, t1, P1⟩, er1))).mono ?_; rintro e w3 ⟨v3, u3, rfl, s3, q3, x3, _⟩; obtain ⟨a3, c3, rfl⟩ := s3.len; obtain ⟨b3, e3, rfl⟩ := q3.len; have HSd3 := Lib.hid s3; have HNd3 := Lib.hid q3; have X3 : Hid (Ext W0 w3) := Lib.hid (Ext.trans X1.out x3); clear s3 q3 x3))
  obtain ⟨g3, hg3⟩ : ∃ g, g = w3.heap.size := ⟨_, rfl⟩
  obtain ⟨W3, hW3⟩ : ∃ W, W = w3.alloc (.cells #[.int .i64 i1, .int .i64 p1, .slice a3 S1.length c3, .int .i64 t1, .slice b3 P1.length e3] 29) := ⟨_, rfl⟩
  have XW3 : Hid (Ext W0 W3) := Lib.hid (hW3 ▸ X3.out.alloc _)
  have Bg3 : Hid (W3.heap[g3]? = some (.cells #[.int .i64 i1, .int .i64 p1, .slice a3 S1.length c3, .int .i64 t1, .slice b3 P1.length e3] 29 (0, 0))) := Lib.hid (by rw [hW3, hg3]; exact at0 w3 _)
  have SA3 := Lib.hid (hW3 ▸ HSd3.out.alloc _ : Sl W3 (.slice a3 S1.length c3) S1)
  have QA3 := Lib.hid (hW3 ▸ HNd3.out.alloc _ : Sl W3 (.slice b3 P1.length e3) P1)
  rw [← hW3, ← hg3]
  clear hW3 hg3
  clear d0 d1 d2 d3 d4
  obtain ⟨⟨k0, k1, k2⟩, k3, k4⟩ := cells5 Bg3.out
  go_upto_region 5 with (first
    | (go_at_call 13; refine (dkOwn_any W3 i1 p1 t1 _ _ S1 P1 (SA3.out) (QA3.out) HON.out.1 HON.out.2.1).mono ?_; rintro e w4 ⟨v4, u4, rfl, s4, q4, x4⟩; obtain ⟨a4, c4, rfl⟩ := s4.len; obtain ⟨b4, e4, rfl⟩ := q4.len; have HSd4 := Lib.hid s4; have HNd4 := Lib.hid q4; have X4 : Hid (Ext W0 w4) := Lib.hid (Ext.trans XW3.out x4); have Y4 := Lib.hid x4; clear s4 q4 x4)
    | (go_at_call 12; refine (HR2.out ▸ fireK_any w4 i1 p1 t1 _ _ S1 P1 HSd4.out HNd4.out HON.out.1 HON.out.2.1 : Calls Try.prog 12 #[.agg #[.int .i64 i1, .int .i64 p1, .slice a4 S1.length c4, .int .i64 t1, .slice b4 P1.length e4]] w4 (GivesFD w4 (⟨i2, p2, S2, t2, P2⟩, M2, er2))).mono ?_; rintro e w5 ⟨v5, u5, l5, rfl, s5, q5, m5, x5, _⟩; obtain ⟨a5, c5, rfl⟩ := s5.len; obtain ⟨b5, e5, rfl⟩ := q5.len; obtain ⟨l5, j5, rfl⟩ := m5.len; have HSd5 := Lib.hid s5; have HNd5 := Lib.hid q5; have HMd5 := Lib.hid m5; have X5 : Hid (Ext W0 w5) := Lib.hid (Ext.trans X4.out x5); have Y5 := Lib.hid (Y4.out.trans x5); clear s5 q5 m5 x5))
  obtain ⟨g5, hg5⟩ : ∃ g, g = w5.heap.size := ⟨_, rfl⟩
  obtain ⟨W5, hW5⟩ : ∃ W, W = w5.alloc (.cells #[.int .i64 i2, .int .i64 p2, .slice a5 S2.length c5, .int .i64 t2, .slice b5 P2.length e5] 29) := ⟨_, rfl⟩
  have XW5 : Hid (Ext W0 W5) := Lib.hid (hW5 ▸ X5.out.alloc _)
  have Bg5 : Hid (W5.heap[g5]? = some (.cells #[.int .i64 i2, .int .i64 p2, .slice a5 S2.length c5, .int .i64 t2, .slice b5 P2.length e5] 29 (0, 0))) := Lib.hid (by rw [hW5, hg5]; exact at0 w5 _)
  have SA5 := Lib.hid (hW5 ▸ HSd5.out.alloc _ : Sl W5 (.slice a5 S2.length c5) S2)
  have QA5 := Lib.hid (hW5 ▸ HNd5.out.alloc _ : Sl W5 (.slice b5 P2.length e5) P2)
  rw [← hW5, ← hg5]
  clear hW5 hg5
  clear k0 k1 k2 k3 k4
  obtain ⟨⟨d0, d1, d2⟩, d3, d4⟩ := cells5 (keepU D0.out XW5.out)
  go_upto_region 6 with (first
    | (go_at_call 13; refine (dkOwn_any W5 id ph th _ _ L N (HS.out.ext XW5.out) (HN.out.ext XW5.out) hL hNl).mono ?_; rintro e w6 ⟨v6, u6, rfl, s6, q6, x6⟩; obtain ⟨a6, c6, rfl⟩ := s6.len; obtain ⟨b6, e6, rfl⟩ := q6.len; have HSd6 := Lib.hid s6; have HNd6 := Lib.hid q6; have X6 : Hid (Ext W0 w6) := Lib.hid (Ext.trans XW5.out x6); have Y6 := Lib.hid x6; clear s6 q6 x6)
    | (go_at_call 24; refine (HR3.out ▸ dkClose_any w6 id ph th _ _ L N HSd6.out HNd6.out hL : Calls Try.prog 24 #[.agg #[.int .i64 id, .int .i64 ph, .slice a6 L.length c6, .int .i64 th, .slice b6 N.length e6]] w6 (GivesDN w6 (⟨i3, p3, S3, t3, P3⟩, er3))).mono ?_; rintro e w7 ⟨v7, u7, rfl, s7, q7, x7, _⟩; obtain ⟨a7, c7, rfl⟩ := s7.len; obtain ⟨b7, e7, rfl⟩ := q7.len; have HSd7 := Lib.hid s7; have HNd7 := Lib.hid q7; have X7 : Hid (Ext W0 w7) := Lib.hid (Ext.trans X6.out x7); have Y7 := Lib.hid (Y6.out.trans x7); clear s7 q7 x7))
  obtain ⟨g8, hg8⟩ : ∃ g, g = w7.heap.size := ⟨_, rfl⟩
  obtain ⟨W8, hW8⟩ : ∃ W, W = w7.alloc (.cells #[.int .i64 i3, .int .i64 p3, .slice a7 S3.length c7, .int .i64 t3, .slice b7 P3.length e7] 29) := ⟨_, rfl⟩
  have XW8 : Hid (Ext W0 W8) := Lib.hid (hW8 ▸ X7.out.alloc _)
  have Bg8 : Hid (W8.heap[g8]? = some (.cells #[.int .i64 i3, .int .i64 p3, .slice a7 S3.length c7, .int .i64 t3, .slice b7 P3.length e7] 29 (0, 0))) := Lib.hid (by rw [hW8, hg8]; exact at0 w7 _)
  have SA8 := Lib.hid (hW8 ▸ HSd7.out.alloc _ : Sl W8 (.slice a7 S3.length c7) S3)
  have QA8 := Lib.hid (hW8 ▸ HNd7.out.alloc _ : Sl W8 (.slice b7 P3.length e7) P3)
  have Z58 := Lib.hid (hW8 ▸ Y7.out.alloc _ : Ext W5 W8)
  rw [← hW8, ← hg8]
  clear hW8 hg8
  clear d0 d1 d2 d3 d4
  have HQ3 : Hid (er3 = 0 → t3 = 0 ∧ (P3.length = 0) ∧ th ≠ 0) := Lib.hid (fun e => by obtain ⟨q1, q2, q3⟩ := HCL.out e; exact ⟨q1, by rw [q2]; rfl, q3⟩)
  have HQ2 : Hid (er1 = 0 → er2 = 0 ∧ t2 = 2 ∧ P2.length = 0) := Lib.hid (fun e => by obtain ⟨q1, q2, q3⟩ := HON.out.2.2 e; exact ⟨q1, q2, by rw [q3]; rfl⟩)
  clear HCL HON SA3 QA3 SA5 QA5 SA8 QA8 HR1 HR2 HR3
  obtain ⟨⟨k0, k1, k2⟩, k3, k4⟩ := cells5 (keepU Bg5.out Z58.out)
  obtain ⟨⟨l0, l1, l2⟩, l3, l4⟩ := cells5 Bg8.out
  obtain ⟨⟨d0, d1, d2⟩, d3, d4⟩ := cells5 (keepU D0.out XW8.out)
  obtain ⟨n2, hn2⟩ : ∃ n, n = P2.length := ⟨_, rfl⟩
  obtain ⟨n3, hn3⟩ : ∃ n, n = P3.length := ⟨_, rfl⟩
  rw [← hn2] at k4 HQ2
  rw [← hn3] at l4 HQ3
  clear hn2 hn3
  by_cases e1 : er1 = 0
  · obtain ⟨rfl, rfl, rfl⟩ := HQ2.out e1
    have t1' : (er1 == 0) = true := by simpa using e1
    clear e1
    go_upto_region 8 with (fail)
    by_cases e3 : er3 = 0
    · have t3' : (er3 != 0) = false := by simp [e3]
      obtain ⟨rfl, rfl, hth⟩ := HQ3.out e3
      have t4' : (th != 0) = true := by simpa using hth
      clear e3 hth
      go_wp2
      go_ret
      exact ⟨rfl, X0.out.trans XW8.out⟩
    · have t3' : (er3 != 0) = true := by simpa using e3
      clear e3
      go_wp2
      go_ret
      exact ⟨rfl, X0.out.trans XW8.out⟩
  · have t1' : (er1 == 0) = false := by simpa using e1
    clear e1
    go_upto_region 8 with (fail)
    by_cases e3 : er3 = 0
    · have t3' : (er3 != 0) = false := by simp [e3]
      obtain ⟨rfl, rfl, hth⟩ := HQ3.out e3
      have t4' : (th != 0) = true := by simpa using hth
      clear e3 hth
      go_wp2
      go_ret
      exact ⟨rfl, X0.out.trans XW8.out⟩
    · have t3' : (er3 != 0) = true := by simpa using e3
      clear e3
      go_wp2
      go_ret
      exact ⟨rfl, X0.out.trans XW8.out⟩
end Go.Proofs.Ytpjpjchnfllcmaa
