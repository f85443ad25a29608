/- Layer 15, the laws: DrinkStill. -/
import Derived.Test.YtpjpjchnfllcmaaXF
import Derived.Test.YtpjpjchnfllcmaaXE
import Derived.Test.YtpjpjchnfllcmaaX7
import Derived.BigGuard
namespace Go.Proofs.Ytpjpjchnfllcmaa
open Go.RowKit

theorem still_all {d x : Dk} {M : List Ml} (hc : chkK d = true) (hx : fireAll d = (x, M)) : fireKR d = (x, M, 0) ∧ fireKR x = (x, [], 0) ∧ chkK x = true ∧ (onceK x).1 = x ∧ x.sides.length = d.sides.length ∧ x.need = d.need := by
  have h1 := fire_chk hc
  have h2 := fireAll_still (n := leftK d + 1) (d := d) (Nat.lt_succ_self _)
  have h3 := fire_id d
  rw [hx] at h1 h2 h3
  dsimp only at h1 h2 h3
  refine ⟨by unfold fireKR; rw [if_pos hc, hx], by unfold fireKR; rw [if_pos h1, fireAll_end h2], h1, h2, ?_, h3.2.1⟩
  have := congrArg List.length h3.2.2
  simpa using this
theorem fireKR_no {d : Dk} (hc : chkK d = false) : fireKR d = (noK, [], 150) := by unfold fireKR; rw [hc]; rfl
theorem still_bits {x : Dk} (h : (onceK x).1 = x) {k : Nat} {s : Sd} (hs : x.sides[k]? = some s) : (s.bottle && s.ask && !(decide (s.peer ∈ x.need) && ((x.thirst == 2) || ((x.thirst == 1) && s.fork)))) = false ∧ ((x.thirst == 1) && decide (s.peer ∈ x.need) && s.ask && !s.bottle) = false := by
  obtain ⟨h1, h2⟩ := still_side h (List.mem_of_getElem? hs)
  have e : ∀ a b : Int, (a == b) = decide (a = b) := fun a b => by by_cases q : a = b <;> simp [q]
  refine ⟨?_, ?_⟩
  · unfold pours keptB needsB at h1
    rw [e, e]; exact h1
  · unfold asks needsB at h2
    rw [e, ← h2]
    cases decide (x.thirst = 1) <;> cases decide (s.peer ∈ x.need) <;> rfl

set_option maxRecDepth 100000 in
set_option maxHeartbeats 16000000 in
theorem drinkStill_any (w : World) (id ph th : Int) (ao : Option Addr) (c : Nat) (na : Option Addr) (nc : Nat) (L : List Sd) (N : List Int) (h : Sl w (.slice ao L.length c) L) (hN : Sl w (.slice na N.length nc) N) :
    Calls Try.prog 6 #[.agg #[.int .i64 id, .int .i64 ph, .slice ao L.length c, .int .i64 th, .slice na N.length nc]] w fun e w' => e = .returned (.bool true) ∧ Ext w w' := by
  have hlen := h.length_le
  have hlenN := hN.length_le
  obtain ⟨W0, hW0⟩ : ∃ W0, W0 = (w.alloc (.cells #[.int .i64 id, .int .i64 ph, .slice ao L.length c, .int .i64 th, .slice na N.length nc] 29)) := ⟨_, rfl⟩
  have X0 : Hid (Ext w W0) := Lib.hid (hW0 ▸ (Ext.refl w).alloc _)
  have D0 : Hid (W0.heap[w.heap.size]? = some (.cells #[.int .i64 id, .int .i64 ph, .slice ao L.length c, .int .i64 th, .slice na N.length nc] 29 (0, 0))) := Lib.hid (hW0 ▸ at0 w _)
  have HW0 := Lib.hid hW0
  have HS := Lib.hid (h.ext X0.out)
  have HN := Lib.hid (hN.ext X0.out)
  clear h hN hW0
  obtain ⟨⟨d0, d1, d2⟩, d3, d4⟩ := cells5 D0.out
  obtain ⟨t70, h70⟩ : ∃ t, (decide (L.length ≤ 70) && decide (N.length ≤ 70)) = t := ⟨_, rfl⟩
  have H70 := Lib.hid h70
  clear h70
  go_enter Try.func6, Try.ntmps6
  go_upto_region 1 with (fail)
  rw [← HW0.out]
  cases t70
  · go_wp2_with (first
      | (go_at_call 10; have hgd := XB; refine (awake_any _).mono ?_; rintro e wc ⟨rfl, hx⟩; have XC : Hid (Ext W0 wc) := Lib.hid (XB.out.trans hx); clear hx hgd)
      | (go_at_call 10; refine (awake_any W0).mono ?_; rintro e wa ⟨rfl, hx⟩; have XA : Hid (Ext W0 wa) := Lib.hid hx; clear d0 d1 d2 d3 d4; obtain ⟨⟨d0, d1, d2⟩, d3, d4⟩ := cells5 (keepU D0.out hx); clear hx)
      | (go_at_call 11; refine (dkFew_any wa id ph th _ _ L N (HS.out.ext XA.out) (HN.out.ext XA.out) _ H70.out).mono ?_; rintro e wb ⟨rfl, hx⟩; have hx := Ext.trans XA.out hx; have XB : Hid (Ext W0 wb) := Lib.hid hx; clear d0 d1 d2 d3 d4; obtain ⟨⟨d0, d1, d2⟩, d3, d4⟩ := cells5 (keepU D0.out hx); clear hx))
    go_ret
    exact ⟨rfl, X0.out.trans XC.out⟩
  have h70 := H70.out
  simp only [Bool.and_eq_true, decide_eq_true_eq] at h70
  have hL : L.length ≤ 1000 := by omega
  have hNl : N.length ≤ 1000 := by omega
  clear h70
  obtain ⟨tc, htc⟩ : ∃ t, chkK ⟨id, ph, L, th, N⟩ = t := ⟨_, rfl⟩
  have HTC := Lib.hid htc
  clear htc
  go_upto_region 3 with (first
    | (go_at_call 10; refine (awake_any W0).mono ?_; rintro e wa ⟨rfl, hx⟩; have XA : Hid (Ext W0 wa) := Lib.hid hx; clear d0 d1 d2 d3 d4; obtain ⟨⟨d0, d1, d2⟩, d3, d4⟩ := cells5 (keepU D0.out hx); clear hx)
    | (go_at_call 11; refine (dkFew_any wa id ph th _ _ L N (HS.out.ext XA.out) (HN.out.ext XA.out) _ H70.out).mono ?_; rintro e wb ⟨rfl, hx⟩; have hx := Ext.trans XA.out hx; have XB : Hid (Ext W0 wb) := Lib.hid hx; clear d0 d1 d2 d3 d4; obtain ⟨⟨d0, d1, d2⟩, d3, d4⟩ := cells5 (keepU D0.out hx); clear hx))
  cases tc
  · have HR := Lib.hid (fireKR_no HTC.out)
    go_upto_region 5 with (first
      | (go_at_call 13; refine (dkOwn_any wb id ph th _ _ L N (HS.out.ext XB.out) (HN.out.ext XB.out) hL hNl).mono ?_; rintro e w1 ⟨v1, u1, rfl, s1, q1, x1⟩; obtain ⟨a1, c1, rfl⟩ := s1.len; obtain ⟨b1, e1, rfl⟩ := q1.len; have HSd1 := Lib.hid s1; have HNd1 := Lib.hid q1; have X1 : Hid (Ext W0 w1) := Lib.hid (Ext.trans XB.out x1); clear s1 q1 x1)
      | (go_at_call 12; refine (HR.out ▸ fireK_any w1 id ph th _ _ L N HSd1.out HNd1.out hL hNl : Calls Try.prog 12 #[.agg #[.int .i64 id, .int .i64 ph, .slice a1 L.length c1, .int .i64 th, .slice b1 N.length e1]] w1 (GivesFD w1 (noK, [], 150))).mono ?_; rintro e w2 ⟨v2, u2, l2, rfl, s2, q2, m2, x2, _⟩; obtain ⟨a2, c2, rfl⟩ := s2.len; obtain ⟨b2, e2, rfl⟩ := q2.len; obtain ⟨l2, j2, rfl⟩ := m2.len; have HSd2 := Lib.hid s2; have HNd2 := Lib.hid q2; have HMd2 := Lib.hid m2; have X2 : Hid (Ext W0 w2) := Lib.hid (Ext.trans X1.out x2); clear s2 q2 m2 x2))
    go_wp2
    go_ret
    exact ⟨rfl, X0.out.trans (X2.out.alloc _)⟩
  obtain ⟨⟨⟨i1, p1, S1, t1, P1⟩, M1⟩, hx⟩ : ∃ r, fireAll ⟨id, ph, L, th, N⟩ = r := ⟨_, rfl⟩
  obtain ⟨hr1, hr2, hck, hst, hsl, hnd⟩ := still_all HTC.out hx
  dsimp only at hsl hnd
  have HR1 := Lib.hid hr1
  have HR2 := Lib.hid hr2
  have HCK := Lib.hid hck
  have HST := Lib.hid hst
  have HSP := Lib.hid (still_phase hst)
  have hS1 : S1.length ≤ 1000 := by omega
  have hP1 : P1.length ≤ 1000 := by rw [hnd]; omega
  have HS1 := Lib.hid hS1
  have HP1 := Lib.hid hP1
  clear hx hr1 hr2 hck hst hsl hnd hS1 hP1
  go_upto_region 4 with (first
    | (go_at_call 13; refine (dkOwn_any wb id ph th _ _ L N (HS.out.ext XB.out) (HN.out.ext XB.out) hL hNl).mono ?_; rintro e w1 ⟨v1, u1, rfl, s1, q1, x1⟩; obtain ⟨a1, c1, rfl⟩ := s1.len; obtain ⟨b1, e1, rfl⟩ := q1.len; have HSd1 := Lib.hid s1; have HNd1 := Lib.hid q1; have X1 : Hid (Ext W0 w1) := Lib.hid (Ext.trans XB.out x1); clear s1 q1 x1)
    | (go_at_call 12; refine (HR1.out ▸ fireK_any w1 id ph th _ _ L N HSd1.out HNd1.out hL hNl : Calls Try.prog 12 #[.agg #[.int .i64 id, .int .i64 ph, .slice a1 L.length c1, .int .i64 th, .slice b1 N.length e1]] w1 (GivesFD w1 (⟨i1, p1, S1, t1, P1⟩, M1, 0))).mono ?_; rintro e w3 ⟨v3, u3, l3, rfl, s3, q3, m3, x3, _⟩; obtain ⟨a3, c3, rfl⟩ := s3.len; obtain ⟨b3, e3, rfl⟩ := q3.len; obtain ⟨l3, j3, rfl⟩ := m3.len; have HSd3 := Lib.hid s3; have HNd3 := Lib.hid q3; have HMd3 := Lib.hid m3; have X3 : Hid (Ext W0 w3) := Lib.hid (Ext.trans X1.out x3); clear s3 q3 m3 x3))
  obtain ⟨g3, hg3⟩ : ∃ g, g = w3.heap.size := ⟨_, rfl⟩
  obtain ⟨W3, hW3⟩ : ∃ W, W = w3.alloc (.cells #[.int .i64 i1, .int .i64 p1, .slice a3 S1.length c3, .int .i64 t1, .slice b3 P1.length e3] 29) := ⟨_, rfl⟩
  have XW3 : Hid (Ext W0 W3) := Lib.hid (hW3 ▸ X3.out.alloc _)
  have Bg3 : Hid (W3.heap[g3]? = some (.cells #[.int .i64 i1, .int .i64 p1, .slice a3 S1.length c3, .int .i64 t1, .slice b3 P1.length e3] 29 (0, 0))) := Lib.hid (by rw [hW3, hg3]; exact at0 w3 _)
  have SA3 := Lib.hid (hW3 ▸ HSd3.out.alloc _ : Sl W3 (.slice a3 S1.length c3) S1)
  have QA3 := Lib.hid (hW3 ▸ HNd3.out.alloc _ : Sl W3 (.slice b3 P1.length e3) P1)
  rw [← hW3, ← hg3]
  clear hW3 hg3
  clear d0 d1 d2 d3 d4
  obtain ⟨⟨k0, k1, k2⟩, k3, k4⟩ := cells5 Bg3.out
  go_upto_region 6 with (fail)
  go_upto_region 7 with (first
    | (go_at_call 13; refine (dkOwn_any W3 i1 p1 t1 _ _ S1 P1 (SA3.out) (QA3.out) HS1.out HP1.out).mono ?_; rintro e w4 ⟨v4, u4, rfl, s4, q4, x4⟩; obtain ⟨a4, c4, rfl⟩ := s4.len; obtain ⟨b4, e4, rfl⟩ := q4.len; have HSd4 := Lib.hid s4; have HNd4 := Lib.hid q4; have X4 : Hid (Ext W0 w4) := Lib.hid (Ext.trans XW3.out x4); have Y4 := Lib.hid x4; clear s4 q4 x4)
    | (go_at_call 12; refine (HR2.out ▸ fireK_any w4 i1 p1 t1 _ _ S1 P1 HSd4.out HNd4.out HS1.out HP1.out : Calls Try.prog 12 #[.agg #[.int .i64 i1, .int .i64 p1, .slice a4 S1.length c4, .int .i64 t1, .slice b4 P1.length e4]] w4 (GivesFD w4 (⟨i1, p1, S1, t1, P1⟩, [], 0))).mono ?_; rintro e w5 ⟨v5, u5, l5, rfl, s5, q5, m5, x5, _⟩; obtain ⟨a5, c5, rfl⟩ := s5.len; obtain ⟨b5, e5, rfl⟩ := q5.len; obtain ⟨l5, j5, rfl⟩ := m5.len; have HSd5 := Lib.hid s5; have HNd5 := Lib.hid q5; have HMd5 := Lib.hid m5; have X5 : Hid (Ext W0 w5) := Lib.hid (Ext.trans X4.out x5); have Y5 := Lib.hid (Y4.out.trans x5); clear s5 q5 m5 x5))
  obtain ⟨g5, hg5⟩ : ∃ g, g = w5.heap.size := ⟨_, rfl⟩
  obtain ⟨W5, hW5⟩ : ∃ W, W = w5.alloc (.cells #[.int .i64 i1, .int .i64 p1, .slice a5 S1.length c5, .int .i64 t1, .slice b5 P1.length e5] 29) := ⟨_, rfl⟩
  have XW5 : Hid (Ext W0 W5) := Lib.hid (hW5 ▸ X5.out.alloc _)
  have Bg5 : Hid (W5.heap[g5]? = some (.cells #[.int .i64 i1, .int .i64 p1, .slice a5 S1.length c5, .int .i64 t1, .slice b5 P1.length e5] 29 (0, 0))) := Lib.hid (by rw [hW5, hg5]; exact at0 w5 _)
  have SA5 := Lib.hid (hW5 ▸ HSd5.out.alloc _ : Sl W5 (.slice a5 S1.length c5) S1)
  have QA5 := Lib.hid (hW5 ▸ HNd5.out.alloc _ : Sl W5 (.slice b5 P1.length e5) P1)
  have Z35 := Lib.hid (hW5 ▸ Y5.out.alloc _ : Ext W3 W5)
  rw [← hW5, ← hg5]
  clear hW5 hg5
  clear k0 k1 k2 k3 k4
  have HK3 : Hid (∀ V, Ext W5 V → _) := Lib.hid fun V hV => cells5 (keepU (keepU Bg3.out Z35.out) hV)
  have HK5 : Hid (∀ V, Ext W5 V → _) := Lib.hid fun V hV => cells5 (keepU Bg5.out hV)
  have SB3 := Lib.hid (SA3.out.ext Z35.out)
  have QB3 := Lib.hid (QA3.out.ext Z35.out)
  obtain ⟨⟨k0, k1, k2⟩, k3, k4⟩ := cells5 (keepU Bg3.out Z35.out)
  go_wp2
  go_loopw [9] (fun i wr => ∃ k : Nat, k ≤ S1.length ∧ i = .int .i64 k ∧ Hid (Ext W5 wr)) (fun i _ => S1.length - (intOf i).toNat)
  case atStart => exact ⟨0, Nat.zero_le _, rfl, Lib.hid (Ext.refl _)⟩
  case round =>
    obtain ⟨k, hk, rfl, HX⟩ := hrel
    clear k0 k1 k2 k3 k4
    obtain ⟨⟨k0, k1, k2⟩, k3, k4⟩ := HK3.out wr HX.out
    by_cases hlt : k < S1.length
    · obtain ⟨bb, off, s, hsy, hsj, rfl, hn, hnc, hc63, hb, hcs⟩ := SB3.out.sidesAt hlt
      obtain ⟨⟨⟨x0, x1⟩, x2, x3⟩, ⟨x4, x5⟩, x6, x7⟩ := hcs wr HX.out
      obtain ⟨hb1, hb2⟩ := still_bits HST.out (s := s) hsj
      clear hsy hsj hcs hn
      obtain ⟨y0, y1, y2, y3, y4, y5, y6, y7⟩ := s
      dsimp only at x0 x1 x2 x3 x4 x5 x6 x7 hb1 hb2
      obtain ⟨nd, hnd⟩ : ∃ n, decide (y0 ∈ P1) = n := ⟨_, rfl⟩
      obtain ⟨q2, hq2⟩ : ∃ q, (t1 == 2) = q := ⟨_, rfl⟩
      obtain ⟨q1, hq1⟩ : ∃ q, (t1 == 1) = q := ⟨_, rfl⟩
      rw [hnd, hq1] at hb1 hb2
      rw [hq2] at hb1
      have HB1 := Lib.hid hb1
      have HB2 := Lib.hid hb2
      have HND := Lib.hid hnd
      clear hb1 hb2 hnd
      go_upto_region 11 with (fail)
      obtain ⟨gx, hgx⟩ : ∃ g, g = wr.heap.size := ⟨_, rfl⟩
      obtain ⟨Wx, hWx⟩ : ∃ W, W = wr.alloc (.cells #[.int .i64 y0, .int .i64 y1, .int .i64 y2, .bool y3, .bool y4, .bool y5, .bool y6, .bool y7] 53) := ⟨_, rfl⟩
      have BX : Hid (Wx.heap[gx]? = some (.cells #[.int .i64 y0, .int .i64 y1, .int .i64 y2, .bool y3, .bool y4, .bool y5, .bool y6, .bool y7] 53 (0, 0))) := Lib.hid (by rw [hWx, hgx]; exact at0 wr _)
      have HXX : Hid (Ext W5 Wx) := Lib.hid (hWx ▸ HX.out.alloc _)
      rw [← hWx]
      try rw [← hgx]
      clear hWx hgx x0 x1 x2 x3 x4 x5 x6 x7 k0 k1 k2 k3 k4
      obtain ⟨⟨k0, k1, k2⟩, k3, k4⟩ := HK3.out Wx HXX.out
      obtain ⟨⟨⟨x0, x1⟩, x2, x3⟩, ⟨x4, x5⟩, x6, x7⟩ := cells8U BX.out
      have HHA := Lib.hid (refHas_val Wx _ P1 y0 (QB3.out.ext HXX.out) nd HND.out)
      go_upto_region 12 with (first
        | (go_at_call 26; refine HHA.out.mono ?_; rintro e wy ⟨rfl, rfl⟩))
      go_cut [90] (fun s90 wx => s90 = .bool false ∧ Wx = wx)
      case first =>
        cases y6
        · cases q1
          · go_wp2_with fail
            go_meet
            exact ⟨rfl, rfl⟩
          · cases nd
            · go_wp2_with fail
              go_meet
              exact ⟨rfl, rfl⟩
            · cases y7
              · go_wp2_with fail
                go_meet
                exact ⟨rfl, rfl⟩
              · exact absurd HB2.out (by decide)
        · cases y7
          · cases q1
            · go_wp2_with fail
              go_meet
              exact ⟨rfl, rfl⟩
            · cases nd
              · go_wp2_with fail
                go_meet
                exact ⟨rfl, rfl⟩
              · go_wp2_with fail
                go_meet
                exact ⟨rfl, rfl⟩
          · cases nd
            · exact absurd HB1.out (by cases q1 <;> cases q2 <;> cases y3 <;> decide)
            · cases q2
              · cases y3
                · exact absurd HB1.out (by cases q1 <;> decide)
                · cases q1
                  · exact absurd HB1.out (by decide)
                  · go_wp2_with fail
                    go_meet
                    exact ⟨rfl, rfl⟩
              · cases q1
                · go_wp2_with fail
                  go_meet
                  exact ⟨rfl, rfl⟩
                · go_wp2_with fail
                  go_meet
                  exact ⟨rfl, rfl⟩
      case rest =>
        obtain ⟨rfl, rfl⟩ := hcut
        go_wp2
        go_roundw
        case rel => exact ⟨k + 1, by omega, by go_num, HXX⟩
        case measure => simp [intOf]; omega
    · go_upto_region 14 with (fail)
      obtain ⟨⟨l0, l1, l2⟩, l3, l4⟩ := HK5.out wr HX.out
      have HF1 : Hid (∀ V, Ext wr V → Calls Try.prog 15 #[.agg #[.int .i64 i1, .int .i64 p1, .slice a3 S1.length c3, .int .i64 t1, .slice b3 P1.length e3], .agg #[.int .i64 i1, .int .i64 p1, .slice a5 S1.length c5, .int .i64 t1, .slice b5 P1.length e5]] V fun e w' => e = .returned (.bool true) ∧ Ext V w') := Lib.hid fun V hV => refDkSame_any V i1 p1 t1 i1 p1 t1 _ _ _ _ S1 S1 P1 P1 (SB3.out.ext (HX.out.trans hV)) (SA5.out.ext (HX.out.trans hV)) (QB3.out.ext (HX.out.trans hV)) (QA5.out.ext (HX.out.trans hV)) true (by simp)
      by_cases e1 : t1 = 1
      · have q1 : (t1 != 1) = false := by simp [e1]
        have q0 : (p1 != 0) = true := by have := HSP.out; simp only [bne_iff_ne, ne_eq]; exact fun e => this ⟨e1, e⟩
        clear e1
        go_wp2_with (first
          | (go_at_call 15; refine (HF1.out wr (Ext.refl _)).mono ?_; rintro e w8 ⟨rfl, hx⟩; have hx8 := Ext.trans HX.out hx; have X8 : Hid (Ext W5 w8) := Lib.hid hx8; clear k0 k1 k2 k3 k4 l0 l1 l2 l3 l4; obtain ⟨⟨k0, k1, k2⟩, k3, k4⟩ := HK3.out w8 hx8; obtain ⟨⟨l0, l1, l2⟩, l3, l4⟩ := HK5.out w8 hx8; clear hx hx8)
          | (go_at_call 13; refine (dkOwn_any w8 i1 p1 t1 _ _ S1 P1 (SB3.out.ext X8.out) (QB3.out.ext X8.out) HS1.out HP1.out).mono ?_; rintro e w9 ⟨v9, u9, rfl, s9, q9, x9⟩; obtain ⟨a9, c9, rfl⟩ := s9.len; obtain ⟨b9, e9, rfl⟩ := q9.len; have HSd9 := Lib.hid s9; have HNd9 := Lib.hid q9; have X9 : Hid (Ext W5 w9) := Lib.hid (Ext.trans X8.out x9); clear s9 q9 x9)
          | (go_at_call 17; refine (dkCheck_any w9 i1 p1 t1 _ _ S1 P1 HSd9.out HNd9.out HS1.out true HCK.out).mono ?_; rintro e wz ⟨rfl, hx⟩; dsimp only [cond]; have XZ : Hid (Ext W5 wz) := Lib.hid (Ext.trans X9.out hx); clear hx))
        go_ret
        exact ⟨rfl, X0.out.trans (XW5.out.trans XZ.out)⟩
      · have q1 : (t1 != 1) = true := by simp [e1]
        clear e1
        go_wp2_with (first
          | (go_at_call 15; refine (HF1.out wr (Ext.refl _)).mono ?_; rintro e w8 ⟨rfl, hx⟩; have hx8 := Ext.trans HX.out hx; have X8 : Hid (Ext W5 w8) := Lib.hid hx8; clear k0 k1 k2 k3 k4 l0 l1 l2 l3 l4; obtain ⟨⟨k0, k1, k2⟩, k3, k4⟩ := HK3.out w8 hx8; obtain ⟨⟨l0, l1, l2⟩, l3, l4⟩ := HK5.out w8 hx8; clear hx hx8)
          | (go_at_call 13; refine (dkOwn_any w8 i1 p1 t1 _ _ S1 P1 (SB3.out.ext X8.out) (QB3.out.ext X8.out) HS1.out HP1.out).mono ?_; rintro e w9 ⟨v9, u9, rfl, s9, q9, x9⟩; obtain ⟨a9, c9, rfl⟩ := s9.len; obtain ⟨b9, e9, rfl⟩ := q9.len; have HSd9 := Lib.hid s9; have HNd9 := Lib.hid q9; have X9 : Hid (Ext W5 w9) := Lib.hid (Ext.trans X8.out x9); clear s9 q9 x9)
          | (go_at_call 17; refine (dkCheck_any w9 i1 p1 t1 _ _ S1 P1 HSd9.out HNd9.out HS1.out true HCK.out).mono ?_; rintro e wz ⟨rfl, hx⟩; dsimp only [cond]; have XZ : Hid (Ext W5 wz) := Lib.hid (Ext.trans X9.out hx); clear hx))
        go_ret
        exact ⟨rfl, X0.out.trans (XW5.out.trans XZ.out)⟩
end Go.Proofs.Ytpjpjchnfllcmaa
