/- Layer 13, the document's answers: whether a diner may be. -/
import Derived.Test.YtpjpjchnfllcmaaMU1
import Derived.Deep.QuietTactic
import Derived.Test.YtpjpjchnfllcmaaSt
import Derived.Test.YtpjpjchnfllcmaaME
namespace Go.Proofs.Ytpjpjchnfllcmaa
open Go.RowKit

theorem side_no {id last : Int} {s : Sd} (h : s.peer ≤ last ∨ s.peer = id ∨ s.epoch < 0 ∨ 65535 < s.epoch ∨ s.state < 0 ∨ 3 < s.state ∨ (s.dirty = true ∧ s.fork = false)) : sideD id last s = false := by
  unfold sideD
  rcases h with h | h | h | h | h | h | ⟨h, h2⟩
  · rw [decide_eq_false (by omega)]; rfl
  · rw [show decide (s.peer ≠ id) = false from decide_eq_false (by simpa using h)]; simp
  · rw [show decide (0 ≤ s.epoch) = false from decide_eq_false (by omega)]; simp
  · rw [show decide (s.epoch ≤ 65535) = false from decide_eq_false (by omega)]; simp
  · rw [show decide (0 ≤ s.state) = false from decide_eq_false (by omega)]; simp
  · rw [show decide (s.state ≤ 3) = false from decide_eq_false (by omega)]; simp
  · rw [h, h2]; simp
theorem side_yes {id last : Int} {s : Sd} (h1 : last < s.peer) (h2 : s.peer ≠ id) (h3 : 0 ≤ s.epoch) (h4 : s.epoch ≤ 65535) (h5 : 0 ≤ s.state) (h6 : s.state ≤ 3) (h7 : s.dirty = false ∨ s.fork = true) : sideD id last s = true := by
  unfold sideD
  rw [decide_eq_true h1, decide_eq_true h2, decide_eq_true h3, decide_eq_true h4, decide_eq_true h5, decide_eq_true h6]
  rcases h7 with h | h <;> rw [h] <;> simp
theorem side_eq (id last : Int) (s : Sd) : sideD id last s = !(decide (s.peer ≤ last ∨ s.peer = id) || decide (s.epoch < 0) || decide (65535 < s.epoch) || decide (s.state < 0) || decide (3 < s.state) || (s.dirty && !s.fork)) := by
  by_cases h1 : s.peer ≤ last
  · rw [side_no (.inl h1), decide_eq_true (.inl h1)]; rfl
  by_cases h2 : s.peer = id
  · rw [side_no (.inr (.inl h2)), decide_eq_true (.inr h2)]; rfl
  rw [decide_eq_false (show ¬ (s.peer ≤ last ∨ s.peer = id) by omega)]
  by_cases h3 : s.epoch < 0
  · rw [side_no (.inr (.inr (.inl h3))), decide_eq_true h3]; rfl
  by_cases h4 : 65535 < s.epoch
  · rw [side_no (.inr (.inr (.inr (.inl h4)))), decide_eq_true h4, decide_eq_false h3]; rfl
  by_cases h5 : s.state < 0
  · rw [side_no (.inr (.inr (.inr (.inr (.inl h5))))), decide_eq_true h5, decide_eq_false h3, decide_eq_false h4]; rfl
  by_cases h6 : 3 < s.state
  · rw [side_no (.inr (.inr (.inr (.inr (.inr (.inl h6)))))), decide_eq_true h6, decide_eq_false h3, decide_eq_false h4, decide_eq_false h5]; rfl
  rw [decide_eq_false h3, decide_eq_false h4, decide_eq_false h5, decide_eq_false h6]
  cases hd : s.dirty
  · rw [side_yes (by omega) h2 (by omega) (by omega) (by omega) (by omega) (.inl hd)]; rfl
  cases hf : s.fork
  · rw [side_no (.inr (.inr (.inr (.inr (.inr (.inr ⟨hd, hf⟩))))))]; rfl
  · rw [side_yes (by omega) h2 (by omega) (by omega) (by omega) (by omega) (.inr hf)]; rfl
theorem extU {w wr W : World} {o : Obj} (h : Ext w wr) (e : W = wr.alloc o) : Ext w W := e ▸ h.alloc _
theorem lastD_at : ∀ (L : List Sd) (k : Nat) (s : Sd) (last : Int), L[k]? = some s → lastD last (L.take (k + 1)) = s.peer
  | [], _, _, _, h => by simp at h
  | t :: L, 0, s, last, h => by simp at h; subst h; simp [lastD]
  | t :: L, k + 1, s, last, h => by
    rw [List.getElem?_cons_succ] at h
    show lastD t.peer (L.take (k + 1)) = s.peer
    exact lastD_at L k s _ h

set_option maxRecDepth 100000 in
set_option maxHeartbeats 8000000 in
theorem refDCheck_any (w : World) (id ph : Int) (v : Value) (L : List Sd) (h : Sl w v L) (t : Bool) (ht : dnOk ⟨id, ph, L⟩ = t) :
    Calls Try.prog 35 #[.agg #[.int .i64 id, .int .i64 ph, v]] w fun e w' => e = .returned (.bool t) ∧ Ext w w' := by
  obtain ⟨ao, c, rfl⟩ := h.len
  have hlen := h.length_le
  have HS := Lib.hid h
  have HT := Lib.hid ht
  have HK : Hid (∀ V, Ext (w.alloc (.cells #[.int .i64 id, .int .i64 ph, .slice ao L.length c] 25)) V → V.cell? ⟨w.heap.size, 0, none⟩ = some (.int .i64 id) ∧ V.cell? ⟨w.heap.size, 1, none⟩ = some (.int .i64 ph) ∧ V.cell? ⟨w.heap.size, 2, none⟩ = some (.slice ao L.length c)) := Lib.hid fun V hV => ⟨cell_atD V hV rfl, cell_atD V hV rfl, cell_atD V hV rfl⟩
  have X0 : Hid (Ext w (w.alloc (.cells #[.int .i64 id, .int .i64 ph, .slice ao L.length c] 25))) := Lib.hid ((Ext.refl w).alloc _)
  clear h ht
  cases hh : headD ⟨id, ph, L⟩
  · have HF : Hid (false = t) := Lib.hid (by rw [← HT.out]; unfold dnOk; rw [hh]; rfl)
    unfold headD at hh
    simp only [Bool.and_eq_false_iff, decide_eq_false_iff_not] at hh
    have e0 : (ph != 0) = !decide (ph = 0) := by by_cases e : ph = 0 <;> simp [e]
    have e1 : (ph != 1) = !decide (ph = 1) := by by_cases e : ph = 1 <;> simp [e]
    have e2 : (ph != 2) = !decide (ph = 2) := by by_cases e : ph = 2 <;> simp [e]
    by_cases h1 : id < 0
    · clear hh e0 e1 e2
      go_enter Try.func35, Try.ntmps35
      go_wp2
      go_ret
      exact ⟨ret_bool HF.out, X0.out⟩
    by_cases p0 : ph = 0
    · have hl : (63 : Int) < (L.length : Int) := by
        simp only [decide_eq_false_iff_not, Bool.or_eq_false_iff] at hh
        omega
      have f0 : (ph != 0) = false := by simp [p0]
      clear hh e0 e1 e2 p0
      go_enter Try.func35, Try.ntmps35
      go_wp2
      go_ret
      exact ⟨ret_bool HF.out, X0.out⟩
    by_cases p1 : ph = 1
    · have hl : (63 : Int) < (L.length : Int) := by
        simp only [decide_eq_false_iff_not, Bool.or_eq_false_iff] at hh
        omega
      have f0 : (ph != 0) = true := by simp [p0]
      have f1 : (ph != 1) = false := by simp [p1]
      clear hh e0 e1 e2 p0 p1
      go_enter Try.func35, Try.ntmps35
      go_wp2
      go_ret
      exact ⟨ret_bool HF.out, X0.out⟩
    by_cases p2 : ph = 2
    · have hl : (63 : Int) < (L.length : Int) := by
        simp only [decide_eq_false_iff_not, Bool.or_eq_false_iff] at hh
        omega
      have f0 : (ph != 0) = true := by simp [p0]
      have f1 : (ph != 1) = true := by simp [p1]
      have f2 : (ph != 2) = false := by simp [p2]
      clear hh e0 e1 e2 p0 p1 p2
      go_enter Try.func35, Try.ntmps35
      go_wp2
      go_ret
      exact ⟨ret_bool HF.out, X0.out⟩
    · have f0 : (ph != 0) = true := by simp [p0]
      have f1 : (ph != 1) = true := by simp [p1]
      have f2 : (ph != 2) = true := by simp [p2]
      clear hh e0 e1 e2 p0 p1 p2
      go_enter Try.func35, Try.ntmps35
      go_wp2
      go_ret
      exact ⟨ret_bool HF.out, X0.out⟩
  have HD : Hid (sidesD id (-1) L = t) := Lib.hid (by rw [← HT.out]; unfold dnOk; rw [hh, Bool.true_and])
  have hph : ph = 0 ∨ ph = 1 ∨ ph = 2 := by
    unfold headD at hh
    simp only [Bool.and_eq_true, Bool.or_eq_true, decide_eq_true_eq] at hh
    omega
  have hid0 : 0 ≤ id := by
    unfold headD at hh
    simp only [Bool.and_eq_true, Bool.or_eq_true, decide_eq_true_eq] at hh
    omega
  have hl63 : L.length ≤ 63 := by
    unfold headD at hh
    simp only [Bool.and_eq_true, Bool.or_eq_true, decide_eq_true_eq] at hh
    omega
  have HP := Lib.hid hph
  clear hh hph
  go_enter Try.func35, Try.ntmps35
  go_upto_region 1 with (fail)
  go_cut [28] (fun s28 wx => s28 = .bool false ∧ wx = w.alloc (.cells #[.int .i64 id, .int .i64 ph, .slice ao L.length c] 25))
  case first =>
    obtain ⟨k0, k1, k2⟩ := HK.out _ (Ext.refl _)
    rcases HP.out with rfl | rfl | rfl
    all_goals
      go_wp2_with fail
      go_meet
      exact ⟨by first | rfl | (simp; omega), rfl⟩
  case rest =>
    obtain ⟨rfl, rfl⟩ := hcut
    go_wp2
    go_loopw [3] (fun i wr => ∃ k : Nat, k ≤ L.length ∧ i = .int .i64 k ∧ Hid (sidesD id (-1) (L.take k) = true) ∧ Hid (Ext (w.alloc (.cells #[.int .i64 id, .int .i64 ph, .slice ao L.length c] 25)) wr)) (fun i _ => L.length - (intOf i).toNat)
    case atStart => exact ⟨0, Nat.zero_le _, rfl, Lib.hid rfl, Lib.hid (Ext.refl _)⟩
    case round =>
      obtain ⟨k, hk, rfl, HQ, HX⟩ := hrel
      obtain ⟨k0, k1, k2⟩ := HK.out wr HX.out
      clear k0 k1
      by_cases hlt : k < L.length
      · obtain ⟨b1, off, s, hsy, hsj, rfl, hn, hnc, hc63, hb, hcs⟩ := HS.out.sidesAt hlt
        obtain ⟨⟨⟨x0, x1⟩, x2, x3⟩, ⟨x4, x5⟩, x6, x7⟩ := hcs wr (X0.out.trans HX.out)
        have htk : L.take (k + 1) = L.take k ++ [s] := by rw [List.take_succ_eq_append_getElem hlt, (List.getElem?_eq_some_iff.1 hsj).2]
        have HOK : Hid (sidesD id (-1) (L.take (k + 1)) = sideD id (lastD (-1) (L.take k)) s) := Lib.hid (by rw [htk, sidesD_app, HQ.out, Bool.true_and])
        have HBAD : Hid (sideD id (lastD (-1) (L.take k)) s = false → false = t) := Lib.hid fun e => by
          have := sidesD_pre id _ (L.drop (k + 1)) (-1) (HOK.out.trans e)
          rw [List.take_append_drop] at this
          rw [← HD.out, this]
        have hl1 := Lib.hid (lastD_low id _ _ HQ.out)
        have HLA : Hid (∀ (j : Nat) (s' : Sd), k = j + 1 → L[j]? = some s' → lastD (-1) (L.take k) = s'.peer) := Lib.hid fun j s' e h => by rw [e]; exact lastD_at L j s' (-1) h
        have HL0 : Hid (k = 0 → lastD (-1) (L.take k) = -1) := Lib.hid fun e => by rw [e]; rfl
        obtain ⟨la, hla⟩ : ∃ la, la = lastD (-1) (L.take k) := ⟨_, rfl⟩
        rw [← hla] at HOK HBAD hl1 HLA HL0
        obtain ⟨W1, hW1⟩ : ∃ W1, W1 = wr.alloc (.cells s.cs 53) := ⟨_, rfl⟩
        have X1 := Lib.hid (extU HX.out hW1)
        have D1 : Hid (W1.heap[wr.heap.size]? = some (.cells s.cs 53 (0, 0))) := Lib.hid (hW1 ▸ at0 wr _)
        have HW1 := Lib.hid hW1
        clear hla htk hsy hsj hcs hn hW1
        obtain ⟨y0, y1, y2, y3, y4, y5, y6, y7⟩ := s
        dsimp only at x0 x1 x2 x3 x4 x5 x6 x7
        dsimp only [Sd.cs] at HW1 D1
        go_upto_region 7 with (fail)
        rw [← HW1.out]
        clear x0 x1 x2 x3 x4 x5 x6 x7 k2
        obtain ⟨k0, k1, k2⟩ := HK.out W1 X1.out
        obtain ⟨⟨⟨x0, x1⟩, x2, x3⟩, ⟨x4, x5⟩, x6, x7⟩ := cells8U D1.out
        go_cut [95] (fun s95 wx => ∃ b, s95 = .bool b ∧ Hid (sideD id la ⟨y0, y1, y2, y3, y4, y5, y6, y7⟩ = !b) ∧ Hid (Ext W1 wx))
        case first =>
          clear k0 k1 k2 x0 x1 x2 x3 x4 x5 x6 x7
          refine wp_region_still_lit (by kernel_rfl) (by kernel_rfl) ?_
          obtain ⟨WD, hWD⟩ : ∃ WD, WD = { W1 with drawn := W1.drawn + 1 } := ⟨_, rfl⟩
          have XD : Hid (Ext W1 WD) := Lib.hid (hWD ▸ (Ext.refl W1).drew)
          rw [← hWD]
          clear hWD
          obtain ⟨k0, k1, k2⟩ := HK.out WD (X1.out.trans XD.out)
          obtain ⟨⟨⟨x0, x1⟩, x2, x3⟩, ⟨x4, x5⟩, x6, x7⟩ := cells8U (keepU D1.out XD.out)
          refine stStart (fun a0 O Q' ha0 hO hQ => ?_)
          have PE := pc_eval (show a0.tmps.size = 96 by rw [ha0]; rfl)
          have E1 : a0.eval (.tmp 1) = .pointer (some ⟨w.heap.size, 0, none⟩) := by rw [ha0]; rfl
          have E3 : a0.eval (.tmp 3) = .int .i64 (k : Int) := by rw [ha0]; rfl
          have E4 : a0.eval (.tmp 4) = .pointer (some ⟨wr.heap.size, 0, none⟩) := by rw [ha0]; rfl
          obtain ⟨o3, O3, P3⟩ : ∃ o, O[3]? = some o ∧ o.dst = some 44 := by rw [hO]; exact ⟨_, rfl, rfl⟩
          obtain ⟨o10, O10, P10⟩ : ∃ o, O[10]? = some o ∧ o.dst = some 51 := by rw [hO]; exact ⟨_, rfl, rfl⟩
          obtain ⟨o13, O13, P13⟩ : ∃ o, O[13]? = some o ∧ o.dst = some 54 := by rw [hO]; exact ⟨_, rfl, rfl⟩
          obtain ⟨o26, O26, P26⟩ : ∃ o, O[26]? = some o ∧ o.dst = some 67 := by rw [hO]; exact ⟨_, rfl, rfl⟩
          obtain ⟨o31, O31, P31⟩ : ∃ o, O[31]? = some o ∧ o.dst = some 72 := by rw [hO]; exact ⟨_, rfl, rfl⟩
          obtain ⟨o36, O36, P36⟩ : ∃ o, O[36]? = some o ∧ o.dst = some 77 := by rw [hO]; exact ⟨_, rfl, rfl⟩
          obtain ⟨o41, O41, P41⟩ : ∃ o, O[41]? = some o ∧ o.dst = some 82 := by rw [hO]; exact ⟨_, rfl, rfl⟩
          obtain ⟨o46, O46, P46⟩ : ∃ o, O[46]? = some o ∧ o.dst = some 87 := by rw [hO]; exact ⟨_, rfl, rfl⟩
          obtain ⟨o49, O49, P49⟩ : ∃ o, O[49]? = some o ∧ o.dst = some 90 := by rw [hO]; exact ⟨_, rfl, rfl⟩
          have HA0 := Lib.hid ha0
          have HQQ := Lib.hid hQ
          clear ha0 hO hQ
          refine stSeg 4 (fun l' => ∃ (x41 x42 x43 : Value) (b1 : Bool), l' = [(44, .bool b1), (43, x43), (42, x42), (41, x41)] ∧ Hid (b1 = decide (y0 < 0))) ?_ ?_
          · dsimp only [List.take]
            by_cases ht : y0 < 0
            · refine stTn (d := 41) _ rfl rfl (by simp only [execOp]; (try simp only [PE]); (try simp only [lk_cons]); (try simp only [lk_nil]); (try simp only [E1]); (try simp only [E3]); (try simp only [E4]); go_simp; first | done | with_reducible rfl) ?_
              refine stTn (d := 42) _ rfl rfl (by simp only [execOp]; (try simp only [PE]); (try simp only [lk_cons]); (try simp only [lk_nil]); (try simp only [E1]); (try simp only [E3]); (try simp only [E4]); go_simp; first | done | with_reducible rfl) ?_
              refine stTn (d := 43) (.bool true) rfl rfl (by simp only [execOp]; (try simp only [PE]); (try simp only [lk_cons]); (try simp only [lk_nil]); (try simp only [E1]); (try simp only [E3]); (try simp only [E4]); go_simp; first | done | with_reducible rfl) ?_
              refine stTn (d := 44) (.bool true) rfl rfl (by simp only [execOp]; (try simp only [PE]); (try simp only [lk_cons]); (try simp only [lk_nil]); (try simp only [E1]); (try simp only [E3]); (try simp only [E4]); go_simp; first | done | with_reducible rfl) ?_
              exact wpStill_nil ⟨_, rfl, _, _, _, _, rfl, Lib.hid ((by rw [decide_eq_true ht]))⟩
            · refine stTn (d := 41) _ rfl rfl (by simp only [execOp]; (try simp only [PE]); (try simp only [lk_cons]); (try simp only [lk_nil]); (try simp only [E1]); (try simp only [E3]); (try simp only [E4]); go_simp; first | done | with_reducible rfl) ?_
              refine stTn (d := 42) _ rfl rfl (by simp only [execOp]; (try simp only [PE]); (try simp only [lk_cons]); (try simp only [lk_nil]); (try simp only [E1]); (try simp only [E3]); (try simp only [E4]); go_simp; first | done | with_reducible rfl) ?_
              refine stTn (d := 43) (.bool false) rfl rfl (by simp only [execOp]; (try simp only [PE]); (try simp only [lk_cons]); (try simp only [lk_nil]); (try simp only [E1]); (try simp only [E3]); (try simp only [E4]); go_simp; first | done | with_reducible rfl) ?_
              refine stTn (d := 44) (.bool false) rfl rfl (by simp only [execOp]; (try simp only [PE]); (try simp only [lk_cons]); (try simp only [lk_nil]); (try simp only [E1]); (try simp only [E3]); (try simp only [E4]); go_simp; first | done | with_reducible rfl) ?_
              exact wpStill_nil ⟨_, rfl, _, _, _, _, rfl, Lib.hid ((by rw [decide_eq_false ht]))⟩
          dsimp only [List.drop]
          rintro l' ⟨x41, x42, x43, b1, rfl, Hb1⟩
          refine stSeg 7 (fun l' => ∃ (x45 x46 x47 x48 x49 x50 : Value) (b2 : Bool), l' = [(51, .bool b2), (50, x50), (49, x49), (48, x48), (47, x47), (46, x46), (45, x45), (44, .bool b1), (43, x43), (42, x42), (41, x41)] ∧ Hid (b2 = decide (y0 < 0 ∨ y0 = id))) ?_ ?_
          · dsimp only [List.take]
            cases b1
            · by_cases ht : y0 = id
              · have t2 : (y0 == id) = true := by simp [ht]
                have HTT := Lib.hid ht
                clear ht
                refine stTg (d := 45) (s := 44) (b := false) _ rfl rfl O3 P3 PE (by simp [lk_cons]) (by simp only [execOp]; (try simp only [PE]); (try simp only [lk_cons]); (try simp only [lk_nil]); (try simp only [E1]); (try simp only [E3]); (try simp only [E4]); go_simp; first | done | with_reducible rfl) ?_
                refine stTg (d := 46) (s := 44) (b := false) _ rfl rfl O3 P3 PE (by simp [lk_cons]) (by simp only [execOp]; (try simp only [PE]); (try simp only [lk_cons]); (try simp only [lk_nil]); (try simp only [E1]); (try simp only [E3]); (try simp only [E4]); go_simp; first | done | with_reducible rfl) ?_
                refine stTg (d := 47) (s := 44) (b := false) _ rfl rfl O3 P3 PE (by simp [lk_cons]) (by simp only [execOp]; (try simp only [PE]); (try simp only [lk_cons]); (try simp only [lk_nil]); (try simp only [E1]); (try simp only [E3]); (try simp only [E4]); go_simp; first | done | with_reducible rfl) ?_
                refine stTg (d := 48) (s := 44) (b := false) _ rfl rfl O3 P3 PE (by simp [lk_cons]) (by simp only [execOp]; (try simp only [PE]); (try simp only [lk_cons]); (try simp only [lk_nil]); (try simp only [E1]); (try simp only [E3]); (try simp only [E4]); go_simp; first | done | with_reducible rfl) ?_
                refine stTg (d := 49) (s := 44) (b := false) (.bool true) rfl rfl O3 P3 PE (by simp [lk_cons]) (by simp only [execOp]; (try simp only [PE]); (try simp only [lk_cons]); (try simp only [lk_nil]); (try simp only [E1]); (try simp only [E3]); (try simp only [E4]); go_simp; first | done | with_reducible rfl) ?_
                refine stTn (d := 50) (.bool true) rfl rfl (by simp only [execOp]; (try simp only [PE]); (try simp only [lk_cons]); (try simp only [lk_nil]); (try simp only [E1]); (try simp only [E3]); (try simp only [E4]); go_simp; first | done | with_reducible rfl) ?_
                refine stTn (d := 51) (.bool true) rfl rfl (by simp only [execOp]; (try simp only [PE]); (try simp only [lk_cons]); (try simp only [lk_nil]); (try simp only [E1]); (try simp only [E3]); (try simp only [E4]); go_simp; first | done | with_reducible rfl) ?_
                exact wpStill_nil ⟨_, rfl, _, _, _, _, _, _, _, rfl, Lib.hid ((by rw [decide_eq_true (.inr HTT.out)]))⟩
              · have t2 : (y0 == id) = false := by simp [ht]
                refine stTg (d := 45) (s := 44) (b := false) _ rfl rfl O3 P3 PE (by simp [lk_cons]) (by simp only [execOp]; (try simp only [PE]); (try simp only [lk_cons]); (try simp only [lk_nil]); (try simp only [E1]); (try simp only [E3]); (try simp only [E4]); go_simp; first | done | with_reducible rfl) ?_
                refine stTg (d := 46) (s := 44) (b := false) _ rfl rfl O3 P3 PE (by simp [lk_cons]) (by simp only [execOp]; (try simp only [PE]); (try simp only [lk_cons]); (try simp only [lk_nil]); (try simp only [E1]); (try simp only [E3]); (try simp only [E4]); go_simp; first | done | with_reducible rfl) ?_
                refine stTg (d := 47) (s := 44) (b := false) _ rfl rfl O3 P3 PE (by simp [lk_cons]) (by simp only [execOp]; (try simp only [PE]); (try simp only [lk_cons]); (try simp only [lk_nil]); (try simp only [E1]); (try simp only [E3]); (try simp only [E4]); go_simp; first | done | with_reducible rfl) ?_
                refine stTg (d := 48) (s := 44) (b := false) _ rfl rfl O3 P3 PE (by simp [lk_cons]) (by simp only [execOp]; (try simp only [PE]); (try simp only [lk_cons]); (try simp only [lk_nil]); (try simp only [E1]); (try simp only [E3]); (try simp only [E4]); go_simp; first | done | with_reducible rfl) ?_
                refine stTg (d := 49) (s := 44) (b := false) (.bool false) rfl rfl O3 P3 PE (by simp [lk_cons]) (by simp only [execOp]; (try simp only [PE]); (try simp only [lk_cons]); (try simp only [lk_nil]); (try simp only [E1]); (try simp only [E3]); (try simp only [E4]); go_simp; first | done | with_reducible rfl) ?_
                refine stTn (d := 50) (.bool false) rfl rfl (by simp only [execOp]; (try simp only [PE]); (try simp only [lk_cons]); (try simp only [lk_nil]); (try simp only [E1]); (try simp only [E3]); (try simp only [E4]); go_simp; first | done | with_reducible rfl) ?_
                refine stTn (d := 51) (.bool false) rfl rfl (by simp only [execOp]; (try simp only [PE]); (try simp only [lk_cons]); (try simp only [lk_nil]); (try simp only [E1]); (try simp only [E3]); (try simp only [E4]); go_simp; first | done | with_reducible rfl) ?_
                exact wpStill_nil ⟨_, rfl, _, _, _, _, _, _, _, rfl, Lib.hid ((by rw [decide_eq_false (by rintro (h | h); exact of_decide_eq_false Hb1.out.symm h; exact ht h)]))⟩
            · refine stUg (d := 45) (s := 44) (b := false) rfl rfl O3 P3 PE (by simp [lk_cons]) ?_
              refine stUg (d := 46) (s := 44) (b := false) rfl rfl O3 P3 PE (by simp [lk_cons]) ?_
              refine stUg (d := 47) (s := 44) (b := false) rfl rfl O3 P3 PE (by simp [lk_cons]) ?_
              refine stUg (d := 48) (s := 44) (b := false) rfl rfl O3 P3 PE (by simp [lk_cons]) ?_
              refine stUg (d := 49) (s := 44) (b := false) rfl rfl O3 P3 PE (by simp [lk_cons]) ?_
              refine stTn (d := 50) (.bool true) rfl rfl (by simp only [execOp]; (try simp only [PE]); (try simp only [lk_cons]); (try simp only [lk_nil]); (try simp only [E1]); (try simp only [E3]); (try simp only [E4]); go_simp; first | done | with_reducible rfl) ?_
              refine stTn (d := 51) (.bool true) rfl rfl (by simp only [execOp]; (try simp only [PE]); (try simp only [lk_cons]); (try simp only [lk_nil]); (try simp only [E1]); (try simp only [E3]); (try simp only [E4]); go_simp; first | done | with_reducible rfl) ?_
              exact wpStill_nil ⟨_, rfl, _, _, _, _, _, _, _, rfl, Lib.hid ((by rw [decide_eq_true (.inl (of_decide_eq_true Hb1.out.symm))]))⟩
          dsimp only [List.drop]
          rintro l' ⟨x45, x46, x47, x48, x49, x50, b2, rfl, Hb2⟩
          refine stSeg 16 (fun l' => ∃ (x52 x53 x54 x55 x56 x57 x58 x59 x60 x61 x62 x63 x64 x65 x66 : Value) (b3 : Bool), l' = [(67, .bool b3), (66, x66), (65, x65), (64, x64), (63, x63), (62, x62), (61, x61), (60, x60), (59, x59), (58, x58), (57, x57), (56, x56), (55, x55), (54, x54), (53, x53), (52, x52), (51, .bool b2), (50, x50), (49, x49), (48, x48), (47, x47), (46, x46), (45, x45), (44, .bool b1), (43, x43), (42, x42), (41, x41)] ∧ Hid (b3 = decide (y0 ≤ la ∨ y0 = id))) ?_ ?_
          · dsimp only [List.take]
            cases b2
            · have hn2 := of_decide_eq_false Hb2.out.symm
              rcases Nat.eq_zero_or_pos k with hk0 | hk0
              · subst hk0
                have hm1 := HL0.out rfl
                refine stTg (d := 52) (s := 51) (b := false) _ rfl rfl O10 P10 PE (by simp [lk_cons]) (by simp only [execOp]; (try simp only [PE]); (try simp only [lk_cons]); (try simp only [lk_nil]); (try simp only [E1]); (try simp only [E3]); (try simp only [E4]); go_simp; first | done | with_reducible rfl) ?_
                refine stTg (d := 53) (s := 51) (b := false) (.bool false) rfl rfl O10 P10 PE (by simp [lk_cons]) (by simp only [execOp]; (try simp only [PE]); (try simp only [lk_cons]); (try simp only [lk_nil]); (try simp only [E1]); (try simp only [E3]); (try simp only [E4]); go_simp; first | done | with_reducible rfl) ?_
                refine stTg (d := 54) (s := 51) (b := false) (.bool false) rfl rfl O10 P10 PE (by simp [lk_cons]) (by simp only [execOp]; (try simp only [PE]); (try simp only [lk_cons]); (try simp only [lk_nil]); (try simp only [E1]); (try simp only [E3]); (try simp only [E4]); go_simp; first | done | with_reducible rfl) ?_
                refine stUg (d := 55) (s := 54) (b := true) rfl rfl O13 P13 PE (by simp [lk_cons]) ?_
                refine stUg (d := 56) (s := 54) (b := true) rfl rfl O13 P13 PE (by simp [lk_cons]) ?_
                refine stUg (d := 57) (s := 54) (b := true) rfl rfl O13 P13 PE (by simp [lk_cons]) ?_
                refine stUg (d := 58) (s := 54) (b := true) rfl rfl O13 P13 PE (by simp [lk_cons]) ?_
                refine stUg (d := 59) (s := 54) (b := true) rfl rfl O13 P13 PE (by simp [lk_cons]) ?_
                refine stUg (d := 60) (s := 54) (b := true) rfl rfl O13 P13 PE (by simp [lk_cons]) ?_
                refine stUg (d := 61) (s := 54) (b := true) rfl rfl O13 P13 PE (by simp [lk_cons]) ?_
                refine stUg (d := 62) (s := 54) (b := true) rfl rfl O13 P13 PE (by simp [lk_cons]) ?_
                refine stUg (d := 63) (s := 54) (b := true) rfl rfl O13 P13 PE (by simp [lk_cons]) ?_
                refine stUg (d := 64) (s := 54) (b := true) rfl rfl O13 P13 PE (by simp [lk_cons]) ?_
                refine stTg (d := 65) (s := 51) (b := false) (.bool false) rfl rfl O10 P10 PE (by simp [lk_cons]) (by simp only [execOp]; (try simp only [PE]); (try simp only [lk_cons]); (try simp only [lk_nil]); (try simp only [E1]); (try simp only [E3]); (try simp only [E4]); go_simp; first | done | with_reducible rfl) ?_
                refine stTn (d := 66) (.bool false) rfl rfl (by simp only [execOp]; (try simp only [PE]); (try simp only [lk_cons]); (try simp only [lk_nil]); (try simp only [E1]); (try simp only [E3]); (try simp only [E4]); go_simp; first | done | with_reducible rfl) ?_
                refine stTn (d := 67) (.bool false) rfl rfl (by simp only [execOp]; (try simp only [PE]); (try simp only [lk_cons]); (try simp only [lk_nil]); (try simp only [E1]); (try simp only [E3]); (try simp only [E4]); go_simp; first | done | with_reducible rfl) ?_
                exact wpStill_nil ⟨_, rfl, _, _, _, _, _, _, _, _, _, _, _, _, _, _, _, _, rfl, Lib.hid ((by rw [decide_eq_false (by omega)]))⟩
              · obtain ⟨j, rfl⟩ : ∃ j, k = j + 1 := ⟨k - 1, by omega⟩
                obtain ⟨b2, off2, s', hsy', hsj', hao, hn', hnc', hc63', hb', hcs'⟩ := HS.out.sidesAt (k := j) (by omega)
                simp only [Option.some.injEq, Addr.mk.injEq, and_true] at hao
                obtain ⟨rfl, rfl⟩ := hao
                obtain ⟨⟨⟨z0, z1⟩, z2, z3⟩, ⟨z4, z5⟩, z6, z7⟩ := hcs' WD (X0.out.trans (X1.out.trans XD.out))
                have hm1 : la = s'.peer := HLA.out j s' rfl hsj'
                rw [← hm1] at z0
                have t3 : decide ((0 : Int) < ((j + 1 : Nat) : Int)) = true := decide_eq_true (by omega)
                have hwj : IntKind.i64.wrap (((j + 1 : Nat) : Int) - 1) = (j : Int) := by rw [wrapN _ (by omega) (by omega)]; omega
                have hwj2 : IntKind.i64.wrap ((j : Int) + 1 - 1) = (j : Int) := by rw [wrapN _ (by omega) (by omega)]; omega
                have hwj3 : IntKind.i64.wrap (j : Int) = (j : Int) := wrapN _ (by omega) (by omega)
                clear z1 z2 z3 z4 z5 z6 z7 hsy' hsj' hcs' hn' hm1
                have hjl : j < L.length := by omega
                by_cases ht : y0 ≤ la
                · refine stTg (d := 52) (s := 51) (b := false) _ rfl rfl O10 P10 PE (by simp [lk_cons]) (by simp only [execOp]; (try simp only [PE]); (try simp only [lk_cons]); (try simp only [lk_nil]); (try simp only [E1]); (try simp only [E3]); (try simp only [E4]); go_simp; first | done | with_reducible rfl) ?_
                  refine stTg (d := 53) (s := 51) (b := false) (.bool true) rfl rfl O10 P10 PE (by simp [lk_cons]) (by simp only [execOp]; (try simp only [PE]); (try simp only [lk_cons]); (try simp only [lk_nil]); (try simp only [E1]); (try simp only [E3]); (try simp only [E4]); go_simp; first | done | with_reducible rfl) ?_
                  refine stTg (d := 54) (s := 51) (b := false) (.bool true) rfl rfl O10 P10 PE (by simp [lk_cons]) (by simp only [execOp]; (try simp only [PE]); (try simp only [lk_cons]); (try simp only [lk_nil]); (try simp only [E1]); (try simp only [E3]); (try simp only [E4]); go_simp; first | done | with_reducible rfl) ?_
                  refine stTg (d := 55) (s := 54) (b := true) _ rfl rfl O13 P13 PE (by simp [lk_cons]) (by simp only [execOp]; (try simp only [PE]); (try simp only [lk_cons]); (try simp only [lk_nil]); (try simp only [E1]); (try simp only [E3]); (try simp only [E4]); go_simp; first | done | with_reducible rfl) ?_
                  refine stTg (d := 56) (s := 54) (b := true) _ rfl rfl O13 P13 PE (by simp [lk_cons]) (by simp only [execOp]; (try simp only [PE]); (try simp only [lk_cons]); (try simp only [lk_nil]); (try simp only [E1]); (try simp only [E3]); (try simp only [E4]); go_simp; first | done | with_reducible rfl) ?_
                  refine stTg (d := 57) (s := 54) (b := true) _ rfl rfl O13 P13 PE (by simp [lk_cons]) (by simp only [execOp]; (try simp only [PE]); (try simp only [lk_cons]); (try simp only [lk_nil]); (try simp only [E1]); (try simp only [E3]); (try simp only [E4]); go_simp; first | done | with_reducible rfl) ?_
                  refine stTg (d := 58) (s := 54) (b := true) _ rfl rfl O13 P13 PE (by simp [lk_cons]) (by simp only [execOp]; (try simp only [PE]); (try simp only [lk_cons]); (try simp only [lk_nil]); (try simp only [E1]); (try simp only [E3]); (try simp only [E4]); go_simp; first | done | with_reducible rfl) ?_
                  refine stTg (d := 59) (s := 54) (b := true) _ rfl rfl O13 P13 PE (by simp [lk_cons]) (by simp only [execOp]; (try simp only [PE]); (try simp only [lk_cons]); (try simp only [lk_nil]); (try simp only [E1]); (try simp only [E3]); (try simp only [E4]); go_simp; first | done | with_reducible rfl) ?_
                  refine stTg (d := 60) (s := 54) (b := true) _ rfl rfl O13 P13 PE (by simp [lk_cons]) (by simp only [execOp]; (try simp only [PE]); (try simp only [lk_cons]); (try simp only [lk_nil]); (try simp only [E1]); (try simp only [E3]); (try simp only [E4]); go_simp; first | done | with_reducible rfl) ?_
                  refine stTg (d := 61) (s := 54) (b := true) _ rfl rfl O13 P13 PE (by simp [lk_cons]) (by simp only [execOp]; (try simp only [PE]); (try simp only [lk_cons]); (try simp only [lk_nil]); (try simp only [E1]); (try simp only [E3]); (try simp only [E4]); go_simp; first | done | with_reducible rfl) ?_
                  refine stTg (d := 62) (s := 54) (b := true) _ rfl rfl O13 P13 PE (by simp [lk_cons]) (by simp only [execOp]; (try simp only [PE]); (try simp only [lk_cons]); (try simp only [lk_nil]); (try simp only [E1]); (try simp only [E3]); (try simp only [E4]); go_simp; first | done | with_reducible rfl) ?_
                  refine stTg (d := 63) (s := 54) (b := true) _ rfl rfl O13 P13 PE (by simp [lk_cons]) (by simp only [execOp]; (try simp only [PE]); (try simp only [lk_cons]); (try simp only [lk_nil]); (try simp only [E1]); (try simp only [E3]); (try simp only [E4]); go_simp; first | done | with_reducible rfl) ?_
                  refine stTg (d := 64) (s := 54) (b := true) (.bool true) rfl rfl O13 P13 PE (by simp [lk_cons]) (by simp only [execOp]; (try simp only [PE]); (try simp only [lk_cons]); (try simp only [lk_nil]); (try simp only [E1]); (try simp only [E3]); (try simp only [E4]); go_simp; first | done | with_reducible rfl) ?_
                  refine stTg (d := 65) (s := 51) (b := false) (.bool true) rfl rfl O10 P10 PE (by simp [lk_cons]) (by simp only [execOp]; (try simp only [PE]); (try simp only [lk_cons]); (try simp only [lk_nil]); (try simp only [E1]); (try simp only [E3]); (try simp only [E4]); go_simp; first | done | with_reducible rfl) ?_
                  refine stTn (d := 66) (.bool true) rfl rfl (by simp only [execOp]; (try simp only [PE]); (try simp only [lk_cons]); (try simp only [lk_nil]); (try simp only [E1]); (try simp only [E3]); (try simp only [E4]); go_simp; first | done | with_reducible rfl) ?_
                  refine stTn (d := 67) (.bool true) rfl rfl (by simp only [execOp]; (try simp only [PE]); (try simp only [lk_cons]); (try simp only [lk_nil]); (try simp only [E1]); (try simp only [E3]); (try simp only [E4]); go_simp; first | done | with_reducible rfl) ?_
                  exact wpStill_nil ⟨_, rfl, _, _, _, _, _, _, _, _, _, _, _, _, _, _, _, _, rfl, Lib.hid ((by rw [decide_eq_true (.inl ht)]))⟩
                · refine stTg (d := 52) (s := 51) (b := false) _ rfl rfl O10 P10 PE (by simp [lk_cons]) (by simp only [execOp]; (try simp only [PE]); (try simp only [lk_cons]); (try simp only [lk_nil]); (try simp only [E1]); (try simp only [E3]); (try simp only [E4]); go_simp; first | done | with_reducible rfl) ?_
                  refine stTg (d := 53) (s := 51) (b := false) (.bool true) rfl rfl O10 P10 PE (by simp [lk_cons]) (by simp only [execOp]; (try simp only [PE]); (try simp only [lk_cons]); (try simp only [lk_nil]); (try simp only [E1]); (try simp only [E3]); (try simp only [E4]); go_simp; first | done | with_reducible rfl) ?_
                  refine stTg (d := 54) (s := 51) (b := false) (.bool true) rfl rfl O10 P10 PE (by simp [lk_cons]) (by simp only [execOp]; (try simp only [PE]); (try simp only [lk_cons]); (try simp only [lk_nil]); (try simp only [E1]); (try simp only [E3]); (try simp only [E4]); go_simp; first | done | with_reducible rfl) ?_
                  refine stTg (d := 55) (s := 54) (b := true) _ rfl rfl O13 P13 PE (by simp [lk_cons]) (by simp only [execOp]; (try simp only [PE]); (try simp only [lk_cons]); (try simp only [lk_nil]); (try simp only [E1]); (try simp only [E3]); (try simp only [E4]); go_simp; first | done | with_reducible rfl) ?_
                  refine stTg (d := 56) (s := 54) (b := true) _ rfl rfl O13 P13 PE (by simp [lk_cons]) (by simp only [execOp]; (try simp only [PE]); (try simp only [lk_cons]); (try simp only [lk_nil]); (try simp only [E1]); (try simp only [E3]); (try simp only [E4]); go_simp; first | done | with_reducible rfl) ?_
                  refine stTg (d := 57) (s := 54) (b := true) _ rfl rfl O13 P13 PE (by simp [lk_cons]) (by simp only [execOp]; (try simp only [PE]); (try simp only [lk_cons]); (try simp only [lk_nil]); (try simp only [E1]); (try simp only [E3]); (try simp only [E4]); go_simp; first | done | with_reducible rfl) ?_
                  refine stTg (d := 58) (s := 54) (b := true) _ rfl rfl O13 P13 PE (by simp [lk_cons]) (by simp only [execOp]; (try simp only [PE]); (try simp only [lk_cons]); (try simp only [lk_nil]); (try simp only [E1]); (try simp only [E3]); (try simp only [E4]); go_simp; first | done | with_reducible rfl) ?_
                  refine stTg (d := 59) (s := 54) (b := true) _ rfl rfl O13 P13 PE (by simp [lk_cons]) (by simp only [execOp]; (try simp only [PE]); (try simp only [lk_cons]); (try simp only [lk_nil]); (try simp only [E1]); (try simp only [E3]); (try simp only [E4]); go_simp; first | done | with_reducible rfl) ?_
                  refine stTg (d := 60) (s := 54) (b := true) _ rfl rfl O13 P13 PE (by simp [lk_cons]) (by simp only [execOp]; (try simp only [PE]); (try simp only [lk_cons]); (try simp only [lk_nil]); (try simp only [E1]); (try simp only [E3]); (try simp only [E4]); go_simp; first | done | with_reducible rfl) ?_
                  refine stTg (d := 61) (s := 54) (b := true) _ rfl rfl O13 P13 PE (by simp [lk_cons]) (by simp only [execOp]; (try simp only [PE]); (try simp only [lk_cons]); (try simp only [lk_nil]); (try simp only [E1]); (try simp only [E3]); (try simp only [E4]); go_simp; first | done | with_reducible rfl) ?_
                  refine stTg (d := 62) (s := 54) (b := true) _ rfl rfl O13 P13 PE (by simp [lk_cons]) (by simp only [execOp]; (try simp only [PE]); (try simp only [lk_cons]); (try simp only [lk_nil]); (try simp only [E1]); (try simp only [E3]); (try simp only [E4]); go_simp; first | done | with_reducible rfl) ?_
                  refine stTg (d := 63) (s := 54) (b := true) _ rfl rfl O13 P13 PE (by simp [lk_cons]) (by simp only [execOp]; (try simp only [PE]); (try simp only [lk_cons]); (try simp only [lk_nil]); (try simp only [E1]); (try simp only [E3]); (try simp only [E4]); go_simp; first | done | with_reducible rfl) ?_
                  refine stTg (d := 64) (s := 54) (b := true) (.bool false) rfl rfl O13 P13 PE (by simp [lk_cons]) (by simp only [execOp]; (try simp only [PE]); (try simp only [lk_cons]); (try simp only [lk_nil]); (try simp only [E1]); (try simp only [E3]); (try simp only [E4]); go_simp; first | done | with_reducible rfl) ?_
                  refine stTg (d := 65) (s := 51) (b := false) (.bool false) rfl rfl O10 P10 PE (by simp [lk_cons]) (by simp only [execOp]; (try simp only [PE]); (try simp only [lk_cons]); (try simp only [lk_nil]); (try simp only [E1]); (try simp only [E3]); (try simp only [E4]); go_simp; first | done | with_reducible rfl) ?_
                  refine stTn (d := 66) (.bool false) rfl rfl (by simp only [execOp]; (try simp only [PE]); (try simp only [lk_cons]); (try simp only [lk_nil]); (try simp only [E1]); (try simp only [E3]); (try simp only [E4]); go_simp; first | done | with_reducible rfl) ?_
                  refine stTn (d := 67) (.bool false) rfl rfl (by simp only [execOp]; (try simp only [PE]); (try simp only [lk_cons]); (try simp only [lk_nil]); (try simp only [E1]); (try simp only [E3]); (try simp only [E4]); go_simp; first | done | with_reducible rfl) ?_
                  exact wpStill_nil ⟨_, rfl, _, _, _, _, _, _, _, _, _, _, _, _, _, _, _, _, rfl, Lib.hid ((by rw [decide_eq_false (by omega)]))⟩
            · refine stUg (d := 52) (s := 51) (b := false) rfl rfl O10 P10 PE (by simp [lk_cons]) ?_
              refine stUg (d := 53) (s := 51) (b := false) rfl rfl O10 P10 PE (by simp [lk_cons]) ?_
              refine stUg (d := 54) (s := 51) (b := false) rfl rfl O10 P10 PE (by simp [lk_cons]) ?_
              refine stUx (d := 55) (s := 54) (b := true) rfl rfl O13 P13 PE (by simp [lk_cons]) ?_
              refine stUx (d := 56) (s := 54) (b := true) rfl rfl O13 P13 PE (by simp [lk_cons]) ?_
              refine stUx (d := 57) (s := 54) (b := true) rfl rfl O13 P13 PE (by simp [lk_cons]) ?_
              refine stUx (d := 58) (s := 54) (b := true) rfl rfl O13 P13 PE (by simp [lk_cons]) ?_
              refine stUx (d := 59) (s := 54) (b := true) rfl rfl O13 P13 PE (by simp [lk_cons]) ?_
              refine stUx (d := 60) (s := 54) (b := true) rfl rfl O13 P13 PE (by simp [lk_cons]) ?_
              refine stUx (d := 61) (s := 54) (b := true) rfl rfl O13 P13 PE (by simp [lk_cons]) ?_
              refine stUx (d := 62) (s := 54) (b := true) rfl rfl O13 P13 PE (by simp [lk_cons]) ?_
              refine stUx (d := 63) (s := 54) (b := true) rfl rfl O13 P13 PE (by simp [lk_cons]) ?_
              refine stUx (d := 64) (s := 54) (b := true) rfl rfl O13 P13 PE (by simp [lk_cons]) ?_
              refine stUg (d := 65) (s := 51) (b := false) rfl rfl O10 P10 PE (by simp [lk_cons]) ?_
              refine stTn (d := 66) (.bool true) rfl rfl (by simp only [execOp]; (try simp only [PE]); (try simp only [lk_cons]); (try simp only [lk_nil]); (try simp only [E1]); (try simp only [E3]); (try simp only [E4]); go_simp; first | done | with_reducible rfl) ?_
              refine stTn (d := 67) (.bool true) rfl rfl (by simp only [execOp]; (try simp only [PE]); (try simp only [lk_cons]); (try simp only [lk_nil]); (try simp only [E1]); (try simp only [E3]); (try simp only [E4]); go_simp; first | done | with_reducible rfl) ?_
              exact wpStill_nil ⟨_, rfl, _, _, _, _, _, _, _, _, _, _, _, _, _, _, _, _, rfl, Lib.hid ((by have := of_decide_eq_true Hb2.out.symm; have := hl1.out; rw [decide_eq_true (by omega)]))⟩
          dsimp only [List.drop]
          rintro l' ⟨x52, x53, x54, x55, x56, x57, x58, x59, x60, x61, x62, x63, x64, x65, x66, b3, rfl, Hb3⟩
          refine stSeg 5 (fun l' => ∃ (x68 x69 x70 x71 : Value) (b4 : Bool), l' = [(72, .bool b4), (71, x71), (70, x70), (69, x69), (68, x68), (67, .bool b3), (66, x66), (65, x65), (64, x64), (63, x63), (62, x62), (61, x61), (60, x60), (59, x59), (58, x58), (57, x57), (56, x56), (55, x55), (54, x54), (53, x53), (52, x52), (51, .bool b2), (50, x50), (49, x49), (48, x48), (47, x47), (46, x46), (45, x45), (44, .bool b1), (43, x43), (42, x42), (41, x41)] ∧ Hid (b4 = (b3 || decide (y1 < 0)))) ?_ ?_
          · dsimp only [List.take]
            cases b3
            · by_cases ht : y1 < 0
              · refine stTg (d := 68) (s := 67) (b := false) _ rfl rfl O26 P26 PE (by simp [lk_cons]) (by simp only [execOp]; (try simp only [PE]); (try simp only [lk_cons]); (try simp only [lk_nil]); (try simp only [E1]); (try simp only [E3]); (try simp only [E4]); go_simp; first | done | with_reducible rfl) ?_
                refine stTg (d := 69) (s := 67) (b := false) _ rfl rfl O26 P26 PE (by simp [lk_cons]) (by simp only [execOp]; (try simp only [PE]); (try simp only [lk_cons]); (try simp only [lk_nil]); (try simp only [E1]); (try simp only [E3]); (try simp only [E4]); go_simp; first | done | with_reducible rfl) ?_
                refine stTg (d := 70) (s := 67) (b := false) (.bool true) rfl rfl O26 P26 PE (by simp [lk_cons]) (by simp only [execOp]; (try simp only [PE]); (try simp only [lk_cons]); (try simp only [lk_nil]); (try simp only [E1]); (try simp only [E3]); (try simp only [E4]); go_simp; first | done | with_reducible rfl) ?_
                refine stTn (d := 71) (.bool true) rfl rfl (by simp only [execOp]; (try simp only [PE]); (try simp only [lk_cons]); (try simp only [lk_nil]); (try simp only [E1]); (try simp only [E3]); (try simp only [E4]); go_simp; first | done | with_reducible rfl) ?_
                refine stTn (d := 72) (.bool true) rfl rfl (by simp only [execOp]; (try simp only [PE]); (try simp only [lk_cons]); (try simp only [lk_nil]); (try simp only [E1]); (try simp only [E3]); (try simp only [E4]); go_simp; first | done | with_reducible rfl) ?_
                exact wpStill_nil ⟨_, rfl, _, _, _, _, _, rfl, Lib.hid ((by simp [ht]))⟩
              · refine stTg (d := 68) (s := 67) (b := false) _ rfl rfl O26 P26 PE (by simp [lk_cons]) (by simp only [execOp]; (try simp only [PE]); (try simp only [lk_cons]); (try simp only [lk_nil]); (try simp only [E1]); (try simp only [E3]); (try simp only [E4]); go_simp; first | done | with_reducible rfl) ?_
                refine stTg (d := 69) (s := 67) (b := false) _ rfl rfl O26 P26 PE (by simp [lk_cons]) (by simp only [execOp]; (try simp only [PE]); (try simp only [lk_cons]); (try simp only [lk_nil]); (try simp only [E1]); (try simp only [E3]); (try simp only [E4]); go_simp; first | done | with_reducible rfl) ?_
                refine stTg (d := 70) (s := 67) (b := false) (.bool false) rfl rfl O26 P26 PE (by simp [lk_cons]) (by simp only [execOp]; (try simp only [PE]); (try simp only [lk_cons]); (try simp only [lk_nil]); (try simp only [E1]); (try simp only [E3]); (try simp only [E4]); go_simp; first | done | with_reducible rfl) ?_
                refine stTn (d := 71) (.bool false) rfl rfl (by simp only [execOp]; (try simp only [PE]); (try simp only [lk_cons]); (try simp only [lk_nil]); (try simp only [E1]); (try simp only [E3]); (try simp only [E4]); go_simp; first | done | with_reducible rfl) ?_
                refine stTn (d := 72) (.bool false) rfl rfl (by simp only [execOp]; (try simp only [PE]); (try simp only [lk_cons]); (try simp only [lk_nil]); (try simp only [E1]); (try simp only [E3]); (try simp only [E4]); go_simp; first | done | with_reducible rfl) ?_
                exact wpStill_nil ⟨_, rfl, _, _, _, _, _, rfl, Lib.hid ((by simp [ht]))⟩
            · refine stUg (d := 68) (s := 67) (b := false) rfl rfl O26 P26 PE (by simp [lk_cons]) ?_
              refine stUg (d := 69) (s := 67) (b := false) rfl rfl O26 P26 PE (by simp [lk_cons]) ?_
              refine stUg (d := 70) (s := 67) (b := false) rfl rfl O26 P26 PE (by simp [lk_cons]) ?_
              refine stTn (d := 71) (.bool true) rfl rfl (by simp only [execOp]; (try simp only [PE]); (try simp only [lk_cons]); (try simp only [lk_nil]); (try simp only [E1]); (try simp only [E3]); (try simp only [E4]); go_simp; first | done | with_reducible rfl) ?_
              refine stTn (d := 72) (.bool true) rfl rfl (by simp only [execOp]; (try simp only [PE]); (try simp only [lk_cons]); (try simp only [lk_nil]); (try simp only [E1]); (try simp only [E3]); (try simp only [E4]); go_simp; first | done | with_reducible rfl) ?_
              exact wpStill_nil ⟨_, rfl, _, _, _, _, _, rfl, Lib.hid ((by simp))⟩
          dsimp only [List.drop]
          rintro l' ⟨x68, x69, x70, x71, b4, rfl, Hb4⟩
          refine stSeg 5 (fun l' => ∃ (x73 x74 x75 x76 : Value) (b5 : Bool), l' = [(77, .bool b5), (76, x76), (75, x75), (74, x74), (73, x73), (72, .bool b4), (71, x71), (70, x70), (69, x69), (68, x68), (67, .bool b3), (66, x66), (65, x65), (64, x64), (63, x63), (62, x62), (61, x61), (60, x60), (59, x59), (58, x58), (57, x57), (56, x56), (55, x55), (54, x54), (53, x53), (52, x52), (51, .bool b2), (50, x50), (49, x49), (48, x48), (47, x47), (46, x46), (45, x45), (44, .bool b1), (43, x43), (42, x42), (41, x41)] ∧ Hid (b5 = (b4 || decide (65535 < y1)))) ?_ ?_
          · dsimp only [List.take]
            cases b4
            · by_cases ht : 65535 < y1
              · refine stTg (d := 73) (s := 72) (b := false) _ rfl rfl O31 P31 PE (by simp [lk_cons]) (by simp only [execOp]; (try simp only [PE]); (try simp only [lk_cons]); (try simp only [lk_nil]); (try simp only [E1]); (try simp only [E3]); (try simp only [E4]); go_simp; first | done | with_reducible rfl) ?_
                refine stTg (d := 74) (s := 72) (b := false) _ rfl rfl O31 P31 PE (by simp [lk_cons]) (by simp only [execOp]; (try simp only [PE]); (try simp only [lk_cons]); (try simp only [lk_nil]); (try simp only [E1]); (try simp only [E3]); (try simp only [E4]); go_simp; first | done | with_reducible rfl) ?_
                refine stTg (d := 75) (s := 72) (b := false) (.bool true) rfl rfl O31 P31 PE (by simp [lk_cons]) (by simp only [execOp]; (try simp only [PE]); (try simp only [lk_cons]); (try simp only [lk_nil]); (try simp only [E1]); (try simp only [E3]); (try simp only [E4]); go_simp; first | done | with_reducible rfl) ?_
                refine stTn (d := 76) (.bool true) rfl rfl (by simp only [execOp]; (try simp only [PE]); (try simp only [lk_cons]); (try simp only [lk_nil]); (try simp only [E1]); (try simp only [E3]); (try simp only [E4]); go_simp; first | done | with_reducible rfl) ?_
                refine stTn (d := 77) (.bool true) rfl rfl (by simp only [execOp]; (try simp only [PE]); (try simp only [lk_cons]); (try simp only [lk_nil]); (try simp only [E1]); (try simp only [E3]); (try simp only [E4]); go_simp; first | done | with_reducible rfl) ?_
                exact wpStill_nil ⟨_, rfl, _, _, _, _, _, rfl, Lib.hid ((by simp [ht]))⟩
              · refine stTg (d := 73) (s := 72) (b := false) _ rfl rfl O31 P31 PE (by simp [lk_cons]) (by simp only [execOp]; (try simp only [PE]); (try simp only [lk_cons]); (try simp only [lk_nil]); (try simp only [E1]); (try simp only [E3]); (try simp only [E4]); go_simp; first | done | with_reducible rfl) ?_
                refine stTg (d := 74) (s := 72) (b := false) _ rfl rfl O31 P31 PE (by simp [lk_cons]) (by simp only [execOp]; (try simp only [PE]); (try simp only [lk_cons]); (try simp only [lk_nil]); (try simp only [E1]); (try simp only [E3]); (try simp only [E4]); go_simp; first | done | with_reducible rfl) ?_
                refine stTg (d := 75) (s := 72) (b := false) (.bool false) rfl rfl O31 P31 PE (by simp [lk_cons]) (by simp only [execOp]; (try simp only [PE]); (try simp only [lk_cons]); (try simp only [lk_nil]); (try simp only [E1]); (try simp only [E3]); (try simp only [E4]); go_simp; first | done | with_reducible rfl) ?_
                refine stTn (d := 76) (.bool false) rfl rfl (by simp only [execOp]; (try simp only [PE]); (try simp only [lk_cons]); (try simp only [lk_nil]); (try simp only [E1]); (try simp only [E3]); (try simp only [E4]); go_simp; first | done | with_reducible rfl) ?_
                refine stTn (d := 77) (.bool false) rfl rfl (by simp only [execOp]; (try simp only [PE]); (try simp only [lk_cons]); (try simp only [lk_nil]); (try simp only [E1]); (try simp only [E3]); (try simp only [E4]); go_simp; first | done | with_reducible rfl) ?_
                exact wpStill_nil ⟨_, rfl, _, _, _, _, _, rfl, Lib.hid ((by simp [ht]))⟩
            · refine stUg (d := 73) (s := 72) (b := false) rfl rfl O31 P31 PE (by simp [lk_cons]) ?_
              refine stUg (d := 74) (s := 72) (b := false) rfl rfl O31 P31 PE (by simp [lk_cons]) ?_
              refine stUg (d := 75) (s := 72) (b := false) rfl rfl O31 P31 PE (by simp [lk_cons]) ?_
              refine stTn (d := 76) (.bool true) rfl rfl (by simp only [execOp]; (try simp only [PE]); (try simp only [lk_cons]); (try simp only [lk_nil]); (try simp only [E1]); (try simp only [E3]); (try simp only [E4]); go_simp; first | done | with_reducible rfl) ?_
              refine stTn (d := 77) (.bool true) rfl rfl (by simp only [execOp]; (try simp only [PE]); (try simp only [lk_cons]); (try simp only [lk_nil]); (try simp only [E1]); (try simp only [E3]); (try simp only [E4]); go_simp; first | done | with_reducible rfl) ?_
              exact wpStill_nil ⟨_, rfl, _, _, _, _, _, rfl, Lib.hid ((by simp))⟩
          dsimp only [List.drop]
          rintro l' ⟨x73, x74, x75, x76, b5, rfl, Hb5⟩
          refine stSeg 5 (fun l' => ∃ (x78 x79 x80 x81 : Value) (b6 : Bool), l' = [(82, .bool b6), (81, x81), (80, x80), (79, x79), (78, x78), (77, .bool b5), (76, x76), (75, x75), (74, x74), (73, x73), (72, .bool b4), (71, x71), (70, x70), (69, x69), (68, x68), (67, .bool b3), (66, x66), (65, x65), (64, x64), (63, x63), (62, x62), (61, x61), (60, x60), (59, x59), (58, x58), (57, x57), (56, x56), (55, x55), (54, x54), (53, x53), (52, x52), (51, .bool b2), (50, x50), (49, x49), (48, x48), (47, x47), (46, x46), (45, x45), (44, .bool b1), (43, x43), (42, x42), (41, x41)] ∧ Hid (b6 = (b5 || decide (y2 < 0)))) ?_ ?_
          · dsimp only [List.take]
            cases b5
            · by_cases ht : y2 < 0
              · refine stTg (d := 78) (s := 77) (b := false) _ rfl rfl O36 P36 PE (by simp [lk_cons]) (by simp only [execOp]; (try simp only [PE]); (try simp only [lk_cons]); (try simp only [lk_nil]); (try simp only [E1]); (try simp only [E3]); (try simp only [E4]); go_simp; first | done | with_reducible rfl) ?_
                refine stTg (d := 79) (s := 77) (b := false) _ rfl rfl O36 P36 PE (by simp [lk_cons]) (by simp only [execOp]; (try simp only [PE]); (try simp only [lk_cons]); (try simp only [lk_nil]); (try simp only [E1]); (try simp only [E3]); (try simp only [E4]); go_simp; first | done | with_reducible rfl) ?_
                refine stTg (d := 80) (s := 77) (b := false) (.bool true) rfl rfl O36 P36 PE (by simp [lk_cons]) (by simp only [execOp]; (try simp only [PE]); (try simp only [lk_cons]); (try simp only [lk_nil]); (try simp only [E1]); (try simp only [E3]); (try simp only [E4]); go_simp; first | done | with_reducible rfl) ?_
                refine stTn (d := 81) (.bool true) rfl rfl (by simp only [execOp]; (try simp only [PE]); (try simp only [lk_cons]); (try simp only [lk_nil]); (try simp only [E1]); (try simp only [E3]); (try simp only [E4]); go_simp; first | done | with_reducible rfl) ?_
                refine stTn (d := 82) (.bool true) rfl rfl (by simp only [execOp]; (try simp only [PE]); (try simp only [lk_cons]); (try simp only [lk_nil]); (try simp only [E1]); (try simp only [E3]); (try simp only [E4]); go_simp; first | done | with_reducible rfl) ?_
                exact wpStill_nil ⟨_, rfl, _, _, _, _, _, rfl, Lib.hid ((by simp [ht]))⟩
              · refine stTg (d := 78) (s := 77) (b := false) _ rfl rfl O36 P36 PE (by simp [lk_cons]) (by simp only [execOp]; (try simp only [PE]); (try simp only [lk_cons]); (try simp only [lk_nil]); (try simp only [E1]); (try simp only [E3]); (try simp only [E4]); go_simp; first | done | with_reducible rfl) ?_
                refine stTg (d := 79) (s := 77) (b := false) _ rfl rfl O36 P36 PE (by simp [lk_cons]) (by simp only [execOp]; (try simp only [PE]); (try simp only [lk_cons]); (try simp only [lk_nil]); (try simp only [E1]); (try simp only [E3]); (try simp only [E4]); go_simp; first | done | with_reducible rfl) ?_
                refine stTg (d := 80) (s := 77) (b := false) (.bool false) rfl rfl O36 P36 PE (by simp [lk_cons]) (by simp only [execOp]; (try simp only [PE]); (try simp only [lk_cons]); (try simp only [lk_nil]); (try simp only [E1]); (try simp only [E3]); (try simp only [E4]); go_simp; first | done | with_reducible rfl) ?_
                refine stTn (d := 81) (.bool false) rfl rfl (by simp only [execOp]; (try simp only [PE]); (try simp only [lk_cons]); (try simp only [lk_nil]); (try simp only [E1]); (try simp only [E3]); (try simp only [E4]); go_simp; first | done | with_reducible rfl) ?_
                refine stTn (d := 82) (.bool false) rfl rfl (by simp only [execOp]; (try simp only [PE]); (try simp only [lk_cons]); (try simp only [lk_nil]); (try simp only [E1]); (try simp only [E3]); (try simp only [E4]); go_simp; first | done | with_reducible rfl) ?_
                exact wpStill_nil ⟨_, rfl, _, _, _, _, _, rfl, Lib.hid ((by simp [ht]))⟩
            · refine stUg (d := 78) (s := 77) (b := false) rfl rfl O36 P36 PE (by simp [lk_cons]) ?_
              refine stUg (d := 79) (s := 77) (b := false) rfl rfl O36 P36 PE (by simp [lk_cons]) ?_
              refine stUg (d := 80) (s := 77) (b := false) rfl rfl O36 P36 PE (by simp [lk_cons]) ?_
              refine stTn (d := 81) (.bool true) rfl rfl (by simp only [execOp]; (try simp only [PE]); (try simp only [lk_cons]); (try simp only [lk_nil]); (try simp only [E1]); (try simp only [E3]); (try simp only [E4]); go_simp; first | done | with_reducible rfl) ?_
              refine stTn (d := 82) (.bool true) rfl rfl (by simp only [execOp]; (try simp only [PE]); (try simp only [lk_cons]); (try simp only [lk_nil]); (try simp only [E1]); (try simp only [E3]); (try simp only [E4]); go_simp; first | done | with_reducible rfl) ?_
              exact wpStill_nil ⟨_, rfl, _, _, _, _, _, rfl, Lib.hid ((by simp))⟩
          dsimp only [List.drop]
          rintro l' ⟨x78, x79, x80, x81, b6, rfl, Hb6⟩
          refine stSeg 5 (fun l' => ∃ (x83 x84 x85 x86 : Value) (b7 : Bool), l' = [(87, .bool b7), (86, x86), (85, x85), (84, x84), (83, x83), (82, .bool b6), (81, x81), (80, x80), (79, x79), (78, x78), (77, .bool b5), (76, x76), (75, x75), (74, x74), (73, x73), (72, .bool b4), (71, x71), (70, x70), (69, x69), (68, x68), (67, .bool b3), (66, x66), (65, x65), (64, x64), (63, x63), (62, x62), (61, x61), (60, x60), (59, x59), (58, x58), (57, x57), (56, x56), (55, x55), (54, x54), (53, x53), (52, x52), (51, .bool b2), (50, x50), (49, x49), (48, x48), (47, x47), (46, x46), (45, x45), (44, .bool b1), (43, x43), (42, x42), (41, x41)] ∧ Hid (b7 = (b6 || decide (3 < y2)))) ?_ ?_
          · dsimp only [List.take]
            cases b6
            · by_cases ht : 3 < y2
              · refine stTg (d := 83) (s := 82) (b := false) _ rfl rfl O41 P41 PE (by simp [lk_cons]) (by simp only [execOp]; (try simp only [PE]); (try simp only [lk_cons]); (try simp only [lk_nil]); (try simp only [E1]); (try simp only [E3]); (try simp only [E4]); go_simp; first | done | with_reducible rfl) ?_
                refine stTg (d := 84) (s := 82) (b := false) _ rfl rfl O41 P41 PE (by simp [lk_cons]) (by simp only [execOp]; (try simp only [PE]); (try simp only [lk_cons]); (try simp only [lk_nil]); (try simp only [E1]); (try simp only [E3]); (try simp only [E4]); go_simp; first | done | with_reducible rfl) ?_
                refine stTg (d := 85) (s := 82) (b := false) (.bool true) rfl rfl O41 P41 PE (by simp [lk_cons]) (by simp only [execOp]; (try simp only [PE]); (try simp only [lk_cons]); (try simp only [lk_nil]); (try simp only [E1]); (try simp only [E3]); (try simp only [E4]); go_simp; first | done | with_reducible rfl) ?_
                refine stTn (d := 86) (.bool true) rfl rfl (by simp only [execOp]; (try simp only [PE]); (try simp only [lk_cons]); (try simp only [lk_nil]); (try simp only [E1]); (try simp only [E3]); (try simp only [E4]); go_simp; first | done | with_reducible rfl) ?_
                refine stTn (d := 87) (.bool true) rfl rfl (by simp only [execOp]; (try simp only [PE]); (try simp only [lk_cons]); (try simp only [lk_nil]); (try simp only [E1]); (try simp only [E3]); (try simp only [E4]); go_simp; first | done | with_reducible rfl) ?_
                exact wpStill_nil ⟨_, rfl, _, _, _, _, _, rfl, Lib.hid ((by simp [ht]))⟩
              · refine stTg (d := 83) (s := 82) (b := false) _ rfl rfl O41 P41 PE (by simp [lk_cons]) (by simp only [execOp]; (try simp only [PE]); (try simp only [lk_cons]); (try simp only [lk_nil]); (try simp only [E1]); (try simp only [E3]); (try simp only [E4]); go_simp; first | done | with_reducible rfl) ?_
                refine stTg (d := 84) (s := 82) (b := false) _ rfl rfl O41 P41 PE (by simp [lk_cons]) (by simp only [execOp]; (try simp only [PE]); (try simp only [lk_cons]); (try simp only [lk_nil]); (try simp only [E1]); (try simp only [E3]); (try simp only [E4]); go_simp; first | done | with_reducible rfl) ?_
                refine stTg (d := 85) (s := 82) (b := false) (.bool false) rfl rfl O41 P41 PE (by simp [lk_cons]) (by simp only [execOp]; (try simp only [PE]); (try simp only [lk_cons]); (try simp only [lk_nil]); (try simp only [E1]); (try simp only [E3]); (try simp only [E4]); go_simp; first | done | with_reducible rfl) ?_
                refine stTn (d := 86) (.bool false) rfl rfl (by simp only [execOp]; (try simp only [PE]); (try simp only [lk_cons]); (try simp only [lk_nil]); (try simp only [E1]); (try simp only [E3]); (try simp only [E4]); go_simp; first | done | with_reducible rfl) ?_
                refine stTn (d := 87) (.bool false) rfl rfl (by simp only [execOp]; (try simp only [PE]); (try simp only [lk_cons]); (try simp only [lk_nil]); (try simp only [E1]); (try simp only [E3]); (try simp only [E4]); go_simp; first | done | with_reducible rfl) ?_
                exact wpStill_nil ⟨_, rfl, _, _, _, _, _, rfl, Lib.hid ((by simp [ht]))⟩
            · refine stUg (d := 83) (s := 82) (b := false) rfl rfl O41 P41 PE (by simp [lk_cons]) ?_
              refine stUg (d := 84) (s := 82) (b := false) rfl rfl O41 P41 PE (by simp [lk_cons]) ?_
              refine stUg (d := 85) (s := 82) (b := false) rfl rfl O41 P41 PE (by simp [lk_cons]) ?_
              refine stTn (d := 86) (.bool true) rfl rfl (by simp only [execOp]; (try simp only [PE]); (try simp only [lk_cons]); (try simp only [lk_nil]); (try simp only [E1]); (try simp only [E3]); (try simp only [E4]); go_simp; first | done | with_reducible rfl) ?_
              refine stTn (d := 87) (.bool true) rfl rfl (by simp only [execOp]; (try simp only [PE]); (try simp only [lk_cons]); (try simp only [lk_nil]); (try simp only [E1]); (try simp only [E3]); (try simp only [E4]); go_simp; first | done | with_reducible rfl) ?_
              exact wpStill_nil ⟨_, rfl, _, _, _, _, _, rfl, Lib.hid ((by simp))⟩
          dsimp only [List.drop]
          rintro l' ⟨x83, x84, x85, x86, b7, rfl, Hb7⟩
          refine stSeg 8 (fun l' => ∃ (x88 x89 x90 x91 x92 x93 x94 : Value) (b8 : Bool), l' = [(95, .bool b8), (94, x94), (93, x93), (92, x92), (91, x91), (90, x90), (89, x89), (88, x88), (87, .bool b7), (86, x86), (85, x85), (84, x84), (83, x83), (82, .bool b6), (81, x81), (80, x80), (79, x79), (78, x78), (77, .bool b5), (76, x76), (75, x75), (74, x74), (73, x73), (72, .bool b4), (71, x71), (70, x70), (69, x69), (68, x68), (67, .bool b3), (66, x66), (65, x65), (64, x64), (63, x63), (62, x62), (61, x61), (60, x60), (59, x59), (58, x58), (57, x57), (56, x56), (55, x55), (54, x54), (53, x53), (52, x52), (51, .bool b2), (50, x50), (49, x49), (48, x48), (47, x47), (46, x46), (45, x45), (44, .bool b1), (43, x43), (42, x42), (41, x41)] ∧ Hid (b8 = (b7 || (y4 && !y3)))) ?_ ?_
          · dsimp only [List.take]
            cases b7
            · cases y4
              · refine stTg (d := 88) (s := 87) (b := false) _ rfl rfl O46 P46 PE (by simp [lk_cons]) (by simp only [execOp]; (try simp only [PE]); (try simp only [lk_cons]); (try simp only [lk_nil]); (try simp only [E1]); (try simp only [E3]); (try simp only [E4]); go_simp; first | done | with_reducible rfl) ?_
                refine stTg (d := 89) (s := 87) (b := false) (.bool false) rfl rfl O46 P46 PE (by simp [lk_cons]) (by simp only [execOp]; (try simp only [PE]); (try simp only [lk_cons]); (try simp only [lk_nil]); (try simp only [E1]); (try simp only [E3]); (try simp only [E4]); go_simp; first | done | with_reducible rfl) ?_
                refine stTg (d := 90) (s := 87) (b := false) (.bool false) rfl rfl O46 P46 PE (by simp [lk_cons]) (by simp only [execOp]; (try simp only [PE]); (try simp only [lk_cons]); (try simp only [lk_nil]); (try simp only [E1]); (try simp only [E3]); (try simp only [E4]); go_simp; first | done | with_reducible rfl) ?_
                refine stUg (d := 91) (s := 90) (b := true) rfl rfl O49 P49 PE (by simp [lk_cons]) ?_
                refine stUg (d := 92) (s := 90) (b := true) rfl rfl O49 P49 PE (by simp [lk_cons]) ?_
                refine stUg (d := 93) (s := 90) (b := true) rfl rfl O49 P49 PE (by simp [lk_cons]) ?_
                refine stTg (d := 94) (s := 87) (b := false) (.bool false) rfl rfl O46 P46 PE (by simp [lk_cons]) (by simp only [execOp]; (try simp only [PE]); (try simp only [lk_cons]); (try simp only [lk_nil]); (try simp only [E1]); (try simp only [E3]); (try simp only [E4]); go_simp; first | done | with_reducible rfl) ?_
                refine stTn (d := 95) (.bool false) rfl rfl (by simp only [execOp]; (try simp only [PE]); (try simp only [lk_cons]); (try simp only [lk_nil]); (try simp only [E1]); (try simp only [E3]); (try simp only [E4]); go_simp; first | done | with_reducible rfl) ?_
                exact wpStill_nil ⟨_, rfl, _, _, _, _, _, _, _, _, rfl, Lib.hid ((by simp))⟩
              cases y3
              · refine stTg (d := 88) (s := 87) (b := false) _ rfl rfl O46 P46 PE (by simp [lk_cons]) (by simp only [execOp]; (try simp only [PE]); (try simp only [lk_cons]); (try simp only [lk_nil]); (try simp only [E1]); (try simp only [E3]); (try simp only [E4]); go_simp; first | done | with_reducible rfl) ?_
                refine stTg (d := 89) (s := 87) (b := false) (.bool true) rfl rfl O46 P46 PE (by simp [lk_cons]) (by simp only [execOp]; (try simp only [PE]); (try simp only [lk_cons]); (try simp only [lk_nil]); (try simp only [E1]); (try simp only [E3]); (try simp only [E4]); go_simp; first | done | with_reducible rfl) ?_
                refine stTg (d := 90) (s := 87) (b := false) (.bool true) rfl rfl O46 P46 PE (by simp [lk_cons]) (by simp only [execOp]; (try simp only [PE]); (try simp only [lk_cons]); (try simp only [lk_nil]); (try simp only [E1]); (try simp only [E3]); (try simp only [E4]); go_simp; first | done | with_reducible rfl) ?_
                refine stTg (d := 91) (s := 90) (b := true) _ rfl rfl O49 P49 PE (by simp [lk_cons]) (by simp only [execOp]; (try simp only [PE]); (try simp only [lk_cons]); (try simp only [lk_nil]); (try simp only [E1]); (try simp only [E3]); (try simp only [E4]); go_simp; first | done | with_reducible rfl) ?_
                refine stTg (d := 92) (s := 90) (b := true) (.bool false) rfl rfl O49 P49 PE (by simp [lk_cons]) (by simp only [execOp]; (try simp only [PE]); (try simp only [lk_cons]); (try simp only [lk_nil]); (try simp only [E1]); (try simp only [E3]); (try simp only [E4]); go_simp; first | done | with_reducible rfl) ?_
                refine stTg (d := 93) (s := 90) (b := true) (.bool true) rfl rfl O49 P49 PE (by simp [lk_cons]) (by simp only [execOp]; (try simp only [PE]); (try simp only [lk_cons]); (try simp only [lk_nil]); (try simp only [E1]); (try simp only [E3]); (try simp only [E4]); go_simp; first | done | with_reducible rfl) ?_
                refine stTg (d := 94) (s := 87) (b := false) (.bool true) rfl rfl O46 P46 PE (by simp [lk_cons]) (by simp only [execOp]; (try simp only [PE]); (try simp only [lk_cons]); (try simp only [lk_nil]); (try simp only [E1]); (try simp only [E3]); (try simp only [E4]); go_simp; first | done | with_reducible rfl) ?_
                refine stTn (d := 95) (.bool true) rfl rfl (by simp only [execOp]; (try simp only [PE]); (try simp only [lk_cons]); (try simp only [lk_nil]); (try simp only [E1]); (try simp only [E3]); (try simp only [E4]); go_simp; first | done | with_reducible rfl) ?_
                exact wpStill_nil ⟨_, rfl, _, _, _, _, _, _, _, _, rfl, Lib.hid ((by simp))⟩
              · refine stTg (d := 88) (s := 87) (b := false) _ rfl rfl O46 P46 PE (by simp [lk_cons]) (by simp only [execOp]; (try simp only [PE]); (try simp only [lk_cons]); (try simp only [lk_nil]); (try simp only [E1]); (try simp only [E3]); (try simp only [E4]); go_simp; first | done | with_reducible rfl) ?_
                refine stTg (d := 89) (s := 87) (b := false) (.bool true) rfl rfl O46 P46 PE (by simp [lk_cons]) (by simp only [execOp]; (try simp only [PE]); (try simp only [lk_cons]); (try simp only [lk_nil]); (try simp only [E1]); (try simp only [E3]); (try simp only [E4]); go_simp; first | done | with_reducible rfl) ?_
                refine stTg (d := 90) (s := 87) (b := false) (.bool true) rfl rfl O46 P46 PE (by simp [lk_cons]) (by simp only [execOp]; (try simp only [PE]); (try simp only [lk_cons]); (try simp only [lk_nil]); (try simp only [E1]); (try simp only [E3]); (try simp only [E4]); go_simp; first | done | with_reducible rfl) ?_
                refine stTg (d := 91) (s := 90) (b := true) _ rfl rfl O49 P49 PE (by simp [lk_cons]) (by simp only [execOp]; (try simp only [PE]); (try simp only [lk_cons]); (try simp only [lk_nil]); (try simp only [E1]); (try simp only [E3]); (try simp only [E4]); go_simp; first | done | with_reducible rfl) ?_
                refine stTg (d := 92) (s := 90) (b := true) (.bool true) rfl rfl O49 P49 PE (by simp [lk_cons]) (by simp only [execOp]; (try simp only [PE]); (try simp only [lk_cons]); (try simp only [lk_nil]); (try simp only [E1]); (try simp only [E3]); (try simp only [E4]); go_simp; first | done | with_reducible rfl) ?_
                refine stTg (d := 93) (s := 90) (b := true) (.bool false) rfl rfl O49 P49 PE (by simp [lk_cons]) (by simp only [execOp]; (try simp only [PE]); (try simp only [lk_cons]); (try simp only [lk_nil]); (try simp only [E1]); (try simp only [E3]); (try simp only [E4]); go_simp; first | done | with_reducible rfl) ?_
                refine stTg (d := 94) (s := 87) (b := false) (.bool false) rfl rfl O46 P46 PE (by simp [lk_cons]) (by simp only [execOp]; (try simp only [PE]); (try simp only [lk_cons]); (try simp only [lk_nil]); (try simp only [E1]); (try simp only [E3]); (try simp only [E4]); go_simp; first | done | with_reducible rfl) ?_
                refine stTn (d := 95) (.bool false) rfl rfl (by simp only [execOp]; (try simp only [PE]); (try simp only [lk_cons]); (try simp only [lk_nil]); (try simp only [E1]); (try simp only [E3]); (try simp only [E4]); go_simp; first | done | with_reducible rfl) ?_
                exact wpStill_nil ⟨_, rfl, _, _, _, _, _, _, _, _, rfl, Lib.hid ((by simp))⟩
            · refine stUg (d := 88) (s := 87) (b := false) rfl rfl O46 P46 PE (by simp [lk_cons]) ?_
              refine stUg (d := 89) (s := 87) (b := false) rfl rfl O46 P46 PE (by simp [lk_cons]) ?_
              refine stUg (d := 90) (s := 87) (b := false) rfl rfl O46 P46 PE (by simp [lk_cons]) ?_
              refine stUx (d := 91) (s := 90) (b := true) rfl rfl O49 P49 PE (by simp [lk_cons]) ?_
              refine stUx (d := 92) (s := 90) (b := true) rfl rfl O49 P49 PE (by simp [lk_cons]) ?_
              refine stUx (d := 93) (s := 90) (b := true) rfl rfl O49 P49 PE (by simp [lk_cons]) ?_
              refine stUg (d := 94) (s := 87) (b := false) rfl rfl O46 P46 PE (by simp [lk_cons]) ?_
              refine stTn (d := 95) (.bool true) rfl rfl (by simp only [execOp]; (try simp only [PE]); (try simp only [lk_cons]); (try simp only [lk_nil]); (try simp only [E1]); (try simp only [E3]); (try simp only [E4]); go_simp; first | done | with_reducible rfl) ?_
              exact wpStill_nil ⟨_, rfl, _, _, _, _, _, _, _, _, rfl, Lib.hid ((by simp))⟩
          dsimp only [List.drop]
          rintro l' ⟨x88, x89, x90, x91, x92, x93, x94, b8, rfl, Hb8⟩
          refine wpStill_nil (HQQ.out _ ?_)
          rw [HA0.out]
          simp only [pc_cons, pc_nil, Act.put, List.setIfInBounds_toArray, List.set]
          have HF : Hid (sideD id la ⟨y0, y1, y2, y3, y4, y5, y6, y7⟩ = !b8) := Lib.hid (by rw [side_eq, Hb8.out, Hb7.out, Hb6.out, Hb5.out, Hb4.out, Hb3.out])
          go_wp2_with fail
          go_meet
          exact ⟨b8, rfl, HF, XD⟩
        case rest =>
          obtain ⟨b, rfl, HB, HXB⟩ := hcut
          have HX2 := Lib.hid (X1.out.trans HXB.out)
          cases b
          · have HG := Lib.hid (HOK.out.trans HB.out)
            go_wp2
            go_roundw
            case rel => exact ⟨k + 1, by omega, by go_num, HG, HX2⟩
            case measure => simp [intOf]; omega
          · have HF := Lib.hid (HBAD.out HB.out)
            go_wp2
            go_ret
            exact ⟨ret_bool HF.out, X0.out.trans HX2.out⟩
      · have hkl : k = L.length := by omega
        have HF : Hid (true = t) := Lib.hid (by have := HQ.out; rw [hkl, List.take_length] at this; rw [← HD.out, this])
        go_wp2
        go_ret
        exact ⟨ret_bool HF.out, X0.out.trans HX.out⟩

end Go.Proofs.Ytpjpjchnfllcmaa

/- Layer 13, the document's answers: the first rule that applies. -/
namespace Go.Proofs.Ytpjpjchnfllcmaa
open Go.RowKit

theorem eatK {α : Type} (f : α → α) (L : List α) (k : Nat) (s : α) (hs : L[k]? = some s) : ((L.take k).map f ++ L.drop k).set k (f s) = (L.take (k + 1)).map f ++ L.drop (k + 1) := by
  have hk := (List.getElem?_eq_some_iff.1 hs).1
  have hl : ((L.take k).map f).length = k := by rw [List.length_map, List.length_take]; omega
  have he : L.drop k = s :: L.drop (k + 1) := by
    have := (List.getElem?_eq_some_iff.1 hs).2
    rw [← this, List.getElem_cons_drop hk]
  rw [List.take_succ_eq_append_getElem hk, (List.getElem?_eq_some_iff.1 hs).2, List.map_append, he, List.set_append_right _ _ (by omega), hl, Nat.sub_self]
  simp
theorem eatK_at {α : Type} (f : α → α) (L : List α) (k : Nat) (s : α) (hs : L[k]? = some s) : ((L.take k).map f ++ L.drop k)[k]? = some s ∧ ((L.take k).map f ++ L.drop k).length = L.length := by
  have hk := (List.getElem?_eq_some_iff.1 hs).1
  have hl : ((L.take k).map f).length = k := by rw [List.length_map, List.length_take]; omega
  refine ⟨?_, by rw [List.length_append, hl, List.length_drop]; omega⟩
  rw [List.getElem?_append_right (by omega), hl, Nat.sub_self, List.getElem?_drop, Nat.add_zero]
  exact hs
theorem all_nextU {L : List Sd} {k : Nat} {s : Sd} (p : Sd → Bool) (h : L[k]? = some s) : (L.take (k + 1)).all p = ((L.take k).all p && p s) := by
  have hk := (List.getElem?_eq_some_iff.1 h).1
  rw [List.take_succ_eq_append_getElem hk, (List.getElem?_eq_some_iff.1 h).2, List.all_append]
  simp

theorem slNoneU {α : Type} [Elem α] (w : World) : Sl w (.slice none 0 0) ([] : List α) := (Sa.nil (fun _ => False) w).sl
theorem extU2 {w wr W : World} {o : Obj} (h : Ext w wr) (e : W = wr.alloc o) : Ext w W := e ▸ h.alloc _
theorem slOffU {α : Type} [Elem α] {w w' : World} {v : Value} {xs : List α} {g n : Nat} (h : Sl w v xs) (hv : ∀ b, v.ownBlock = some b → n ≤ b) (o : Off (fun b => b = g) w w') (hg : g < n) : Sl w' v xs :=
  h.off (.inr fun b hb e => by have := hv b hb; omega) o
theorem slOffW {α : Type} [Elem α] {w w' : World} {v : Value} {xs : List α} {g : Nat} (h : Sl w v xs) (hv : xs = [] ∨ ∀ b, v.ownBlock = some b → b ≠ g) (o : Off (fun b => b = g) w w') : Sl w' v xs :=
  h.off (hv.imp id fun h b hb e => h b hb e) o

def GivesOne (w : World) (d : Dn) (v : Value) (e : Ending) (w' : World) : Prop := ∃ (d' : Dn) (l : List Ml) (b : Bool) (v' vl : Value), e = .returned (.tuple #[.agg #[.int .i64 d'.id, .int .i64 d'.phase, v'], vl, .bool b]) ∧ One d d' l b ∧ Sl w' v' d'.sides ∧ Sl w' vl l ∧ Ext w w' ∧ (v' = v ∨ ∀ b, v'.ownBlock = some b → w.heap.size ≤ b) ∧ ∀ b, vl.ownBlock = some b → w.heap.size ≤ b

set_option maxRecDepth 100000 in
set_option maxHeartbeats 8000000 in
theorem refOne_any (w : World) (id ph : Int) (v : Value) (L : List Sd) (h : Sl w v L) (hl : L.length ≤ 1000) :
    Calls Try.prog 82 #[.agg #[.int .i64 id, .int .i64 ph, v]] w (GivesOne w ⟨id, ph, L⟩ v) := by
  obtain ⟨ao, c, rfl⟩ := h.len
  have hlen := h.length_le
  have HS := Lib.hid h
  have HK : Hid (∀ V, Ext ((w.alloc (.cells #[.int .i64 id, .int .i64 ph, .slice ao L.length c] 25)).alloc (.cells #[.int .i64 0, .int .i64 0, .slice none 0 0] 25)) V → V.heap[w.heap.size]? = some (.cells #[.int .i64 id, .int .i64 ph, .slice ao L.length c] 25 (0, 0)) ∧ V.heap[w.heap.size + 1]? = some (.cells #[.int .i64 0, .int .i64 0, .slice none 0 0] 25 (0, 0))) := Lib.hid fun V hV => ⟨keepU (old1 (at0 w _) _) hV, keepU (at1 w _ _) hV⟩
  have X0 : Hid (Ext w ((w.alloc (.cells #[.int .i64 id, .int .i64 ph, .slice ao L.length c] 25)).alloc (.cells #[.int .i64 0, .int .i64 0, .slice none 0 0] 25))) := Lib.hid (((Ext.refl w).alloc _).alloc _)
  have hbs : ((w.alloc (.cells #[.int .i64 id, .int .i64 ph, .slice ao L.length c] 25)).alloc (.cells #[.int .i64 0, .int .i64 0, .slice none 0 0] 25)).heap.size = w.heap.size + 2 := by rw [size_alloc, size_alloc]
  have HBS := Lib.hid hbs
  clear h hbs
  go_enter Try.func82, Try.ntmps82
  go_wp2
  go_loopw [5] (fun i wr => ∃ k : Nat, k ≤ L.length ∧ i = .int .i64 k ∧ Hid ((L.take k).all (calm ph) = true) ∧ Hid (Ext ((w.alloc (.cells #[.int .i64 id, .int .i64 ph, .slice ao L.length c] 25)).alloc (.cells #[.int .i64 0, .int .i64 0, .slice none 0 0] 25)) wr)) (fun i _ => L.length - (intOf i).toNat)
  case atStart => exact ⟨0, Nat.zero_le _, rfl, Lib.hid (by simp), Lib.hid (Ext.refl _)⟩
  case round =>
    obtain ⟨k, hk, rfl, HQ, HX⟩ := hrel
    have hsz := Below.size HX.out
    rw [HBS.out] at hsz
    obtain ⟨kd, kr⟩ := HK.out wr HX.out
    have d0 := blk_cell kd 0 rfl
    have d1 := blk_cell kd 1 rfl
    have d2 := blk_cell kd 2 rfl
    have KD := Lib.hid kd
    have KR := Lib.hid kr
    clear kd kr
    by_cases hlt : k < L.length
    · obtain ⟨b1, off, s, hsy, hsj, rfl, hn, hnc, hc63, hb, hcs⟩ := HS.out.sidesAt hlt
      obtain ⟨⟨⟨x0, x1⟩, x2, x3⟩, ⟨x4, x5⟩, x6, x7⟩ := hcs wr (X0.out.trans HX.out)
      have HSJ := Lib.hid hsj
      have HN := Lib.hid (all_nextU (calm ph) hsj)
      obtain ⟨W1, hW1⟩ : ∃ W1, W1 = wr.alloc (.cells s.cs 53) := ⟨_, rfl⟩
      have X1 := Lib.hid (extU2 HX.out hW1)
      have D1 : Hid (W1.heap[wr.heap.size]? = some (.cells s.cs 53 (0, 0))) := Lib.hid (hW1 ▸ at0 wr _)
      have hs1 : W1.heap.size = wr.heap.size + 1 := by rw [hW1, size_alloc]
      have HW1 := Lib.hid hW1
      clear hsy hsj hcs hn hW1
      obtain ⟨y0, y1, y2, y3, y4, y5, y6, y7⟩ := s
      dsimp only at x0 x1 x2 x3 x4 x5 x6 x7
      dsimp only [Sd.cs] at HW1 D1
      go_upto_region 5 with (fail)
      rw [← HW1.out]
      clear x0 x1 x2 x3 x4 x5 x6 x7 d0 d1 d2 KD KR
      obtain ⟨kd, kr⟩ := HK.out W1 X1.out
      have d0 := blk_cell kd 0 rfl
      have d1 := blk_cell kd 1 rfl
      have d2 := blk_cell kd 2 rfl
      have KD := Lib.hid kd
      have KR := Lib.hid kr
      obtain ⟨⟨⟨x0, x1⟩, x2, x3⟩, ⟨x4, x5⟩, x6, x7⟩ := cells8U D1.out
      obtain ⟨G, hG⟩ : ∃ G, wr.heap.size = G := ⟨_, rfl⟩
      rw [hG] at D1 hs1 hsz x0 x1 x2 x3 x4 x5 x6 x7 ⊢
      clear kd kr hG
      cases y3
      · cases y5
        · have HF := Lib.hid (show (L.take (k + 1)).all (calm ph) = true from (by rw [HN.out, HQ.out]; rfl))
          try clear hp
          go_wp2
          go_roundw
          case rel => exact ⟨k + 1, by omega, by go_num, HF, X1⟩
          case measure => simp [intOf]; omega
        · by_cases hp : ph = 1
          · have e1 : (ph == 1) = true := by simp [hp]
            have HH : Hid (hot ph ⟨y0, y1, y2, false, y4, true, y6, y7⟩ = false) := Lib.hid rfl
            have HW : Hid (wants ph ⟨y0, y1, y2, false, y4, true, y6, y7⟩ = true) := Lib.hid (by unfold wants; simp [hp])
            clear hp
            go_upto_region 12 with (fail)
            obtain ⟨W2, hW2⟩ : ∃ W2, W2 = W1.alloc (.cells #[.int .i64 y0, .int .i64 y1, .int .i64 y2, .bool false, .bool y4, .bool false, .bool y6, .bool y7] 53) := ⟨_, rfl⟩
            (try rw [hs1])
            rw [← hW2]
            have X2 : Hid (Ext W1 W2) := Lib.hid (hW2 ▸ (Ext.refl _).alloc _)
            have KP : Hid (∀ V, Ext W2 V → Ext w V ∧ V.heap[w.heap.size]? = some (.cells #[.int .i64 id, .int .i64 ph, .slice (some ⟨b1, off, none⟩) L.length c] 25 (0, 0)) ∧ V.heap[G]? = some (.cells #[.int .i64 y0, .int .i64 y1, .int .i64 y2, .bool false, .bool y4, .bool true, .bool y6, .bool y7] 53 (0, 0)) ∧ V.heap[G + 1]? = some (.cells #[.int .i64 y0, .int .i64 y1, .int .i64 y2, .bool false, .bool y4, .bool false, .bool y6, .bool y7] 53 (0, 0))) := Lib.hid fun V hV => ⟨X0.out.trans (X1.out.trans (Ext.trans X2.out hV)), keepU KD.out (Ext.trans X2.out hV), keepU D1.out (Ext.trans X2.out hV), keepU (by rw [← hs1, hW2]; exact at0 W1 _) hV⟩
            clear hW2 x0 x1 x2 x3 x4 x5 x6 x7 d0 d1 d2
            go_wp2_with fail
            (refine wp_region_X_lit (K := fun V => Ext w V ∧ V.heap[w.heap.size]? = some (.cells #[.int .i64 id, .int .i64 ph, .slice (some ⟨b1, off, none⟩) L.length c] 25 (0, 0)) ∧ V.heap[G]? = some (.cells #[.int .i64 y0, .int .i64 y1, .int .i64 y2, .bool false, .bool y4, .bool true, .bool y6, .bool y7] 53 (0, 0)) ∧ V.heap[G + 1]? = some (.cells #[.int .i64 y0, .int .i64 y1, .int .i64 y2, .bool false, .bool y4, .bool false, .bool y6, .bool y7] 53 (0, 0))) (by kernel_rfl) (fun w1 hw1 => ?_))
            have HW1 := Lib.hid hw1
            clear hw1
            refine xtv 0 (hv := by intro w' hw'; have q0 := blk_cell hw'.2.1 0 rfl; have q1 := blk_cell hw'.2.1 1 rfl; have q2 := blk_cell hw'.2.1 2 rfl; go_simp; first | done | with_reducible rfl) (h := ?_)
            refine xtv 1 (h := ?_)
            refine xtv 2 (hv := by intro w' hw'; obtain ⟨⟨⟨z0, z1⟩, z2, z3⟩, ⟨z4, z5⟩, z6, z7⟩ := cells8U hw'.2.2.2; go_simp; first | done | with_reducible rfl) (h := ?_)
            refine xtv 4 (hv := by intro w' hw'; have q0 := blk_cell hw'.2.1 0 rfl; have q1 := blk_cell hw'.2.1 1 rfl; have q2 := blk_cell hw'.2.1 2 rfl; go_simp; first | done | with_reducible rfl) (h := ?_)
            refine xtv 5 (hv := by intro w' hw'; obtain ⟨⟨⟨z0, z1⟩, z2, z3⟩, ⟨z4, z5⟩, z6, z7⟩ := cells8U hw'.2.2.1; go_simp; first | done | with_reducible rfl) (h := ?_)
            refine xone 3 (hk := (KP.out _ HW1.out)) (h := RunX.of 3 (h := ?_))
            go_simp
            refine (refSet_any w1 id ph _ L k ⟨y0, y1, y2, false, y4, false, y6, y7⟩ (HS.out.ext (X0.out.trans (X1.out.trans (Ext.trans X2.out HW1.out)))) hlt hl).mono ?_
            rintro e5 w5 ⟨v5, rfl, s5, x5'⟩
            obtain ⟨a5, n5, c5, rfl⟩ := s5.sh
            have Y5 := Lib.hid (Ext.trans HW1.out x5')
            have HN5 : Hid (∀ b, (Value.slice a5 n5 c5).ownBlock = some b → w.heap.size + 2 ≤ b) := Lib.hid (fun b hb => by have h1 := (s5.low b hb).1; have h2 := Below.size (Ext.trans X2.out HW1.out); omega)
            have S5' := Lib.hid s5.sl
            clear s5 x5'
            dsimp only
            (try (simp only [Act.put, List.setIfInBounds_toArray, List.set]))
            refine xone 6 (hk := (KP.out _ Y5.out)) (h := RunX.of 6 (h := ?_))
            go_simp
            refine (refMail_any w5 id ph _ L ⟨y0, y1, y2, false, y4, true, y6, y7⟩ 2 (HS.out.ext (X0.out.trans (X1.out.trans (Ext.trans X2.out Y5.out))))).mono ?_
            rintro e6 w6 ⟨rfl, x6'⟩
            have Z6 := Lib.hid x6'
            have Y6 := Lib.hid (Ext.trans Y5.out x6')
            clear x6'
            dsimp only
            (try (simp only [Act.put, List.setIfInBounds_toArray, List.set]))
            refine xtwo 7 8 (hk := (KP.out _ Y6.out)) (h := RunX.of 7 (h := ?_)) (h' := RunX.of 8 (h := ?_))
            · go_simp
              (try (simp only [Act.put, List.setIfInBounds_toArray, List.set]))
              obtain ⟨W9, hW9⟩ : ∃ W9, W9 = w6.alloc (.cells #[.int .i64 id, .int .i64 y0, .int .i64 2, .int .i64 y1, .int .i64 0] 61) := ⟨_, rfl⟩
              have Y9 : Hid (Ext W2 W9) := Lib.hid (hW9 ▸ (Y6.out.alloc _))
              have K9 := Lib.hid (KP.out W9 Y9.out)
              obtain ⟨GM, hGM⟩ : ∃ GM, GM = w6.heap.size := ⟨_, rfl⟩
              have ML : Hid (Sl W9 (.slice (some ⟨GM, 0, none⟩) 1 1) [tokenM id ⟨y0, y1, y2, false, y4, true, y6, y7⟩]) := Lib.hid (by rw [hW9, hGM]; exact Sl.litAt w6 _ rfl [(⟨id, y0, 2, y1, 0⟩ : Ml)] (show (1 : Nat) ≤ 1000000 by decide))
              have S5 : Hid (Sl W9 (.slice a5 n5 c5) (L.set k ⟨y0, y1, y2, false, y4, false, y6, y7⟩)) := Lib.hid (by rw [hW9]; exact (S5'.out.ext (Ext.alloc Z6.out _)))
              have HGM : Hid (w.heap.size + 2 ≤ GM) := Lib.hid (by have h2 := Below.size X2.out; have h3 := Below.size Y6.out; omega)
              rw [← hW9, ← hGM]
              clear hW9 hGM
              refine xone 8 (hk := K9.out) (h := RunX.of 8 (h := ?_))
              refine wp_st 25 (.tmp 2) (.tmp 67) rfl (w.heap.size + 1) 0 25 #[.int .i64 0, .int .i64 0, .slice none 0 0] #[.int .i64 id, .int .i64 ph, .slice a5 n5 c5] #[.int .i64 id, .int .i64 ph, .slice a5 n5 c5] rfl rfl (keepU KR.out (Ext.trans X2.out Y9.out)) (by kernel_rfl) (by simp) rfl rfl ?_
              intro WB hWB oB
              simp only [Act.put]
              have K2 : Hid (Ext w WB ∧ WB.heap[w.heap.size]? = some (.cells #[.int .i64 id, .int .i64 ph, .slice (some ⟨b1, off, none⟩) L.length c] 25 (0, 0)) ∧ WB.heap[G]? = some (.cells #[.int .i64 y0, .int .i64 y1, .int .i64 y2, .bool false, .bool y4, .bool true, .bool y6, .bool y7] 53 (0, 0)) ∧ WB.heap[G + 1]? = some (.cells #[.int .i64 y0, .int .i64 y1, .int .i64 y2, .bool false, .bool y4, .bool false, .bool y6, .bool y7] 53 (0, 0))) := Lib.hid (by
                have hq := Y9.out.size
                obtain ⟨q1, q2, q3, q4⟩ := K9.out
                exact ⟨ext_off q1 oB (fun b hb => by omega), (oB.block _ (blk_lt q2) (by omega)).trans q2, (oB.block _ (blk_lt q3) (by omega)).trans q3, (oB.block _ (blk_lt q4) (by omega)).trans q4⟩)
              have SB := Lib.hid (slOffU S5.out HN5.out oB (by have := Y9.out.size; omega))
              have LB : Hid (Sl WB (.slice (some ⟨GM, 0, none⟩) 1 1) [tokenM id ⟨y0, y1, y2, false, y4, true, y6, y7⟩]) := Lib.hid (slOffU ML.out (fun b hb => by simp only [Value.ownBlock, Option.some.injEq] at hb; rw [← hb]; exact HGM.out) oB (by have := Y9.out.size; omega))
              have RB := Lib.hid hWB
              clear hWB oB
              refine xtv 9 (h := ?_)
              refine xtv 10 (h := ?_)
              (refine xdone (by kernel_rfl) (K2.out) ?_)
              go_wp2
              exact bodyPost_ret (v := .tuple #[.agg #[.int .i64 id, .int .i64 ph, .slice a5 n5 c5], .slice (some ⟨GM, 0, none⟩) 1 1, .bool true]) (res_ctt 3 4 rfl rfl RB.out uDiner (by kernel_rfl)) rfl ⟨_, _, _, _, _, rfl, .token _ _ HQ.out HSJ.out HH.out HW.out, SB.out, LB.out, K2.out.1, .inr (fun b hb => by have := HN5.out b hb; omega), fun b hb => by simp only [Value.ownBlock, Option.some.injEq] at hb; have := HGM.out; omega⟩
            · refine wp_st 25 (.tmp 2) (.tmp 67) rfl (w.heap.size + 1) 0 25 #[.int .i64 0, .int .i64 0, .slice none 0 0] #[.int .i64 id, .int .i64 ph, .slice a5 n5 c5] #[.int .i64 id, .int .i64 ph, .slice a5 n5 c5] rfl rfl (keepU KR.out (Ext.trans X2.out Y6.out)) (by kernel_rfl) (by simp) rfl rfl ?_
              intro WB hWB oB
              simp only [Act.put]
              have K2 : Hid (Ext w WB ∧ WB.heap[w.heap.size]? = some (.cells #[.int .i64 id, .int .i64 ph, .slice (some ⟨b1, off, none⟩) L.length c] 25 (0, 0)) ∧ WB.heap[G]? = some (.cells #[.int .i64 y0, .int .i64 y1, .int .i64 y2, .bool false, .bool y4, .bool true, .bool y6, .bool y7] 53 (0, 0)) ∧ WB.heap[G + 1]? = some (.cells #[.int .i64 y0, .int .i64 y1, .int .i64 y2, .bool false, .bool y4, .bool false, .bool y6, .bool y7] 53 (0, 0))) := Lib.hid (by
                have hq := Y6.out.size
                obtain ⟨q1, q2, q3, q4⟩ := KP.out _ Y6.out
                exact ⟨ext_off q1 oB (fun b hb => by omega), (oB.block _ (blk_lt q2) (by omega)).trans q2, (oB.block _ (blk_lt q3) (by omega)).trans q3, (oB.block _ (blk_lt q4) (by omega)).trans q4⟩)
              have SB := Lib.hid (slOffU (S5'.out.ext Z6.out) HN5.out oB (by have := Y6.out.size; omega))
              have RB := Lib.hid hWB
              clear hWB oB
              refine xone 7 (hk := K2.out) (h := RunX.of 7 (h := ?_))
              go_simp
              (try (simp only [Act.put, List.setIfInBounds_toArray, List.set]))
              refine xtv 9 (h := ?_)
              refine xtv 10 (h := ?_)
              (refine xdone (by kernel_rfl) (⟨K2.out.1.alloc _, old1 K2.out.2.1 _, old1 K2.out.2.2.1 _, old1 K2.out.2.2.2 _⟩) ?_)
              go_wp2
              exact bodyPost_ret (v := .tuple #[.agg #[.int .i64 id, .int .i64 ph, .slice a5 n5 c5], .slice (some ⟨WB.heap.size, 0, none⟩) 1 1, .bool true]) (res_ctt 3 4 rfl rfl (old1 RB.out _) uDiner (by kernel_rfl)) rfl ⟨_, _, _, _, _, rfl, .token _ _ HQ.out HSJ.out HH.out HW.out, SB.out.ext ((Ext.refl _).alloc _), (Sl.litAt WB _ rfl [(⟨id, y0, 2, y1, 0⟩ : Ml)] (show (1 : Nat) ≤ 1000000 by decide)), K2.out.1.alloc _, .inr (fun b hb => by have := HN5.out b hb; omega), fun b hb => by simp only [Value.ownBlock, Option.some.injEq] at hb; have := Below.size K2.out.1; omega⟩
          · have e1 : (ph == 1) = false := by simp [hp]
            have HF := Lib.hid (show (L.take (k + 1)).all (calm ph) = true from (by rw [HN.out, HQ.out]; unfold calm hot wants; simp [hp]))
            try clear hp
            go_wp2
            go_roundw
            case rel => exact ⟨k + 1, by omega, by go_num, HF, X1⟩
            case measure => simp [intOf]; omega
      · cases y4
        · have HF := Lib.hid (show (L.take (k + 1)).all (calm ph) = true from (by rw [HN.out, HQ.out]; rfl))
          try clear hp
          go_wp2
          go_roundw
          case rel => exact ⟨k + 1, by omega, by go_num, HF, X1⟩
          case measure => simp [intOf]; omega
        cases y5
        · have HF := Lib.hid (show (L.take (k + 1)).all (calm ph) = true from (by rw [HN.out, HQ.out]; rfl))
          try clear hp
          go_wp2
          go_roundw
          case rel => exact ⟨k + 1, by omega, by go_num, HF, X1⟩
          case measure => simp [intOf]; omega
        by_cases hp : ph = 2
        · have e1 : (ph != 2) = false := by simp [hp]
          have HF := Lib.hid (show (L.take (k + 1)).all (calm ph) = true from (by rw [HN.out, HQ.out]; unfold calm hot wants; simp [hp]))
          try clear hp
          go_wp2
          go_roundw
          case rel => exact ⟨k + 1, by omega, by go_num, HF, X1⟩
          case measure => simp [intOf]; omega
        · have e1 : (ph != 2) = true := by simp [hp]
          have HH : Hid (hot ph ⟨y0, y1, y2, true, true, true, y6, y7⟩ = true) := Lib.hid (by unfold hot; simp [hp])
          clear hp
          go_upto_region 8 with (fail)
          obtain ⟨W2, hW2⟩ : ∃ W2, W2 = W1.alloc (.cells #[.int .i64 y0, .int .i64 y1, .int .i64 y2, .bool false, .bool false, .bool true, .bool y6, .bool y7] 53) := ⟨_, rfl⟩
          (try rw [hs1])
          rw [← hW2]
          have X2 : Hid (Ext W1 W2) := Lib.hid (hW2 ▸ (Ext.refl _).alloc _)
          have KP : Hid (∀ V, Ext W2 V → Ext w V ∧ V.heap[w.heap.size]? = some (.cells #[.int .i64 id, .int .i64 ph, .slice (some ⟨b1, off, none⟩) L.length c] 25 (0, 0)) ∧ V.heap[G]? = some (.cells #[.int .i64 y0, .int .i64 y1, .int .i64 y2, .bool true, .bool true, .bool true, .bool y6, .bool y7] 53 (0, 0)) ∧ V.heap[G + 1]? = some (.cells #[.int .i64 y0, .int .i64 y1, .int .i64 y2, .bool false, .bool false, .bool true, .bool y6, .bool y7] 53 (0, 0))) := Lib.hid fun V hV => ⟨X0.out.trans (X1.out.trans (Ext.trans X2.out hV)), keepU KD.out (Ext.trans X2.out hV), keepU D1.out (Ext.trans X2.out hV), keepU (by rw [← hs1, hW2]; exact at0 W1 _) hV⟩
          clear hW2 x0 x1 x2 x3 x4 x5 x6 x7 d0 d1 d2
          go_wp2_with fail
          (refine wp_region_X_lit (K := fun V => Ext w V ∧ V.heap[w.heap.size]? = some (.cells #[.int .i64 id, .int .i64 ph, .slice (some ⟨b1, off, none⟩) L.length c] 25 (0, 0)) ∧ V.heap[G]? = some (.cells #[.int .i64 y0, .int .i64 y1, .int .i64 y2, .bool true, .bool true, .bool true, .bool y6, .bool y7] 53 (0, 0)) ∧ V.heap[G + 1]? = some (.cells #[.int .i64 y0, .int .i64 y1, .int .i64 y2, .bool false, .bool false, .bool true, .bool y6, .bool y7] 53 (0, 0))) (by kernel_rfl) (fun w1 hw1 => ?_))
          have HW1 := Lib.hid hw1
          clear hw1
          refine xtv 0 (hv := by intro w' hw'; have q0 := blk_cell hw'.2.1 0 rfl; have q1 := blk_cell hw'.2.1 1 rfl; have q2 := blk_cell hw'.2.1 2 rfl; go_simp; first | done | with_reducible rfl) (h := ?_)
          refine xtv 1 (h := ?_)
          refine xtv 2 (hv := by intro w' hw'; obtain ⟨⟨⟨z0, z1⟩, z2, z3⟩, ⟨z4, z5⟩, z6, z7⟩ := cells8U hw'.2.2.2; go_simp; first | done | with_reducible rfl) (h := ?_)
          refine xtv 4 (hv := by intro w' hw'; have q0 := blk_cell hw'.2.1 0 rfl; have q1 := blk_cell hw'.2.1 1 rfl; have q2 := blk_cell hw'.2.1 2 rfl; go_simp; first | done | with_reducible rfl) (h := ?_)
          refine xtv 5 (hv := by intro w' hw'; obtain ⟨⟨⟨z0, z1⟩, z2, z3⟩, ⟨z4, z5⟩, z6, z7⟩ := cells8U hw'.2.2.1; go_simp; first | done | with_reducible rfl) (h := ?_)
          refine xone 3 (hk := (KP.out _ HW1.out)) (h := RunX.of 3 (h := ?_))
          go_simp
          refine (refSet_any w1 id ph _ L k ⟨y0, y1, y2, false, false, true, y6, y7⟩ (HS.out.ext (X0.out.trans (X1.out.trans (Ext.trans X2.out HW1.out)))) hlt hl).mono ?_
          rintro e5 w5 ⟨v5, rfl, s5, x5'⟩
          obtain ⟨a5, n5, c5, rfl⟩ := s5.sh
          have Y5 := Lib.hid (Ext.trans HW1.out x5')
          have HN5 : Hid (∀ b, (Value.slice a5 n5 c5).ownBlock = some b → w.heap.size + 2 ≤ b) := Lib.hid (fun b hb => by have h1 := (s5.low b hb).1; have h2 := Below.size (Ext.trans X2.out HW1.out); omega)
          have S5' := Lib.hid s5.sl
          clear s5 x5'
          dsimp only
          (try (simp only [Act.put, List.setIfInBounds_toArray, List.set]))
          refine xone 6 (hk := (KP.out _ Y5.out)) (h := RunX.of 6 (h := ?_))
          go_simp
          refine (refMail_any w5 id ph _ L ⟨y0, y1, y2, true, true, true, y6, y7⟩ 1 (HS.out.ext (X0.out.trans (X1.out.trans (Ext.trans X2.out Y5.out))))).mono ?_
          rintro e6 w6 ⟨rfl, x6'⟩
          have Z6 := Lib.hid x6'
          have Y6 := Lib.hid (Ext.trans Y5.out x6')
          clear x6'
          dsimp only
          (try (simp only [Act.put, List.setIfInBounds_toArray, List.set]))
          refine xtwo 7 8 (hk := (KP.out _ Y6.out)) (h := RunX.of 7 (h := ?_)) (h' := RunX.of 8 (h := ?_))
          · go_simp
            (try (simp only [Act.put, List.setIfInBounds_toArray, List.set]))
            obtain ⟨W9, hW9⟩ : ∃ W9, W9 = w6.alloc (.cells #[.int .i64 id, .int .i64 y0, .int .i64 1, .int .i64 y1, .int .i64 0] 61) := ⟨_, rfl⟩
            have Y9 : Hid (Ext W2 W9) := Lib.hid (hW9 ▸ (Y6.out.alloc _))
            have K9 := Lib.hid (KP.out W9 Y9.out)
            obtain ⟨GM, hGM⟩ : ∃ GM, GM = w6.heap.size := ⟨_, rfl⟩
            have ML : Hid (Sl W9 (.slice (some ⟨GM, 0, none⟩) 1 1) [forkM id ⟨y0, y1, y2, true, true, true, y6, y7⟩]) := Lib.hid (by rw [hW9, hGM]; exact Sl.litAt w6 _ rfl [(⟨id, y0, 1, y1, 0⟩ : Ml)] (show (1 : Nat) ≤ 1000000 by decide))
            have S5 : Hid (Sl W9 (.slice a5 n5 c5) (L.set k ⟨y0, y1, y2, false, false, true, y6, y7⟩)) := Lib.hid (by rw [hW9]; exact (S5'.out.ext (Ext.alloc Z6.out _)))
            have HGM : Hid (w.heap.size + 2 ≤ GM) := Lib.hid (by have h2 := Below.size X2.out; have h3 := Below.size Y6.out; omega)
            rw [← hW9, ← hGM]
            clear hW9 hGM
            refine xone 8 (hk := K9.out) (h := RunX.of 8 (h := ?_))
            refine wp_st 25 (.tmp 2) (.tmp 45) rfl (w.heap.size + 1) 0 25 #[.int .i64 0, .int .i64 0, .slice none 0 0] #[.int .i64 id, .int .i64 ph, .slice a5 n5 c5] #[.int .i64 id, .int .i64 ph, .slice a5 n5 c5] rfl rfl (keepU KR.out (Ext.trans X2.out Y9.out)) (by kernel_rfl) (by simp) rfl rfl ?_
            intro WB hWB oB
            simp only [Act.put]
            have K2 : Hid (Ext w WB ∧ WB.heap[w.heap.size]? = some (.cells #[.int .i64 id, .int .i64 ph, .slice (some ⟨b1, off, none⟩) L.length c] 25 (0, 0)) ∧ WB.heap[G]? = some (.cells #[.int .i64 y0, .int .i64 y1, .int .i64 y2, .bool true, .bool true, .bool true, .bool y6, .bool y7] 53 (0, 0)) ∧ WB.heap[G + 1]? = some (.cells #[.int .i64 y0, .int .i64 y1, .int .i64 y2, .bool false, .bool false, .bool true, .bool y6, .bool y7] 53 (0, 0))) := Lib.hid (by
              have hq := Y9.out.size
              obtain ⟨q1, q2, q3, q4⟩ := K9.out
              exact ⟨ext_off q1 oB (fun b hb => by omega), (oB.block _ (blk_lt q2) (by omega)).trans q2, (oB.block _ (blk_lt q3) (by omega)).trans q3, (oB.block _ (blk_lt q4) (by omega)).trans q4⟩)
            have SB := Lib.hid (slOffU S5.out HN5.out oB (by have := Y9.out.size; omega))
            have LB : Hid (Sl WB (.slice (some ⟨GM, 0, none⟩) 1 1) [forkM id ⟨y0, y1, y2, true, true, true, y6, y7⟩]) := Lib.hid (slOffU ML.out (fun b hb => by simp only [Value.ownBlock, Option.some.injEq] at hb; rw [← hb]; exact HGM.out) oB (by have := Y9.out.size; omega))
            have RB := Lib.hid hWB
            clear hWB oB
            refine xtv 9 (h := ?_)
            refine xtv 10 (h := ?_)
            (refine xdone (by kernel_rfl) (K2.out) ?_)
            go_wp2
            exact bodyPost_ret (v := .tuple #[.agg #[.int .i64 id, .int .i64 ph, .slice a5 n5 c5], .slice (some ⟨GM, 0, none⟩) 1 1, .bool true]) (res_ctt 3 4 rfl rfl RB.out uDiner (by kernel_rfl)) rfl ⟨_, _, _, _, _, rfl, .fork _ _ HQ.out HSJ.out HH.out, SB.out, LB.out, K2.out.1, .inr (fun b hb => by have := HN5.out b hb; omega), fun b hb => by simp only [Value.ownBlock, Option.some.injEq] at hb; have := HGM.out; omega⟩
          · refine wp_st 25 (.tmp 2) (.tmp 45) rfl (w.heap.size + 1) 0 25 #[.int .i64 0, .int .i64 0, .slice none 0 0] #[.int .i64 id, .int .i64 ph, .slice a5 n5 c5] #[.int .i64 id, .int .i64 ph, .slice a5 n5 c5] rfl rfl (keepU KR.out (Ext.trans X2.out Y6.out)) (by kernel_rfl) (by simp) rfl rfl ?_
            intro WB hWB oB
            simp only [Act.put]
            have K2 : Hid (Ext w WB ∧ WB.heap[w.heap.size]? = some (.cells #[.int .i64 id, .int .i64 ph, .slice (some ⟨b1, off, none⟩) L.length c] 25 (0, 0)) ∧ WB.heap[G]? = some (.cells #[.int .i64 y0, .int .i64 y1, .int .i64 y2, .bool true, .bool true, .bool true, .bool y6, .bool y7] 53 (0, 0)) ∧ WB.heap[G + 1]? = some (.cells #[.int .i64 y0, .int .i64 y1, .int .i64 y2, .bool false, .bool false, .bool true, .bool y6, .bool y7] 53 (0, 0))) := Lib.hid (by
              have hq := Y6.out.size
              obtain ⟨q1, q2, q3, q4⟩ := KP.out _ Y6.out
              exact ⟨ext_off q1 oB (fun b hb => by omega), (oB.block _ (blk_lt q2) (by omega)).trans q2, (oB.block _ (blk_lt q3) (by omega)).trans q3, (oB.block _ (blk_lt q4) (by omega)).trans q4⟩)
            have SB := Lib.hid (slOffU (S5'.out.ext Z6.out) HN5.out oB (by have := Y6.out.size; omega))
            have RB := Lib.hid hWB
            clear hWB oB
            refine xone 7 (hk := K2.out) (h := RunX.of 7 (h := ?_))
            go_simp
            (try (simp only [Act.put, List.setIfInBounds_toArray, List.set]))
            refine xtv 9 (h := ?_)
            refine xtv 10 (h := ?_)
            (refine xdone (by kernel_rfl) (⟨K2.out.1.alloc _, old1 K2.out.2.1 _, old1 K2.out.2.2.1 _, old1 K2.out.2.2.2 _⟩) ?_)
            go_wp2
            exact bodyPost_ret (v := .tuple #[.agg #[.int .i64 id, .int .i64 ph, .slice a5 n5 c5], .slice (some ⟨WB.heap.size, 0, none⟩) 1 1, .bool true]) (res_ctt 3 4 rfl rfl (old1 RB.out _) uDiner (by kernel_rfl)) rfl ⟨_, _, _, _, _, rfl, .fork _ _ HQ.out HSJ.out HH.out, SB.out.ext ((Ext.refl _).alloc _), (Sl.litAt WB _ rfl [(⟨id, y0, 1, y1, 0⟩ : Ml)] (show (1 : Nat) ≤ 1000000 by decide)), K2.out.1.alloc _, .inr (fun b hb => by have := HN5.out b hb; omega), fun b hb => by simp only [Value.ownBlock, Option.some.injEq] at hb; have := Below.size K2.out.1; omega⟩
    · have hkl : k = L.length := by omega
      have HC : Hid (L.all (calm ph) = true) := Lib.hid (by have := HQ.out; rwa [hkl, List.take_length] at this)
      have XW := Lib.hid (X0.out.trans HX.out)
      clear HQ hkl
      by_cases hp : ph = 1
      · subst hp
        have e1 : ((1 : Int) != 1) = false := rfl
        go_wp2
        go_loopw [9] (fun i wr => ∃ k : Nat, k ≤ L.length ∧ i = .int .i64 k ∧ Hid ((L.take k).all (·.fork) = true) ∧ Hid (Ext ((w.alloc (.cells #[.int .i64 id, .int .i64 1, .slice ao L.length c] 25)).alloc (.cells #[.int .i64 0, .int .i64 0, .slice none 0 0] 25)) wr)) (fun i _ => L.length - (intOf i).toNat)
        case atStart => exact ⟨0, Nat.zero_le _, rfl, Lib.hid (by simp), HX⟩
        case round =>
          obtain ⟨k, hk, rfl, HQ, HY⟩ := hrel
          clear d0 d1 d2 KD KR hsz
          have hsz := Below.size HY.out
          rw [HBS.out] at hsz
          obtain ⟨kd, kr⟩ := HK.out wr HY.out
          have d0 := blk_cell kd 0 rfl
          have d1 := blk_cell kd 1 rfl
          have d2 := blk_cell kd 2 rfl
          have KD := Lib.hid kd
          have KR := Lib.hid kr
          have XY := Lib.hid (X0.out.trans HY.out)
          clear kd kr
          by_cases hlt : k < L.length
          · obtain ⟨b1, off, s, hsy, hsj, rfl, hn, hnc, hc63, hb, hcs⟩ := HS.out.sidesAt hlt
            obtain ⟨⟨⟨x0, x1⟩, x2, x3⟩, ⟨x4, x5⟩, x6, x7⟩ := hcs wr XY.out
            have HSJ := Lib.hid hsj
            have HN := Lib.hid (all_nextU (·.fork) hsj)
            clear hsy hsj hcs hn
            obtain ⟨y0, y1, y2, y3, y4, y5, y6, y7⟩ := s
            dsimp only at x0 x1 x2 x3 x4 x5 x6 x7
            cases y3
            · have HE : Hid (eats 1 L = false) := Lib.hid (by
                unfold eats
                rw [decide_eq_true rfl, Bool.true_and, List.all_eq_false]
                exact ⟨_, List.mem_of_getElem? HSJ.out, by simp⟩)
              go_wp2_with (first | refine haltst 25 ?_)
              refine .inl ?_
              refine st_l 25 (.tmp 2) (.tmp 90) (w.heap.size + 1) 0 25 #[.int .i64 0, .int .i64 0, .slice none 0 0] _ _ rfl rfl KR.out (by kernel_rfl) (by simp) rfl rfl ?_
              intro W hW oW
              simp only [Act.put]
              go_wp2
              exact bodyPost_ret (v := .tuple #[.agg _, .slice none 0 0, .bool false]) (res_ctt 3 4 rfl rfl hW uDiner (by kernel_rfl)) rfl ⟨⟨id, 1, L⟩, [], false, _, _, rfl, .none HC.out HE.out, HS.out.ext (ext_off XY.out oW (fun b hb => by omega)), slNoneU _, ext_off XY.out oW (fun b hb => by omega), .inl rfl, fun b hb => by simp [Value.ownBlock] at hb⟩
            · go_wp2
              go_roundw
              case rel => exact ⟨k + 1, by omega, by go_num, Lib.hid (by rw [HN.out, HQ.out]; rfl), HY⟩
              case measure => simp [intOf]; omega
          · have hkl : k = L.length := by omega
            have HE : Hid (eats 1 L = true) := Lib.hid (by
              have := HQ.out
              rw [hkl, List.take_length] at this
              unfold eats
              rw [decide_eq_true rfl, Bool.true_and, this])
            clear HQ hkl
            have f1 := blk_free KD.out 1
            go_upto_region 21 with (fail)
            obtain ⟨W3, hW3⟩ : ∃ W3, W3 = wr.setCell ⟨w.heap.size, 1, none⟩ (.int .i64 2) := ⟨_, rfl⟩
            have b3 : W3.heap[w.heap.size]? = some (.cells #[.int .i64 id, .int .i64 2, .slice ao L.length c] 25 (0, 0)) := by rw [hW3, blk_set KD.out]; rfl
            have r3 : W3.heap[w.heap.size + 1]? = some (.cells #[.int .i64 0, .int .i64 0, .slice none 0 0] 25 (0, 0)) := by rw [hW3, set_other _ _ _ _ (by show w.heap.size + 1 ≠ w.heap.size; omega)]; exact KR.out
            have X3 : Hid (Ext w W3) := Lib.hid (hW3 ▸ below_set XY.out (Nat.le_refl _) _)
            have B3 := Lib.hid b3
            have R3 := Lib.hid r3
            rw [← hW3]
            clear hW3 b3 r3 d0 d1 d2 KD KR f1
            go_wp2
            go_loopw [10] (fun i wr => ∃ k : Nat, k ≤ L.length ∧ i = .int .i64 k ∧ Hid (∃ vo vn vc, wr.heap[w.heap.size]? = some (.cells #[.int .i64 id, .int .i64 2, .slice vo vn vc] 25 (0, 0)) ∧ wr.heap[w.heap.size + 1]? = some (.cells #[.int .i64 0, .int .i64 0, .slice none 0 0] 25 (0, 0)) ∧ Sl wr (.slice vo vn vc) ((L.take k).map (fun s : Sd => { s with dirty := true }) ++ L.drop k) ∧ (Value.slice vo vn vc = .slice ao L.length c ∨ ∀ b, (Value.slice vo vn vc).ownBlock = some b → w.heap.size + 2 ≤ b)) ∧ Hid (Ext w wr)) (fun i _ => L.length - (intOf i).toNat)
            case atStart => exact ⟨0, Nat.zero_le _, rfl, Lib.hid ⟨_, _, _, B3.out, R3.out, by simpa using HS.out.ext X3.out, .inl rfl⟩, X3⟩
            case round =>
              obtain ⟨k, hk, rfl, HI, HZ⟩ := hrel
              obtain ⟨vo, vn, vc, hkd, hkr, hsl, hfr⟩ := HI.out
              have hg1 := blk_lt hkr
              have KD := Lib.hid hkd
              have KR := Lib.hid hkr
              have SL := Lib.hid hsl
              have FR := Lib.hid hfr
              have d0 := blk_cell hkd 0 rfl
              have d1 := blk_cell hkd 1 rfl
              have d2 := blk_cell hkd 2 rfl
              clear hkd hkr hfr HI
              have hvn : vn = L.length := by
                obtain ⟨_, _, hv⟩ := hsl.len
                simp only [Value.slice.injEq] at hv
                rw [hv.2.1, List.length_append, List.length_map, List.length_take, List.length_drop]
                omega
              subst hvn
              clear hsl
              by_cases hlt : k < L.length
              · obtain ⟨s, hsk⟩ : ∃ s, L[k]? = some s := ⟨_, List.getElem?_eq_getElem hlt⟩
                obtain ⟨ea1, ea2⟩ := eatK_at (fun s : Sd => { s with dirty := true }) L k s hsk
                obtain ⟨b1, off, s', hsy, hsj, rfl, hn, hnc, hc63, hb, hcs⟩ := SL.out.sidesAt (k := k) (by rw [ea2]; exact hlt)
                obtain rfl : s' = s := by have := hsj.symm.trans ea1; simpa using this
                obtain ⟨⟨⟨x0, x1⟩, x2, x3⟩, ⟨x4, x5⟩, x6, x7⟩ := hcs wr (Ext.refl _)
                have HSK := Lib.hid (eatK (fun s : Sd => { s with dirty := true }) L k s' hsk)
                have HL2 : Hid (((L.take k).map (fun s : Sd => { s with dirty := true }) ++ L.drop k).length = L.length) := Lib.hid ea2
                obtain ⟨LL, hLL⟩ : ∃ LL, LL = (L.take k).map (fun s : Sd => { s with dirty := true }) ++ L.drop k := ⟨_, rfl⟩
                rw [← hLL] at HSK HL2 SL
                clear hsy hsj hcs hn ea1 ea2 hLL hsk
                obtain ⟨y0, y1, y2, y3, y4, y5, y6, y7⟩ := s'
                dsimp only at x0 x1 x2 x3 x4 x5 x6 x7 HSK
                go_upto_region 26 with (fail)
                obtain ⟨W4, hW4⟩ : ∃ W4, W4 = wr.alloc (.cells #[.int .i64 y0, .int .i64 y1, .int .i64 y2, .bool y3, .bool true, .bool y5, .bool y6, .bool y7] 53) := ⟨_, rfl⟩
                rw [← hW4]
                have X4 : Hid (Ext wr W4) := Lib.hid (hW4 ▸ (Ext.refl _).alloc _)
                have D4 : Hid (W4.heap[wr.heap.size]? = some (.cells #[.int .i64 y0, .int .i64 y1, .int .i64 y2, .bool y3, .bool true, .bool y5, .bool y6, .bool y7] 53 (0, 0))) := Lib.hid (hW4 ▸ at0 wr _)
                clear hW4 x0 x1 x2 x3 x4 x5 x6 x7 d0 d1 d2
                have kd4 := keepU KD.out X4.out
                have d0 := blk_cell kd4 0 rfl
                have d1 := blk_cell kd4 1 rfl
                have d2 := blk_cell kd4 2 rfl
                obtain ⟨⟨⟨x0, x1⟩, x2, x3⟩, ⟨x4, x5⟩, x6, x7⟩ := cells8U D4.out
                clear kd4
                go_wp2_with (first
                  | (go_at_call 45; refine (refSet_any _ id 2 _ LL k ⟨y0, y1, y2, y3, true, y5, y6, y7⟩ (SL.out.ext X4.out) (by have := HL2.out; omega) (by have := HL2.out; omega)).mono ?_; rintro e w5 ⟨v5, rfl, s5, x5'⟩; have X5 := Lib.hid (X4.out.trans x5'); obtain ⟨a5, n5, c5, rfl⟩ := s5.sh; have HN5 : Hid (∀ b, (Value.slice a5 n5 c5).ownBlock = some b → w.heap.size + 2 ≤ b) := Lib.hid (fun b hb => by have h1 := (s5.low b hb).1; have h3 := X4.out.size; omega); have S5 := Lib.hid s5.sl; clear s5 x5')
                  | refine haltst 25 ?_)
                refine .inl ?_
                refine st_l 25 (.tmp 1) (.tmp 108) w.heap.size 0 25 _ #[.int .i64 id, .int .i64 2, .slice a5 n5 c5] #[.int .i64 id, .int .i64 2, .slice a5 n5 c5] rfl rfl (keepU KD.out X5.out) (by kernel_rfl) (by simp) rfl rfl ?_
                intro W6 hW6 o6
                simp only [Act.put]
                have B6 := Lib.hid hW6
                have R6 := Lib.hid ((o6.block (w.heap.size + 1) (by have := X5.out.size; omega) (by omega)).trans (keepU KR.out X5.out))
                have S6 := Lib.hid (slOffU S5.out HN5.out o6 (by have := Below.size HZ.out; have := X5.out.size; omega))
                have X6 := Lib.hid (ext_off (HZ.out.trans X5.out) o6 (fun b hb => by omega))
                clear hW6 o6
                go_wp2
                go_roundw
                case rel => exact ⟨k + 1, by omega, by go_num, Lib.hid ⟨_, _, _, B6.out, R6.out, by rw [← HSK.out]; exact S6.out, .inr HN5.out⟩, X6⟩
                case measure => simp [intOf]; omega
              · have hkl : k = L.length := by omega
                subst hkl
                have HSF : Hid (Sl wr (.slice vo L.length vc) (dirtyAll L)) := Lib.hid (by have := SL.out; rw [List.take_length, List.drop_length, List.append_nil] at this; exact this)
                have hs9 := Below.size HZ.out
                go_wp2_with (first | refine haltst 25 ?_)
                refine .inl ?_
                refine st_l 25 (.tmp 2) (.tmp 109) (w.heap.size + 1) 0 25 #[.int .i64 0, .int .i64 0, .slice none 0 0] #[.int .i64 id, .int .i64 2, .slice vo L.length vc] #[.int .i64 id, .int .i64 2, .slice vo L.length vc] rfl rfl KR.out (by kernel_rfl) (by simp) rfl rfl ?_
                intro W9 hW9 o9
                simp only [Act.put]
                go_wp2
                exact bodyPost_ret (v := .tuple #[.agg #[.int .i64 id, .int .i64 2, .slice vo L.length vc], .slice none 0 0, .bool true]) (res_ctt 3 4 rfl rfl hW9 uDiner (by kernel_rfl)) rfl ⟨⟨id, 2, dirtyAll L⟩, [], true, _, _, rfl, .eat HC.out HE.out, slOffW HSF.out (by
                  rcases FR.out with e | e
                  · by_cases hL : L = []
                    · left; rw [hL]; rfl
                    · right; intro b hb; rw [e] at hb; have := HS.out.block_lt hL b hb; omega
                  · right; intro b hb; have := e b hb; omega) o9, slNoneU _, ext_off HZ.out o9 (fun b hb => by omega), FR.out.imp (fun h => h) (fun h b hb => by have := h b hb; omega), fun b hb => by simp [Value.ownBlock] at hb⟩
      · have e1 : (ph != 1) = true := by simp [hp]
        have HE : Hid (eats ph L = false) := Lib.hid (by unfold eats; rw [decide_eq_false hp]; rfl)
        clear hp
        go_wp2_with (first | refine haltst 25 ?_)
        refine .inl ?_
        refine st_l 25 (.tmp 2) (.tmp 75) (w.heap.size + 1) 0 25 #[.int .i64 0, .int .i64 0, .slice none 0 0] _ _ rfl rfl KR.out (by kernel_rfl) (by simp) rfl rfl ?_
        intro W hW oW
        simp only [Act.put]
        go_wp2
        exact bodyPost_ret (v := .tuple #[.agg _, .slice none 0 0, .bool false]) (res_ctt 3 4 rfl rfl hW uDiner (by kernel_rfl)) rfl ⟨⟨id, ph, L⟩, [], false, _, _, rfl, .none HC.out HE.out, HS.out.ext (ext_off XW.out oW (fun b hb => by omega)), slNoneU _, ext_off XW.out oW (fun b hb => by omega), .inl rfl, fun b hb => by simp [Value.ownBlock] at hb⟩

end Go.Proofs.Ytpjpjchnfllcmaa
