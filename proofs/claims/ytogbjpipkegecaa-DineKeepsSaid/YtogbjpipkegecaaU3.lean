/- Layer 13, the document's answers: whether a diner may be. -/
import Derived.Test.YtogbjpipkegecaaU2
import Derived.Deep.QuietTactic
import Derived.Test.YtogbjpipkegecaaSt
namespace Go.Proofs.Ytogbjpipkegecaa
open Go.RowKit

theorem side_no {id last : Int} {s : Sd} (h : s.peer ≤ last ∨ s.peer = id ∨ s.epoch < 0 ∨ 65535 < s.epoch ∨ s.state < 0 ∨ 3 < s.state ∨ (s.dirty = true ∧ s.fork = false)) : sideD id last s = false := by
  unfold sideD
  rcases h with h | h | h | h | h | h | ⟨h, h2⟩
  · rw [decide_eq_false (by omega)]; rfl
  · rw [show decide (s.peer ≠ id) = false from decide_eq_false (by simpa using h)]; simp
  · rw [show decide (0 ≤ s.epoch) = false from decide_eq_false (by omega)]; simp
  · rw [show decide (s.epoch ≤ 65535) = false from decide_eq_false (by omega)]; simp
  · rw [show decide (0 ≤ s.state) = false from decide_eq_false (by omega)]; simp
  · rw [show decide (s.state ≤ 3) = false from decide_eq_false (by omega)]; simp
  · rw [h, h2]; simp
theorem side_yes {id last : Int} {s : Sd} (h1 : last < s.peer) (h2 : s.peer ≠ id) (h3 : 0 ≤ s.epoch) (h4 : s.epoch ≤ 65535) (h5 : 0 ≤ s.state) (h6 : s.state ≤ 3) (h7 : s.dirty = false ∨ s.fork = true) : sideD id last s = true := by
  unfold sideD
  rw [decide_eq_true h1, decide_eq_true h2, decide_eq_true h3, decide_eq_true h4, decide_eq_true h5, decide_eq_true h6]
  rcases h7 with h | h <;> rw [h] <;> simp
theorem side_eq (id last : Int) (s : Sd) : sideD id last s = !(decide (s.peer ≤ last ∨ s.peer = id) || decide (s.epoch < 0) || decide (65535 < s.epoch) || decide (s.state < 0) || decide (3 < s.state) || (s.dirty && !s.fork)) := by
  by_cases h1 : s.peer ≤ last
  · rw [side_no (.inl h1), decide_eq_true (.inl h1)]; rfl
  by_cases h2 : s.peer = id
  · rw [side_no (.inr (.inl h2)), decide_eq_true (.inr h2)]; rfl
  rw [decide_eq_false (show ¬ (s.peer ≤ last ∨ s.peer = id) by omega)]
  by_cases h3 : s.epoch < 0
  · rw [side_no (.inr (.inr (.inl h3))), decide_eq_true h3]; rfl
  by_cases h4 : 65535 < s.epoch
  · rw [side_no (.inr (.inr (.inr (.inl h4)))), decide_eq_true h4, decide_eq_false h3]; rfl
  by_cases h5 : s.state < 0
  · rw [side_no (.inr (.inr (.inr (.inr (.inl h5))))), decide_eq_true h5, decide_eq_false h3, decide_eq_false h4]; rfl
  by_cases h6 : 3 < s.state
  · rw [side_no (.inr (.inr (.inr (.inr (.inr (.inl h6)))))), decide_eq_true h6, decide_eq_false h3, decide_eq_false h4, decide_eq_false h5]; rfl
  rw [decide_eq_false h3, decide_eq_false h4, decide_eq_false h5, decide_eq_false h6]
  cases hd : s.dirty
  · rw [side_yes (by omega) h2 (by omega) (by omega) (by omega) (by omega) (.inl hd)]; rfl
  cases hf : s.fork
  · rw [side_no (.inr (.inr (.inr (.inr (.inr (.inr ⟨hd, hf⟩))))))]; rfl
  · rw [side_yes (by omega) h2 (by omega) (by omega) (by omega) (by omega) (.inr hf)]; rfl
theorem extU {w wr W : World} {o : Obj} (h : Ext w wr) (e : W = wr.alloc o) : Ext w W := e ▸ h.alloc _
theorem lastD_at : ∀ (L : List Sd) (k : Nat) (s : Sd) (last : Int), L[k]? = some s → lastD last (L.take (k + 1)) = s.peer
  | [], _, _, _, h => by simp at h
  | t :: L, 0, s, last, h => by simp at h; subst h; simp [lastD]
  | t :: L, k + 1, s, last, h => by
    rw [List.getElem?_cons_succ] at h
    show lastD t.peer (L.take (k + 1)) = s.peer
    exact lastD_at L k s _ h

set_option maxRecDepth 100000 in
set_option maxHeartbeats 8000000 in
theorem refDCheck_any (w : World) (id ph : Int) (v : Value) (L : List Sd) (h : Sl w v L) (t : Bool) (ht : dnOk ⟨id, ph, L⟩ = t) :
    Calls Try.prog 15 #[.agg #[.int .i64 id, .int .i64 ph, v]] w fun e w' => e = .returned (.bool t) ∧ Ext w w' := by
  obtain ⟨ao, c, rfl⟩ := h.len
  have hlen := h.length_le
  have HS := Lib.hid h
  have HT := Lib.hid ht
  have HK : Hid (∀ V, Ext (w.alloc (.cells #[.int .i64 id, .int .i64 ph, .slice ao L.length c] 25)) V → V.cell? ⟨w.heap.size, 0, none⟩ = some (.int .i64 id) ∧ V.cell? ⟨w.heap.size, 1, none⟩ = some (.int .i64 ph) ∧ V.cell? ⟨w.heap.size, 2, none⟩ = some (.slice ao L.length c)) := Lib.hid fun V hV => ⟨cell_atD V hV rfl, cell_atD V hV rfl, cell_atD V hV rfl⟩
  have X0 : Hid (Ext w (w.alloc (.cells #[.int .i64 id, .int .i64 ph, .slice ao L.length c] 25))) := Lib.hid ((Ext.refl w).alloc _)
  clear h ht
  cases hh : headD ⟨id, ph, L⟩
  · have HF : Hid (false = t) := Lib.hid (by rw [← HT.out]; unfold dnOk; rw [hh]; rfl)
    unfold headD at hh
    simp only [Bool.and_eq_false_iff, decide_eq_false_iff_not] at hh
    have e0 : (ph != 0) = !decide (ph = 0) := by by_cases e : ph = 0 <;> simp [e]
    have e1 : (ph != 1) = !decide (ph = 1) := by by_cases e : ph = 1 <;> simp [e]
    have e2 : (ph != 2) = !decide (ph = 2) := by by_cases e : ph = 2 <;> simp [e]
    by_cases h1 : id < 0
    · clear hh e0 e1 e2
      go_enter Try.func15, Try.ntmps15
      go_wp2
      go_ret
      exact ⟨ret_bool HF.out, X0.out⟩
    by_cases p0 : ph = 0
    · have hl : (63 : Int) < (L.length : Int) := by
        simp only [decide_eq_false_iff_not, Bool.or_eq_false_iff] at hh
        omega
      have f0 : (ph != 0) = false := by simp [p0]
      clear hh e0 e1 e2 p0
      go_enter Try.func15, Try.ntmps15
      go_wp2
      go_ret
      exact ⟨ret_bool HF.out, X0.out⟩
    by_cases p1 : ph = 1
    · have hl : (63 : Int) < (L.length : Int) := by
        simp only [decide_eq_false_iff_not, Bool.or_eq_false_iff] at hh
        omega
      have f0 : (ph != 0) = true := by simp [p0]
      have f1 : (ph != 1) = false := by simp [p1]
      clear hh e0 e1 e2 p0 p1
      go_enter Try.func15, Try.ntmps15
      go_wp2
      go_ret
      exact ⟨ret_bool HF.out, X0.out⟩
    by_cases p2 : ph = 2
    · have hl : (63 : Int) < (L.length : Int) := by
        simp only [decide_eq_false_iff_not, Bool.or_eq_false_iff] at hh
        omega
      have f0 : (ph != 0) = true := by simp [p0]
      have f1 : (ph != 1) = true := by simp [p1]
      have f2 : (ph != 2) = false := by simp [p2]
      clear hh e0 e1 e2 p0 p1 p2
      go_enter Try.func15, Try.ntmps15
      go_wp2
      go_ret
      exact ⟨ret_bool HF.out, X0.out⟩
    · have f0 : (ph != 0) = true := by simp [p0]
      have f1 : (ph != 1) = true := by simp [p1]
      have f2 : (ph != 2) = true := by simp [p2]
      clear hh e0 e1 e2 p0 p1 p2
      go_enter Try.func15, Try.ntmps15
      go_wp2
      go_ret
      exact ⟨ret_bool HF.out, X0.out⟩
  have HD : Hid (sidesD id (-1) L = t) := Lib.hid (by rw [← HT.out]; unfold dnOk; rw [hh, Bool.true_and])
  have hph : ph = 0 ∨ ph = 1 ∨ ph = 2 := by
    unfold headD at hh
    simp only [Bool.and_eq_true, Bool.or_eq_true, decide_eq_true_eq] at hh
    omega
  have hid0 : 0 ≤ id := by
    unfold headD at hh
    simp only [Bool.and_eq_true, Bool.or_eq_true, decide_eq_true_eq] at hh
    omega
  have hl63 : L.length ≤ 63 := by
    unfold headD at hh
    simp only [Bool.and_eq_true, Bool.or_eq_true, decide_eq_true_eq] at hh
    omega
  have HP := Lib.hid hph
  clear hh hph
  go_enter Try.func15, Try.ntmps15
  go_upto_region 1 with (fail)
  go_cut [28] (fun s28 wx => s28 = .bool false ∧ wx = w.alloc (.cells #[.int .i64 id, .int .i64 ph, .slice ao L.length c] 25))
  case first =>
    obtain ⟨k0, k1, k2⟩ := HK.out _ (Ext.refl _)
    rcases HP.out with rfl | rfl | rfl
    all_goals
      go_wp2_with fail
      go_meet
      exact ⟨by first | rfl | (simp; omega), rfl⟩
  case rest =>
    obtain ⟨rfl, rfl⟩ := hcut
    go_wp2
    go_loopw [3] (fun i wr => ∃ k : Nat, k ≤ L.length ∧ i = .int .i64 k ∧ Hid (sidesD id (-1) (L.take k) = true) ∧ Hid (Ext (w.alloc (.cells #[.int .i64 id, .int .i64 ph, .slice ao L.length c] 25)) wr)) (fun i _ => L.length - (intOf i).toNat)
    case atStart => exact ⟨0, Nat.zero_le _, rfl, Lib.hid rfl, Lib.hid (Ext.refl _)⟩
    case round =>
      obtain ⟨k, hk, rfl, HQ, HX⟩ := hrel
      obtain ⟨k0, k1, k2⟩ := HK.out wr HX.out
      clear k0 k1
      by_cases hlt : k < L.length
      · obtain ⟨b1, off, s, hsy, hsj, rfl, hn, hnc, hc63, hb, hcs⟩ := HS.out.sidesAt hlt
        obtain ⟨⟨⟨x0, x1⟩, x2, x3⟩, ⟨x4, x5⟩, x6, x7⟩ := hcs wr (X0.out.trans HX.out)
        have htk : L.take (k + 1) = L.take k ++ [s] := by rw [List.take_succ_eq_append_getElem hlt, (List.getElem?_eq_some_iff.1 hsj).2]
        have HOK : Hid (sidesD id (-1) (L.take (k + 1)) = sideD id (lastD (-1) (L.take k)) s) := Lib.hid (by rw [htk, sidesD_app, HQ.out, Bool.true_and])
        have HBAD : Hid (sideD id (lastD (-1) (L.take k)) s = false → false = t) := Lib.hid fun e => by
          have := sidesD_pre id _ (L.drop (k + 1)) (-1) (HOK.out.trans e)
          rw [List.take_append_drop] at this
          rw [← HD.out, this]
        have hl1 := Lib.hid (lastD_low id _ _ HQ.out)
        have HLA : Hid (∀ (j : Nat) (s' : Sd), k = j + 1 → L[j]? = some s' → lastD (-1) (L.take k) = s'.peer) := Lib.hid fun j s' e h => by rw [e]; exact lastD_at L j s' (-1) h
        have HL0 : Hid (k = 0 → lastD (-1) (L.take k) = -1) := Lib.hid fun e => by rw [e]; rfl
        obtain ⟨la, hla⟩ : ∃ la, la = lastD (-1) (L.take k) := ⟨_, rfl⟩
        rw [← hla] at HOK HBAD hl1 HLA HL0
        obtain ⟨W1, hW1⟩ : ∃ W1, W1 = wr.alloc (.cells s.cs 47) := ⟨_, rfl⟩
        have X1 := Lib.hid (extU HX.out hW1)
        have D1 : Hid (W1.heap[wr.heap.size]? = some (.cells s.cs 47 (0, 0))) := Lib.hid (hW1 ▸ at0 wr _)
        have HW1 := Lib.hid hW1
        clear hla htk hsy hsj hcs hn hW1
        obtain ⟨y0, y1, y2, y3, y4, y5, y6, y7⟩ := s
        dsimp only at x0 x1 x2 x3 x4 x5 x6 x7
        dsimp only [Sd.cs] at HW1 D1
        go_upto_region 7 with (fail)
        rw [← HW1.out]
        clear x0 x1 x2 x3 x4 x5 x6 x7 k2
        obtain ⟨k0, k1, k2⟩ := HK.out W1 X1.out
        obtain ⟨⟨⟨x0, x1⟩, x2, x3⟩, ⟨x4, x5⟩, x6, x7⟩ := cells8U D1.out
        go_cut [95] (fun s95 wx => ∃ b, s95 = .bool b ∧ Hid (sideD id la ⟨y0, y1, y2, y3, y4, y5, y6, y7⟩ = !b) ∧ Hid (Ext W1 wx))
        case first =>
          clear k0 k1 k2 x0 x1 x2 x3 x4 x5 x6 x7
          refine wp_region_still_lit (by kernel_rfl) (by kernel_rfl) ?_
          obtain ⟨WD, hWD⟩ : ∃ WD, WD = { W1 with drawn := W1.drawn + 1 } := ⟨_, rfl⟩
          have XD : Hid (Ext W1 WD) := Lib.hid (hWD ▸ (Ext.refl W1).drew)
          rw [← hWD]
          clear hWD
          obtain ⟨k0, k1, k2⟩ := HK.out WD (X1.out.trans XD.out)
          obtain ⟨⟨⟨x0, x1⟩, x2, x3⟩, ⟨x4, x5⟩, x6, x7⟩ := cells8U (keepU D1.out XD.out)
          refine stStart (fun a0 O Q' ha0 hO hQ => ?_)
          have PE := pc_eval (show a0.tmps.size = 96 by rw [ha0]; rfl)
          have E1 : a0.eval (.tmp 1) = .pointer (some ⟨w.heap.size, 0, none⟩) := by rw [ha0]; rfl
          have E3 : a0.eval (.tmp 3) = .int .i64 (k : Int) := by rw [ha0]; rfl
          have E4 : a0.eval (.tmp 4) = .pointer (some ⟨wr.heap.size, 0, none⟩) := by rw [ha0]; rfl
          obtain ⟨o3, O3, P3⟩ : ∃ o, O[3]? = some o ∧ o.dst = some 44 := by rw [hO]; exact ⟨_, rfl, rfl⟩
          obtain ⟨o10, O10, P10⟩ : ∃ o, O[10]? = some o ∧ o.dst = some 51 := by rw [hO]; exact ⟨_, rfl, rfl⟩
          obtain ⟨o13, O13, P13⟩ : ∃ o, O[13]? = some o ∧ o.dst = some 54 := by rw [hO]; exact ⟨_, rfl, rfl⟩
          obtain ⟨o26, O26, P26⟩ : ∃ o, O[26]? = some o ∧ o.dst = some 67 := by rw [hO]; exact ⟨_, rfl, rfl⟩
          obtain ⟨o31, O31, P31⟩ : ∃ o, O[31]? = some o ∧ o.dst = some 72 := by rw [hO]; exact ⟨_, rfl, rfl⟩
          obtain ⟨o36, O36, P36⟩ : ∃ o, O[36]? = some o ∧ o.dst = some 77 := by rw [hO]; exact ⟨_, rfl, rfl⟩
          obtain ⟨o41, O41, P41⟩ : ∃ o, O[41]? = some o ∧ o.dst = some 82 := by rw [hO]; exact ⟨_, rfl, rfl⟩
          obtain ⟨o46, O46, P46⟩ : ∃ o, O[46]? = some o ∧ o.dst = some 87 := by rw [hO]; exact ⟨_, rfl, rfl⟩
          obtain ⟨o49, O49, P49⟩ : ∃ o, O[49]? = some o ∧ o.dst = some 90 := by rw [hO]; exact ⟨_, rfl, rfl⟩
          have HA0 := Lib.hid ha0
          have HQQ := Lib.hid hQ
          clear ha0 hO hQ
          refine stSeg 4 (fun l' => ∃ (x41 x42 x43 : Value) (b1 : Bool), l' = [(44, .bool b1), (43, x43), (42, x42), (41, x41)] ∧ Hid (b1 = decide (y0 < 0))) ?_ ?_
          · dsimp only [List.take]
            by_cases ht : y0 < 0
            · refine stTn (d := 41) _ rfl rfl (by simp only [execOp]; (try simp only [PE]); (try simp only [lk_cons]); (try simp only [lk_nil]); (try simp only [E1]); (try simp only [E3]); (try simp only [E4]); go_simp; first | done | with_reducible rfl) ?_
              refine stTn (d := 42) _ rfl rfl (by simp only [execOp]; (try simp only [PE]); (try simp only [lk_cons]); (try simp only [lk_nil]); (try simp only [E1]); (try simp only [E3]); (try simp only [E4]); go_simp; first | done | with_reducible rfl) ?_
              refine stTn (d := 43) (.bool true) rfl rfl (by simp only [execOp]; (try simp only [PE]); (try simp only [lk_cons]); (try simp only [lk_nil]); (try simp only [E1]); (try simp only [E3]); (try simp only [E4]); go_simp; first | done | with_reducible rfl) ?_
              refine stTn (d := 44) (.bool true) rfl rfl (by simp only [execOp]; (try simp only [PE]); (try simp only [lk_cons]); (try simp only [lk_nil]); (try simp only [E1]); (try simp only [E3]); (try simp only [E4]); go_simp; first | done | with_reducible rfl) ?_
              exact wpStill_nil ⟨_, rfl, _, _, _, _, rfl, Lib.hid ((by rw [decide_eq_true ht]))⟩
            · refine stTn (d := 41) _ rfl rfl (by simp only [execOp]; (try simp only [PE]); (try simp only [lk_cons]); (try simp only [lk_nil]); (try simp only [E1]); (try simp only [E3]); (try simp only [E4]); go_simp; first | done | with_reducible rfl) ?_
              refine stTn (d := 42) _ rfl rfl (by simp only [execOp]; (try simp only [PE]); (try simp only [lk_cons]); (try simp only [lk_nil]); (try simp only [E1]); (try simp only [E3]); (try simp only [E4]); go_simp; first | done | with_reducible rfl) ?_
              refine stTn (d := 43) (.bool false) rfl rfl (by simp only [execOp]; (try simp only [PE]); (try simp only [lk_cons]); (try simp only [lk_nil]); (try simp only [E1]); (try simp only [E3]); (try simp only [E4]); go_simp; first | done | with_reducible rfl) ?_
              refine stTn (d := 44) (.bool false) rfl rfl (by simp only [execOp]; (try simp only [PE]); (try simp only [lk_cons]); (try simp only [lk_nil]); (try simp only [E1]); (try simp only [E3]); (try simp only [E4]); go_simp; first | done | with_reducible rfl) ?_
              exact wpStill_nil ⟨_, rfl, _, _, _, _, rfl, Lib.hid ((by rw [decide_eq_false ht]))⟩
          dsimp only [List.drop]
          rintro l' ⟨x41, x42, x43, b1, rfl, Hb1⟩
          refine stSeg 7 (fun l' => ∃ (x45 x46 x47 x48 x49 x50 : Value) (b2 : Bool), l' = [(51, .bool b2), (50, x50), (49, x49), (48, x48), (47, x47), (46, x46), (45, x45), (44, .bool b1), (43, x43), (42, x42), (41, x41)] ∧ Hid (b2 = decide (y0 < 0 ∨ y0 = id))) ?_ ?_
          · dsimp only [List.take]
            cases b1
            · by_cases ht : y0 = id
              · have t2 : (y0 == id) = true := by simp [ht]
                have HTT := Lib.hid ht
                clear ht
                refine stTg (d := 45) (s := 44) (b := false) _ rfl rfl O3 P3 PE (by simp [lk_cons]) (by simp only [execOp]; (try simp only [PE]); (try simp only [lk_cons]); (try simp only [lk_nil]); (try simp only [E1]); (try simp only [E3]); (try simp only [E4]); go_simp; first | done | with_reducible rfl) ?_
                refine stTg (d := 46) (s := 44) (b := false) _ rfl rfl O3 P3 PE (by simp [lk_cons]) (by simp only [execOp]; (try simp only [PE]); (try simp only [lk_cons]); (try simp only [lk_nil]); (try simp only [E1]); (try simp only [E3]); (try simp only [E4]); go_simp; first | done | with_reducible rfl) ?_
                refine stTg (d := 47) (s := 44) (b := false) _ rfl rfl O3 P3 PE (by simp [lk_cons]) (by simp only [execOp]; (try simp only [PE]); (try simp only [lk_cons]); (try simp only [lk_nil]); (try simp only [E1]); (try simp only [E3]); (try simp only [E4]); go_simp; first | done | with_reducible rfl) ?_
                refine stTg (d := 48) (s := 44) (b := false) _ rfl rfl O3 P3 PE (by simp [lk_cons]) (by simp only [execOp]; (try simp only [PE]); (try simp only [lk_cons]); (try simp only [lk_nil]); (try simp only [E1]); (try simp only [E3]); (try simp only [E4]); go_simp; first | done | with_reducible rfl) ?_
                refine stTg (d := 49) (s := 44) (b := false) (.bool true) rfl rfl O3 P3 PE (by simp [lk_cons]) (by simp only [execOp]; (try simp only [PE]); (try simp only [lk_cons]); (try simp only [lk_nil]); (try simp only [E1]); (try simp only [E3]); (try simp only [E4]); go_simp; first | done | with_reducible rfl) ?_
                refine stTn (d := 50) (.bool true) rfl rfl (by simp only [execOp]; (try simp only [PE]); (try simp only [lk_cons]); (try simp only [lk_nil]); (try simp only [E1]); (try simp only [E3]); (try simp only [E4]); go_simp; first | done | with_reducible rfl) ?_
                refine stTn (d := 51) (.bool true) rfl rfl (by simp only [execOp]; (try simp only [PE]); (try simp only [lk_cons]); (try simp only [lk_nil]); (try simp only [E1]); (try simp only [E3]); (try simp only [E4]); go_simp; first | done | with_reducible rfl) ?_
                exact wpStill_nil ⟨_, rfl, _, _, _, _, _, _, _, rfl, Lib.hid ((by rw [decide_eq_true (.inr HTT.out)]))⟩
              · have t2 : (y0 == id) = false := by simp [ht]
                refine stTg (d := 45) (s := 44) (b := false) _ rfl rfl O3 P3 PE (by simp [lk_cons]) (by simp only [execOp]; (try simp only [PE]); (try simp only [lk_cons]); (try simp only [lk_nil]); (try simp only [E1]); (try simp only [E3]); (try simp only [E4]); go_simp; first | done | with_reducible rfl) ?_
                refine stTg (d := 46) (s := 44) (b := false) _ rfl rfl O3 P3 PE (by simp [lk_cons]) (by simp only [execOp]; (try simp only [PE]); (try simp only [lk_cons]); (try simp only [lk_nil]); (try simp only [E1]); (try simp only [E3]); (try simp only [E4]); go_simp; first | done | with_reducible rfl) ?_
                refine stTg (d := 47) (s := 44) (b := false) _ rfl rfl O3 P3 PE (by simp [lk_cons]) (by simp only [execOp]; (try simp only [PE]); (try simp only [lk_cons]); (try simp only [lk_nil]); (try simp only [E1]); (try simp only [E3]); (try simp only [E4]); go_simp; first | done | with_reducible rfl) ?_
                refine stTg (d := 48) (s := 44) (b := false) _ rfl rfl O3 P3 PE (by simp [lk_cons]) (by simp only [execOp]; (try simp only [PE]); (try simp only [lk_cons]); (try simp only [lk_nil]); (try simp only [E1]); (try simp only [E3]); (try simp only [E4]); go_simp; first | done | with_reducible rfl) ?_
                refine stTg (d := 49) (s := 44) (b := false) (.bool false) rfl rfl O3 P3 PE (by simp [lk_cons]) (by simp only [execOp]; (try simp only [PE]); (try simp only [lk_cons]); (try simp only [lk_nil]); (try simp only [E1]); (try simp only [E3]); (try simp only [E4]); go_simp; first | done | with_reducible rfl) ?_
                refine stTn (d := 50) (.bool false) rfl rfl (by simp only [execOp]; (try simp only [PE]); (try simp only [lk_cons]); (try simp only [lk_nil]); (try simp only [E1]); (try simp only [E3]); (try simp only [E4]); go_simp; first | done | with_reducible rfl) ?_
                refine stTn (d := 51) (.bool false) rfl rfl (by simp only [execOp]; (try simp only [PE]); (try simp only [lk_cons]); (try simp only [lk_nil]); (try simp only [E1]); (try simp only [E3]); (try simp only [E4]); go_simp; first | done | with_reducible rfl) ?_
                exact wpStill_nil ⟨_, rfl, _, _, _, _, _, _, _, rfl, Lib.hid ((by rw [decide_eq_false (by rintro (h | h); exact of_decide_eq_false Hb1.out.symm h; exact ht h)]))⟩
            · refine stUg (d := 45) (s := 44) (b := false) rfl rfl O3 P3 PE (by simp [lk_cons]) ?_
              refine stUg (d := 46) (s := 44) (b := false) rfl rfl O3 P3 PE (by simp [lk_cons]) ?_
              refine stUg (d := 47) (s := 44) (b := false) rfl rfl O3 P3 PE (by simp [lk_cons]) ?_
              refine stUg (d := 48) (s := 44) (b := false) rfl rfl O3 P3 PE (by simp [lk_cons]) ?_
              refine stUg (d := 49) (s := 44) (b := false) rfl rfl O3 P3 PE (by simp [lk_cons]) ?_
              refine stTn (d := 50) (.bool true) rfl rfl (by simp only [execOp]; (try simp only [PE]); (try simp only [lk_cons]); (try simp only [lk_nil]); (try simp only [E1]); (try simp only [E3]); (try simp only [E4]); go_simp; first | done | with_reducible rfl) ?_
              refine stTn (d := 51) (.bool true) rfl rfl (by simp only [execOp]; (try simp only [PE]); (try simp only [lk_cons]); (try simp only [lk_nil]); (try simp only [E1]); (try simp only [E3]); (try simp only [E4]); go_simp; first | done | with_reducible rfl) ?_
              exact wpStill_nil ⟨_, rfl, _, _, _, _, _, _, _, rfl, Lib.hid ((by rw [decide_eq_true (.inl (of_decide_eq_true Hb1.out.symm))]))⟩
          dsimp only [List.drop]
          rintro l' ⟨x45, x46, x47, x48, x49, x50, b2, rfl, Hb2⟩
          refine stSeg 16 (fun l' => ∃ (x52 x53 x54 x55 x56 x57 x58 x59 x60 x61 x62 x63 x64 x65 x66 : Value) (b3 : Bool), l' = [(67, .bool b3), (66, x66), (65, x65), (64, x64), (63, x63), (62, x62), (61, x61), (60, x60), (59, x59), (58, x58), (57, x57), (56, x56), (55, x55), (54, x54), (53, x53), (52, x52), (51, .bool b2), (50, x50), (49, x49), (48, x48), (47, x47), (46, x46), (45, x45), (44, .bool b1), (43, x43), (42, x42), (41, x41)] ∧ Hid (b3 = decide (y0 ≤ la ∨ y0 = id))) ?_ ?_
          · dsimp only [List.take]
            cases b2
            · have hn2 := of_decide_eq_false Hb2.out.symm
              rcases Nat.eq_zero_or_pos k with hk0 | hk0
              · subst hk0
                have hm1 := HL0.out rfl
                refine stTg (d := 52) (s := 51) (b := false) _ rfl rfl O10 P10 PE (by simp [lk_cons]) (by simp only [execOp]; (try simp only [PE]); (try simp only [lk_cons]); (try simp only [lk_nil]); (try simp only [E1]); (try simp only [E3]); (try simp only [E4]); go_simp; first | done | with_reducible rfl) ?_
                refine stTg (d := 53) (s := 51) (b := false) (.bool false) rfl rfl O10 P10 PE (by simp [lk_cons]) (by simp only [execOp]; (try simp only [PE]); (try simp only [lk_cons]); (try simp only [lk_nil]); (try simp only [E1]); (try simp only [E3]); (try simp only [E4]); go_simp; first | done | with_reducible rfl) ?_
                refine stTg (d := 54) (s := 51) (b := false) (.bool false) rfl rfl O10 P10 PE (by simp [lk_cons]) (by simp only [execOp]; (try simp only [PE]); (try simp only [lk_cons]); (try simp only [lk_nil]); (try simp only [E1]); (try simp only [E3]); (try simp only [E4]); go_simp; first | done | with_reducible rfl) ?_
                refine stUg (d := 55) (s := 54) (b := true) rfl rfl O13 P13 PE (by simp [lk_cons]) ?_
                refine stUg (d := 56) (s := 54) (b := true) rfl rfl O13 P13 PE (by simp [lk_cons]) ?_
                refine stUg (d := 57) (s := 54) (b := true) rfl rfl O13 P13 PE (by simp [lk_cons]) ?_
                refine stUg (d := 58) (s := 54) (b := true) rfl rfl O13 P13 PE (by simp [lk_cons]) ?_
                refine stUg (d := 59) (s := 54) (b := true) rfl rfl O13 P13 PE (by simp [lk_cons]) ?_
                refine stUg (d := 60) (s := 54) (b := true) rfl rfl O13 P13 PE (by simp [lk_cons]) ?_
                refine stUg (d := 61) (s := 54) (b := true) rfl rfl O13 P13 PE (by simp [lk_cons]) ?_
                refine stUg (d := 62) (s := 54) (b := true) rfl rfl O13 P13 PE (by simp [lk_cons]) ?_
                refine stUg (d := 63) (s := 54) (b := true) rfl rfl O13 P13 PE (by simp [lk_cons]) ?_
                refine stUg (d := 64) (s := 54) (b := true) rfl rfl O13 P13 PE (by simp [lk_cons]) ?_
                refine stTg (d := 65) (s := 51) (b := false) (.bool false) rfl rfl O10 P10 PE (by simp [lk_cons]) (by simp only [execOp]; (try simp only [PE]); (try simp only [lk_cons]); (try simp only [lk_nil]); (try simp only [E1]); (try simp only [E3]); (try simp only [E4]); go_simp; first | done | with_reducible rfl) ?_
                refine stTn (d := 66) (.bool false) rfl rfl (by simp only [execOp]; (try simp only [PE]); (try simp only [lk_cons]); (try simp only [lk_nil]); (try simp only [E1]); (try simp only [E3]); (try simp only [E4]); go_simp; first | done | with_reducible rfl) ?_
                refine stTn (d := 67) (.bool false) rfl rfl (by simp only [execOp]; (try simp only [PE]); (try simp only [lk_cons]); (try simp only [lk_nil]); (try simp only [E1]); (try simp only [E3]); (try simp only [E4]); go_simp; first | done | with_reducible rfl) ?_
                exact wpStill_nil ⟨_, rfl, _, _, _, _, _, _, _, _, _, _, _, _, _, _, _, _, rfl, Lib.hid ((by rw [decide_eq_false (by omega)]))⟩
              · obtain ⟨j, rfl⟩ : ∃ j, k = j + 1 := ⟨k - 1, by omega⟩
                obtain ⟨b2, off2, s', hsy', hsj', hao, hn', hnc', hc63', hb', hcs'⟩ := HS.out.sidesAt (k := j) (by omega)
                simp only [Option.some.injEq, Addr.mk.injEq, and_true] at hao
                obtain ⟨rfl, rfl⟩ := hao
                obtain ⟨⟨⟨z0, z1⟩, z2, z3⟩, ⟨z4, z5⟩, z6, z7⟩ := hcs' WD (X0.out.trans (X1.out.trans XD.out))
                have hm1 : la = s'.peer := HLA.out j s' rfl hsj'
                rw [← hm1] at z0
                have t3 : decide ((0 : Int) < ((j + 1 : Nat) : Int)) = true := decide_eq_true (by omega)
                have hwj : IntKind.i64.wrap (((j + 1 : Nat) : Int) - 1) = (j : Int) := by rw [wrapN _ (by omega) (by omega)]; omega
                have hwj2 : IntKind.i64.wrap ((j : Int) + 1 - 1) = (j : Int) := by rw [wrapN _ (by omega) (by omega)]; omega
                have hwj3 : IntKind.i64.wrap (j : Int) = (j : Int) := wrapN _ (by omega) (by omega)
                clear z1 z2 z3 z4 z5 z6 z7 hsy' hsj' hcs' hn' hm1
                have hjl : j < L.length := by omega
                by_cases ht : y0 ≤ la
                · refine stTg (d := 52) (s := 51) (b := false) _ rfl rfl O10 P10 PE (by simp [lk_cons]) (by simp only [execOp]; (try simp only [PE]); (try simp only [lk_cons]); (try simp only [lk_nil]); (try simp only [E1]); (try simp only [E3]); (try simp only [E4]); go_simp; first | done | with_reducible rfl) ?_
                  refine stTg (d := 53) (s := 51) (b := false) (.bool true) rfl rfl O10 P10 PE (by simp [lk_cons]) (by simp only [execOp]; (try simp only [PE]); (try simp only [lk_cons]); (try simp only [lk_nil]); (try simp only [E1]); (try simp only [E3]); (try simp only [E4]); go_simp; first | done | with_reducible rfl) ?_
                  refine stTg (d := 54) (s := 51) (b := false) (.bool true) rfl rfl O10 P10 PE (by simp [lk_cons]) (by simp only [execOp]; (try simp only [PE]); (try simp only [lk_cons]); (try simp only [lk_nil]); (try simp only [E1]); (try simp only [E3]); (try simp only [E4]); go_simp; first | done | with_reducible rfl) ?_
                  refine stTg (d := 55) (s := 54) (b := true) _ rfl rfl O13 P13 PE (by simp [lk_cons]) (by simp only [execOp]; (try simp only [PE]); (try simp only [lk_cons]); (try simp only [lk_nil]); (try simp only [E1]); (try simp only [E3]); (try simp only [E4]); go_simp; first | done | with_reducible rfl) ?_
                  refine stTg (d := 56) (s := 54) (b := true) _ rfl rfl O13 P13 PE (by simp [lk_cons]) (by simp only [execOp]; (try simp only [PE]); (try simp only [lk_cons]); (try simp only [lk_nil]); (try simp only [E1]); (try simp only [E3]); (try simp only [E4]); go_simp; first | done | with_reducible rfl) ?_
                  refine stTg (d := 57) (s := 54) (b := true) _ rfl rfl O13 P13 PE (by simp [lk_cons]) (by simp only [execOp]; (try simp only [PE]); (try simp only [lk_cons]); (try simp only [lk_nil]); (try simp only [E1]); (try simp only [E3]); (try simp only [E4]); go_simp; first | done | with_reducible rfl) ?_
                  refine stTg (d := 58) (s := 54) (b := true) _ rfl rfl O13 P13 PE (by simp [lk_cons]) (by simp only [execOp]; (try simp only [PE]); (try simp only [lk_cons]); (try simp only [lk_nil]); (try simp only [E1]); (try simp only [E3]); (try simp only [E4]); go_simp; first | done | with_reducible rfl) ?_
                  refine stTg (d := 59) (s := 54) (b := true) _ rfl rfl O13 P13 PE (by simp [lk_cons]) (by simp only [execOp]; (try simp only [PE]); (try simp only [lk_cons]); (try simp only [lk_nil]); (try simp only [E1]); (try simp only [E3]); (try simp only [E4]); go_simp; first | done | with_reducible rfl) ?_
                  refine stTg (d := 60) (s := 54) (b := true) _ rfl rfl O13 P13 PE (by simp [lk_cons]) (by simp only [execOp]; (try simp only [PE]); (try simp only [lk_cons]); (try simp only [lk_nil]); (try simp only [E1]); (try simp only [E3]); (try simp only [E4]); go_simp; first | done | with_reducible rfl) ?_
                  refine stTg (d := 61) (s := 54) (b := true) _ rfl rfl O13 P13 PE (by simp [lk_cons]) (by simp only [execOp]; (try simp only [PE]); (try simp only [lk_cons]); (try simp only [lk_nil]); (try simp only [E1]); (try simp only [E3]); (try simp only [E4]); go_simp; first | done | with_reducible rfl) ?_
                  refine stTg (d := 62) (s := 54) (b := true) _ rfl rfl O13 P13 PE (by simp [lk_cons]) (by simp only [execOp]; (try simp only [PE]); (try simp only [lk_cons]); (try simp only [lk_nil]); (try simp only [E1]); (try simp only [E3]); (try simp only [E4]); go_simp; first | done | with_reducible rfl) ?_
                  refine stTg (d := 63) (s := 54) (b := true) _ rfl rfl O13 P13 PE (by simp [lk_cons]) (by simp only [execOp]; (try simp only [PE]); (try simp only [lk_cons]); (try simp only [lk_nil]); (try simp only [E1]); (try simp only [E3]); (try simp only [E4]); go_simp; first | done | with_reducible rfl) ?_
                  refine stTg (d := 64) (s := 54) (b := true) (.bool true) rfl rfl O13 P13 PE (by simp [lk_cons]) (by simp only [execOp]; (try simp only [PE]); (try simp only [lk_cons]); (try simp only [lk_nil]); (try simp only [E1]); (try simp only [E3]); (try simp only [E4]); go_simp; first | done | with_reducible rfl) ?_
                  refine stTg (d := 65) (s := 51) (b := false) (.bool true) rfl rfl O10 P10 PE (by simp [lk_cons]) (by simp only [execOp]; (try simp only [PE]); (try simp only [lk_cons]); (try simp only [lk_nil]); (try simp only [E1]); (try simp only [E3]); (try simp only [E4]); go_simp; first | done | with_reducible rfl) ?_
                  refine stTn (d := 66) (.bool true) rfl rfl (by simp only [execOp]; (try simp only [PE]); (try simp only [lk_cons]); (try simp only [lk_nil]); (try simp only [E1]); (try simp only [E3]); (try simp only [E4]); go_simp; first | done | with_reducible rfl) ?_
                  refine stTn (d := 67) (.bool true) rfl rfl (by simp only [execOp]; (try simp only [PE]); (try simp only [lk_cons]); (try simp only [lk_nil]); (try simp only [E1]); (try simp only [E3]); (try simp only [E4]); go_simp; first | done | with_reducible rfl) ?_
                  exact wpStill_nil ⟨_, rfl, _, _, _, _, _, _, _, _, _, _, _, _, _, _, _, _, rfl, Lib.hid ((by rw [decide_eq_true (.inl ht)]))⟩
                · refine stTg (d := 52) (s := 51) (b := false) _ rfl rfl O10 P10 PE (by simp [lk_cons]) (by simp only [execOp]; (try simp only [PE]); (try simp only [lk_cons]); (try simp only [lk_nil]); (try simp only [E1]); (try simp only [E3]); (try simp only [E4]); go_simp; first | done | with_reducible rfl) ?_
                  refine stTg (d := 53) (s := 51) (b := false) (.bool true) rfl rfl O10 P10 PE (by simp [lk_cons]) (by simp only [execOp]; (try simp only [PE]); (try simp only [lk_cons]); (try simp only [lk_nil]); (try simp only [E1]); (try simp only [E3]); (try simp only [E4]); go_simp; first | done | with_reducible rfl) ?_
                  refine stTg (d := 54) (s := 51) (b := false) (.bool true) rfl rfl O10 P10 PE (by simp [lk_cons]) (by simp only [execOp]; (try simp only [PE]); (try simp only [lk_cons]); (try simp only [lk_nil]); (try simp only [E1]); (try simp only [E3]); (try simp only [E4]); go_simp; first | done | with_reducible rfl) ?_
                  refine stTg (d := 55) (s := 54) (b := true) _ rfl rfl O13 P13 PE (by simp [lk_cons]) (by simp only [execOp]; (try simp only [PE]); (try simp only [lk_cons]); (try simp only [lk_nil]); (try simp only [E1]); (try simp only [E3]); (try simp only [E4]); go_simp; first | done | with_reducible rfl) ?_
                  refine stTg (d := 56) (s := 54) (b := true) _ rfl rfl O13 P13 PE (by simp [lk_cons]) (by simp only [execOp]; (try simp only [PE]); (try simp only [lk_cons]); (try simp only [lk_nil]); (try simp only [E1]); (try simp only [E3]); (try simp only [E4]); go_simp; first | done | with_reducible rfl) ?_
                  refine stTg (d := 57) (s := 54) (b := true) _ rfl rfl O13 P13 PE (by simp [lk_cons]) (by simp only [execOp]; (try simp only [PE]); (try simp only [lk_cons]); (try simp only [lk_nil]); (try simp only [E1]); (try simp only [E3]); (try simp only [E4]); go_simp; first | done | with_reducible rfl) ?_
                  refine stTg (d := 58) (s := 54) (b := true) _ rfl rfl O13 P13 PE (by simp [lk_cons]) (by simp only [execOp]; (try simp only [PE]); (try simp only [lk_cons]); (try simp only [lk_nil]); (try simp only [E1]); (try simp only [E3]); (try simp only [E4]); go_simp; first | done | with_reducible rfl) ?_
                  refine stTg (d := 59) (s := 54) (b := true) _ rfl rfl O13 P13 PE (by simp [lk_cons]) (by simp only [execOp]; (try simp only [PE]); (try simp only [lk_cons]); (try simp only [lk_nil]); (try simp only [E1]); (try simp only [E3]); (try simp only [E4]); go_simp; first | done | with_reducible rfl) ?_
                  refine stTg (d := 60) (s := 54) (b := true) _ rfl rfl O13 P13 PE (by simp [lk_cons]) (by simp only [execOp]; (try simp only [PE]); (try simp only [lk_cons]); (try simp only [lk_nil]); (try simp only [E1]); (try simp only [E3]); (try simp only [E4]); go_simp; first | done | with_reducible rfl) ?_
                  refine stTg (d := 61) (s := 54) (b := true) _ rfl rfl O13 P13 PE (by simp [lk_cons]) (by simp only [execOp]; (try simp only [PE]); (try simp only [lk_cons]); (try simp only [lk_nil]); (try simp only [E1]); (try simp only [E3]); (try simp only [E4]); go_simp; first | done | with_reducible rfl) ?_
                  refine stTg (d := 62) (s := 54) (b := true) _ rfl rfl O13 P13 PE (by simp [lk_cons]) (by simp only [execOp]; (try simp only [PE]); (try simp only [lk_cons]); (try simp only [lk_nil]); (try simp only [E1]); (try simp only [E3]); (try simp only [E4]); go_simp; first | done | with_reducible rfl) ?_
                  refine stTg (d := 63) (s := 54) (b := true) _ rfl rfl O13 P13 PE (by simp [lk_cons]) (by simp only [execOp]; (try simp only [PE]); (try simp only [lk_cons]); (try simp only [lk_nil]); (try simp only [E1]); (try simp only [E3]); (try simp only [E4]); go_simp; first | done | with_reducible rfl) ?_
                  refine stTg (d := 64) (s := 54) (b := true) (.bool false) rfl rfl O13 P13 PE (by simp [lk_cons]) (by simp only [execOp]; (try simp only [PE]); (try simp only [lk_cons]); (try simp only [lk_nil]); (try simp only [E1]); (try simp only [E3]); (try simp only [E4]); go_simp; first | done | with_reducible rfl) ?_
                  refine stTg (d := 65) (s := 51) (b := false) (.bool false) rfl rfl O10 P10 PE (by simp [lk_cons]) (by simp only [execOp]; (try simp only [PE]); (try simp only [lk_cons]); (try simp only [lk_nil]); (try simp only [E1]); (try simp only [E3]); (try simp only [E4]); go_simp; first | done | with_reducible rfl) ?_
                  refine stTn (d := 66) (.bool false) rfl rfl (by simp only [execOp]; (try simp only [PE]); (try simp only [lk_cons]); (try simp only [lk_nil]); (try simp only [E1]); (try simp only [E3]); (try simp only [E4]); go_simp; first | done | with_reducible rfl) ?_
                  refine stTn (d := 67) (.bool false) rfl rfl (by simp only [execOp]; (try simp only [PE]); (try simp only [lk_cons]); (try simp only [lk_nil]); (try simp only [E1]); (try simp only [E3]); (try simp only [E4]); go_simp; first | done | with_reducible rfl) ?_
                  exact wpStill_nil ⟨_, rfl, _, _, _, _, _, _, _, _, _, _, _, _, _, _, _, _, rfl, Lib.hid ((by rw [decide_eq_false (by omega)]))⟩
            · refine stUg (d := 52) (s := 51) (b := false) rfl rfl O10 P10 PE (by simp [lk_cons]) ?_
              refine stUg (d := 53) (s := 51) (b := false) rfl rfl O10 P10 PE (by simp [lk_cons]) ?_
              refine stUg (d := 54) (s := 51) (b := false) rfl rfl O10 P10 PE (by simp [lk_cons]) ?_
              refine stUx (d := 55) (s := 54) (b := true) rfl rfl O13 P13 PE (by simp [lk_cons]) ?_
              refine stUx (d := 56) (s := 54) (b := true) rfl rfl O13 P13 PE (by simp [lk_cons]) ?_
              refine stUx (d := 57) (s := 54) (b := true) rfl rfl O13 P13 PE (by simp [lk_cons]) ?_
              refine stUx (d := 58) (s := 54) (b := true) rfl rfl O13 P13 PE (by simp [lk_cons]) ?_
              refine stUx (d := 59) (s := 54) (b := true) rfl rfl O13 P13 PE (by simp [lk_cons]) ?_
              refine stUx (d := 60) (s := 54) (b := true) rfl rfl O13 P13 PE (by simp [lk_cons]) ?_
              refine stUx (d := 61) (s := 54) (b := true) rfl rfl O13 P13 PE (by simp [lk_cons]) ?_
              refine stUx (d := 62) (s := 54) (b := true) rfl rfl O13 P13 PE (by simp [lk_cons]) ?_
              refine stUx (d := 63) (s := 54) (b := true) rfl rfl O13 P13 PE (by simp [lk_cons]) ?_
              refine stUx (d := 64) (s := 54) (b := true) rfl rfl O13 P13 PE (by simp [lk_cons]) ?_
              refine stUg (d := 65) (s := 51) (b := false) rfl rfl O10 P10 PE (by simp [lk_cons]) ?_
              refine stTn (d := 66) (.bool true) rfl rfl (by simp only [execOp]; (try simp only [PE]); (try simp only [lk_cons]); (try simp only [lk_nil]); (try simp only [E1]); (try simp only [E3]); (try simp only [E4]); go_simp; first | done | with_reducible rfl) ?_
              refine stTn (d := 67) (.bool true) rfl rfl (by simp only [execOp]; (try simp only [PE]); (try simp only [lk_cons]); (try simp only [lk_nil]); (try simp only [E1]); (try simp only [E3]); (try simp only [E4]); go_simp; first | done | with_reducible rfl) ?_
              exact wpStill_nil ⟨_, rfl, _, _, _, _, _, _, _, _, _, _, _, _, _, _, _, _, rfl, Lib.hid ((by have := of_decide_eq_true Hb2.out.symm; have := hl1.out; rw [decide_eq_true (by omega)]))⟩
          dsimp only [List.drop]
          rintro l' ⟨x52, x53, x54, x55, x56, x57, x58, x59, x60, x61, x62, x63, x64, x65, x66, b3, rfl, Hb3⟩
          refine stSeg 5 (fun l' => ∃ (x68 x69 x70 x71 : Value) (b4 : Bool), l' = [(72, .bool b4), (71, x71), (70, x70), (69, x69), (68, x68), (67, .bool b3), (66, x66), (65, x65), (64, x64), (63, x63), (62, x62), (61, x61), (60, x60), (59, x59), (58, x58), (57, x57), (56, x56), (55, x55), (54, x54), (53, x53), (52, x52), (51, .bool b2), (50, x50), (49, x49), (48, x48), (47, x47), (46, x46), (45, x45), (44, .bool b1), (43, x43), (42, x42), (41, x41)] ∧ Hid (b4 = (b3 || decide (y1 < 0)))) ?_ ?_
          · dsimp only [List.take]
            cases b3
            · by_cases ht : y1 < 0
              · refine stTg (d := 68) (s := 67) (b := false) _ rfl rfl O26 P26 PE (by simp [lk_cons]) (by simp only [execOp]; (try simp only [PE]); (try simp only [lk_cons]); (try simp only [lk_nil]); (try simp only [E1]); (try simp only [E3]); (try simp only [E4]); go_simp; first | done | with_reducible rfl) ?_
                refine stTg (d := 69) (s := 67) (b := false) _ rfl rfl O26 P26 PE (by simp [lk_cons]) (by simp only [execOp]; (try simp only [PE]); (try simp only [lk_cons]); (try simp only [lk_nil]); (try simp only [E1]); (try simp only [E3]); (try simp only [E4]); go_simp; first | done | with_reducible rfl) ?_
                refine stTg (d := 70) (s := 67) (b := false) (.bool true) rfl rfl O26 P26 PE (by simp [lk_cons]) (by simp only [execOp]; (try simp only [PE]); (try simp only [lk_cons]); (try simp only [lk_nil]); (try simp only [E1]); (try simp only [E3]); (try simp only [E4]); go_simp; first | done | with_reducible rfl) ?_
                refine stTn (d := 71) (.bool true) rfl rfl (by simp only [execOp]; (try simp only [PE]); (try simp only [lk_cons]); (try simp only [lk_nil]); (try simp only [E1]); (try simp only [E3]); (try simp only [E4]); go_simp; first | done | with_reducible rfl) ?_
                refine stTn (d := 72) (.bool true) rfl rfl (by simp only [execOp]; (try simp only [PE]); (try simp only [lk_cons]); (try simp only [lk_nil]); (try simp only [E1]); (try simp only [E3]); (try simp only [E4]); go_simp; first | done | with_reducible rfl) ?_
                exact wpStill_nil ⟨_, rfl, _, _, _, _, _, rfl, Lib.hid ((by simp [ht]))⟩
              · refine stTg (d := 68) (s := 67) (b := false) _ rfl rfl O26 P26 PE (by simp [lk_cons]) (by simp only [execOp]; (try simp only [PE]); (try simp only [lk_cons]); (try simp only [lk_nil]); (try simp only [E1]); (try simp only [E3]); (try simp only [E4]); go_simp; first | done | with_reducible rfl) ?_
                refine stTg (d := 69) (s := 67) (b := false) _ rfl rfl O26 P26 PE (by simp [lk_cons]) (by simp only [execOp]; (try simp only [PE]); (try simp only [lk_cons]); (try simp only [lk_nil]); (try simp only [E1]); (try simp only [E3]); (try simp only [E4]); go_simp; first | done | with_reducible rfl) ?_
                refine stTg (d := 70) (s := 67) (b := false) (.bool false) rfl rfl O26 P26 PE (by simp [lk_cons]) (by simp only [execOp]; (try simp only [PE]); (try simp only [lk_cons]); (try simp only [lk_nil]); (try simp only [E1]); (try simp only [E3]); (try simp only [E4]); go_simp; first | done | with_reducible rfl) ?_
                refine stTn (d := 71) (.bool false) rfl rfl (by simp only [execOp]; (try simp only [PE]); (try simp only [lk_cons]); (try simp only [lk_nil]); (try simp only [E1]); (try simp only [E3]); (try simp only [E4]); go_simp; first | done | with_reducible rfl) ?_
                refine stTn (d := 72) (.bool false) rfl rfl (by simp only [execOp]; (try simp only [PE]); (try simp only [lk_cons]); (try simp only [lk_nil]); (try simp only [E1]); (try simp only [E3]); (try simp only [E4]); go_simp; first | done | with_reducible rfl) ?_
                exact wpStill_nil ⟨_, rfl, _, _, _, _, _, rfl, Lib.hid ((by simp [ht]))⟩
            · refine stUg (d := 68) (s := 67) (b := false) rfl rfl O26 P26 PE (by simp [lk_cons]) ?_
              refine stUg (d := 69) (s := 67) (b := false) rfl rfl O26 P26 PE (by simp [lk_cons]) ?_
              refine stUg (d := 70) (s := 67) (b := false) rfl rfl O26 P26 PE (by simp [lk_cons]) ?_
              refine stTn (d := 71) (.bool true) rfl rfl (by simp only [execOp]; (try simp only [PE]); (try simp only [lk_cons]); (try simp only [lk_nil]); (try simp only [E1]); (try simp only [E3]); (try simp only [E4]); go_simp; first | done | with_reducible rfl) ?_
              refine stTn (d := 72) (.bool true) rfl rfl (by simp only [execOp]; (try simp only [PE]); (try simp only [lk_cons]); (try simp only [lk_nil]); (try simp only [E1]); (try simp only [E3]); (try simp only [E4]); go_simp; first | done | with_reducible rfl) ?_
              exact wpStill_nil ⟨_, rfl, _, _, _, _, _, rfl, Lib.hid ((by simp))⟩
          dsimp only [List.drop]
          rintro l' ⟨x68, x69, x70, x71, b4, rfl, Hb4⟩
          refine stSeg 5 (fun l' => ∃ (x73 x74 x75 x76 : Value) (b5 : Bool), l' = [(77, .bool b5), (76, x76), (75, x75), (74, x74), (73, x73), (72, .bool b4), (71, x71), (70, x70), (69, x69), (68, x68), (67, .bool b3), (66, x66), (65, x65), (64, x64), (63, x63), (62, x62), (61, x61), (60, x60), (59, x59), (58, x58), (57, x57), (56, x56), (55, x55), (54, x54), (53, x53), (52, x52), (51, .bool b2), (50, x50), (49, x49), (48, x48), (47, x47), (46, x46), (45, x45), (44, .bool b1), (43, x43), (42, x42), (41, x41)] ∧ Hid (b5 = (b4 || decide (65535 < y1)))) ?_ ?_
          · dsimp only [List.take]
            cases b4
            · by_cases ht : 65535 < y1
              · refine stTg (d := 73) (s := 72) (b := false) _ rfl rfl O31 P31 PE (by simp [lk_cons]) (by simp only [execOp]; (try simp only [PE]); (try simp only [lk_cons]); (try simp only [lk_nil]); (try simp only [E1]); (try simp only [E3]); (try simp only [E4]); go_simp; first | done | with_reducible rfl) ?_
                refine stTg (d := 74) (s := 72) (b := false) _ rfl rfl O31 P31 PE (by simp [lk_cons]) (by simp only [execOp]; (try simp only [PE]); (try simp only [lk_cons]); (try simp only [lk_nil]); (try simp only [E1]); (try simp only [E3]); (try simp only [E4]); go_simp; first | done | with_reducible rfl) ?_
                refine stTg (d := 75) (s := 72) (b := false) (.bool true) rfl rfl O31 P31 PE (by simp [lk_cons]) (by simp only [execOp]; (try simp only [PE]); (try simp only [lk_cons]); (try simp only [lk_nil]); (try simp only [E1]); (try simp only [E3]); (try simp only [E4]); go_simp; first | done | with_reducible rfl) ?_
                refine stTn (d := 76) (.bool true) rfl rfl (by simp only [execOp]; (try simp only [PE]); (try simp only [lk_cons]); (try simp only [lk_nil]); (try simp only [E1]); (try simp only [E3]); (try simp only [E4]); go_simp; first | done | with_reducible rfl) ?_
                refine stTn (d := 77) (.bool true) rfl rfl (by simp only [execOp]; (try simp only [PE]); (try simp only [lk_cons]); (try simp only [lk_nil]); (try simp only [E1]); (try simp only [E3]); (try simp only [E4]); go_simp; first | done | with_reducible rfl) ?_
                exact wpStill_nil ⟨_, rfl, _, _, _, _, _, rfl, Lib.hid ((by simp [ht]))⟩
              · refine stTg (d := 73) (s := 72) (b := false) _ rfl rfl O31 P31 PE (by simp [lk_cons]) (by simp only [execOp]; (try simp only [PE]); (try simp only [lk_cons]); (try simp only [lk_nil]); (try simp only [E1]); (try simp only [E3]); (try simp only [E4]); go_simp; first | done | with_reducible rfl) ?_
                refine stTg (d := 74) (s := 72) (b := false) _ rfl rfl O31 P31 PE (by simp [lk_cons]) (by simp only [execOp]; (try simp only [PE]); (try simp only [lk_cons]); (try simp only [lk_nil]); (try simp only [E1]); (try simp only [E3]); (try simp only [E4]); go_simp; first | done | with_reducible rfl) ?_
                refine stTg (d := 75) (s := 72) (b := false) (.bool false) rfl rfl O31 P31 PE (by simp [lk_cons]) (by simp only [execOp]; (try simp only [PE]); (try simp only [lk_cons]); (try simp only [lk_nil]); (try simp only [E1]); (try simp only [E3]); (try simp only [E4]); go_simp; first | done | with_reducible rfl) ?_
                refine stTn (d := 76) (.bool false) rfl rfl (by simp only [execOp]; (try simp only [PE]); (try simp only [lk_cons]); (try simp only [lk_nil]); (try simp only [E1]); (try simp only [E3]); (try simp only [E4]); go_simp; first | done | with_reducible rfl) ?_
                refine stTn (d := 77) (.bool false) rfl rfl (by simp only [execOp]; (try simp only [PE]); (try simp only [lk_cons]); (try simp only [lk_nil]); (try simp only [E1]); (try simp only [E3]); (try simp only [E4]); go_simp; first | done | with_reducible rfl) ?_
                exact wpStill_nil ⟨_, rfl, _, _, _, _, _, rfl, Lib.hid ((by simp [ht]))⟩
            · refine stUg (d := 73) (s := 72) (b := false) rfl rfl O31 P31 PE (by simp [lk_cons]) ?_
              refine stUg (d := 74) (s := 72) (b := false) rfl rfl O31 P31 PE (by simp [lk_cons]) ?_
              refine stUg (d := 75) (s := 72) (b := false) rfl rfl O31 P31 PE (by simp [lk_cons]) ?_
              refine stTn (d := 76) (.bool true) rfl rfl (by simp only [execOp]; (try simp only [PE]); (try simp only [lk_cons]); (try simp only [lk_nil]); (try simp only [E1]); (try simp only [E3]); (try simp only [E4]); go_simp; first | done | with_reducible rfl) ?_
              refine stTn (d := 77) (.bool true) rfl rfl (by simp only [execOp]; (try simp only [PE]); (try simp only [lk_cons]); (try simp only [lk_nil]); (try simp only [E1]); (try simp only [E3]); (try simp only [E4]); go_simp; first | done | with_reducible rfl) ?_
              exact wpStill_nil ⟨_, rfl, _, _, _, _, _, rfl, Lib.hid ((by simp))⟩
          dsimp only [List.drop]
          rintro l' ⟨x73, x74, x75, x76, b5, rfl, Hb5⟩
          refine stSeg 5 (fun l' => ∃ (x78 x79 x80 x81 : Value) (b6 : Bool), l' = [(82, .bool b6), (81, x81), (80, x80), (79, x79), (78, x78), (77, .bool b5), (76, x76), (75, x75), (74, x74), (73, x73), (72, .bool b4), (71, x71), (70, x70), (69, x69), (68, x68), (67, .bool b3), (66, x66), (65, x65), (64, x64), (63, x63), (62, x62), (61, x61), (60, x60), (59, x59), (58, x58), (57, x57), (56, x56), (55, x55), (54, x54), (53, x53), (52, x52), (51, .bool b2), (50, x50), (49, x49), (48, x48), (47, x47), (46, x46), (45, x45), (44, .bool b1), (43, x43), (42, x42), (41, x41)] ∧ Hid (b6 = (b5 || decide (y2 < 0)))) ?_ ?_
          · dsimp only [List.take]
            cases b5
            · by_cases ht : y2 < 0
              · refine stTg (d := 78) (s := 77) (b := false) _ rfl rfl O36 P36 PE (by simp [lk_cons]) (by simp only [execOp]; (try simp only [PE]); (try simp only [lk_cons]); (try simp only [lk_nil]); (try simp only [E1]); (try simp only [E3]); (try simp only [E4]); go_simp; first | done | with_reducible rfl) ?_
                refine stTg (d := 79) (s := 77) (b := false) _ rfl rfl O36 P36 PE (by simp [lk_cons]) (by simp only [execOp]; (try simp only [PE]); (try simp only [lk_cons]); (try simp only [lk_nil]); (try simp only [E1]); (try simp only [E3]); (try simp only [E4]); go_simp; first | done | with_reducible rfl) ?_
                refine stTg (d := 80) (s := 77) (b := false) (.bool true) rfl rfl O36 P36 PE (by simp [lk_cons]) (by simp only [execOp]; (try simp only [PE]); (try simp only [lk_cons]); (try simp only [lk_nil]); (try simp only [E1]); (try simp only [E3]); (try simp only [E4]); go_simp; first | done | with_reducible rfl) ?_
                refine stTn (d := 81) (.bool true) rfl rfl (by simp only [execOp]; (try simp only [PE]); (try simp only [lk_cons]); (try simp only [lk_nil]); (try simp only [E1]); (try simp only [E3]); (try simp only [E4]); go_simp; first | done | with_reducible rfl) ?_
                refine stTn (d := 82) (.bool true) rfl rfl (by simp only [execOp]; (try simp only [PE]); (try simp only [lk_cons]); (try simp only [lk_nil]); (try simp only [E1]); (try simp only [E3]); (try simp only [E4]); go_simp; first | done | with_reducible rfl) ?_
                exact wpStill_nil ⟨_, rfl, _, _, _, _, _, rfl, Lib.hid ((by simp [ht]))⟩
              · refine stTg (d := 78) (s := 77) (b := false) _ rfl rfl O36 P36 PE (by simp [lk_cons]) (by simp only [execOp]; (try simp only [PE]); (try simp only [lk_cons]); (try simp only [lk_nil]); (try simp only [E1]); (try simp only [E3]); (try simp only [E4]); go_simp; first | done | with_reducible rfl) ?_
                refine stTg (d := 79) (s := 77) (b := false) _ rfl rfl O36 P36 PE (by simp [lk_cons]) (by simp only [execOp]; (try simp only [PE]); (try simp only [lk_cons]); (try simp only [lk_nil]); (try simp only [E1]); (try simp only [E3]); (try simp only [E4]); go_simp; first | done | with_reducible rfl) ?_
                refine stTg (d := 80) (s := 77) (b := false) (.bool false) rfl rfl O36 P36 PE (by simp [lk_cons]) (by simp only [execOp]; (try simp only [PE]); (try simp only [lk_cons]); (try simp only [lk_nil]); (try simp only [E1]); (try simp only [E3]); (try simp only [E4]); go_simp; first | done | with_reducible rfl) ?_
                refine stTn (d := 81) (.bool false) rfl rfl (by simp only [execOp]; (try simp only [PE]); (try simp only [lk_cons]); (try simp only [lk_nil]); (try simp only [E1]); (try simp only [E3]); (try simp only [E4]); go_simp; first | done | with_reducible rfl) ?_
                refine stTn (d := 82) (.bool false) rfl rfl (by simp only [execOp]; (try simp only [PE]); (try simp only [lk_cons]); (try simp only [lk_nil]); (try simp only [E1]); (try simp only [E3]); (try simp only [E4]); go_simp; first | done | with_reducible rfl) ?_
                exact wpStill_nil ⟨_, rfl, _, _, _, _, _, rfl, Lib.hid ((by simp [ht]))⟩
            · refine stUg (d := 78) (s := 77) (b := false) rfl rfl O36 P36 PE (by simp [lk_cons]) ?_
              refine stUg (d := 79) (s := 77) (b := false) rfl rfl O36 P36 PE (by simp [lk_cons]) ?_
              refine stUg (d := 80) (s := 77) (b := false) rfl rfl O36 P36 PE (by simp [lk_cons]) ?_
              refine stTn (d := 81) (.bool true) rfl rfl (by simp only [execOp]; (try simp only [PE]); (try simp only [lk_cons]); (try simp only [lk_nil]); (try simp only [E1]); (try simp only [E3]); (try simp only [E4]); go_simp; first | done | with_reducible rfl) ?_
              refine stTn (d := 82) (.bool true) rfl rfl (by simp only [execOp]; (try simp only [PE]); (try simp only [lk_cons]); (try simp only [lk_nil]); (try simp only [E1]); (try simp only [E3]); (try simp only [E4]); go_simp; first | done | with_reducible rfl) ?_
              exact wpStill_nil ⟨_, rfl, _, _, _, _, _, rfl, Lib.hid ((by simp))⟩
          dsimp only [List.drop]
          rintro l' ⟨x78, x79, x80, x81, b6, rfl, Hb6⟩
          refine stSeg 5 (fun l' => ∃ (x83 x84 x85 x86 : Value) (b7 : Bool), l' = [(87, .bool b7), (86, x86), (85, x85), (84, x84), (83, x83), (82, .bool b6), (81, x81), (80, x80), (79, x79), (78, x78), (77, .bool b5), (76, x76), (75, x75), (74, x74), (73, x73), (72, .bool b4), (71, x71), (70, x70), (69, x69), (68, x68), (67, .bool b3), (66, x66), (65, x65), (64, x64), (63, x63), (62, x62), (61, x61), (60, x60), (59, x59), (58, x58), (57, x57), (56, x56), (55, x55), (54, x54), (53, x53), (52, x52), (51, .bool b2), (50, x50), (49, x49), (48, x48), (47, x47), (46, x46), (45, x45), (44, .bool b1), (43, x43), (42, x42), (41, x41)] ∧ Hid (b7 = (b6 || decide (3 < y2)))) ?_ ?_
          · dsimp only [List.take]
            cases b6
            · by_cases ht : 3 < y2
              · refine stTg (d := 83) (s := 82) (b := false) _ rfl rfl O41 P41 PE (by simp [lk_cons]) (by simp only [execOp]; (try simp only [PE]); (try simp only [lk_cons]); (try simp only [lk_nil]); (try simp only [E1]); (try simp only [E3]); (try simp only [E4]); go_simp; first | done | with_reducible rfl) ?_
                refine stTg (d := 84) (s := 82) (b := false) _ rfl rfl O41 P41 PE (by simp [lk_cons]) (by simp only [execOp]; (try simp only [PE]); (try simp only [lk_cons]); (try simp only [lk_nil]); (try simp only [E1]); (try simp only [E3]); (try simp only [E4]); go_simp; first | done | with_reducible rfl) ?_
                refine stTg (d := 85) (s := 82) (b := false) (.bool true) rfl rfl O41 P41 PE (by simp [lk_cons]) (by simp only [execOp]; (try simp only [PE]); (try simp only [lk_cons]); (try simp only [lk_nil]); (try simp only [E1]); (try simp only [E3]); (try simp only [E4]); go_simp; first | done | with_reducible rfl) ?_
                refine stTn (d := 86) (.bool true) rfl rfl (by simp only [execOp]; (try simp only [PE]); (try simp only [lk_cons]); (try simp only [lk_nil]); (try simp only [E1]); (try simp only [E3]); (try simp only [E4]); go_simp; first | done | with_reducible rfl) ?_
                refine stTn (d := 87) (.bool true) rfl rfl (by simp only [execOp]; (try simp only [PE]); (try simp only [lk_cons]); (try simp only [lk_nil]); (try simp only [E1]); (try simp only [E3]); (try simp only [E4]); go_simp; first | done | with_reducible rfl) ?_
                exact wpStill_nil ⟨_, rfl, _, _, _, _, _, rfl, Lib.hid ((by simp [ht]))⟩
              · refine stTg (d := 83) (s := 82) (b := false) _ rfl rfl O41 P41 PE (by simp [lk_cons]) (by simp only [execOp]; (try simp only [PE]); (try simp only [lk_cons]); (try simp only [lk_nil]); (try simp only [E1]); (try simp only [E3]); (try simp only [E4]); go_simp; first | done | with_reducible rfl) ?_
                refine stTg (d := 84) (s := 82) (b := false) _ rfl rfl O41 P41 PE (by simp [lk_cons]) (by simp only [execOp]; (try simp only [PE]); (try simp only [lk_cons]); (try simp only [lk_nil]); (try simp only [E1]); (try simp only [E3]); (try simp only [E4]); go_simp; first | done | with_reducible rfl) ?_
                refine stTg (d := 85) (s := 82) (b := false) (.bool false) rfl rfl O41 P41 PE (by simp [lk_cons]) (by simp only [execOp]; (try simp only [PE]); (try simp only [lk_cons]); (try simp only [lk_nil]); (try simp only [E1]); (try simp only [E3]); (try simp only [E4]); go_simp; first | done | with_reducible rfl) ?_
                refine stTn (d := 86) (.bool false) rfl rfl (by simp only [execOp]; (try simp only [PE]); (try simp only [lk_cons]); (try simp only [lk_nil]); (try simp only [E1]); (try simp only [E3]); (try simp only [E4]); go_simp; first | done | with_reducible rfl) ?_
                refine stTn (d := 87) (.bool false) rfl rfl (by simp only [execOp]; (try simp only [PE]); (try simp only [lk_cons]); (try simp only [lk_nil]); (try simp only [E1]); (try simp only [E3]); (try simp only [E4]); go_simp; first | done | with_reducible rfl) ?_
                exact wpStill_nil ⟨_, rfl, _, _, _, _, _, rfl, Lib.hid ((by simp [ht]))⟩
            · refine stUg (d := 83) (s := 82) (b := false) rfl rfl O41 P41 PE (by simp [lk_cons]) ?_
              refine stUg (d := 84) (s := 82) (b := false) rfl rfl O41 P41 PE (by simp [lk_cons]) ?_
              refine stUg (d := 85) (s := 82) (b := false) rfl rfl O41 P41 PE (by simp [lk_cons]) ?_
              refine stTn (d := 86) (.bool true) rfl rfl (by simp only [execOp]; (try simp only [PE]); (try simp only [lk_cons]); (try simp only [lk_nil]); (try simp only [E1]); (try simp only [E3]); (try simp only [E4]); go_simp; first | done | with_reducible rfl) ?_
              refine stTn (d := 87) (.bool true) rfl rfl (by simp only [execOp]; (try simp only [PE]); (try simp only [lk_cons]); (try simp only [lk_nil]); (try simp only [E1]); (try simp only [E3]); (try simp only [E4]); go_simp; first | done | with_reducible rfl) ?_
              exact wpStill_nil ⟨_, rfl, _, _, _, _, _, rfl, Lib.hid ((by simp))⟩
          dsimp only [List.drop]
          rintro l' ⟨x83, x84, x85, x86, b7, rfl, Hb7⟩
          refine stSeg 8 (fun l' => ∃ (x88 x89 x90 x91 x92 x93 x94 : Value) (b8 : Bool), l' = [(95, .bool b8), (94, x94), (93, x93), (92, x92), (91, x91), (90, x90), (89, x89), (88, x88), (87, .bool b7), (86, x86), (85, x85), (84, x84), (83, x83), (82, .bool b6), (81, x81), (80, x80), (79, x79), (78, x78), (77, .bool b5), (76, x76), (75, x75), (74, x74), (73, x73), (72, .bool b4), (71, x71), (70, x70), (69, x69), (68, x68), (67, .bool b3), (66, x66), (65, x65), (64, x64), (63, x63), (62, x62), (61, x61), (60, x60), (59, x59), (58, x58), (57, x57), (56, x56), (55, x55), (54, x54), (53, x53), (52, x52), (51, .bool b2), (50, x50), (49, x49), (48, x48), (47, x47), (46, x46), (45, x45), (44, .bool b1), (43, x43), (42, x42), (41, x41)] ∧ Hid (b8 = (b7 || (y4 && !y3)))) ?_ ?_
          · dsimp only [List.take]
            cases b7
            · cases y4
              · refine stTg (d := 88) (s := 87) (b := false) _ rfl rfl O46 P46 PE (by simp [lk_cons]) (by simp only [execOp]; (try simp only [PE]); (try simp only [lk_cons]); (try simp only [lk_nil]); (try simp only [E1]); (try simp only [E3]); (try simp only [E4]); go_simp; first | done | with_reducible rfl) ?_
                refine stTg (d := 89) (s := 87) (b := false) (.bool false) rfl rfl O46 P46 PE (by simp [lk_cons]) (by simp only [execOp]; (try simp only [PE]); (try simp only [lk_cons]); (try simp only [lk_nil]); (try simp only [E1]); (try simp only [E3]); (try simp only [E4]); go_simp; first | done | with_reducible rfl) ?_
                refine stTg (d := 90) (s := 87) (b := false) (.bool false) rfl rfl O46 P46 PE (by simp [lk_cons]) (by simp only [execOp]; (try simp only [PE]); (try simp only [lk_cons]); (try simp only [lk_nil]); (try simp only [E1]); (try simp only [E3]); (try simp only [E4]); go_simp; first | done | with_reducible rfl) ?_
                refine stUg (d := 91) (s := 90) (b := true) rfl rfl O49 P49 PE (by simp [lk_cons]) ?_
                refine stUg (d := 92) (s := 90) (b := true) rfl rfl O49 P49 PE (by simp [lk_cons]) ?_
                refine stUg (d := 93) (s := 90) (b := true) rfl rfl O49 P49 PE (by simp [lk_cons]) ?_
                refine stTg (d := 94) (s := 87) (b := false) (.bool false) rfl rfl O46 P46 PE (by simp [lk_cons]) (by simp only [execOp]; (try simp only [PE]); (try simp only [lk_cons]); (try simp only [lk_nil]); (try simp only [E1]); (try simp only [E3]); (try simp only [E4]); go_simp; first | done | with_reducible rfl) ?_
                refine stTn (d := 95) (.bool false) rfl rfl (by simp only [execOp]; (try simp only [PE]); (try simp only [lk_cons]); (try simp only [lk_nil]); (try simp only [E1]); (try simp only [E3]); (try simp only [E4]); go_simp; first | done | with_reducible rfl) ?_
                exact wpStill_nil ⟨_, rfl, _, _, _, _, _, _, _, _, rfl, Lib.hid ((by simp))⟩
              cases y3
              · refine stTg (d := 88) (s := 87) (b := false) _ rfl rfl O46 P46 PE (by simp [lk_cons]) (by simp only [execOp]; (try simp only [PE]); (try simp only [lk_cons]); (try simp only [lk_nil]); (try simp only [E1]); (try simp only [E3]); (try simp only [E4]); go_simp; first | done | with_reducible rfl) ?_
                refine stTg (d := 89) (s := 87) (b := false) (.bool true) rfl rfl O46 P46 PE (by simp [lk_cons]) (by simp only [execOp]; (try simp only [PE]); (try simp only [lk_cons]); (try simp only [lk_nil]); (try simp only [E1]); (try simp only [E3]); (try simp only [E4]); go_simp; first | done | with_reducible rfl) ?_
                refine stTg (d := 90) (s := 87) (b := false) (.bool true) rfl rfl O46 P46 PE (by simp [lk_cons]) (by simp only [execOp]; (try simp only [PE]); (try simp only [lk_cons]); (try simp only [lk_nil]); (try simp only [E1]); (try simp only [E3]); (try simp only [E4]); go_simp; first | done | with_reducible rfl) ?_
                refine stTg (d := 91) (s := 90) (b := true) _ rfl rfl O49 P49 PE (by simp [lk_cons]) (by simp only [execOp]; (try simp only [PE]); (try simp only [lk_cons]); (try simp only [lk_nil]); (try simp only [E1]); (try simp only [E3]); (try simp only [E4]); go_simp; first | done | with_reducible rfl) ?_
                refine stTg (d := 92) (s := 90) (b := true) (.bool false) rfl rfl O49 P49 PE (by simp [lk_cons]) (by simp only [execOp]; (try simp only [PE]); (try simp only [lk_cons]); (try simp only [lk_nil]); (try simp only [E1]); (try simp only [E3]); (try simp only [E4]); go_simp; first | done | with_reducible rfl) ?_
                refine stTg (d := 93) (s := 90) (b := true) (.bool true) rfl rfl O49 P49 PE (by simp [lk_cons]) (by simp only [execOp]; (try simp only [PE]); (try simp only [lk_cons]); (try simp only [lk_nil]); (try simp only [E1]); (try simp only [E3]); (try simp only [E4]); go_simp; first | done | with_reducible rfl) ?_
                refine stTg (d := 94) (s := 87) (b := false) (.bool true) rfl rfl O46 P46 PE (by simp [lk_cons]) (by simp only [execOp]; (try simp only [PE]); (try simp only [lk_cons]); (try simp only [lk_nil]); (try simp only [E1]); (try simp only [E3]); (try simp only [E4]); go_simp; first | done | with_reducible rfl) ?_
                refine stTn (d := 95) (.bool true) rfl rfl (by simp only [execOp]; (try simp only [PE]); (try simp only [lk_cons]); (try simp only [lk_nil]); (try simp only [E1]); (try simp only [E3]); (try simp only [E4]); go_simp; first | done | with_reducible rfl) ?_
                exact wpStill_nil ⟨_, rfl, _, _, _, _, _, _, _, _, rfl, Lib.hid ((by simp))⟩
              · refine stTg (d := 88) (s := 87) (b := false) _ rfl rfl O46 P46 PE (by simp [lk_cons]) (by simp only [execOp]; (try simp only [PE]); (try simp only [lk_cons]); (try simp only [lk_nil]); (try simp only [E1]); (try simp only [E3]); (try simp only [E4]); go_simp; first | done | with_reducible rfl) ?_
                refine stTg (d := 89) (s := 87) (b := false) (.bool true) rfl rfl O46 P46 PE (by simp [lk_cons]) (by simp only [execOp]; (try simp only [PE]); (try simp only [lk_cons]); (try simp only [lk_nil]); (try simp only [E1]); (try simp only [E3]); (try simp only [E4]); go_simp; first | done | with_reducible rfl) ?_
                refine stTg (d := 90) (s := 87) (b := false) (.bool true) rfl rfl O46 P46 PE (by simp [lk_cons]) (by simp only [execOp]; (try simp only [PE]); (try simp only [lk_cons]); (try simp only [lk_nil]); (try simp only [E1]); (try simp only [E3]); (try simp only [E4]); go_simp; first | done | with_reducible rfl) ?_
                refine stTg (d := 91) (s := 90) (b := true) _ rfl rfl O49 P49 PE (by simp [lk_cons]) (by simp only [execOp]; (try simp only [PE]); (try simp only [lk_cons]); (try simp only [lk_nil]); (try simp only [E1]); (try simp only [E3]); (try simp only [E4]); go_simp; first | done | with_reducible rfl) ?_
                refine stTg (d := 92) (s := 90) (b := true) (.bool true) rfl rfl O49 P49 PE (by simp [lk_cons]) (by simp only [execOp]; (try simp only [PE]); (try simp only [lk_cons]); (try simp only [lk_nil]); (try simp only [E1]); (try simp only [E3]); (try simp only [E4]); go_simp; first | done | with_reducible rfl) ?_
                refine stTg (d := 93) (s := 90) (b := true) (.bool false) rfl rfl O49 P49 PE (by simp [lk_cons]) (by simp only [execOp]; (try simp only [PE]); (try simp only [lk_cons]); (try simp only [lk_nil]); (try simp only [E1]); (try simp only [E3]); (try simp only [E4]); go_simp; first | done | with_reducible rfl) ?_
                refine stTg (d := 94) (s := 87) (b := false) (.bool false) rfl rfl O46 P46 PE (by simp [lk_cons]) (by simp only [execOp]; (try simp only [PE]); (try simp only [lk_cons]); (try simp only [lk_nil]); (try simp only [E1]); (try simp only [E3]); (try simp only [E4]); go_simp; first | done | with_reducible rfl) ?_
                refine stTn (d := 95) (.bool false) rfl rfl (by simp only [execOp]; (try simp only [PE]); (try simp only [lk_cons]); (try simp only [lk_nil]); (try simp only [E1]); (try simp only [E3]); (try simp only [E4]); go_simp; first | done | with_reducible rfl) ?_
                exact wpStill_nil ⟨_, rfl, _, _, _, _, _, _, _, _, rfl, Lib.hid ((by simp))⟩
            · refine stUg (d := 88) (s := 87) (b := false) rfl rfl O46 P46 PE (by simp [lk_cons]) ?_
              refine stUg (d := 89) (s := 87) (b := false) rfl rfl O46 P46 PE (by simp [lk_cons]) ?_
              refine stUg (d := 90) (s := 87) (b := false) rfl rfl O46 P46 PE (by simp [lk_cons]) ?_
              refine stUx (d := 91) (s := 90) (b := true) rfl rfl O49 P49 PE (by simp [lk_cons]) ?_
              refine stUx (d := 92) (s := 90) (b := true) rfl rfl O49 P49 PE (by simp [lk_cons]) ?_
              refine stUx (d := 93) (s := 90) (b := true) rfl rfl O49 P49 PE (by simp [lk_cons]) ?_
              refine stUg (d := 94) (s := 87) (b := false) rfl rfl O46 P46 PE (by simp [lk_cons]) ?_
              refine stTn (d := 95) (.bool true) rfl rfl (by simp only [execOp]; (try simp only [PE]); (try simp only [lk_cons]); (try simp only [lk_nil]); (try simp only [E1]); (try simp only [E3]); (try simp only [E4]); go_simp; first | done | with_reducible rfl) ?_
              exact wpStill_nil ⟨_, rfl, _, _, _, _, _, _, _, _, rfl, Lib.hid ((by simp))⟩
          dsimp only [List.drop]
          rintro l' ⟨x88, x89, x90, x91, x92, x93, x94, b8, rfl, Hb8⟩
          refine wpStill_nil (HQQ.out _ ?_)
          rw [HA0.out]
          simp only [pc_cons, pc_nil, Act.put, List.setIfInBounds_toArray, List.set]
          have HF : Hid (sideD id la ⟨y0, y1, y2, y3, y4, y5, y6, y7⟩ = !b8) := Lib.hid (by rw [side_eq, Hb8.out, Hb7.out, Hb6.out, Hb5.out, Hb4.out, Hb3.out])
          go_wp2_with fail
          go_meet
          exact ⟨b8, rfl, HF, XD⟩
        case rest =>
          obtain ⟨b, rfl, HB, HXB⟩ := hcut
          have HX2 := Lib.hid (X1.out.trans HXB.out)
          cases b
          · have HG := Lib.hid (HOK.out.trans HB.out)
            go_wp2
            go_roundw
            case rel => exact ⟨k + 1, by omega, by go_num, HG, HX2⟩
            case measure => simp [intOf]; omega
          · have HF := Lib.hid (HBAD.out HB.out)
            go_wp2
            go_ret
            exact ⟨ret_bool HF.out, X0.out.trans HX2.out⟩
      · have hkl : k = L.length := by omega
        have HF : Hid (true = t) := Lib.hid (by have := HQ.out; rw [hkl, List.take_length] at this; rw [← HD.out, this])
        go_wp2
        go_ret
        exact ⟨ret_bool HF.out, X0.out.trans HX.out⟩

end Go.Proofs.Ytogbjpipkegecaa
