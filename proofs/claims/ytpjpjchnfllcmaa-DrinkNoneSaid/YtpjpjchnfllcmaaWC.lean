/- Layer 15, the document's answers: what becomes of a side, and what goes out (bottle). -/
import Derived.Test.YtpjpjchnfllcmaaWA
import Derived.Test.YtpjpjchnfllcmaaWR
namespace Go.Proofs.Ytpjpjchnfllcmaa
open Go.RowKit

structure BotAt (w : World) (id ph th : Int) (sv nv : Value) (s : Sd) (ov : Value) (M : List Ml) (W : World) : Prop where
  ext : Ext w W
  size : w.heap.size + 3 ≤ W.heap.size
  dbox : W.heap[w.heap.size]? = some (.cells #[.int .i64 id, .int .i64 ph, sv, .int .i64 th, nv] 29 (0, 0))
  sbox : W.heap[w.heap.size + 1]? = some (.cells s.cs 53 (0, 0))
  rbox : W.heap[w.heap.size + 2]? = some (.cells #[.int .i64 0, .int .i64 0, .int .i64 0, .bool false, .bool false, .bool false, .bool false, .bool false] 53 (0, 0))
  mails : Ow W (w.heap.size + 3) ov M
variable {w W W' : World} {id ph th : Int} {sv nv ov : Value} {s : Sd} {M : List Ml}
theorem BotAt.put {s' : Sd} (h : BotAt w id ph th sv nv s ov M W) (i : Nat) (u : Value) (hs : W' = W.setCell ⟨w.heap.size + 1, i, none⟩ u) (hb : W'.heap[w.heap.size + 1]? = some (.cells s'.cs 53 (0, 0))) : BotAt w id ph th sv nv s' ov M W' := by
  subst hs
  refine ⟨below_set h.ext (by show w.heap.size ≤ w.heap.size + 1; omega) _, ?_, ?_, hb, ?_, h.mails.set (by show w.heap.size + 1 < _; omega) _⟩
  · exact Nat.le_trans h.size (Nat.le_of_eq (set_size _ _ _).symm)
  · rw [set_other _ _ _ _ (by show w.heap.size ≠ w.heap.size + 1; omega)]; exact h.dbox
  · rw [set_other _ _ _ _ (by show w.heap.size + 2 ≠ w.heap.size + 1; omega)]; exact h.rbox
theorem BotAt.more {o : Obj} (h : BotAt w id ph th sv nv s ov M W) {ov' : Value} {M' : List Ml} (hb : Below (w.heap.size + 3) (W.alloc o) W') (ho : Ow W' (w.heap.size + 3) ov' M') : BotAt w id ph th sv nv s ov' M' W' := by
  have hz := h.size
  have hk : ∀ {g : Nat} {b : Obj}, g < w.heap.size + 3 → W.heap[g]? = some b → W'.heap[g]? = some b := fun hg e => (hb.block _ hg).trans (old1 e _)
  refine ⟨Below.trans (h.ext.alloc _) (Below.mono hb (by omega)), ?_, hk (by omega) h.dbox, hk (by omega) h.sbox, hk (by omega) h.rbox, ho⟩
  have := blk_lt (hk (by omega) h.rbox)
  omega
theorem BotAt.cells {y0 y1 y2 : Int} {y3 y4 y5 y6 y7 : Bool} (h : BotAt w id ph th sv nv ⟨y0, y1, y2, y3, y4, y5, y6, y7⟩ ov M W) :
    (W.cell? ⟨w.heap.size, 0, none⟩ = some (.int .i64 id) ∧ W.cell? ⟨w.heap.size, 3, none⟩ = some (.int .i64 th) ∧ W.cell? ⟨w.heap.size, 4, none⟩ = some nv) ∧ W.cell? ⟨w.heap.size + 1, 0, none⟩ = some (.int .i64 y0) ∧ W.cell? ⟨w.heap.size + 1, 1, none⟩ = some (.int .i64 y1) ∧ W.cell? ⟨w.heap.size + 1, 3, none⟩ = some (.bool y3) ∧ W.cell? ⟨w.heap.size + 1, 6, none⟩ = some (.bool y6) ∧ W.cell? ⟨w.heap.size + 1, 7, none⟩ = some (.bool y7) :=
  ⟨⟨blk_cell h.dbox 0 rfl, blk_cell h.dbox 3 rfl, blk_cell h.dbox 4 rfl⟩, blk_cell h.sbox 0 rfl, blk_cell h.sbox 1 rfl, blk_cell h.sbox 3 rfl, blk_cell h.sbox 6 rfl, blk_cell h.sbox 7 rfl⟩
theorem bottle_out {id th : Int} {N : List Int} {s s1 s2 : Sd} {q q2 : Bool} (h1 : pours th N s = q) (hs1 : s1 = cond q { s with bottle := false } s) (h2 : asks th N s1 = q2) (hs2 : s2 = cond q2 { s1 with ask := false } s1) :
    bottleS th N s = s2 ∧ bottleM id th N s = cond q [⟨id, s.peer, 3, s.epoch, 0⟩] [] ++ cond q2 [⟨id, s.peer, 4, s.epoch, 0⟩] [] := by
  have hp : poured th N s = s1 := by rw [hs1]; unfold poured; rw [h1]; cases q <;> rfl
  unfold bottleS bottleM
  rw [hp, h1, h2, hs2]
  cases q <;> cases q2 <;> exact ⟨rfl, rfl⟩
theorem uSideW : ∃ fs, Try.prog.underlying 53 = some (.struct fs) := ⟨_, Try.underlying53⟩
theorem kept_bits {n : Bool} {N : List Int} (hn : decide (s.peer ∈ N) = n) : keptB th N s = (n && (decide (th = 2) || (decide (th = 1) && s.fork))) := by
  unfold keptB needsB; rw [hn]

set_option maxRecDepth 100000 in
set_option maxHeartbeats 8000000 in
theorem refBottle_any (w : World) (id ph th : Int) (v nv : Value) (L : List Sd) (N : List Int) (s : Sd) (h : Sl w v L) (hN : Sl w nv N) :
    Calls Try.prog 65 #[.agg #[.int .i64 id, .int .i64 ph, v, .int .i64 th, nv], .agg s.cs] w fun e w' => ∃ vl, e = .returned (.tuple #[.agg (bottleS th N s).cs, vl]) ∧ Sl w' vl (bottleM id th N s) ∧ Ext w w' := by
  obtain ⟨ao, c, rfl⟩ := h.len
  obtain ⟨na, nc, rfl⟩ := hN.len
  obtain ⟨n, hn⟩ : ∃ n, decide (s.peer ∈ N) = n := ⟨_, rfl⟩
  have hkept := kept_bits (th := th) hn
  have hpours : pours th N s = (s.bottle && s.ask && !keptB th N s) := rfl
  have hasks : ∀ b, asks th N { s with bottle := b } = (n && decide (th = 1) && s.ask && !b) := fun b => by unfold asks needsB; dsimp only; rw [hn]
  obtain ⟨y0, y1, y2, y3, y4, y5, y6, y7⟩ := s
  dsimp only at hkept hpours hasks hn
  have hcs : (⟨y0, y1, y2, y3, y4, y5, y6, y7⟩ : Sd).cs = #[.int .i64 y0, .int .i64 y1, .int .i64 y2, .bool y3, .bool y4, .bool y5, .bool y6, .bool y7] := rfl
  rw [hcs]
  clear hcs
  obtain ⟨W0, hW0⟩ : ∃ W0, W0 = ((w.alloc (.cells #[.int .i64 id, .int .i64 ph, .slice ao L.length c, .int .i64 th, .slice na N.length nc] 29)).alloc (.cells #[.int .i64 y0, .int .i64 y1, .int .i64 y2, .bool y3, .bool y4, .bool y5, .bool y6, .bool y7] 53)).alloc (.cells #[.int .i64 0, .int .i64 0, .int .i64 0, .bool false, .bool false, .bool false, .bool false, .bool false] 53) := ⟨_, rfl⟩
  have hs0 : W0.heap.size = w.heap.size + 3 := by rw [hW0, size_alloc, size_alloc, size_alloc]
  have X0 : Ext w W0 := hW0 ▸ (((Ext.refl w).alloc _).alloc _).alloc _
  have B0 : W0.heap[w.heap.size]? = some (.cells #[.int .i64 id, .int .i64 ph, .slice ao L.length c, .int .i64 th, .slice na N.length nc] 29 (0, 0)) := hW0 ▸ old1 (old1 (at0 w _) _) _
  have B1 : W0.heap[w.heap.size + 1]? = some (.cells #[.int .i64 y0, .int .i64 y1, .int .i64 y2, .bool y3, .bool y4, .bool y5, .bool y6, .bool y7] 53 (0, 0)) := hW0 ▸ old1 (at1 w _ _) _
  have B2 : W0.heap[w.heap.size + 2]? = some (.cells #[.int .i64 0, .int .i64 0, .int .i64 0, .bool false, .bool false, .bool false, .bool false, .bool false] 53 (0, 0)) := hW0 ▸ at2 w _ _ _
  obtain ⟨W1, hW1⟩ : ∃ W1, W1 = W0.alloc (.cells #[] 61) := ⟨_, rfl⟩
  have X1 : Ext W0 W1 := hW1 ▸ (Ext.refl _).alloc _
  have O1 : Ow W1 (w.heap.size + 3) (.slice (some ⟨w.heap.size + 3, 0, none⟩) 0 0) ([] : List Ml) := hW1 ▸ Ow.litAt W0 _ _ hs0.symm (by omega) [] (by simp)
  obtain ⟨M0, hM0⟩ : ∃ M0 : List Ml, M0 = [] := ⟨_, rfl⟩
  rw [← hM0] at O1
  have hl0 : M0.length ≤ 0 := by rw [hM0]; exact Nat.le_refl _
  have HM0 := Lib.hid hM0
  have hs1 : W1.heap.size = w.heap.size + 4 := by rw [hW1, size_alloc, hs0]
  have F1 : Hid (BotAt w id ph th (.slice ao L.length c) (.slice na N.length nc) ⟨y0, y1, y2, y3, y4, y5, y6, y7⟩ (.slice (some ⟨w.heap.size + 3, 0, none⟩) 0 0) M0 W1) := Lib.hid ⟨X0.trans X1, by omega, keepU B0 X1, keepU B1 X1, keepU B2 X1, O1⟩
  have HN := Lib.hid (hN.ext (X0.trans X1))
  have HW0 := Lib.hid hW0
  have HW1 := Lib.hid hW1
  have HNB := Lib.hid hn
  have HKE := Lib.hid hkept
  have HPO := Lib.hid hpours
  have HAS := Lib.hid hasks
  clear h hN hn hkept hpours hasks hW0 hW1 X0 X1 B0 B1 B2 O1 hs1 hM0
  obtain ⟨⟨k0, k3, k4⟩, x0, x1, x3, x6, x7⟩ := F1.out.cells
  go_enter Try.func65, Try.ntmps65
  go_upto_region 1 with (fail)
  rw [← HW0.out]
  go_upto_region 2 with (fail)
  try rw [hs0]
  rw [← HW1.out]
  clear hs0
  generalize (Value.slice (some (⟨w.heap.size + 3, 0, none⟩ : Addr)) 0 0) = fv at F1 ⊢
  obtain ⟨fo, fn, fc, rfl⟩ := F1.out.mails.sh
  go_upto_region 3 with (go_at_call 26; refine (refHas_val W1 _ N y0 HN.out n HNB.out).mono ?_; rintro e w1 ⟨rfl, rfl⟩)
  go_cut [8] (fun s8 wx => ∃ b, s8 = .bool b ∧ W1 = wx ∧ Hid (b = keptB th N ⟨y0, y1, y2, y3, y4, y5, y6, y7⟩))
  case first =>
    cases n
    · have HB : Hid (false = keptB th N ⟨y0, y1, y2, y3, y4, y5, y6, y7⟩) := Lib.hid (by rw [HKE.out]; rfl)
      go_wp2_with fail
      go_meet
      exact ⟨_, rfl, rfl, HB⟩
    · by_cases e2 : th = 2
      · have t2 : (th == 2) = true := by simpa using e2
        have HB : Hid (true = keptB th N ⟨y0, y1, y2, y3, y4, y5, y6, y7⟩) := Lib.hid (by rw [HKE.out, decide_eq_true e2]; rfl)
        clear e2
        go_wp2_with fail
        go_meet
        exact ⟨_, rfl, rfl, HB⟩
      · have t2 : (th == 2) = false := by simpa using e2
        by_cases e1 : th = 1
        · have t1 : (th == 1) = true := by simpa using e1
          have HB : Hid (y3 = keptB th N ⟨y0, y1, y2, y3, y4, y5, y6, y7⟩) := Lib.hid (by rw [HKE.out, decide_eq_false e2, decide_eq_true e1]; rfl)
          clear e1 e2
          go_wp2_with fail
          go_meet
          exact ⟨_, rfl, rfl, HB⟩
        · have t1 : (th == 1) = false := by simpa using e1
          have HB : Hid (false = keptB th N ⟨y0, y1, y2, y3, y4, y5, y6, y7⟩) := Lib.hid (by rw [HKE.out, decide_eq_false e2, decide_eq_false e1]; rfl)
          clear e1 e2
          go_wp2_with fail
          go_meet
          exact ⟨_, rfl, rfl, HB⟩
  case rest =>
    obtain ⟨b8, rfl, rfl, HB8⟩ := hcut
    go_upto_region 4 with (fail)
    go_cut [39] (fun s39 wx => ∃ q, s39 = .bool q ∧ W1 = wx ∧ Hid (q = (y6 && y7 && !b8)))
    case first =>
      clear HKE HPO HAS HB8 F1
      cases y6
      · go_wp2_with fail
        go_meet
        exact ⟨_, rfl, rfl, Lib.hid rfl⟩
      cases y7
      · go_wp2_with fail
        go_meet
        exact ⟨_, rfl, rfl, Lib.hid rfl⟩
      cases b8
      all_goals
        go_wp2_with fail
        go_meet
        exact ⟨_, rfl, rfl, Lib.hid rfl⟩
    case rest =>
      obtain ⟨q, rfl, rfl, HQ⟩ := hcut
      have HPB : Hid (pours th N ⟨y0, y1, y2, y3, y4, y5, y6, y7⟩ = q) := Lib.hid (by rw [HPO.out, HQ.out, HB8.out])
      clear HQ HB8 HKE HPO
      cases q
      · go_upto_region 7 with (fail)
        have F5 := F1
        obtain ⟨z6, hz6⟩ : ∃ z, z = y6 := ⟨_, rfl⟩
        have HZ5 : Hid ((⟨y0, y1, y2, y3, y4, y5, z6, y7⟩ : Sd) = cond false ⟨y0, y1, y2, y3, y4, y5, false, y7⟩ ⟨y0, y1, y2, y3, y4, y5, y6, y7⟩) := Lib.hid (by rw [hz6]; rfl)
        rw [← hz6] at F5
        obtain ⟨M5, hM5⟩ : ∃ M5, M5 = M0 := ⟨_, rfl⟩
        have HM5 : Hid (M5 = cond false [(⟨id, y0, 3, y1, 0⟩ : Ml)] []) := Lib.hid (by rw [hM5, HM0.out]; rfl)
        have hl5 : M5.length ≤ 1 := by rw [hM5]; omega
        rw [← hM5] at F5
        clear hz6 hM5 F1 k0 k3 k4 x0 x1 x3 x6 x7
        obtain ⟨⟨k0, k3, k4⟩, x0, x1, x3, x6, x7⟩ := F5.out.cells
        go_cut [67] (fun s67 wx => ∃ q, s67 = .bool q ∧ W1 = wx ∧ Hid (q = (n && decide (th = 1) && y7 && !z6)))
        case first =>
          clear HNB HAS HPB HZ5 HM5 F5 HN
          cases n
          · go_wp2_with fail
            go_meet
            exact ⟨_, rfl, rfl, Lib.hid rfl⟩
          by_cases e1 : th = 1
          · have t1 : (th == 1) = true := by simpa using e1
            have D1 := Lib.hid (decide_eq_true e1)
            clear e1
            cases y7
            · go_wp2_with fail
              go_meet
              exact ⟨_, rfl, rfl, Lib.hid (by rw [D1.out]; rfl)⟩
            cases z6
            all_goals
              go_wp2_with fail
              go_meet
              exact ⟨_, rfl, rfl, Lib.hid (by rw [D1.out]; rfl)⟩
          · have t1 : (th == 1) = false := by simpa using e1
            have D1 := Lib.hid (decide_eq_false e1)
            clear e1
            go_wp2_with fail
            go_meet
            exact ⟨_, rfl, rfl, Lib.hid (by rw [D1.out]; rfl)⟩
        case rest =>
          obtain ⟨q2, rfl, rfl, HQ2⟩ := hcut
          have HAB : Hid (asks th N ⟨y0, y1, y2, y3, y4, y5, z6, y7⟩ = q2) := Lib.hid ((HAS.out z6).trans HQ2.out.symm)
          clear HQ2 HAS
          cases q2
          · go_upto_region 10 with (fail)
            have F9 := F5
            obtain ⟨z7, hz7⟩ : ∃ z, z = y7 := ⟨_, rfl⟩
            have HZ9 : Hid ((⟨y0, y1, y2, y3, y4, y5, z6, z7⟩ : Sd) = cond false ⟨y0, y1, y2, y3, y4, y5, z6, false⟩ ⟨y0, y1, y2, y3, y4, y5, z6, y7⟩) := Lib.hid (by rw [hz7]; rfl)
            rw [← hz7] at F9
            obtain ⟨M9, hM9⟩ : ∃ M9, M9 = M5 ++ cond false [(⟨id, y0, 4, y1, 0⟩ : Ml)] [] := ⟨_, rfl⟩
            have HM9 : Hid (M9 = cond false [(⟨id, y0, 3, y1, 0⟩ : Ml)] [] ++ cond false [(⟨id, y0, 4, y1, 0⟩ : Ml)] []) := Lib.hid (by rw [hM9, HM5.out])
            have hM : M9 = M5 := by rw [hM9]; exact List.append_nil _
            rw [← hM] at F9
            clear hz7 hM9 hM F5 k0 k3 k4 x0 x1 x3 x6 x7
            have HB := bottle_out (id := id) HPB.out HZ5.out HAB.out HZ9.out
            obtain ⟨⟨⟨u0, u1⟩, u2, u3⟩, ⟨u4, u5⟩, u6, u7⟩ := cells8U F9.out.sbox
            have HBO := Lib.hid HB
            clear HB
            go_wp2_with (first | refine haltst 53 ?_)
            refine .inl ?_
            refine st_l 53 (.tmp 4) (.tmp 81) (w.heap.size + 1 + 1) 0 53 #[.int .i64 0, .int .i64 0, .int .i64 0, .bool false, .bool false, .bool false, .bool false, .bool false] #[.int .i64 y0, .int .i64 y1, .int .i64 y2, .bool y3, .bool y4, .bool y5, .bool z6, .bool z7] #[.int .i64 y0, .int .i64 y1, .int .i64 y2, .bool y3, .bool y4, .bool y5, .bool z6, .bool z7] rfl rfl F9.out.rbox (by kernel_rfl) (by simp) rfl rfl ?_
            intro W9 hW9 o9
            simp only [Act.put]
            go_wp2
            refine bodyPost_ret (v := .tuple #[.agg #[.int .i64 y0, .int .i64 y1, .int .i64 y2, .bool y3, .bool y4, .bool y5, .bool z6, .bool z7], .slice fo fn fc]) (res_ct 5 rfl rfl hW9 uSideW (by kernel_rfl)) rfl ⟨_, by rw [HBO.out.1]; rfl, ?_, ext_off F9.out.ext o9 (fun b hb => by omega)⟩
            rw [HBO.out.2]
            rw [← HM9.out]
            exact (owU F9.out.mails (fun b hb => o9.block b ((F9.out.mails.low b hb).2) (by have := (F9.out.mails.low b hb).1; omega))).sl
          · have f7 := blk_free F5.out.sbox 7
            go_upto_region 9 with (fail)
            obtain ⟨W3, hW3⟩ : ∃ W3, W3 = W1.setCell ⟨w.heap.size + 1, 7, none⟩ (.bool false) := ⟨_, rfl⟩
            rw [← hW3]
            obtain ⟨z7, hz7⟩ : ∃ z, z = false := ⟨_, rfl⟩
            have F6 : Hid (BotAt w id ph th (.slice ao L.length c) (.slice na N.length nc) ⟨y0, y1, y2, y3, y4, y5, z6, z7⟩ (.slice fo fn fc) M5 W3) := Lib.hid (F5.out.put 7 (.bool false) hW3 (by rw [hW3, blk_set F5.out.sbox, hz7]; rfl))
            have HZ9 : Hid ((⟨y0, y1, y2, y3, y4, y5, z6, z7⟩ : Sd) = cond true ⟨y0, y1, y2, y3, y4, y5, z6, false⟩ ⟨y0, y1, y2, y3, y4, y5, z6, y7⟩) := Lib.hid (by rw [hz7]; rfl)
            clear hW3 F5 k0 k3 k4 x0 x1 x3 x6 x7 f7 hz7
            obtain ⟨⟨k0, k3, k4⟩, x0, x1, x3, x6, x7⟩ := F6.out.cells
            go_upto_region 10 with (first
              | (at_builtin; refine wpList_append_sl (α := Ml) rfl (.tmp 69) (.tmp 79) rfl (w.heap.size + 3) (.slice fo fn fc) M5 rfl ?_ (.slice (some ⟨_, 0, none⟩) 1 1) [(⟨id, y0, 4, y1, 0⟩ : Ml)] rfl ?_ ?_ ?_ ?_; exact (F6.out.mails.alloc _); exact (Sl.litAt W3 _ rfl [(⟨id, y0, 4, y1, 0⟩ : Ml)] (show (1 : Nat) ≤ 1000000 by decide)); (first | omega | (simp; omega)); (rw [size_alloc]; have := F6.out.size; omega); intro v2 W1 ho2 ha2; obtain ⟨fo, fn, fc, rfl⟩ := ho2.sh; have F9 := Lib.hid (F6.out.more ha2.below ho2); clear ho2 ha2))
            have HM9 : Hid (M5 ++ [(⟨id, y0, 4, y1, 0⟩ : Ml)] = cond false [(⟨id, y0, 3, y1, 0⟩ : Ml)] [] ++ cond true [(⟨id, y0, 4, y1, 0⟩ : Ml)] []) := Lib.hid (by rw [HM5.out]; rfl)
            clear F6 k0 k3 k4 x0 x1 x3 x6 x7
            have HB := bottle_out (id := id) HPB.out HZ5.out HAB.out HZ9.out
            obtain ⟨⟨⟨u0, u1⟩, u2, u3⟩, ⟨u4, u5⟩, u6, u7⟩ := cells8U F9.out.sbox
            have HBO := Lib.hid HB
            clear HB
            go_wp2_with (first | refine haltst 53 ?_)
            refine .inl ?_
            refine st_l 53 (.tmp 4) (.tmp 81) (w.heap.size + 1 + 1) 0 53 #[.int .i64 0, .int .i64 0, .int .i64 0, .bool false, .bool false, .bool false, .bool false, .bool false] #[.int .i64 y0, .int .i64 y1, .int .i64 y2, .bool y3, .bool y4, .bool y5, .bool z6, .bool z7] #[.int .i64 y0, .int .i64 y1, .int .i64 y2, .bool y3, .bool y4, .bool y5, .bool z6, .bool z7] rfl rfl F9.out.rbox (by kernel_rfl) (by simp) rfl rfl ?_
            intro W9 hW9 o9
            simp only [Act.put]
            go_wp2
            refine bodyPost_ret (v := .tuple #[.agg #[.int .i64 y0, .int .i64 y1, .int .i64 y2, .bool y3, .bool y4, .bool y5, .bool z6, .bool z7], .slice fo fn fc]) (res_ct 5 rfl rfl hW9 uSideW (by kernel_rfl)) rfl ⟨_, by rw [HBO.out.1]; rfl, ?_, ext_off F9.out.ext o9 (fun b hb => by omega)⟩
            rw [HBO.out.2]
            rw [← HM9.out]
            exact (owU F9.out.mails (fun b hb => o9.block b ((F9.out.mails.low b hb).2) (by have := (F9.out.mails.low b hb).1; omega))).sl
      · have f6 := blk_free F1.out.sbox 6
        go_upto_region 6 with (fail)
        obtain ⟨W2, hW2⟩ : ∃ W2, W2 = W1.setCell ⟨w.heap.size + 1, 6, none⟩ (.bool false) := ⟨_, rfl⟩
        rw [← hW2]
        obtain ⟨z6, hz6⟩ : ∃ z, z = false := ⟨_, rfl⟩
        have F2 : Hid (BotAt w id ph th (.slice ao L.length c) (.slice na N.length nc) ⟨y0, y1, y2, y3, y4, y5, z6, y7⟩ (.slice fo fn fc) M0 W2) := Lib.hid (F1.out.put 6 (.bool false) hW2 (by rw [hW2, blk_set F1.out.sbox, hz6]; rfl))
        have HZ5 : Hid ((⟨y0, y1, y2, y3, y4, y5, z6, y7⟩ : Sd) = cond true ⟨y0, y1, y2, y3, y4, y5, false, y7⟩ ⟨y0, y1, y2, y3, y4, y5, y6, y7⟩) := Lib.hid (by rw [hz6]; rfl)
        clear hz6
        clear hW2 F1 k0 k3 k4 x0 x1 x3 x6 x7 f6
        obtain ⟨⟨k0, k3, k4⟩, x0, x1, x3, x6, x7⟩ := F2.out.cells
        go_upto_region 7 with (first
          | (at_builtin; refine wpList_append_sl (α := Ml) rfl (.tmp 41) (.tmp 51) rfl (w.heap.size + 3) (.slice fo fn fc) M0 rfl ?_ (.slice (some ⟨_, 0, none⟩) 1 1) [(⟨id, y0, 3, y1, 0⟩ : Ml)] rfl ?_ ?_ ?_ ?_; exact (F2.out.mails.alloc _); exact (Sl.litAt W2 _ rfl [(⟨id, y0, 3, y1, 0⟩ : Ml)] (show (1 : Nat) ≤ 1000000 by decide)); (first | omega | (simp; omega)); (rw [size_alloc]; have := F2.out.size; omega); intro v2 W1 ho2 ha2; obtain ⟨fo, fn, fc, rfl⟩ := ho2.sh; have F5 := Lib.hid (F2.out.more ha2.below ho2); clear ho2 ha2))
        obtain ⟨M5, hM5⟩ : ∃ M5, M5 = M0 ++ [(⟨id, y0, 3, y1, 0⟩ : Ml)] := ⟨_, rfl⟩
        have HM5 : Hid (M5 = cond true [(⟨id, y0, 3, y1, 0⟩ : Ml)] []) := Lib.hid (by rw [hM5, HM0.out]; rfl)
        have hl5 : M5.length ≤ 1 := by rw [hM5, List.length_append]; simp only [List.length_cons, List.length_nil]; omega
        rw [← hM5] at F5
        clear hM5 F2 k0 k3 k4 x0 x1 x3 x6 x7
        obtain ⟨⟨k0, k3, k4⟩, x0, x1, x3, x6, x7⟩ := F5.out.cells
        go_cut [67] (fun s67 wx => ∃ q, s67 = .bool q ∧ W1 = wx ∧ Hid (q = (n && decide (th = 1) && y7 && !z6)))
        case first =>
          clear HNB HAS HPB HZ5 HM5 F5 HN
          cases n
          · go_wp2_with fail
            go_meet
            exact ⟨_, rfl, rfl, Lib.hid rfl⟩
          by_cases e1 : th = 1
          · have t1 : (th == 1) = true := by simpa using e1
            have D1 := Lib.hid (decide_eq_true e1)
            clear e1
            cases y7
            · go_wp2_with fail
              go_meet
              exact ⟨_, rfl, rfl, Lib.hid (by rw [D1.out]; rfl)⟩
            cases z6
            all_goals
              go_wp2_with fail
              go_meet
              exact ⟨_, rfl, rfl, Lib.hid (by rw [D1.out]; rfl)⟩
          · have t1 : (th == 1) = false := by simpa using e1
            have D1 := Lib.hid (decide_eq_false e1)
            clear e1
            go_wp2_with fail
            go_meet
            exact ⟨_, rfl, rfl, Lib.hid (by rw [D1.out]; rfl)⟩
        case rest =>
          obtain ⟨q2, rfl, rfl, HQ2⟩ := hcut
          have HAB : Hid (asks th N ⟨y0, y1, y2, y3, y4, y5, z6, y7⟩ = q2) := Lib.hid ((HAS.out z6).trans HQ2.out.symm)
          clear HQ2 HAS
          cases q2
          · go_upto_region 10 with (fail)
            have F9 := F5
            obtain ⟨z7, hz7⟩ : ∃ z, z = y7 := ⟨_, rfl⟩
            have HZ9 : Hid ((⟨y0, y1, y2, y3, y4, y5, z6, z7⟩ : Sd) = cond false ⟨y0, y1, y2, y3, y4, y5, z6, false⟩ ⟨y0, y1, y2, y3, y4, y5, z6, y7⟩) := Lib.hid (by rw [hz7]; rfl)
            rw [← hz7] at F9
            obtain ⟨M9, hM9⟩ : ∃ M9, M9 = M5 ++ cond false [(⟨id, y0, 4, y1, 0⟩ : Ml)] [] := ⟨_, rfl⟩
            have HM9 : Hid (M9 = cond true [(⟨id, y0, 3, y1, 0⟩ : Ml)] [] ++ cond false [(⟨id, y0, 4, y1, 0⟩ : Ml)] []) := Lib.hid (by rw [hM9, HM5.out])
            have hM : M9 = M5 := by rw [hM9]; exact List.append_nil _
            rw [← hM] at F9
            clear hz7 hM9 hM F5 k0 k3 k4 x0 x1 x3 x6 x7
            have HB := bottle_out (id := id) HPB.out HZ5.out HAB.out HZ9.out
            obtain ⟨⟨⟨u0, u1⟩, u2, u3⟩, ⟨u4, u5⟩, u6, u7⟩ := cells8U F9.out.sbox
            have HBO := Lib.hid HB
            clear HB
            go_wp2_with (first | refine haltst 53 ?_)
            refine .inl ?_
            refine st_l 53 (.tmp 4) (.tmp 81) (w.heap.size + 1 + 1) 0 53 #[.int .i64 0, .int .i64 0, .int .i64 0, .bool false, .bool false, .bool false, .bool false, .bool false] #[.int .i64 y0, .int .i64 y1, .int .i64 y2, .bool y3, .bool y4, .bool y5, .bool z6, .bool z7] #[.int .i64 y0, .int .i64 y1, .int .i64 y2, .bool y3, .bool y4, .bool y5, .bool z6, .bool z7] rfl rfl F9.out.rbox (by kernel_rfl) (by simp) rfl rfl ?_
            intro W9 hW9 o9
            simp only [Act.put]
            go_wp2
            refine bodyPost_ret (v := .tuple #[.agg #[.int .i64 y0, .int .i64 y1, .int .i64 y2, .bool y3, .bool y4, .bool y5, .bool z6, .bool z7], .slice fo fn fc]) (res_ct 5 rfl rfl hW9 uSideW (by kernel_rfl)) rfl ⟨_, by rw [HBO.out.1]; rfl, ?_, ext_off F9.out.ext o9 (fun b hb => by omega)⟩
            rw [HBO.out.2]
            rw [← HM9.out]
            exact (owU F9.out.mails (fun b hb => o9.block b ((F9.out.mails.low b hb).2) (by have := (F9.out.mails.low b hb).1; omega))).sl
          · have f7 := blk_free F5.out.sbox 7
            go_upto_region 9 with (fail)
            obtain ⟨W3, hW3⟩ : ∃ W3, W3 = W1.setCell ⟨w.heap.size + 1, 7, none⟩ (.bool false) := ⟨_, rfl⟩
            rw [← hW3]
            obtain ⟨z7, hz7⟩ : ∃ z, z = false := ⟨_, rfl⟩
            have F6 : Hid (BotAt w id ph th (.slice ao L.length c) (.slice na N.length nc) ⟨y0, y1, y2, y3, y4, y5, z6, z7⟩ (.slice fo fn fc) M5 W3) := Lib.hid (F5.out.put 7 (.bool false) hW3 (by rw [hW3, blk_set F5.out.sbox, hz7]; rfl))
            have HZ9 : Hid ((⟨y0, y1, y2, y3, y4, y5, z6, z7⟩ : Sd) = cond true ⟨y0, y1, y2, y3, y4, y5, z6, false⟩ ⟨y0, y1, y2, y3, y4, y5, z6, y7⟩) := Lib.hid (by rw [hz7]; rfl)
            clear hW3 F5 k0 k3 k4 x0 x1 x3 x6 x7 f7 hz7
            obtain ⟨⟨k0, k3, k4⟩, x0, x1, x3, x6, x7⟩ := F6.out.cells
            go_upto_region 10 with (first
              | (at_builtin; refine wpList_append_sl (α := Ml) rfl (.tmp 69) (.tmp 79) rfl (w.heap.size + 3) (.slice fo fn fc) M5 rfl ?_ (.slice (some ⟨_, 0, none⟩) 1 1) [(⟨id, y0, 4, y1, 0⟩ : Ml)] rfl ?_ ?_ ?_ ?_; exact (F6.out.mails.alloc _); exact (Sl.litAt W3 _ rfl [(⟨id, y0, 4, y1, 0⟩ : Ml)] (show (1 : Nat) ≤ 1000000 by decide)); (first | omega | (simp; omega)); (rw [size_alloc]; have := F6.out.size; omega); intro v2 W1 ho2 ha2; obtain ⟨fo, fn, fc, rfl⟩ := ho2.sh; have F9 := Lib.hid (F6.out.more ha2.below ho2); clear ho2 ha2))
            have HM9 : Hid (M5 ++ [(⟨id, y0, 4, y1, 0⟩ : Ml)] = cond true [(⟨id, y0, 3, y1, 0⟩ : Ml)] [] ++ cond true [(⟨id, y0, 4, y1, 0⟩ : Ml)] []) := Lib.hid (by rw [HM5.out]; rfl)
            clear F6 k0 k3 k4 x0 x1 x3 x6 x7
            have HB := bottle_out (id := id) HPB.out HZ5.out HAB.out HZ9.out
            obtain ⟨⟨⟨u0, u1⟩, u2, u3⟩, ⟨u4, u5⟩, u6, u7⟩ := cells8U F9.out.sbox
            have HBO := Lib.hid HB
            clear HB
            go_wp2_with (first | refine haltst 53 ?_)
            refine .inl ?_
            refine st_l 53 (.tmp 4) (.tmp 81) (w.heap.size + 1 + 1) 0 53 #[.int .i64 0, .int .i64 0, .int .i64 0, .bool false, .bool false, .bool false, .bool false, .bool false] #[.int .i64 y0, .int .i64 y1, .int .i64 y2, .bool y3, .bool y4, .bool y5, .bool z6, .bool z7] #[.int .i64 y0, .int .i64 y1, .int .i64 y2, .bool y3, .bool y4, .bool y5, .bool z6, .bool z7] rfl rfl F9.out.rbox (by kernel_rfl) (by simp) rfl rfl ?_
            intro W9 hW9 o9
            simp only [Act.put]
            go_wp2
            refine bodyPost_ret (v := .tuple #[.agg #[.int .i64 y0, .int .i64 y1, .int .i64 y2, .bool y3, .bool y4, .bool y5, .bool z6, .bool z7], .slice fo fn fc]) (res_ct 5 rfl rfl hW9 uSideW (by kernel_rfl)) rfl ⟨_, by rw [HBO.out.1]; rfl, ?_, ext_off F9.out.ext o9 (fun b hb => by omega)⟩
            rw [HBO.out.2]
            rw [← HM9.out]
            exact (owU F9.out.mails (fun b hb => o9.block b ((F9.out.mails.low b hb).2) (by have := (F9.out.mails.low b hb).1; omega))).sl
end Go.Proofs.Ytpjpjchnfllcmaa
