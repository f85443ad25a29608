/- Texts of this seat. -/
import Derived.Test.YtfbambemjokmgaaGreatNAT
namespace Go.Proofs.YtfbambemjokmgaaGreat
open Go.RowKit
structure FireAt (w : World) (go : Nat) (id ph : Int) (sv : Value) (M : List Ml) (S : List Sd) (fv ov : Value) (W : World) : Prop where
  ext : Ext w W
  dbox : W.heap[w.heap.size]? = some (.cells #[.int .i64 id, .int .i64 ph, sv] 61 (0, 0))
  rbox : W.heap[w.heap.size + 1]? = some (.cells #[.int .i64 0, .int .i64 0, .slice none 0 0] 61 (0, 0))
  obox : W.heap[go]? = some (.cells #[ov] 23 (0, 0))
  out : Ow W (go + 1) ov M
  sides : Ow W (go + 1) fv S
  apart : ∀ b, fv.ownBlock = some b → ov.ownBlock ≠ some b
  low : w.heap.size + 2 ≤ go
section
variable {w W W' : World} {go : Nat} {id ph : Int} {sv fv ov : Value} {M : List Ml} {S : List Sd}
theorem FireAt.ext' (h : FireAt w go id ph sv M S fv ov W) (x : Ext W W') : FireAt w go id ph sv M S fv ov W' :=
  ⟨h.ext.trans x, keepU h.dbox x, keepU h.rbox x, keepU h.obox x, h.out.ext x, h.sides.ext x, h.apart, h.low⟩
theorem FireAt.set (h : FireAt w go id ph sv M S fv ov W) {gx i : Nat} {u : Value} (h1 : go < gx) (h2 : ov.ownBlock ≠ some gx) (h3 : fv.ownBlock ≠ some gx) : FireAt w go id ph sv M S fv ov (W.setCell ⟨gx, i, none⟩ u) := by
  have hl := h.low
  refine ⟨below_set h.ext (by show w.heap.size ≤ gx; omega) _, ?_, ?_, ?_, owU h.out fun b hb => ?_, owU h.sides fun b hb => ?_, h.apart, hl⟩
  · exact (set_other _ _ _ _ (by show w.heap.size ≠ gx; omega)).trans h.dbox
  · exact (set_other _ _ _ _ (by show w.heap.size + 1 ≠ gx; omega)).trans h.rbox
  · exact (set_other _ _ _ _ (by show go ≠ gx; omega)).trans h.obox
  · exact set_other _ _ _ _ (fun e => h2 (by rw [hb]; exact congrArg some e))
  · exact set_other _ _ _ _ (fun e => h3 (by rw [hb]; exact congrArg some e))
theorem FireAt.sent (h : FireAt w go id ph sv M S fv ov W) {ov' : Value} {m : Ml} (hb : W'.heap[go]? = some (.cells #[ov'] 23 (0, 0))) (ho : Ow W' (go + 1) ov' (M ++ [m])) (off : Off (fun i => i = go ∨ ov.ownBlock = some i) W W') (hn : ov'.ownBlock = ov.ownBlock ∨ ∀ b, ov'.ownBlock = some b → W.heap.size ≤ b) : FireAt w go id ph sv (M ++ [m]) S fv ov' W' := by
  have hl := h.low
  have hne : ∀ k, k < go → W.heap[k]? = W'.heap[k]? := fun k hk => (off.block k (by have := blk_lt h.obox; omega) (by
    rintro (e | e)
    · omega
    · have := (h.out.low k e).1; omega)).symm
  refine ⟨?_, ?_, ?_, hb, ho, owU h.sides fun b hb2 => off.block b (h.sides.low b hb2).2 ?_, fun b hb2 => ?_, hl⟩
  · exact Below.trans h.ext (off.below (fun k hk => by rcases hk with e | e; omega; have := (h.out.low k e).1; omega) h.ext.size)
  · rw [← hne _ (by omega)]; exact h.dbox
  · rw [← hne _ (by omega)]; exact h.rbox
  · rintro (e | e)
    · have := (h.sides.low b hb2).1; omega
    · exact h.apart b hb2 e
  · rcases hn with e | e
    · rw [e]; exact h.apart b hb2
    · intro e2
      have := e b e2
      have := (h.sides.low b hb2).2
      omega
theorem FireAt.more (h : FireAt w go id ph sv M S fv ov W) {v2 : Value} {s : Sd} {W1 : World} (x : Ext W W1) (ho : Ow W' (go + 1) v2 (S ++ [s])) (ha : Apd (go + 1) fv v2 W1 W') : FireAt w go id ph sv M (S ++ [s]) v2 ov W' := by
  have h1 := h.ext' x
  have hl := h.low
  have hk : ∀ k, k < go + 1 → W'.heap[k]? = W1.heap[k]? := fun k hk => ha.below.block k hk
  refine ⟨?_, (hk _ (by omega)).trans h1.dbox, (hk _ (by omega)).trans h1.rbox, (hk _ (by omega)).trans h1.obox, owU h1.out fun b hb => ?_, ho, fun b hb e => ?_, hl⟩
  · exact Below.trans h1.ext (ha.below.mono (by omega))
  · exact ha.grown.block b (h1.out.low b hb).2 (fun e => h.apart b e.symm hb)
  · rcases ha.block with e2 | e2
    · exact h.apart b (by rw [← e2]; exact hb) e
    · have := e2 b hb
      have := (h1.out.low b e).2
      omega
end
theorem hot_bits (ph : Int) (s : Sd) : hot ph s = (((s.fork && s.dirty) && s.token) && (ph != 2)) := by
  unfold hot
  by_cases h : ph = 2
  · simp [h]
  · have h2 : (ph != 2) = true := by simp [h]
    rw [h2, decide_eq_true h, Bool.and_true, Bool.and_true, Bool.and_assoc]
theorem wants_bits (ph : Int) (s : Sd) : wants ph s = (((ph == 1) && s.token) && !s.fork) := by
  unfold wants
  by_cases h : ph = 1
  · rw [decide_eq_true h]; simp [h, Bool.and_comm]
  · rw [decide_eq_false h]; simp [h]
theorem seat_fire (id ph : Int) (L : List Sd) : seatD ⟨id, ph, fireSs ph L⟩ = fireD ⟨id, ph, L⟩ := by
  unfold seatD fireD
  rfl
theorem fireSs_next {ph : Int} {L : List Sd} {k : Nat} {s : Sd} (h : L[k]? = some s) : fireSs ph (L.take (k + 1)) = fireSs ph (L.take k) ++ [fireS1 ph s] := by
  have hk := (List.getElem?_eq_some_iff.1 h).1
  rw [List.take_succ_eq_append_getElem hk, (List.getElem?_eq_some_iff.1 h).2]
  unfold fireSs
  rw [List.map_append]; rfl
theorem fireMs_next {id ph : Int} {L : List Sd} {k : Nat} {s : Sd} (h : L[k]? = some s) : fireMs id ph (L.take (k + 1)) = fireMs id ph (L.take k) ++ fireM1 id ph s := by
  have hk := (List.getElem?_eq_some_iff.1 h).1
  rw [List.take_succ_eq_append_getElem hk, (List.getElem?_eq_some_iff.1 h).2]
  unfold fireMs
  rw [List.flatMap_append]; simp
theorem fireM1_len (id ph : Int) (s : Sd) : (fireM1 id ph s).length ≤ 2 := by
  unfold fireM1
  rw [List.length_append]
  have h1 : (if hot ph s = true then [forkM id s] else []).length ≤ 1 := by split <;> simp
  have h2 : (if wants ph (gone ph s) = true then [tokenM id s] else []).length ≤ 1 := by split <;> simp
  omega
theorem fireMs_len (id ph : Int) : ∀ L : List Sd, (fireMs id ph L).length ≤ 2 * L.length
  | [] => Nat.le_refl _
  | s :: L => by
    have h1 := fireM1_len id ph s
    have h2 := fireMs_len id ph L
    unfold fireMs at *
    rw [List.flatMap_cons, List.length_append, List.length_cons]
    omega
theorem fire_eq {id ph : Int} {s s1 : Sd} {q q2 : Bool} (hq : hot ph s = q) (hg : s1 = cond q { s with fork := false, dirty := false } s) (hq2 : wants ph s1 = q2) : fireM1 id ph s = cond q [forkM id s] [] ++ cond q2 [tokenM id s1] [] ∧ fireS1 ph s = cond q2 { s1 with token := false } s1 := by
  have e : gone ph s = s1 := by unfold gone; rw [hq, hg]; cases q <;> rfl
  have e2 : tokenM id s = tokenM id s1 := by rw [hg]; cases q <;> rfl
  unfold fireM1 fireS1 asked
  rw [e, hq, hq2, e2]
  cases q <;> cases q2 <;> exact ⟨rfl, rfl⟩
def fireR (d : Dn) : Dn × List Ml × Int := if dnOk d = true then (fireD d, fireMl d, 0) else (noD, [], 130)
def GivesFO (w : World) (r : Dn × List Ml × Int) (e : Ending) (w' : World) : Prop := ∃ v' vl, e = .returned (.tuple #[.agg #[.int .i64 r.1.id, .int .i64 r.1.phase, v'], vl, .int .i64 r.2.2]) ∧ Ow w' w.heap.size v' r.1.sides ∧ Ow w' w.heap.size vl r.2.1 ∧ Ext w w' ∧ ∀ b, v'.ownBlock = some b → vl.ownBlock ≠ some b
set_option maxRecDepth 100000 in
set_option maxHeartbeats 16000000 in
theorem fireO_any (w : World) (id ph : Int) (v : Value) (L : List Sd) (h : Sl w v L) (hl : L.length ≤ 1000) :
    Calls Tryz.prog 175 #[.agg #[.int .i64 id, .int .i64 ph, v]] w (GivesFO w (fireR ⟨id, ph, L⟩)) := by
  obtain ⟨ao, c, rfl⟩ := h.len
  have hmf : ∀ (fn : Fn) (first cap : Array Value) (w : World), (Instr.makeFunc fn first cap).run Tryz.prog w = .ok (.func fn first cap) w := fun _ _ _ _ => rfl
  have hlen := h.length_le
  obtain ⟨W0, hW0⟩ : ∃ W0, W0 = (w.alloc (.cells #[.int .i64 id, .int .i64 ph, .slice ao L.length c] 61)).alloc (.cells #[.int .i64 0, .int .i64 0, .slice none 0 0] 61) := ⟨_, rfl⟩
  have X0 : Hid (Ext w W0) := Lib.hid (hW0 ▸ ((Ext.refl w).alloc _).alloc _)
  have D0 : Hid (W0.heap[w.heap.size]? = some (.cells #[.int .i64 id, .int .i64 ph, .slice ao L.length c] 61 (0, 0))) := Lib.hid (hW0 ▸ old1 (at0 w _) _)
  have R0 : Hid (W0.heap[w.heap.size + 1]? = some (.cells #[.int .i64 0, .int .i64 0, .slice none 0 0] 61 (0, 0))) := Lib.hid (hW0 ▸ at1 w _ _)
  have hs0 : W0.heap.size = w.heap.size + 2 := by rw [hW0, size_alloc, size_alloc]
  have HW0 := Lib.hid hW0
  have HS := Lib.hid (h.ext X0.out)
  have HSw := Lib.hid h
  clear h hW0
  obtain ⟨d0, d1, d2⟩ := cells3U D0.out
  obtain ⟨t, ht⟩ : ∃ t, dnOk ⟨id, ph, L⟩ = t := ⟨_, rfl⟩
  have HT := Lib.hid ht
  clear ht
  go_enter Tryz.func175, Tryz.ntmps175
  go_upto_region 1 with (fail)
  rw [← HW0.out]
  cases t
  · have HR : Hid (fireR ⟨id, ph, L⟩ = (noD, [], 130)) := Lib.hid (by unfold fireR; rw [HT.out]; rfl)
    go_upto_region 3 with (first
      | (go_at_call 103; refine (dCheck_any W0 id ph _ L HS.out false HT.out).mono ?_; rintro e w1 ⟨rfl, hx⟩; dsimp only [cond]; have X1 : Hid (Ext W0 w1) := Lib.hid hx; clear hx))
    go_wp2_with (first | refine haltst 61 ?_)
    refine .inl ?_
    refine st_l 61 (.tmp 2) (.tmp 15) (w.heap.size + 1) 0 61 #[.int .i64 0, .int .i64 0, .slice none 0 0] #[.int .i64 0, .int .i64 0, .slice none 0 0] #[.int .i64 0, .int .i64 0, .slice none 0 0] rfl rfl (keepU R0.out X1.out) (by kernel_rfl) (by simp) rfl rfl ?_
    intro W9 hW9 o9
    simp only [Act.put]
    go_wp2
    exact bodyPost_ret (v := .tuple #[.agg #[.int .i64 0, .int .i64 0, .slice none 0 0], .slice none 0 0, .int .i64 130]) (res_ctt 3 4 rfl rfl hW9 uDiner (by kernel_rfl)) rfl (by rw [HR.out]; exact ⟨_, _, rfl, Ow.nil _ _, Ow.nil _ _, ext_off (X0.out.trans X1.out) o9 (fun b hb => by omega), fun b hb => by simp [Value.ownBlock] at hb⟩)
  · have HR : Hid (fireR ⟨id, ph, L⟩ = (fireD ⟨id, ph, L⟩, fireMl ⟨id, ph, L⟩, 0)) := Lib.hid (by unfold fireR; rw [HT.out]; rfl)
    go_upto_region 4 with (first
      | (go_at_call 103; refine (dCheck_any W0 id ph _ L HS.out true HT.out).mono ?_; rintro e w1 ⟨rfl, hx⟩; dsimp only [cond]; have X1 : Hid (Ext W0 w1) := Lib.hid hx; clear hx))
    clear d0 d1 d2
    obtain ⟨go, hgo⟩ : ∃ go, go = w1.heap.size := ⟨_, rfl⟩
    go_upto_region 5 with (fail)
    obtain ⟨W2, hW2⟩ : ∃ W2, W2 = w1.alloc (.cells #[.slice none 0 0] 23) := ⟨_, rfl⟩
    have hgl : w.heap.size + 2 ≤ go := by have := Below.size X1.out; omega
    have XW2 : Hid (Ext W0 W2) := Lib.hid (hW2 ▸ X1.out.alloc _)
    have F2 : Hid (FireAt w go id ph (.slice ao L.length c) (fireMs id ph (L.take 0)) (fireSs ph (L.take 0)) (.slice none 0 0) (.slice none 0 0) W2) := Lib.hid ⟨X0.out.trans XW2.out, keepU D0.out XW2.out, keepU R0.out XW2.out, by rw [hW2, hgo]; exact at0 w1 _, Ow.nil _ _, Ow.nil _ _, fun b hb => by simp [Value.ownBlock] at hb, hgl⟩
    rw [← hW2, ← hgo]
    clear hW2 hgo
    obtain ⟨d0, d1, d2⟩ := cells3U F2.out.dbox
    go_upto_region 6 with (fail)
    go_upto_region 7 with (fail)
    go_wp2
    go_loopw [8, 21] (fun s8 i wr => ∃ (k : Nat) (fo : Option Addr) (fn fc : Nat) (oo : Option Addr) (on oc : Nat), k ≤ L.length ∧ i = .int .i64 k ∧ s8 = .slice fo fn fc ∧ Hid (FireAt w go id ph (.slice ao L.length c) (fireMs id ph (L.take k)) (fireSs ph (L.take k)) (.slice fo fn fc) (.slice oo on oc) wr) ∧ Hid (Ext w wr)) (fun _ i _ => L.length - (intOf i).toNat)
    case atStart => exact ⟨0, none, 0, 0, none, 0, 0, Nat.zero_le _, rfl, rfl, F2, Lib.hid F2.out.ext⟩
    case round =>
      obtain ⟨k, fo, fn, fc, oo, on, oc, hk, rfl, rfl, HF, HX⟩ := hrel
      clear d0 d1 d2
      obtain ⟨d0, d1, d2⟩ := cells3U HF.out.dbox
      by_cases hlt : k < L.length
      · obtain ⟨b1, off, s, hsy, hsj, rfl, hn, hnc, hc63, hb, hcs⟩ := HSw.out.sidesAt hlt
        obtain ⟨⟨⟨x0, x1⟩, x2, x3⟩, ⟨x4, x5⟩, x6, x7⟩ := hcs wr HX.out
        have HSJ := Lib.hid hsj
        obtain ⟨W1, hW1⟩ : ∃ W1, W1 = wr.alloc (.cells s.cs 66) := ⟨_, rfl⟩
        obtain ⟨gx, hgx⟩ : ∃ gx, wr.heap.size = gx := ⟨_, rfl⟩
        have F1 := Lib.hid (HF.out.ext' (hW1 ▸ (Ext.refl wr).alloc _ : Ext wr W1))
        have B1 : Hid (W1.heap[gx]? = some (.cells s.cs 66 (0, 0))) := Lib.hid (by rw [hW1, ← hgx]; exact at0 wr _)
        have hgg : go < gx := by have := blk_lt HF.out.obox; omega
        have V1 : Hid ((Value.slice oo on oc).ownBlock ≠ some gx) := Lib.hid (fun e => by have := (HF.out.out.low gx e).2; omega)
        have U1 : Hid ((Value.slice fo fn fc).ownBlock ≠ some gx) := Lib.hid (fun e => by have := (HF.out.sides.low gx e).2; omega)
        have HML3 : Hid ((fireMs id ph (L.take k)).length ≤ 5000) := Lib.hid (by have := fireMs_len id ph (L.take k); rw [List.length_take] at this; omega)
        have HML4 : Hid (∀ m : Ml, (fireMs id ph (L.take k) ++ [m]).length ≤ 5000) := Lib.hid (fun m => by have := fireMs_len id ph (L.take k); rw [List.length_take] at this; rw [List.length_append, List.length_singleton]; omega)
        have hfl : (fireSs ph (L.take k)).length ≤ 1000 := by unfold fireSs; rw [List.length_map, List.length_take]; omega
        have HW1 := Lib.hid hW1
        clear hsy hsj hcs hn hW1 HF HX
        obtain ⟨y0, y1, y2, y3, y4, y5, y6, y7⟩ := s
        dsimp only at x0 x1 x2 x3 x4 x5 x6 x7
        dsimp only [Sd.cs] at HW1 B1
        go_upto_region 10 with (fail)
        rw [← HW1.out]
        try rw [hgx]
        clear x0 x1 x2 x3 x4 x5 x6 x7 d0 d1 d2 hgx
        obtain ⟨⟨⟨x0, x1⟩, x2, x3⟩, ⟨x4, x5⟩, x6, x7⟩ := cells8U B1.out
        obtain ⟨d0, d1, d2⟩ := cells3U F1.out.dbox
        go_cut [39] (fun s39 wx => ∃ q, s39 = .bool q ∧ W1 = wx ∧ Hid (hot ph ⟨y0, y1, y2, y3, y4, y5, y6, y7⟩ = q))
        case first =>
          cases y3
          · have HB : Hid (hot ph ⟨y0, y1, y2, false, y4, y5, y6, y7⟩ = false) := Lib.hid rfl
            go_wp2_with fail
            go_meet
            exact ⟨_, rfl, rfl, HB⟩
          cases y4
          · have HB : Hid (hot ph ⟨y0, y1, y2, true, false, y5, y6, y7⟩ = false) := Lib.hid rfl
            go_wp2_with fail
            go_meet
            exact ⟨_, rfl, rfl, HB⟩
          cases y5
          · have HB : Hid (hot ph ⟨y0, y1, y2, true, true, false, y6, y7⟩ = false) := Lib.hid rfl
            go_wp2_with fail
            go_meet
            exact ⟨_, rfl, rfl, HB⟩
          obtain ⟨q, hq⟩ : ∃ q, (ph != 2) = q := ⟨_, rfl⟩
          have HB : Hid (hot ph ⟨y0, y1, y2, true, true, true, y6, y7⟩ = q) := Lib.hid (by rw [hot_bits, ← hq]; rfl)
          go_wp2_with fail
          go_meet
          exact ⟨_, rfl, rfl, HB⟩
        case rest =>
          obtain ⟨q, rfl, rfl, HQ⟩ := hcut
          cases q
          · go_upto_region 13 with (fail)
            go_cut [56] (fun s56 wx => ∃ q, s56 = .bool q ∧ W1 = wx ∧ Hid (wants ph ⟨y0, y1, y2, y3, y4, y5, y6, y7⟩ = q))
            case first =>
              by_cases hp : ph = 1
              · have t1 : (ph == 1) = true := by simp [hp]
                cases y5
                · have HB : Hid (wants ph ⟨y0, y1, y2, y3, y4, false, y6, y7⟩ = false) := Lib.hid (by rw [wants_bits]; simp)
                  clear hp
                  go_wp2_with fail
                  go_meet
                  exact ⟨_, rfl, rfl, HB⟩
                · have HB : Hid (wants ph ⟨y0, y1, y2, y3, y4, true, y6, y7⟩ = !y3) := Lib.hid (by rw [wants_bits, t1]; rfl)
                  clear hp
                  go_wp2_with fail
                  go_meet
                  exact ⟨_, rfl, rfl, HB⟩
              · have t1 : (ph == 1) = false := by simp [hp]
                have HB : Hid (wants ph ⟨y0, y1, y2, y3, y4, y5, y6, y7⟩ = false) := Lib.hid (by rw [wants_bits, t1]; rfl)
                clear hp
                go_wp2_with fail
                go_meet
                exact ⟨_, rfl, rfl, HB⟩
            case rest =>
              obtain ⟨q2, rfl, rfl, HQ2⟩ := hcut
              have HE := Lib.hid (fire_eq (id := id) HQ.out rfl HQ2.out)
              clear HQ
              cases q2
              · go_upto_region 16 with (fail)
                clear x0 x1 x2 x3 x4 x5 x6 x7 HQ2
                obtain ⟨⟨⟨x0, x1⟩, x2, x3⟩, ⟨x4, x5⟩, x6, x7⟩ := cells8U B1.out
                go_upto_region 17 with (first
                  | (at_builtin; refine wpList_append_sl (α := Sd) rfl (.tmp 61) (.tmp 63) rfl (go + 1) (.slice fo fn fc) (fireSs ph (L.take k)) rfl ?_ (.slice (some ⟨_, 0, none⟩) 1 1) [(⟨y0, y1, y2, y3, y4, y5, y6, y7⟩ : Sd)] rfl ?_ ?_ ?_ ?_; exact (F1.out.sides.alloc _); exact (Sl.litAt W1 _ rfl [(⟨y0, y1, y2, y3, y4, y5, y6, y7⟩ : Sd)] (show (1 : Nat) ≤ 1000000 by decide)); (first | omega | (simp; omega)); (rw [size_alloc]; have := blk_lt F1.out.obox; omega); intro v8 W8 ho8 ha8; obtain ⟨a8, n8, c8, rfl⟩ := ho8.sh; have F8 := Lib.hid (F1.out.more ((Ext.refl _).alloc _) ho8 ha8); clear ho8 ha8))
                go_wp2
                go_roundw
                case rel => exact ⟨k + 1, _, _, _, _, _, _, by omega, by go_num, rfl, Lib.hid (by rw [fireMs_next HSJ.out, fireSs_next HSJ.out, HE.out.1, HE.out.2]; simpa only [cond, forkM, tokenM, List.append_nil, List.nil_append, List.append_assoc, List.cons_append] using F8.out), Lib.hid F8.out.ext⟩
                case measure => simp [intOf]; omega
              · clear HQ2
                go_upto_region 15 with (first
                  | (go_at_call 202; refine (send_any W1 go w.heap.size id ph 2 _ _ (fireMs id ph (L.take k)) (⟨y0, y1, y2, y3, y4, y5, y6, y7⟩ : Sd) F1.out.dbox F1.out.obox F1.out.out HML3.out).mono ?_; rintro e w3 ⟨rfl, ov', hb3, ho3, of3, hn3⟩; obtain ⟨p3, q3, r3, rfl⟩ := ho3.sh; have F3 := Lib.hid (F1.out.sent hb3 ho3 of3 hn3); have B3 : Hid (w3.heap[gx]? = some (.cells #[.int .i64 y0, .int .i64 y1, .int .i64 y2, .bool y3, .bool y4, .bool y5, .bool y6, .bool y7] 66 (0, 0))) := Lib.hid ((of3.block gx (blk_lt B1.out) (by rintro (e | e); omega; exact V1.out e)).trans B1.out); have V3 : Hid ((Value.slice p3 q3 r3).ownBlock ≠ some gx) := Lib.hid (by rcases hn3 with e | e; rw [e]; exact V1.out; intro e2; have := e gx e2; have := blk_lt B1.out; omega); clear hb3 ho3 of3 hn3; obtain ⟨⟨⟨x0, x1⟩, x2, x3⟩, ⟨x4, x5⟩, x6, x7⟩ := cells8U B3.out; have ff3 := blk_free B3.out 3; have ff4 := blk_free B3.out 4; have ff5 := blk_free B3.out 5))
                go_upto_region 16 with (fail)
                obtain ⟨W4, hW4⟩ : ∃ W4, W4 = w3.setCell ⟨gx, 5, none⟩ (.bool false) := ⟨_, rfl⟩
                have F4 := Lib.hid (hW4 ▸ F3.out.set (i := 5) (u := .bool false) hgg V3.out U1.out)
                have B4 : Hid (W4.heap[gx]? = some (.cells #[.int .i64 y0, .int .i64 y1, .int .i64 y2, .bool y3, .bool y4, .bool false, .bool y6, .bool y7] 66 (0, 0))) := Lib.hid (by rw [hW4, blk_set B3.out]; rfl)
                rw [← hW4]
                clear hW4 x0 x1 x2 x3 x4 x5 x6 x7 ff3 ff4 ff5
                obtain ⟨⟨⟨x0, x1⟩, x2, x3⟩, ⟨x4, x5⟩, x6, x7⟩ := cells8U B4.out
                go_upto_region 17 with (first
                  | (at_builtin; refine wpList_append_sl (α := Sd) rfl (.tmp 61) (.tmp 63) rfl (go + 1) (.slice fo fn fc) (fireSs ph (L.take k)) rfl ?_ (.slice (some ⟨_, 0, none⟩) 1 1) [(⟨y0, y1, y2, y3, y4, false, y6, y7⟩ : Sd)] rfl ?_ ?_ ?_ ?_; exact (F4.out.sides.alloc _); exact (Sl.litAt W4 _ rfl [(⟨y0, y1, y2, y3, y4, false, y6, y7⟩ : Sd)] (show (1 : Nat) ≤ 1000000 by decide)); (first | omega | (simp; omega)); (rw [size_alloc]; have := blk_lt F4.out.obox; omega); intro v8 W8 ho8 ha8; obtain ⟨a8, n8, c8, rfl⟩ := ho8.sh; have F8 := Lib.hid (F4.out.more ((Ext.refl _).alloc _) ho8 ha8); clear ho8 ha8))
                go_wp2
                go_roundw
                case rel => exact ⟨k + 1, _, _, _, _, _, _, by omega, by go_num, rfl, Lib.hid (by rw [fireMs_next HSJ.out, fireSs_next HSJ.out, HE.out.1, HE.out.2]; simpa only [cond, forkM, tokenM, List.append_nil, List.nil_append, List.append_assoc, List.cons_append] using F8.out), Lib.hid F8.out.ext⟩
                case measure => simp [intOf]; omega
          · have hq := HQ.out
            rw [hot_bits] at hq
            simp only [Bool.and_eq_true] at hq
            obtain ⟨⟨⟨rfl, rfl⟩, rfl⟩, hq2⟩ := hq
            clear hq2
            go_upto_region 12 with (first
              | (go_at_call 202; refine (send_any W1 go w.heap.size id ph 1 _ _ (fireMs id ph (L.take k)) (⟨y0, y1, y2, true, true, true, y6, y7⟩ : Sd) F1.out.dbox F1.out.obox F1.out.out HML3.out).mono ?_; rintro e w3 ⟨rfl, ov', hb3, ho3, of3, hn3⟩; obtain ⟨p3, q3, r3, rfl⟩ := ho3.sh; have F3 := Lib.hid (F1.out.sent hb3 ho3 of3 hn3); have B3 : Hid (w3.heap[gx]? = some (.cells #[.int .i64 y0, .int .i64 y1, .int .i64 y2, .bool true, .bool true, .bool true, .bool y6, .bool y7] 66 (0, 0))) := Lib.hid ((of3.block gx (blk_lt B1.out) (by rintro (e | e); omega; exact V1.out e)).trans B1.out); have V3 : Hid ((Value.slice p3 q3 r3).ownBlock ≠ some gx) := Lib.hid (by rcases hn3 with e | e; rw [e]; exact V1.out; intro e2; have := e gx e2; have := blk_lt B1.out; omega); clear hb3 ho3 of3 hn3; obtain ⟨⟨⟨x0, x1⟩, x2, x3⟩, ⟨x4, x5⟩, x6, x7⟩ := cells8U B3.out; have ff3 := blk_free B3.out 3; have ff4 := blk_free B3.out 4; have ff5 := blk_free B3.out 5))
            go_upto_region 13 with (fail)
            obtain ⟨W4, hW4⟩ : ∃ W4, W4 = (w3.setCell ⟨gx, 3, none⟩ (.bool false)).setCell ⟨gx, 4, none⟩ (.bool false) := ⟨_, rfl⟩
            have F4 := Lib.hid (hW4 ▸ (F3.out.set (i := 3) (u := .bool false) hgg V3.out U1.out).set (i := 4) (u := .bool false) hgg V3.out U1.out)
            have B4 : Hid (W4.heap[gx]? = some (.cells #[.int .i64 y0, .int .i64 y1, .int .i64 y2, .bool false, .bool false, .bool true, .bool y6, .bool y7] 66 (0, 0))) := Lib.hid (by rw [hW4, blk_set (blk_set B3.out 3 _)]; rfl)
            rw [← hW4]
            clear hW4 x0 x1 x2 x3 x4 x5 x6 x7 ff3 ff4 ff5 d0 d1 d2
            obtain ⟨⟨⟨x0, x1⟩, x2, x3⟩, ⟨x4, x5⟩, x6, x7⟩ := cells8U B4.out
            obtain ⟨d0, d1, d2⟩ := cells3U F4.out.dbox
            go_cut [56] (fun s56 wx => ∃ q, s56 = .bool q ∧ W4 = wx ∧ Hid (wants ph ⟨y0, y1, y2, false, false, true, y6, y7⟩ = q))
            case first =>
              by_cases hp : ph = 1
              · have t1 : (ph == 1) = true := by simp [hp]
                have HB : Hid (wants ph ⟨y0, y1, y2, false, false, true, y6, y7⟩ = true) := Lib.hid (by rw [wants_bits, t1]; rfl)
                clear hp
                go_wp2_with fail
                go_meet
                exact ⟨_, rfl, rfl, HB⟩
              · have t1 : (ph == 1) = false := by simp [hp]
                have HB : Hid (wants ph ⟨y0, y1, y2, false, false, true, y6, y7⟩ = false) := Lib.hid (by rw [wants_bits, t1]; rfl)
                clear hp
                go_wp2_with fail
                go_meet
                exact ⟨_, rfl, rfl, HB⟩
            case rest =>
              obtain ⟨q2, rfl, rfl, HQ2⟩ := hcut
              have HE := Lib.hid (fire_eq (id := id) HQ.out (s1 := ⟨y0, y1, y2, false, false, true, y6, y7⟩) rfl HQ2.out)
              clear HQ
              cases q2
              · go_upto_region 16 with (fail)
                clear x0 x1 x2 x3 x4 x5 x6 x7 HQ2
                obtain ⟨⟨⟨x0, x1⟩, x2, x3⟩, ⟨x4, x5⟩, x6, x7⟩ := cells8U B4.out
                go_upto_region 17 with (first
                  | (at_builtin; refine wpList_append_sl (α := Sd) rfl (.tmp 61) (.tmp 63) rfl (go + 1) (.slice fo fn fc) (fireSs ph (L.take k)) rfl ?_ (.slice (some ⟨_, 0, none⟩) 1 1) [(⟨y0, y1, y2, false, false, true, y6, y7⟩ : Sd)] rfl ?_ ?_ ?_ ?_; exact (F4.out.sides.alloc _); exact (Sl.litAt W4 _ rfl [(⟨y0, y1, y2, false, false, true, y6, y7⟩ : Sd)] (show (1 : Nat) ≤ 1000000 by decide)); (first | omega | (simp; omega)); (rw [size_alloc]; have := blk_lt F4.out.obox; omega); intro v8 W8 ho8 ha8; obtain ⟨a8, n8, c8, rfl⟩ := ho8.sh; have F8 := Lib.hid (F4.out.more ((Ext.refl _).alloc _) ho8 ha8); clear ho8 ha8))
                go_wp2
                go_roundw
                case rel => exact ⟨k + 1, _, _, _, _, _, _, by omega, by go_num, rfl, Lib.hid (by rw [fireMs_next HSJ.out, fireSs_next HSJ.out, HE.out.1, HE.out.2]; simpa only [cond, forkM, tokenM, List.append_nil, List.nil_append, List.append_assoc, List.cons_append] using F8.out), Lib.hid F8.out.ext⟩
                case measure => simp [intOf]; omega
              · clear HQ2
                go_upto_region 15 with (first
                  | (go_at_call 202; refine (send_any W4 go w.heap.size id ph 2 _ _ _ (⟨y0, y1, y2, false, false, true, y6, y7⟩ : Sd) F4.out.dbox F4.out.obox F4.out.out (HML4.out _)).mono ?_; rintro e w5 ⟨rfl, ov', hb5, ho5, of5, hn5⟩; obtain ⟨p5, q5, r5, rfl⟩ := ho5.sh; have F5 := Lib.hid (F4.out.sent hb5 ho5 of5 hn5); have B5 : Hid (w5.heap[gx]? = some (.cells #[.int .i64 y0, .int .i64 y1, .int .i64 y2, .bool false, .bool false, .bool true, .bool y6, .bool y7] 66 (0, 0))) := Lib.hid ((of5.block gx (blk_lt B4.out) (by rintro (e | e); omega; exact V3.out e)).trans B4.out); have V5 : Hid ((Value.slice p5 q5 r5).ownBlock ≠ some gx) := Lib.hid (by rcases hn5 with e | e; rw [e]; exact V3.out; intro e2; have := e gx e2; have := blk_lt B4.out; omega); clear hb5 ho5 of5 hn5; obtain ⟨⟨⟨x0, x1⟩, x2, x3⟩, ⟨x4, x5⟩, x6, x7⟩ := cells8U B5.out; have ff3 := blk_free B5.out 3; have ff4 := blk_free B5.out 4; have ff5 := blk_free B5.out 5))
                go_upto_region 16 with (fail)
                obtain ⟨W6, hW6⟩ : ∃ W6, W6 = w5.setCell ⟨gx, 5, none⟩ (.bool false) := ⟨_, rfl⟩
                have F6 := Lib.hid (hW6 ▸ F5.out.set (i := 5) (u := .bool false) hgg V5.out U1.out)
                have B6 : Hid (W6.heap[gx]? = some (.cells #[.int .i64 y0, .int .i64 y1, .int .i64 y2, .bool false, .bool false, .bool false, .bool y6, .bool y7] 66 (0, 0))) := Lib.hid (by rw [hW6, blk_set B5.out]; rfl)
                rw [← hW6]
                clear hW6 x0 x1 x2 x3 x4 x5 x6 x7 ff3 ff4 ff5
                obtain ⟨⟨⟨x0, x1⟩, x2, x3⟩, ⟨x4, x5⟩, x6, x7⟩ := cells8U B6.out
                go_upto_region 17 with (first
                  | (at_builtin; refine wpList_append_sl (α := Sd) rfl (.tmp 61) (.tmp 63) rfl (go + 1) (.slice fo fn fc) (fireSs ph (L.take k)) rfl ?_ (.slice (some ⟨_, 0, none⟩) 1 1) [(⟨y0, y1, y2, false, false, false, y6, y7⟩ : Sd)] rfl ?_ ?_ ?_ ?_; exact (F6.out.sides.alloc _); exact (Sl.litAt W6 _ rfl [(⟨y0, y1, y2, false, false, false, y6, y7⟩ : Sd)] (show (1 : Nat) ≤ 1000000 by decide)); (first | omega | (simp; omega)); (rw [size_alloc]; have := blk_lt F6.out.obox; omega); intro v8 W8 ho8 ha8; obtain ⟨a8, n8, c8, rfl⟩ := ho8.sh; have F8 := Lib.hid (F6.out.more ((Ext.refl _).alloc _) ho8 ha8); clear ho8 ha8))
                go_wp2
                go_roundw
                case rel => exact ⟨k + 1, _, _, _, _, _, _, by omega, by go_num, rfl, Lib.hid (by rw [fireMs_next HSJ.out, fireSs_next HSJ.out, HE.out.1, HE.out.2]; simpa only [cond, forkM, tokenM, List.append_nil, List.nil_append, List.append_assoc, List.cons_append] using F8.out), Lib.hid F8.out.ext⟩
                case measure => simp [intOf]; omega
      · have hkl : k = L.length := by omega
        have FF : Hid (FireAt w go id ph (.slice ao L.length c) (fireMs id ph L) (fireSs ph L) (.slice fo fn fc) (.slice oo on oc) wr) := Lib.hid (by have := HF.out; rwa [hkl, List.take_length] at this)
        clear HF hkl
        go_upto_region 18 with (fail)
        have fd2 := blk_free FF.out.dbox 2
        go_upto_region 19 with (fail)
        obtain ⟨W4, hW4⟩ : ∃ W4, W4 = wr.setCell ⟨w.heap.size, 2, none⟩ (.slice fo fn fc) := ⟨_, rfl⟩
        have hlo := FF.out.low
        have hwr := blk_lt FF.out.obox
        have D4 : Hid (W4.heap[w.heap.size]? = some (.cells #[.int .i64 id, .int .i64 ph, .slice fo fn fc] 61 (0, 0))) := Lib.hid (by rw [hW4, blk_set FF.out.dbox]; rfl)
        have R4 : Hid (W4.heap[w.heap.size + 1]? = some (.cells #[.int .i64 0, .int .i64 0, .slice none 0 0] 61 (0, 0))) := Lib.hid (by rw [hW4, set_other _ _ _ _ (by show w.heap.size + 1 ≠ w.heap.size; omega)]; exact FF.out.rbox)
        have G4 : Hid (W4.heap[go]? = some (.cells #[.slice oo on oc] 23 (0, 0))) := Lib.hid (by rw [hW4, set_other _ _ _ _ (by show go ≠ w.heap.size; omega)]; exact FF.out.obox)
        have O4 : Hid (Ow W4 (go + 1) (.slice oo on oc) (fireMs id ph L)) := Lib.hid (hW4 ▸ FF.out.out.set (d := ⟨w.heap.size, 2, none⟩) (by show w.heap.size < go + 1; omega) _)
        have S4 : Hid (Ow W4 (go + 1) (.slice fo fn fc) (fireSs ph L)) := Lib.hid (hW4 ▸ FF.out.sides.set (d := ⟨w.heap.size, 2, none⟩) (by show w.heap.size < go + 1; omega) _)
        have X4 : Hid (Ext w W4) := Lib.hid (hW4 ▸ below_set FF.out.ext (Nat.le_refl _) _)
        have AP := Lib.hid FF.out.apart
        rw [← hW4]
        clear hW4 d0 d1 d2 fd2 FF
        have HK4 : Hid (∀ V, Ext W4 V → V.heap[w.heap.size]? = some (.cells #[.int .i64 id, .int .i64 ph, .slice fo fn fc] 61 (0, 0)) ∧ V.heap[go]? = some (.cells #[.slice oo on oc] 23 (0, 0))) := Lib.hid fun V hV => ⟨keepU D4.out hV, keepU G4.out hV⟩
        (refine wp_region_X_lit (K := fun V => V.heap[w.heap.size]? = some (.cells #[.int .i64 id, .int .i64 ph, .slice fo fn fc] 61 (0, 0)) ∧ V.heap[go]? = some (.cells #[.slice oo on oc] 23 (0, 0))) (by kernel_rfl) (fun w1 hw1 => ?_))
        have HX1 : Hid (Ext W4 w1) := Lib.hid hw1
        clear hw1
        refine xtv 0 (hv := by intro w' hw'; have q0 := blk_cell hw'.1 0 rfl; have q1 := blk_cell hw'.1 1 rfl; have q2 := blk_cell hw'.1 2 rfl; go_simp; first | done | with_reducible rfl) (h := ?_)
        refine xtv 2 (hv := by intro w' hw'; have q0 := blk_cell hw'.2 0 rfl; go_simp; first | done | with_reducible rfl) (h := ?_)
        refine xone 1 (hk := (HK4.out _ HX1.out)) (h := RunX.of 1 (h := ?_))
        go_simp
        refine (seated_any w1 (go + 1) id ph _ (fireSs ph L) (S4.out.ext HX1.out)).mono ?_
        rintro e5 w5 ⟨rfl, s5, o5⟩
        rw [seat_fire] at s5 ⊢
        have S5 := Lib.hid s5
        have hbo : ∀ b, (Value.slice fo fn fc).ownBlock = some b → go + 1 ≤ b := fun b hb => (s5.low b hb).1
        have hz1 := Below.size HX1.out
        have hz4 : go < W4.heap.size := blk_lt G4.out
        have D5 : Hid (w5.heap[w.heap.size]? = some (.cells #[.int .i64 id, .int .i64 ph, .slice fo fn fc] 61 (0, 0))) := Lib.hid ((o5.block _ (by omega) (fun e => by have := hbo _ e; omega)).trans (keepU D4.out HX1.out))
        have R5 : Hid (w5.heap[w.heap.size + 1]? = some (.cells #[.int .i64 0, .int .i64 0, .slice none 0 0] 61 (0, 0))) := Lib.hid ((o5.block _ (by omega) (fun e => by have := hbo _ e; omega)).trans (keepU R4.out HX1.out))
        have G5 : Hid (w5.heap[go]? = some (.cells #[.slice oo on oc] 23 (0, 0))) := Lib.hid ((o5.block _ (by omega) (fun e => by have := hbo _ e; omega)).trans (keepU G4.out HX1.out))
        have O5 : Hid (Ow w5 (go + 1) (.slice oo on oc) (fireMs id ph L)) := Lib.hid (owU (O4.out.ext HX1.out) (fun b hb => o5.block b ((O4.out.ext HX1.out).low b hb).2 (fun e => AP.out b e hb)))
        have X5 : Hid (Ext w w5) := Lib.hid (Below.trans (X4.out.trans HX1.out) (o5.below (fun b hb => by have := hbo b hb; omega) (by omega)))
        clear s5 o5 hbo
        dsimp only
        (try (simp only [Act.put, List.setIfInBounds_toArray, List.set]))
        refine xone 3 (hk := ⟨D5.out, G5.out⟩) (h := RunX.of 3 (h := ?_))
        refine wp_st 61 (.tmp 2) (.tmp 69) rfl (w.heap.size + 1) 0 61 #[.int .i64 0, .int .i64 0, .slice none 0 0] #[.int .i64 (fireD ⟨id, ph, L⟩).id, .int .i64 (fireD ⟨id, ph, L⟩).phase, .slice fo fn fc] #[.int .i64 (fireD ⟨id, ph, L⟩).id, .int .i64 (fireD ⟨id, ph, L⟩).phase, .slice fo fn fc] rfl rfl R5.out (by kernel_rfl) (by simp) rfl rfl ?_
        intro WB hWB oB
        simp only [Act.put]
        have SB : Hid (Ow WB (go + 1) (.slice fo fn fc) (fireD ⟨id, ph, L⟩).sides) := Lib.hid (owU S5.out (fun b hb => oB.block b (S5.out.low b hb).2 (by have := (S5.out.low b hb).1; omega)))
        have OB : Hid (Ow WB (go + 1) (.slice oo on oc) (fireMs id ph L)) := Lib.hid (owU O5.out (fun b hb => oB.block b (O5.out.low b hb).2 (by have := (O5.out.low b hb).1; omega)))
        have KB : Hid (WB.heap[w.heap.size]? = some (.cells #[.int .i64 id, .int .i64 ph, .slice fo fn fc] 61 (0, 0)) ∧ WB.heap[go]? = some (.cells #[.slice oo on oc] 23 (0, 0))) := Lib.hid ⟨(oB.block _ (blk_lt D5.out) (by omega)).trans D5.out, (oB.block _ (blk_lt G5.out) (by omega)).trans G5.out⟩
        have XB : Hid (Ext w WB) := Lib.hid (ext_off X5.out oB (fun b hb => by omega))
        have RB := Lib.hid hWB
        clear hWB oB
        refine xtv 4 (h := ?_)
        refine xtv 5 (h := ?_)
        (refine xdone (by kernel_rfl) (KB.out) ?_)
        go_wp2
        exact bodyPost_ret (v := .tuple #[.agg #[.int .i64 (fireD ⟨id, ph, L⟩).id, .int .i64 (fireD ⟨id, ph, L⟩).phase, .slice fo fn fc], .slice oo on oc, .int .i64 0]) (res_ctt 3 4 rfl rfl RB.out uDiner (by kernel_rfl)) rfl (by rw [HR.out]; exact ⟨_, _, rfl, SB.out.mono (by omega), OB.out.mono (by omega), XB.out, AP.out⟩)
end Go.Proofs.YtfbambemjokmgaaGreat
namespace Go.Proofs.YtfbambemjokmgaaGreat
open Go.RowKit
set_option maxRecDepth 100000 in
set_option maxHeartbeats 1000000 in
theorem has_node (w : World) (vd vm : Value) (L : List Dn) (M : List Ml) (a : Int) (h : SV w vd vm L M) (t : Bool) (ht : nodeB L a = t) :
    Calls Tryz.prog 106 #[.agg #[vd, vm], .int .i64 a] w fun e w' => e = .returned (.bool t) ∧ Ext w w' := by
  obtain ⟨ao, c, bo, d, rfl, rfl⟩ := h.len
  have HT := Lib.hid ht
  have X0 : Hid (Ext w (w.alloc (.cells #[.slice ao L.length c, .slice bo M.length d] 48))) := Lib.hid ((Ext.refl w).alloc _)
  obtain ⟨c0, c1⟩ := cells2S (at0 w (.cells #[.slice ao L.length c, .slice bo M.length d] 48))
  clear h ht
  unfold nodeB at HT
  go_enter Tryz.func106, Tryz.ntmps106
  by_cases h0 : 0 ≤ a
  · by_cases h1 : a < (L.length : Int)
    · go_wp2
      go_ret
      exact ⟨ret_bool (by rw [← HT.out, decide_eq_true h0, decide_eq_true h1]; simp), X0.out⟩
    · go_wp2
      go_ret
      exact ⟨ret_bool (by rw [← HT.out, decide_eq_true h0, decide_eq_false (by omega)]; simp), X0.out⟩
  · go_wp2
    go_ret
    exact ⟨ret_bool (by rw [← HT.out, decide_eq_false (by omega)]; rfl), X0.out⟩
set_option maxHeartbeats 1000000 in
theorem spoilt_one (w : World) (id ph : Int) (v : Value) (L : List Sd) (h : Sl w v L) (t : Bool) (ht : dnOk ⟨id, ph, L⟩ = t) :
    Calls Tryz.prog 104 #[.agg #[.int .i64 id, .int .i64 ph, v]] w fun e w' => e = .returned (.bool (!t)) ∧ Ext w w' := by
  obtain ⟨ao, c, rfl⟩ := h.len
  have X0 : Hid (Ext w (w.alloc (.cells #[.int .i64 id, .int .i64 ph, .slice ao L.length c] 61))) := Lib.hid ((Ext.refl w).alloc _)
  have HC := Lib.hid (dCheck_any _ id ph _ L (h.ext X0.out) t ht)
  obtain ⟨d0, d1, d2⟩ := cells3U (at0 w (.cells #[.int .i64 id, .int .i64 ph, .slice ao L.length c] 61))
  clear h ht
  go_enter Tryz.func104, Tryz.ntmps104
  go_wp2_with (go_at_call 103; refine HC.out.mono ?_; rintro e w1 ⟨rfl, hx⟩; have X1 := Lib.hid (X0.out.trans hx); clear hx)
  cases t
  · go_ret
    exact ⟨rfl, X1.out⟩
  · go_ret
    exact ⟨rfl, X1.out⟩
def strayB (ds : List Dn) (m : Ml) : Bool := decide (m.from_ = m.to_) || !nodeB ds m.from_ || !nodeB ds m.to_
set_option maxRecDepth 100000 in
set_option maxHeartbeats 2000000 in
theorem strays_one (W : World) (g : Nat) (vd vm : Value) (L : List Dn) (M : List Ml) (h : SV W vd vm L M) (hg : W.heap[g]? = some (.cells #[vd, vm] 48 (0, 0))) (m : Ml) (t : Bool) (ht : strayB L m = t) :
    Calls Tryz.prog 105 #[m.val, .pointer (some ⟨g, 0, none⟩)] W fun e w' => e = .returned (.bool t) ∧ Ext W w' := by
  obtain ⟨ao, c, bo, d, rfl, rfl⟩ := h.len
  obtain ⟨m0, m1, m2, m3, m4⟩ := m
  unfold Ml.val
  dsimp only
  unfold strayB at ht
  dsimp only at ht
  obtain ⟨W1, hW1⟩ : ∃ W1, W1 = W.alloc (.cells #[.int .i64 m0, .int .i64 m1, .int .i64 m2, .int .i64 m3, .int .i64 m4] 95) := ⟨_, rfl⟩
  have X0 : Hid (Ext W W1) := Lib.hid (hW1 ▸ (Ext.refl W).alloc _)
  have HM : Hid (∀ V, Ext W1 V → V.cell? ⟨W.heap.size, 0, none⟩ = some (.int .i64 m0) ∧ V.cell? ⟨W.heap.size, 1, none⟩ = some (.int .i64 m1)) := Lib.hid fun V hV => by
    have q := keepU (hW1 ▸ at0 W _ : W1.heap[W.heap.size]? = some (.cells #[.int .i64 m0, .int .i64 m1, .int .i64 m2, .int .i64 m3, .int .i64 m4] 95 (0, 0))) hV
    exact ⟨blk_cell q 0 rfl, blk_cell q 1 rfl⟩
  have HG : Hid (∀ V, Ext W1 V → V.cell? ⟨g, 0, none⟩ = some (.slice ao L.length c) ∧ V.cell? ⟨g, 1, none⟩ = some (.slice bo M.length d)) := Lib.hid fun V hV => cells2S (keepU hg (X0.out.trans hV))
  obtain ⟨n0, hn0⟩ : ∃ t, nodeB L m0 = t := ⟨_, rfl⟩
  obtain ⟨n1, hn1⟩ : ∃ t, nodeB L m1 = t := ⟨_, rfl⟩
  rw [hn0, hn1] at ht
  have H0 : Hid (∀ V, Ext W1 V → _) := Lib.hid fun V hV => has_node V _ _ L M m0 (h.ext (X0.out.trans hV)) n0 hn0
  have H1 : Hid (∀ V, Ext W1 V → _) := Lib.hid fun V hV => has_node V _ _ L M m1 (h.ext (X0.out.trans hV)) n1 hn1
  have HT := Lib.hid ht
  have HW1 := Lib.hid hW1
  obtain ⟨k0, k1⟩ := HM.out W1 (Ext.refl _)
  obtain ⟨k2, k3⟩ := HG.out W1 (Ext.refl _)
  clear h hg ht hn0 hn1 hW1
  go_enter Tryz.func105, Tryz.ntmps105
  go_upto_region 1 with (fail)
  rw [← HW1.out]
  by_cases e : m0 = m1
  · have q : (m0 == m1) = true := by simp [e]
    have HE : Hid (decide (m0 = m1) = true) := Lib.hid (decide_eq_true e)
    clear e
    go_wp2
    go_ret
    exact ⟨ret_bool (by rw [← HT.out, HE.out]; rfl), X0.out⟩
  · have q : (m0 == m1) = false := by simp [e]
    have HE : Hid (decide (m0 = m1) = false) := Lib.hid (decide_eq_false e)
    clear e
    cases n0
    · go_wp2_with (go_at_call 106; refine (H0.out W1 (Ext.refl _)).mono ?_; rintro e w1 ⟨rfl, hx⟩; have X1 := Lib.hid hx; clear hx)
      go_ret
      exact ⟨ret_bool (by rw [← HT.out, HE.out]; rfl), X0.out.trans X1.out⟩
    · go_wp2_with (first
        | (have hgd := X1; go_at_call 106; refine (H1.out w1 X1.out).mono ?_; rintro e w2 ⟨rfl, hx⟩; have X2 := Lib.hid hx; clear hx)
        | (go_at_call 106; refine (H0.out W1 (Ext.refl _)).mono ?_; rintro e w1 ⟨rfl, hx⟩; have X1 := Lib.hid hx; obtain ⟨j0, j1⟩ := HM.out w1 hx; obtain ⟨j2, j3⟩ := HG.out w1 hx; clear hx))
      go_ret
      exact ⟨ret_bool (by rw [← HT.out, HE.out]; cases n1 <;> rfl), X0.out.trans (X1.out.trans X2.out)⟩
end Go.Proofs.YtfbambemjokmgaaGreat
namespace Go.Proofs.YtfbambemjokmgaaGreat
open Go.RowKit
theorem sidesD_put {id : Int} : ∀ {L : List Sd} {last : Int} {i : Nat} {s s' : Sd}, L[i]? = some s → s'.peer = s.peer → (∀ la, sideD id la s = true → sideD id la s' = true) → sidesD id last L = true → sidesD id last (L.set i s') = true
  | [], _, _, _, _, h, _, _, _ => by simp at h
  | t :: L, last, 0, s, s', h, hp, hs, hd => by
    obtain rfl : t = s := by simpa using h
    unfold sidesD at hd
    rw [Bool.and_eq_true] at hd
    rw [List.set_cons_zero]
    unfold sidesD
    rw [hs _ hd.1, hp, hd.2]; rfl
  | t :: L, last, i + 1, s, s', h, hp, hs, hd => by
    unfold sidesD at hd
    rw [Bool.and_eq_true] at hd
    rw [List.set_cons_succ]
    unfold sidesD
    rw [hd.1, sidesD_put (by simpa using h) hp hs hd.2]; rfl
theorem with_side {id la : Int} {s : Sd} {k n : Int} (h0 : (withR s k n).2 = 0) (h : sideD id la s = true) : sideD id la (withR s k n).1 = true ∧ (withR s k n).1.peer = s.peer := by
  unfold withR at *
  split
  · next q => rw [if_pos q] at h0; simp at h0
  · next q =>
    rw [if_neg q] at h0
    split
    · next q2 => rw [if_pos q2] at h0; simp at h0
    · next q2 =>
      split
      · refine ⟨?_, rfl⟩
        unfold sideD at *
        simp only [Bool.and_eq_true, Bool.not_eq_true', Bool.and_eq_false_iff, Bool.not_eq_false'] at *
        exact ⟨h.1, h.2.1, h.2.2.1, h.2.2.2.1, h.2.2.2.2.1, h.2.2.2.2.2.1, .inr (by simp)⟩
      · exact ⟨h, rfl⟩
theorem with_peer {s : Sd} {k n : Int} (h0 : (withR s k n).2 = 0) : (withR s k n).1.peer = s.peer := by
  unfold withR at *
  split
  · next q => rw [if_pos q] at h0; simp at h0
  · next q =>
    rw [if_neg q] at h0
    split
    · next q2 => rw [if_pos q2] at h0; simp at h0
    · split <;> rfl
theorem head_len {id ph : Int} {L M : List Sd} (h : headD ⟨id, ph, L⟩ = true) (hl : M.length = L.length) : headD ⟨id, ph, M⟩ = true := by
  unfold headD at *
  dsimp only at *
  rw [hl]; exact h
theorem chk_diner {L : List Dn} {M : List Ml} (h : chkT L M = true) {A : Nat} {d : Dn} (hA : L[A]? = some d) : dnOk d = true := by
  unfold chkT at h
  simp only [Bool.and_eq_true, List.all_eq_true] at h
  exact h.1.2 d (List.mem_of_getElem? hA)
theorem pick_none {a b : Int} : ∀ {l : List Ml}, (∀ x ∈ l, (x.from_ == a && x.to_ == b) = false) → pick a b l = none
  | [], _ => rfl
  | m :: l, h => by
    unfold pick
    have := h m (List.mem_cons_self ..)
    rw [if_neg (by simpa using this), pick_none fun x hx => h x (List.mem_cons_of_mem _ hx)]; rfl
theorem pick_at {a b : Int} : ∀ {l : List Ml} {k : Nat} {m : Ml}, l[k]? = some m → (m.from_ == a && m.to_ == b) = true → (∀ (j : Nat) (u : Ml), j < k → l[j]? = some u → (u.from_ == a && u.to_ == b) = false) → pick a b l = some (l.take k, m, l.drop (k + 1))
  | [], _, _, h, _, _ => by simp at h
  | x :: l, 0, m, h, hm, _ => by
    obtain rfl : x = m := by simpa using h
    unfold pick
    rw [if_pos (by simpa using hm)]
    rfl
  | x :: l, k + 1, m, h, hm, hn => by
    unfold pick
    have := hn 0 x (by omega) rfl
    rw [if_neg (by simpa using this), pick_at (by simpa using h) hm fun j u hj hu => hn (j + 1) u (by omega) (by simpa using hu)]
    rfl
theorem node_iff {L : List Dn} {a : Int} : nodeB L a = true ↔ 0 ≤ a ∧ a < L.length := by unfold nodeB; simp
end Go.Proofs.YtfbambemjokmgaaGreat
