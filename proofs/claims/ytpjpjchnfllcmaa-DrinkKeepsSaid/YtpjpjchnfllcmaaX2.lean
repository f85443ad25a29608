/- Layer 15, the document's answers: what a drinker does, once. -/
import Derived.Test.YtpjpjchnfllcmaaWC
import Derived.Test.YtpjpjchnfllcmaaWD
import Derived.Test.YtpjpjchnfllcmaaUK
import Derived.Test.YtpjpjchnfllcmaaME
import Derived.BigGuard
namespace Go.Proofs.Ytpjpjchnfllcmaa
open Go.RowKit

theorem uDrinker : ∃ fs, Try.prog.underlying 29 = some (.struct fs) := ⟨_, Try.underlying29⟩
theorem cells5 {w : World} {g : Nat} {u0 u1 u2 u3 u4 : Value} {t : TypeId} (h : w.heap[g]? = some (.cells #[u0, u1, u2, u3, u4] t (0, 0))) :
    (w.cell? ⟨g, 0, none⟩ = some u0 ∧ w.cell? ⟨g, 1, none⟩ = some u1 ∧ w.cell? ⟨g, 2, none⟩ = some u2) ∧ w.cell? ⟨g, 3, none⟩ = some u3 ∧ w.cell? ⟨g, 4, none⟩ = some u4 := ⟨⟨blk_cell h 0 rfl, blk_cell h 1 rfl, blk_cell h 2 rfl⟩, blk_cell h 3 rfl, blk_cell h 4 rfl⟩
/-- a drinker's cells -/
abbrev dkC (id ph : Int) (v : Value) (th : Int) (nv : Value) : Array Value := #[.int .i64 id, .int .i64 ph, v, .int .i64 th, nv]

theorem open_next {L : List Sd} {k : Nat} {s : Sd} (h : L[k]? = some s) : isOpening (L.take (k + 1)) = (isOpening (L.take k) || decide (s.state = 1)) := by
  have hk := (List.getElem?_eq_some_iff.1 h).1
  unfold isOpening
  rw [List.take_succ_eq_append_getElem hk, (List.getElem?_eq_some_iff.1 h).2, List.any_append]
  simp

/-- a block of fewer than eight cells is no part of a row of sides -/
theorem apartSd {W : World} {g : Nat} {v : Value} {S : List Sd} {cs : Array Value} {t : TypeId} {fr : Nat × Nat} (h : Sl W v S) (hg : W.heap[g]? = some (.cells cs t fr)) (hc : cs.size < 8) : Av (fun k => k = g) v S := by
  obtain ⟨ao, c, rfl⟩ := h.len
  cases S with
  | nil => exact .inl rfl
  | cons s l =>
    refine .inr fun b hb hbg => ?_
    obtain ⟨b1, off, y, _, _, rfl, _, _, _, _, hcs⟩ := h.sidesAt (k := 0) (by simp)
    obtain ⟨_, _, _, x7⟩ := hcs W (Ext.refl _)
    simp only [Value.ownBlock, Option.some.injEq] at hb
    subst hb
    subst hbg
    unfold World.cell? at x7
    simp only [hg] at x7
    have : cs[off + 0 * 8 + 7]? = none := by rw [Array.getElem?_eq_none]; omega
    simp [this] at x7

/-- a block in which no number stands behind the fourth cell is no part of a row of mail -/
theorem apartMl {W : World} {g : Nat} {v : Value} {M : List Ml} {cs : Array Value} {t : TypeId} {fr : Nat × Nat} (h : Sl W v M) (hg : W.heap[g]? = some (.cells cs t fr)) (hc : ∀ u ∈ cs.toList.drop 4, ∀ x, u ≠ Value.int .i64 x) : Av (fun k => k = g) v M := by
  obtain ⟨ao, c, rfl⟩ := h.len
  cases M with
  | nil => exact .inl rfl
  | cons m l =>
    refine .inr fun b hb hbg => ?_
    obtain ⟨b1, off, y, _, _, rfl, _, _, _, _, hcs⟩ := h.mailAt (k := 0) (by simp)
    obtain ⟨_, _, _, x4⟩ := hcs W (Ext.refl _)
    simp only [Value.ownBlock, Option.some.injEq] at hb
    subst hb
    subst hbg
    unfold World.cell? at x4
    simp only [hg] at x4
    have e : cs[off + 0 * 5 + 4]? = some (.int .i64 y.num) := by simpa using x4
    refine hc _ ?_ y.num rfl
    rw [List.mem_iff_getElem?]
    refine ⟨off, ?_⟩
    rw [List.getElem?_drop]
    rw [show 4 + off = off + 0 * 5 + 4 from by omega]
    simpa using e

/-- while a drinker's sides are gone through: where things lie -/
structure OnceAt (w : World) (id ph th : Int) (nv vk : Value) (S : List Sd) (vo : Value) (M : List Ml) (W : World) : Prop where
  ext : Ext w W
  dbox : W.heap[w.heap.size]? = some (.cells #[.int .i64 id, .int .i64 ph, vk, .int .i64 th, nv] 29 (0, 0))
  rbox : W.heap[w.heap.size + 1]? = some (.cells #[.int .i64 0, .int .i64 0, .slice none 0 0, .int .i64 0, .slice none 0 0] 29 (0, 0))
  sides : Sl W vk S
  av : Av (fun k => k = w.heap.size ∨ k = w.heap.size + 1 ∨ vo.ownBlock = some k) vk S
  out : Ow W (w.heap.size + 2) vo M
section
variable {w W W' : World} {id ph th : Int} {nv vk vo : Value} {S : List Sd} {M : List Ml}
theorem OnceAt.ext' (h : OnceAt w id ph th nv vk S vo M W) (x : Ext W W') : OnceAt w id ph th nv vk S vo M W' :=
  ⟨h.ext.trans x, keepU h.dbox x, keepU h.rbox x, h.sides.ext x, h.av, h.out.ext x⟩
/-- its sides are other ones, new ones -/
theorem OnceAt.sidesNew {v2 : Value} {S2 : List Sd} (h : OnceAt w id ph th nv vk S vo M W) {W2 : World} (x : Ext W W2) (hs : Ow W2 W.heap.size v2 S2)
    (hb : W'.heap[w.heap.size]? = some (.cells #[.int .i64 id, .int .i64 ph, v2, .int .i64 th, nv] 29 (0, 0))) (o : Off (fun k => k = w.heap.size) W2 W') : OnceAt w id ph th nv v2 S2 vo M W' := by
  have h2 := h.ext' x
  have z := blk_lt h.rbox
  have z2 := Below.size x
  refine ⟨ext_off h2.ext o (fun k hk => by omega), hb, (o.block _ (blk_lt h2.rbox) (by omega)).trans h2.rbox, ?_, ?_, owU h2.out fun b hb2 => o.block b (h2.out.low b hb2).2 (by have := (h2.out.low b hb2).1; omega)⟩
  · exact (owU hs fun b hb2 => o.block b (hs.low b hb2).2 (by have := (hs.low b hb2).1; omega)).sl
  · refine .inr fun b hb2 hf => ?_
    have h1 := (hs.low b hb2).1
    rcases hf with e | e | e
    · omega
    · omega
    · have := (h.out.low b e).2; omega
/-- its thirst is another one -/
theorem OnceAt.thirst (h : OnceAt w id ph th nv vk S vo M W) (th2 : Int) : OnceAt w id ph th2 nv vk S vo M (W.setCell ⟨w.heap.size, 3, none⟩ (.int .i64 th2)) := by
  have o := off_set W ⟨w.heap.size, 3, none⟩ (.int .i64 th2)
  refine ⟨below_set h.ext (Nat.le_refl _) _, by rw [blk_set h.dbox]; rfl, ?_, h.sides.off (h.av.imp (fun h => h) fun h b hb hf => h b hb (.inl hf)) o, h.av, h.out.set (d := ⟨w.heap.size, 3, none⟩) (by show w.heap.size < _; omega) _⟩
  exact (set_other _ _ _ _ (by show w.heap.size + 1 ≠ w.heap.size; omega)).trans h.rbox
/-- more goes out -/
theorem OnceAt.more {v2 : Value} {M2 : List Ml} (h : OnceAt w id ph th nv vk S vo M W) (ho : Ow W' (w.heap.size + 2) v2 M2) (ha : Apd (w.heap.size + 2) vo v2 W W') : OnceAt w id ph th nv vk S v2 M2 W' := by
  have z := blk_lt h.rbox
  have o : Off (fun k => vo.ownBlock = some k) W W' := off_grown ha.grown
  refine ⟨Below.trans h.ext (ha.below.mono (by omega)), (ha.below.block _ (by omega)).trans h.dbox, (ha.below.block _ (by omega)).trans h.rbox, h.sides.off (h.av.imp (fun h => h) fun h b hb hf => h b hb (.inr (.inr hf))) o, ?_, ho⟩
  rcases h.av with e | e
  · exact .inl e
  · rcases h.sides.low with e2 | e2
    · exact .inl e2
    · refine .inr fun b hb hf => ?_
      rcases hf with e3 | e3 | e3
      · exact e b hb (.inl e3)
      · exact e b hb (.inr (.inl e3))
      · rcases ha.block with e4 | e4
        · exact e b hb (.inr (.inr (by rw [← e4]; exact e3)))
        · have := e4 b e3; have := e2 b hb; omega
end
/-- the sides as far as they are gone through -/
def goneK (th : Int) (N : List Int) (F : List Sd) (k : Nat) : List Sd := (F.take k).map (bottleS th N) ++ F.drop k
theorem goneK_at {th : Int} {N : List Int} {F : List Sd} {k : Nat} {s : Sd} (h : F[k]? = some s) : (goneK th N F k)[k]? = some s ∧ (goneK th N F k).length = F.length ∧ (goneK th N F k).set k (bottleS th N s) = goneK th N F (k + 1) := by
  have hk := (List.getElem?_eq_some_iff.1 h).1
  unfold goneK
  have hl : ((F.take k).map (bottleS th N)).length = k := by simp; omega
  refine ⟨?_, ?_, ?_⟩
  · rw [List.getElem?_append_right (by omega), hl, Nat.sub_self, List.getElem?_drop, Nat.add_zero]; exact h
  · rw [List.length_append, hl, List.length_drop]; omega
  · rw [List.set_append_right _ _ (by omega), hl, Nat.sub_self, List.take_succ_eq_append_getElem hk, List.map_append, List.append_assoc]
    have hd : F.drop k = s :: F.drop (k + 1) := by
      rw [← (List.getElem?_eq_some_iff.1 h).2, List.getElem_cons_drop hk]
    rw [hd, (List.getElem?_eq_some_iff.1 h).2]; rfl
theorem goneK_end {th : Int} {N : List Int} {F : List Sd} : goneK th N F F.length = F.map (bottleS th N) := by
  unfold goneK; rw [List.take_length, List.drop_length, List.append_nil]
def sentK (id th : Int) (N : List Int) (F : List Sd) (k : Nat) : List Ml := (F.take k).flatMap (bottleM id th N)
theorem sentK_next {id th : Int} {N : List Int} {F : List Sd} {k : Nat} {s : Sd} (h : F[k]? = some s) : sentK id th N F (k + 1) = sentK id th N F k ++ bottleM id th N s := by
  have hk := (List.getElem?_eq_some_iff.1 h).1
  unfold sentK
  rw [List.take_succ_eq_append_getElem hk, (List.getElem?_eq_some_iff.1 h).2, List.flatMap_append]; simp
theorem sentK_len {id th : Int} {N : List Int} {F : List Sd} (k : Nat) : (sentK id th N F k).length ≤ 2 * F.length := by
  have h1 : ∀ G : List Sd, (G.flatMap (bottleM id th N)).length ≤ 2 * G.length := fun G => by
    induction G with
    | nil => simp
    | cons s G ih =>
      rw [List.flatMap_cons, List.length_append, List.length_cons]
      have : (bottleM id th N s).length ≤ 2 := by
        unfold bottleM
        rw [List.length_append]
        have h1 : (if pours th N s = true then [(⟨id, s.peer, 3, s.epoch, 0⟩ : Ml)] else []).length ≤ 1 := by split <;> simp
        have h2 : (if asks th N (poured th N s) = true then [(⟨id, s.peer, 4, s.epoch, 0⟩ : Ml)] else []).length ≤ 1 := by split <;> simp
        omega
      omega
  have := h1 (F.take k)
  unfold sentK
  rw [List.length_take] at this
  omega
def missK (th : Int) (N : List Int) (F : List Sd) (k : Nat) : Bool := missB N ((F.take k).map (bottleS th N))
theorem missK_next {th : Int} {N : List Int} {F : List Sd} {k : Nat} {s : Sd} (h : F[k]? = some s) : missK th N F (k + 1) = (missK th N F k || (decide ((bottleS th N s).peer ∈ N) && !(bottleS th N s).bottle)) := by
  have hk := (List.getElem?_eq_some_iff.1 h).1
  unfold missK missB
  rw [List.take_succ_eq_append_getElem hk, (List.getElem?_eq_some_iff.1 h).2, List.map_append, List.any_append]
  simp [needsB]

/-- what Once answers -/
def GivesK (w : World) (nv : Value) (r : Dk × List Ml) (e : Ending) (w' : World) : Prop := ∃ v' vl, e = .returned (.tuple #[.agg #[.int .i64 r.1.id, .int .i64 r.1.phase, v', .int .i64 r.1.thirst, nv], vl]) ∧ Sl w' v' r.1.sides ∧ Sl w' vl r.2 ∧ Ext w w' ∧ (r.1.sides = [] ∨ ∀ b, v'.ownBlock = some b → w.heap.size ≤ b)

set_option maxRecDepth 100000 in
set_option maxHeartbeats 16000000 in
theorem refOnce_any (w : World) (id ph th : Int) (v nv : Value) (L : List Sd) (N : List Int) (h : Sl w v L) (hN : Sl w nv N) (hl : L.length ≤ 1000) :
    Calls Try.prog 42 #[.agg #[.int .i64 id, .int .i64 ph, v, .int .i64 th, nv]] w (GivesK w nv (onceK ⟨id, ph, L, th, N⟩)) := by
  obtain ⟨ao, c, rfl⟩ := h.len
  obtain ⟨na, nc, rfl⟩ := hN.len
  have hlen := h.length_le
  obtain ⟨W0, hW0⟩ : ∃ W0, W0 = (w.alloc (.cells #[.int .i64 id, .int .i64 ph, .slice ao L.length c, .int .i64 th, .slice na N.length nc] 29)).alloc (.cells #[.int .i64 0, .int .i64 0, .slice none 0 0, .int .i64 0, .slice none 0 0] 29) := ⟨_, rfl⟩
  have X0 : Hid (Ext w W0) := Lib.hid (hW0 ▸ ((Ext.refl w).alloc _).alloc _)
  have D0 : Hid (W0.heap[w.heap.size]? = some (.cells #[.int .i64 id, .int .i64 ph, .slice ao L.length c, .int .i64 th, .slice na N.length nc] 29 (0, 0))) := Lib.hid (hW0 ▸ old1 (at0 w _) _)
  have R0 : Hid (W0.heap[w.heap.size + 1]? = some (.cells #[.int .i64 0, .int .i64 0, .slice none 0 0, .int .i64 0, .slice none 0 0] 29 (0, 0))) := Lib.hid (hW0 ▸ at1 w _ _)
  have HZ0 : Hid (W0.heap.size = w.heap.size + 2) := Lib.hid (by rw [hW0, size_alloc, size_alloc])
  have HW0 := Lib.hid hW0
  have HS := Lib.hid (h.ext X0.out)
  have HLV := Lib.hid h.low
  have HN := Lib.hid hN
  have HSw := Lib.hid h
  clear h hN hW0
  go_enter Try.func42, Try.ntmps42
  go_upto_region 1 with (fail)
  rw [← HW0.out]
  obtain ⟨⟨d0, d1, d2⟩, d3, d4⟩ := cells5 D0.out
  go_wp2
  go_loopw [4, 5] (fun o i wr => ∃ k : Nat, k ≤ L.length ∧ i = .int .i64 k ∧ o = .bool (isOpening (L.take k)) ∧ W0 = wr) (fun _ i _ => L.length - (intOf i).toNat)
  case atStart => exact ⟨0, Nat.zero_le _, rfl, rfl, rfl⟩
  case round =>
    obtain ⟨k, hk, rfl, rfl, rfl⟩ := hrel
    by_cases hlt : k < L.length
    · obtain ⟨b1, off, s, hsy, hsj, rfl, hn, hnc, hc63, hb, hcs⟩ := HS.out.sidesAt hlt
      obtain ⟨⟨⟨x0, x1⟩, x2, x3⟩, ⟨x4, x5⟩, x6, x7⟩ := hcs W0 (Ext.refl _)
      have HJ := Lib.hid (open_next hsj)
      clear hcs hsj hsy hn
      obtain ⟨y0, y1, y2, y3, y4, y5, y6, y7⟩ := s
      dsimp only at x0 x1 x2 x3 x4 x5 x6 x7 HJ
      obtain ⟨o, ho⟩ : ∃ o, isOpening (L.take k) = o := ⟨_, rfl⟩
      rw [ho] at HJ ⊢
      clear ho x0 x1 x3 x4 x5 x6 x7
      obtain ⟨q, hq⟩ : ∃ q, (y2 == 1) = q := ⟨_, rfl⟩
      have HQ : Hid (isOpening (L.take (k + 1)) = (o || q)) := Lib.hid (by rw [HJ.out, ← hq]; rfl)
      clear HJ
      cases o
      · go_wp2
        go_roundw
        case rel => exact ⟨k + 1, by omega, by go_num, by rw [HQ.out]; rfl, by trivial⟩
        case measure => simp [intOf]; omega
      · go_wp2
        go_roundw
        case rel => exact ⟨k + 1, by omega, by go_num, by rw [HQ.out]; rfl, by trivial⟩
        case measure => simp [intOf]; omega
    · have hkl : k = L.length := by omega
      obtain ⟨op, hop⟩ : ∃ op, isOpening (L.take k) = op := ⟨_, rfl⟩
      rw [hop]
      have HOP : Hid (isOpening L = op) := Lib.hid (by rw [hkl, List.take_length] at hop; exact hop)
      clear hop hkl
      go_upto_region 6 with (fail)
      go_cut [39] (fun s39 wx => ∃ b, s39 = .bool b ∧ W0 = wx ∧ Hid (b = decide (th = 1 ∧ ph = 0)))
      case first =>
        by_cases e1 : th = 1
        · have t1 : (th == 1) = true := by simp [e1]
          by_cases e2 : ph = 0
          · have t2 : (ph == 0) = true := by simp [e2]
            have HB : Hid (true = decide (th = 1 ∧ ph = 0)) := Lib.hid (by simp [e1, e2])
            clear e1 e2
            go_wp2_with fail
            go_meet
            exact ⟨_, rfl, rfl, HB⟩
          · have t2 : (ph == 0) = false := by simp [e2]
            have HB : Hid (false = decide (th = 1 ∧ ph = 0)) := Lib.hid (by simp [e1, e2])
            clear e1 e2
            go_wp2_with fail
            go_meet
            exact ⟨_, rfl, rfl, HB⟩
        · have t1 : (th == 1) = false := by simp [e1]
          have HB : Hid (false = decide (th = 1 ∧ ph = 0)) := Lib.hid (by simp [e1])
          clear e1
          go_wp2_with fail
          go_meet
          exact ⟨_, rfl, rfl, HB⟩
      case rest =>
        obtain ⟨b, rfl, rfl, HB⟩ := hcut
        go_upto_if 39 with (fail)
        have f1 := blk_free D0.out 1
        go_cut [3] (fun s3 wx => s3 = .slice none 0 0 ∧ Hid (Ext w wx) ∧ Hid (wx.heap[w.heap.size]? = some (.cells #[.int .i64 id, .int .i64 (turnK th op ph), .slice ao L.length c, .int .i64 th, .slice na N.length nc] 29 (0, 0))) ∧ Hid (wx.heap[w.heap.size + 1]? = some (.cells #[.int .i64 0, .int .i64 0, .slice none 0 0, .int .i64 0, .slice none 0 0] 29 (0, 0))))
        case first =>
          cases b
          · by_cases e1 : th = 1
            · have t1 : (th != 1) = false := by simp [e1]
              have HB2 : Hid (turnK th op ph = ph) := Lib.hid (by have := HB.out; unfold turnK; rw [if_neg (by simpa using this.symm), if_neg (fun h => h.1 e1)])
              clear e1
              go_wp2_with fail
              go_meet
              exact ⟨rfl, X0, by rw [HB2.out]; exact D0, R0⟩
            · have t1 : (th != 1) = true := by simp [e1]
              by_cases e2 : ph = 2
              · have t2 : (ph == 2) = true := by simp [e2]
                cases op
                · have HB2 : Hid (turnK th false ph = 0) := Lib.hid (by unfold turnK; rw [if_neg (fun h => e1 h.1), if_pos ⟨e1, e2, rfl⟩])
                  clear e1 e2
                  go_wp2_with fail
                  go_meet
                  exact ⟨rfl, Lib.hid (below_set X0.out (Nat.le_refl _) _), Lib.hid (by rw [HB2.out, blk_set D0.out]; rfl), Lib.hid ((set_other _ _ _ _ (by show w.heap.size + 1 ≠ w.heap.size; omega)).trans R0.out)⟩
                · have HB2 : Hid (turnK th true ph = ph) := Lib.hid (by unfold turnK; rw [if_neg (fun h => e1 h.1), if_neg (fun h => by have := h.2.2; simp at this)])
                  clear e1 e2
                  go_wp2_with fail
                  go_meet
                  exact ⟨rfl, X0, by rw [HB2.out]; exact D0, R0⟩
              · have t2 : (ph == 2) = false := by simp [e2]
                have HB2 : Hid (turnK th op ph = ph) := Lib.hid (by unfold turnK; rw [if_neg (fun h => e1 h.1), if_neg (fun h => e2 h.2.1)])
                clear e1 e2
                go_wp2_with fail
                go_meet
                exact ⟨rfl, X0, by rw [HB2.out]; exact D0, R0⟩
          · have HB2 : Hid (turnK th op ph = 1) := Lib.hid (by have := HB.out; unfold turnK; rw [if_pos (by simpa using this.symm)])
            go_wp2_with fail
            go_meet
            exact ⟨rfl, Lib.hid (below_set X0.out (Nat.le_refl _) _), Lib.hid (by rw [HB2.out, blk_set D0.out]; rfl), Lib.hid ((set_other _ _ _ _ (by show w.heap.size + 1 ≠ w.heap.size; omega)).trans R0.out)⟩
        case rest =>
          obtain ⟨rfl, XC, DC, RC⟩ := hcut
          obtain ⟨pq, hpq⟩ : ∃ pq, turnK th op ph = pq := ⟨_, rfl⟩
          rw [hpq] at DC
          obtain ⟨⟨fi, fp, F⟩, hF⟩ : ∃ d, fireD ⟨id, pq, L⟩ = d := ⟨_, rfl⟩
          obtain ⟨M0, hM0⟩ : ∃ M0, fireMl ⟨id, pq, L⟩ = M0 := ⟨_, rfl⟩
          have hfi : fi = id := by have := (fireD_ways ⟨id, pq, L⟩).1; rw [hF] at this; exact this
          subst hfi
          have HR : Hid (onceK ⟨fi, ph, L, th, N⟩ = (⟨fi, fp, F.map (bottleS th N), if th = 1 ∧ missB N (F.map (bottleS th N)) = false then 2 else th, N⟩, M0 ++ F.flatMap (bottleM fi th N))) := Lib.hid (by
            have hp : preK ⟨fi, ph, L, th, N⟩ = ⟨fi, pq, L⟩ := by unfold preK; dsimp only; rw [HOP.out, hpq]
            unfold onceK
            rw [hp, hF, hM0])
          have HFl : Hid (F.length = L.length) := Lib.hid (by have := fireD_len ⟨fi, pq, L⟩; rw [hF] at this; exact this.1)
          have hMl : M0.length ≤ 2000 := by have := fireMs_len fi pq L; rw [← hM0]; unfold fireMl; dsimp only; omega
          have HFI : Hid (Calls Try.prog 64 #[.agg #[.int .i64 fi, .int .i64 pq, .slice ao L.length c]] wc fun e w' => ∃ v' vl, e = .returned (.tuple #[.agg #[.int .i64 fi, .int .i64 fp, v'], vl]) ∧ Sl w' v' F ∧ Ow w' wc.heap.size vl M0 ∧ Ext wc w' ∧ Av (fun k => vl.ownBlock = some k) v' F) := Lib.hid (by
            have := refFireO_any wc fi pq _ L (by have := HSw.out.ext XC.out; exact this) hl
            rw [hF, hM0] at this
            exact this)
          clear hpq hF hM0 HOP HB D0 R0 HS X0 HW0 d0 d1 d2 d3 d4 HLV f1
          obtain ⟨⟨d0, d1, d2⟩, d3, d4⟩ := cells5 DC.out
          go_upto_region 11 with (first
            | (go_at_call 64; refine HFI.out.mono ?_; rintro e w2 ⟨v2, vl, rfl, h1, h2, x2, h3⟩; obtain ⟨va, vc, rfl⟩ := h1.len; obtain ⟨la, lc, rfl⟩ := h2.sl.len; have S2 := Lib.hid h1; have O2 := Lib.hid h2; have X2 : Hid (Ext wc w2) := Lib.hid x2; have A2 := Lib.hid h3; clear h1 h2 x2 h3))
          obtain ⟨W3, hW3⟩ : ∃ W3, W3 = w2.alloc (.cells #[.int .i64 fi, .int .i64 fp, .slice va F.length vc] 25) := ⟨_, rfl⟩
          obtain ⟨nx, hnx⟩ : ∃ nx, nx = w2.heap.size := ⟨_, rfl⟩
          have X3 : Hid (Ext wc W3) := Lib.hid (hW3 ▸ X2.out.alloc _)
          have N3 : Hid (W3.heap[nx]? = some (.cells #[.int .i64 fi, .int .i64 fp, .slice va F.length vc] 25 (0, 0))) := Lib.hid (by rw [hW3, hnx]; exact at0 w2 _)
          have S3 := Lib.hid (hW3 ▸ S2.out.alloc _ : Sl W3 (.slice va F.length vc) F)
          have O3 := Lib.hid (hW3 ▸ O2.out.alloc _ : Ow W3 wc.heap.size (.slice la M0.length lc) M0)
          rw [← hW3]
          try rw [← hnx]
          have hzc : w.heap.size + 2 ≤ wc.heap.size := by have := blk_lt RC.out; omega
          clear hW3 hnx S2 O2 X2 d0 d1 d2 d3 d4
          obtain ⟨e0, e1, e2⟩ := cells3U N3.out
          obtain ⟨⟨d0, d1, d2⟩, d3, d4⟩ := cells5 (keepU DC.out X3.out)
          go_wp2_with (first | refine haltst 25 ?_)
          refine .inl ?_
          refine st_l 25 (.tmp 64) (.tmp 63) w.heap.size 0 29 #[.int .i64 fi, .int .i64 pq, .slice ao L.length c, .int .i64 th, .slice na N.length nc] #[.int .i64 fi, .int .i64 fp, .slice va F.length vc] #[.int .i64 fi, .int .i64 fp, .slice va F.length vc, .int .i64 th, .slice na N.length nc] rfl rfl (keepU DC.out X3.out) (by kernel_rfl) (by simp) rfl rfl ?_
          intro W4 hW4 o4
          simp only [Act.put]
          have F4 : Hid (OnceAt w fi fp th (.slice na N.length nc) (.slice va F.length vc) (goneK th N F 0) (.slice la M0.length lc) (M0 ++ sentK fi th N F 0) W4) := Lib.hid (by
            have r4 := (o4.block _ (blk_lt (keepU RC.out X3.out)) (by omega)).trans (keepU RC.out X3.out)
            have av1 := apartSd S3.out (keepU DC.out X3.out) (by simp)
            have s4 : Sl W4 (.slice va F.length vc) F := S3.out.off (av1.imp (fun h => h) fun h => h) o4
            have e1 : goneK th N F 0 = F := by unfold goneK; simp
            have e2 : M0 ++ sentK fi th N F 0 = M0 := by unfold sentK; simp
            rw [e1, e2]
            refine ⟨ext_off (XC.out.trans X3.out) o4 (fun k hk => by omega), hW4, r4, s4, ?_, ?_⟩
            · rcases A2.out with e | e
              · exact .inl e
              · rcases av1 with e3 | e3
                · exact .inl e3
                · rcases apartSd s4 r4 (by simp) with e4 | e4
                  · exact .inl e4
                  · exact .inr fun b hb hf => hf.elim (fun h => e3 b hb h) fun h => h.elim (fun h => e4 b hb h) fun h => e b hb h
            · exact (owU O3.out fun b hb => o4.block b (O3.out.low b hb).2 (by have := (O3.out.low b hb).1; omega)).mono hzc)
          clear hW4 o4 d0 d1 d2 d3 d4 e0 e1 e2 X3 N3 S3 O3 A2 hzc
          go_wp2
          go_loopw [7, 8, 9] (fun o ms i wr => ∃ (k : Nat) (fa : Option Addr) (fn fc : Nat) (oa : Option Addr) (on oc : Nat), k ≤ F.length ∧ i = .int .i64 k ∧ o = .slice oa on oc ∧ ms = .bool (missK th N F k) ∧ Hid (OnceAt w fi fp th (.slice na N.length nc) (.slice fa fn fc) (goneK th N F k) (.slice oa on oc) (M0 ++ sentK fi th N F k) wr) ∧ Hid (k = 0 ∨ ∀ b, (Value.slice fa fn fc).ownBlock = some b → w.heap.size ≤ b)) (fun _ _ i _ => F.length - (intOf i).toNat)
          case atStart => exact ⟨0, va, F.length, vc, la, M0.length, lc, Nat.zero_le _, rfl, rfl, rfl, F4, Lib.hid (.inl rfl)⟩
          case round =>
            obtain ⟨k, fa, fn, fc, oa, on, oc, hk, rfl, rfl, rfl, HF, HNW⟩ := hrel
            obtain ⟨ms, hms⟩ : ∃ ms, missK th N F k = ms := ⟨_, rfl⟩
            have HMS := Lib.hid hms
            rw [hms]
            clear hms
            by_cases hlt : k < F.length
            · obtain ⟨s, hsF⟩ : ∃ s, F[k]? = some s := ⟨_, List.getElem?_eq_getElem hlt⟩
              obtain ⟨ga, gl, gs⟩ := goneK_at (th := th) (N := N) hsF
              have HGL := Lib.hid gl
              have HGS := Lib.hid gs
              have HSN := Lib.hid (sentK_next (id := fi) (th := th) (N := N) hsF)
              have HMN := Lib.hid (missK_next (th := th) (N := N) hsF)
              obtain ⟨G, hG⟩ : ∃ G, goneK th N F k = G := ⟨_, rfl⟩
              rw [hG] at HF HGL HGS ga
              have hkG : k < G.length := by have := HGL.out; omega
              have HG10 : Hid (G.length ≤ 1000) := Lib.hid (by have := HGL.out; have := HFl.out; omega)
              obtain ⟨b1, off, s', hsy, hsj, hao, hn, hnc, hc63, hb, hcs⟩ := HF.out.sides.sidesAt hkG
              subst hao
              obtain rfl : s' = s := by have := hsj.symm.trans ga; simpa using this
              subst hn
              have HCS := Lib.hid hcs
              clear hsy hsj hcs ga gl gs hG hsF
              obtain ⟨sz, hsz⟩ : ∃ z, bottleS th N s' = z := ⟨_, rfl⟩
              obtain ⟨mz, hmz⟩ : ∃ z, bottleM fi th N s' = z := ⟨_, rfl⟩
              have HBT : Hid (∀ W, Ext wr W → Calls Try.prog 65 #[.agg #[.int .i64 fi, .int .i64 fp, .slice (some ⟨b1, off, none⟩) G.length fc, .int .i64 th, .slice na N.length nc], .agg s'.cs] W fun e w' => ∃ vl, e = .returned (.tuple #[.agg sz.cs, vl]) ∧ Sl w' vl mz ∧ Ext W w') := Lib.hid (fun W hW => by
                rw [← hsz, ← hmz]
                exact refBottle_any W fi fp th _ _ G N s' (HF.out.sides.ext hW) (HN.out.ext (HF.out.ext.trans hW)))
              rw [hsz] at HGS HMN
              rw [hmz] at HSN
              have HML : Hid ((M0 ++ sentK fi th N F k).length ≤ 6000) := Lib.hid (by have := sentK_len (id := fi) (th := th) (N := N) (F := F) k; have := HFl.out; rw [List.length_append]; omega)
              have HMZ : Hid (mz.length ≤ 2) := Lib.hid (by
                rw [← hmz]; unfold bottleM; rw [List.length_append]
                have h1 : (if pours th N s' = true then [(⟨fi, s'.peer, 3, s'.epoch, 0⟩ : Ml)] else []).length ≤ 1 := by split <;> simp
                have h2 : (if asks th N (poured th N s') = true then [(⟨fi, s'.peer, 4, s'.epoch, 0⟩ : Ml)] else []).length ≤ 1 := by split <;> simp
                omega)
              clear hsz hmz
              obtain ⟨y0, y1, y2, y3, y4, y5, y6, y7⟩ := s'
              obtain ⟨z0, z1, z2, z3, z4, z5, z6, z7⟩ := sz
              unfold Sd.cs at HBT
              dsimp only at HCS HBT HMN HGS
              obtain ⟨⟨d0, d1, d2⟩, d3, d4⟩ := cells5 HF.out.dbox
              go_upto_region 16 with (fail)
              go_cut [10, 11] (fun s10 s11 wx => ∃ (g : Nat) (ma : Option Addr) (mn mc : Nat), s10 = .pointer (some ⟨g, 0, none⟩) ∧ s11 = .slice ma mn mc ∧ Hid (wx.heap[g]? = some (.cells #[.int .i64 z0, .int .i64 z1, .int .i64 z2, .bool z3, .bool z4, .bool z5, .bool z6, .bool z7] 53 (0, 0))) ∧ Hid (Sl wx (.slice ma mn mc) mz) ∧ Hid (Ext wr wx) ∧ wr.heap.size ≤ g)
              case first =>
                clear d0 d1 d2 d3 d4
                (refine wp_region_X_lit (K := fun V => Ext wr V) (by kernel_rfl) (fun w1 hw1 => ?_))
                have HV1 : Hid (Ext wr w1) := Lib.hid hw1
                clear hw1
                refine xtv 0 (hv := by intro w' hw'; obtain ⟨⟨d0, d1, d2⟩, d3, d4⟩ := cells5 (keepU HF.out.dbox hw'); go_simp; first | done | with_reducible rfl) (h := ?_)
                refine xtv 1 (h := ?_)
                refine xtv 2 (h := ?_)
                refine xtv 3 (hv := by intro w' hw'; obtain ⟨⟨d0, d1, d2⟩, d3, d4⟩ := cells5 (keepU HF.out.dbox hw'); go_simp; first | done | with_reducible rfl) (h := ?_)
                refine xtv 4 (h := ?_)
                refine xtv 5 (h := ?_)
                refine xtv 6 (hv := by intro w' hw'; obtain ⟨⟨⟨x0, x1⟩, x2, x3⟩, ⟨x4, x5⟩, x6, x7⟩ := HCS.out w' hw'; go_simp; first | done | with_reducible rfl) (h := ?_)
                refine xtwo 7 11 (hk := HV1.out) (h := RunX.of 7 (h := ?_)) (h' := RunX.of 11 (h := ?_))
                · go_simp
                  refine (HBT.out w1 HV1.out).mono ?_
                  rintro e6 w6 ⟨vl, rfl, sl6, x6⟩
                  obtain ⟨ma, mc, rfl⟩ := sl6.len
                  have Y6 : Hid (Ext wr w6) := Lib.hid (Ext.trans HV1.out x6)
                  have SL6 := Lib.hid sl6
                  clear x6 sl6
                  dsimp only
                  (try (simp only [Act.put, List.setIfInBounds_toArray, List.set]))
                  refine xtv 8 (h := ?_)
                  refine xtv 9 (h := ?_)
                  refine xtv 10 (h := ?_)
                  refine xone 11 (hk := Y6.out) (h := RunX.of 11 (h := ?_))
                  go_simp
                  (try (simp only [Act.put, List.setIfInBounds_toArray, List.set]))
                  obtain ⟨W7, hW7⟩ : ∃ W7, W7 = w6.alloc (.cells #[.int .i64 0, .int .i64 0, .int .i64 0, .bool false, .bool false, .bool false, .bool false, .bool false] 53) := ⟨_, rfl⟩
                  have Y7 : Hid (Ext wr W7) := Lib.hid (hW7 ▸ Y6.out.alloc _)
                  have B7 : Hid (W7.heap[w6.heap.size]? = some (.cells #[.int .i64 0, .int .i64 0, .int .i64 0, .bool false, .bool false, .bool false, .bool false, .bool false] 53 (0, 0))) := Lib.hid (hW7 ▸ at0 w6 _)
                  have SLM := Lib.hid (hW7 ▸ SL6.out.alloc _ : Sl W7 (.slice ma mz.length mc) mz)
                  have HLW : Hid (mz = [] ∨ ∀ b, (Value.slice ma mz.length mc).ownBlock = some b → b ≠ w6.heap.size) := Lib.hid (SL6.out.low.imp (fun h => h) fun h b hb => by have := h b hb; omega)
                  have hg7 : wr.heap.size ≤ w6.heap.size := Below.size Y6.out
                  rw [← hW7]
                  clear hW7
                  refine xone 12 (hk := Y7.out) (h := RunX.of 12 (h := ?_))
                  refine wp_st 53 (.tmp 10) (.tmp 82) rfl w6.heap.size 0 53 #[.int .i64 0, .int .i64 0, .int .i64 0, .bool false, .bool false, .bool false, .bool false, .bool false] #[.int .i64 z0, .int .i64 z1, .int .i64 z2, .bool z3, .bool z4, .bool z5, .bool z6, .bool z7] #[.int .i64 z0, .int .i64 z1, .int .i64 z2, .bool z3, .bool z4, .bool z5, .bool z6, .bool z7] rfl rfl B7.out (by kernel_rfl) (by simp) rfl rfl ?_
                  intro WB hWB oB
                  simp only [Act.put]
                  have YB : Hid (Ext wr WB) := Lib.hid (ext_off Y7.out oB (fun b hb => by omega))
                  have RB := Lib.hid hWB
                  have SB := Lib.hid (SLM.out.off (HLW.out.imp (fun h => h) fun h b hb => h b hb) oB)
                  clear hWB oB
                  refine xtv 13 (h := ?_)
                  (refine xdone (by kernel_rfl) (YB.out) ?_)
                  go_wp2_with fail
                  go_meet
                  exact ⟨_, _, _, _, rfl, rfl, RB, SB, YB, hg7⟩
                · go_simp
                  (try (simp only [Act.put, List.setIfInBounds_toArray, List.set]))
                  obtain ⟨W7, hW7⟩ : ∃ W7, W7 = w1.alloc (.cells #[.int .i64 0, .int .i64 0, .int .i64 0, .bool false, .bool false, .bool false, .bool false, .bool false] 53) := ⟨_, rfl⟩
                  have Y7 : Hid (Ext wr W7) := Lib.hid (hW7 ▸ HV1.out.alloc _)
                  have B7 : Hid (W7.heap[w1.heap.size]? = some (.cells #[.int .i64 0, .int .i64 0, .int .i64 0, .bool false, .bool false, .bool false, .bool false, .bool false] 53 (0, 0))) := Lib.hid (hW7 ▸ at0 w1 _)
                  have hg7 : wr.heap.size ≤ w1.heap.size := Below.size HV1.out
                  rw [← hW7]
                  clear hW7
                  refine xone 7 (hk := Y7.out) (h := RunX.of 7 (h := ?_))
                  go_simp
                  refine (HBT.out W7 Y7.out).mono ?_
                  rintro e6 w6 ⟨vl, rfl, sl6, x6⟩
                  obtain ⟨ma, mc, rfl⟩ := sl6.len
                  have Y6 : Hid (Ext wr w6) := Lib.hid (Ext.trans Y7.out x6)
                  have B6 : Hid (w6.heap[w1.heap.size]? = some (.cells #[.int .i64 0, .int .i64 0, .int .i64 0, .bool false, .bool false, .bool false, .bool false, .bool false] 53 (0, 0))) := Lib.hid (keepU B7.out x6)
                  have SLM := Lib.hid sl6
                  have HLW := Lib.hid (apartMl SLM.out B6.out (by simp))
                  clear x6 sl6
                  dsimp only
                  (try (simp only [Act.put, List.setIfInBounds_toArray, List.set]))
                  refine xtv 8 (h := ?_)
                  refine xtv 9 (h := ?_)
                  refine xtv 10 (h := ?_)
                  refine xone 12 (hk := Y6.out) (h := RunX.of 12 (h := ?_))
                  refine wp_st 53 (.tmp 10) (.tmp 82) rfl w1.heap.size 0 53 #[.int .i64 0, .int .i64 0, .int .i64 0, .bool false, .bool false, .bool false, .bool false, .bool false] #[.int .i64 z0, .int .i64 z1, .int .i64 z2, .bool z3, .bool z4, .bool z5, .bool z6, .bool z7] #[.int .i64 z0, .int .i64 z1, .int .i64 z2, .bool z3, .bool z4, .bool z5, .bool z6, .bool z7] rfl rfl B6.out (by kernel_rfl) (by simp) rfl rfl ?_
                  intro WB hWB oB
                  simp only [Act.put]
                  have YB : Hid (Ext wr WB) := Lib.hid (ext_off Y6.out oB (fun b hb => by omega))
                  have RB := Lib.hid hWB
                  have SB := Lib.hid (SLM.out.off HLW.out oB)
                  clear hWB oB
                  refine xtv 13 (h := ?_)
                  (refine xdone (by kernel_rfl) (YB.out) ?_)
                  go_wp2_with fail
                  go_meet
                  exact ⟨_, _, _, _, rfl, rfl, RB, SB, YB, hg7⟩
              case rest =>
                obtain ⟨g, ma, mn, mc, rfl, rfl, HG, HM, HXC, hg⟩ := hcut
                clear d0 d1 d2 d3 d4 HBT
                have HF2 := Lib.hid (HF.out.ext' HXC.out)
                obtain ⟨⟨d0, d1, d2⟩, d3, d4⟩ := cells5 HF2.out.dbox
                obtain ⟨⟨⟨x0, x1⟩, x2, x3⟩, ⟨x4, x5⟩, x6, x7⟩ := cells8U HG.out
                have HST := Lib.hid (refSet_any wc fi fp _ G k ⟨z0, z1, z2, z3, z4, z5, z6, z7⟩ HF2.out.sides hkG HG10.out)
                unfold Sd.cs at HST
                dsimp only at HST
                have hzw : wr.heap.size ≤ wc.heap.size := Below.size HXC.out
                have hgc : g < wc.heap.size := blk_lt HG.out
                have hww : w.heap.size + 2 ≤ wr.heap.size := by have := blk_lt HF.out.rbox; omega
                go_wp2_with (first
                  | (go_at_call 45; refine HST.out.mono ?_; rintro e w7 ⟨v7, rfl, o7, x7⟩; obtain ⟨a7, n7, c7, rfl⟩ := o7.sh; have O7 := Lib.hid o7; have X7 : Hid (Ext wc w7) := Lib.hid x7; clear o7 x7)
                  | refine haltst 25 ?_)
                refine .inl ?_
                refine st_l 25 (.tmp 89) (.tmp 88) w.heap.size 0 29 #[.int .i64 fi, .int .i64 fp, .slice (some ⟨b1, off, none⟩) G.length fc, .int .i64 th, .slice na N.length nc] #[.int .i64 fi, .int .i64 fp, .slice a7 n7 c7] #[.int .i64 fi, .int .i64 fp, .slice a7 n7 c7, .int .i64 th, .slice na N.length nc] rfl rfl (keepU HF2.out.dbox X7.out) (by kernel_rfl) (by simp) rfl rfl ?_
                intro W8 hW8 o8
                simp only [Act.put]
                have F8 := Lib.hid (HF.out.sidesNew (HXC.out.trans X7.out) (O7.out.mono hzw) hW8 o8)
                rw [HGS.out] at F8
                have SM8 := Lib.hid ((HM.out.ext X7.out).off ((apartMl (HM.out.ext X7.out) (keepU HF2.out.dbox X7.out) (by simp)).imp (fun h => h) fun h => h) o8)
                have G8 : Hid (W8.heap[g]? = some (.cells #[.int .i64 z0, .int .i64 z1, .int .i64 z2, .bool z3, .bool z4, .bool z5, .bool z6, .bool z7] 53 (0, 0))) := Lib.hid ((o8.block g (blk_lt (keepU HG.out X7.out)) (by omega)).trans (keepU HG.out X7.out))
                have HVG : Hid ((Value.slice oa on oc).ownBlock ≠ some g) := Lib.hid (fun e => by have := (HF.out.out.low g e).2; omega)
                obtain ⟨mw, rfl⟩ : ∃ c, mn = c := ⟨_, rfl⟩
                have hmn : mn = mz.length := by obtain ⟨_, _, e⟩ := HM.out.len; simp only [Value.slice.injEq] at e; exact e.2.1
                have HN7 : Hid (∀ b, (Value.slice a7 n7 c7).ownBlock = some b → w.heap.size ≤ b) := Lib.hid (fun b hb => by have := (O7.out.low b hb).1; omega)
                have hz8 : w.heap.size + 2 ≤ W8.heap.size := by have := blk_lt F8.out.rbox; omega
                clear hW8 o8 d0 d1 d2 d3 d4 x0 x1 x2 x3 x4 x5 x6 x7 HST O7 HF2
                subst hmn
                have hml : (M0 ++ sentK fi th N F k).length + mz.length ≤ 8000 := by have := HML.out; have := HMZ.out; omega
                go_upto_region 19 with (first
                  | (at_builtin; refine wpList_append_sl (α := Ml) rfl (.tmp 90) (.tmp 91) rfl (w.heap.size + 2) (.slice oa on oc) (M0 ++ sentK fi th N F k) rfl ?_ (.slice ma mz.length mc) mz rfl ?_ ?_ ?_ ?_; exact F8.out.out; exact SM8.out; (first | omega | (simp; omega)); omega; intro v9 W9 ho9 ha9; obtain ⟨a9, n9, c9, rfl⟩ := ho9.sh; have F9 := Lib.hid (F8.out.more ho9 ha9); have G9 : Hid (W9.heap[g]? = some (.cells #[.int .i64 z0, .int .i64 z1, .int .i64 z2, .bool z3, .bool z4, .bool z5, .bool z6, .bool z7] 53 (0, 0))) := Lib.hid ((ha9.grown.block g (blk_lt G8.out) (fun e => HVG.out e.symm)).trans G8.out); clear ho9 ha9))
                rw [List.append_assoc, ← HSN.out] at F9
                obtain ⟨⟨d0, d1, d2⟩, d3, d4⟩ := cells5 F9.out.dbox
                obtain ⟨⟨⟨x0, x1⟩, x2, x3⟩, ⟨x4, x5⟩, x6, x7⟩ := cells8U G9.out
                clear x1 x2 x3 x4 x5 x7 F8 G8 SM8
                obtain ⟨nd, hnd⟩ : ∃ nd, decide (z0 ∈ N) = nd := ⟨_, rfl⟩
                have HH := Lib.hid (refHas_val W9 _ N z0 (HN.out.ext F9.out.ext) nd hnd)
                have HM9 : Hid (missK th N F (k + 1) = (ms || (nd && !z6))) := Lib.hid (by rw [HMN.out, HMS.out, hnd])
                clear hnd HMN HMS
                cases ms
                · cases nd
                  · go_wp2_with (first
                      | (go_at_call 26; refine HH.out.mono ?_; rintro e w10 ⟨rfl, rfl⟩))
                    go_roundw
                    case rel => exact ⟨k + 1, _, _, _, _, _, _, by omega, by go_num, rfl, by rw [HM9.out]; rfl, F9, Lib.hid (.inr HN7.out)⟩
                    case measure => simp [intOf]; omega
                  · go_wp2_with (first
                      | (go_at_call 26; refine HH.out.mono ?_; rintro e w10 ⟨rfl, rfl⟩))
                    go_roundw
                    case rel => exact ⟨k + 1, _, _, _, _, _, _, by omega, by go_num, rfl, by rw [HM9.out]; simp, F9, Lib.hid (.inr HN7.out)⟩
                    case measure => simp [intOf]; omega
                · go_wp2_with fail
                  go_roundw
                  case rel => exact ⟨k + 1, _, _, _, _, _, _, by omega, by go_num, rfl, by rw [HM9.out]; rfl, F9, Lib.hid (.inr HN7.out)⟩
                  case measure => simp [intOf]; omega
            · have hkl : k = F.length := by omega
              have HMF : Hid (missB N (F.map (bottleS th N)) = ms) := Lib.hid (by have := HMS.out; rw [hkl] at this; unfold missK at this; rw [List.take_length] at this; exact this)
              have FF : Hid (OnceAt w fi fp th (.slice na N.length nc) (.slice fa fn fc) (F.map (bottleS th N)) (.slice oa on oc) (M0 ++ F.flatMap (bottleM fi th N)) wr) := Lib.hid (by
                have := HF.out
                rw [hkl, goneK_end] at this
                unfold sentK at this
                rw [List.take_length] at this
                exact this)
              have HNE : Hid (F.map (bottleS th N) = [] ∨ ∀ b, (Value.slice fa fn fc).ownBlock = some b → w.heap.size ≤ b) := Lib.hid (by
                rcases HNW.out with e | e
                · left; have : F = [] := List.eq_nil_of_length_eq_zero (by omega); rw [this]; rfl
                · exact .inr e)
              have hfn : fn = F.length := by obtain ⟨_, _, e⟩ := FF.out.sides.len; simp only [Value.slice.injEq, List.length_map] at e; exact e.2.1
              have hkf : ¬ k < fn := by omega
              obtain ⟨⟨d0, d1, d2⟩, d3, d4⟩ := cells5 FF.out.dbox
              clear HF HMS hkl hfn hlt hk
              go_upto_region 20 with (fail)
              obtain ⟨th2, hth⟩ : ∃ t, (if th = 1 ∧ ms = false then (2 : Int) else th) = t := ⟨_, rfl⟩
              have HT2 := Lib.hid hth
              have HR2 : Hid (onceK ⟨fi, ph, L, th, N⟩ = (⟨fi, fp, F.map (bottleS th N), th2, N⟩, M0 ++ F.flatMap (bottleM fi th N))) := Lib.hid (by rw [HR.out, HMF.out, hth])
              clear hth
              have f3 := blk_free FF.out.dbox 3
              by_cases e1 : th = 1
              · cases ms
                · have e2 : th2 = 2 := by rw [← HT2.out, if_pos ⟨e1, rfl⟩]
                  subst e2
                  have t1 : (th == 1) = true := by simp [e1]
                  clear e1
                  go_upto_region 22 with (fail)
                  obtain ⟨W5, hW5⟩ : ∃ W5, W5 = wr.setCell ⟨w.heap.size, 3, none⟩ (.int .i64 2) := ⟨_, rfl⟩
                  have FE := Lib.hid (hW5 ▸ FF.out.thirst 2)
                  rw [← hW5]
                  clear hW5 d0 d1 d2 d3 d4 f3
                  obtain ⟨⟨d0, d1, d2⟩, d3, d4⟩ := cells5 FE.out.dbox
                  go_wp2_with (first | refine haltst 29 ?_)
                  refine .inl ?_
                  refine st_l 29 (.tmp 2) (.tmp 114) (w.heap.size + 1) 0 29 #[.int .i64 0, .int .i64 0, .slice none 0 0, .int .i64 0, .slice none 0 0] #[.int .i64 fi, .int .i64 fp, .slice fa fn fc, .int .i64 2, .slice na N.length nc] #[.int .i64 fi, .int .i64 fp, .slice fa fn fc, .int .i64 2, .slice na N.length nc] rfl rfl FE.out.rbox (by kernel_rfl) (by simp) rfl rfl ?_
                  intro W9 hW9 o9
                  simp only [Act.put]
                  go_wp2
                  exact bodyPost_ret (v := .tuple #[.agg #[.int .i64 fi, .int .i64 fp, .slice fa fn fc, .int .i64 2, .slice na N.length nc], .slice oa on oc]) (res_ct 3 rfl rfl hW9 uDrinker (by kernel_rfl)) rfl (by
                    rw [HR2.out]
                    exact ⟨_, _, rfl, FE.out.sides.off (FE.out.av.imp (fun h => h) fun h b hb hf => h b hb (.inr (.inl hf))) o9, (owU FE.out.out (fun b hb => o9.block b (FE.out.out.low b hb).2 (by have := (FE.out.out.low b hb).1; omega))).sl, ext_off FE.out.ext o9 (fun b hb => by omega), HNE.out⟩)
                · have e2 : th2 = th := by rw [← HT2.out, if_neg (by simp)]
                  subst e2
                  have t1 : (th2 == 1) = true := by simp [e1]
                  have FE := FF
                  clear e1 d0 d1 d2 d3 d4
                  obtain ⟨⟨d0, d1, d2⟩, d3, d4⟩ := cells5 FE.out.dbox
                  go_wp2_with (first | refine haltst 29 ?_)
                  refine .inl ?_
                  refine st_l 29 (.tmp 2) (.tmp 114) (w.heap.size + 1) 0 29 #[.int .i64 0, .int .i64 0, .slice none 0 0, .int .i64 0, .slice none 0 0] #[.int .i64 fi, .int .i64 fp, .slice fa fn fc, .int .i64 th2, .slice na N.length nc] #[.int .i64 fi, .int .i64 fp, .slice fa fn fc, .int .i64 th2, .slice na N.length nc] rfl rfl FE.out.rbox (by kernel_rfl) (by simp) rfl rfl ?_
                  intro W9 hW9 o9
                  simp only [Act.put]
                  go_wp2
                  exact bodyPost_ret (v := .tuple #[.agg #[.int .i64 fi, .int .i64 fp, .slice fa fn fc, .int .i64 th2, .slice na N.length nc], .slice oa on oc]) (res_ct 3 rfl rfl hW9 uDrinker (by kernel_rfl)) rfl (by
                    rw [HR2.out]
                    exact ⟨_, _, rfl, FE.out.sides.off (FE.out.av.imp (fun h => h) fun h b hb hf => h b hb (.inr (.inl hf))) o9, (owU FE.out.out (fun b hb => o9.block b (FE.out.out.low b hb).2 (by have := (FE.out.out.low b hb).1; omega))).sl, ext_off FE.out.ext o9 (fun b hb => by omega), HNE.out⟩)
              · have e2 : th2 = th := by rw [← HT2.out, if_neg (fun h => e1 h.1)]
                subst e2
                have t1 : (th2 == 1) = false := by simp [e1]
                have FE := FF
                clear e1 d0 d1 d2 d3 d4
                obtain ⟨⟨d0, d1, d2⟩, d3, d4⟩ := cells5 FE.out.dbox
                go_wp2_with (first | refine haltst 29 ?_)
                refine .inl ?_
                refine st_l 29 (.tmp 2) (.tmp 114) (w.heap.size + 1) 0 29 #[.int .i64 0, .int .i64 0, .slice none 0 0, .int .i64 0, .slice none 0 0] #[.int .i64 fi, .int .i64 fp, .slice fa fn fc, .int .i64 th2, .slice na N.length nc] #[.int .i64 fi, .int .i64 fp, .slice fa fn fc, .int .i64 th2, .slice na N.length nc] rfl rfl FE.out.rbox (by kernel_rfl) (by simp) rfl rfl ?_
                intro W9 hW9 o9
                simp only [Act.put]
                go_wp2
                exact bodyPost_ret (v := .tuple #[.agg #[.int .i64 fi, .int .i64 fp, .slice fa fn fc, .int .i64 th2, .slice na N.length nc], .slice oa on oc]) (res_ct 3 rfl rfl hW9 uDrinker (by kernel_rfl)) rfl (by
                  rw [HR2.out]
                  exact ⟨_, _, rfl, FE.out.sides.off (FE.out.av.imp (fun h => h) fun h b hb hf => h b hb (.inr (.inl hf))) o9, (owU FE.out.out (fun b hb => o9.block b (FE.out.out.low b hb).2 (by have := (FE.out.out.low b hb).1; omega))).sl, ext_off FE.out.ext o9 (fun b hb => by omega), HNE.out⟩)
end Go.Proofs.Ytpjpjchnfllcmaa
