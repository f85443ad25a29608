/- Texts of this seat. -/
import Derived.Test.YtfbambemjokmgaaGreatNAS
namespace Go.Proofs.YtfbambemjokmgaaGreat
open Go.RowKit
set_option maxRecDepth 100000 in
set_option maxHeartbeats 4000000 in
theorem send_any (W : World) (go gd : Nat) (id ph kd : Int) (sv ov : Value) (M : List Ml) (s : Sd) (hd : W.heap[gd]? = some (.cells #[.int .i64 id, .int .i64 ph, sv] 61 (0, 0))) (ho : W.heap[go]? = some (.cells #[ov] 23 (0, 0))) (hw : Ow W (go + 1) ov M) (hl : M.length ≤ 5000) :
    Calls Tryz.prog 202 #[.agg s.cs, .int .i64 kd, .pointer (some ⟨go, 0, none⟩), .pointer (some ⟨gd, 0, none⟩)] W fun e W' => e = .returned (.tuple #[]) ∧ ∃ ov', W'.heap[go]? = some (.cells #[ov'] 23 (0, 0)) ∧ Ow W' (go + 1) ov' (M ++ [⟨id, s.peer, kd, s.epoch, 0⟩]) ∧ Off (fun i => i = go ∨ ov.ownBlock = some i) W W' ∧ (ov'.ownBlock = ov.ownBlock ∨ ∀ b, ov'.ownBlock = some b → W.heap.size ≤ b) := by
  obtain ⟨fo, fn, fc, rfl⟩ := hw.sh
  obtain ⟨y0, y1, y2, y3, y4, y5, y6, y7⟩ := s
  unfold Sd.cs
  dsimp only
  obtain ⟨W1, hW1⟩ : ∃ W1, W1 = W.alloc (.cells #[.int .i64 y0, .int .i64 y1, .int .i64 y2, .bool y3, .bool y4, .bool y5, .bool y6, .bool y7] 66) := ⟨_, rfl⟩
  have X1 : Hid (Ext W W1) := Lib.hid (hW1 ▸ (Ext.refl W).alloc _)
  have d1 : W1.heap[W.heap.size]? = some (.cells #[.int .i64 y0, .int .i64 y1, .int .i64 y2, .bool y3, .bool y4, .bool y5, .bool y6, .bool y7] 66 (0, 0)) := hW1 ▸ at0 W _
  have hgo : go < W.heap.size := blk_lt ho
  have hs1 : W1.heap.size = W.heap.size + 1 := by rw [hW1, size_alloc]
  have HW1 := Lib.hid hW1
  have HO := Lib.hid (keepU ho X1.out)
  have HD := Lib.hid (keepU hd X1.out)
  have HOW := Lib.hid (hw.ext X1.out)
  have x0 := blk_cell d1 0 rfl
  have x1 := blk_cell d1 1 rfl
  have k0 := blk_cell HO.out 0 rfl
  have k1 := blk_cell HD.out 0 rfl
  clear ho hd hw hW1 d1
  go_enter Tryz.func202, Tryz.ntmps202
  go_upto_region 1 with (fail)
  rw [← HW1.out]
  go_wp2_with (first
    | (at_builtin; refine wpList_append_sl (α := Ml) rfl (.tmp 6) (.tmp 16) rfl (go + 1) (.slice fo fn fc) M rfl ?_ (.slice (some ⟨_, 0, none⟩) 1 1) [(⟨id, y0, kd, y1, 0⟩ : Ml)] rfl ?_ ?_ ?_ ?_; exact (HOW.out.alloc _); exact (Sl.litAt W1 _ hs1.symm [(⟨id, y0, kd, y1, 0⟩ : Ml)] (show (1 : Nat) ≤ 1000000 by decide)); (first | omega | (simp; omega)); (rw [size_alloc]; omega); intro v2 W7 ho2 ha2; obtain ⟨a2, n2, c2, rfl⟩ := ho2.sh; have O2 := Lib.hid ho2; have A2 := Lib.hid ha2; have b2 := (ha2.below.block go (by omega)).trans (old1 HO.out _); have B2 := Lib.hid b2; have c7 := blk_cell b2 0 rfl; have f7 := blk_free b2 0; clear ho2 ha2 b2))
  refine bodyPost_end (results_none rfl _ _ _) rfl ?_
  refine ⟨rfl, .slice a2 n2 c2, blk_set B2.out 0 _, O2.out.set (by show go < go + 1; omega) _, ?_, ?_⟩
  · have o1 : Off (fun i => i = go ∨ (Value.slice fo fn fc).ownBlock = some i) W (W1.alloc (.cells #[.int .i64 id, .int .i64 y0, .int .i64 kd, .int .i64 y1, .int .i64 0] 95)) := Off.of_ext (Ext.alloc X1.out _)
    have o2 : Off (fun i => i = go ∨ (Value.slice fo fn fc).ownBlock = some i) (W1.alloc (.cells #[.int .i64 id, .int .i64 y0, .int .i64 kd, .int .i64 y1, .int .i64 0] 95)) W7 := (off_grown A2.out.grown).mono fun i hi => .inr hi
    exact (o1.trans o2 (Grows.refl _ _)).trans ((off_set W7 ⟨go, 0, none⟩ _).mono fun i hi => .inl hi) (Grows.refl _ _)
  · rcases A2.out.block with h | h
    · exact .inl h
    · exact .inr fun b hb => by have := h b hb; rw [size_alloc] at this; omega
set_option maxRecDepth 100000 in
set_option maxHeartbeats 2000000 in
theorem lacks_one (W : World) (s : Sd) : Calls Tryz.prog 210 #[.agg s.cs] W fun e W' => e = .returned (.bool (!s.fork)) ∧ Ext W W' := by
  obtain ⟨y0, y1, y2, y3, y4, y5, y6, y7⟩ := s
  unfold Sd.cs
  dsimp only
  have x3 := blk_cell (at0 W (.cells #[.int .i64 y0, .int .i64 y1, .int .i64 y2, .bool y3, .bool y4, .bool y5, .bool y6, .bool y7] 66)) 3 rfl
  have HX : Hid (Ext W (W.alloc (.cells #[.int .i64 y0, .int .i64 y1, .int .i64 y2, .bool y3, .bool y4, .bool y5, .bool y6, .bool y7] 66))) := Lib.hid ((Ext.refl W).alloc _)
  go_enter Tryz.func210, Tryz.ntmps210
  go_wp2
  go_ret
  exact ⟨rfl, HX.out⟩
theorem contains_lacks (w : World) (v : Value) (L : List Sd) (h : Sl w v L) (t : Bool) (ht : L.all (·.fork) = t) :
    Calls Tryz.prog 142 #[v, .func (.func 210) #[] #[]] w fun e w' => e = .returned (.bool (!t)) ∧ Ext w w' := by
  refine (containsFunc_sd w v L 210 #[] (fun _ V => Ext w V) (fun _ s => !s.fork) (enters_of Tryz.func210 (by kernel_rfl) rfl) (fun _ W hW => h.ext hW) ?_ (Ext.refl w) (!t) ?_ ?_).mono ?_
  · intro i s W hi hW
    refine (lacks_one W s).mono ?_
    rintro e W' ⟨rfl, hx⟩
    exact ⟨rfl, Ext.trans hW hx⟩
  · intro hall
    have : L.all (·.fork) = true := by
      rw [List.all_eq_true]
      intro s hs
      obtain ⟨k, hk⟩ := List.getElem?_of_mem hs
      have := hall k s hk
      simpa using this
    rw [← ht, this]; rfl
  · intro k s hk hp _
    have : L.all (·.fork) = false := by
      rw [List.all_eq_false]
      exact ⟨s, List.mem_of_getElem? hk, by simpa using hp⟩
    rw [← ht, this]; rfl
  · rintro e w' ⟨rfl, _, hx⟩
    exact ⟨rfl, hx⟩
theorem cellsOf_set1 {α : Type} [Elem α] (i : Nat) (u : Value) (x' : α) : ∀ (xs : List α) (k : Nat) (x : α), xs[k]? = some x → i < Elem.k α → Elem.enc x' = (Elem.enc x).set i u → cellsOf (xs.set k x') = (cellsOf xs).set (k * Elem.k α + i) u
  | [], _, _, h, _, _ => by simp at h
  | y :: ys, 0, x, h, hi, he => by
    obtain rfl : y = x := by simpa using h
    show Elem.enc x' ++ cellsOf ys = (Elem.enc y ++ cellsOf ys).set (0 * Elem.k α + i) u
    rw [he, Nat.zero_mul, Nat.zero_add, List.set_append_left _ _ (by rw [Elem.len]; exact hi)]
  | y :: ys, k + 1, x, h, hi, he => by
    have ih := cellsOf_set1 i u x' ys k x (by simpa using h) hi he
    show Elem.enc y ++ cellsOf (ys.set k x') = (Elem.enc y ++ cellsOf ys).set ((k + 1) * Elem.k α + i) u
    have hl := Elem.len y
    rw [ih, Nat.succ_mul, List.set_append_right _ _ (by omega), hl, show k * Elem.k α + Elem.k α + i - Elem.k α = k * Elem.k α + i from by omega]
theorem Ow.setCell1 {α : Type} [Elem α] {w : World} {B : Nat} {b off n c k i : Nat} {xs : List α} {x x' : α} {u : Value} (h : Ow w B (.slice (some ⟨b, off, none⟩) n c) xs) (hk : xs[k]? = some x) (hi : i < Elem.k α) (he : Elem.enc x' = (Elem.enc x).set i u) :
    off = 0 ∧ B ≤ b ∧ w.frozen? ⟨b, off + k * Elem.k α + i, none⟩ = false ∧ Ow (w.setCell ⟨b, off + k * Elem.k α + i, none⟩ u) B (.slice (some ⟨b, off, none⟩) n c) (xs.set k x') := by
  obtain ⟨h1, h2⟩ := h
  have hkl := (List.getElem?_eq_some_iff.1 hk).1
  rcases h2 with ⟨h2, h3⟩ | ⟨g, cap, cur, hv, hg, hh, hnc, hc63, hsz, htk⟩
  · rw [h3] at hkl; omega
  · simp only [Value.slice.injEq, Option.some.injEq, Addr.mk.injEq] at hv
    obtain ⟨⟨rfl, rfl, _⟩, rfl, rfl⟩ := hv
    refine ⟨rfl, hg, blk_free hh _, ?_, .inr ⟨b, c, cur.setIfInBounds (k * Elem.k α + i) u, ?_, hg, ?_, ?_, hc63, ?_, ?_⟩⟩
    · rw [cellsOf_length, List.length_set]
    · rw [List.length_set]
    · rw [Nat.zero_add]; exact blk_set hh _ _
    · rw [List.length_set]; exact hnc
    · rw [Array.size_setIfInBounds]; exact hsz
    · rw [cellsOf_set1 i u x' xs k x hk hi he, ← htk, List.length_set, Array.toList_setIfInBounds, List.take_set]
def seatD (d : Dn) : Dn := if eats d.phase d.sides = true then ⟨d.id, 2, dirtyAll d.sides⟩ else d
set_option maxRecDepth 100000 in
set_option maxHeartbeats 4000000 in
theorem seated_any (w : World) (B : Nat) (id ph : Int) (v : Value) (L : List Sd) (h : Ow w B v L) :
    Calls Tryz.prog 203 #[.agg #[.int .i64 id, .int .i64 ph, v]] w fun e w' => e = .returned (.agg #[.int .i64 (seatD ⟨id, ph, L⟩).id, .int .i64 (seatD ⟨id, ph, L⟩).phase, v]) ∧ Ow w' B v (seatD ⟨id, ph, L⟩).sides ∧ Off (fun b => v.ownBlock = some b) w w' := by
  obtain ⟨ao, c, rfl⟩ := h.sl.len
  have hlen := h.sl.length_le
  obtain ⟨W0, hW0⟩ : ∃ W0, W0 = (w.alloc (.cells #[.int .i64 id, .int .i64 ph, .slice ao L.length c] 61)).alloc (.cells #[.int .i64 0, .int .i64 0, .slice none 0 0] 61) := ⟨_, rfl⟩
  have X0 : Hid (Ext w W0) := Lib.hid (hW0 ▸ ((Ext.refl w).alloc _).alloc _)
  have D0 : Hid (W0.heap[w.heap.size]? = some (.cells #[.int .i64 id, .int .i64 ph, .slice ao L.length c] 61 (0, 0))) := Lib.hid (hW0 ▸ old1 (at0 w _) _)
  have R0 : Hid (W0.heap[w.heap.size + 1]? = some (.cells #[.int .i64 0, .int .i64 0, .slice none 0 0] 61 (0, 0))) := Lib.hid (hW0 ▸ at1 w _ _)
  have hs0 : W0.heap.size = w.heap.size + 2 := by rw [hW0, size_alloc, size_alloc]
  have HW0 := Lib.hid hW0
  have HO := Lib.hid (h.ext X0.out)
  have HLOW : Hid (∀ b, (Value.slice ao L.length c).ownBlock = some b → b < w.heap.size) := Lib.hid fun b hb => (h.low b hb).2
  obtain ⟨d0, d1, d2⟩ := cells3U D0.out
  clear h hW0
  obtain ⟨t, ht⟩ : ∃ t, L.all (·.fork) = t := ⟨_, rfl⟩
  have HCL := Lib.hid (fun W (hW : Ext W0 W) => contains_lacks W _ L (HO.out.sl.ext hW) t ht)
  have HT := Lib.hid ht
  clear ht
  obtain ⟨q, hq⟩ : ∃ q, (ph == 1 && t) = q := ⟨_, rfl⟩
  have HQ : Hid (eats ph L = q) := Lib.hid (by unfold eats; rw [HT.out, ← hq]; cases h : ph == 1 <;> simp_all)
  go_enter Tryz.func203, Tryz.ntmps203
  go_upto_region 2 with (fail)
  rw [← HW0.out]
  go_cut [13] (fun s13 wx => s13 = .bool (!q) ∧ Hid (Ext W0 wx))
  case first =>
    by_cases hp : ph = 1
    · have t1 : (ph != 1) = false := by simp [hp]
      have HB : Hid (t = q) := Lib.hid (by rw [← hq, hp]; simp)
      clear hp hq
      go_wp2_with (first
        | (go_at_call 142; refine (HCL.out W0 (Ext.refl _)).mono ?_; rintro e w1 ⟨rfl, hx⟩; have X1 : Hid (Ext W0 w1) := Lib.hid hx; clear hx))
      go_meet
      exact ⟨by rw [HB.out], X1⟩
    · have t1 : (ph != 1) = true := by simp [hp]
      have HB : Hid (false = q) := Lib.hid (by rw [← hq]; simp [hp])
      clear hp hq
      go_wp2_with fail
      go_meet
      exact ⟨by rw [← HB.out]; rfl, Lib.hid (Ext.refl _)⟩
  case rest =>
    obtain ⟨rfl, HX⟩ := hcut
    clear d0 d1 d2
    obtain ⟨d0, d1, d2⟩ := cells3U (keepU D0.out HX.out)
    cases q
    · have HR : Hid (seatD ⟨id, ph, L⟩ = ⟨id, ph, L⟩) := Lib.hid (by unfold seatD; rw [if_neg (by show ¬ eats ph L = true; rw [HQ.out]; simp)])
      go_upto_region 3 with (fail)
      go_wp2_with (first | refine haltst 61 ?_)
      refine .inl ?_
      refine st_l 61 (.tmp 2) (.tmp 14) (w.heap.size + 1) 0 61 #[.int .i64 0, .int .i64 0, .slice none 0 0] #[.int .i64 id, .int .i64 ph, .slice ao L.length c] #[.int .i64 id, .int .i64 ph, .slice ao L.length c] rfl rfl (keepU R0.out HX.out) (by kernel_rfl) (by simp) rfl rfl ?_
      intro W9 hW9 o9
      simp only [Act.put]
      go_wp2
      exact bodyPost_ret (v := .agg #[.int .i64 id, .int .i64 ph, .slice ao L.length c]) (res_c rfl rfl hW9 uDiner (by kernel_rfl)) rfl (by
        rw [HR.out]
        exact ⟨rfl, owU (HO.out.ext HX.out) (fun b hb => o9.block b (Nat.lt_of_lt_of_le (HLOW.out b hb) (Nat.le_trans (by omega) (Below.size (X0.out.trans HX.out)))) (by have := HLOW.out b hb; omega)), Off.of_ext (ext_off (X0.out.trans HX.out) o9 (fun b hb => by omega))⟩)
    · have HR : Hid (seatD ⟨id, ph, L⟩ = ⟨id, 2, dirtyAll L⟩) := Lib.hid (by unfold seatD; rw [if_pos (by show eats ph L = true; exact HQ.out)])
      have f1 := blk_free (keepU D0.out HX.out) 1
      clear hq
      go_upto_region 4 with (fail)
      go_upto_region 5 with (fail)
      obtain ⟨W3, hW3⟩ : ∃ W3, W3 = wc.setCell ⟨w.heap.size, 1, none⟩ (.int .i64 2) := ⟨_, rfl⟩
      have D3 : Hid (W3.heap[w.heap.size]? = some (.cells #[.int .i64 id, .int .i64 2, .slice ao L.length c] 61 (0, 0))) := Lib.hid (by rw [hW3, blk_set (keepU D0.out HX.out)]; rfl)
      have R3 : Hid (W3.heap[w.heap.size + 1]? = some (.cells #[.int .i64 0, .int .i64 0, .slice none 0 0] 61 (0, 0))) := Lib.hid (by rw [hW3, set_other _ _ _ _ (by show w.heap.size + 1 ≠ w.heap.size; omega)]; exact keepU R0.out HX.out)
      have X3 : Hid (Ext w W3) := Lib.hid (hW3 ▸ below_set (X0.out.trans HX.out) (Nat.le_refl _) _)
      have O3 : Hid (Ow W3 B (.slice ao L.length c) L) := Lib.hid (owU (HO.out.ext HX.out) (fun b hb => by rw [hW3]; exact set_other _ _ _ _ (by have := HLOW.out b hb; show b ≠ w.heap.size; omega)))
      rw [← hW3]
      clear hW3 d0 d1 d2 f1
      obtain ⟨d0, d1, d2⟩ := cells3U D3.out
      go_wp2
      go_loopw [19] (fun i wr => ∃ k : Nat, k ≤ L.length ∧ i = .int .i64 k ∧ Hid (Ow wr B (.slice ao L.length c) ((L.take k).map (fun s : Sd => { s with dirty := true }) ++ L.drop k)) ∧ Hid (wr.heap[w.heap.size]? = some (.cells #[.int .i64 id, .int .i64 2, .slice ao L.length c] 61 (0, 0)) ∧ wr.heap[w.heap.size + 1]? = some (.cells #[.int .i64 0, .int .i64 0, .slice none 0 0] 61 (0, 0))) ∧ Hid (Off (fun b => (Value.slice ao L.length c).ownBlock = some b) w wr)) (fun i _ => L.length - (intOf i).toNat)
      case atStart => exact ⟨0, Nat.zero_le _, rfl, by simpa using O3, Lib.hid ⟨D3.out, R3.out⟩, Lib.hid (Off.of_ext X3.out)⟩
      case round =>
        obtain ⟨k, hk, rfl, HK, HB, HF⟩ := hrel
        clear d0 d1 d2
        obtain ⟨d0, d1, d2⟩ := cells3U HB.out.1
        by_cases hlt : k < L.length
        · obtain ⟨s, hsk⟩ : ∃ s, L[k]? = some s := ⟨_, List.getElem?_eq_getElem hlt⟩
          obtain ⟨ea1, ea2⟩ := eatK_at (fun s : Sd => { s with dirty := true }) L k s hsk
          obtain ⟨b1, off, s', hsy, hsj, hao, hn, hnc, hc63, hb, hcs⟩ := HK.out.sl.sidesAt (k := k) (by rw [ea2]; exact hlt)
          subst hao
          obtain rfl : s' = s := by have := hsj.symm.trans ea1; simpa using this
          obtain ⟨⟨⟨x0, x1⟩, x2, x3⟩, ⟨x4, x5⟩, x6, x7⟩ := hcs wr (Ext.refl _)
          obtain ⟨z1, z2, z3, z4⟩ := Ow.setCell1 (i := 4) (x' := { s' with dirty := true }) (u := .bool true) HK.out hsj (by decide) rfl
          rw [eatK (fun s : Sd => { s with dirty := true }) L k s' hsk] at z4
          change wr.frozen? ⟨b1, off + k * 8 + 4, none⟩ = false at z3
          have Z4 := Lib.hid z4
          have Z1 := Lib.hid z1
          have hbw : b1 < w.heap.size := HLOW.out b1 rfl
          clear hsy hsj hcs hn ea1 ea2 hsk z4 z1 z2
          go_wp2
          go_roundw
          case rel => exact ⟨k + 1, by omega, by go_num, Lib.hid Z4.out, Lib.hid ⟨(set_other _ _ _ _ (by show w.heap.size ≠ b1; omega)).trans HB.out.1, (set_other _ _ _ _ (by show w.heap.size + 1 ≠ b1; omega)).trans HB.out.2⟩, Lib.hid (HF.out.trans ((off_set wr _ _).mono fun b hb => by rw [hb]; rfl) (Grows.refl _ _))⟩
          case measure => simp [intOf]; omega
        · have hkl : k = L.length := by omega
          have OK : Hid (Ow wr B (.slice ao L.length c) (dirtyAll L)) := Lib.hid (by
            have := HK.out
            rw [hkl, List.take_length, List.drop_length, List.append_nil] at this
            exact this)
          clear HK hkl
          go_upto_region 10 with (fail)
          go_wp2_with (first | refine haltst 61 ?_)
          refine .inl ?_
          refine st_l 61 (.tmp 2) (.tmp 28) (w.heap.size + 1) 0 61 #[.int .i64 0, .int .i64 0, .slice none 0 0] #[.int .i64 id, .int .i64 2, .slice ao L.length c] #[.int .i64 id, .int .i64 2, .slice ao L.length c] rfl rfl HB.out.2 (by kernel_rfl) (by simp) rfl rfl ?_
          intro W9 hW9 o9
          simp only [Act.put]
          go_wp2
          exact bodyPost_ret (v := .agg #[.int .i64 id, .int .i64 2, .slice ao L.length c]) (res_c rfl rfl hW9 uDiner (by kernel_rfl)) rfl (by
            rw [HR.out]
            exact ⟨rfl, owU OK.out (fun b hb => o9.block b (Nat.lt_of_lt_of_le (HLOW.out b hb) HF.out.size) (by have := HLOW.out b hb; omega)), ⟨o9.os.trans HF.out.os, o9.tape.trans HF.out.tape, o9.output.trans HF.out.output, Nat.le_trans HF.out.size o9.size, fun b hb hn => (o9.block b (Nat.lt_of_lt_of_le hb HF.out.size) (by omega)).trans (HF.out.block b hb hn)⟩⟩)
end Go.Proofs.YtfbambemjokmgaaGreat
namespace Go.Proofs.YtfbambemjokmgaaGreat
section
variable {n : Nat} {nb : Nat → List Nat} {ep : Int} {X : Nat → Nat → Sd} {P : Nat → Int} {ms : List Ml} {i : Nat}
def act (n : Nat) (P : Nat → Int) : Nat := (List.range n).countP fun i => P i != 0
theorem act_same {P P' : Nat → Int} (h : ∀ i, i < n → (P' i = 0 ↔ P i = 0)) : act n P' = act n P := by
  unfold act
  refine List.countP_congr fun i hi => ?_
  have := h i (List.mem_range.1 hi)
  simp only [bne_iff_ne, ne_eq]
  rw [this]
theorem act_le (n : Nat) (P : Nat → Int) : act n P ≤ n := by
  unfold act
  have := List.countP_le_length (p := fun i => P i != 0) (l := List.range n)
  rwa [List.length_range] at this
theorem countP_one {α : Type} [DecidableEq α] {p q : α → Bool} {x : α} (hq : q x = true) (hp : p x = false) : ∀ {l : List α}, l.Nodup → (∀ y ∈ l, y ≠ x → p y = q y) → x ∈ l → l.countP p + 1 = l.countP q
  | [], _, _, hx => by cases hx
  | y :: l, hn, h, hx => by
    obtain ⟨h1, h2⟩ := List.nodup_cons.1 hn
    rw [List.countP_cons, List.countP_cons]
    by_cases e : y = x
    · subst e
      have : l.countP p = l.countP q := List.countP_congr fun z hz => by
        rw [h z (List.mem_cons_of_mem _ hz) (fun e => h1 (e ▸ hz))]
      rw [this, hq, hp]; simp
    · have ih := countP_one hq hp h2 (fun z hz => h z (List.mem_cons_of_mem _ hz)) ((List.mem_cons.1 hx).resolve_left fun e2 => e e2.symm)
      rw [h y (List.mem_cons_self ..) e]
      omega
theorem act_less {P P' : Nat → Int} (hi : i < n) (h : P i ≠ 0) (h' : P' i = 0) (hs : ∀ a, a ≠ i → P' a = P a) : act n P' + 1 = act n P := by
  unfold act
  refine countP_one (by simpa using h) (by simp [h']) List.nodup_range (fun a _ hne => by rw [hs a hne]) (List.mem_range.2 hi)
theorem act_none {P : Nat → Int} : act n P = 0 ↔ ∀ i, i < n → P i = 0 := by
  unfold act
  rw [List.countP_eq_zero]
  constructor
  · intro h i hi
    have := h i (List.mem_range.2 hi)
    simpa using this
  · intro h i hi
    have := h i (List.mem_range.1 hi)
    simp [this]
theorem EO.few {a b ep : Int} {x y : Sd} {mab mba : List Ml} {pa pb : Int} (h : EO a b ep x y mab mba pa pb) : mab.length + mba.length ≤ 2 := by
  rcases h with ⟨st, c⟩ | ⟨st, c⟩ <;> cases st with
  | f1 xf xt yt m n hb => rw [m, n]; simp
  | f2 xf xt yt m n hb hc => rw [m, n]; simp
  | f3 xf xt yt m n hb => rw [m, n]; simp
  | f4 xf xt yt m n hb ha => rw [m, n]; simp
  | f5 xf xt yt m n hb ha => rw [m, n]; simp
def tot (Es : List (Nat × Nat)) (ms : List Ml) : Nat := (Es.map fun e => (chan ms e.1 e.2).length + (chan ms e.2 e.1).length).sum
theorem chan_more (m : Ml) (ms : List Ml) (a b : Int) : (chan ms a b).length ≤ (chan (m :: ms) a b).length ∧ (m.from_ = a ∧ m.to_ = b → (chan ms a b).length + 1 = (chan (m :: ms) a b).length) := by
  unfold chan
  rw [List.filter_cons]
  constructor
  · split
    · rw [List.length_cons]; omega
    · exact Nat.le_refl _
  · intro h
    rw [if_pos (by simp [h.1, h.2]), List.length_cons]
theorem sum_le {α : Type} {f g : α → Nat} : ∀ {l : List α}, (∀ x ∈ l, f x ≤ g x) → (l.map f).sum ≤ (l.map g).sum
  | [], _ => Nat.le_refl _
  | x :: l, h => by
    rw [List.map_cons, List.map_cons, List.sum_cons, List.sum_cons]
    have := h x (List.mem_cons_self ..)
    have := sum_le (l := l) fun y hy => h y (List.mem_cons_of_mem _ hy)
    omega
theorem sum_lt {α : Type} {f g : α → Nat} {e : α} (he : f e < g e) : ∀ {l : List α}, (∀ x ∈ l, f x ≤ g x) → e ∈ l → (l.map f).sum < (l.map g).sum
  | [], _, hm => by cases hm
  | x :: l, h, hm => by
    rw [List.map_cons, List.map_cons, List.sum_cons, List.sum_cons]
    have h1 := h x (List.mem_cons_self ..)
    rcases List.mem_cons.1 hm with rfl | hm
    · have := sum_le (l := l) fun y hy => h y (List.mem_cons_of_mem _ hy)
      omega
    · have := sum_lt he (l := l) (fun y hy => h y (List.mem_cons_of_mem _ hy)) hm
      omega
theorem len_tot {Es : List (Nat × Nat)} : ∀ {ms : List Ml}, (∀ m ∈ ms, ∃ e ∈ Es, (m.from_ = (e.1 : Int) ∧ m.to_ = (e.2 : Int)) ∨ (m.from_ = (e.2 : Int) ∧ m.to_ = (e.1 : Int))) → ms.length ≤ tot Es ms
  | [], _ => Nat.zero_le _
  | m :: ms, h => by
    have ih := len_tot (Es := Es) (ms := ms) fun x hx => h x (List.mem_cons_of_mem _ hx)
    obtain ⟨e, he, hm⟩ := h m (List.mem_cons_self ..)
    have : tot Es ms < tot Es (m :: ms) := by
      refine sum_lt (e := e) ?_ (fun x _ => ?_) he
      · have q1 := chan_more m ms e.1 e.2
        have q2 := chan_more m ms e.2 e.1
        rcases hm with hm | hm
        · have := q1.2 hm; omega
        · have := q2.2 hm; omega
      · have q1 := chan_more m ms x.1 x.2
        have q2 := chan_more m ms x.2 x.1
        omega
    rw [List.length_cons]
    omega
theorem sum_const {α : Type} {f : α → Nat} {c : Nat} : ∀ {l : List α}, (∀ x ∈ l, f x ≤ c) → (l.map f).sum ≤ c * l.length
  | [], _ => Nat.zero_le _
  | x :: l, h => by
    rw [List.map_cons, List.sum_cons, List.length_cons, Nat.mul_succ]
    have := h x (List.mem_cons_self ..)
    have := sum_const (l := l) fun y hy => h y (List.mem_cons_of_mem _ hy)
    omega
theorem TB.mailFew (h : TB n nb ep X P ms) {Es : List (Nat × Nat)} (h1 : ∀ e ∈ Es, e.1 < n ∧ e.2 ∈ nb e.1) (h2 : ∀ i k, i < n → k ∈ nb i → (i, k) ∈ Es ∨ (k, i) ∈ Es) : ms.length ≤ 2 * Es.length ∧ wt X P ms ≤ 6 * Es.length := by
  have q : ms.length ≤ tot Es ms := len_tot fun m hm => by
    obtain ⟨i, k, hi, hk, e1, e2⟩ := h.mail m hm
    rcases h2 i k hi hk with e | e
    · exact ⟨_, e, .inl ⟨e1, e2⟩⟩
    · exact ⟨_, e, .inr ⟨e1, e2⟩⟩
  have q2 : tot Es ms ≤ 2 * Es.length := sum_const fun e he => (h.edge e.1 e.2 (h1 e he).1 (h1 e he).2).few
  have q3 := (wt_len X P ms).2
  omega
end
end Go.Proofs.YtfbambemjokmgaaGreat
namespace Go.Proofs.YtfbambemjokmgaaGreat
def sideN (c : Nat → Int) (i k : Nat) : Sd := if c i < c k then ⟨k, 1, 0, false, false, true, false, true⟩ else ⟨k, 1, 0, true, true, false, true, false⟩
section
variable {n : Nat} {nb : Nat → List Nat} {ep : Int} {X : Nat → Nat → Sd} {P : Nat → Int} {ms : List Ml} {i : Nat}
theorem NB.of {q : Nat → Nat → Bool} (hs : ∀ i k, q i k = q k i) (hi : ∀ i, q i i = false) : NB n fun i => (List.range n).filter (q i) where
  up i := List.Pairwise.sublist List.filter_sublist List.pairwise_lt_range
  back i k hin hk := by
    obtain ⟨h1, h2⟩ := List.mem_filter.1 hk
    refine ⟨List.mem_range.1 h1, fun e => ?_, List.mem_filter.2 ⟨List.mem_range.2 hin, by rw [hs]; exact h2⟩⟩
    rw [e, hi] at h2
    cases h2
theorem sideN_bits (c : Nat → Int) (i k : Nat) : (sideN c i k).fork = !decide (c i < c k) ∧ (sideN c i k).dirty = !decide (c i < c k) ∧ (sideN c i k).token = decide (c i < c k) := by
  unfold sideN
  by_cases h : c i < c k
  · rw [if_pos h, decide_eq_true h]; exact ⟨rfl, rfl, rfl⟩
  · rw [if_neg h, decide_eq_false h]; exact ⟨rfl, rfl, rfl⟩
theorem TB.first {c : Nat → Int} (hc : ∀ i k, i < n → k ∈ nb i → c i ≠ c k) : TB n nb 1 (sideN c) (fun _ => 0) [] where
  pr i k hi hk := by unfold sideN; split <;> exact ⟨rfl, rfl⟩
  lv i k hi hk := by unfold sideN; split <;> rfl
  ph i hi := .inl rfl
  edge i k hi hk := by
    have hne := hc i k hi hk
    obtain ⟨a1, a2, a3⟩ := sideN_bits c i k
    obtain ⟨b1, b2, b3⟩ := sideN_bits c k i
    by_cases h : c i < c k
    · have h' : ¬ c k < c i := by omega
      rw [decide_eq_true h] at a1 a2 a3
      rw [decide_eq_false h'] at b1 b2 b3
      refine .inr ⟨.f1 b1 b3 a3 rfl rfl rfl, ⟨a1, a2, fun e => ?_, fun _ e => ?_, fun e => ?_⟩⟩
      · rw [b1] at e; cases e
      · rw [b2] at e; cases e
      · omega
    · have h' : c k < c i := by omega
      rw [decide_eq_false h] at a1 a2 a3
      rw [decide_eq_true h'] at b1 b2 b3
      refine .inl ⟨.f1 a1 a3 b3 rfl rfl rfl, ⟨b1, b2, fun e => ?_, fun _ e => ?_, fun e => ?_⟩⟩
      · rw [a1] at e; cases e
      · rw [a2] at e; cases e
      · omega
  calm i hi := by unfold eats; simp
  mail m hm := by cases hm
theorem NoRound.first {c : Nat → Int} (hn : NB n nb) (h0 : ∀ i, i < n → 0 ≤ c i) (hc : ∀ i k, i < n → k ∈ nb i → c i ≠ c k) : NoRound n nb (sideN c) [] := by
  refine ⟨fun i => (c i).toNat, fun a k ha hk h => ?_⟩
  obtain ⟨a1, a2, _⟩ := sideN_bits c a k
  obtain ⟨b1, b2, _⟩ := sideN_bits c k a
  unfold ah ahd chan at h
  rw [a1, a2, b1, b2] at h
  have q1 := h0 a ha
  have q2 := h0 k (hn.back a k ha hk).1
  simp only [List.filter_nil, List.any_nil, Bool.and_false, Bool.or_false, Bool.not_not, Bool.and_self, Bool.or_eq_true, Bool.and_eq_true, Bool.not_eq_true', decide_eq_false_iff_not, decide_eq_true_eq] at h
  show (c a).toNat < (c k).toNat
  by_cases e : c a < c k
  · omega
  · exfalso
    by_cases e2 : c k < c a
    · omega
    · have := hc a k ha hk
      omega
def betweenB (a b : Int) (m : Ml) : Bool := (m.from_ == a && m.to_ == b) || (m.from_ == b && m.to_ == a)
def cntS (x y : Sd) (ms : List Ml) (a b k : Int) : Nat :=
  (cond ((k == 1 && x.fork) || (k == 2 && x.token)) 1 0) + (cond ((k == 1 && y.fork) || (k == 2 && y.token)) 1 0) + ms.countP fun m => betweenB a b m && m.kind == k && m.epoch == x.epoch
theorem countP_chan {a b : Int} (hne : a ≠ b) (q : Ml → Bool) : ∀ ms : List Ml, (ms.countP fun m => betweenB a b m && q m) = (chan ms a b).countP q + (chan ms b a).countP q
  | [] => rfl
  | m :: l => by
    have ih := countP_chan hne q l
    unfold chan at *
    rw [List.countP_cons, List.filter_cons, List.filter_cons, ih]
    unfold betweenB
    by_cases h1 : m.from_ = a ∧ m.to_ = b
    · have e1 : (m.from_ == a && m.to_ == b) = true := by simp [h1.1, h1.2]
      have e2 : (m.from_ == b && m.to_ == a) = false := by
        rw [h1.1]; simp [hne]
      simp only [e1, e2, Bool.or_false, Bool.true_and, if_true, Bool.false_eq_true, if_false, List.countP_cons]
      omega
    · have e1 : (m.from_ == a && m.to_ == b) = false := by
        by_cases h2 : m.from_ = a
        · simp [h2]; exact fun h3 => h1 ⟨h2, h3⟩
        · simp [h2]
      rw [e1]
      by_cases h2 : m.from_ = b ∧ m.to_ = a
      · have e2 : (m.from_ == b && m.to_ == a) = true := by simp [h2.1, h2.2]
        simp only [e2, Bool.false_or, Bool.true_and, if_true, Bool.false_eq_true, if_false, List.countP_cons]
        omega
      · have e2 : (m.from_ == b && m.to_ == a) = false := by
          by_cases h3 : m.from_ = b
          · simp [h3]; exact fun h4 => h2 ⟨h3, h4⟩
          · simp [h3]
        simp [e2]
end
end Go.Proofs.YtfbambemjokmgaaGreat
namespace Go.Proofs.YtfbambemjokmgaaGreat
def nbE (N : Int) (E : List Edge) (i : Nat) : List Nat := (List.range N.toNat).filter fun k => decide (btw i k ∈ E)
theorem mem_nbE {N : Int} {E : List Edge} {i k : Nat} : k ∈ nbE N E i ↔ k < N.toNat ∧ btw i k ∈ E := by
  unfold nbE
  rw [List.mem_filter, List.mem_range, decide_eq_true_eq]
theorem NB.ofE {N : Int} {E : List Edge} (ok : OkG N E) : NB N.toNat (nbE N E) :=
  NB.of (q := fun i k => decide (btw i k ∈ E)) (fun i k => by rw [btw_comm]) fun i => decide_eq_false fun h => (near_in ok h).2.2.2.2 rfl
theorem table_is (N : Int) (E : List Edge) (c : List Int) : tableL N E c = dsOf N.toNat (nbE N E) (sideN fun a => col c a) fun _ => 0 := by
  unfold tableL dsOf
  refine List.map_congr_left fun i _ => ?_
  unfold dinerC sidesTo nbE
  rw [List.filter_map, List.map_map]
  rfl
def pq (L : List Dn) : List (Int × List Int) := L.map fun d => (d.id, d.sides.map fun s => s.peer)
theorem pq_at {L L' : List Dn} (h : pq L = pq L') (i : Nat) : (L.getD i ⟨0, 0, []⟩).id = (L'.getD i ⟨0, 0, []⟩).id ∧ (L.getD i ⟨0, 0, []⟩).sides.map (fun s => s.peer) = (L'.getD i ⟨0, 0, []⟩).sides.map fun s => s.peer := by
  have h1 : (pq L)[i]? = (pq L')[i]? := by rw [h]
  unfold pq at h1
  rw [List.getElem?_map, List.getElem?_map] at h1
  rw [List.getD_eq_getElem?_getD, List.getD_eq_getElem?_getD]
  cases e1 : L[i]? <;> cases e2 : L'[i]? <;> rw [e1, e2] at h1
  · exact ⟨rfl, rfl⟩
  · cases h1
  · cases h1
  · simpa using h1
theorem sideR_peers {p : Int} : ∀ {l l' : List Sd}, l.map (fun s => s.peer) = l'.map (fun s => s.peer) → (sideR l p).2 = (sideR l' p).2
  | [], [], _ => rfl
  | [], _ :: _, h => by cases h
  | _ :: _, [], h => by cases h
  | s :: l, s' :: l', h => by
    rw [List.map_cons, List.map_cons, List.cons.injEq] at h
    have ih := sideR_peers (p := p) h.2
    unfold sideR at ih ⊢
    rw [List.find?_cons, List.find?_cons, h.1]
    cases s'.peer == p
    · exact ih
    · rfl
theorem edgesS_peers {i : Nat} : ∀ {l l' : List Sd}, l.map (fun s => s.peer) = l'.map (fun s => s.peer) → edgesS i l = edgesS i l'
  | [], [], _ => rfl
  | [], _ :: _, h => by cases h
  | _ :: _, [], h => by cases h
  | s :: l, s' :: l', h => by
    rw [List.map_cons, List.map_cons, List.cons.injEq] at h
    have ih := edgesS_peers (i := i) h.2
    unfold edgesS at ih ⊢
    rw [List.filter_cons, List.filter_cons, h.1]
    split
    · rw [List.map_cons, List.map_cons, ih, h.1]
    · exact ih
theorem sidesOk_peers {L L' : List Dn} (hL : pq L = pq L') {i : Nat} : ∀ {l l' : List Sd} {last : Int}, l.map (fun s => s.peer) = l'.map (fun s => s.peer) → sidesOk L i last l = sidesOk L' i last l'
  | [], [], _, _ => rfl
  | [], _ :: _, _, h => by cases h
  | _ :: _, [], _, h => by cases h
  | s :: l, s' :: l', last, h => by
    rw [List.map_cons, List.map_cons, List.cons.injEq] at h
    show (sideOk L i last s && sidesOk L i s.peer l) = (sideOk L' i last s' && sidesOk L' i s'.peer l')
    have hlen : L.length = L'.length := by have := congrArg List.length hL; unfold pq at this; rwa [List.length_map, List.length_map] at this
    have h1 : sideOk L i last s = sideOk L' i last s' := by
      unfold sideOk
      rw [h.1, hlen, sideR_peers (pq_at hL s'.peer.toNat).2]
    rw [h1, h.1, sidesOk_peers hL h.2]
theorem graph_peers {L L' : List Dn} (h : pq L = pq L') : graphR L = graphR L' := by
  have hlen : L.length = L'.length := by have := congrArg List.length h; unfold pq at this; rwa [List.length_map, List.length_map] at this
  have h1 : nodesOk L L.length = nodesOk L' L'.length := by
    unfold nodesOk
    rw [hlen]
    congr 1
    funext i
    rw [(pq_at h i).1, sidesOk_peers h (pq_at h i).2]
  have h2 : edgesD L L.length = edgesD L' L'.length := by
    unfold edgesD
    rw [hlen]
    congr 1
    funext i
    exact edgesS_peers (pq_at h i).2
  unfold graphR graphB
  rw [h1, h2, hlen]
section
variable {N : Int} {E : List Edge} {ep : Int} {X : Nat → Nat → Sd} {P : Nat → Int} {ms : List Ml}
theorem graph_scene (ok : OkG N E) (hp : ∀ i k, i < N.toNat → k ∈ nbE N E i → (X i k).peer = k) : graphR (dsOf N.toNat (nbE N E) X P) = (N, E, true) := by
  rw [← graph_table (c := []) ok, table_is]
  refine graph_peers ?_
  unfold pq dsOf
  rw [List.map_map, List.map_map]
  refine List.map_congr_left fun i hi => ?_
  have hi := List.mem_range.1 hi
  simp only [Function.comp, List.map_map, Prod.mk.injEq, true_and]
  refine List.map_congr_left fun k hk => ?_
  simp only [Function.comp]
  rw [hp i k hi hk]
  unfold sideN
  split <;> rfl
theorem firstI_ahd : ∀ (xf xd yf yd tf to_ : Bool), (xf && yf) = false → ((yf && !yd) || (xf && xd) || (!yf && !xf && to_)) = !((xf && !xd) || (yf && yd) || (!xf && !yf && tf)) →
    firstI xf xd yf yd tf to_ = if ((xf && !xd) || (yf && yd) || (!xf && !yf && tf)) = true then 1 else 2 := by decide
theorem goes_chan {a b : Int} (h1 : ∀ m ∈ chan ms a b, m.epoch = ep) (h2 : ∀ m ∈ chan ms a b, m.num = 0) : goesB ms a b ep = (chan ms a b).any fun m => m.kind == 1 := by
  unfold goesB
  rw [Bool.eq_iff_iff, List.any_eq_true, List.any_eq_true]
  constructor
  · rintro ⟨m, hm, h⟩
    unfold hitM at h
    simp only [Bool.and_eq_true] at h
    exact ⟨m, List.mem_filter.2 ⟨hm, by rw [Bool.and_eq_true]; exact h.1.1.1⟩, h.1.1.2⟩
  · rintro ⟨m, hm, h⟩
    have e1 := h1 m hm
    have e2 := h2 m hm
    obtain ⟨hm, hab⟩ := List.mem_filter.1 hm
    refine ⟨m, hm, ?_⟩
    unfold hitM
    rw [hab, h, e1, e2]
    simp
theorem sideR_no {n : Nat} {nb : Nat → List Nat} (hpr : ∀ i k, i < n → k ∈ nb i → (X i k).peer = k) {i k : Nat} (hi : i < n) (hk : k ∉ nb i) : sideR ((nb i).map (X i)) k = (Sd.zero, false) := by
  have : ((nb i).map (X i)).find? (fun s => s.peer == (k : Int)) = none := by
    rw [List.find?_eq_none]
    intro s hs
    obtain ⟨j, hj, rfl⟩ := List.mem_map.1 hs
    rw [hpr i j hi hj]
    simp only [beq_iff_eq]
    intro e
    have : j = k := by omega
    exact hk (this ▸ hj)
  unfold sideR
  rw [this]
def turnX (X : Nat → Nat → Sd) (ms : List Ml) (e : Edge) : Arc := if ah X ms e.a.toNat e.b.toNat = true then ⟨e.a, e.b⟩ else ⟨e.b, e.a⟩
theorem turnX_ends (X : Nat → Nat → Sd) (ms : List Ml) (e : Edge) : ((turnX X ms e).a = e.a ∧ (turnX X ms e).b = e.b) ∨ ((turnX X ms e).a = e.b ∧ (turnX X ms e).b = e.a) := by
  unfold turnX
  split
  · exact .inl ⟨rfl, rfl⟩
  · exact .inr ⟨rfl, rfl⟩
theorem turnX_ok (ok : OkG N E) (X : Nat → Nat → Sd) (ms : List Ml) : OkD N (E.map (turnX X ms)) := by
  refine ⟨ok.n0, ok.n64, by rw [List.length_map]; exact ok.few, fun x hx => ?_, ?_⟩
  · obtain ⟨e, he, rfl⟩ := List.mem_map.1 hx
    have := ok.each e he
    rcases turnX_ends X ms e with ⟨h1, h2⟩ | ⟨h1, h2⟩ <;> rw [h1, h2] <;> omega
  · unfold List.Nodup
    rw [List.pairwise_map]
    refine (ok.rise.imp_of_mem fun {x y} hx hy hxy => ?_)
    intro e
    have hX := ok.each x hx
    have hY := ok.each y hy
    have e1 : (turnX X ms x).a = (turnX X ms y).a := by rw [e]
    have e2 : (turnX X ms x).b = (turnX X ms y).b := by rw [e]
    have : x = y := by
      obtain ⟨p, q⟩ := x
      obtain ⟨r, s⟩ := y
      rcases turnX_ends X ms ⟨p, q⟩ with ⟨h1, h2⟩ | ⟨h1, h2⟩ <;> rcases turnX_ends X ms ⟨r, s⟩ with ⟨h3, h4⟩ | ⟨h3, h4⟩ <;> rw [h1, h3] at e1 <;> rw [h2, h4] at e2 <;> simp only [Edge.mk.injEq] <;> dsimp only at hX hY e1 e2 <;> omega
    rw [this, ahead_irr] at hxy
    cases hxy
end
end Go.Proofs.YtfbambemjokmgaaGreat
namespace Go.Proofs.YtfbambemjokmgaaGreat
def nodeB (ds : List Dn) (a : Int) : Bool := decide (0 ≤ a) && decide (a < ds.length)
def chkT (ds : List Dn) (ms : List Ml) : Bool := graphB ds && ds.all dnOk && ms.all fun m => nodeB ds m.from_ && nodeB ds m.to_ && !decide (m.from_ = m.to_)
def GoodE (N : Int) (E : List Edge) (ds : List Dn) (ms : List Ml) : Prop := Good N.toNat (nbE N E) 1 ds ms
section
variable {N : Int} {E : List Edge} {ds : List Dn} {ms : List Ml}
theorem right_pos {c : List Int} (h : rightB N E c = true) {i : Nat} (hi : i < N.toNat) : 0 ≤ col c i := by
  unfold rightB at h
  simp only [Bool.and_eq_true, List.all_eq_true, decide_eq_true_eq, List.mem_range] at h
  have := (h.2 i (by omega)).1
  omega
theorem right_okG {c : List Int} (h : rightB N E c = true) : OkG N E := by
  unfold rightB at h
  simp only [Bool.and_eq_true] at h
  exact okG_iff.1 h.1.1
theorem GoodE.new {c : List Int} (h : rightB N E c = true) : GoodE N E (tableL N E c) [] := by
  have hc : ∀ i k : Nat, i < N.toNat → k ∈ nbE N E i → col c i ≠ col c k := fun i k _ hk => right_ne h _ _ (mem_nbE.1 hk).2
  exact ⟨_, _, table_is N E c, TB.first hc, NoRound.first (NB.ofE (right_okG h)) (fun i hi => right_pos h hi) hc⟩
theorem GoodE.graph (ok : OkG N E) (h : GoodE N E ds ms) : graphR ds = (N, E, true) := by
  obtain ⟨X, P, rfl, hb, hr⟩ := h
  exact graph_scene ok fun i k hi hk => (hb.pr i k hi hk).1
theorem GoodE.len (h : GoodE N E ds ms) : ds.length = N.toNat := by
  obtain ⟨X, P, rfl, hb, hr⟩ := h
  exact dsOf_len
theorem GoodE.chk (ok : OkG N E) (h : GoodE N E ds ms) : chkT ds ms = true := by
  have hg := h.graph ok
  have hlen := h.len
  obtain ⟨X, P, rfl, hb, hr⟩ := h
  have n64 := ok.n64
  have hn := NB.ofE ok
  unfold chkT
  rw [Bool.and_eq_true, Bool.and_eq_true, List.all_eq_true, List.all_eq_true]
  refine ⟨⟨?_, fun d hd => ?_⟩, fun m hm => ?_⟩
  · unfold graphR at hg
    cases e : graphB (dsOf N.toNat (nbE N E) X P)
    · rw [e, if_neg (by simp)] at hg; cases hg
    · rfl
  · unfold dsOf at hd
    obtain ⟨i, hi, rfl⟩ := List.mem_map.1 hd
    exact hb.ok hn (by omega) (by omega) (by omega) (List.mem_range.1 hi)
  · obtain ⟨i, k, hi, hk, e1, e2⟩ := hb.mail m hm
    have := hn.back i k hi hk
    unfold nodeB
    rw [hlen, e1, e2]
    simp only [Bool.and_eq_true, decide_eq_true_eq, Bool.not_eq_true', decide_eq_false_iff_not]
    omega
def actN (k : Int) : Int := if k = 0 then 0 else if k = 1 then 1 else 2
theorem actN_is (k : Int) : actN k = 0 ∨ actN k = 1 ∨ actN k = 2 := by
  unfold actN
  split
  · exact .inl rfl
  · split
    · exact .inr (.inl rfl)
    · exact .inr (.inr rfl)
theorem edge_nb (ok : OkG N E) {e : Edge} (he : e ∈ E) : ∃ i k : Nat, e = ⟨i, k⟩ ∧ i < N.toNat ∧ k < N.toNat ∧ k ∈ nbE N E i ∧ i ∈ nbE N E k := by
  obtain ⟨a, b⟩ := e
  have hE := ok.each _ he
  dsimp only at hE
  have ea : ((a.toNat : Nat) : Int) = a := by omega
  have eb : ((b.toNat : Nat) : Int) = b := by omega
  have hm : b.toNat ∈ nbE N E a.toNat := mem_nbE.2 ⟨by omega, by
    rw [ea, eb]
    have : btw a b = ⟨a, b⟩ := by simp only [btw, Edge.mk.injEq]; omega
    rw [this]; exact he⟩
  exact ⟨a.toNat, b.toNat, by rw [ea, eb], by omega, by omega, hm, ((NB.ofE ok).back _ _ (by omega) hm).2.2⟩
end
end Go.Proofs.YtfbambemjokmgaaGreat
namespace Go.Proofs.YtfbambemjokmgaaGreat
open Go.RowKit
structure SV (w : World) (vd vm : Value) (ds : List Dn) (ms : List Ml) : Prop where
  ds : Ns DV Non w vd ds
  ms : Sl w vm ms
def GivesS (w : World) (r : (List Dn × List Ml) × Int) (e : Ending) (w' : World) : Prop := ∃ vd vm, e = .returned (.tuple #[.agg #[vd, vm], .int .i64 r.2]) ∧ SV w' vd vm r.1.1 r.1.2 ∧ Ext w w'
section
variable {w w' : World} {vd vm : Value} {ds : List Dn} {ms : List Ml}
theorem SV.ext (h : SV w vd vm ds ms) (e : Ext w w') : SV w' vd vm ds ms := ⟨h.ds.ext e, h.ms.ext e⟩
theorem SV.len (h : SV w vd vm ds ms) : ∃ ao c bo d, vd = .slice ao ds.length c ∧ vm = .slice bo ms.length d := by
  obtain ⟨ao, c, e1⟩ := h.ds.len
  obtain ⟨bo, d, e2⟩ := h.ms.len
  exact ⟨ao, c, bo, d, e1, e2⟩
theorem SV.sh (h : SV w vd vm ds ms) : ∃ ao n c bo m d, vd = .slice ao n c ∧ vm = .slice bo m d := by
  obtain ⟨ao, c, bo, d, e1, e2⟩ := h.len
  exact ⟨ao, _, c, bo, _, d, e1, e2⟩
theorem SV.nil (w : World) : SV w (.slice none 0 0) (.slice none 0 0) [] [] := ⟨Ns.nil _ _, slNoneU _⟩
theorem apart_box {α : Type} [Elem α] {W : World} {g : Nat} {v : Value} {xs : List α} {cs : Array Value} {t : TypeId} {fr : Nat × Nat} (h : Sl W v xs) (hg : W.heap[g]? = some (.cells cs t fr))
    (hcs : ∀ (i : Nat) (u : Value), cs[i]? = some u → ∃ (a : Option Addr) (n c : Nat), u = Value.slice a n c) (hf : ∀ x : α, ∃ k, (Elem.enc x)[0]? = some (.int .i64 k)) : Sa (fun k => k = g) W v xs := by
  refine ⟨h, ?_⟩
  rcases h.parts with ⟨rfl, _⟩ | ⟨b, off, c', rfl, h1, h2, h3, _, h4⟩
  · exact .inl rfl
  · cases xs with
    | nil => exact .inl rfl
    | cons x l =>
      refine .inr fun b' hb' hbg => ?_
      obtain rfl : b = b' := by simpa [Value.ownBlock] using hb'
      subst hbg
      obtain ⟨k, hk⟩ := hf x
      have := h4 0 x rfl 0 _ hk
      replace this : cs[off + (0 * Elem.k α + 0)]? = some (.int .i64 k) := by simpa [World.cell?, hg] using this
      obtain ⟨a, n, c, hu⟩ := hcs _ _ this
      cases hu
theorem two_slices (a : Option Addr) (n c : Nat) (a' : Option Addr) (n' c' : Nat) : ∀ (i : Nat) (u : Value), (#[.slice a n c, .slice a' n' c'] : Array Value)[i]? = some u → ∃ (a : Option Addr) (n c : Nat), u = Value.slice a n c := fun i u hu => by
  rcases i with _ | _ | i
  · simp at hu; exact ⟨_, _, _, hu.symm⟩
  · simp at hu; exact ⟨_, _, _, hu.symm⟩
  · simp at hu
theorem SV.off {g : Nat} {a a' : Option Addr} {n c n' c' : Nat} {t : TypeId} {fr : Nat × Nat} (h : SV w vd vm ds ms) (hg : w.heap[g]? = some (.cells #[.slice a n c, .slice a' n' c'] t fr)) (o : Off (fun k => k = g) w w') : SV w' vd vm ds ms := by
  have hn : Grows (fun k => k = g) Non w := fun k hk => hk.elim
  refine ⟨?_, ?_⟩
  · obtain ⟨xs, h1, h2, h3⟩ := h.ds
    refine ⟨xs, (apart_box h1.sl hg (two_slices _ _ _ _ _ _) fun x => ⟨x.id, rfl⟩).off o hn, h2, fun j x d hx hd => ?_⟩
    obtain ⟨e1, e2, e3⟩ : RdD Non w x d := h3 j x d hx hd
    exact (⟨e1, e2, (apart_box e3.sl hg (two_slices _ _ _ _ _ _) fun x => ⟨x.peer, rfl⟩).off o hn⟩ : RdD Non w' x d)
  · exact ((apart_box h.ms hg (two_slices _ _ _ _ _ _) fun x => ⟨x.from_, rfl⟩).off o hn).sl
end
theorem givesS_no {w W : World} {r : (List Dn × List Ml) × Int} {er : Int} (h : r = (([], []), er)) (x : Ext w W) : GivesS w r (.returned (.tuple #[.agg #[.slice none 0 0, .slice none 0 0], .int .i64 er])) W := by
  subst h
  exact ⟨_, _, rfl, SV.nil _, x⟩
theorem uScene : ∃ fs, Tryz.prog.underlying 48 = some (.struct fs) := ⟨_, Tryz.underlying48⟩
theorem cells2S {w : World} {g : Nat} {u0 u1 : Value} {t : TypeId} (h : w.heap[g]? = some (.cells #[u0, u1] t (0, 0))) : w.cell? ⟨g, 0, none⟩ = some u0 ∧ w.cell? ⟨g, 1, none⟩ = some u1 := ⟨blk_cell h 0 rfl, blk_cell h 1 rfl⟩
end Go.Proofs.YtfbambemjokmgaaGreat
