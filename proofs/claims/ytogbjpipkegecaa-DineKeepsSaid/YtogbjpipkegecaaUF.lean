/- Layer 13, the program: a message goes out; who eats. -/
import Derived.Test.YtogbjpipkegecaaUE
import Derived.BigGuard
namespace Go.Proofs.Ytogbjpipkegecaa
open Go.RowKit

set_option maxRecDepth 100000 in
set_option maxHeartbeats 4000000 in
theorem send_any (W : World) (go gd : Nat) (id ph kd : Int) (sv ov : Value) (M : List Ml) (s : Sd) (hd : W.heap[gd]? = some (.cells #[.int .i64 id, .int .i64 ph, sv] 25 (0, 0))) (ho : W.heap[go]? = some (.cells #[ov] 27 (0, 0))) (hw : Ow W (go + 1) ov M) (hl : M.length ≤ 5000) :
    Calls Try.prog 24 #[.agg s.cs, .int .i64 kd, .pointer (some ⟨go, 0, none⟩), .pointer (some ⟨gd, 0, none⟩)] W fun e W' => e = .returned (.tuple #[]) ∧ ∃ ov', W'.heap[go]? = some (.cells #[ov'] 27 (0, 0)) ∧ Ow W' (go + 1) ov' (M ++ [⟨id, s.peer, kd, s.epoch, 0⟩]) ∧ Off (fun i => i = go ∨ ov.ownBlock = some i) W W' ∧ (ov'.ownBlock = ov.ownBlock ∨ ∀ b, ov'.ownBlock = some b → W.heap.size ≤ b) := by
  obtain ⟨fo, fn, fc, rfl⟩ := hw.sh
  obtain ⟨y0, y1, y2, y3, y4, y5, y6, y7⟩ := s
  unfold Sd.cs
  dsimp only
  obtain ⟨W1, hW1⟩ : ∃ W1, W1 = W.alloc (.cells #[.int .i64 y0, .int .i64 y1, .int .i64 y2, .bool y3, .bool y4, .bool y5, .bool y6, .bool y7] 47) := ⟨_, rfl⟩
  have X1 : Hid (Ext W W1) := Lib.hid (hW1 ▸ (Ext.refl W).alloc _)
  have d1 : W1.heap[W.heap.size]? = some (.cells #[.int .i64 y0, .int .i64 y1, .int .i64 y2, .bool y3, .bool y4, .bool y5, .bool y6, .bool y7] 47 (0, 0)) := hW1 ▸ at0 W _
  have hgo : go < W.heap.size := blk_lt ho
  have hs1 : W1.heap.size = W.heap.size + 1 := by rw [hW1, size_alloc]
  have HW1 := Lib.hid hW1
  have HO := Lib.hid (keepU ho X1.out)
  have HD := Lib.hid (keepU hd X1.out)
  have HOW := Lib.hid (hw.ext X1.out)
  have x0 := blk_cell d1 0 rfl
  have x1 := blk_cell d1 1 rfl
  have k0 := blk_cell HO.out 0 rfl
  have k1 := blk_cell HD.out 0 rfl
  clear ho hd hw hW1 d1
  go_enter Try.func24, Try.ntmps24
  go_upto_region 1 with (fail)
  rw [← HW1.out]
  go_wp2_with (first
    | (at_builtin; refine wpList_append_sl (α := Ml) rfl (.tmp 6) (.tmp 16) rfl (go + 1) (.slice fo fn fc) M rfl ?_ (.slice (some ⟨_, 0, none⟩) 1 1) [(⟨id, y0, kd, y1, 0⟩ : Ml)] rfl ?_ ?_ ?_ ?_; exact (HOW.out.alloc _); exact (Sl.litAt W1 _ hs1.symm [(⟨id, y0, kd, y1, 0⟩ : Ml)] (show (1 : Nat) ≤ 1000000 by decide)); (first | omega | (simp; omega)); (rw [size_alloc]; omega); intro v2 W7 ho2 ha2; obtain ⟨a2, n2, c2, rfl⟩ := ho2.sh; have O2 := Lib.hid ho2; have A2 := Lib.hid ha2; have b2 := (ha2.below.block go (by omega)).trans (old1 HO.out _); have B2 := Lib.hid b2; have c7 := blk_cell b2 0 rfl; have f7 := blk_free b2 0; clear ho2 ha2 b2))
  refine bodyPost_end (results_none rfl _ _ _) rfl ?_
  refine ⟨rfl, .slice a2 n2 c2, blk_set B2.out 0 _, O2.out.set (by show go < go + 1; omega) _, ?_, ?_⟩
  · have o1 : Off (fun i => i = go ∨ (Value.slice fo fn fc).ownBlock = some i) W (W1.alloc (.cells #[.int .i64 id, .int .i64 y0, .int .i64 kd, .int .i64 y1, .int .i64 0] 49)) := Off.of_ext (Ext.alloc X1.out _)
    have o2 : Off (fun i => i = go ∨ (Value.slice fo fn fc).ownBlock = some i) (W1.alloc (.cells #[.int .i64 id, .int .i64 y0, .int .i64 kd, .int .i64 y1, .int .i64 0] 49)) W7 := (off_grown A2.out.grown).mono fun i hi => .inr hi
    exact (o1.trans o2 (Grows.refl _ _)).trans ((off_set W7 ⟨go, 0, none⟩ _).mono fun i hi => .inl hi) (Grows.refl _ _)
  · rcases A2.out.block with h | h
    · exact .inl h
    · exact .inr fun b hb => by have := h b hb; rw [size_alloc] at this; omega

set_option maxRecDepth 100000 in
set_option maxHeartbeats 2000000 in
theorem lacks_one (W : World) (s : Sd) : Calls Try.prog 36 #[.agg s.cs] W fun e W' => e = .returned (.bool (!s.fork)) ∧ Ext W W' := by
  obtain ⟨y0, y1, y2, y3, y4, y5, y6, y7⟩ := s
  unfold Sd.cs
  dsimp only
  have x3 := blk_cell (at0 W (.cells #[.int .i64 y0, .int .i64 y1, .int .i64 y2, .bool y3, .bool y4, .bool y5, .bool y6, .bool y7] 47)) 3 rfl
  have HX : Hid (Ext W (W.alloc (.cells #[.int .i64 y0, .int .i64 y1, .int .i64 y2, .bool y3, .bool y4, .bool y5, .bool y6, .bool y7] 47))) := Lib.hid ((Ext.refl W).alloc _)
  go_enter Try.func36, Try.ntmps36
  go_wp2
  go_ret
  exact ⟨rfl, HX.out⟩
theorem contains_lacks (w : World) (v : Value) (L : List Sd) (h : Sl w v L) (t : Bool) (ht : L.all (·.fork) = t) :
    Calls Try.prog 27 #[v, .func (.func 36) #[] #[]] w fun e w' => e = .returned (.bool (!t)) ∧ Ext w w' := by
  refine (containsFunc_sd w v L 36 #[] (fun _ V => Ext w V) (fun _ s => !s.fork) (enters_of Try.func36 (by kernel_rfl) rfl) (fun _ W hW => h.ext hW) ?_ (Ext.refl w) (!t) ?_ ?_).mono ?_
  · intro i s W hi hW
    refine (lacks_one W s).mono ?_
    rintro e W' ⟨rfl, hx⟩
    exact ⟨rfl, Ext.trans hW hx⟩
  · intro hall
    have : L.all (·.fork) = true := by
      rw [List.all_eq_true]
      intro s hs
      obtain ⟨k, hk⟩ := List.getElem?_of_mem hs
      have := hall k s hk
      simpa using this
    rw [← ht, this]; rfl
  · intro k s hk hp _
    have : L.all (·.fork) = false := by
      rw [List.all_eq_false]
      exact ⟨s, List.mem_of_getElem? hk, by simpa using hp⟩
    rw [← ht, this]; rfl
  · rintro e w' ⟨rfl, _, hx⟩
    exact ⟨rfl, hx⟩

theorem cellsOf_set1 {α : Type} [Elem α] (i : Nat) (u : Value) (x' : α) : ∀ (xs : List α) (k : Nat) (x : α), xs[k]? = some x → i < Elem.k α → Elem.enc x' = (Elem.enc x).set i u → cellsOf (xs.set k x') = (cellsOf xs).set (k * Elem.k α + i) u
  | [], _, _, h, _, _ => by simp at h
  | y :: ys, 0, x, h, hi, he => by
    obtain rfl : y = x := by simpa using h
    show Elem.enc x' ++ cellsOf ys = (Elem.enc y ++ cellsOf ys).set (0 * Elem.k α + i) u
    rw [he, Nat.zero_mul, Nat.zero_add, List.set_append_left _ _ (by rw [Elem.len]; exact hi)]
  | y :: ys, k + 1, x, h, hi, he => by
    have ih := cellsOf_set1 i u x' ys k x (by simpa using h) hi he
    show Elem.enc y ++ cellsOf (ys.set k x') = (Elem.enc y ++ cellsOf ys).set ((k + 1) * Elem.k α + i) u
    have hl := Elem.len y
    rw [ih, Nat.succ_mul, List.set_append_right _ _ (by omega), hl, show k * Elem.k α + Elem.k α + i - Elem.k α = k * Elem.k α + i from by omega]
/-- one cell of an element of a call's own row is stored to -/
theorem Ow.setCell1 {α : Type} [Elem α] {w : World} {B : Nat} {b off n c k i : Nat} {xs : List α} {x x' : α} {u : Value} (h : Ow w B (.slice (some ⟨b, off, none⟩) n c) xs) (hk : xs[k]? = some x) (hi : i < Elem.k α) (he : Elem.enc x' = (Elem.enc x).set i u) :
    off = 0 ∧ B ≤ b ∧ w.frozen? ⟨b, off + k * Elem.k α + i, none⟩ = false ∧ Ow (w.setCell ⟨b, off + k * Elem.k α + i, none⟩ u) B (.slice (some ⟨b, off, none⟩) n c) (xs.set k x') := by
  obtain ⟨h1, h2⟩ := h
  have hkl := (List.getElem?_eq_some_iff.1 hk).1
  rcases h2 with ⟨h2, h3⟩ | ⟨g, cap, cur, hv, hg, hh, hnc, hc63, hsz, htk⟩
  · rw [h3] at hkl; omega
  · simp only [Value.slice.injEq, Option.some.injEq, Addr.mk.injEq] at hv
    obtain ⟨⟨rfl, rfl, _⟩, rfl, rfl⟩ := hv
    refine ⟨rfl, hg, blk_free hh _, ?_, .inr ⟨b, c, cur.setIfInBounds (k * Elem.k α + i) u, ?_, hg, ?_, ?_, hc63, ?_, ?_⟩⟩
    · rw [cellsOf_length, List.length_set]
    · rw [List.length_set]
    · rw [Nat.zero_add]; exact blk_set hh _ _
    · rw [List.length_set]; exact hnc
    · rw [Array.size_setIfInBounds]; exact hsz
    · rw [cellsOf_set1 i u x' xs k x hk hi he, ← htk, List.length_set, Array.toList_setIfInBounds, List.take_set]

/-- who eats, and the row as it is then -/
def seatD (d : Dn) : Dn := if eats d.phase d.sides = true then ⟨d.id, 2, dirtyAll d.sides⟩ else d

set_option maxRecDepth 100000 in
set_option maxHeartbeats 4000000 in
theorem seated_any (w : World) (B : Nat) (id ph : Int) (v : Value) (L : List Sd) (h : Ow w B v L) :
    Calls Try.prog 25 #[.agg #[.int .i64 id, .int .i64 ph, v]] w fun e w' => e = .returned (.agg #[.int .i64 (seatD ⟨id, ph, L⟩).id, .int .i64 (seatD ⟨id, ph, L⟩).phase, v]) ∧ Ow w' B v (seatD ⟨id, ph, L⟩).sides ∧ Off (fun b => v.ownBlock = some b) w w' := by
  obtain ⟨ao, c, rfl⟩ := h.sl.len
  have hlen := h.sl.length_le
  obtain ⟨W0, hW0⟩ : ∃ W0, W0 = (w.alloc (.cells #[.int .i64 id, .int .i64 ph, .slice ao L.length c] 25)).alloc (.cells #[.int .i64 0, .int .i64 0, .slice none 0 0] 25) := ⟨_, rfl⟩
  have X0 : Hid (Ext w W0) := Lib.hid (hW0 ▸ ((Ext.refl w).alloc _).alloc _)
  have D0 : Hid (W0.heap[w.heap.size]? = some (.cells #[.int .i64 id, .int .i64 ph, .slice ao L.length c] 25 (0, 0))) := Lib.hid (hW0 ▸ old1 (at0 w _) _)
  have R0 : Hid (W0.heap[w.heap.size + 1]? = some (.cells #[.int .i64 0, .int .i64 0, .slice none 0 0] 25 (0, 0))) := Lib.hid (hW0 ▸ at1 w _ _)
  have hs0 : W0.heap.size = w.heap.size + 2 := by rw [hW0, size_alloc, size_alloc]
  have HW0 := Lib.hid hW0
  have HO := Lib.hid (h.ext X0.out)
  have HLOW : Hid (∀ b, (Value.slice ao L.length c).ownBlock = some b → b < w.heap.size) := Lib.hid fun b hb => (h.low b hb).2
  obtain ⟨d0, d1, d2⟩ := cells3U D0.out
  clear h hW0
  obtain ⟨t, ht⟩ : ∃ t, L.all (·.fork) = t := ⟨_, rfl⟩
  have HCL := Lib.hid (fun W (hW : Ext W0 W) => contains_lacks W _ L (HO.out.sl.ext hW) t ht)
  have HT := Lib.hid ht
  clear ht
  obtain ⟨q, hq⟩ : ∃ q, (ph == 1 && t) = q := ⟨_, rfl⟩
  have HQ : Hid (eats ph L = q) := Lib.hid (by unfold eats; rw [HT.out, ← hq]; cases h : ph == 1 <;> simp_all)
  go_enter Try.func25, Try.ntmps25
  go_upto_region 2 with (fail)
  rw [← HW0.out]
  go_cut [13] (fun s13 wx => s13 = .bool (!q) ∧ Hid (Ext W0 wx))
  case first =>
    by_cases hp : ph = 1
    · have t1 : (ph != 1) = false := by simp [hp]
      have HB : Hid (t = q) := Lib.hid (by rw [← hq, hp]; simp)
      clear hp hq
      go_wp2_with (first
        | (go_at_call 27; refine (HCL.out W0 (Ext.refl _)).mono ?_; rintro e w1 ⟨rfl, hx⟩; have X1 : Hid (Ext W0 w1) := Lib.hid hx; clear hx))
      go_meet
      exact ⟨by rw [HB.out], X1⟩
    · have t1 : (ph != 1) = true := by simp [hp]
      have HB : Hid (false = q) := Lib.hid (by rw [← hq]; simp [hp])
      clear hp hq
      go_wp2_with fail
      go_meet
      exact ⟨by rw [← HB.out]; rfl, Lib.hid (Ext.refl _)⟩
  case rest =>
    obtain ⟨rfl, HX⟩ := hcut
    clear d0 d1 d2
    obtain ⟨d0, d1, d2⟩ := cells3U (keepU D0.out HX.out)
    cases q
    · have HR : Hid (seatD ⟨id, ph, L⟩ = ⟨id, ph, L⟩) := Lib.hid (by unfold seatD; rw [if_neg (by show ¬ eats ph L = true; rw [HQ.out]; simp)])
      go_upto_region 3 with (fail)
      go_wp2_with (first | refine haltst 25 ?_)
      refine .inl ?_
      refine st_l 25 (.tmp 2) (.tmp 14) (w.heap.size + 1) 0 25 #[.int .i64 0, .int .i64 0, .slice none 0 0] #[.int .i64 id, .int .i64 ph, .slice ao L.length c] #[.int .i64 id, .int .i64 ph, .slice ao L.length c] rfl rfl (keepU R0.out HX.out) (by kernel_rfl) (by simp) rfl rfl ?_
      intro W9 hW9 o9
      simp only [Act.put]
      go_wp2
      exact bodyPost_ret (v := .agg #[.int .i64 id, .int .i64 ph, .slice ao L.length c]) (res_c rfl rfl hW9 uDiner (by kernel_rfl)) rfl (by
        rw [HR.out]
        exact ⟨rfl, owU (HO.out.ext HX.out) (fun b hb => o9.block b (Nat.lt_of_lt_of_le (HLOW.out b hb) (Nat.le_trans (by omega) (Below.size (X0.out.trans HX.out)))) (by have := HLOW.out b hb; omega)), Off.of_ext (ext_off (X0.out.trans HX.out) o9 (fun b hb => by omega))⟩)
    · have HR : Hid (seatD ⟨id, ph, L⟩ = ⟨id, 2, dirtyAll L⟩) := Lib.hid (by unfold seatD; rw [if_pos (by show eats ph L = true; exact HQ.out)])
      have f1 := blk_free (keepU D0.out HX.out) 1
      clear hq
      go_upto_region 4 with (fail)
      go_upto_region 5 with (fail)
      obtain ⟨W3, hW3⟩ : ∃ W3, W3 = wc.setCell ⟨w.heap.size, 1, none⟩ (.int .i64 2) := ⟨_, rfl⟩
      have D3 : Hid (W3.heap[w.heap.size]? = some (.cells #[.int .i64 id, .int .i64 2, .slice ao L.length c] 25 (0, 0))) := Lib.hid (by rw [hW3, blk_set (keepU D0.out HX.out)]; rfl)
      have R3 : Hid (W3.heap[w.heap.size + 1]? = some (.cells #[.int .i64 0, .int .i64 0, .slice none 0 0] 25 (0, 0))) := Lib.hid (by rw [hW3, set_other _ _ _ _ (by show w.heap.size + 1 ≠ w.heap.size; omega)]; exact keepU R0.out HX.out)
      have X3 : Hid (Ext w W3) := Lib.hid (hW3 ▸ below_set (X0.out.trans HX.out) (Nat.le_refl _) _)
      have O3 : Hid (Ow W3 B (.slice ao L.length c) L) := Lib.hid (owU (HO.out.ext HX.out) (fun b hb => by rw [hW3]; exact set_other _ _ _ _ (by have := HLOW.out b hb; show b ≠ w.heap.size; omega)))
      rw [← hW3]
      clear hW3 d0 d1 d2 f1
      obtain ⟨d0, d1, d2⟩ := cells3U D3.out
      go_wp2
      go_loopw [19] (fun i wr => ∃ k : Nat, k ≤ L.length ∧ i = .int .i64 k ∧ Hid (Ow wr B (.slice ao L.length c) ((L.take k).map (fun s : Sd => { s with dirty := true }) ++ L.drop k)) ∧ Hid (wr.heap[w.heap.size]? = some (.cells #[.int .i64 id, .int .i64 2, .slice ao L.length c] 25 (0, 0)) ∧ wr.heap[w.heap.size + 1]? = some (.cells #[.int .i64 0, .int .i64 0, .slice none 0 0] 25 (0, 0))) ∧ Hid (Off (fun b => (Value.slice ao L.length c).ownBlock = some b) w wr)) (fun i _ => L.length - (intOf i).toNat)
      case atStart => exact ⟨0, Nat.zero_le _, rfl, by simpa using O3, Lib.hid ⟨D3.out, R3.out⟩, Lib.hid (Off.of_ext X3.out)⟩
      case round =>
        obtain ⟨k, hk, rfl, HK, HB, HF⟩ := hrel
        clear d0 d1 d2
        obtain ⟨d0, d1, d2⟩ := cells3U HB.out.1
        by_cases hlt : k < L.length
        · obtain ⟨s, hsk⟩ : ∃ s, L[k]? = some s := ⟨_, List.getElem?_eq_getElem hlt⟩
          obtain ⟨ea1, ea2⟩ := eatK_at (fun s : Sd => { s with dirty := true }) L k s hsk
          obtain ⟨b1, off, s', hsy, hsj, hao, hn, hnc, hc63, hb, hcs⟩ := HK.out.sl.sidesAt (k := k) (by rw [ea2]; exact hlt)
          subst hao
          obtain rfl : s' = s := by have := hsj.symm.trans ea1; simpa using this
          obtain ⟨⟨⟨x0, x1⟩, x2, x3⟩, ⟨x4, x5⟩, x6, x7⟩ := hcs wr (Ext.refl _)
          obtain ⟨z1, z2, z3, z4⟩ := Ow.setCell1 (i := 4) (x' := { s' with dirty := true }) (u := .bool true) HK.out hsj (by decide) rfl
          rw [eatK (fun s : Sd => { s with dirty := true }) L k s' hsk] at z4
          change wr.frozen? ⟨b1, off + k * 8 + 4, none⟩ = false at z3
          have Z4 := Lib.hid z4
          have Z1 := Lib.hid z1
          have hbw : b1 < w.heap.size := HLOW.out b1 rfl
          clear hsy hsj hcs hn ea1 ea2 hsk z4 z1 z2
          go_wp2
          go_roundw
          case rel => exact ⟨k + 1, by omega, by go_num, Lib.hid Z4.out, Lib.hid ⟨(set_other _ _ _ _ (by show w.heap.size ≠ b1; omega)).trans HB.out.1, (set_other _ _ _ _ (by show w.heap.size + 1 ≠ b1; omega)).trans HB.out.2⟩, Lib.hid (HF.out.trans ((off_set wr _ _).mono fun b hb => by rw [hb]; rfl) (Grows.refl _ _))⟩
          case measure => simp [intOf]; omega
        · have hkl : k = L.length := by omega
          have OK : Hid (Ow wr B (.slice ao L.length c) (dirtyAll L)) := Lib.hid (by
            have := HK.out
            rw [hkl, List.take_length, List.drop_length, List.append_nil] at this
            exact this)
          clear HK hkl
          go_upto_region 10 with (fail)
          go_wp2_with (first | refine haltst 25 ?_)
          refine .inl ?_
          refine st_l 25 (.tmp 2) (.tmp 28) (w.heap.size + 1) 0 25 #[.int .i64 0, .int .i64 0, .slice none 0 0] #[.int .i64 id, .int .i64 2, .slice ao L.length c] #[.int .i64 id, .int .i64 2, .slice ao L.length c] rfl rfl HB.out.2 (by kernel_rfl) (by simp) rfl rfl ?_
          intro W9 hW9 o9
          simp only [Act.put]
          go_wp2
          exact bodyPost_ret (v := .agg #[.int .i64 id, .int .i64 2, .slice ao L.length c]) (res_c rfl rfl hW9 uDiner (by kernel_rfl)) rfl (by
            rw [HR.out]
            exact ⟨rfl, owU OK.out (fun b hb => o9.block b (Nat.lt_of_lt_of_le (HLOW.out b hb) HF.out.size) (by have := HLOW.out b hb; omega)), ⟨o9.os.trans HF.out.os, o9.tape.trans HF.out.tape, o9.output.trans HF.out.output, Nat.le_trans HF.out.size o9.size, fun b hb hn => (o9.block b (Nat.lt_of_lt_of_le hb HF.out.size) (by omega)).trans (HF.out.block b hb hn)⟩⟩)

end Go.Proofs.Ytogbjpipkegecaa
