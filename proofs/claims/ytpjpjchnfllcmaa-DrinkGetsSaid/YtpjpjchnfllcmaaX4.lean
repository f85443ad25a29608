/- Layer 15, the program: the peers of whose sides something is told; whether two drinkers are the same; whether a drinker may be. -/
import Derived.Test.YtpjpjchnfllcmaaX1
import Derived.Test.YtpjpjchnfllcmaaX2
import Derived.Test.YtpjpjchnfllcmaaUI
namespace Go.Proofs.Ytpjpjchnfllcmaa
open Go.RowKit

def sval (s : Sd) : Value := .agg s.cs
def peersL (p : Sd → Bool) (L : List Sd) : List Int := (L.filter p).map (·.peer)
theorem peersL_next {p : Sd → Bool} {L : List Sd} {k : Nat} {s : Sd} (h : L[k]? = some s) : peersL p (L.take (k + 1)) = peersL p (L.take k) ++ (if p s = true then [s.peer] else []) := by
  have hk := (List.getElem?_eq_some_iff.1 h).1
  unfold peersL
  rw [List.take_succ_eq_append_getElem hk, (List.getElem?_eq_some_iff.1 h).2, List.filter_append, List.map_append]
  congr 1
  by_cases hq : p s = true <;> simp [hq]
theorem peersL_len (p : Sd → Bool) (L : List Sd) : (peersL p L).length ≤ L.length := by
  unfold peersL; rw [List.length_map]; exact List.length_filter_le _ _

set_option maxRecDepth 100000 in
set_option maxHeartbeats 4000000 in
theorem peers_any (w : World) (id ph th : Int) (v nv fv : Value) (L : List Sd) (N : List Int) (p : Sd → Bool) (h : Sl w v L) (hN : Sl w nv N) (ht : Tells sval w fv p) (hl : L.length ≤ 1000) :
    Calls Try.prog 40 #[.agg #[.int .i64 id, .int .i64 ph, v, .int .i64 th, nv], fv] w (GivesOw w (peersL p L)) := by
  obtain ⟨ao, c, rfl⟩ := h.len
  obtain ⟨na, nc, rfl⟩ := hN.len
  have hlen := h.length_le
  obtain ⟨g, lb, rfl, eg, hp⟩ := ht.any
  obtain ⟨W0, hW0⟩ : ∃ W0, W0 = w.alloc (.cells #[.int .i64 id, .int .i64 ph, .slice ao L.length c, .int .i64 th, .slice na N.length nc] 29) := ⟨_, rfl⟩
  have X0 : Hid (Ext w W0) := Lib.hid (hW0 ▸ (Ext.refl w).alloc _)
  have b0 : W0.heap[w.heap.size]? = some (.cells #[.int .i64 id, .int .i64 ph, .slice ao L.length c, .int .i64 th, .slice na N.length nc] 29 (0, 0)) := hW0 ▸ at0 w _
  obtain ⟨⟨d0, d1, d2⟩, d3, d4⟩ := cells5 b0
  have HW0 := Lib.hid hW0
  have HZ0 : Hid (w.heap.size + 1 ≤ W0.heap.size) := Lib.hid (by rw [hW0, size_alloc]; omega)
  have HSw := Lib.hid h
  have HP := Lib.hid hp
  clear h hN hW0 b0 ht hp
  go_enter Try.func40, Try.ntmps40
  go_upto_region 1 with (fail)
  rw [← HW0.out]
  go_wp2
  go_loopw [5, 12] (fun q i wr => ∃ (k : Nat) (fo : Option Addr) (fn fc : Nat), k ≤ L.length ∧ i = .int .i64 k ∧ q = .slice fo fn fc ∧ Hid (Ow wr (w.heap.size + 1) (.slice fo fn fc) (peersL p (L.take k))) ∧ Hid (Ext w wr) ∧ Hid (w.heap.size + 1 ≤ wr.heap.size)) (fun _ i _ => L.length - (intOf i).toNat)
  case atStart => exact ⟨0, none, 0, 0, Nat.zero_le _, rfl, rfl, Lib.hid (Ow.nil _ _), X0, HZ0⟩
  case round =>
    obtain ⟨k, fo, fn, fc, hk, rfl, rfl, HO, HX, HZ⟩ := hrel
    by_cases hlt : k < L.length
    · obtain ⟨b1, off, s, hsy, hsj, rfl, hn, hnc, hc63, hb, hcs⟩ := HSw.out.sidesAt hlt
      obtain ⟨⟨⟨x0, x1⟩, x2, x3⟩, ⟨x4, x5⟩, x6, x7⟩ := hcs wr HX.out
      have HNX := Lib.hid (peersL_next (p := p) hsj)
      obtain ⟨P, hP⟩ : ∃ P, peersL p (L.take k) = P := ⟨_, rfl⟩
      have hPl : P.length ≤ 1000 := by rw [← hP]; have := peersL_len p (L.take k); rw [List.length_take] at this; omega
      rw [hP] at HO HNX
      obtain ⟨q, hq⟩ : ∃ q, p s = q := ⟨_, rfl⟩
      rw [hq] at HNX
      have HH : Hid (∀ W, Ext w W → Calls Try.prog g (#[.agg s.cs] ++ lb) W fun e w' => e = .returned (.bool q) ∧ Ext W w') := Lib.hid fun W hW => hq ▸ HP.out W s hW
      clear hsy hsj hcs hn hP hq
      obtain ⟨y0, y1, y2, y3, y4, y5, y6, y7⟩ := s
      unfold Sd.cs at HH
      dsimp only at x0 x1 x2 x3 x4 x5 x6 x7 HH HNX
      go_upto_region 5 with (fail)
      obtain ⟨W1, hW1⟩ : ∃ W1, W1 = wr.alloc (.cells #[.int .i64 y0, .int .i64 y1, .int .i64 y2, .bool y3, .bool y4, .bool y5, .bool y6, .bool y7] 53) := ⟨_, rfl⟩
      have X1 : Hid (Ext wr W1) := Lib.hid (hW1 ▸ (Ext.refl wr).alloc _)
      have B1 : Hid (W1.heap[wr.heap.size]? = some (.cells #[.int .i64 y0, .int .i64 y1, .int .i64 y2, .bool y3, .bool y4, .bool y5, .bool y6, .bool y7] 53 (0, 0))) := Lib.hid (hW1 ▸ at0 wr _)
      rw [← hW1]
      clear hW1 x0 x1 x2 x3 x4 x5 x6 x7
      obtain ⟨⟨⟨x0, x1⟩, x2, x3⟩, ⟨x4, x5⟩, x6, x7⟩ := cells8U B1.out
      cases q
      · go_wp2_with (go_at_fn g; refine (HH.out W1 (HX.out.trans X1.out)).mono ?_; rintro e w2 ⟨rfl, hx⟩; have X2 := Lib.hid (X1.out.trans hx); clear hx)
        go_roundw
        case rel => exact ⟨k + 1, _, _, _, by omega, by go_num, rfl, Lib.hid (by rw [HNX.out]; simpa using HO.out.ext X2.out), Lib.hid (HX.out.trans X2.out), Lib.hid (Nat.le_trans HZ.out (Below.size X2.out))⟩
        case measure => simp [intOf]; omega
      · go_upto_region 6 with (go_at_fn g; refine (HH.out W1 (HX.out.trans X1.out)).mono ?_; rintro e w2 ⟨rfl, hx⟩; have X2 := Lib.hid (X1.out.trans hx); have B2 := Lib.hid (keepU B1.out hx); clear hx)
        have O2 := Lib.hid (HO.out.ext X2.out)
        have hs2 : w.heap.size + 1 ≤ w2.heap.size := Nat.le_trans HZ.out (Below.size X2.out)
        clear x0 x1 x2 x3 x4 x5 x6 x7
        obtain ⟨⟨⟨x0, x1⟩, x2, x3⟩, ⟨x4, x5⟩, x6, x7⟩ := cells8U B2.out
        go_wp2_with (first
          | (at_builtin; refine wpList_append_sl (α := Int) rfl (.tmp 19) (.tmp 22) rfl (w.heap.size + 1) (.slice fo fn fc) P rfl ?_ (.slice (some ⟨_, 0, none⟩) 1 1) [y0] rfl ?_ ?_ ?_ ?_; exact (O2.out.alloc _); exact (Sl.litAt w2 _ rfl [y0] (by simp)); (first | omega | (simp; omega)); (rw [size_alloc]; omega); intro v3 W3 ho3 ha3; obtain ⟨a3, n3, c3, rfl⟩ := ho3.sh; have O3 := Lib.hid ho3; have X3 : Hid (Ext w W3) := Lib.hid (Below.trans ((HX.out.trans X2.out).alloc _) (ha3.below.mono (by omega))); have Z3 : Hid (w.heap.size + 1 ≤ W3.heap.size) := Lib.hid (Nat.le_trans (by rw [size_alloc]; omega) ha3.below.size); clear ho3 ha3))
        go_roundw
        case rel => exact ⟨k + 1, _, _, _, by omega, by go_num, rfl, Lib.hid (by rw [HNX.out]; exact O3.out), X3, Z3⟩
        case measure => simp [intOf]; omega
    · have hkl : k = L.length := by omega
      have HE : Hid (Ow wr (w.heap.size + 1) (.slice fo fn fc) (peersL p L)) := Lib.hid (by have := HO.out; rwa [hkl, List.take_length] at this)
      clear HO hkl
      go_wp2
      go_ret
      exact ⟨_, rfl, HE.out.mono (by omega), HX.out⟩

set_option maxRecDepth 100000 in
set_option maxHeartbeats 4000000 in
theorem dkSame_any (w : World) (id1 ph1 th1 id2 ph2 th2 : Int) (v1 v2 n1 n2 : Value) (L M : List Sd) (N K : List Int) (h : Sl w v1 L) (g : Sl w v2 M) (hn : Sl w n1 N) (gn : Sl w n2 K) (t : Bool) (ht : decide ((⟨id1, ph1, L, th1, N⟩ : Dk) = ⟨id2, ph2, M, th2, K⟩) = t) :
    Calls Try.prog 14 #[.agg #[.int .i64 id1, .int .i64 ph1, v1, .int .i64 th1, n1], .agg #[.int .i64 id2, .int .i64 ph2, v2, .int .i64 th2, n2]] w fun e w' => e = .returned (.bool t) ∧ Ext w w' := by
  rw [dk_eq] at ht
  obtain ⟨ao, c, rfl⟩ := h.len
  obtain ⟨bo, c2, rfl⟩ := g.len
  obtain ⟨na, nc, rfl⟩ := hn.len
  obtain ⟨nb, nc2, rfl⟩ := gn.len
  obtain ⟨W0, hW0⟩ : ∃ W0, W0 = (w.alloc (.cells #[.int .i64 id1, .int .i64 ph1, .slice ao L.length c, .int .i64 th1, .slice na N.length nc] 29)).alloc (.cells #[.int .i64 id2, .int .i64 ph2, .slice bo M.length c2, .int .i64 th2, .slice nb K.length nc2] 29) := ⟨_, rfl⟩
  have X0 : Hid (Ext w W0) := Lib.hid (hW0 ▸ ((Ext.refl w).alloc _).alloc _)
  have b1 : W0.heap[w.heap.size]? = _ := hW0 ▸ old1 (at0 w _) _
  have b2 : W0.heap[w.heap.size + 1]? = _ := hW0 ▸ at1 w _ _
  have HK1 : Hid (∀ V, Ext W0 V → _) := Lib.hid fun V hV => cells5 (keepU b1 hV)
  have HK2 : Hid (∀ V, Ext W0 V → _) := Lib.hid fun V hV => cells5 (keepU b2 hV)
  have HS := Lib.hid (h.ext X0.out)
  have HG := Lib.hid (g.ext X0.out)
  have HN := Lib.hid (hn.ext X0.out)
  have HM := Lib.hid (gn.ext X0.out)
  have HW0 := Lib.hid hW0
  obtain ⟨s, hs⟩ : ∃ s, decide ((⟨id1, ph1, L⟩ : Dn) = ⟨id2, ph2, M⟩) = s := ⟨_, rfl⟩
  obtain ⟨r, hr⟩ : ∃ r, decide (N = K) = r := ⟨_, rfl⟩
  rw [hs, hr] at ht
  have HD := Lib.hid hs
  have HR := Lib.hid hr
  have HT := Lib.hid ht
  clear h g hn gn hW0 b1 b2 hs hr ht
  cases s
  · go_enter Try.func14, Try.ntmps14
    go_upto_region 1 with (fail)
    rw [← HW0.out]
    obtain ⟨⟨a0, a1, a2⟩, a3, a4⟩ := HK1.out W0 (Ext.refl _)
    obtain ⟨⟨c0, c1, c2⟩, c3, c4⟩ := HK2.out W0 (Ext.refl _)
    go_wp2_with (go_at_call 32; refine (same_any W0 id1 ph1 id2 ph2 _ _ L M HS.out HG.out false HD.out).mono ?_; rintro e w1 ⟨rfl, x1⟩; have X1 := Lib.hid x1; clear x1)
    go_ret
    exact ⟨ret_bool (by rw [← HT.out]; rfl), X0.out.trans X1.out⟩
  by_cases e : th1 = th2
  · have hd : (th1 == th2) = true := by simpa using e
    have HE : Hid (decide (th1 = th2) = true) := Lib.hid (decide_eq_true e)
    clear e
    go_enter Try.func14, Try.ntmps14
    go_upto_region 1 with (fail)
    rw [← HW0.out]
    obtain ⟨⟨a0, a1, a2⟩, a3, a4⟩ := HK1.out W0 (Ext.refl _)
    obtain ⟨⟨c0, c1, c2⟩, c3, c4⟩ := HK2.out W0 (Ext.refl _)
    go_wp2_with (first
      | (go_at_call 32; refine (same_any W0 id1 ph1 id2 ph2 _ _ L M HS.out HG.out true HD.out).mono ?_; rintro e w1 ⟨rfl, x1⟩; have X1 := Lib.hid x1; clear a0 a1 a2 a3 a4 c0 c1 c2 c3 c4; obtain ⟨⟨a0, a1, a2⟩, a3, a4⟩ := HK1.out w1 x1; obtain ⟨⟨c0, c1, c2⟩, c3, c4⟩ := HK2.out w1 x1; clear x1)
      | (go_at_call 33; refine (equal_i _ _ _ N K (HN.out.ext X1.out) (HM.out.ext X1.out) r HR.out).mono ?_; rintro e w2 ⟨rfl, x2⟩; have X2 := Lib.hid x2; clear x2))
    go_ret
    exact ⟨ret_bool (by rw [← HT.out, HE.out]; rfl), (X0.out.trans X1.out).trans X2.out⟩
  · have hd : (th1 == th2) = false := by simpa using e
    have HE : Hid (decide (th1 = th2) = false) := Lib.hid (decide_eq_false e)
    clear e
    go_enter Try.func14, Try.ntmps14
    go_upto_region 1 with (fail)
    rw [← HW0.out]
    obtain ⟨⟨a0, a1, a2⟩, a3, a4⟩ := HK1.out W0 (Ext.refl _)
    obtain ⟨⟨c0, c1, c2⟩, c3, c4⟩ := HK2.out W0 (Ext.refl _)
    go_wp2_with (go_at_call 32; refine (same_any W0 id1 ph1 id2 ph2 _ _ L M HS.out HG.out true HD.out).mono ?_; rintro e w1 ⟨rfl, x1⟩; have X1 := Lib.hid x1; clear a0 a1 a2 a3 a4 c0 c1 c2 c3 c4; obtain ⟨⟨a0, a1, a2⟩, a3, a4⟩ := HK1.out w1 x1; obtain ⟨⟨c0, c1, c2⟩, c3, c4⟩ := HK2.out w1 x1; clear x1)
    go_ret
    exact ⟨ret_bool (by rw [← HT.out, HE.out]; rfl), X0.out.trans X1.out⟩

theorem tellsAny (w : World) : Tells sval w (.func (.func 37) #[] #[]) (fun _ => true) :=
  ⟨37, _, rfl, enters_of Try.func37 (by kernel_rfl) rfl, fun W s hb => by
    obtain ⟨y0, y1, y2, y3, y4, y5, y6, y7⟩ := s
    change Calls Try.prog _ #[.agg #[.int .i64 y0, .int .i64 y1, .int .i64 y2, .bool y3, .bool y4, .bool y5, .bool y6, .bool y7]] W _
    clear hb
    go_enter Try.func37, Try.ntmps37
    go_wp2
    go_ret
    exact ⟨rfl, (Ext.refl W).alloc _⟩⟩
theorem tellsLive (w : World) : Tells sval w (.func (.func 47) #[] #[]) (fun s => decide (s.state = 0)) :=
  ⟨47, _, rfl, enters_of Try.func47 (by kernel_rfl) rfl, fun W s hb => by
    obtain ⟨y0, y1, y2, y3, y4, y5, y6, y7⟩ := s
    change Calls Try.prog _ #[.agg #[.int .i64 y0, .int .i64 y1, .int .i64 y2, .bool y3, .bool y4, .bool y5, .bool y6, .bool y7]] W _
    dsimp only
    have x2 := blk_cell (at0 W (.cells #[.int .i64 y0, .int .i64 y1, .int .i64 y2, .bool y3, .bool y4, .bool y5, .bool y6, .bool y7] 53)) 2 rfl
    have HX : Hid (Ext W (W.alloc (.cells #[.int .i64 y0, .int .i64 y1, .int .i64 y2, .bool y3, .bool y4, .bool y5, .bool y6, .bool y7] 53))) := Lib.hid ((Ext.refl W).alloc _)
    clear hb
    go_enter Try.func47, Try.ntmps47
    go_wp2
    go_ret
    exact ⟨rfl, HX.out⟩⟩
end Go.Proofs.Ytpjpjchnfllcmaa
