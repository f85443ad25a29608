/- The law's own nodes lie apart from all that was there. -/
import Derived.Test.YtdfleocknaackaaGreatMDR
namespace Go.Proofs.YtdfleocknaackaaGreat
open Go.RowKit

set_option maxRecDepth 100000 in
set_option maxHeartbeats 1000000 in
theorem ownDG_any (G F : Nat → Prop) (w : World) (v : Value) (L : List Dn) (h : Ns DV F w v L) (hG : ∀ k, G k → k < w.heap.size) (hl : L.length ≤ 1000) (hls : ∀ d ∈ L, d.sides.length ≤ 1000) :
    Calls Tryz.prog 53 #[v] w fun e w' => ∃ v', e = .returned v' ∧ Nw DV G w' w.heap.size v' L ∧ Ext w w' := by
  obtain ⟨ao, c, rfl⟩ := h.len
  have HS := Lib.hid h
  have HLS := Lib.hid hls
  have HGG := Lib.hid hG
  clear h hls hG
  go_enter Tryz.func53, Tryz.ntmps53
  go_wp2
  go_loopw [3, 4] (fun q i wr => ∃ k : Nat, k ≤ L.length ∧ i = .int .i64 k ∧ Hid (Nw DV G wr w.heap.size q (L.take k)) ∧ Hid (Ext w wr)) (fun _ i _ => L.length - (intOf i).toNat)
  case atStart => exact ⟨0, Nat.zero_le _, rfl, Lib.hid (Nw.lit (α := DV) (δ := Dn) _ w _ _ rfl (Nat.le_refl _)), Lib.hid ((Ext.refl _).alloc _)⟩
  case round =>
    obtain ⟨k, hk, rfl, HQ, HX⟩ := hrel
    have hwr : w.heap.size ≤ wr.heap.size := Below.size HX.out
    by_cases hlt : k < L.length
    · obtain ⟨b1, o1, so, sc, d, hyk, rfl, hn, hnc, hc63, hb, hsl, hcell⟩ := HS.out.dinerAt hlt
      obtain ⟨a0, a1, a2⟩ := hcell wr HX.out
      have HSL := Lib.hid (hsl.sl.ext HX.out)
      have hdl : d.sides.length ≤ 1000 := HLS.out d (List.mem_of_getElem? hyk)
      have HTK : Hid (L.take (k + 1) = L.take k ++ [d]) := Lib.hid (by rw [List.take_succ_eq_append_getElem hlt, (List.getElem?_eq_some_iff.1 hyk).2])
      obtain ⟨xs, hown, hxl, hel⟩ := HQ.out.any
      have HOW := Lib.hid hown
      have HXL := Lib.hid hxl
      have HEL := Lib.hid hel
      have hxs : xs.length ≤ 1000 := by rw [hxl]; simp; omega
      clear hcell hyk hn hsl hown hxl hel
      obtain ⟨d0, d1, d2⟩ := d
      dsimp only at a0 a1 a2 HSL hdl HTK
      go_wp2_with (first
        | (at_builtin; refine wpList_append_sl (α := Sd) rfl (.tmp 17) (.tmp 19) rfl (wr.heap.size + 1) _ [] rfl ?_ (.slice so d2.length sc) d2 rfl ?_ ?_ ?_ ?_; exact (Ow.litAt (wr.alloc (.cells #[.int .i64 d0, .int .i64 d1, .slice so d2.length sc] 49)) _ _ (by simp) (by simp) [] (by simp)); exact ((HSL.out.alloc _).alloc _); (first | omega | (simp; omega)); exact (by simp); intro v2 W2 ho2 ha2; obtain ⟨a2', n2, c2, rfl⟩ := ho2.sh; have hA2 : W2.heap[wr.heap.size]? = some (.cells #[.int .i64 d0, .int .i64 d1, .slice so d2.length sc] 49 (0, 0)) := (ha2.below.block _ (by omega)).trans (blk_alloc (get_alloc_new wr _) _); have e0 := blk_cell hA2 0 rfl; have e1 := blk_cell hA2 1 rfl; have e2 := blk_cell hA2 2 rfl; have f2 := blk_free hA2 2; have hbw := blk_lt hA2; have HA2 := Lib.hid hA2; have HO2 := Lib.hid ho2; have HX2 : Hid (Ext wr W2) := Lib.hid (Below.trans (((Ext.refl wr).alloc _).alloc _) (ha2.below.mono (by omega))); clear ho2 ha2 hA2)
        | (at_builtin; refine wpList_append_sl (α := DV) rfl (.tmp 22) (.tmp 24) rfl w.heap.size _ xs rfl ?_ (.slice (some ⟨_, 0, none⟩) 1 1) [(⟨d0, d1, a2', n2, c2⟩ : DV)] rfl ?_ ?_ ?_ ?_; exact ((HOW.out.ext (below_set HX2.out (Nat.le_refl _) _)).alloc _); exact (Sl.litAt _ _ (by simp) [(⟨d0, d1, a2', n2, c2⟩ : DV)] (show (1 : Nat) ≤ 1000000 by decide)); (first | omega | (simp; omega)); exact (by first | omega | (rw [size_alloc, set_size]; omega)); intro v3 W3 ho3 ha3; have hx : Nest.rd (Own1 G _) _ (⟨d0, d1, a2', n2, c2⟩ : DV) (⟨d0, d1, d2⟩ : Dn) := (⟨rfl, rfl, Sa.new ((HO2.out.set (d := ⟨wr.heap.size, 2, none⟩) (by show wr.heap.size < _; omega) (.slice a2' n2 c2)).alloc (.cells #[.int .i64 d0, .int .i64 d1, .slice a2' n2 c2] 49)) (fun k hk => by rcases hk with hk | hk; exact (by have := HGG.out k hk; omega); have := (HOW.out.low k hk).2; omega)⟩ : RdD _ _ _ _); have hst := Nw.step (α := DV) (δ := Dn) (F := G) (L := L.take k) HXL.out (fun j x e hx he => Nest.ext (HEL.out j x e hx he) (Ext.alloc (below_set HX2.out (Nat.le_refl _) _) _)) hx ho3 ha3; have HST := Lib.hid hst; have HX3 : Hid (Ext w W3) := Lib.hid (Below.trans (HX.out.trans (Ext.alloc (below_set HX2.out (Nat.le_refl _) _) _)) (ha3.below.mono (Nat.le_refl _))); clear ho3 ha3 hx hst))
      go_roundw
      case rel => exact ⟨k + 1, by omega, by go_num, Lib.hid (by rw [HTK.out]; exact HST.out), HX3⟩
      case measure => simp [intOf]; omega
    · have hkl : k = L.length := by omega
      have hq := HQ.out
      rw [hkl, List.take_length] at hq
      have HQ' := Lib.hid hq
      clear hq HQ hkl
      go_wp2
      go_ret
      exact ⟨_, rfl, HQ'.out, HX.out⟩

end Go.Proofs.YtdfleocknaackaaGreat
