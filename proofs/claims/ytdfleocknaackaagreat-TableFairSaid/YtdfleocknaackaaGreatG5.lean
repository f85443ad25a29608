/- Whether two nodes may have an edge; those edges of which something is told; edges joined. -/
import Derived.Test.YtdfleocknaackaaGreatMG
import Derived.Test.YtdfleocknaackaaGreatShelf
namespace Go.Proofs.YtdfleocknaackaaGreat
open Go.RowKit

theorem ends_bad {N : Int} {E : List Edge} {a b : Int} (h : ¬ OkG N E) : ends N E a b = 30 := by unfold ends; rw [if_neg (fun e => h (okG_iff.1 e))]
theorem ends_ok {N : Int} {E : List Edge} {a b : Int} (h : OkG N E) : ends N E a b = if badEnds N a b = true then 31 else 0 := by unfold ends; rw [if_pos (okG_iff.2 h)]

set_option maxHeartbeats 1000000 in
theorem those_e (w : World) (N : Int) (v fv : Value) (E : List Edge) (p : Edge → Bool) (h : Sl w v E) (ht : Tells Edge.val w fv p) (hlen : E.length ≤ 1000000) :
    Calls Tryz.prog 120 #[.agg #[.int .i64 N, v], fv] w (GivesOw w (E.filter p)) := by
  obtain ⟨g, lb, rfl, eg, hp⟩ := ht.any
  have HP := Lib.hid hp
  clear ht hp
  rcases h.edges with ⟨rfl, ao, c, rfl⟩ | ⟨b, off, c, rfl, hc, hc63, hb, hpos, hcell⟩
  · go_enter Tryz.func120, Tryz.ntmps120
    go_wp2
    refine wp_loop_rounds 1 ?_
    rw [rounds_succ]
    go_wp2
    go_ret
    exact ⟨_, rfl, Ow.nil _ _, (by repeat (first | exact Ext.refl _ | assumption | refine Ext.alloc ?_ _ | refine Ext.drew ?_ | refine Ext.drewN ?_ _))⟩
  · have HC := Lib.hid hcell
    clear hcell h
    go_enter Tryz.func120, Tryz.ntmps120
    go_wp2
    go_loopw [5, 11] (fun q i wr => ∃ k : Nat, k ≤ E.length ∧ i = .int .i64 k ∧ Hid (Ow wr w.heap.size q ((E.take k).filter p)) ∧ Hid (Ext w wr)) (fun _ i _ => E.length - (intOf i).toNat)
    case atStart => exact ⟨0, Nat.zero_le _, rfl, Lib.hid (by simpa using Ow.nil _ _), Lib.hid (by repeat (first | exact Ext.refl _ | assumption | refine Ext.alloc ?_ _ | refine Ext.drew ?_ | refine Ext.drewN ?_ _))⟩
    case round =>
      obtain ⟨k, hk, rfl, HO, HX⟩ := hrel
      by_cases hlt : k < E.length
      · have hya := (HX.out.cell (p := ⟨b, off + k * 2, none⟩) hb).trans (HC.out k hlt).1
        have hyb := (HX.out.cell (p := ⟨b, off + k * 2 + 1, none⟩) hb).trans (HC.out k hlt).2
        obtain ⟨⟨ya, yb⟩, hy⟩ : ∃ y, y = E.getD k ⟨0, 0⟩ := ⟨_, rfl⟩
        rw [← hy] at hya hyb
        have HN : Hid ((E.take (k + 1)).filter p = (E.take k).filter p ++ (if p ⟨ya, yb⟩ = true then [⟨ya, yb⟩] else [])) := Lib.hid (by rw [filter_next p hlt ⟨0, 0⟩, ← hy])
        clear hy
        obtain ⟨L, hL⟩ : ∃ L, L = (E.take k).filter p := ⟨_, rfl⟩
        have hLl : L.length ≤ 1000000 := by
          have := List.length_filter_le p (E.take k)
          rw [← hL] at this
          simp at this
          omega
        rw [← hL] at HO HN
        clear hL
        have hwr : w.heap.size ≤ wr.heap.size := HX.out.size
        obtain ⟨s, hs⟩ : ∃ s, p ⟨ya, yb⟩ = s := ⟨_, rfl⟩
        rw [hs] at HN
        have HH : Hid (∀ W, Ext w W → Calls Tryz.prog g (#[.agg #[.int .i64 ya, .int .i64 yb]] ++ lb) W fun e w' => e = .returned (.bool s) ∧ Ext W w') := Lib.hid fun W hW => hs ▸ HP.out W ⟨ya, yb⟩ hW
        clear hs
        cases s
        all_goals
          go_wp2_with (first
            | (go_at_fn g; refine (HH.out _ (HX.out.trans (by repeat (first | exact Ext.refl _ | assumption | refine Ext.alloc ?_ _ | refine Ext.drew ?_ | refine Ext.drewN ?_ _)))).mono ?_; rintro e w1 ⟨rfl, hx⟩; have z1 : Ext wr w1 := Ext.trans ((Ext.refl wr).alloc _) hx; have gA := box1 (hx.mono (by rw [size_alloc]; omega)); have g0 : w1.cell? ⟨wr.heap.size, 0, none⟩ = some (.int .i64 ya) := blk_cell gA 0 rfl; have g1 : w1.cell? ⟨wr.heap.size, 1, none⟩ = some (.int .i64 yb) := blk_cell gA 1 rfl; have y1 := Lib.hid (HX.out.trans z1); have O1 := Lib.hid (HO.out.ext z1); have hs1 : w.heap.size ≤ w1.heap.size := y1.out.size; clear hx gA)
            | (at_builtin; refine wpList_append_sl (α := Edge) rfl (.tmp 18) (.tmp 20) rfl w.heap.size _ L rfl ?_ (.slice (some ⟨_, 0, none⟩) 1 1) [Edge.mk ya yb] rfl ?_ ?_ ?_ ?_; exact (O1.out.alloc _); exact (Sl.litAt w1 _ rfl [Edge.mk ya yb] (by simp)); (first | omega | (simp; omega)); (simp; omega); intro v2 W2 ho2 ha2; have O2 := Lib.hid ho2; have y2 : Hid (Ext w W2) := Lib.hid (Below.trans (y1.out.alloc _) ha2.below); clear ho2 ha2))
          go_roundw
          case rel => exact ⟨k + 1, by omega, by go_num, Lib.hid (by rw [HN.out]; first | exact O2.out | simpa using O1.out), by first | exact y2 | exact y1⟩
          case measure => simp [intOf]; omega
      · have hkl : k = E.length := by omega
        have ho := HO.out
        rw [hkl, List.take_length] at ho
        have HO' := Lib.hid ho
        clear ho HO hkl
        go_wp2
        go_ret
        exact ⟨_, rfl, HO'.out, HX.out⟩

end Go.Proofs.YtdfleocknaackaaGreat
