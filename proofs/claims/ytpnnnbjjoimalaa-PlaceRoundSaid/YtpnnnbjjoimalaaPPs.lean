/- Layer 12, the program: a node's side to a peer; a side as it is laid at first. -/
import Derived.Test.YtpnnnbjjoimalaaDR1
import Derived.Deep.DeepCutAuto
import Derived.Deep.CutBlock
namespace Go.Proofs.Ytpnnnbjjoimalaa
open Go.RowKit

theorem cells8P {w : World} {g : Nat} {u0 u1 u2 u3 u4 u5 u6 u7 : Value} {t : TypeId} (h : w.heap[g]? = some (.cells #[u0, u1, u2, u3, u4, u5, u6, u7] t (0, 0))) :
    ((w.cell? ⟨g, 0, none⟩ = some u0 ∧ w.cell? ⟨g, 1, none⟩ = some u1) ∧ w.cell? ⟨g, 2, none⟩ = some u2 ∧ w.cell? ⟨g, 3, none⟩ = some u3) ∧ (w.cell? ⟨g, 4, none⟩ = some u4 ∧ w.cell? ⟨g, 5, none⟩ = some u5) ∧ w.cell? ⟨g, 6, none⟩ = some u6 ∧ w.cell? ⟨g, 7, none⟩ = some u7 :=
  ⟨⟨⟨blk_cell h 0 rfl, blk_cell h 1 rfl⟩, blk_cell h 2 rfl, blk_cell h 3 rfl⟩, ⟨blk_cell h 4 rfl, blk_cell h 5 rfl⟩, blk_cell h 6 rfl, blk_cell h 7 rfl⟩

set_option maxRecDepth 100000 in
set_option maxHeartbeats 2000000 in
theorem pSide_any (w : World) (id phase : Int) (v : Value) (L : List Sd) (p : Int) (h : Sl w v L) (s : Sd) (b : Bool) (hr : sideR L p = (s, b)) :
    Calls Try.prog 20 #[.agg #[.int .i64 id, .int .i64 phase, v], .int .i64 p] w fun e w' => e = .returned (.tuple #[.agg s.cs, .bool b]) ∧ Ext w w' := by
  obtain ⟨ao, c, rfl⟩ := h.len
  have HS := Lib.hid h
  have hlen := h.length_le
  have HR := Lib.hid hr
  have HK : Hid (∀ V, Ext ((w.alloc (.cells #[.int .i64 id, .int .i64 phase, .slice ao L.length c] 39)).alloc (.cells Sd.zero.cs 49)) V → (V.cell? ⟨w.heap.size, 2, none⟩ = some (.slice ao L.length c)) ∧ V.heap[w.heap.size + 1]? = some (.cells Sd.zero.cs 49 (0, 0))) := Lib.hid fun V hV => by
    obtain ⟨hA, hB⟩ := box2 (hV.mono (by rw [size_alloc, size_alloc]; omega))
    exact ⟨blk_cell hA 2 rfl, hB⟩
  have X0 : Ext w ((w.alloc (.cells #[.int .i64 id, .int .i64 phase, .slice ao L.length c] 39)).alloc (.cells Sd.zero.cs 49)) := ((Ext.refl w).alloc _).alloc _
  have HX0 := Lib.hid X0
  clear h hr X0
  go_enter Try.func20, Try.ntmps20
  go_wp2
  go_loopw [11] (fun i wr => ∃ k : Nat, k ≤ L.length ∧ i = .int .i64 k ∧ Hid ((L.take k).any (fun s => s.peer == p) = false) ∧ Hid (Ext ((w.alloc (.cells #[.int .i64 id, .int .i64 phase, .slice ao L.length c] 39)).alloc (.cells Sd.zero.cs 49)) wr)) (fun i _ => L.length - (intOf i).toNat)
  case atStart => exact ⟨0, Nat.zero_le _, rfl, Lib.hid rfl, Lib.hid (Ext.refl _)⟩
  case round =>
    obtain ⟨k, hk, rfl, HT, HX⟩ := hrel
    obtain ⟨kd, kb⟩ := HK.out wr HX.out
    have HB := Lib.hid kb
    clear kb kd
    by_cases hlt : k < L.length
    · obtain ⟨b1, off, y, hy, hyk, rfl, hn, hnc, hc63, hb, hcell⟩ := HS.out.sidesAt hlt
      obtain ⟨⟨⟨h0, h1⟩, h2, h3⟩, ⟨h4, h5⟩, h6, h7⟩ := hcell wr (HX0.out.trans HX.out)
      have HN := Lib.hid (any_nextD (fun s : Sd => s.peer == p) hyk)
      have HYK := Lib.hid hyk
      have HA : Hid (Ext ((w.alloc (.cells #[.int .i64 id, .int .i64 phase, .slice (some ⟨b1, off, none⟩) L.length c] 39)).alloc (.cells Sd.zero.cs 49)) (wr.alloc (.cells y.cs 49))) := Lib.hid (HX.out.alloc _)
      have HBX := Lib.hid (at0 wr (.cells y.cs 49))
      have HB2 := Lib.hid (blk_alloc HB.out (.cells y.cs 49))
      obtain ⟨y0, y1, y2, y3, y4, y5, y6, y7⟩ := y
      dsimp only at h0 h1 h2 h3 h4 h5 h6 h7
      dsimp only [Sd.cs] at HA HBX
      clear hcell hy hyk hn
      go_upto_region 4 with (fail)
      obtain ⟨⟨⟨q0, q1⟩, q2, q3⟩, ⟨q4, q5⟩, q6, q7⟩ := cells8P HBX.out
      cases ht : (y0 == p)
      · have HF : Hid ((L.take (k + 1)).any (fun s => s.peer == p) = false) := Lib.hid (HN.out.trans (by rw [HT.out]; exact ht))
        go_wp2
        go_roundw
        case rel => exact ⟨k + 1, by omega, by go_num, HF, HA⟩
        case measure => simp [intOf]; omega
      · have HE := Lib.hid (HR.out.symm.trans (sideR_at HT.out HYK.out ht))
        go_wp2_with (first | refine haltst 49 ?_)
        refine .inl ?_
        refine st_l 49 (.tmp 4) (.tmp 19) (w.heap.size + 1) 0 49 Sd.zero.cs (Sd.cs ⟨y0, y1, y2, y3, y4, y5, y6, y7⟩) (Sd.cs ⟨y0, y1, y2, y3, y4, y5, y6, y7⟩) rfl rfl HB2.out (by kernel_rfl) (by simp [Sd.cs, Sd.zero]) rfl rfl ?_
        intro W hW oW
        simp only [Act.put]
        go_wp2
        refine bodyPost_ret (v := .tuple #[.agg (Sd.cs ⟨y0, y1, y2, y3, y4, y5, y6, y7⟩), .bool true]) (res_ct 5 rfl rfl hW uSide (by kernel_rfl)) rfl ⟨?_, ?_⟩
        · have := HE.out
          simp only [Prod.mk.injEq] at this
          rw [this.1, this.2]
        · exact ext_off (HX0.out.trans HA.out) oW (fun k hk => by omega)
    · have hkl : k = L.length := by omega
      have HE : Hid ((s, b) = (Sd.zero, false)) := Lib.hid (HR.out.symm.trans (sideR_none (by have := HT.out; rwa [hkl, List.take_length] at this)))
      go_wp2_with (first | refine haltst 49 ?_)
      refine .inl ?_
      refine st_l 49 (.tmp 4) (.tmp 21) (w.heap.size + 1) 0 49 Sd.zero.cs Sd.zero.cs Sd.zero.cs rfl rfl HB.out (by kernel_rfl) (by simp [Sd.cs, Sd.zero]) rfl rfl ?_
      intro W hW oW
      simp only [Act.put]
      go_wp2
      refine bodyPost_ret (v := .tuple #[.agg Sd.zero.cs, .bool false]) (res_ct 5 rfl rfl hW uSide (by kernel_rfl)) rfl ⟨?_, ?_⟩
      · have := HE.out
        simp only [Prod.mk.injEq] at this
        rw [this.1, this.2]
      · exact ext_off (HX0.out.trans HX.out) oW (fun k hk => by omega)

end Go.Proofs.Ytpnnnbjjoimalaa
