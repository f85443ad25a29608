/- Layer 12, the document's answers: a node's side to a peer. -/
import Derived.Test.YtpjpjchnfllcmaaMN
import Derived.Test.YtpjpjchnfllcmaaMK
import Derived.BigGuard
import Derived.IntWalk
namespace Go.Proofs.Ytpjpjchnfllcmaa
open Go.RowKit

theorem uSide : ∃ fs, Try.prog.underlying 53 = some (.struct fs) := ⟨_, Try.underlying53⟩
def sideR (L : List Sd) (p : Int) : Sd × Bool := match L.find? (fun s => s.peer == p) with
  | some s => (s, true)
  | none => (Sd.zero, false)
theorem sideR_at {L : List Sd} {p : Int} {k : Nat} {y : Sd} (h : (L.take k).any (fun s => s.peer == p) = false) (hy : L[k]? = some y) (hp : (y.peer == p) = true) : sideR L p = (y, true) := by
  have hk := (List.getElem?_eq_some_iff.1 hy).1
  have e : L = L.take k ++ y :: L.drop (k + 1) := by
    have := (List.getElem?_eq_some_iff.1 hy).2
    rw [← this, List.getElem_cons_drop hk, List.take_append_drop]
  unfold sideR
  rw [e, List.find?_append]
  have h2 : (L.take k).find? (fun s => s.peer == p) = none := by
    rw [List.find?_eq_none]
    intro x hx
    have := List.any_eq_false.1 h x hx
    simpa using this
  rw [h2]
  simp [hp]
theorem sideR_none {L : List Sd} {p : Int} (h : L.any (fun s => s.peer == p) = false) : sideR L p = (Sd.zero, false) := by
  unfold sideR
  have h2 : L.find? (fun s => s.peer == p) = none := by
    rw [List.find?_eq_none]
    intro x hx
    have := List.any_eq_false.1 h x hx
    simpa using this
  rw [h2]
theorem any_nextD {α : Type} {xs : List α} {k : Nat} {y : α} (p : α → Bool) (h : xs[k]? = some y) : (xs.take (k + 1)).any p = ((xs.take k).any p || p y) := by
  have hk := (List.getElem?_eq_some_iff.1 h).1
  rw [List.take_succ_eq_append_getElem hk, List.any_append]
  have := (List.getElem?_eq_some_iff.1 h).2
  simp [this]

set_option maxRecDepth 100000 in
set_option maxHeartbeats 1000000 in
theorem refSide_any (w : World) (id phase : Int) (v : Value) (L : List Sd) (p : Int) (h : Sl w v L) (s : Sd) (b : Bool) (hr : sideR L p = (s, b)) :
    Calls Try.prog 27 #[.agg #[.int .i64 id, .int .i64 phase, v], .int .i64 p] w fun e w' => e = .returned (.tuple #[.agg s.cs, .bool b]) ∧ Ext w w' := by
  obtain ⟨ao, c, rfl⟩ := h.len
  have HS := Lib.hid h
  have hlen := h.length_le
  have HR := Lib.hid hr
  have HK : Hid (∀ V, Ext ((w.alloc (.cells #[.int .i64 id, .int .i64 phase, .slice ao L.length c] 25)).alloc (.cells Sd.zero.cs 53)) V → (V.cell? ⟨w.heap.size, 2, none⟩ = some (.slice ao L.length c)) ∧ V.heap[w.heap.size + 1]? = some (.cells Sd.zero.cs 53 (0, 0))) := Lib.hid fun V hV => by
    obtain ⟨hA, hB⟩ := box2 (hV.mono (by rw [size_alloc, size_alloc]; omega))
    exact ⟨blk_cell hA 2 rfl, hB⟩
  have X0 : Ext w ((w.alloc (.cells #[.int .i64 id, .int .i64 phase, .slice ao L.length c] 25)).alloc (.cells Sd.zero.cs 53)) := ((Ext.refl w).alloc _).alloc _
  have HX0 := Lib.hid X0
  clear h hr X0
  go_enter Try.func27, Try.ntmps27
  go_wp2
  go_loopw [6] (fun i wr => ∃ k : Nat, k ≤ L.length ∧ i = .int .i64 k ∧ Hid ((L.take k).any (fun s => s.peer == p) = false) ∧ Hid (Ext ((w.alloc (.cells #[.int .i64 id, .int .i64 phase, .slice ao L.length c] 25)).alloc (.cells Sd.zero.cs 53)) wr)) (fun i _ => L.length - (intOf i).toNat)
  case atStart => exact ⟨0, Nat.zero_le _, rfl, Lib.hid rfl, Lib.hid (Ext.refl _)⟩
  case round =>
    obtain ⟨k, hk, rfl, HT, HX⟩ := hrel
    obtain ⟨kd, kb⟩ := HK.out wr HX.out
    have HB := Lib.hid kb
    clear kb
    by_cases hlt : k < L.length
    · obtain ⟨b1, off, y, hy, hyk, rfl, hn, hnc, hc63, hb, hcell⟩ := HS.out.sidesAt hlt
      obtain ⟨⟨⟨h0, h1⟩, h2, h3⟩, ⟨h4, h5⟩, h6, h7⟩ := hcell wr (HX0.out.trans HX.out)
      have HN := Lib.hid (any_nextD (fun s : Sd => s.peer == p) hyk)
      have HYK := Lib.hid hyk
      obtain ⟨y0, y1, y2, y3, y4, y5, y6, y7⟩ := y
      dsimp only at h0 h1 h2 h3 h4 h5 h6 h7
      clear hcell hy hyk hn
      cases ht : (y0 == p)
      · have HF : Hid ((L.take (k + 1)).any (fun s => s.peer == p) = false) := Lib.hid (HN.out.trans (by rw [HT.out]; exact ht))
        clear h1 h2 h3 h4 h5 h6 h7
        go_wp2
        go_roundw
        case rel => exact ⟨k + 1, by omega, by go_num, HF, HX⟩
        case measure => simp [intOf]; omega
      · have HE := Lib.hid (HR.out.symm.trans (sideR_at HT.out HYK.out ht))
        go_wp2_with (first | refine haltst 53 ?_)
        refine .inl ?_
        refine st_l 53 (.tmp 4) (.tmp 26) (w.heap.size + 1) 0 53 Sd.zero.cs (Sd.cs ⟨y0, y1, y2, y3, y4, y5, y6, y7⟩) (Sd.cs ⟨y0, y1, y2, y3, y4, y5, y6, y7⟩) rfl rfl HB.out (by kernel_rfl) (by simp [Sd.cs, Sd.zero]) rfl rfl ?_
        intro W hW oW
        simp only [Act.put]
        go_wp2
        refine bodyPost_ret (v := .tuple #[.agg (Sd.cs ⟨y0, y1, y2, y3, y4, y5, y6, y7⟩), .bool true]) (res_ct 5 rfl rfl hW uSide (by kernel_rfl)) rfl ⟨?_, ?_⟩
        · have := HE.out
          simp only [Prod.mk.injEq] at this
          rw [this.1, this.2]
        · exact ext_off (HX0.out.trans HX.out) oW (fun k hk => by omega)
    · have hkl : k = L.length := by omega
      have HE : Hid ((s, b) = (Sd.zero, false)) := Lib.hid (HR.out.symm.trans (sideR_none (by have := HT.out; rwa [hkl, List.take_length] at this)))
      go_wp2_with (first | refine haltst 53 ?_)
      refine .inl ?_
      refine st_l 53 (.tmp 4) (.tmp 27) (w.heap.size + 1) 0 53 Sd.zero.cs Sd.zero.cs Sd.zero.cs rfl rfl HB.out (by kernel_rfl) (by simp [Sd.cs, Sd.zero]) rfl rfl ?_
      intro W hW oW
      simp only [Act.put]
      go_wp2
      refine bodyPost_ret (v := .tuple #[.agg Sd.zero.cs, .bool false]) (res_ct 5 rfl rfl hW uSide (by kernel_rfl)) rfl ⟨?_, ?_⟩
      · have := HE.out
        simp only [Prod.mk.injEq] at this
        rw [this.1, this.2]
      · exact ext_off (HX0.out.trans HX.out) oW (fun k hk => by omega)

end Go.Proofs.Ytpjpjchnfllcmaa
