/- The arcs as a table: whether there is one from a node to another one. -/
import Derived.Test.YtpnnnbjjoimalaaD2
import Derived.StillTailTactics
namespace Go.Proofs.Ytpnnnbjjoimalaa
open Go.RowKit

/-- What the table's closure tells. -/
structure Leads (w : World) (fv : Value) (L : List Arc) : Prop where
  any : ∃ g lb, fv = .func (.func g) #[] lb ∧ (∀ args w, (callFunc g args).run Try.prog w = .ok (.enter g args) w) ∧ ∀ W (u v : Int), 0 ≤ u → u < 64 → 0 ≤ v → v < 64 → Ext w W → Calls Try.prog g (#[.int .i64 u, .int .i64 v] ++ lb) W fun e w' => e = .returned (.bool (decide ((⟨u, v⟩ : Arc) ∈ L))) ∧ w' = W
theorem Leads.ext {w w' : World} {fv : Value} {L : List Arc} (h : Leads w fv L) (e : Ext w w') : Leads w' fv L := by
  obtain ⟨g, lb, rfl, h2, h3⟩ := h.any
  exact ⟨g, lb, rfl, h2, fun W u v a b c d hW => h3 W u v a b c d (e.trans hW)⟩
theorem Leads.sh {w : World} {fv : Value} {L : List Arc} (h : Leads w fv L) : ∃ g lb, fv = .func (.func g) #[] lb := by
  obtain ⟨g, lb, rfl, _⟩ := h.any
  exact ⟨g, lb, rfl⟩

/-- The table's cells. -/
def Cells (cs : Array Value) (L : List Arc) : Prop := cs.size = 4096 ∧ ∀ u v : Nat, u < 64 → v < 64 → cs[u * 64 + v]? = some (.bool (decide ((⟨(u : Int), (v : Int)⟩ : Arc) ∈ L)))

theorem asks (w : World) (g : Nat) (cs : Array Value) (L : List Arc) (fr : Nat × Nat) (u v : Nat) (hu : u < 64) (hv : v < 64) (hb : w.heap[g]? = some (.cells cs 105 fr)) (hc : Cells cs L) :
    Calls Try.prog 68 #[.int .i64 u, .int .i64 v, .pointer (some ⟨g, 0, none⟩)] w fun e w' => e = .returned (.bool (decide ((⟨(u : Int), (v : Int)⟩ : Arc) ∈ L))) ∧ w' = w := by
  have h1 := blk_cell hb (u * 64 + v) (hc.2 u v hu hv)
  clear hb hc
  go_enter Try.func68, Try.ntmps68
  go_wp2
  go_ret
  exact ⟨rfl, rfl⟩

theorem zero_cells : Try.zeroCells105 = Array.replicate 4096 (Value.bool false) := by kernel_rfl
theorem Cells.start : Cells Try.zeroCells105 [] := by
  rw [zero_cells]
  refine ⟨by simp, fun u v hu hv => ?_⟩
  rw [Array.getElem?_replicate, if_pos (by omega)]
  simp
theorem Cells.next {cs : Array Value} {L : List Arc} {x : Arc} {N : Int} (h : Cells cs L) (hN : N ≤ 64) (hx : okA N x = true) : Cells (cs.setIfInBounds (x.a.toNat * 64 + x.b.toNat) (.bool true)) (L ++ [x]) := by
  obtain ⟨⟨a0, a1⟩, ⟨b0, b1⟩, _⟩ := okA_iff.1 hx
  refine ⟨by simp [h.1], fun u v hu hv => ?_⟩
  rw [Array.getElem?_setIfInBounds]
  by_cases e : x.a.toNat * 64 + x.b.toNat = u * 64 + v
  · have e1 : x.a.toNat = u := by omega
    have e2 : x.b.toNat = v := by omega
    have hm : (⟨(u : Int), (v : Int)⟩ : Arc) = x := by
      obtain ⟨xa, xb⟩ := x
      simp only [Arc.mk.injEq]
      simp only at e1 e2 a0 b0
      omega
    rw [if_pos e, if_pos (by rw [h.1]; omega), hm]
    simp
  · rw [if_neg e, h.2 u v hu hv]
    have hm : (⟨(u : Int), (v : Int)⟩ : Arc) ≠ x := by
      rintro rfl
      exact e (by simp)
    congr 2
    simp [hm]

set_option maxRecDepth 100000 in
set_option maxHeartbeats 1000000 in
theorem askerA_any (w : World) (N : Int) (v : Value) (E : List Arc) (h : Sl w v E) (ok : OkD N E) :
    Calls Try.prog 50 #[v] w fun e w' => ∃ fv, e = .returned fv ∧ Leads w' fv E ∧ Ext w w' := by
  obtain ⟨ao, c, rfl⟩ := h.len
  have hlen := h.length_le
  have HS := Lib.hid h
  have HO := Lib.hid ok
  clear h ok
  have hmf : ∀ (fn : Fn) (first cap : Array Value) (w : World), (Instr.makeFunc fn first cap).run Try.prog w = .ok (.func fn first cap) w := fun _ _ _ _ => rfl
  go_enter Try.func50, Try.ntmps50
  go_wp2
  go_loopw [8] (fun i wr => ∃ k : Nat, k ≤ E.length ∧ i = .int .i64 k ∧ Hid (∃ cs, wr.heap[w.heap.size]? = some (.cells cs 105 (0, 0)) ∧ Cells cs (E.take k)) ∧ Hid (Ext w wr)) (fun i _ => E.length - (intOf i).toNat)
  case atStart => exact ⟨0, Nat.zero_le _, rfl, Lib.hid ⟨_, get_alloc_new _ _, Cells.start⟩, Lib.hid ((Ext.refl w).alloc _)⟩
  case round =>
    obtain ⟨k, hk, rfl, HT, HX⟩ := hrel
    by_cases hlt : k < E.length
    · obtain ⟨b, off, hao, _, hnc, hc63, hb, hya0, hyb0⟩ := HS.out.arcsAt hlt
      subst hao
      have hya := (HX.out.cell (p := ⟨b, off + k * 2, none⟩) hb).trans hya0
      have hyb := (HX.out.cell (p := ⟨b, off + k * 2 + 1, none⟩) hb).trans hyb0
      obtain ⟨⟨ya, yb⟩, hy⟩ : ∃ y, y = E.getD k ⟨0, 0⟩ := ⟨_, rfl⟩
      rw [← hy] at hya hyb
      have HY := Lib.hid hy
      clear hya0 hyb0
      have hok := HO.out.each (E.getD k ⟨0, 0⟩) (by rw [getD_at hlt]; exact List.getElem_mem hlt)
      rw [← hy] at hok
      have h64 := HO.out.n64
      obtain ⟨a0, a1, b0, b1, ne⟩ : 0 ≤ ya ∧ ya < N ∧ 0 ≤ yb ∧ yb < N ∧ ya ≠ yb := hok
      have HZ : Hid (okA N ⟨ya, yb⟩ = true) := Lib.hid (okA_iff.2 ⟨⟨a0, a1⟩, ⟨b0, b1⟩, ne⟩)
      have a64 : ya < 64 := by omega
      have b64 : yb < 64 := by omega
      clear hy a1 b1 ne
      obtain ⟨u, rfl⟩ := Int.eq_ofNat_of_zero_le a0
      obtain ⟨v, rfl⟩ := Int.eq_ofNat_of_zero_le b0
      obtain ⟨cs, hcs, HC⟩ := HT.out
      have HCs := Lib.hid HC
      have hgl := blk_lt hcs
      have hne : w.heap.size ≠ wr.heap.size := by omega
      have hfr := blk_free hcs (u * 64 + v)
      have hce := blk_cell hcs (u * 64 + v) (HC.2 u v (by omega) (by omega))
      have HG := Lib.hid hcs
      clear hcs HC hgl HT
      have HF : Hid (∃ W1 : World, W1 = { (wr.alloc (.cells #[.int .i64 u, .int .i64 v] 60)) with drawn := (wr.alloc (.cells #[.int .i64 u, .int .i64 v] 60)).drawn + 1 } ∧ W1.cell? ⟨wr.heap.size, 0, none⟩ = some (.int .i64 u) ∧ W1.cell? ⟨wr.heap.size, 1, none⟩ = some (.int .i64 v) ∧ W1.cell? ⟨w.heap.size, u * 64 + v, none⟩ = some (.bool (decide ((⟨(u : Int), (v : Int)⟩ : Arc) ∈ E.take k))) ∧ W1.frozen? ⟨w.heap.size, u * 64 + v, none⟩ = false ∧ W1.heap[w.heap.size]? = some (.cells cs 105 (0, 0)) ∧ Ext wr W1) := Lib.hid (by
        have h1 := (get_alloc_old (o := .cells #[.int .i64 u, .int .i64 v] 60) (blk_lt HG.out)).trans HG.out
        have h2 := get_alloc_new wr (.cells #[.int .i64 u, .int .i64 v] 60)
        exact ⟨_, rfl, blk_cell h2 0 rfl, blk_cell h2 1 rfl, blk_cell h1 _ (HCs.out.2 u v (by omega) (by omega)), blk_free h1 _, h1, ((Ext.refl wr).alloc _).drew⟩)
      clear hce hfr
      go_wp2
      refine wp_region_still_tail 6 (by kernel_rfl) (by kernel_rfl) ?_
      simp only [List.take_succ_cons, List.take_zero, List.drop_succ_cons, List.drop_zero]
      obtain ⟨W1, hW1, c0, c1, ce, fr, hb1, hx1⟩ := HF.out
      rw [← hW1]
      have HB1 := Lib.hid hb1
      have HX1 := Lib.hid (HX.out.trans hx1)
      clear hW1 hb1 hx1 hya hyb
      repeat still_step
      refine wpStill_nil ?_
      go_wp2
      go_roundw
      case rel => exact ⟨k + 1, by omega, by go_num, Lib.hid ⟨_, blk_set HB1.out _ _, by rw [take_next hlt ⟨0, 0⟩, ← HY.out]; exact HCs.out.next (x := ⟨(u : Int), (v : Int)⟩) h64 HZ.out⟩, Lib.hid (below_set HX1.out (Nat.le_refl _) _)⟩
      case measure => simp [intOf]; omega
    · have hkl : k = E.length := by omega
      have ht := HT.out
      rw [hkl, List.take_length] at ht
      have HT' := Lib.hid ht
      clear ht HT hkl
      go_wp2
      go_ret
      refine ⟨_, rfl, ?_, HX.out⟩
      obtain ⟨cs, h1, h2⟩ := HT'.out
      have hgl := blk_lt h1
      have h64 := HO.out.n64
      exact ⟨68, _, rfl, enters_of Try.func68 (by kernel_rfl) rfl, fun W u v u0 u1 v0 v1 hW => by
        obtain ⟨u, rfl⟩ := Int.eq_ofNat_of_zero_le u0
        obtain ⟨v, rfl⟩ := Int.eq_ofNat_of_zero_le v0
        exact asks W _ cs E _ u v (by omega) (by omega) ((hW.block _ hgl).trans h1) h2⟩

end Go.Proofs.Ytpnnnbjjoimalaa
