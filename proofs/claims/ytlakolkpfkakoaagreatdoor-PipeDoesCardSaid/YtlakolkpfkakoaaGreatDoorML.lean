/- slices.Delete at the front of texts. -/
import Derived.Test.YtlakolkpfkakoaaGreatDoorMK
import Derived.Test.YtlakolkpfkakoaaGreatDoorMF
import Derived.Test.YtlakolkpfkakoaaGreatDoorMN1
import Derived.Test.YtlakolkpfkakoaaGreatDoorShelf
import Derived.Sort.OwnSorted
import Derived.Test.YtlakolkpfkakoaaGreatDoorMKX
namespace Go.Proofs.YtlakolkpfkakoaaGreatDoor
open Go.RowKit Go.Sort

theorem cut_front (w : World) (B : Nat) (v : Value) (xs : List ByteArray) (k : Nat) (h : Ow w B v xs) (hk0 : 1 ≤ k) (hk : k ≤ xs.length) :
    Calls Tryz.prog 92 #[v, .int .i64 0, .int .i64 k] w fun e w' => ∃ v', e = .returned v' ∧ Ow w' B v' (xs.drop k) ∧ w.grownBy w' v.ownBlock ∧ v'.ownBlock = v.ownBlock := by
  rcases h.2 with ⟨_, hz⟩ | ⟨g, cap, cur, rfl, hg, hh, hc1, hc2, hc3, hc4⟩
  · omega
  · have hc2' : cap ≤ 9223372036854775807 := by simpa only [maxLen] using hc2
    have hH := holds_of_block (ss := (xs.map fun b : ByteArray => b.data.toList)) hh (by have h4 := hc4; rw [show xs.length * Elem.k ByteArray = xs.length from Nat.mul_one _, cells_s] at h4; simpa [encStr, Function.comp_def] using h4)
    have := Tryz.slices_Delete_string g 0 cap 0 k (xs.map fun b : ByteArray => b.data.toList) w hH (by simpa using hc1) hc2' (by omega) (by first | omega | (simp; omega))
    try simp only [List.length_map] at this
    refine this.mono ?_
    rintro e w1 ⟨rfl, dn, rfl⟩
    have hle : (xs.drop k).length = xs.length - k := List.length_drop
    refine ⟨_, rfl, ?_, ?_, rfl⟩
    · have e0 : ∀ d, Sort.putRow (encStr) (Sort.ahead w dn) g 0 d = Sort.grow (Sort.putRow (encStr) (Sort.ahead w dn) g 0 d) #[] := fun d => by simp
      rw [e0]
      refine ⟨cellsOf_length _, .inr ⟨g, cap, _, ?_, hg, heap_sorted _ hh, by rw [hle]; omega, hc2, by simp [Sort.putCells, hc3], ?_⟩⟩
      · rw [hle]; simp
      · have ht := take_putCells cur (((xs.map fun b : ByteArray => b.data.toList)).take 0 ++ ((xs.map fun b : ByteArray => b.data.toList)).drop k ++ List.replicate (k - 0) []) (by simp; rw [hc3]; show _ ≤ cap * 1; omega)
        have ht2 := congrArg (List.take (xs.drop k).length) ht
        have hll : (((xs.map fun b : ByteArray => b.data.toList)).take 0 ++ ((xs.map fun b : ByteArray => b.data.toList)).drop k ++ List.replicate (k - 0) []).length = xs.length := by simp; omega
        rw [List.take_take, hll, Nat.min_eq_left (by rw [hle]; omega)] at ht2
        have hk1 : (xs.drop k).length * Elem.k ByteArray = (xs.drop k).length := Nat.mul_one _
        rw [hk1, ht2, ← List.map_take, cells_s, List.take_left' (by rw [hle]; simp)]
        try simp [encStr, Function.comp_def]
    · have e0 : ∀ d, Sort.putRow (encStr) (Sort.ahead w dn) g 0 d = Sort.grow (Sort.putRow (encStr) (Sort.ahead w dn) g 0 d) #[] := fun d => by simp
      rw [e0]
      exact grownBy_sorted _
end Go.Proofs.YtlakolkpfkakoaaGreatDoor

/- The program's ends in memory; New, Tick, Waiting, Numbers. -/
namespace Go.Proofs.YtlakolkpfkakoaaGreatDoor
open Go.RowKit

set_option linter.unusedVariables false
theorem ow_at {α : Type} [Elem α] {w w' : World} {B : Nat} {v : Value} {xs : List α} (h : Ow w B v xs) (hq : ∀ b, v.ownBlock = some b → w'.heap[b]? = w.heap[b]?) : Ow w' B v xs := by
  refine ⟨h.1, ?_⟩
  rcases h.2 with h2 | ⟨g, cap, cur, rfl, hg, hh, r⟩
  · exact .inl h2
  · exact .inr ⟨g, cap, cur, rfl, hg, (hq g rfl).trans hh, r⟩
structure EndAt (w : World) (p : Nat) (S : EndS) (F : Nat → Prop) (ao : Option Addr) (n c : Nat) : Prop where
  ok : S.Ok
  blk : w.heap[p]? = some (.cells (rCells S (.slice ao n c)) 121 (0, 0))
  own : Ow w 0 (.slice ao n c) S.l
  ne : (Value.slice ao n c).ownBlock ≠ some p
  fp : ∀ k, F k ↔ (k = p ∨ (Value.slice ao n c).ownBlock = some k)
def EAt (w : World) (p : Nat) (S : EndS) (F : Nat → Prop) : Prop := ∃ ao n c, EndAt w p S F ao n c

theorem EAt.ok {w : World} {p : Nat} {S : EndS} {F : Nat → Prop} (h : EAt w p S F) : S.Ok := by obtain ⟨ao, n, c, h⟩ := h; exact h.ok
theorem EndAt.lowb {w : World} {p : Nat} {S : EndS} {F : Nat → Prop} {ao : Option Addr} {n c : Nat} (h : EndAt w p S F ao n c) : ∀ k, F k → k < w.heap.size := fun k hk => by
  rcases (h.fp k).1 hk with rfl | hk
  · exact blk_lt h.blk
  · exact (h.own.low k hk).2
theorem EAt.low {w : World} {p : Nat} {S : EndS} {F : Nat → Prop} (h : EAt w p S F) : ∀ k, F k → k < w.heap.size := by obtain ⟨ao, n, c, h⟩ := h; exact h.lowb
theorem EndAt.off {w w' : World} {p : Nat} {S : EndS} {F G : Nat → Prop} {ao : Option Addr} {n c : Nat} (h : EndAt w p S F ao n c) (o : Off G w w') (hg : ∀ k, F k → ¬ G k) : EndAt w' p S F ao n c :=
  ⟨h.ok, o.blk h.blk (hg p ((h.fp p).2 (.inl rfl))), ow_at h.own fun b hb => o.block b (h.own.low b hb).2 (hg b ((h.fp b).2 (.inr hb))), h.ne, h.fp⟩
theorem EAt.off {w w' : World} {p : Nat} {S : EndS} {F G : Nat → Prop} (h : EAt w p S F) (o : Off G w w') (hg : ∀ k, F k → ¬ G k) : EAt w' p S F := by
  obtain ⟨ao, n, c, h⟩ := h
  exact ⟨ao, n, c, h.off o hg⟩
theorem EndAt.ext {w w' : World} {p : Nat} {S : EndS} {F : Nat → Prop} {ao : Option Addr} {n c : Nat} (h : EndAt w p S F ao n c) (x : Ext w w') : EndAt w' p S F ao n c :=
  h.off (G := fun _ => False) (Off.of_ext x) fun _ _ hf => hf
theorem EndAt.at {w : World} {p : Nat} {S : EndS} {F : Nat → Prop} {ao : Option Addr} {n c : Nat} (h : EndAt w p S F ao n c) : F p := (h.fp p).2 (.inl rfl)
theorem EndAt.put {w w' : World} {p : Nat} {S S' : EndS} {F : Nat → Prop} {ao : Option Addr} {n c : Nat} (h : EndAt w p S F ao n c) (o : Off (fun k => k = p) w w') (ok : S'.Ok) (hl : S'.l = S.l)
    (hb : w'.heap[p]? = some (.cells (rCells S' (.slice ao n c)) 121 (0, 0))) : EndAt w' p S' F ao n c :=
  ⟨ok, hb, by rw [hl]; exact ow_at h.own fun b hb => o.block b (h.own.low b hb).2 (fun e => h.ne (e ▸ hb)), h.ne, h.fp⟩
theorem EndAt.offp {w w' : World} {p : Nat} {S : EndS} {F : Nat → Prop} {ao : Option Addr} {n c : Nat} (h : EndAt w p S F ao n c) (o : Off (fun k => k = p) w w') : Off F w w' := o.mono fun k hk => by subst hk; exact h.at
def MovesE (p : Nat) (S' : EndS) (F : Nat → Prop) (r : Value) (w : World) (e : Ending) (w' : World) : Prop := ∃ F', e = .returned r ∧ EAt w' p S' F' ∧ Off F w w' ∧ Grows F F' w
theorem put_moves {w w' : World} {p : Nat} {S S' : EndS} {F : Nat → Prop} {ao : Option Addr} {n c : Nat} (h : EndAt w p S F ao n c) (o : Off (fun k => k = p) w w') (ok : S'.Ok) (hl : S'.l = S.l)
    (hb : w'.heap[p]? = some (.cells (rCells S' (.slice ao n c)) 121 (0, 0))) (r : Value) : MovesE p S' F r w (.returned r) w' :=
  ⟨F, rfl, ⟨ao, n, c, h.put o ok hl hb⟩, h.offp o, Grows.refl _ _⟩
theorem off_drew {w w' : World} {F : Nat → Prop} (o : Off F w w') (q : Nat) : Off F w (w'.drewN q) := o.ext (Ext.drewN (Ext.refl _) q)
theorem off_two {w w' : World} {p : Nat} (o : Off (fun k => k = p) w w') (d : Addr) (u : Value) (hd : d.block = p) : Off (fun k => k = p) w (w'.setCell d u) :=
  o.trans ((off_set w' d u).mono fun k hk => hk.trans hd) (Grows.refl _ _)

section
variable {w : World} {p : Nat} {S : EndS} {F : Nat → Prop}

theorem same_moves (h : EAt w p S F) : ∀ (w' : World) (x : Ext w w') (r : Value), MovesE p S F r w (.returned r) w' := fun w' x r => by
  obtain ⟨ao, n, c, h⟩ := h
  exact ⟨F, rfl, ⟨ao, n, c, h.ext x⟩, Off.of_ext x, Grows.refl _ _⟩

theorem pWaiting (h : EAt w p S F) :
    Calls Tryz.prog 59 #[.pointer (some ⟨p, 0, none⟩)] w (MovesE p S F (.int .i64 S.l.length) w) := by
  have HM := Lib.hid (same_moves h)
  obtain ⟨ao, n, c, h⟩ := h
  obtain ⟨ao', c', hv⟩ := h.own.sl.len
  simp only [Value.slice.injEq] at hv
  obtain ⟨rfl, rfl, rfl⟩ := hv
  have hb := h.blk
  obtain ⟨e, win, qn, wait, l, first, out, ever, want, owes, age⟩ := S
  unfold rCells at hb
  dsimp only at hb ⊢
  obtain ⟨c0, f0⟩ := cells11 hb
  clear hb h
  go_enter Tryz.func59, Tryz.ntmps59
  go_wp2
  go_ret
  exact HM.out _ (by repeat (first | exact Ext.refl _ | assumption | refine Ext.alloc ?_ _ | refine Ext.drew ?_ | refine Ext.drewN ?_ _)) _

end

theorem nearest_any (w : World) (x lo hi : Int) : Calls Tryz.prog 62 #[.int .i64 x, .int .i64 lo, .int .i64 hi] w fun e w' => e = .returned (.int .i64 (min (max x lo) hi)) ∧ w = w' := by
  go_enter Tryz.func62, Tryz.ntmps62
  go_wp2
  all_goals refine bodyPost_ret (v := .int .i64 (min (max x lo) hi)) ?_ rfl ⟨rfl, rfl⟩
  all_goals simp [results, Tryz.results62, go_sem]
  all_goals omega

theorem pNewE (w : World) (e : Int) (first : Nat) (win qn wait : Int) (h : first < 18446744073709551616) :
    Calls Tryz.prog 31 #[.int .i64 e, .int .u64 first, .int .i64 win, .int .i64 qn, .int .i64 wait] w fun ev w' => ∃ p F, ev = .returned (.pointer (some ⟨p, 0, none⟩)) ∧ EAt w' p (EndS.new e first win qn wait) F ∧ (∀ k, F k → w.heap.size ≤ k) ∧ Ext w w' := by
  go_enter Tryz.func31, Tryz.ntmps31
  go_wp2_with (first
    | (go_at_call 62; refine (nearest_any _ _ _ _).mono ?_; rintro ev w2 ⟨rfl, rfl⟩))
  go_ret
  have hb : ∀ o, (w.alloc o).heap[w.heap.size]? = some o := get_alloc_new w
  refine ⟨w.heap.size, fun k => k = w.heap.size, rfl, ⟨none, 0, 0, EndS.new_ok h, ?_, Ow.nil _ _, by simp [Value.ownBlock], fun k => by simp [Value.ownBlock]⟩, fun k hk => by rw [hk]; exact Nat.le_refl _, Ext.alloc (Ext.refl _) _⟩
  rw [get_alloc_new]
  unfold rCells EndS.new
  dsimp only
  rw [Int.toNat_of_nonneg (by omega), Int.toNat_of_nonneg (by omega), Int.toNat_of_nonneg (by omega)]
  rfl

set_option maxHeartbeats 1600000 in
theorem pTick {w : World} {p : Nat} {S : EndS} {F : Nat → Prop} (h0 : EAt w p S F) :
    Calls Tryz.prog 46 #[.pointer (some ⟨p, 0, none⟩)] w (MovesE p S.tick F (.tuple #[]) w) := by
  have HM := Lib.hid (same_moves h0)
  obtain ⟨ao, n, c, h⟩ := h0
  have ok := h.ok
  have okt := h.ok.tick
  have h1 := ok.age
  have h2 := ok.wait100
  have hb := h.blk
  obtain ⟨e, win, qn, wait, l, first, out, ever, want, owes, age⟩ := S
  unfold EndS.tick at okt ⊢
  dsimp only at h1 h2 okt ⊢
  have e1 : IntKind.i64.wrap ((age : Int) + 1) = (age : Int) + 1 := wrapN _ (by omega) (by omega)
  have H := Lib.hid h
  have HB := Lib.hid hb
  unfold rCells at hb
  dsimp only at hb
  obtain ⟨⟨c0, c1, c2, c3, c4, c5, c6, c7, c8, c9, c10⟩, ⟨f0, f1, f2, f3, f4, f5, f6, f7, f8, f9, f10⟩⟩ := cells11 hb
  clear hb h ok
  by_cases h0 : out = 0
  · subst h0
    rw [if_pos rfl]
    clear okt
    go_enter Tryz.func46, Tryz.ntmps46
    go_wp2
    refine bodyPost_ret (v := .tuple #[]) (by simp [results, Tryz.results46, go_sem]) rfl ?_
    exact HM.out _ (by repeat (first | exact Ext.refl _ | assumption | refine Ext.alloc ?_ _ | refine Ext.drew ?_ | refine Ext.drewN ?_ _)) _
  · rw [if_neg h0] at okt ⊢
    have t0 : ((out : Int) == 0) = false := beq_eq_false_iff_ne.2 (by omega)
    by_cases h9 : age + 1 = wait
    · rw [if_pos h9] at okt ⊢
      have t1 : ((age : Int) + 1 == (wait : Int)) = true := beq_iff_eq.2 (by omega)
      have OK := Lib.hid okt
      clear h0 h9 h1 h2 okt
      go_enter Tryz.func46, Tryz.ntmps46
      go_wp2
      go_quiet (fail)
      go_wp2
      all_goals refine bodyPost_ret (v := .tuple #[]) (by simp [results, Tryz.results46, go_sem]) rfl ?_
      all_goals (refine put_moves H.out ?_ OK.out rfl ?_ _; exact (by repeat (first | exact Off.refl _ _ | refine off_two ?_ _ _ rfl | refine off_drew ?_ _)); exact blk_set (blk_set (blk_set HB.out 10 _) 6 _) 10 _)
    · rw [if_neg h9] at okt ⊢
      have t1 : ((age : Int) + 1 == (wait : Int)) = false := beq_eq_false_iff_ne.2 (by omega)
      have OK := Lib.hid okt
      clear h0 h9 h1 h2 okt
      go_enter Tryz.func46, Tryz.ntmps46
      go_wp2
      go_quiet (fail)
      go_wp2
      all_goals refine bodyPost_ret (v := .tuple #[]) (by simp [results, Tryz.results46, go_sem]) rfl ?_
      all_goals (refine put_moves H.out ?_ OK.out rfl ?_ _; exact (by repeat (first | exact Off.refl _ _ | refine off_two ?_ _ _ rfl | refine off_drew ?_ _)); exact blk_set HB.out 10 _)
end Go.Proofs.YtlakolkpfkakoaaGreatDoor

/- The program's ends: Send. -/
namespace Go.Proofs.YtlakolkpfkakoaaGreatDoor
open Go.RowKit
theorem send_end {w W W2 : World} {p : Nat} {S : EndS} {F : Nat → Prop} {ao a2 : Option Addr} {n c n2 c2 : Nat} {b : ByteArray} (h : EndAt w p S F ao n c) (x : Ext w W)
    (ho : Ow W2 0 (.slice a2 n2 c2) (S.l ++ [b])) (ha : Apd 0 (.slice ao n c) (.slice a2 n2 c2) W W2) (hz : S.sendE b = 0) (r : Value) : MovesE p (S.send b) F r w (.returned r) (W2.setCell ⟨p, 4, none⟩ (.slice a2 n2 c2)) := by
  have hp : p < w.heap.size := blk_lt h.blk
  have hx := x.size
  have hb2 : ∀ k, (Value.slice a2 n2 c2).ownBlock = some k → (Value.slice ao n c).ownBlock = some k ∨ w.heap.size ≤ k := fun k hk => by
    rcases ha.block with h1 | h1
    · exact .inl (h1 ▸ hk)
    · exact .inr (Nat.le_trans hx (h1 k hk))
  have hne : (Value.slice a2 n2 c2).ownBlock ≠ some p := fun e => by
    rcases hb2 p e with h1 | h1
    · exact h.ne h1
    · omega
  have hold : ∀ k, k < w.heap.size → (Value.slice ao n c).ownBlock ≠ some k → W2.heap[k]? = w.heap[k]? := fun k hk hn =>
    (ha.grown.block k (by omega) (fun e => hn e.symm)).trans (x.block k hk)
  have hs : S.send b = { S with l := S.l ++ [b] } := by unfold EndS.send; rw [if_pos hz]
  have ok := h.ok.send b
  rw [hs] at ok ⊢
  refine ⟨fun k => k = p ∨ (Value.slice a2 n2 c2).ownBlock = some k, rfl, ⟨a2, n2, c2, ok, ?_, ?_, hne, fun k => Iff.rfl⟩, ⟨?_, ?_, ?_, ?_, ?_⟩, ?_⟩
  · exact blk_set ((hold p hp h.ne).trans h.blk) 4 _
  · exact ow_at ho fun k hk => set_other _ _ _ _ (by show k ≠ p; intro e; exact hne (e ▸ hk))
  · exact ha.below.os.trans x.os
  · exact ha.below.tape.trans x.tape
  · exact ha.below.output.trans x.output
  · rw [set_size]; exact Nat.le_trans hx ha.below.size
  · intro k hk hn
    rw [set_other _ _ _ _ (by show k ≠ p; intro e; exact hn (e ▸ h.at))]
    exact hold k hk fun e => hn ((h.fp k).2 (.inr e))
  · rintro k (rfl | hk)
    · exact .inl h.at
    · rcases hb2 k hk with h1 | h1
      · exact .inl ((h.fp k).2 (.inr h1))
      · exact .inr h1

set_option maxHeartbeats 1600000 in
theorem pSendE {w : World} {p : Nat} {S : EndS} {F : Nat → Prop} (h0 : EAt w p S F) (b : ByteArray) (hb : b.size ≤ 1000) :
    Calls Tryz.prog 35 #[.pointer (some ⟨p, 0, none⟩), .string b] w (MovesE p (S.send b) F (.int .i64 (S.sendE b : Nat)) w) := by
  have HM := Lib.hid (same_moves h0)
  obtain ⟨ao, n, c, h⟩ := h0
  obtain ⟨ao', c', hv⟩ := h.own.sl.len
  simp only [Value.slice.injEq] at hv
  obtain ⟨rfl, rfl, rfl⟩ := hv
  have h1 := h.ok.len
  have h2 := h.ok.qn
  have H := Lib.hid h
  have HC := Lib.hid (fun W (x : Ext w W) => cells11 (h.ext x).blk)
  have HE := Lib.hid (fun W W2 a2 n2 c2 (x : Ext w W) ho ha hz r => send_end (W2 := W2) (a2 := a2) (n2 := n2) (c2 := c2) (b := b) h x ho ha hz r)
  have hblk := h.blk
  clear h
  by_cases h64 : 64 < b.size
  · have hs : S.sendE b = 90 := if_pos h64
    have hs2 : S.send b = S := by unfold EndS.send; rw [hs, if_neg (by decide)]
    rw [hs, hs2]
    have t1 : (64 : Int) < (b.size : Int) := by omega
    clear h64 h1 h2 hs hs2 hblk
    go_enter Tryz.func35, Tryz.ntmps35
    go_wp2
    go_ret
    exact HM.out _ (by repeat (first | exact Ext.refl _ | assumption | refine Ext.alloc ?_ _ | refine Ext.drew ?_ | refine Ext.drewN ?_ _)) _
  · have t1 : ¬ (64 : Int) < (b.size : Int) := by omega
    by_cases hf : S.l.length = S.qn
    · have hs : S.sendE b = 91 := (if_neg h64).trans (if_pos (by omega))
      have hs2 : S.send b = S := by unfold EndS.send; rw [hs, if_neg (by decide)]
      rw [hs, hs2]
      have t2 : ((S.l.length : Int) == (S.qn : Int)) = true := beq_iff_eq.2 (by omega)
      obtain ⟨e, win, qn, wait, l, first, out, ever, want, owes, age⟩ := S
      unfold rCells at hblk
      dsimp only at t2 hblk ⊢
      obtain ⟨⟨c0, c1, c2, c3, c4, c5, c6, c7, c8, c9, c10⟩, _⟩ := cells11 hblk
      clear h64 h1 h2 hs hs2 hf hblk
      go_enter Tryz.func35, Tryz.ntmps35
      go_wp2
      go_quiet (fail)
      go_wp2
      go_ret
      exact HM.out _ (by repeat (first | exact Ext.refl _ | assumption | refine Ext.alloc ?_ _ | refine Ext.drew ?_ | refine Ext.drewN ?_ _)) _
    · have hs : S.sendE b = 0 := (if_neg h64).trans (if_neg (by omega))
      rw [hs]
      have HZ := Lib.hid hs
      have t2 : ((S.l.length : Int) == (S.qn : Int)) = false := beq_eq_false_iff_ne.2 (by omega)
      have hl : S.l.length ≤ 64 := by omega
      have hp : p < w.heap.size := blk_lt hblk
      have HCL := Lib.hid (fun W => clone_any W b (by omega))
      obtain ⟨e, win, qn, wait, l, first, out, ever, want, owes, age⟩ := S
      unfold rCells at hblk
      dsimp only at t2 hblk hl ⊢
      obtain ⟨⟨c0, c1, c2, c3, c4, c5, c6, c7, c8, c9, c10⟩, ⟨f0, f1, f2, f3, f4, f5, f6, f7, f8, f9, f10⟩⟩ := cells11 hblk
      clear h64 h1 h2 hs hf hblk hb
      go_enter Tryz.func35, Tryz.ntmps35
      go_wp2
      go_quiet (fail)
      go_wp2_with fail
      (refine wp_region_X_lit (K := fun _ => True) (by kernel_rfl) (fun w1 hw1 => ?_))
      replace hw1 : Ext w w1 := Ext.trans (Ext.drewN (Ext.refl w) _) hw1
      have HX1 := Lib.hid hw1
      have d4 := (HC.out w1 hw1).1.2.2.2.2.1
      clear hw1
      refine xtv 0 (h := ?_)
      refine xtv 1 (h := ?_)
      refine xtv 2 (h := ?_)
      refine xtv 3 (h := ?_)
      refine xtv 5 (h := ?_)
      refine xtwo 4 6 (hk := trivial) (h := RunX.of 4 (h := ?_)) (h' := RunX.of 6 (h := ?_))
      · go_simp
        (try (simp only [Act.put, List.setIfInBounds_toArray, List.set]))
        refine xone 6 (hk := trivial) (h := RunX.of 6 (h := ?_))
        go_simp
        refine (HCL.out _).mono ?_
        rintro e2 w2 ⟨rfl, hx2⟩
        have HX2 := Lib.hid (Ext.trans HX1.out hx2)
        clear hx2
        dsimp only
        (try (simp only [Act.put, List.setIfInBounds_toArray, List.set]))
        refine xone 7 (hk := trivial) (h := RunX.of 7 (h := ?_))
        go_simp
        (try (simp only [Act.put, List.setIfInBounds_toArray, List.set]))
        refine xone 8 (hk := trivial) (h := RunX.of 8 (h := ?_))
        (refine wp_append_sl (α := ByteArray) (.tmp 22) (.tmp 25) rfl 0 (.slice ao l.length c) l rfl ?_ (.slice (some ⟨_, 0, none⟩) 1 1) [b] rfl ?_ ?_ ?_ ?_; exact ((H.out.ext (HX2.out.alloc (.cells #[.string b] 9))).own); exact (Sl.litAt w2 _ rfl [b] (show (1 : Nat) ≤ 1000000 by decide)); (first | omega | (simp; omega)); (exact Nat.zero_le _); intro v2 W2 ho2 ha2)
        obtain ⟨a2, n2, c2, rfl⟩ := ho2.sh
        have hend := HE.out _ W2 a2 n2 c2 (HX2.out.alloc (.cells #[.string b] 9)) ho2 ha2 HZ.out (.int .i64 0)
        have hk2 : W2.heap[p]? = w.heap[p]? := by have hx := Below.size (HX2.out.alloc (.cells #[.string b] 9)); exact (ha2.grown.block p (by omega) (fun e => H.out.ne e.symm)).trans (((HX2.out.alloc (.cells #[.string b] 9))).block p hp)
        have k4 := blk_cell (hk2.trans H.out.blk) 4 rfl
        have g4 := blk_free (hk2.trans H.out.blk) 4
        unfold rCells at k4
        dsimp only at k4
        have HEND := Lib.hid hend
        clear ho2 ha2 hk2 hend
        dsimp only
        (try (simp only [Act.put, List.setIfInBounds_toArray, List.set]))
        refine xtv 9 (h := ?_)
        refine xtv 10 (h := ?_)
        refine xone 11 (hk := trivial) (h := RunX.of 11 (h := ?_))
        go_simp
        (try (simp only [Act.put, List.setIfInBounds_toArray, List.set]))
        (refine xdone (by kernel_rfl) (trivial) ?_)
        go_wp2
        go_ret
        exact HEND.out
      · go_simp
        refine (HCL.out _).mono ?_
        rintro e2 w2 ⟨rfl, hx2⟩
        have HX2 := Lib.hid (Ext.trans HX1.out hx2)
        clear hx2
        dsimp only
        (try (simp only [Act.put, List.setIfInBounds_toArray, List.set]))
        refine xtwo 4 7 (hk := trivial) (h := RunX.of 4 (h := ?_)) (h' := RunX.of 7 (h := ?_))
        · have d5 := (HC.out w2 HX2.out).1.2.2.2.2.1
          go_simp
          (try (simp only [Act.put, List.setIfInBounds_toArray, List.set]))
          refine xone 7 (hk := trivial) (h := RunX.of 7 (h := ?_))
          go_simp
          (try (simp only [Act.put, List.setIfInBounds_toArray, List.set]))
          refine xone 8 (hk := trivial) (h := RunX.of 8 (h := ?_))
          (refine wp_append_sl (α := ByteArray) (.tmp 22) (.tmp 25) rfl 0 (.slice ao l.length c) l rfl ?_ (.slice (some ⟨_, 0, none⟩) 1 1) [b] rfl ?_ ?_ ?_ ?_; exact ((H.out.ext (HX2.out.alloc (.cells #[.string b] 9))).own); exact (Sl.litAt w2 _ rfl [b] (show (1 : Nat) ≤ 1000000 by decide)); (first | omega | (simp; omega)); (exact Nat.zero_le _); intro v2 W2 ho2 ha2)
          obtain ⟨a2, n2, c2, rfl⟩ := ho2.sh
          have hend := HE.out _ W2 a2 n2 c2 (HX2.out.alloc (.cells #[.string b] 9)) ho2 ha2 HZ.out (.int .i64 0)
          have hk2 : W2.heap[p]? = w.heap[p]? := by have hx := Below.size (HX2.out.alloc (.cells #[.string b] 9)); exact (ha2.grown.block p (by omega) (fun e => H.out.ne e.symm)).trans (((HX2.out.alloc (.cells #[.string b] 9))).block p hp)
          have k4 := blk_cell (hk2.trans H.out.blk) 4 rfl
          have g4 := blk_free (hk2.trans H.out.blk) 4
          unfold rCells at k4
          dsimp only at k4
          have HEND := Lib.hid hend
          clear ho2 ha2 hk2 hend
          dsimp only
          (try (simp only [Act.put, List.setIfInBounds_toArray, List.set]))
          refine xtv 9 (h := ?_)
          refine xtv 10 (h := ?_)
          refine xone 11 (hk := trivial) (h := RunX.of 11 (h := ?_))
          go_simp
          (try (simp only [Act.put, List.setIfInBounds_toArray, List.set]))
          (refine xdone (by kernel_rfl) (trivial) ?_)
          go_wp2
          go_ret
          exact HEND.out
        · go_simp
          (try (simp only [Act.put, List.setIfInBounds_toArray, List.set]))
          have d5 := (HC.out _ (HX2.out.alloc (.cells #[.string b] 9))).1.2.2.2.2.1
          refine xone 4 (hk := trivial) (h := RunX.of 4 (h := ?_))
          go_simp
          (try (simp only [Act.put, List.setIfInBounds_toArray, List.set]))
          refine xone 8 (hk := trivial) (h := RunX.of 8 (h := ?_))
          (refine wp_append_sl (α := ByteArray) (.tmp 22) (.tmp 25) rfl 0 (.slice ao l.length c) l rfl ?_ (.slice (some ⟨_, 0, none⟩) 1 1) [b] rfl ?_ ?_ ?_ ?_; exact ((H.out.ext (HX2.out.alloc (.cells #[.string b] 9))).own); exact (Sl.litAt w2 _ rfl [b] (show (1 : Nat) ≤ 1000000 by decide)); (first | omega | (simp; omega)); (exact Nat.zero_le _); intro v2 W2 ho2 ha2)
          obtain ⟨a2, n2, c2, rfl⟩ := ho2.sh
          have hend := HE.out _ W2 a2 n2 c2 (HX2.out.alloc (.cells #[.string b] 9)) ho2 ha2 HZ.out (.int .i64 0)
          have hk2 : W2.heap[p]? = w.heap[p]? := by have hx := Below.size (HX2.out.alloc (.cells #[.string b] 9)); exact (ha2.grown.block p (by omega) (fun e => H.out.ne e.symm)).trans (((HX2.out.alloc (.cells #[.string b] 9))).block p hp)
          have k4 := blk_cell (hk2.trans H.out.blk) 4 rfl
          have g4 := blk_free (hk2.trans H.out.blk) 4
          unfold rCells at k4
          dsimp only at k4
          have HEND := Lib.hid hend
          clear ho2 ha2 hk2 hend
          dsimp only
          (try (simp only [Act.put, List.setIfInBounds_toArray, List.set]))
          refine xtv 9 (h := ?_)
          refine xtv 10 (h := ?_)
          refine xone 11 (hk := trivial) (h := RunX.of 11 (h := ?_))
          go_simp
          (try (simp only [Act.put, List.setIfInBounds_toArray, List.set]))
          (refine xdone (by kernel_rfl) (trivial) ?_)
          go_wp2
          go_ret
          exact HEND.out
end Go.Proofs.YtlakolkpfkakoaaGreatDoor

/- The program's ends: settle. -/
namespace Go.Proofs.YtlakolkpfkakoaaGreatDoor
open Go.RowKit
theorem cut_end {w w1 W : World} {p : Nat} {S S' : EndS} {F : Nat → Prop} {ao a2 : Option Addr} {n c n2 c2 : Nat} (h : EndAt w p S F ao n c)
    (hg : w.grownBy w1 (Value.slice ao n c).ownBlock) (ho : Ow w1 0 (.slice a2 n2 c2) S'.l) (he : (Value.slice a2 n2 c2).ownBlock = (Value.slice ao n c).ownBlock) (o : Off (fun k => k = p) w1 W) (ok : S'.Ok)
    (hb : W.heap[p]? = some (.cells (rCells S' (.slice a2 n2 c2)) 121 (0, 0))) (r : Value) : MovesE p S' F r w (.returned r) W := by
  refine ⟨F, rfl, ⟨a2, n2, c2, ok, hb, ow_at ho fun k hk => o.block k (ho.low k hk).2 (fun e => h.ne (by rw [← he, ← e]; exact hk)), by rw [he]; exact h.ne, by rw [he]; exact h.fp⟩, ⟨o.os.trans hg.os, o.tape.trans hg.tape, o.output.trans hg.output, Nat.le_trans hg.size o.size, fun k hk hn => ?_⟩, Grows.refl _ _⟩
  rw [o.block k (Nat.lt_of_lt_of_le hk hg.size) (fun e => hn (e ▸ h.at))]
  exact hg.block k hk fun e => hn ((h.fp k).2 (.inr e.symm))

set_option maxHeartbeats 3200000 in
theorem settle_any {w : World} {p : Nat} {S : EndS} {F : Nat → Prop} (h0 : EAt w p S F) (a : Nat) (ha : a < 18446744073709551616) :
    Calls Tryz.prog 80 #[.pointer (some ⟨p, 0, none⟩), .int .u64 a] w (MovesE p (S.drop (S.gone a)) F (.tuple #[]) w) := by
  have HM := Lib.hid (same_moves h0)
  obtain ⟨ao, n, c, h⟩ := h0
  obtain ⟨ao', c', hv⟩ := h.own.sl.len
  simp only [Value.slice.injEq] at hv
  obtain ⟨rfl, rfl, rfl⟩ := hv
  have ok := h.ok
  have o1 := ok.ew
  have o2 := ok.win8
  have o3 := ok.el
  have o4 := ok.oe
  have o5 := ok.first
  have hp : p < w.heap.size := blk_lt h.blk
  have H := Lib.hid h
  have hblk := h.blk
  obtain ⟨D, hD⟩ : ∃ D, D = (a + 18446744073709551616 - S.first) % 18446744073709551616 := ⟨_, rfl⟩
  have hw1 : IntKind.u64.wrap ((a : Int) - (S.first : Int)) = (D : Int) := by
    rw [hD]
    show ((a : Int) - (S.first : Int)) % 18446744073709551616 = _
    omega
  have hw2 : IntKind.u64.wrap ((S.ever : Nat) : Int) = (S.ever : Int) := by
    show ((S.ever : Nat) : Int) % 18446744073709551616 = _
    omega
  have hgone : S.gone a = if 1 ≤ D ∧ D ≤ S.ever then D else 0 := by unfold EndS.gone; rw [← hD]
  by_cases h1 : 1 ≤ D ∧ D ≤ S.ever
  · rw [if_pos h1] at hgone
    rw [hgone]
    have ok2 := ok.drop (k := D) h1.2
    have hfa : (S.first + D) % 18446744073709551616 = a := by omega
    have hdc := fun W ho => cut_front W 0 (.slice ao S.l.length c) S.l D ho h1.1 (by omega)
    have OK2 := Lib.hid ok2
    have HDC := Lib.hid hdc
    have t1 : ((D : Int) == 0) = false := beq_eq_false_iff_ne.2 (by omega)
    have t2 : ¬ (S.ever : Int) < (D : Int) := by omega
    have t3 : IntKind.i64.wrap (D : Int) = (D : Int) := wrapN _ (by omega) (by omega)
    have t4 : IntKind.i64.wrap ((S.out : Int) - (D : Int)) = (S.out : Int) - (D : Int) := wrapN _ (by omega) (by omega)
    have t5 : IntKind.i64.wrap ((S.ever : Int) - (D : Int)) = (S.ever : Int) - (D : Int) := wrapN _ (by omega) (by omega)
    have hout : max ((S.out : Int) - (D : Int)) 0 = ((S.out - D : Nat) : Int) := by omega
    have hever : (S.ever : Int) - (D : Int) = ((S.ever - D : Nat) : Int) := by omega
    have hS : S.drop D = ⟨S.e, S.win, S.qn, S.wait, S.l.drop D, a, S.out - D, S.ever - D, S.want, S.owes, 0⟩ := by
      unfold EndS.drop
      rw [if_neg (by omega), hfa]
    rw [hS] at OK2 ⊢
    have HOUT := Lib.hid hout
    have HEVER := Lib.hid hever
    have HL := Lib.hid (show S.l.length ≤ S.qn from ok.len)
    clear h ok hD hgone h1 ok2 hfa hdc o1 o2 o3 o4 o5 hout hever ha hS
    obtain ⟨e, win, qn, wait, l, first, out, ever, want, owes, age⟩ := S
    unfold rCells at hblk
    dsimp only at hblk hw1 hw2 t1 t2 t3 t4 t5 OK2 HDC HOUT HEVER ⊢
    obtain ⟨⟨c0, c1, c2, c3, c4, c5, c6, c7, c8, c9, c10⟩, ⟨f0, f1, f2, f3, f4, f5, f6, f7, f8, f9, f10⟩⟩ := cells11 hblk
    have HB := Lib.hid hblk
    clear hblk
    go_enter Tryz.func80, Tryz.ntmps80
    go_wp2_with fail
    refine (HDC.out w H.out.own).mono ?_
    rintro e1 w1 ⟨v2, rfl, ho2, hg2, he2⟩
    obtain ⟨a2, n2, c2', rfl⟩ := ho2.sh
    have hb2 := (hg2.block p hp (fun e => H.out.ne e.symm)).trans HB.out
    clear c0 c1 c2 c3 c4 c5 c6 c7 c8 c9 c10 f0 f1 f2 f3 f4 f5 f6 f7 f8 f9 f10
    obtain ⟨⟨c0, c1, c2, c3, c4, c5, c6, c7, c8, c9, c10⟩, ⟨f0, f1, f2, f3, f4, f5, f6, f7, f8, f9, f10⟩⟩ := cells11 hb2
    have HB2 := Lib.hid hb2
    have HO2 := Lib.hid ho2
    have HG2 := Lib.hid hg2
    have HE2 := Lib.hid he2
    clear hb2 ho2 hg2 he2
    go_wp2
    all_goals refine bodyPost_ret (v := .tuple #[]) (by simp [results, Tryz.results80, go_sem]) rfl ?_
    all_goals rw [HOUT.out, HEVER.out]
    all_goals (refine cut_end H.out HG2.out HO2.out HE2.out ?_ OK2.out ?_ _; exact (by repeat (first | exact Off.refl _ _ | refine off_two ?_ _ _ rfl | refine off_drew ?_ _)); exact blk_set (blk_set (blk_set (blk_set (blk_set HB2.out 4 _) 5 _) 6 _) 7 _) 10 _)
  · rw [if_neg h1] at hgone
    rw [hgone, EndS.drop_zero ok]
    have h2 : D = 0 ∨ S.ever < D := by omega
    clear ok hgone h1 hD o1 o2 o3 o4 o5
    obtain ⟨e, win, qn, wait, l, first, out, ever, want, owes, age⟩ := S
    unfold rCells at hblk
    dsimp only at hblk hw1 hw2 h2 ⊢
    obtain ⟨⟨c0, c1, c2, c3, c4, c5, c6, c7, c8, c9, c10⟩, _⟩ := cells11 hblk
    clear hblk h
    rcases h2 with h2 | h2
    · have t1 : ((D : Int) == 0) = true := beq_iff_eq.2 (by omega)
      clear h2
      go_enter Tryz.func80, Tryz.ntmps80
      go_wp2
      all_goals refine bodyPost_ret (v := .tuple #[]) (by simp [results, Tryz.results80, go_sem]) rfl ?_
      all_goals exact HM.out _ (by repeat (first | exact Ext.refl _ | assumption | refine Ext.alloc ?_ _ | refine Ext.drew ?_ | refine Ext.drewN ?_ _)) _
    · have t1 : ((D : Int) == 0) = false := beq_eq_false_iff_ne.2 (by omega)
      have t2 : (ever : Int) < (D : Int) := by omega
      clear h2
      go_enter Tryz.func80, Tryz.ntmps80
      go_wp2
      all_goals refine bodyPost_ret (v := .tuple #[]) (by simp [results, Tryz.results80, go_sem]) rfl ?_
      all_goals exact HM.out _ (by repeat (first | exact Ext.refl _ | assumption | refine Ext.alloc ?_ _ | refine Ext.drew ?_ | refine Ext.drewN ?_ _)) _
end Go.Proofs.YtlakolkpfkakoaaGreatDoor

/- The program's ends: Take. -/
namespace Go.Proofs.YtlakolkpfkakoaaGreatDoor
open Go.RowKit

theorem take_end {w w2 w3 W : World} {p : Nat} {S1 S2 : EndS} {F F' : Nat → Prop} {ao : Option Addr} {n c : Nat} (x : Ext w w2) (o : Off F w2 w3) (g : Grows F F' w2) (h3 : EndAt w3 p S1 F' ao n c) (o3 : Off (fun k => k = p) w3 W)
    (ok : S2.Ok) (hl : S2.l = S1.l) (hb : W.heap[p]? = some (.cells (rCells S2 (.slice ao n c)) 121 (0, 0))) (r : Value) : MovesE p S2 F r w (.returned r) W :=
  ⟨F', rfl, ⟨ao, n, c, h3.put o3 ok hl hb⟩, ((Off.of_ext x).trans o (Grows.refl _ _)).trans (h3.offp o3) (g.back x.size), g.back x.size⟩

theorem drop_want (S : EndS) (k : Nat) : (S.drop k).want = S.want := rfl
theorem good_parts {S : EndS} {f : Fr} (hg : S.good f = true) : rightB f = true ∧ f.e = S.e ∧ (f.k = 1 ∨ f.k = 2) := by
  unfold EndS.good at hg
  rw [Bool.and_eq_true, decide_eq_true_eq] at hg
  refine ⟨hg.1, hg.2, ?_⟩
  have := hg.1
  unfold rightB at this
  simp only [Bool.and_eq_true, Bool.or_eq_true, decide_eq_true_eq] at this
  rcases this.2 with h | h
  · exact .inl h
  · exact .inr h.1
theorem take_box {w : World} {p : Nat} {S : EndS} {F : Nat → Prop} {ao : Option Addr} {n c : Nat} (h : EndAt w p S F ao n c) (k e : Int) (q a : Nat) (b : ByteArray) (t : TypeId) :
    ∀ W, Ext (w.alloc (.cells #[.int .i64 k, .int .i64 e, .int .u64 q, .int .u64 a, .string b] t)) W →
      W.heap[w.heap.size]? = some (.cells #[.int .i64 k, .int .i64 e, .int .u64 q, .int .u64 a, .string b] t (0, 0)) ∧ EndAt W p S F ao n c :=
  fun W x => ⟨(x.block w.heap.size (by rw [size_alloc]; exact Nat.lt_succ_self _)).trans (get_alloc_new _ _), h.ext (Ext.trans ((Ext.refl w).alloc _) x)⟩

set_option maxHeartbeats 3200000 in
theorem take_bad {w : World} {p : Nat} {S : EndS} {F : Nat → Prop} (h0 : EAt w p S F) (f : Fr) (hg : S.good f = false) :
    Calls Tryz.prog 50 #[.pointer (some ⟨p, 0, none⟩), .agg #[.int .i64 f.k, .int .i64 f.e, .int .u64 f.q, .int .u64 f.a, .string f.b]] w (MovesE p (S.take f) F (.tuple #[.string (S.body f), .bool (S.told f)]) w) := by
  have ht : S.told f = false := by unfold EndS.told; rw [hg]; rfl
  have h1 : S.body f = ⟨#[]⟩ := by unfold EndS.body; rw [if_neg (by rw [ht]; decide)]
  have h2 : S.take f = S := by unfold EndS.take; rw [if_neg (by rw [hg]; decide)]
  rw [ht, h1, h2]
  have HM := Lib.hid (same_moves h0)
  have cR := Lib.hid (fun W => right_any W f.k f.e f.q f.a f.b)
  have hcase : rightB ⟨f.k, f.e, f.q, f.a, f.b⟩ = false ∨ (rightB ⟨f.k, f.e, f.q, f.a, f.b⟩ = true ∧ (f.e != S.e) = true) := by
    unfold EndS.good at hg
    have h0 : (⟨f.k, f.e, f.q, f.a, f.b⟩ : Fr) = f := rfl
    rw [h0]
    cases hb : rightB f
    · exact .inl rfl
    · right
      rw [hb] at hg
      refine ⟨rfl, bne_iff_ne.2 (fun e => ?_)⟩
      rw [decide_eq_true e] at hg
      cases hg
  obtain ⟨ao, n, c, h⟩ := h0
  have HX := Lib.hid (take_box h f.k f.e f.q f.a f.b 83)
  clear h hg ht h1 h2
  obtain ⟨e, win, qn, wait, l, first, out, ever, want, owes, age⟩ := S
  obtain ⟨fk, fe, fq, fa, fb⟩ := f
  dsimp only at cR hcase HX HM ⊢
  rcases hcase with hb | ⟨hb, he⟩ <;> rw [hb] at cR <;> clear hb
  · go_enter Tryz.func50, Tryz.ntmps50
    go_wp2_with fail
    refine wp_region_M_lit (by kernel_rfl) ?_
    refine tv 0 (hv := by intro w' hw'; obtain ⟨⟨d0, d1, d2, d3, d4⟩, _⟩ := cells5 (HX.out w' hw').1; go_simp; first | done | with_reducible rfl) (h := ?_)
    (refine takeG 1 (v := ?_) (hv := fun w' hw' => ?_) (h := ?_); rotate_left; focus (go_simp; refine ⟨Ext.refl _, ?_⟩; (exact cR.out w'))); (simp only [Act.put, List.setIfInBounds_toArray, List.set])
    refine tv 2 (h := ?_)
    refine tv 3 (h := ?_)
    (refine takeU 4 (h := ?_); (simp only [Act.put, List.setIfInBounds_toArray, List.set]))
    (refine takeU 5 (h := ?_); (simp only [Act.put, List.setIfInBounds_toArray, List.set]))
    (refine takeU 6 (h := ?_); (simp only [Act.put, List.setIfInBounds_toArray, List.set]))
    (refine takeU 7 (h := ?_); (simp only [Act.put, List.setIfInBounds_toArray, List.set]))
    (refine takeU 8 (h := ?_); (simp only [Act.put, List.setIfInBounds_toArray, List.set]))
    (refine takeU 9 (h := ?_); (simp only [Act.put, List.setIfInBounds_toArray, List.set]))
    (refine takeU 10 (h := ?_); (simp only [Act.put, List.setIfInBounds_toArray, List.set]))
    refine tv 11 (h := ?_)
    (refine doneM (by kernel_rfl) ?_; intro w' hw'; show _)
    have HW := Lib.hid hw'
    clear hw'
    go_wp2
    all_goals refine bodyPost_ret (v := .tuple #[.string ⟨#[]⟩, .bool false]) (by simp [results, Tryz.results50, go_sem]) rfl ?_
    all_goals exact HM.out _ (Ext.trans ((Ext.refl w).alloc _) HW.out) _
  · go_enter Tryz.func50, Tryz.ntmps50
    go_wp2_with fail
    refine wp_region_M_lit (by kernel_rfl) ?_
    refine tv 0 (hv := by intro w' hw'; obtain ⟨⟨d0, d1, d2, d3, d4⟩, _⟩ := cells5 (HX.out w' hw').1; go_simp; first | done | with_reducible rfl) (h := ?_)
    (refine takeG 1 (v := ?_) (hv := fun w' hw' => ?_) (h := ?_); rotate_left; focus (go_simp; refine ⟨Ext.refl _, ?_⟩; (exact cR.out w'))); (simp only [Act.put, List.setIfInBounds_toArray, List.set])
    refine tv 2 (h := ?_)
    refine tv 3 (h := ?_)
    refine tv 4 (h := ?_)
    refine tv 5 (hv := by intro w' hw'; obtain ⟨⟨d0, d1, d2, d3, d4⟩, _⟩ := cells5 (HX.out w' hw').1; go_simp; first | done | with_reducible rfl) (h := ?_)
    refine tv 6 (h := ?_)
    refine tv 7 (h := ?_)
    refine tv 8 (h := ?_)
    refine tv 9 (hv := by intro w' hw'; have hc := (HX.out w' hw').2.blk; unfold rCells at hc; dsimp only at hc; obtain ⟨⟨c0, c1, c2, c3, c4, c5, c6, c7, c8, c9, c10⟩, _⟩ := cells11 hc; go_simp; first | done | with_reducible rfl) (h := ?_)
    refine tv 10 (h := ?_)
    refine tv 11 (h := ?_)
    (refine doneM (by kernel_rfl) ?_; intro w' hw'; show _)
    have HW := Lib.hid hw'
    clear hw'
    go_wp2
    all_goals refine bodyPost_ret (v := .tuple #[.string ⟨#[]⟩, .bool false]) (by simp [results, Tryz.results50, go_sem]) rfl ?_
    all_goals exact HM.out _ (Ext.trans ((Ext.refl w).alloc _) HW.out) _

set_option maxHeartbeats 6400000 in
theorem take_good {w : World} {p : Nat} {S : EndS} {F : Nat → Prop} (h0 : EAt w p S F) (f : Fr) (ha : f.a < 18446744073709551616) (hb9 : f.b.size ≤ 1000) (hg : S.good f = true) :
    Calls Tryz.prog 50 #[.pointer (some ⟨p, 0, none⟩), .agg #[.int .i64 f.k, .int .i64 f.e, .int .u64 f.q, .int .u64 f.a, .string f.b]] w (MovesE p (S.take f) F (.tuple #[.string (S.body f), .bool (S.told f)]) w) := by
  obtain ⟨hr, he, hk⟩ := good_parts hg
  have cR := Lib.hid (fun W => right_any W f.k f.e f.q f.a f.b)
  rw [show rightB ⟨f.k, f.e, f.q, f.a, f.b⟩ = true from hr] at cR
  have HCL := Lib.hid (fun W => clone_any W f.b (by omega))
  have hne : (f.e != S.e) = false := by rw [bne_eq_false_iff_eq]; exact he
  have cS := Lib.hid (fun W (x : EAt W p S F) => settle_any x f.a ha)
  have hwant : (S.drop (S.gone f.a)).want = S.want := drop_want S _
  have hok := (h0.ok.take f)
  have htake : S.take f = if f.k = 2 then S.drop (S.gone f.a) else { S.drop (S.gone f.a) with owes := true, want := if f.q = S.want then (S.want + 1) % 18446744073709551616 else S.want } := by
    unfold EndS.take; rw [if_pos hg]
  have htold : S.told f = (decide (f.k ≠ 2) && decide (f.q = S.want)) := by unfold EndS.told; rw [hg, Bool.true_and]
  have hbody : S.body f = if S.told f = true then f.b else ⟨#[]⟩ := rfl
  have hw64 := h0.ok.want
  obtain ⟨S1, hS1⟩ : ∃ S1, S1 = S.drop (S.gone f.a) := ⟨_, rfl⟩
  rw [← hS1] at cS hwant htake
  have hlow := h0.low
  obtain ⟨ao, n, c, h⟩ := h0
  have HX := Lib.hid (take_box h f.k f.e f.q f.a f.b 83)
  have HF := Lib.hid hlow
  have HP := Lib.hid (show p < w.heap.size from blk_lt h.blk)
  clear h hg hlow hS1 hr he
  rcases hk with hk | hk
  · by_cases hq : f.q = S.want
    · have htl : S.told f = true := by rw [htold, hk, decide_eq_true hq]; rfl
      have hbd : S.body f = f.b := by rw [hbody, htl]; rfl
      rw [htl, hbd]
      rw [if_neg (by rw [hk]; decide), if_pos hq] at htake
      rw [htake] at hok ⊢
      have t1 : ((f.q : Int) != (S.want : Int)) = false := by rw [bne_eq_false_iff_eq]; omega
      have t2 : IntKind.u64.wrap ((S.want : Int) + 1) = (((S.want + 1) % 18446744073709551616 : Nat) : Int) := seq_wrap S.want 1
      clear htl hbd htold hbody htake hq
      have OK := Lib.hid hok
      clear hok
      obtain ⟨e, win, qn, wait, l, first, out, ever, want, owes, age⟩ := S
      obtain ⟨e1, win1, qn1, wait1, l1, first1, out1, ever1, want1, owes1, age1⟩ := S1
      obtain ⟨fk, fe, fq, fa, fb⟩ := f
      dsimp only at cR HCL hne cS hwant HX hk OK t1 t2 hw64 ha hb9 ⊢
      subst hwant hk
      clear hw64 ha hb9
      go_enter Tryz.func50, Tryz.ntmps50
      go_wp2_with fail
      refine wp_region_M_lit (by kernel_rfl) ?_
      refine tv 0 (hv := by intro w' hw'; obtain ⟨⟨d0, d1, d2, d3, d4⟩, _⟩ := cells5 (HX.out w' hw').1; go_simp; first | done | with_reducible rfl) (h := ?_)
      (refine takeG 1 (v := ?_) (hv := fun w' hw' => ?_) (h := ?_); rotate_left; focus (go_simp; refine ⟨Ext.refl _, ?_⟩; (exact cR.out w'))); (simp only [Act.put, List.setIfInBounds_toArray, List.set])
      refine tv 2 (h := ?_)
      refine tv 3 (h := ?_)
      refine tv 4 (h := ?_)
      refine tv 5 (hv := by intro w' hw'; obtain ⟨⟨d0, d1, d2, d3, d4⟩, _⟩ := cells5 (HX.out w' hw').1; go_simp; first | done | with_reducible rfl) (h := ?_)
      refine tv 6 (h := ?_)
      refine tv 7 (h := ?_)
      refine tv 8 (h := ?_)
      refine tv 9 (hv := by intro w' hw'; have hc := (HX.out w' hw').2.blk; unfold rCells at hc; dsimp only at hc; obtain ⟨⟨c0, c1, c2, c3, c4, c5, c6, c7, c8, c9, c10⟩, _⟩ := cells11 hc; go_simp; first | done | with_reducible rfl) (h := ?_)
      refine tv 10 (h := ?_)
      refine tv 11 (h := ?_)
      (refine doneM (by kernel_rfl) ?_; intro w' hw'; show _)
      have HW := Lib.hid hw'
      obtain ⟨⟨d0, d1, d2, d3, d4⟩, _⟩ := cells5 (HX.out w' hw').1
      clear hw'
      go_wp2_with fail
      refine (cS.out _ ⟨ao, n, c, (HX.out _ HW.out).2⟩).mono ?_
      rintro e3 w3 ⟨F', rfl, ⟨a3, n3, c3, h3⟩, o3, g3⟩
      have hbx := o3.blk (HX.out _ HW.out).1 (fun hf => Nat.lt_irrefl _ (HF.out _ hf))
      clear d0 d1 d2 d3 d4
      obtain ⟨⟨d0, d1, d2, d3, d4⟩, _⟩ := cells5 hbx
      have hb3 := h3.blk
      have HB3 := Lib.hid hb3
      have hgp : w.heap.size ≠ p := fun e => by have := HP.out; omega
      have hpg : p ≠ w.heap.size := fun e => hgp e.symm
      unfold rCells at hb3
      dsimp only at hb3
      obtain ⟨⟨c0, c1, c2, c3, c4, c5, c6, c7, c8, c9, c10⟩, ⟨f0, f1, f2, f3, f4, f5, f6, f7, f8, f9, f10⟩⟩ := cells11 hb3
      have H3 := Lib.hid h3
      have O3 := Lib.hid o3
      have G3 := Lib.hid g3
      clear h3 hb3 o3 g3 hbx
      go_wp2_with fail
      go_quiet (fail)
      go_wp2_with fail
      refine (HCL.out _).mono ?_
      rintro e4 w4 ⟨rfl, hx4⟩
      have HX4 := Lib.hid hx4
      clear hx4
      go_wp2
      all_goals refine bodyPost_ret (v := .tuple #[.string fb, .bool true]) (by simp [results, Tryz.results50, go_sem]) rfl ?_
      have z := blk_set (blk_set HB3.out 9 (.bool true)) 8 (.int .u64 (((want1 + 1) % 18446744073709551616 : Nat) : Int))
      all_goals (refine take_end (Ext.trans ((Ext.refl w).alloc _) HW.out) O3.out G3.out H3.out ?_ OK.out rfl ?_ _; exact Off.ext (by repeat (first | exact Off.refl _ _ | refine off_two ?_ _ _ rfl | refine off_drew ?_ _)) HX4.out; exact (HX4.out.block p (blk_lt z)).trans z)
    · have htl : S.told f = false := by rw [htold, decide_eq_false hq, Bool.and_false]
      have hbd : S.body f = ⟨#[]⟩ := by rw [hbody, htl]; rfl
      rw [htl, hbd]
      rw [if_neg (by rw [hk]; decide), if_neg hq] at htake
      rw [htake] at hok ⊢
      have t1 : ((f.q : Int) != (S.want : Int)) = true := by rw [bne_iff_ne, ne_eq]; omega
      clear htl hbd htold hbody htake hq
      have OK := Lib.hid hok
      clear hok
      obtain ⟨e, win, qn, wait, l, first, out, ever, want, owes, age⟩ := S
      obtain ⟨e1, win1, qn1, wait1, l1, first1, out1, ever1, want1, owes1, age1⟩ := S1
      obtain ⟨fk, fe, fq, fa, fb⟩ := f
      dsimp only at cR HCL hne cS hwant HX hk OK t1 hw64 ha hb9 ⊢
      subst hwant hk
      clear hw64 ha hb9
      go_enter Tryz.func50, Tryz.ntmps50
      go_wp2_with fail
      refine wp_region_M_lit (by kernel_rfl) ?_
      refine tv 0 (hv := by intro w' hw'; obtain ⟨⟨d0, d1, d2, d3, d4⟩, _⟩ := cells5 (HX.out w' hw').1; go_simp; first | done | with_reducible rfl) (h := ?_)
      (refine takeG 1 (v := ?_) (hv := fun w' hw' => ?_) (h := ?_); rotate_left; focus (go_simp; refine ⟨Ext.refl _, ?_⟩; (exact cR.out w'))); (simp only [Act.put, List.setIfInBounds_toArray, List.set])
      refine tv 2 (h := ?_)
      refine tv 3 (h := ?_)
      refine tv 4 (h := ?_)
      refine tv 5 (hv := by intro w' hw'; obtain ⟨⟨d0, d1, d2, d3, d4⟩, _⟩ := cells5 (HX.out w' hw').1; go_simp; first | done | with_reducible rfl) (h := ?_)
      refine tv 6 (h := ?_)
      refine tv 7 (h := ?_)
      refine tv 8 (h := ?_)
      refine tv 9 (hv := by intro w' hw'; have hc := (HX.out w' hw').2.blk; unfold rCells at hc; dsimp only at hc; obtain ⟨⟨c0, c1, c2, c3, c4, c5, c6, c7, c8, c9, c10⟩, _⟩ := cells11 hc; go_simp; first | done | with_reducible rfl) (h := ?_)
      refine tv 10 (h := ?_)
      refine tv 11 (h := ?_)
      (refine doneM (by kernel_rfl) ?_; intro w' hw'; show _)
      have HW := Lib.hid hw'
      obtain ⟨⟨d0, d1, d2, d3, d4⟩, _⟩ := cells5 (HX.out w' hw').1
      clear hw'
      go_wp2_with fail
      refine (cS.out _ ⟨ao, n, c, (HX.out _ HW.out).2⟩).mono ?_
      rintro e3 w3 ⟨F', rfl, ⟨a3, n3, c3, h3⟩, o3, g3⟩
      have hbx := o3.blk (HX.out _ HW.out).1 (fun hf => Nat.lt_irrefl _ (HF.out _ hf))
      clear d0 d1 d2 d3 d4
      obtain ⟨⟨d0, d1, d2, d3, d4⟩, _⟩ := cells5 hbx
      have hb3 := h3.blk
      have HB3 := Lib.hid hb3
      have hgp : w.heap.size ≠ p := fun e => by have := HP.out; omega
      have hpg : p ≠ w.heap.size := fun e => hgp e.symm
      unfold rCells at hb3
      dsimp only at hb3
      obtain ⟨⟨c0, c1, c2, c3, c4, c5, c6, c7, c8, c9, c10⟩, ⟨f0, f1, f2, f3, f4, f5, f6, f7, f8, f9, f10⟩⟩ := cells11 hb3
      have H3 := Lib.hid h3
      have O3 := Lib.hid o3
      have G3 := Lib.hid g3
      clear h3 hb3 o3 g3 hbx
      go_wp2_with fail
      go_quiet (fail)
      go_wp2
      all_goals refine bodyPost_ret (v := .tuple #[.string ⟨#[]⟩, .bool false]) (by simp [results, Tryz.results50, go_sem]) rfl ?_
      all_goals (refine take_end (Ext.trans ((Ext.refl w).alloc _) HW.out) O3.out G3.out H3.out ?_ OK.out rfl ?_ _; exact (by repeat (first | exact Off.refl _ _ | refine off_two ?_ _ _ rfl | refine off_drew ?_ _)); exact blk_set HB3.out 9 _)
  · have htl : S.told f = false := by rw [htold, hk]; rfl
    have hbd : S.body f = ⟨#[]⟩ := by rw [hbody, htl]; rfl
    rw [htl, hbd]
    rw [if_pos hk] at htake
    rw [htake] at hok ⊢
    clear htl hbd htold hbody htake
    have OK := Lib.hid hok
    clear hok
    obtain ⟨e, win, qn, wait, l, first, out, ever, want, owes, age⟩ := S
    obtain ⟨e1, win1, qn1, wait1, l1, first1, out1, ever1, want1, owes1, age1⟩ := S1
    obtain ⟨fk, fe, fq, fa, fb⟩ := f
    dsimp only at cR HCL hne cS hwant HX hk OK hw64 ha hb9 ⊢
    subst hwant hk
    clear hw64 ha hb9
    go_enter Tryz.func50, Tryz.ntmps50
    go_wp2_with fail
    refine wp_region_M_lit (by kernel_rfl) ?_
    refine tv 0 (hv := by intro w' hw'; obtain ⟨⟨d0, d1, d2, d3, d4⟩, _⟩ := cells5 (HX.out w' hw').1; go_simp; first | done | with_reducible rfl) (h := ?_)
    (refine takeG 1 (v := ?_) (hv := fun w' hw' => ?_) (h := ?_); rotate_left; focus (go_simp; refine ⟨Ext.refl _, ?_⟩; (exact cR.out w'))); (simp only [Act.put, List.setIfInBounds_toArray, List.set])
    refine tv 2 (h := ?_)
    refine tv 3 (h := ?_)
    refine tv 4 (h := ?_)
    refine tv 5 (hv := by intro w' hw'; obtain ⟨⟨d0, d1, d2, d3, d4⟩, _⟩ := cells5 (HX.out w' hw').1; go_simp; first | done | with_reducible rfl) (h := ?_)
    refine tv 6 (h := ?_)
    refine tv 7 (h := ?_)
    refine tv 8 (h := ?_)
    refine tv 9 (hv := by intro w' hw'; have hc := (HX.out w' hw').2.blk; unfold rCells at hc; dsimp only at hc; obtain ⟨⟨c0, c1, c2, c3, c4, c5, c6, c7, c8, c9, c10⟩, _⟩ := cells11 hc; go_simp; first | done | with_reducible rfl) (h := ?_)
    refine tv 10 (h := ?_)
    refine tv 11 (h := ?_)
    (refine doneM (by kernel_rfl) ?_; intro w' hw'; show _)
    have HW := Lib.hid hw'
    obtain ⟨⟨d0, d1, d2, d3, d4⟩, _⟩ := cells5 (HX.out w' hw').1
    clear hw'
    go_wp2_with fail
    refine (cS.out _ ⟨ao, n, c, (HX.out _ HW.out).2⟩).mono ?_
    rintro e3 w3 ⟨F', rfl, ⟨a3, n3, c3, h3⟩, o3, g3⟩
    have hbx := o3.blk (HX.out _ HW.out).1 (fun hf => Nat.lt_irrefl _ (HF.out _ hf))
    clear d0 d1 d2 d3 d4
    obtain ⟨⟨d0, d1, d2, d3, d4⟩, _⟩ := cells5 hbx
    have hb3 := h3.blk
    have HB3 := Lib.hid hb3
    have hgp : w.heap.size ≠ p := fun e => by have := HP.out; omega
    have hpg : p ≠ w.heap.size := fun e => hgp e.symm
    unfold rCells at hb3
    dsimp only at hb3
    obtain ⟨⟨c0, c1, c2, c3, c4, c5, c6, c7, c8, c9, c10⟩, ⟨f0, f1, f2, f3, f4, f5, f6, f7, f8, f9, f10⟩⟩ := cells11 hb3
    have H3 := Lib.hid h3
    have O3 := Lib.hid o3
    have G3 := Lib.hid g3
    clear h3 hb3 o3 g3 hbx
    go_wp2
    all_goals refine bodyPost_ret (v := .tuple #[.string ⟨#[]⟩, .bool false]) (by simp [results, Tryz.results50, go_sem]) rfl ?_
    all_goals (refine take_end (Ext.trans ((Ext.refl w).alloc _) HW.out) O3.out G3.out H3.out ?_ OK.out rfl ?_ _; exact (by repeat (first | exact Off.refl _ _ | refine off_two ?_ _ _ rfl | refine off_drew ?_ _)); exact HB3.out)

theorem pTake {w : World} {p : Nat} {S : EndS} {F : Nat → Prop} (_ : Std w) (h : EAt w p S F) (f : Fr) (ha : f.a < 18446744073709551616) (_ : f.q < 18446744073709551616) (hb : f.b.size ≤ 1000) :
    Calls Tryz.prog 50 #[.pointer (some ⟨p, 0, none⟩), .agg #[.int .i64 f.k, .int .i64 f.e, .int .u64 f.q, .int .u64 f.a, .string f.b]] w (MovesE p (S.take f) F (.tuple #[.string (S.body f), .bool (S.told f)]) w) := by
  cases hg : S.good f
  · exact take_bad h f hg
  · exact take_good h f ha hb hg
end Go.Proofs.YtlakolkpfkakoaaGreatDoor

/- The program's ends: the closure that puts a frame. -/
namespace Go.Proofs.YtlakolkpfkakoaaGreatDoor
open Go.RowKit
def set5k (W : World) (g : Nat) (u0 u1 u2 u3 u4 : Value) : World := ((((W.setCell ⟨g, 0, none⟩ u0).setCell ⟨g, 1, none⟩ u1).setCell ⟨g, 2, none⟩ u2).setCell ⟨g, 3, none⟩ u3).setCell ⟨g, 4, none⟩ u4
theorem set5k_blk {W : World} {g : Nat} {v0 v1 v2 v3 v4 : Value} {t : TypeId} (h : W.heap[g]? = some (.cells #[v0, v1, v2, v3, v4] t (0, 0))) (u0 u1 u2 u3 u4 : Value) : (set5k W g u0 u1 u2 u3 u4).heap[g]? = some (.cells #[u0, u1, u2, u3, u4] t (0, 0)) :=
  blk_set (blk_set (blk_set (blk_set (blk_set h 0 u0) 1 u1) 2 u2) 3 u3) 4 u4
theorem set5k_ext {w W : World} {g : Nat} (x : Ext w W) (hg : w.heap.size ≤ g) (u0 u1 u2 u3 u4 : Value) : Ext w (set5k W g u0 u1 u2 u3 u4) :=
  below_set (below_set (below_set (below_set (below_set x hg _) hg _) hg _) hg _) hg _
structure Puts (W : World) (B g1 g2 p : Nat) (fo : Option Addr) (fn fc : Nat) (fs : List Fr) : Prop where
  bx : W.heap[g1]? = some (.cells #[.pointer (some ⟨p, 0, none⟩)] 66 (0, 0))
  bf : W.heap[g2]? = some (.cells #[.slice fo fn fc] 79 (0, 0))
  own : Ow W B (.slice fo fn fc) fs
  low : B ≤ W.heap.size
  l1 : g1 < B
  l2 : g2 < B
  ne : g1 ≠ g2
theorem Puts.ext {W W' : World} {B g1 g2 p : Nat} {fo : Option Addr} {fn fc : Nat} {fs : List Fr} (h : Puts W B g1 g2 p fo fn fc fs) (x : Ext W W') : Puts W' B g1 g2 p fo fn fc fs :=
  ⟨(x.block _ (blk_lt h.bx)).trans h.bx, (x.block _ (blk_lt h.bf)).trans h.bf, h.own.ext x, Nat.le_trans h.low x.size, h.l1, h.l2, h.ne⟩

set_option maxRecDepth 100000 in
set_option maxHeartbeats 3200000 in
theorem putk_any {W : World} {p B g1 g2 : Nat} {S : EndS} {v : Value} {fo : Option Addr} {fn fc : Nat} {fs : List Fr} (h : W.heap[p]? = some (.cells (rCells S v) 121 (0, 0))) (hp : Puts W B g1 g2 p fo fn fc fs) (hl : fs.length ≤ 100) (k : Int) (q : Nat) (b : ByteArray) (hb : b.size ≤ 1000) :
    Calls Tryz.prog 63 #[.int .i64 k, .int .u64 q, .string b, .pointer (some ⟨g1, 0, none⟩), .pointer (some ⟨g2, 0, none⟩)] W fun e W' =>
      e = .returned (.tuple #[]) ∧ ∃ fo' fn' fc', Puts W' B g1 g2 p fo' fn' fc' (fs ++ [⟨k, S.e, q, S.want, b⟩]) ∧ Off (fun i => i = g2 ∨ B ≤ i) W W' := by
  have HCL := Lib.hid (fun W => clone_any W b (by omega))
  have HX := Lib.hid (fun W' (x : Ext W W') => And.intro ((x.block _ (blk_lt h)).trans h) (hp.ext x))
  have hlow := hp.low
  have hl1 := hp.l1
  have hl2 := hp.l2
  clear h hp
  obtain ⟨e, win, qn, wait, l, first, out, ever, want, owes, age⟩ := S
  dsimp only at HX ⊢
  have HC : Hid (∀ W', Ext W W' → (W'.cell? ⟨p, 0, none⟩ = some (.int .i64 e) ∧ W'.cell? ⟨p, 8, none⟩ = some (.int .u64 want)) ∧ W'.cell? ⟨g1, 0, none⟩ = some (.pointer (some ⟨p, 0, none⟩)) ∧ W'.cell? ⟨g2, 0, none⟩ = some (.slice fo fn fc) ∧ W'.frozen? ⟨g2, 0, none⟩ = false) := Lib.hid (fun W' x =>
    ⟨⟨blk_cell (HX.out W' x).1 0 rfl, blk_cell (HX.out W' x).1 8 rfl⟩, blk_cell (HX.out W' x).2.bx 0 rfl, blk_cell (HX.out W' x).2.bf 0 rfl, blk_free (HX.out W' x).2.bf 0⟩)
  go_enter Tryz.func63, Tryz.ntmps63
  go_wp2_with fail
  refine wp_region_M_lit (by kernel_rfl) ?_
  refine tv 0 (h := ?_)
  refine tv 1 (hv := by intro w' hw'; have hc := (HC.out w' hw').2.1; go_simp; first | done | with_reducible rfl) (h := ?_)
  refine tv 2 (h := ?_)
  refine tv 3 (h := ?_)
  refine tv 4 (hv := by intro w' hw'; have hc := (HC.out w' hw').1.1; go_simp; first | done | with_reducible rfl) (h := ?_)
  refine tv 5 (h := ?_)
  refine tv 6 (hv := by intro w' hw'; have hc := (HC.out w' hw').2.1; go_simp; first | done | with_reducible rfl) (h := ?_)
  refine tv 7 (h := ?_)
  refine tv 8 (h := ?_)
  refine tv 9 (hv := by intro w' hw'; have hc := (HC.out w' hw').1.2; go_simp; first | done | with_reducible rfl) (h := ?_)
  refine tv 10 (h := ?_)
  (refine takeG 11 (v := ?_) (hv := fun w' hw' => ?_) (h := ?_); rotate_left; focus (go_simp; refine ⟨Ext.refl _, ?_⟩; (exact HCL.out w'))); (simp only [Act.put, List.setIfInBounds_toArray, List.set])
  refine tv 12 (h := ?_)
  (refine runOne 13 (h := ?_); intro w' hw'; go_simp; refine ⟨Ext.alloc (Ext.refl _) _, ?_⟩; try (simp only [Act.put, List.setIfInBounds_toArray, List.set]))
  have Y1 := Lib.hid hw'
  clear hw'
  obtain ⟨wA, hA⟩ : ∃ wA, wA = w' := ⟨_, rfl⟩
  rw [← hA] at Y1 ⊢
  clear hA
  (refine runLate 14 (h := ?_); intro w' hw'; obtain ⟨k5, k6⟩ := cells5 (late_blk hw'); go_simp; try (simp only [Act.put, List.setIfInBounds_toArray, List.set]))
  (refine lateDone (by kernel_rfl) ?_)
  have z := set5k_blk (late_blk hw') (.int .i64 k) (.int .i64 e) (.int .u64 q) (.int .u64 want) (.string b)
  have y5 : Ext W (set5k w' wA.heap.size (.int .i64 k) (.int .i64 e) (.int .u64 q) (.int .u64 want) (.string b)) := set5k_ext (Ext.trans (Y1.out.alloc _) hw') Y1.out.size _ _ _ _ _
  obtain ⟨W5, hW5⟩ : ∃ W5, W5 = set5k w' wA.heap.size (.int .i64 k) (.int .i64 e) (.int .u64 q) (.int .u64 want) (.string b) := ⟨_, rfl⟩
  rw [← hW5] at z y5
  simp only [set5k] at hW5
  rw [← hW5]
  obtain ⟨gb, hgb⟩ : ∃ gb, gb = wA.heap.size := ⟨_, rfl⟩
  rw [← hgb] at z ⊢
  have hp5 := (HX.out W5 y5).2
  obtain ⟨⟨m0, m1, m2, m3, m4⟩, _⟩ := cells5 z
  obtain ⟨_, _, c2, f2⟩ := HC.out W5 y5
  clear hW5 hw' k5 k6 Y1 hgb HC z
  have Y5 := Lib.hid y5
  have HP5 := Lib.hid hp5
  have hs5 := y5.size
  clear y5 hp5
  have HB6 := Lib.hid (HP5.out.ext ((Ext.refl W5).alloc (.cells #[.int .i64 k, .int .i64 e, .int .u64 q, .int .u64 want, .string b] 83)))
  go_wp2_with (first
    | (at_builtin; refine wpList_append_sl (α := Fr) rfl (.tmp 22) (.tmp 24) rfl B (.slice fo fn fc) fs rfl ?_ (.slice (some ⟨_, 0, none⟩) 1 1) [(⟨k, e, q, want, b⟩ : Fr)] rfl ?_ ?_ ?_ ?_; exact HB6.out.own; exact (Sl.litAt W5 _ rfl [(⟨k, e, q, want, b⟩ : Fr)] (show (1 : Nat) ≤ 1000000 by decide)); (first | omega | (simp; omega)); (rw [size_alloc]; omega); intro v2 W7 ho2 ha2; obtain ⟨a2, n2, c2', rfl⟩ := ho2.sh; have O2 := Lib.hid ho2; have A2 := Lib.hid ha2; have b1 := (ha2.below.block g1 hl1).trans HB6.out.bx; have b2 := (ha2.below.block g2 hl2).trans HB6.out.bf; have B1 := Lib.hid b1; have B2 := Lib.hid b2; have c7 := blk_cell b2 0 rfl; have f7 := blk_free b2 0; clear ho2 ha2 b1 b2))
  refine bodyPost_end (results_none rfl _ _ _) rfl ?_
  refine ⟨rfl, a2, n2, c2', ⟨?_, ?_, ?_, ?_, hl1, hl2, HP5.out.ne⟩, ?_⟩
  · exact (set_other _ _ _ _ HP5.out.ne).trans B1.out
  · exact blk_set B2.out 0 _
  · exact O2.out.set hl2 _
  · rw [set_size]; exact Nat.le_trans HB6.out.low A2.out.below.size
  · have hb7 : Below B W W7 := Below.trans (Y5.out.mono hlow) (Below.trans ((Below.refl B W5).alloc HP5.out.low _) A2.out.below)
    refine ((Off.of_below hb7).mono fun i hi => .inr hi).trans ((off_set W7 ⟨g2, 0, none⟩ _).mono fun i hi => .inl hi) (Grows.refl _ _)
end Go.Proofs.YtlakolkpfkakoaaGreatDoor

/- The program's ends: Out. -/
namespace Go.Proofs.YtlakolkpfkakoaaGreatDoor
open Go.RowKit
def GoesE (p : Nat) (S' : EndS) (F : Nat → Prop) (l : List Fr) (w : World) (e : Ending) (w' : World) : Prop := ∃ ao n c F', e = .returned (.slice ao n c) ∧ Sl w' (.slice ao n c) l ∧ (l = [] ∨ ∀ b, (Value.slice ao n c).ownBlock = some b → w.heap.size ≤ b ∧ ¬ F' b) ∧ EAt w' p S' F' ∧ Off F w w' ∧ Grows F F' w
def outAt (w : World) (p : Nat) : Nat := match w.cell? ⟨p, 6, none⟩ with
  | some v => (intOf v).toNat
  | none => 0
theorem outAt_of {w : World} {p i : Nat} (h : w.cell? ⟨p, 6, none⟩ = some (.int .i64 i)) : outAt w p = i := by unfold outAt; rw [h]; simp [intOf]

theorem off_puts {w W W' : World} {p B g2 : Nat} (o : Off (fun k => k = p) w W) (o2 : Off (fun i => i = g2 ∨ B ≤ i) W W') (h2 : w.heap.size ≤ g2) (hB : w.heap.size ≤ B) : Off (fun k => k = p) w W' :=
  o.trans o2 fun k hk => by
    rcases hk with hk | hk
    · exact .inr (by omega)
    · exact .inr (by omega)
theorem Puts.set {W : World} {B g1 g2 p : Nat} {fo : Option Addr} {fn fc : Nat} {fs : List Fr} (h : Puts W B g1 g2 p fo fn fc fs) (d : Addr) (u : Value) (h1 : d.block ≠ g1) (h2 : d.block ≠ g2) (h3 : d.block < B) : Puts (W.setCell d u) B g1 g2 p fo fn fc fs :=
  ⟨(set_other _ _ _ _ (Ne.symm h1)).trans h.bx, (set_other _ _ _ _ (Ne.symm h2)).trans h.bf, h.own.set h3 _, by rw [set_size]; exact h.low, h.l1, h.l2, h.ne⟩
theorem out_end {w W : World} {p B : Nat} {S S' : EndS} {F : Nat → Prop} {ao fo : Option Addr} {n c fn fc : Nat} {fs : List Fr} (h : EndAt w p S F ao n c) (o : Off (fun k => k = p) w W) (ok : S'.Ok) (hl : S'.l = S.l)
    (hb : W.heap[p]? = some (.cells (rCells S' (.slice ao n c)) 121 (0, 0))) (ho : Ow W B (.slice fo fn fc) fs) (hB : w.heap.size ≤ B) : GoesE p S' F fs w (.returned (.slice fo fn fc)) W :=
  ⟨fo, fn, fc, F, rfl, ho.sl, .inr fun b hb => ⟨Nat.le_trans hB (ho.low b hb).1, fun hf => by have := h.lowb b hf; have := (ho.low b hb).1; omega⟩, ⟨ao, n, c, h.put o ok hl hb⟩, h.offp o, Grows.refl _ _⟩

set_option maxRecDepth 100000 in
set_option maxHeartbeats 6400000 in
theorem pOut {w : World} {p : Nat} {S : EndS} {F : Nat → Prop} (h0 : EAt w p S F) :
    Calls Tryz.prog 38 #[.pointer (some ⟨p, 0, none⟩)] w (GoesE p S.outS F S.frames w) := by
  obtain ⟨ao, n, c, h⟩ := h0
  obtain ⟨ao', c', hv⟩ := h.own.sl.len
  simp only [Value.slice.injEq] at hv
  obtain ⟨rfl, rfl, rfl⟩ := hv
  have H := Lib.hid h
  have OKS := Lib.hid h.ok.outS
  have h1 := h.ok.len
  have h2 := h.ok.qn
  have h3 := h.ok.win8
  have h4 := h.ok.ew
  have h5 := h.ok.oe
  have hsm := h.ok.small
  have hsl := h.own.sl
  have hpw : p < w.heap.size := blk_lt h.blk
  have hblk := h.blk
  have hownb := fun b => h.own.low (v := .slice ao S.l.length c) b
  have hneb := h.ne
  clear h
  obtain ⟨e, win, qn, wait, l, first, out, ever, want, owes, age⟩ := S
  dsimp only at h1 h2 h3 h4 h5 hsm hsl hownb hneb
  obtain ⟨S, hS⟩ : ∃ S : EndS, S = ⟨e, win, qn, wait, l, first, out, ever, want, owes, age⟩ := ⟨_, rfl⟩
  rw [← hS] at H OKS ⊢
  have HSS := Lib.hid hS
  have HTOP := Lib.hid (show S.top = min win l.length by rw [hS]; rfl)
  have HDATA := Lib.hid (show ∀ i, S.data i = ⟨1, e, (first + i) % 18446744073709551616, want, l.getD i ⟨#[]⟩⟩ by intro i; rw [hS]; rfl)
  have HSL := Lib.hid hsl
  have HSM := Lib.hid hsm
  have HOB := Lib.hid hownb
  have HNB := Lib.hid hneb
  clear hS hsl hsm hownb hneb
  obtain ⟨top, htop⟩ : ∃ top, top = min win l.length := ⟨_, rfl⟩
  have HTT := Lib.hid htop
  have ht1 : top ≤ win := by omega
  have ht2 : top ≤ l.length := by omega
  have htm : (top : Int) = min (l.length : Int) (win : Int) := by omega
  have HTM := Lib.hid htm
  have HBLK := Lib.hid hblk
  clear htop htm hblk
  have HP0 : Hid (Puts ((w.alloc (.cells #[.pointer (some ⟨p, 0, none⟩)] 66)).alloc (.cells #[.slice none 0 0] 79)) (w.heap.size + 2) w.heap.size (w.heap.size + 1) p none 0 0 ([] : List Fr)) := Lib.hid
    ⟨blk_alloc (get_alloc_new w _) _, (by have := get_alloc_new (w.alloc (.cells #[.pointer (some ⟨p, 0, none⟩)] 66)) (.cells #[.slice none 0 0] 79); rw [size_alloc] at this; exact this), Ow.nil _ _, by rw [size_alloc, size_alloc]; exact Nat.le_refl _, by omega, by omega, by omega⟩
  have HO0 : Hid (Off (fun k => k = p) w ((w.alloc (.cells #[.pointer (some ⟨p, 0, none⟩)] 66)).alloc (.cells #[.slice none 0 0] 79))) := Lib.hid (Off.of_ext (((Ext.refl w).alloc _).alloc _))
  have HB0 : Hid (((w.alloc (.cells #[.pointer (some ⟨p, 0, none⟩)] 66)).alloc (.cells #[.slice none 0 0] 79)).heap[p]? = some (.cells (rCells ⟨e, win, qn, wait, l, first, out, ever, want, owes, age⟩ (.slice ao l.length c)) 121 (0, 0))) := Lib.hid (blk_alloc (blk_alloc HBLK.out _) _)
  go_enter Tryz.func38, Tryz.ntmps38
  go_wp2_with fail
  go_loopw [] (fun wr => ∃ (i : Nat) (fo : Option Addr) (fn fc : Nat), out ≤ i ∧ i ≤ max out top ∧ Hid (wr.heap[p]? = some (.cells (rCells ⟨e, win, qn, wait, l, first, i, ever, want, owes, age⟩ (.slice ao l.length c)) 121 (0, 0))) ∧ Hid (Puts wr (w.heap.size + 2) w.heap.size (w.heap.size + 1) p fo fn fc (S.datas out (i - out))) ∧ Hid (Off (fun k => k = p) w wr)) (fun wr => top + 1 - outAt wr p)
  case atStart => exact ⟨out, none, 0, 0, Nat.le_refl _, by omega, HB0, by rw [Nat.sub_self]; exact HP0, HO0⟩
  case round =>
    clear HP0 HO0 HB0
    obtain ⟨i, fo, fn, fc, hi1, hi2, HB, HP, HO⟩ := hrel
    have hlen : fn = i - out := by
      obtain ⟨ao2, c2, hv2⟩ := HP.out.own.sl.len
      rw [EndS.datas_length] at hv2
      simp only [Value.slice.injEq] at hv2
      exact hv2.2.1
    subst hlen
    have hsz := HP.out.low
    have kb := HB.out
    unfold rCells at kb
    dsimp only at kb
    obtain ⟨⟨c0, c1, c2, c3, c4, c5, c6, c7, c8, c9, c10⟩, ⟨f0, f1, f2, f3, f4, f5, f6, f7, f8, f9, f10⟩⟩ := cells11 kb
    have d1 := blk_cell HP.out.bx 0 rfl
    have d2 := blk_cell HP.out.bf 0 rfl
    clear kb
    by_cases hlt : i < top
    · have q1 : (i : Int) < min (l.length : Int) (win : Int) := by rw [← HTM.out]; omega
      have hil : i < l.length := by omega
      rcases HSL.out.texts with ⟨h0, _⟩ | ⟨bb, off, cc, hv, hq1, hq2, hbl, hpos, hat⟩
      · rw [h0] at hil; simp at hil
      simp only [Value.slice.injEq] at hv
      obtain ⟨rfl, _, rfl⟩ := hv
      have hbp : bb ≠ p := fun e9 => HNB.out (by rw [e9]; rfl)
      obtain ⟨Y, hY⟩ : ∃ Y, Y = l.getD i ⟨#[]⟩ := ⟨_, rfl⟩
      have hY64 : Y.size ≤ 1000 := by
        have : Y ∈ l := by rw [hY]; simp [hil]
        have := HSM.out Y this
        omega
      have hat1 := hat i hil
      rw [← hY] at hat1
      have hatW := (World.cell?_of_block (w := w) (w' := wr) (a := ⟨bb, off + i, none⟩) (HO.out.block bb hbl hbp)).trans hat1
      have hdata : S.data i = ⟨1, e, (first + i) % 18446744073709551616, want, Y⟩ := by rw [HDATA.out, hY]
      have hsq := seq_wrap first i
      obtain ⟨Q, hQ⟩ : ∃ Q, Q = (first + i) % 18446744073709551616 := ⟨_, rfl⟩
      rw [← hQ] at hdata hsq
      have hu : IntKind.u64.wrap (i : Int) = (i : Int) := wrapU _ (by omega) (by omega)
      have hn1 : IntKind.i64.wrap ((i : Int) + 1) = (i : Int) + 1 := wrapN _ (by omega) (by omega)
      have hcc : (i : Int) ≤ (c : Int) := by omega
      have hic : (i : Int) < (l.length : Int) := by omega
      have HD := Lib.hid hdata
      have hdl2 : (S.datas out (i - out)).length ≤ 100 := by rw [EndS.datas_length]; omega
      have HPUT := Lib.hid (fun W fo' fn' fc' (hb : W.heap[p]? = some (.cells (rCells ⟨e, win, qn, wait, l, first, i, ever, want, owes, age⟩ (.slice (some ⟨bb, off, none⟩) l.length c)) 121 (0, 0))) (hp : Puts W (w.heap.size + 2) w.heap.size (w.heap.size + 1) p fo' fn' fc' (S.datas out (i - out))) => putk_any hb hp hdl2 1 Q Y hY64)
      have HK : Hid (∀ W, Ext wr W → (W.heap[p]? = some (.cells (rCells ⟨e, win, qn, wait, l, first, i, ever, want, owes, age⟩ (.slice (some ⟨bb, off, none⟩) l.length c)) 121 (0, 0))) ∧ W.cell? ⟨bb, off + i, none⟩ = some (.string Y) ∧ W.cell? ⟨w.heap.size, 0, none⟩ = some (.pointer (some ⟨p, 0, none⟩)) ∧ Puts W (w.heap.size + 2) w.heap.size (w.heap.size + 1) p fo (i - out) fc (S.datas out (i - out))) := Lib.hid (fun W x =>
        ⟨(x.block p (blk_lt HB.out)).trans HB.out, (x.cell (p := ⟨bb, off + i, none⟩) (Nat.lt_of_lt_of_le hbl HO.out.size)).trans hatW, blk_cell (HP.out.ext x).bx 0 rfl, HP.out.ext x⟩)
      have hbw : bb < w.heap.size := hbl
      clear hY hQ hat hat1 hatW hdata hdl2 hY64 hbl
      go_wp2_with fail
      go_quiet (fail)
      go_wp2_with fail
      (refine wp_region_X_lit (K := fun W => (W.heap[p]? = some (.cells (rCells ⟨e, win, qn, wait, l, first, i, ever, want, owes, age⟩ (.slice (some ⟨bb, off, none⟩) l.length c)) 121 (0, 0))) ∧ W.cell? ⟨bb, off + i, none⟩ = some (.string Y) ∧ W.cell? ⟨w.heap.size, 0, none⟩ = some (.pointer (some ⟨p, 0, none⟩))) (by kernel_rfl) (fun w1 hw1 => ?_))
      replace hw1 : Ext wr w1 := Ext.trans (Ext.drewN (Ext.refl wr) _) hw1
      have HX1 := Lib.hid hw1
      have HK1 := Lib.hid (HK.out w1 hw1)
      clear hw1
      refine xtv 0 (h := ?_)
      refine xtv 1 (hv := by intro w' hw'; have kx := hw'.2.2; go_simp; first | done | with_reducible rfl) (h := ?_)
      refine xtv 2 (h := ?_)
      refine xtv 3 (h := ?_)
      refine xtv 4 (hv := by intro w' hw'; have kb := hw'.1; unfold rCells at kb; dsimp only at kb; obtain ⟨⟨k0, k1, k2, k3, k4, k5, k6, k7, k8, k9, k10⟩, _⟩ := cells11 kb; go_simp; first | done | with_reducible rfl) (h := ?_)
      refine xtv 5 (hv := by intro w' hw'; have kx := hw'.2.2; go_simp; first | done | with_reducible rfl) (h := ?_)
      refine xtv 6 (h := ?_)
      refine xtv 7 (h := ?_)
      refine xtv 8 (hv := by intro w' hw'; have kb := hw'.1; unfold rCells at kb; dsimp only at kb; obtain ⟨⟨k0, k1, k2, k3, k4, k5, k6, k7, k8, k9, k10⟩, _⟩ := cells11 kb; go_simp; first | done | with_reducible rfl) (h := ?_)
      refine xtv 9 (h := ?_)
      refine xtv 10 (h := ?_)
      refine xtv 11 (hv := by intro w' hw'; have kx := hw'.2.2; go_simp; first | done | with_reducible rfl) (h := ?_)
      refine xtv 12 (h := ?_)
      refine xtv 13 (h := ?_)
      refine xtv 14 (hv := by intro w' hw'; have kb := hw'.1; unfold rCells at kb; dsimp only at kb; obtain ⟨⟨k0, k1, k2, k3, k4, k5, k6, k7, k8, k9, k10⟩, _⟩ := cells11 kb; go_simp; first | done | with_reducible rfl) (h := ?_)
      refine xtv 15 (hv := by intro w' hw'; have kx := hw'.2.2; go_simp; first | done | with_reducible rfl) (h := ?_)
      refine xtv 16 (h := ?_)
      refine xtv 17 (h := ?_)
      refine xtv 18 (hv := by intro w' hw'; have kb := hw'.1; unfold rCells at kb; dsimp only at kb; obtain ⟨⟨k0, k1, k2, k3, k4, k5, k6, k7, k8, k9, k10⟩, _⟩ := cells11 kb; go_simp; first | done | with_reducible rfl) (h := ?_)
      refine xtv 19 (h := ?_)
      refine xtv 20 (hv := by intro w' hw'; have kx := hw'.2.1; go_simp; first | done | with_reducible rfl) (h := ?_)
      refine xone 21 (hk := ⟨HK1.out.1, HK1.out.2.1, HK1.out.2.2.1⟩) (h := RunX.of 21 (h := ?_))
      go_simp
      refine (HPUT.out w1 _ _ _ HK1.out.1 HK1.out.2.2.2).mono ?_
      rintro e2 w2 ⟨rfl, fo2, fn2, fc2, hp2, o2⟩
      have hs1 := HX1.out.size
      have b2 := (o2.block p (blk_lt HK1.out.1) (fun h9 => by rcases h9 with h9 | h9 <;> omega)).trans HK1.out.1
      have s2 := (World.cell?_of_block (w := w1) (w' := w2) (a := ⟨bb, off + i, none⟩) (o2.block bb (by omega) (fun h9 => by rcases h9 with h9 | h9 <;> omega))).trans HK1.out.2.1
      have x2 := blk_cell hp2.bx 0 rfl
      dsimp only
      (try (simp only [Act.put, List.setIfInBounds_toArray, List.set]))
      (refine xdone (by kernel_rfl) (⟨b2, s2, x2⟩) ?_)
      have HO2 := Lib.hid (off_puts (HO.out.trans (Off.of_ext HX1.out) (Grows.refl _ _)) o2 (by omega) (by omega))
      have HP2 := Lib.hid hp2
      have HB2 := Lib.hid b2
      clear o2 hp2 s2 c0 c1 c2 c3 c4 c5 c6 c7 c8 c9 c10 f0 f1 f2 f3 f4 f5 f6 f7 f8 f9 f10 d1 d2
      unfold rCells at b2
      dsimp only at b2
      obtain ⟨⟨c0, c1, c2, c3, c4, c5, c6, c7, c8, c9, c10⟩, ⟨f0, f1, f2, f3, f4, f5, f6, f7, f8, f9, f10⟩⟩ := cells11 b2
      clear b2
      go_wp2
      have hdd : S.datas out (i + 1 - out) = S.datas out (i - out) ++ [⟨1, e, Q, want, Y⟩] := by
        rw [show i + 1 - out = (i - out) + 1 by omega, EndS.datas_succ, show out + (i - out) = i by omega, HD.out]
      have hb6 : (w2.setCell ⟨p, 6, none⟩ (.int .i64 ((i : Int) + 1))).heap[p]? = some (.cells (rCells ⟨e, win, qn, wait, l, first, (i + 1), ever, want, owes, age⟩ (.slice (some ⟨bb, off, none⟩) l.length c)) 121 (0, 0)) := blk_set HB2.out 6 _
      refine ⟨⟨i + 1, fo2, fn2, fc2, by omega, by omega, Lib.hid hb6, Lib.hid (by rw [hdd]; exact HP2.out.set _ _ (by show p ≠ _; omega) (by show p ≠ _; omega) (by show p < _; omega)), Lib.hid (off_two HO2.out _ _ rfl)⟩, ?_⟩
      rw [outAt_of (i := i + 1) (blk_cell hb6 6 rfl), outAt_of (i := i) (blk_cell HB.out 6 rfl)]
      omega
    · have hi : i = max out top := by omega
      have hmax : max S.out S.top = i := by rw [HTOP.out, ← HTT.out, HSS.out]; exact hi.symm
      have q1 : ¬ (i : Int) < min (l.length : Int) (win : Int) := by rw [← HTM.out]; omega
      obtain ⟨L, hL⟩ : ∃ L, L = S.datas out (i - out) := ⟨_, rfl⟩
      rw [← hL] at HP
      have hLn : L.length = i - out := by rw [hL]; exact EndS.datas_length _ _ _
      have hL8 : L.length ≤ 100 := by omega
      obtain ⟨n', hn'⟩ : ∃ n', n' = i - out := ⟨_, rfl⟩
      rw [← hn'] at HP d2
      have hfr : S.frames = if top ≤ out then (if owes = true then [S.ack] else []) else L := by
        unfold EndS.frames
        rw [HTOP.out, ← HTT.out, HSS.out, hL]
        dsimp only
        by_cases h0 : top ≤ out
        · rw [if_pos h0, if_pos h0]
        · rw [if_neg h0, if_neg h0, HSS.out, show i - out = top - out by omega]
      have hack : S.ack = ⟨2, e, 0, want, ⟨#[]⟩⟩ := by rw [HSS.out]; rfl
      rw [hack] at hfr
      have hL0 : top ≤ out → L = [] := fun h0 => List.eq_nil_of_length_eq_zero (by omega)
      have hout : S.outS = ⟨e, win, qn, wait, l, first, i, max ever i, want, false, age⟩ := by
        unfold EndS.outS
        rw [hmax, HSS.out]
      have hever : max (ever : Int) (i : Int) = ((max ever i : Nat) : Int) := by omega
      have hSl : S.l = l := by rw [HSS.out]
      rw [hSl] at H
      have HSL2 := Lib.hid hSl
      have HEV := Lib.hid hever
      have hcase : (((n' : Int) == 0) = false ∧ S.frames = L) ∨ (((n' : Int) == 0) = true ∧ owes = true ∧ S.frames = L ++ [⟨2, e, 0, want, ⟨#[]⟩⟩]) ∨ (((n' : Int) == 0) = true ∧ owes = false ∧ S.frames = L) := by
        by_cases h0 : top ≤ out
        · right
          have hz : ((n' : Int) == 0) = true := beq_iff_eq.2 (by omega)
          rw [if_pos h0] at hfr
          cases owes
          · exact .inr ⟨hz, rfl, by rw [hfr, hL0 h0]; rfl⟩
          · exact .inl ⟨hz, rfl, by rw [hfr, hL0 h0]; rfl⟩
        · left
          exact ⟨beq_eq_false_iff_ne.2 (by omega), by rw [hfr, if_neg h0]⟩
      have HPUT := Lib.hid (fun W (x : Ext wr W) => putk_any ((x.block p (blk_lt HB.out)).trans HB.out) (HP.out.ext x) hL8 2 0 ⟨#[]⟩ (by decide))
      have HOUT := Lib.hid hout
      have OK2 := OKS
      rw [hout] at OK2
      clear hi hmax hL hLn hn' hack hL0 hi1 hi2 hlt h1 h2 h3 h4 h5 ht1 ht2 hever hout hSl hL8 OKS
      have hg1 : p ≠ w.heap.size := by omega
      have hg2 : p ≠ w.heap.size + 1 := by omega
      rcases hcase with ⟨hz, hfr2⟩ | ⟨hz, ho9, hfr2⟩ | ⟨hz, ho9, hfr2⟩
      · have HFR := Lib.hid hfr2
        clear hfr2 hfr
        have HKB : Hid (∀ W, Ext wr W → (W.heap[p]? = some (.cells (rCells ⟨e, win, qn, wait, l, first, i, ever, want, owes, age⟩ (.slice ao l.length c)) 121 (0, 0))) ∧ Puts W (w.heap.size + 2) w.heap.size (w.heap.size + 1) p fo n' fc L) := Lib.hid (fun W x => ⟨(x.block p (blk_lt HB.out)).trans HB.out, HP.out.ext x⟩)
        go_wp2_with fail
        go_quiet (fail)
        go_wp2_with fail
        (refine wp_region_X_lit (K := fun W => W.cell? ⟨w.heap.size, 0, none⟩ = some (.pointer (some ⟨p, 0, none⟩)) ∧ W.cell? ⟨p, 6, none⟩ = some (.int .i64 i)) (by kernel_rfl) (fun w1 hw1 => ?_))
        have HW := Lib.hid (Ext.trans (Ext.drewN (Ext.refl wr) _) hw1)
        have kx := blk_cell (HKB.out w1 HW.out).2.bx 0 rfl
        have kf := blk_cell (HKB.out w1 HW.out).2.bf 0 rfl
        have kb := (HKB.out w1 HW.out).1
        have z7 := blk_set kb 7 (.int .i64 (max (ever : Int) (i : Int)))
        have kx7 := (blk_cell ((set_other w1 ⟨p, 7, none⟩ (.int .i64 (max (ever : Int) (i : Int))) w.heap.size (Ne.symm hg1)).trans (HKB.out w1 HW.out).2.bx) 0 rfl)
        have k67 := blk_cell z7 6 rfl
        clear z7 hw1
        unfold rCells at kb
        dsimp only at kb
        obtain ⟨⟨k0, k1, k2, k3, k4, k5, k6, k7, k8, k9, k10⟩, ⟨j0, j1, j2, j3, j4, j5, j6, j7, j8, j9, j10⟩⟩ := cells11 kb
        clear kb
        refine xtv 0 (hv := by intro w' hw'; have kx := hw'.1; go_simp; first | done | with_reducible rfl) (h := ?_)
        refine xtv 1 (hv := by intro w' hw'; have kx := hw'.1; go_simp; first | done | with_reducible rfl) (h := ?_)
        refine xtv 2 (h := ?_)
        refine xtv 3 (h := ?_)
        refine xtv 5 (hv := by intro w' hw'; have kx := hw'.1; go_simp; first | done | with_reducible rfl) (h := ?_)
        refine xtv 6 (h := ?_)
        refine xtv 7 (h := ?_)
        refine xtv 8 (hv := by intro w' hw'; have kx := hw'.2; go_simp; first | done | with_reducible rfl) (h := ?_)
        refine xone 4 (hk := ⟨kx, k6⟩) (h := RunX.of 4 (h := ?_))
        go_simp
        (try (simp only [Act.put, List.setIfInBounds_toArray, List.set]))
        refine xtv 9 (h := ?_)
        refine xtv 10 (h := ?_)
        refine xtv 11 (h := ?_)
        refine xone 12 (hk := ⟨kx, k6⟩) (h := RunX.of 12 (h := ?_))
        go_simp
        (try (simp only [Act.put, List.setIfInBounds_toArray, List.set]))
        (refine xdone (by kernel_rfl) (⟨kx7, k67⟩) ?_)
        go_wp2
        all_goals go_ret
        all_goals rw [HFR.out, HOUT.out, HEV.out]
        all_goals (refine out_end H.out ?_ OK2.out HSL2.out.symm ?_ (B := w.heap.size + 2) ?_ (by omega); exact off_two (off_two (Off.ext HO.out HW.out) _ _ rfl) _ _ rfl; exact blk_set (blk_set (HKB.out _ HW.out).1 7 _) 9 _; exact ((HKB.out _ HW.out).2.own.set (by show p < _; omega) _).set (by show p < _; omega) _)
      · have HFR := Lib.hid hfr2
        subst ho9
        clear hfr2 hfr
        go_wp2_with fail
        go_quiet (fail)
        go_wp2_with fail
        refine (HPUT.out _ (Ext.drewN (Ext.refl wr) _)).mono ?_
        rintro e2 w2 ⟨rfl, fo2, fn2, fc2, hp2, o2⟩
        have b2 := (o2.block p (blk_lt HB.out) (fun h9 => by rcases h9 with h9 | h9 <;> omega)).trans HB.out
        have HO2 := Lib.hid (off_puts (off_drew HO.out _) o2 (by omega) (by omega))
        have HKB : Hid (∀ W, Ext w2 W → (W.heap[p]? = some (.cells (rCells ⟨e, win, qn, wait, l, first, i, ever, want, true, age⟩ (.slice ao l.length c)) 121 (0, 0))) ∧ Puts W (w.heap.size + 2) w.heap.size (w.heap.size + 1) p fo2 fn2 fc2 (L ++ [⟨2, e, 0, want, ⟨#[]⟩⟩])) := Lib.hid (fun W x => ⟨(x.block p (blk_lt b2)).trans b2, hp2.ext x⟩)
        clear o2 hp2 b2 c0 c1 c2 c3 c4 c5 c6 c7 c8 c9 c10 f0 f1 f2 f3 f4 f5 f6 f7 f8 f9 f10 d1 d2
        go_wp2_with fail
        (refine wp_region_X_lit (K := fun W => W.cell? ⟨w.heap.size, 0, none⟩ = some (.pointer (some ⟨p, 0, none⟩)) ∧ W.cell? ⟨p, 6, none⟩ = some (.int .i64 i)) (by kernel_rfl) (fun w1 hw1 => ?_))
        have HW := Lib.hid hw1
        have kx := blk_cell (HKB.out w1 HW.out).2.bx 0 rfl
        have kf := blk_cell (HKB.out w1 HW.out).2.bf 0 rfl
        have kb := (HKB.out w1 HW.out).1
        have z7 := blk_set kb 7 (.int .i64 (max (ever : Int) (i : Int)))
        have kx7 := (blk_cell ((set_other w1 ⟨p, 7, none⟩ (.int .i64 (max (ever : Int) (i : Int))) w.heap.size (Ne.symm hg1)).trans (HKB.out w1 HW.out).2.bx) 0 rfl)
        have k67 := blk_cell z7 6 rfl
        clear z7 hw1
        unfold rCells at kb
        dsimp only at kb
        obtain ⟨⟨k0, k1, k2, k3, k4, k5, k6, k7, k8, k9, k10⟩, ⟨j0, j1, j2, j3, j4, j5, j6, j7, j8, j9, j10⟩⟩ := cells11 kb
        clear kb
        refine xtv 0 (hv := by intro w' hw'; have kx := hw'.1; go_simp; first | done | with_reducible rfl) (h := ?_)
        refine xtv 1 (hv := by intro w' hw'; have kx := hw'.1; go_simp; first | done | with_reducible rfl) (h := ?_)
        refine xtv 2 (h := ?_)
        refine xtv 3 (h := ?_)
        refine xtv 5 (hv := by intro w' hw'; have kx := hw'.1; go_simp; first | done | with_reducible rfl) (h := ?_)
        refine xtv 6 (h := ?_)
        refine xtv 7 (h := ?_)
        refine xtv 8 (hv := by intro w' hw'; have kx := hw'.2; go_simp; first | done | with_reducible rfl) (h := ?_)
        refine xone 4 (hk := ⟨kx, k6⟩) (h := RunX.of 4 (h := ?_))
        go_simp
        (try (simp only [Act.put, List.setIfInBounds_toArray, List.set]))
        refine xtv 9 (h := ?_)
        refine xtv 10 (h := ?_)
        refine xtv 11 (h := ?_)
        refine xone 12 (hk := ⟨kx, k6⟩) (h := RunX.of 12 (h := ?_))
        go_simp
        (try (simp only [Act.put, List.setIfInBounds_toArray, List.set]))
        (refine xdone (by kernel_rfl) (⟨kx7, k67⟩) ?_)
        go_wp2
        all_goals go_ret
        all_goals rw [HFR.out, HOUT.out, HEV.out]
        all_goals (refine out_end H.out ?_ OK2.out HSL2.out.symm ?_ (B := w.heap.size + 2) ?_ (by omega); exact off_two (off_two (Off.ext HO2.out HW.out) _ _ rfl) _ _ rfl; exact blk_set (blk_set (HKB.out _ HW.out).1 7 _) 9 _; exact ((HKB.out _ HW.out).2.own.set (by show p < _; omega) _).set (by show p < _; omega) _)
      · have HFR := Lib.hid hfr2
        subst ho9
        clear hfr2 hfr
        have HKB : Hid (∀ W, Ext wr W → (W.heap[p]? = some (.cells (rCells ⟨e, win, qn, wait, l, first, i, ever, want, false, age⟩ (.slice ao l.length c)) 121 (0, 0))) ∧ Puts W (w.heap.size + 2) w.heap.size (w.heap.size + 1) p fo n' fc L) := Lib.hid (fun W x => ⟨(x.block p (blk_lt HB.out)).trans HB.out, HP.out.ext x⟩)
        go_wp2_with fail
        go_quiet (fail)
        go_wp2_with fail
        (refine wp_region_X_lit (K := fun W => W.cell? ⟨w.heap.size, 0, none⟩ = some (.pointer (some ⟨p, 0, none⟩)) ∧ W.cell? ⟨p, 6, none⟩ = some (.int .i64 i)) (by kernel_rfl) (fun w1 hw1 => ?_))
        have HW := Lib.hid (Ext.trans (Ext.drewN (Ext.refl wr) _) hw1)
        have kx := blk_cell (HKB.out w1 HW.out).2.bx 0 rfl
        have kf := blk_cell (HKB.out w1 HW.out).2.bf 0 rfl
        have kb := (HKB.out w1 HW.out).1
        have z7 := blk_set kb 7 (.int .i64 (max (ever : Int) (i : Int)))
        have kx7 := (blk_cell ((set_other w1 ⟨p, 7, none⟩ (.int .i64 (max (ever : Int) (i : Int))) w.heap.size (Ne.symm hg1)).trans (HKB.out w1 HW.out).2.bx) 0 rfl)
        have k67 := blk_cell z7 6 rfl
        clear z7 hw1
        unfold rCells at kb
        dsimp only at kb
        obtain ⟨⟨k0, k1, k2, k3, k4, k5, k6, k7, k8, k9, k10⟩, ⟨j0, j1, j2, j3, j4, j5, j6, j7, j8, j9, j10⟩⟩ := cells11 kb
        clear kb
        refine xtv 0 (hv := by intro w' hw'; have kx := hw'.1; go_simp; first | done | with_reducible rfl) (h := ?_)
        refine xtv 1 (hv := by intro w' hw'; have kx := hw'.1; go_simp; first | done | with_reducible rfl) (h := ?_)
        refine xtv 2 (h := ?_)
        refine xtv 3 (h := ?_)
        refine xtv 5 (hv := by intro w' hw'; have kx := hw'.1; go_simp; first | done | with_reducible rfl) (h := ?_)
        refine xtv 6 (h := ?_)
        refine xtv 7 (h := ?_)
        refine xtv 8 (hv := by intro w' hw'; have kx := hw'.2; go_simp; first | done | with_reducible rfl) (h := ?_)
        refine xone 4 (hk := ⟨kx, k6⟩) (h := RunX.of 4 (h := ?_))
        go_simp
        (try (simp only [Act.put, List.setIfInBounds_toArray, List.set]))
        refine xtv 9 (h := ?_)
        refine xtv 10 (h := ?_)
        refine xtv 11 (h := ?_)
        refine xone 12 (hk := ⟨kx, k6⟩) (h := RunX.of 12 (h := ?_))
        go_simp
        (try (simp only [Act.put, List.setIfInBounds_toArray, List.set]))
        (refine xdone (by kernel_rfl) (⟨kx7, k67⟩) ?_)
        go_wp2
        all_goals go_ret
        all_goals rw [HFR.out, HOUT.out, HEV.out]
        all_goals (refine out_end H.out ?_ OK2.out HSL2.out.symm ?_ (B := w.heap.size + 2) ?_ (by omega); exact off_two (off_two (Off.ext HO.out HW.out) _ _ rfl) _ _ rfl; exact blk_set (blk_set (HKB.out _ HW.out).1 7 _) 9 _; exact ((HKB.out _ HW.out).2.own.set (by show p < _; omega) _).set (by show p < _; omega) _)
end Go.Proofs.YtlakolkpfkakoaaGreatDoor
