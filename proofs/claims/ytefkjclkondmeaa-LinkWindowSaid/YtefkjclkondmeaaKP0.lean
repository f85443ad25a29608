/- The program's ends in memory; New, Tick, Waiting, Numbers. -/
import Derived.Test.YtefkjclkondmeaaK3
namespace Go.Proofs.Ytefkjclkondmeaa
open Go.RowKit

set_option linter.unusedVariables false
/-- what the listed variables hold: there are none -/
def Std (w : World) : Prop := True
theorem Std.ext {w w' : World} (h : Std w) (x : Ext w w') : Std w' := trivial

theorem ow_at {α : Type} [Elem α] {w w' : World} {B : Nat} {v : Value} {xs : List α} (h : Ow w B v xs) (hq : ∀ b, v.ownBlock = some b → w'.heap[b]? = w.heap[b]?) : Ow w' B v xs := by
  refine ⟨h.1, ?_⟩
  rcases h.2 with h2 | ⟨g, cap, cur, rfl, hg, hh, r⟩
  · exact .inl h2
  · exact .inr ⟨g, cap, cur, rfl, hg, (hq g rfl).trans hh, r⟩

/-- the program's end at block p, its bodies at v: what it means, and which blocks are its own -/
structure EndAt (w : World) (p : Nat) (S : EndS) (F : Nat → Prop) (ao : Option Addr) (n c : Nat) : Prop where
  ok : S.Ok
  blk : w.heap[p]? = some (.cells (rCells S (.slice ao n c)) 67 (0, 0))
  own : Ow w 0 (.slice ao n c) S.l
  ne : (Value.slice ao n c).ownBlock ≠ some p
  fp : ∀ k, F k ↔ (k = p ∨ (Value.slice ao n c).ownBlock = some k)
def EAt (w : World) (p : Nat) (S : EndS) (F : Nat → Prop) : Prop := ∃ ao n c, EndAt w p S F ao n c

theorem EAt.ok {w : World} {p : Nat} {S : EndS} {F : Nat → Prop} (h : EAt w p S F) : S.Ok := by obtain ⟨ao, n, c, h⟩ := h; exact h.ok
theorem EndAt.lowb {w : World} {p : Nat} {S : EndS} {F : Nat → Prop} {ao : Option Addr} {n c : Nat} (h : EndAt w p S F ao n c) : ∀ k, F k → k < w.heap.size := fun k hk => by
  rcases (h.fp k).1 hk with rfl | hk
  · exact blk_lt h.blk
  · exact (h.own.low k hk).2
theorem EAt.low {w : World} {p : Nat} {S : EndS} {F : Nat → Prop} (h : EAt w p S F) : ∀ k, F k → k < w.heap.size := by obtain ⟨ao, n, c, h⟩ := h; exact h.lowb
theorem EndAt.off {w w' : World} {p : Nat} {S : EndS} {F G : Nat → Prop} {ao : Option Addr} {n c : Nat} (h : EndAt w p S F ao n c) (o : Off G w w') (hg : ∀ k, F k → ¬ G k) : EndAt w' p S F ao n c :=
  ⟨h.ok, o.blk h.blk (hg p ((h.fp p).2 (.inl rfl))), ow_at h.own fun b hb => o.block b (h.own.low b hb).2 (hg b ((h.fp b).2 (.inr hb))), h.ne, h.fp⟩
theorem EAt.off {w w' : World} {p : Nat} {S : EndS} {F G : Nat → Prop} (h : EAt w p S F) (o : Off G w w') (hg : ∀ k, F k → ¬ G k) : EAt w' p S F := by
  obtain ⟨ao, n, c, h⟩ := h
  exact ⟨ao, n, c, h.off o hg⟩
theorem EndAt.ext {w w' : World} {p : Nat} {S : EndS} {F : Nat → Prop} {ao : Option Addr} {n c : Nat} (h : EndAt w p S F ao n c) (x : Ext w w') : EndAt w' p S F ao n c :=
  h.off (G := fun _ => False) (Off.of_ext x) fun _ _ hf => hf
theorem EndAt.at {w : World} {p : Nat} {S : EndS} {F : Nat → Prop} {ao : Option Addr} {n c : Nat} (h : EndAt w p S F ao n c) : F p := (h.fp p).2 (.inl rfl)
/-- the end's own block alone is another one -/
theorem EndAt.put {w w' : World} {p : Nat} {S S' : EndS} {F : Nat → Prop} {ao : Option Addr} {n c : Nat} (h : EndAt w p S F ao n c) (o : Off (fun k => k = p) w w') (ok : S'.Ok) (hl : S'.l = S.l)
    (hb : w'.heap[p]? = some (.cells (rCells S' (.slice ao n c)) 67 (0, 0))) : EndAt w' p S' F ao n c :=
  ⟨ok, hb, by rw [hl]; exact ow_at h.own fun b hb => o.block b (h.own.low b hb).2 (fun e => h.ne (e ▸ hb)), h.ne, h.fp⟩
theorem EndAt.offp {w w' : World} {p : Nat} {S : EndS} {F : Nat → Prop} {ao : Option Addr} {n c : Nat} (h : EndAt w p S F ao n c) (o : Off (fun k => k = p) w w') : Off F w w' := o.mono fun k hk => by subst hk; exact h.at

/-- it answers r, and means S' then -/
def MovesE (p : Nat) (S' : EndS) (F : Nat → Prop) (r : Value) (w : World) (e : Ending) (w' : World) : Prop := ∃ F', e = .returned r ∧ EAt w' p S' F' ∧ Off F w w' ∧ Grows F F' w
theorem put_moves {w w' : World} {p : Nat} {S S' : EndS} {F : Nat → Prop} {ao : Option Addr} {n c : Nat} (h : EndAt w p S F ao n c) (o : Off (fun k => k = p) w w') (ok : S'.Ok) (hl : S'.l = S.l)
    (hb : w'.heap[p]? = some (.cells (rCells S' (.slice ao n c)) 67 (0, 0))) (r : Value) : MovesE p S' F r w (.returned r) w' :=
  ⟨F, rfl, ⟨ao, n, c, h.put o ok hl hb⟩, h.offp o, Grows.refl _ _⟩
theorem off_drew {w w' : World} {F : Nat → Prop} (o : Off F w w') (q : Nat) : Off F w (w'.drewN q) := o.ext (Ext.drewN (Ext.refl _) q)
theorem off_two {w w' : World} {p : Nat} (o : Off (fun k => k = p) w w') (d : Addr) (u : Value) (hd : d.block = p) : Off (fun k => k = p) w (w'.setCell d u) :=
  o.trans ((off_set w' d u).mono fun k hk => hk.trans hd) (Grows.refl _ _)

section
variable {w : World} {p : Nat} {S : EndS} {F : Nat → Prop}

theorem same_moves (h : EAt w p S F) : ∀ (w' : World) (x : Ext w w') (r : Value), MovesE p S F r w (.returned r) w' := fun w' x r => by
  obtain ⟨ao, n, c, h⟩ := h
  exact ⟨F, rfl, ⟨ao, n, c, h.ext x⟩, Off.of_ext x, Grows.refl _ _⟩

theorem pWaiting (h : EAt w p S F) :
    Calls Try.prog 23 #[.pointer (some ⟨p, 0, none⟩)] w (MovesE p S F (.int .i64 (S.l.length : Int)) w) := by
  have HM := Lib.hid (same_moves h)
  obtain ⟨ao, n, c, h⟩ := h
  obtain ⟨ao', c', hv⟩ := h.own.sl.len
  simp only [Value.slice.injEq] at hv
  obtain ⟨rfl, rfl, rfl⟩ := hv
  have hb := h.blk
  obtain ⟨e, win, qn, wait, l, first, out, ever, want, owes, age⟩ := S
  unfold rCells at hb
  dsimp only at hb ⊢
  obtain ⟨c0, f0⟩ := cells11 hb
  clear hb h
  go_enter Try.func23, Try.ntmps23
  go_wp2
  go_ret
  exact HM.out _ (by repeat (first | exact Ext.refl _ | assumption | refine Ext.alloc ?_ _ | refine Ext.drew ?_ | refine Ext.drewN ?_ _)) _

theorem pNumbers (h : EAt w p S F) :
    Calls Try.prog 22 #[.pointer (some ⟨p, 0, none⟩)] w (MovesE p S F (.tuple #[.int .u64 (S.first : Int), .int .u64 (S.want : Int)]) w) := by
  have HM := Lib.hid (same_moves h)
  obtain ⟨ao, n, c, h⟩ := h
  have hb := h.blk
  obtain ⟨e, win, qn, wait, l, first, out, ever, want, owes, age⟩ := S
  unfold rCells at hb
  dsimp only at hb ⊢
  obtain ⟨c0, f0⟩ := cells11 hb
  clear hb h
  go_enter Try.func22, Try.ntmps22
  go_wp2
  go_quiet (fail)
  go_wp2
  all_goals refine bodyPost_ret (v := .tuple #[.int .u64 (first : Int), .int .u64 (want : Int)]) (by simp [results, Try.results22, go_sem]) rfl ?_
  all_goals exact HM.out _ (by repeat (first | exact Ext.refl _ | assumption | refine Ext.alloc ?_ _ | refine Ext.drew ?_ | refine Ext.drewN ?_ _)) _
end

theorem nearest_any (w : World) (x lo hi : Int) : Calls Try.prog 27 #[.int .i64 x, .int .i64 lo, .int .i64 hi] w fun e w' => e = .returned (.int .i64 (min (max x lo) hi)) ∧ w = w' := by
  go_enter Try.func27, Try.ntmps27
  go_wp2
  all_goals refine bodyPost_ret (v := .int .i64 (min (max x lo) hi)) ?_ rfl ⟨rfl, rfl⟩
  all_goals simp [results, Try.results27, go_sem]
  all_goals omega

theorem pNew (w : World) (e : Int) (first : Nat) (win qn wait : Int) (h : first < 18446744073709551616) :
    Calls Try.prog 9 #[.int .i64 e, .int .u64 (first : Int), .int .i64 win, .int .i64 qn, .int .i64 wait] w fun ev w' => ∃ p F, ev = .returned (.pointer (some ⟨p, 0, none⟩)) ∧ EAt w' p (EndS.new e first win qn wait) F ∧ (∀ k, F k → w.heap.size ≤ k) ∧ Ext w w' := by
  go_enter Try.func9, Try.ntmps9
  go_wp2_with (first
    | (go_at_call 27; refine (nearest_any _ _ _ _).mono ?_; rintro ev w2 ⟨rfl, rfl⟩))
  go_ret
  have hb : ∀ o, (w.alloc o).heap[w.heap.size]? = some o := get_alloc_new w
  refine ⟨w.heap.size, fun k => k = w.heap.size, rfl, ⟨none, 0, 0, EndS.new_ok h, ?_, Ow.nil _ _, by simp [Value.ownBlock], fun k => by simp [Value.ownBlock]⟩, fun k hk => by rw [hk]; exact Nat.le_refl _, Ext.alloc (Ext.refl _) _⟩
  rw [get_alloc_new]
  unfold rCells EndS.new
  dsimp only
  rw [Int.toNat_of_nonneg (by omega), Int.toNat_of_nonneg (by omega), Int.toNat_of_nonneg (by omega)]
  rfl

set_option maxHeartbeats 1600000 in
theorem pTick {w : World} {p : Nat} {S : EndS} {F : Nat → Prop} (h0 : EAt w p S F) :
    Calls Try.prog 18 #[.pointer (some ⟨p, 0, none⟩)] w (MovesE p S.tick F (.tuple #[]) w) := by
  have HM := Lib.hid (same_moves h0)
  obtain ⟨ao, n, c, h⟩ := h0
  have ok := h.ok
  have okt := h.ok.tick
  have h1 := ok.age
  have h2 := ok.wait100
  have hb := h.blk
  obtain ⟨e, win, qn, wait, l, first, out, ever, want, owes, age⟩ := S
  unfold EndS.tick at okt ⊢
  dsimp only at h1 h2 okt ⊢
  have e1 : IntKind.i64.wrap ((age : Int) + 1) = (age : Int) + 1 := wrapN _ (by omega) (by omega)
  have H := Lib.hid h
  have HB := Lib.hid hb
  unfold rCells at hb
  dsimp only at hb
  obtain ⟨⟨c0, c1, c2, c3, c4, c5, c6, c7, c8, c9, c10⟩, ⟨f0, f1, f2, f3, f4, f5, f6, f7, f8, f9, f10⟩⟩ := cells11 hb
  clear hb h ok
  by_cases h0 : out = 0
  · subst h0
    rw [if_pos rfl]
    clear okt
    go_enter Try.func18, Try.ntmps18
    go_wp2
    refine bodyPost_ret (v := .tuple #[]) (by simp [results, Try.results18, go_sem]) rfl ?_
    exact HM.out _ (by repeat (first | exact Ext.refl _ | assumption | refine Ext.alloc ?_ _ | refine Ext.drew ?_ | refine Ext.drewN ?_ _)) _
  · rw [if_neg h0] at okt ⊢
    have t0 : ((out : Int) == 0) = false := beq_eq_false_iff_ne.2 (by omega)
    by_cases h9 : age + 1 = wait
    · rw [if_pos h9] at okt ⊢
      have t1 : ((age : Int) + 1 == (wait : Int)) = true := beq_iff_eq.2 (by omega)
      have OK := Lib.hid okt
      clear h0 h9 h1 h2 okt
      go_enter Try.func18, Try.ntmps18
      go_wp2
      go_quiet (fail)
      go_wp2
      all_goals refine bodyPost_ret (v := .tuple #[]) (by simp [results, Try.results18, go_sem]) rfl ?_
      all_goals (refine put_moves H.out ?_ OK.out rfl ?_ _; exact (by repeat (first | exact Off.refl _ _ | refine off_two ?_ _ _ rfl | refine off_drew ?_ _)); exact blk_set (blk_set (blk_set HB.out 10 _) 6 _) 10 _)
    · rw [if_neg h9] at okt ⊢
      have t1 : ((age : Int) + 1 == (wait : Int)) = false := beq_eq_false_iff_ne.2 (by omega)
      have OK := Lib.hid okt
      clear h0 h9 h1 h2 okt
      go_enter Try.func18, Try.ntmps18
      go_wp2
      go_quiet (fail)
      go_wp2
      all_goals refine bodyPost_ret (v := .tuple #[]) (by simp [results, Try.results18, go_sem]) rfl ?_
      all_goals (refine put_moves H.out ?_ OK.out rfl ?_ _; exact (by repeat (first | exact Off.refl _ _ | refine off_two ?_ _ _ rfl | refine off_drew ?_ _)); exact blk_set HB.out 10 _)
end Go.Proofs.Ytefkjclkondmeaa
