/- A struct's value stored and loaded whole, at a block known whole; what a function answers out of such a block. -/
import Derived.Test.YtgcnjkabpcbkgaaOff
import Derived.Laws.CopyRow
import Derived.Laws.Rows
namespace Go.Proofs.Ytgcnjkabpcbkgaa
open Go.RowKit

section
variable {P : Program}
theorem run_storeVar_at (w : World) (g o : Nat) (t ty : TypeId) (old cs new : Array Value) (hg : w.heap[g]? = some (.cells old t (0, 0))) (hi : (P.info? ty).map (·.size) = some cs.size)
    (hl : o + cs.size ≤ old.size) (h1 : cs.toList.all (·.oneCell') = true) (hn : (old.toList.take o ++ cs.toList ++ old.toList.drop (o + cs.toList.length)).toArray = new) :
    (storeVar ty ⟨g, o, none⟩ (.agg cs)).run P w = .ok () (w.setRow g new) := by
  have := run_storeCells_at (P := P) g o t cs.toList 0 old w hg (by simpa using hl) (fun v hv => (List.all_eq_true.1 h1) v hv)
  rw [Nat.add_zero, hn] at this
  cases hq : P.info? ty with
  | none => simp [hq] at hi
  | some i =>
    have hs : cs.size = i.size := by simp [hq] at hi; omega
    simp [storeVar, sizeOf, typeInfo, hq, Value.cells, hs, this]

theorem wp_st {op : Oper} {a : Act} {w : World} {K : Act → World → Prop} {Q : Exit → Act → World → Prop} (ty : TypeId) (x y : Operand) (ho : op.op = .store ty x y) (g o : Nat) (t : TypeId) (old cs new : Array Value)
    (hx : a.eval x = .pointer (some ⟨g, o, none⟩)) (hy : a.eval y = .agg cs) (hg : w.heap[g]? = some (.cells old t (0, 0))) (hi : (P.info? ty).map (·.size) = some cs.size)
    (hl : o + cs.size ≤ old.size) (h1 : cs.toList.all (·.oneCell') = true) (hn : (old.toList.take o ++ cs.toList ++ old.toList.drop (o + cs.toList.length)).toArray = new)
    (h : ∀ W, W.heap[g]? = some (.cells new t (0, 0)) → Off (fun k => k = g) w W → K (a.put op.dst undef) W) : op.wp P a w K Q := by
  unfold Oper.wp execOp
  simp only [ho, hx, hy, Instr.storeAt, Instr.sureAddr, Sem.run_bind, Sem.run_pure, Result.andThen_ok, run_storeVar_at w g o t ty old cs new hg hi hl h1 hn]
  exact h _ (setRow_heap w g old new t (0, 0) hg) ⟨rfl, rfl, rfl, by rw [size_setRow]; exact Nat.le_refl _, fun k _ hk => setRow_other w g k new hk⟩

/-- at a plain region's list -/
theorem st_l {ops : Array Oper} {rest : List Oper} {dst : Option Tmp} {tp : TypeId} {pos : String} {aft : Array Edge} {a : Act} {w : World} {Q : Exit → Act → World → Prop} (ty : TypeId) (x y : Operand) (g o : Nat) (t : TypeId) (old cs new : Array Value)
    (hx : a.eval x = .pointer (some ⟨g, o, none⟩)) (hy : a.eval y = .agg cs) (hg : w.heap[g]? = some (.cells old t (0, 0))) (hi : (P.info? ty).map (·.size) = some cs.size)
    (hl : o + cs.size ≤ old.size) (h1 : cs.toList.all (·.oneCell') = true) (hn : (old.toList.take o ++ cs.toList ++ old.toList.drop (o + cs.toList.length)).toArray = new)
    (h : ∀ W, W.heap[g]? = some (.cells new t (0, 0)) → Off (fun k => k = g) w W → wpList P ops Q rest (a.put dst undef) W) : wpList P ops Q (⟨dst, .store ty x y, tp, pos, aft, none⟩ :: rest) a w :=
  wpList_plain rfl fun _ hK => wp_st ty x y rfl g o t old cs new hx hy hg hi hl h1 hn (fun W h1 h2 => hK _ _ (h W h1 h2))

theorem wp_ld {op : Oper} {a : Act} {w : World} {K : Act → World → Prop} {Q : Exit → Act → World → Prop} (ty : TypeId) (x : Operand) (ho : op.op = .load ty x) (g : Nat) (t : TypeId) (cs : Array Value)
    (hx : a.eval x = .pointer (some ⟨g, 0, none⟩)) (hg : w.heap[g]? = some (.cells cs t (0, 0))) (hu : ∃ fs, P.underlying ty = some (.struct fs)) (hi : (P.info? ty).map (·.size) = some cs.size)
    (h : K (a.put op.dst (.agg cs)) w) : op.wp P a w K Q := by
  obtain ⟨fs, hu⟩ := hu
  unfold Oper.wp execOp
  simp only [ho, hx, Instr.loadAt, Instr.sureAddr, Sem.run_bind, Sem.run_pure, Result.andThen_ok, run_loadVar_row w g t ty cs (0, 0) _ hg hu rfl hi]
  exact h
theorem ld_op {o : Oper} {a : Act} {w : World} {ty : TypeId} {x : Operand} {g : Nat} {t : TypeId} {cs : Array Value} (ho : o.op = .load ty x) (hx : a.eval x = .pointer (some ⟨g, 0, none⟩)) (hg : w.heap[g]? = some (.cells cs t (0, 0))) (hu : ∃ fs, P.underlying ty = some (.struct fs)) (hi : (P.info? ty).map (·.size) = some cs.size) :
    (execOp a.eval o).run P w = .ok (.value (.agg cs)) w := by
  obtain ⟨fs, hu⟩ := hu
  unfold execOp
  simp only [ho, hx, Instr.loadAt, Instr.sureAddr, Sem.run_bind, Sem.run_pure, Result.andThen_ok, run_loadVar_row w g t ty cs (0, 0) _ hg hu rfl hi]
theorem ld_l {ops : Array Oper} {rest : List Oper} {dst : Option Tmp} {tp : TypeId} {pos : String} {aft : Array Edge} {a : Act} {w : World} {Q : Exit → Act → World → Prop} (ty : TypeId) (x : Operand) (g : Nat) (t : TypeId) (cs : Array Value)
    (hx : a.eval x = .pointer (some ⟨g, 0, none⟩)) (hg : w.heap[g]? = some (.cells cs t (0, 0))) (hu : ∃ fs, P.underlying ty = some (.struct fs)) (hi : (P.info? ty).map (·.size) = some cs.size)
    (h : wpList P ops Q rest (a.put dst (.agg cs)) w) : wpList P ops Q (⟨dst, .load ty x, tp, pos, aft, none⟩ :: rest) a w :=
  wpList_plain rfl fun _ hK => wp_ld ty x rfl g t cs hx hg hu hi (hK _ _ h)

section
variable {fn : Func} {tmps : Array Value} {w : World} {t : Tmp} {ty tt : TypeId} {g : Nat} {cs : Array Value}
theorem res_c (h : fn.results = #[.cell t ty]) (ht : tmps.getD t undef = .pointer (some ⟨g, 0, none⟩)) (hg : w.heap[g]? = some (.cells cs tt (0, 0))) (hu : ∃ fs, P.underlying ty = some (.struct fs)) (hi : (P.info? ty).map (·.size) = some cs.size) :
    (results fn tmps).run P w = .ok (.agg cs) w := by
  obtain ⟨fs, hu⟩ := hu
  have ht2 : tmps[t]?.getD undef = .pointer (some ⟨g, 0, none⟩) := by simpa using ht
  simp [results, h, ht2, asAddr, run_loadVar_row w g tt ty cs (0, 0) _ hg hu rfl hi]
theorem res_ct (u : Tmp) (h : fn.results = #[.cell t ty, .tmp u]) (ht : tmps.getD t undef = .pointer (some ⟨g, 0, none⟩)) (hg : w.heap[g]? = some (.cells cs tt (0, 0))) (hu : ∃ fs, P.underlying ty = some (.struct fs)) (hi : (P.info? ty).map (·.size) = some cs.size) :
    (results fn tmps).run P w = .ok (.tuple #[.agg cs, tmps.getD u undef]) w := by
  obtain ⟨fs, hu⟩ := hu
  have ht2 : tmps[t]?.getD undef = .pointer (some ⟨g, 0, none⟩) := by simpa using ht
  simp [results, h, ht2, asAddr, run_loadVar_row w g tt ty cs (0, 0) _ hg hu rfl hi]
theorem res_ctt (u v : Tmp) (h : fn.results = #[.cell t ty, .tmp u, .tmp v]) (ht : tmps.getD t undef = .pointer (some ⟨g, 0, none⟩)) (hg : w.heap[g]? = some (.cells cs tt (0, 0))) (hu : ∃ fs, P.underlying ty = some (.struct fs)) (hi : (P.info? ty).map (·.size) = some cs.size) :
    (results fn tmps).run P w = .ok (.tuple #[.agg cs, tmps.getD u undef, tmps.getD v undef]) w := by
  obtain ⟨fs, hu⟩ := hu
  have ht2 : tmps[t]?.getD undef = .pointer (some ⟨g, 0, none⟩) := by simpa using ht
  simp [results, h, ht2, asAddr, run_loadVar_row w g tt ty cs (0, 0) _ hg hu rfl hi]
end
end

section
variable {P : Program} {ops : Array Oper} {rest : List Oper} {dst : Option Tmp} {tp : TypeId} {pos : String} {aft : Array Edge} {a : Act} {w : World} {Q : Exit → Act → World → Prop} {x y : Operand}
/-- the walk stands still here -/
theorem haltst (ty : TypeId) (h : wpList P ops Q (⟨dst, .store ty x y, tp, pos, aft, none⟩ :: rest) a w ∨ False) : wpList P ops Q (⟨dst, .store ty x y, tp, pos, aft, none⟩ :: rest) a w := h.elim id False.elim
theorem haltld (ty : TypeId) (h : wpList P ops Q (⟨dst, .load ty x, tp, pos, aft, none⟩ :: rest) a w ∨ False) : wpList P ops Q (⟨dst, .load ty x, tp, pos, aft, none⟩ :: rest) a w := h.elim id False.elim
end
theorem at0 (w : World) (A : Obj) : (w.alloc A).heap[w.heap.size]? = some A := get_alloc_new w A
theorem at1 (w : World) (A B : Obj) : ((w.alloc A).alloc B).heap[w.heap.size + 1]? = some B := by
  have := get_alloc_new (w.alloc A) B
  rwa [size_alloc] at this
theorem at2 (w : World) (A B C : Obj) : (((w.alloc A).alloc B).alloc C).heap[w.heap.size + 2]? = some C := by
  have := at1 (w.alloc A) B C
  rwa [size_alloc] at this
theorem at3 (w : World) (A B C D : Obj) : ((((w.alloc A).alloc B).alloc C).alloc D).heap[w.heap.size + 3]? = some D := by
  have := at2 (w.alloc A) B C D
  rwa [size_alloc] at this
theorem old1 {w : World} {g : Nat} {o : Obj} (h : w.heap[g]? = some o) (A : Obj) : (w.alloc A).heap[g]? = some o := (get_alloc_old (blk_lt h)).trans h
/-- new blocks alone have changed -/
theorem ext_off {w W W' : World} {F : Nat → Prop} (x : Ext w W) (o : Off F W W') (hF : ∀ k, F k → w.heap.size ≤ k) : Ext w W' := Below.trans x (o.below hF x.size)
end Go.Proofs.Ytgcnjkabpcbkgaa
