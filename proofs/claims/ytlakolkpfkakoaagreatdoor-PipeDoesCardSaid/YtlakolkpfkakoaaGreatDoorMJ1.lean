/- A struct's value stored and loaded whole, at a block known whole; what a function answers out of such a block. -/
import Derived.Test.YtlakolkpfkakoaaGreatDoorMA
import Derived.Laws.CopyRow
import Derived.Laws.Rows
import Derived.Test.YtlakolkpfkakoaaGreatDoorMP
import Derived.Test.YtlakolkpfkakoaaGreatDoorMK8
import Derived.BigGuard
namespace Go.Proofs.YtlakolkpfkakoaaGreatDoor
open Go.RowKit

section
variable {P : Program}
theorem run_storeVar_at (w : World) (g o : Nat) (t ty : TypeId) (old cs new : Array Value) (hg : w.heap[g]? = some (.cells old t (0, 0))) (hi : (P.info? ty).map (·.size) = some cs.size)
    (hl : o + cs.size ≤ old.size) (h1 : cs.toList.all (·.oneCell') = true) (hn : (old.toList.take o ++ cs.toList ++ old.toList.drop (o + cs.toList.length)).toArray = new) :
    (storeVar ty ⟨g, o, none⟩ (.agg cs)).run P w = .ok () (w.setRow g new) := by
  have := run_storeCells_at (P := P) g o t cs.toList 0 old w hg (by simpa using hl) (fun v hv => (List.all_eq_true.1 h1) v hv)
  rw [Nat.add_zero, hn] at this
  cases hq : P.info? ty with
  | none => simp [hq] at hi
  | some i =>
    have hs : cs.size = i.size := by simp [hq] at hi; omega
    simp [storeVar, sizeOf, typeInfo, hq, Value.cells, hs, this]

theorem wp_st {op : Oper} {a : Act} {w : World} {K : Act → World → Prop} {Q : Exit → Act → World → Prop} (ty : TypeId) (x y : Operand) (ho : op.op = .store ty x y) (g o : Nat) (t : TypeId) (old cs new : Array Value)
    (hx : a.eval x = .pointer (some ⟨g, o, none⟩)) (hy : a.eval y = .agg cs) (hg : w.heap[g]? = some (.cells old t (0, 0))) (hi : (P.info? ty).map (·.size) = some cs.size)
    (hl : o + cs.size ≤ old.size) (h1 : cs.toList.all (·.oneCell') = true) (hn : (old.toList.take o ++ cs.toList ++ old.toList.drop (o + cs.toList.length)).toArray = new)
    (h : ∀ W, W.heap[g]? = some (.cells new t (0, 0)) → Off (fun k => k = g) w W → K (a.put op.dst undef) W) : op.wp P a w K Q := by
  unfold Oper.wp execOp
  simp only [ho, hx, hy, Instr.storeAt, Instr.sureAddr, Sem.run_bind, Sem.run_pure, Result.andThen_ok, run_storeVar_at w g o t ty old cs new hg hi hl h1 hn]
  exact h _ (setRow_heap w g old new t (0, 0) hg) ⟨rfl, rfl, rfl, by rw [size_setRow]; exact Nat.le_refl _, fun k _ hk => setRow_other w g k new hk⟩
theorem st_l {ops : Array Oper} {rest : List Oper} {dst : Option Tmp} {tp : TypeId} {pos : String} {aft : Array Edge} {a : Act} {w : World} {Q : Exit → Act → World → Prop} (ty : TypeId) (x y : Operand) (g o : Nat) (t : TypeId) (old cs new : Array Value)
    (hx : a.eval x = .pointer (some ⟨g, o, none⟩)) (hy : a.eval y = .agg cs) (hg : w.heap[g]? = some (.cells old t (0, 0))) (hi : (P.info? ty).map (·.size) = some cs.size)
    (hl : o + cs.size ≤ old.size) (h1 : cs.toList.all (·.oneCell') = true) (hn : (old.toList.take o ++ cs.toList ++ old.toList.drop (o + cs.toList.length)).toArray = new)
    (h : ∀ W, W.heap[g]? = some (.cells new t (0, 0)) → Off (fun k => k = g) w W → wpList P ops Q rest (a.put dst undef) W) : wpList P ops Q (⟨dst, .store ty x y, tp, pos, aft, none⟩ :: rest) a w :=
  wpList_plain rfl fun _ hK => wp_st ty x y rfl g o t old cs new hx hy hg hi hl h1 hn (fun W h1 h2 => hK _ _ (h W h1 h2))

theorem wp_ld {op : Oper} {a : Act} {w : World} {K : Act → World → Prop} {Q : Exit → Act → World → Prop} (ty : TypeId) (x : Operand) (ho : op.op = .load ty x) (g : Nat) (t : TypeId) (cs : Array Value)
    (hx : a.eval x = .pointer (some ⟨g, 0, none⟩)) (hg : w.heap[g]? = some (.cells cs t (0, 0))) (hu : ∃ fs, P.underlying ty = some (.struct fs)) (hi : (P.info? ty).map (·.size) = some cs.size)
    (h : K (a.put op.dst (.agg cs)) w) : op.wp P a w K Q := by
  obtain ⟨fs, hu⟩ := hu
  unfold Oper.wp execOp
  simp only [ho, hx, Instr.loadAt, Instr.sureAddr, Sem.run_bind, Sem.run_pure, Result.andThen_ok, run_loadVar_row w g t ty cs (0, 0) _ hg hu rfl hi]
  exact h
theorem ld_op {o : Oper} {a : Act} {w : World} {ty : TypeId} {x : Operand} {g : Nat} {t : TypeId} {cs : Array Value} (ho : o.op = .load ty x) (hx : a.eval x = .pointer (some ⟨g, 0, none⟩)) (hg : w.heap[g]? = some (.cells cs t (0, 0))) (hu : ∃ fs, P.underlying ty = some (.struct fs)) (hi : (P.info? ty).map (·.size) = some cs.size) :
    (execOp a.eval o).run P w = .ok (.value (.agg cs)) w := by
  obtain ⟨fs, hu⟩ := hu
  unfold execOp
  simp only [ho, hx, Instr.loadAt, Instr.sureAddr, Sem.run_bind, Sem.run_pure, Result.andThen_ok, run_loadVar_row w g t ty cs (0, 0) _ hg hu rfl hi]
theorem ld_l {ops : Array Oper} {rest : List Oper} {dst : Option Tmp} {tp : TypeId} {pos : String} {aft : Array Edge} {a : Act} {w : World} {Q : Exit → Act → World → Prop} (ty : TypeId) (x : Operand) (g : Nat) (t : TypeId) (cs : Array Value)
    (hx : a.eval x = .pointer (some ⟨g, 0, none⟩)) (hg : w.heap[g]? = some (.cells cs t (0, 0))) (hu : ∃ fs, P.underlying ty = some (.struct fs)) (hi : (P.info? ty).map (·.size) = some cs.size)
    (h : wpList P ops Q rest (a.put dst (.agg cs)) w) : wpList P ops Q (⟨dst, .load ty x, tp, pos, aft, none⟩ :: rest) a w :=
  wpList_plain rfl fun _ hK => wp_ld ty x rfl g t cs hx hg hu hi (hK _ _ h)

section
variable {fn : Func} {tmps : Array Value} {w : World} {t : Tmp} {ty tt : TypeId} {g : Nat} {cs : Array Value}
theorem res_c (h : fn.results = #[.cell t ty]) (ht : tmps.getD t undef = .pointer (some ⟨g, 0, none⟩)) (hg : w.heap[g]? = some (.cells cs tt (0, 0))) (hu : ∃ fs, P.underlying ty = some (.struct fs)) (hi : (P.info? ty).map (·.size) = some cs.size) :
    (results fn tmps).run P w = .ok (.agg cs) w := by
  obtain ⟨fs, hu⟩ := hu
  have ht2 : tmps[t]?.getD undef = .pointer (some ⟨g, 0, none⟩) := by simpa using ht
  simp [results, h, ht2, asAddr, run_loadVar_row w g tt ty cs (0, 0) _ hg hu rfl hi]
theorem res_ct (u : Tmp) (h : fn.results = #[.cell t ty, .tmp u]) (ht : tmps.getD t undef = .pointer (some ⟨g, 0, none⟩)) (hg : w.heap[g]? = some (.cells cs tt (0, 0))) (hu : ∃ fs, P.underlying ty = some (.struct fs)) (hi : (P.info? ty).map (·.size) = some cs.size) :
    (results fn tmps).run P w = .ok (.tuple #[.agg cs, tmps.getD u undef]) w := by
  obtain ⟨fs, hu⟩ := hu
  have ht2 : tmps[t]?.getD undef = .pointer (some ⟨g, 0, none⟩) := by simpa using ht
  simp [results, h, ht2, asAddr, run_loadVar_row w g tt ty cs (0, 0) _ hg hu rfl hi]
theorem res_ctt (u v : Tmp) (h : fn.results = #[.cell t ty, .tmp u, .tmp v]) (ht : tmps.getD t undef = .pointer (some ⟨g, 0, none⟩)) (hg : w.heap[g]? = some (.cells cs tt (0, 0))) (hu : ∃ fs, P.underlying ty = some (.struct fs)) (hi : (P.info? ty).map (·.size) = some cs.size) :
    (results fn tmps).run P w = .ok (.tuple #[.agg cs, tmps.getD u undef, tmps.getD v undef]) w := by
  obtain ⟨fs, hu⟩ := hu
  have ht2 : tmps[t]?.getD undef = .pointer (some ⟨g, 0, none⟩) := by simpa using ht
  simp [results, h, ht2, asAddr, run_loadVar_row w g tt ty cs (0, 0) _ hg hu rfl hi]
end
end

section
variable {P : Program} {ops : Array Oper} {rest : List Oper} {dst : Option Tmp} {tp : TypeId} {pos : String} {aft : Array Edge} {a : Act} {w : World} {Q : Exit → Act → World → Prop} {x y : Operand}
theorem haltst (ty : TypeId) (h : wpList P ops Q (⟨dst, .store ty x y, tp, pos, aft, none⟩ :: rest) a w ∨ False) : wpList P ops Q (⟨dst, .store ty x y, tp, pos, aft, none⟩ :: rest) a w := h.elim id False.elim
theorem haltld (ty : TypeId) (h : wpList P ops Q (⟨dst, .load ty x, tp, pos, aft, none⟩ :: rest) a w ∨ False) : wpList P ops Q (⟨dst, .load ty x, tp, pos, aft, none⟩ :: rest) a w := h.elim id False.elim
end
theorem at0 (w : World) (A : Obj) : (w.alloc A).heap[w.heap.size]? = some A := get_alloc_new w A
theorem at1 (w : World) (A B : Obj) : ((w.alloc A).alloc B).heap[w.heap.size + 1]? = some B := by
  have := get_alloc_new (w.alloc A) B
  rwa [size_alloc] at this
theorem at2 (w : World) (A B C : Obj) : (((w.alloc A).alloc B).alloc C).heap[w.heap.size + 2]? = some C := by
  have := at1 (w.alloc A) B C
  rwa [size_alloc] at this
theorem old1 {w : World} {g : Nat} {o : Obj} (h : w.heap[g]? = some o) (A : Obj) : (w.alloc A).heap[g]? = some o := (get_alloc_old (blk_lt h)).trans h
theorem ext_off {w W W' : World} {F : Nat → Prop} (x : Ext w W) (o : Off F W W') (hF : ∀ k, F k → w.heap.size ≤ k) : Ext w W' := Below.trans x (o.below hF x.size)
end Go.Proofs.YtlakolkpfkakoaaGreatDoor

/- Layer 10: the document's pipes, as they lie in memory. -/
namespace Go.Proofs.YtlakolkpfkakoaaGreatDoor
open Go.RowKit

set_option linter.unusedVariables false
theorem uPipe : ∃ fs, Tryz.prog.underlying 35 = some (.struct fs) := ⟨_, Tryz.underlying35⟩
def pcs (P : PipeS) (l0 l1 g0 g1 ws : SV) : Array Value := #[.int .i64 P.e0.e, .int .i64 P.e0.win, .int .i64 P.e0.qn, .int .i64 P.e0.wait, .slice l0.ao l0.n l0.c, .int .u64 P.e0.first, .int .i64 P.e0.out, .int .i64 P.e0.ever, .int .u64 P.e0.want, .bool P.e0.owes, .int .i64 P.e0.age, .int .i64 P.e1.e, .int .i64 P.e1.win, .int .i64 P.e1.qn, .int .i64 P.e1.wait, .slice l1.ao l1.n l1.c, .int .u64 P.e1.first, .int .i64 P.e1.out, .int .i64 P.e1.ever, .int .u64 P.e1.want, .bool P.e1.owes, .int .i64 P.e1.age, .slice g0.ao g0.n g0.c, .slice g1.ao g1.n g1.c, .int .i64 P.net.n, .int .i64 P.net.room, .slice ws.ao ws.n ws.c]
structure RP (F : Nat → Prop) (w : World) (P : PipeS) (l0 l1 g0 g1 ws : SV) (m : Nat) : Prop where
  s0 : Sa F w l0.v P.e0.l
  s1 : Sa F w l1.v P.e1.l
  g0 : Sa F w g0.v P.g0
  g1 : Sa F w g1.v P.g1
  net : RNet F w (.agg #[.int .i64 P.net.n, .int .i64 P.net.room, ws.v]) P.net m
def RPipe (F : Nat → Prop) (w : World) (v : Value) (P : PipeS) (m : Nat) : Prop := ∃ l0 l1 g0 g1 ws, v = .agg (pcs P l0 l1 g0 g1 ws) ∧ RP F w P l0 l1 g0 g1 ws m
section
variable {F G : Nat → Prop} {w w' : World} {P : PipeS} {l0 l1 g0 g1 ws : SV} {m m' : Nat} {v : Value}
theorem RP.ext (h : RP F w P l0 l1 g0 g1 ws m) (x : Ext w w') : RP F w' P l0 l1 g0 g1 ws m := ⟨h.s0.ext x, h.s1.ext x, h.g0.ext x, h.g1.ext x, h.net.ext x⟩
theorem RP.off (h : RP F w P l0 l1 g0 g1 ws m) (o : Off F w w') (g : Grows F G w) : RP G w' P l0 l1 g0 g1 ws m := ⟨h.s0.off o g, h.s1.off o g, h.g0.off o g, h.g1.off o g, h.net.off o g⟩
theorem RP.wide (h : RP F w P l0 l1 g0 g1 ws m) (hG : ∀ k, k < w.heap.size → G k → F k) : RP G w P l0 l1 g0 g1 ws m := ⟨h.s0.wide hG, h.s1.wide hG, h.g0.wide hG, h.g1.wide hG, h.net.wide hG⟩
theorem RP.more (h : RP F w P l0 l1 g0 g1 ws m) (e : m ≤ m') : RP F w P l0 l1 g0 g1 ws m' := ⟨h.s0, h.s1, h.g0, h.g1, h.net.more e⟩
theorem RP.put0 {E : EndS} {l : SV} (h : RP F w P l0 l1 g0 g1 ws m) (s : Sa F w l.v E.l) : RP F w { P with e0 := E } l l1 g0 g1 ws m := ⟨s, h.s1, h.g0, h.g1, h.net⟩
theorem RP.put1 {E : EndS} {l : SV} (h : RP F w P l0 l1 g0 g1 ws m) (s : Sa F w l.v E.l) : RP F w { P with e1 := E } l0 l g0 g1 ws m := ⟨h.s0, s, h.g0, h.g1, h.net⟩
theorem RP.putN {N : NetS} {x : SV} (h : RP F w P l0 l1 g0 g1 ws m) (s : RNet F w (.agg #[.int .i64 N.n, .int .i64 N.room, x.v]) N m') (e : m ≤ m') : RP F w { P with net := N } l0 l1 g0 g1 x m' := ⟨h.s0, h.s1, h.g0, h.g1, s⟩
theorem RP.drop {B n b : Nat} (h : RP (fun k => F k ∨ (B ≤ k ∧ k < B + n)) w P l0 l1 g0 g1 ws m) (o : Off (fun k => k = b) w w') (hb : B ≤ b ∧ b < B + n) : RP F w' P l0 l1 g0 g1 ws m := h.off (o.mono fun k e => .inr (by omega)) (fun k hk => .inl (.inl hk))
theorem RP.stay {B n b : Nat} (h : RP (fun k => F k ∨ (B ≤ k ∧ k < B + n)) w P l0 l1 g0 g1 ws m) (o : Off (fun k => k = b) w w') (hb : B ≤ b ∧ b < B + n) : RP (fun k => F k ∨ (B ≤ k ∧ k < B + n)) w' P l0 l1 g0 g1 ws m := h.off (o.mono fun k e => .inr (by omega)) (Grows.refl _ _)
theorem RP.boxes {n : Nat} (h : RP F w P l0 l1 g0 g1 ws m) (x : Ext w w') : RP (fun k => F k ∨ (w.heap.size ≤ k ∧ k < w.heap.size + n)) w' P l0 l1 g0 g1 ws m := (h.wide (fun k h1 h2 => h2.elim id (fun h3 => by omega))).ext x
theorem RP.to (h : RP F w P l0 l1 g0 g1 ws m) : RPipe F w (.agg (pcs P l0 l1 g0 g1 ws)) P m := ⟨l0, l1, g0, g1, ws, rfl, h⟩
theorem RPipe.ext (h : RPipe F w v P m) (x : Ext w w') : RPipe F w' v P m := by
  obtain ⟨l0, l1, g0, g1, ws, h1, h2⟩ := h
  exact ⟨l0, l1, g0, g1, ws, h1, h2.ext x⟩
theorem RPipe.off (h : RPipe F w v P m) (o : Off F w w') (g : Grows F G w) : RPipe G w' v P m := by
  obtain ⟨l0, l1, g0, g1, ws, h1, h2⟩ := h
  exact ⟨l0, l1, g0, g1, ws, h1, h2.off o g⟩
theorem RPipe.more (h : RPipe F w v P m) (e : m ≤ m') : RPipe F w v P m' := by
  obtain ⟨l0, l1, g0, g1, ws, h1, h2⟩ := h
  exact ⟨l0, l1, g0, g1, ws, h1, h2.more e⟩
theorem RPipe.wide (h : RPipe F w v P m) (hG : ∀ k, k < w.heap.size → G k → F k) : RPipe G w v P m := by
  obtain ⟨l0, l1, g0, g1, ws, h1, h2⟩ := h
  exact ⟨l0, l1, g0, g1, ws, h1, h2.wide hG⟩
end
theorem cells27 {W : World} {g : Nat} {v0 v1 v2 v3 v4 v5 v6 v7 v8 v9 v10 v11 v12 v13 v14 v15 v16 v17 v18 v19 v20 v21 v22 v23 v24 v25 v26 : Value} {t : TypeId} (h : W.heap[g]? = some (.cells #[v0, v1, v2, v3, v4, v5, v6, v7, v8, v9, v10, v11, v12, v13, v14, v15, v16, v17, v18, v19, v20, v21, v22, v23, v24, v25, v26] t (0, 0))) :
    (W.cell? ⟨g, 0, none⟩ = some v0 ∧ W.cell? ⟨g, 1, none⟩ = some v1 ∧ W.cell? ⟨g, 2, none⟩ = some v2 ∧ W.cell? ⟨g, 3, none⟩ = some v3 ∧ W.cell? ⟨g, 4, none⟩ = some v4 ∧ W.cell? ⟨g, 5, none⟩ = some v5 ∧ W.cell? ⟨g, 6, none⟩ = some v6 ∧ W.cell? ⟨g, 7, none⟩ = some v7 ∧ W.cell? ⟨g, 8, none⟩ = some v8 ∧ W.cell? ⟨g, 9, none⟩ = some v9 ∧ W.cell? ⟨g, 10, none⟩ = some v10 ∧ W.cell? ⟨g, 11, none⟩ = some v11 ∧ W.cell? ⟨g, 12, none⟩ = some v12 ∧ W.cell? ⟨g, 13, none⟩ = some v13 ∧ W.cell? ⟨g, 14, none⟩ = some v14 ∧ W.cell? ⟨g, 15, none⟩ = some v15 ∧ W.cell? ⟨g, 16, none⟩ = some v16 ∧ W.cell? ⟨g, 17, none⟩ = some v17 ∧ W.cell? ⟨g, 18, none⟩ = some v18 ∧ W.cell? ⟨g, 19, none⟩ = some v19 ∧ W.cell? ⟨g, 20, none⟩ = some v20 ∧ W.cell? ⟨g, 21, none⟩ = some v21 ∧ W.cell? ⟨g, 22, none⟩ = some v22 ∧ W.cell? ⟨g, 23, none⟩ = some v23 ∧ W.cell? ⟨g, 24, none⟩ = some v24 ∧ W.cell? ⟨g, 25, none⟩ = some v25 ∧ W.cell? ⟨g, 26, none⟩ = some v26) ∧
    (W.frozen? ⟨g, 0, none⟩ = false ∧ W.frozen? ⟨g, 1, none⟩ = false ∧ W.frozen? ⟨g, 2, none⟩ = false ∧ W.frozen? ⟨g, 3, none⟩ = false ∧ W.frozen? ⟨g, 4, none⟩ = false ∧ W.frozen? ⟨g, 5, none⟩ = false ∧ W.frozen? ⟨g, 6, none⟩ = false ∧ W.frozen? ⟨g, 7, none⟩ = false ∧ W.frozen? ⟨g, 8, none⟩ = false ∧ W.frozen? ⟨g, 9, none⟩ = false ∧ W.frozen? ⟨g, 10, none⟩ = false ∧ W.frozen? ⟨g, 11, none⟩ = false ∧ W.frozen? ⟨g, 12, none⟩ = false ∧ W.frozen? ⟨g, 13, none⟩ = false ∧ W.frozen? ⟨g, 14, none⟩ = false ∧ W.frozen? ⟨g, 15, none⟩ = false ∧ W.frozen? ⟨g, 16, none⟩ = false ∧ W.frozen? ⟨g, 17, none⟩ = false ∧ W.frozen? ⟨g, 18, none⟩ = false ∧ W.frozen? ⟨g, 19, none⟩ = false ∧ W.frozen? ⟨g, 20, none⟩ = false ∧ W.frozen? ⟨g, 21, none⟩ = false ∧ W.frozen? ⟨g, 22, none⟩ = false ∧ W.frozen? ⟨g, 23, none⟩ = false ∧ W.frozen? ⟨g, 24, none⟩ = false ∧ W.frozen? ⟨g, 25, none⟩ = false ∧ W.frozen? ⟨g, 26, none⟩ = false) :=
  ⟨⟨blk_cell h 0 rfl, blk_cell h 1 rfl, blk_cell h 2 rfl, blk_cell h 3 rfl, blk_cell h 4 rfl, blk_cell h 5 rfl, blk_cell h 6 rfl, blk_cell h 7 rfl, blk_cell h 8 rfl, blk_cell h 9 rfl, blk_cell h 10 rfl, blk_cell h 11 rfl, blk_cell h 12 rfl, blk_cell h 13 rfl, blk_cell h 14 rfl, blk_cell h 15 rfl, blk_cell h 16 rfl, blk_cell h 17 rfl, blk_cell h 18 rfl, blk_cell h 19 rfl, blk_cell h 20 rfl, blk_cell h 21 rfl, blk_cell h 22 rfl, blk_cell h 23 rfl, blk_cell h 24 rfl, blk_cell h 25 rfl, blk_cell h 26 rfl⟩, blk_free h 0, blk_free h 1, blk_free h 2, blk_free h 3, blk_free h 4, blk_free h 5, blk_free h 6, blk_free h 7, blk_free h 8, blk_free h 9, blk_free h 10, blk_free h 11, blk_free h 12, blk_free h 13, blk_free h 14, blk_free h 15, blk_free h 16, blk_free h 17, blk_free h 18, blk_free h 19, blk_free h 20, blk_free h 21, blk_free h 22, blk_free h 23, blk_free h 24, blk_free h 25, blk_free h 26⟩
end Go.Proofs.YtlakolkpfkakoaaGreatDoor

/- Layer 10's document: End, Got, with. -/
namespace Go.Proofs.YtlakolkpfkakoaaGreatDoor
open Go.RowKit

set_option linter.unusedVariables false
set_option maxRecDepth 50000 in
set_option maxHeartbeats 3200000 in
theorem rEnd_any (w : World) (P : PipeS) (l0 l1 g0 g1 ws : SV) (s : Int) (hs : s = 0 ∨ s = 1) :
    Calls Tryz.prog 26 #[.agg (pcs P l0 l1 g0 g1 ws), .int .i64 s] w fun ev w' => ev = .returned (.agg (rCells (P.end' s) (if s = 0 then l0.v else l1.v))) ∧ Ext w w' := by
  obtain ⟨⟨e0, y0, q0, t0, L0, f0, o0, v0, d0, s0, x0⟩, ⟨e1, y1, q1, t1, L1, f1, o1, v1, d1, s1, x1⟩, G0, G1, N⟩ := P
  obtain ⟨la, ln, lc⟩ := l0
  obtain ⟨ma, mn, mc⟩ := l1
  obtain ⟨ga, gn, gc⟩ := g0
  obtain ⟨ha, hn, hc⟩ := g1
  obtain ⟨wa, wn, wc⟩ := ws
  unfold pcs rCells PipeS.end'
  dsimp only [SV.v]
  rcases hs with rfl | rfl
  · rw [if_pos rfl, if_pos rfl]
    dsimp only
    go_enter Tryz.func26, Tryz.ntmps26
    go_wp2
    refine bodyPost_ret (v := .agg #[.int .i64 e0, .int .i64 y0, .int .i64 q0, .int .i64 t0, .slice la ln lc, .int .u64 f0, .int .i64 o0, .int .i64 v0, .int .u64 d0, .bool s0, .int .i64 x0]) (by simp [results, Tryz.results26, go_sem]) rfl ⟨rfl, (by first | (repeat (first | exact Ext.refl _ | assumption | refine Ext.alloc ?_ _ | refine Ext.drew ?_ | refine below_set ?_ (by simp) _)))⟩
  · rw [if_neg (by decide), if_neg (by decide)]
    dsimp only
    go_enter Tryz.func26, Tryz.ntmps26
    go_wp2
    refine bodyPost_ret (v := .agg #[.int .i64 e1, .int .i64 y1, .int .i64 q1, .int .i64 t1, .slice ma mn mc, .int .u64 f1, .int .i64 o1, .int .i64 v1, .int .u64 d1, .bool s1, .int .i64 x1]) (by simp [results, Tryz.results26, go_sem]) rfl ⟨rfl, (by first | (repeat (first | exact Ext.refl _ | assumption | refine Ext.alloc ?_ _ | refine Ext.drew ?_ | refine below_set ?_ (by simp) _)))⟩

set_option maxRecDepth 50000 in
set_option maxHeartbeats 3200000 in
theorem rGot_any (w : World) (P : PipeS) (l0 l1 g0 g1 ws : SV) (s : Int) (hs : s = 0 ∨ s = 1) :
    Calls Tryz.prog 24 #[.agg (pcs P l0 l1 g0 g1 ws), .int .i64 s] w fun ev w' => ev = .returned (if s = 0 then g0.v else g1.v) ∧ Ext w w' := by
  obtain ⟨⟨e0, y0, q0, t0, L0, f0, o0, v0, d0, s0, x0⟩, ⟨e1, y1, q1, t1, L1, f1, o1, v1, d1, s1, x1⟩, G0, G1, N⟩ := P
  obtain ⟨la, ln, lc⟩ := l0
  obtain ⟨ma, mn, mc⟩ := l1
  obtain ⟨ga, gn, gc⟩ := g0
  obtain ⟨ha, hn, hc⟩ := g1
  obtain ⟨wa, wn, wc⟩ := ws
  unfold pcs
  dsimp only [SV.v]
  rcases hs with rfl | rfl
  · rw [if_pos rfl]
    go_enter Tryz.func24, Tryz.ntmps24
    go_wp2
    go_ret
    exact ⟨rfl, (by first | (repeat (first | exact Ext.refl _ | assumption | refine Ext.alloc ?_ _ | refine Ext.drew ?_ | refine below_set ?_ (by simp) _)))⟩
  · rw [if_neg (by decide)]
    go_enter Tryz.func24, Tryz.ntmps24
    go_wp2
    go_ret
    exact ⟨rfl, (by first | (repeat (first | exact Ext.refl _ | assumption | refine Ext.alloc ?_ _ | refine Ext.drew ?_ | refine below_set ?_ (by simp) _)))⟩

set_option maxRecDepth 50000 in
set_option maxHeartbeats 6400000 in
theorem rWith0 (w : World) (P : PipeS) (l0 l1 g0 g1 ws : SV) (E : EndS) (l : SV) :
    Calls Tryz.prog 37 #[.agg (pcs P l0 l1 g0 g1 ws), .int .i64 0, .agg (rCells E (.slice l.ao l.n l.c))] w fun ev w' => ev = .returned (.agg (pcs { P with e0 := E } l l1 g0 g1 ws)) ∧ Ext w w' := by
  obtain ⟨⟨e0, y0, q0, t0, L0, f0, o0, v0, d0, s0, x0⟩, ⟨e1, y1, q1, t1, L1, f1, o1, v1, d1, s1, x1⟩, G0, G1, N⟩ := P
  obtain ⟨la, ln, lc⟩ := l0
  obtain ⟨ma, mn, mc⟩ := l1
  obtain ⟨ga, gn, gc⟩ := g0
  obtain ⟨ha, hn, hc⟩ := g1
  obtain ⟨wa, wn, wc⟩ := ws
  obtain ⟨e2, y2, q2, t2, L2, f2, o2, v2, d2, s2, x2⟩ := E
  obtain ⟨ea, en, ec⟩ := l
  unfold pcs rCells
  dsimp only [SV.v]
  go_enter Tryz.func37, Tryz.ntmps37
  go_wp2_with (first | refine haltst 35 ?_ | refine haltst 30 ?_ | refine haltld 35 ?_)
  refine .inl ?_
  refine st_l 30 (.tmp 10) (.tmp 9) (w.heap.size) 0 35 #[.int .i64 e0, .int .i64 y0, .int .i64 q0, .int .i64 t0, .slice la ln lc, .int .u64 f0, .int .i64 o0, .int .i64 v0, .int .u64 d0, .bool s0, .int .i64 x0, .int .i64 e1, .int .i64 y1, .int .i64 q1, .int .i64 t1, .slice ma mn mc, .int .u64 f1, .int .i64 o1, .int .i64 v1, .int .u64 d1, .bool s1, .int .i64 x1, .slice ga gn gc, .slice ha hn hc, .int .i64 N.n, .int .i64 N.room, .slice wa wn wc] #[.int .i64 e2, .int .i64 y2, .int .i64 q2, .int .i64 t2, .slice ea en ec, .int .u64 f2, .int .i64 o2, .int .i64 v2, .int .u64 d2, .bool s2, .int .i64 x2] #[.int .i64 e2, .int .i64 y2, .int .i64 q2, .int .i64 t2, .slice ea en ec, .int .u64 f2, .int .i64 o2, .int .i64 v2, .int .u64 d2, .bool s2, .int .i64 x2, .int .i64 e1, .int .i64 y1, .int .i64 q1, .int .i64 t1, .slice ma mn mc, .int .u64 f1, .int .i64 o1, .int .i64 v1, .int .u64 d1, .bool s1, .int .i64 x1, .slice ga gn gc, .slice ha hn hc, .int .i64 N.n, .int .i64 N.room, .slice wa wn wc] rfl rfl (old1 (old1 (at0 w _) _) _) (by kernel_rfl) (by simp) rfl rfl ?_
  intro W1 hb1 ho1
  go_wp2_with (first | refine haltst 35 ?_ | refine haltst 30 ?_ | refine haltld 35 ?_)
  refine .inl ?_
  refine ld_l 35 (.tmp 3) (w.heap.size) 35 #[.int .i64 e2, .int .i64 y2, .int .i64 q2, .int .i64 t2, .slice ea en ec, .int .u64 f2, .int .i64 o2, .int .i64 v2, .int .u64 d2, .bool s2, .int .i64 x2, .int .i64 e1, .int .i64 y1, .int .i64 q1, .int .i64 t1, .slice ma mn mc, .int .u64 f1, .int .i64 o1, .int .i64 v1, .int .u64 d1, .bool s1, .int .i64 x1, .slice ga gn gc, .slice ha hn hc, .int .i64 N.n, .int .i64 N.room, .slice wa wn wc] rfl (hb1) uPipe (by kernel_rfl) ?_
  go_wp2_with (first | refine haltst 35 ?_ | refine haltst 30 ?_ | refine haltld 35 ?_)
  refine .inl ?_
  refine st_l 35 (.tmp 6) (.tmp 13) (w.heap.size + 2) 0 35 #[.int .i64 0, .int .i64 0, .int .i64 0, .int .i64 0, .slice none 0 0, .int .u64 0, .int .i64 0, .int .i64 0, .int .u64 0, .bool false, .int .i64 0, .int .i64 0, .int .i64 0, .int .i64 0, .int .i64 0, .slice none 0 0, .int .u64 0, .int .i64 0, .int .i64 0, .int .u64 0, .bool false, .int .i64 0, .slice none 0 0, .slice none 0 0, .int .i64 0, .int .i64 0, .slice none 0 0] #[.int .i64 e2, .int .i64 y2, .int .i64 q2, .int .i64 t2, .slice ea en ec, .int .u64 f2, .int .i64 o2, .int .i64 v2, .int .u64 d2, .bool s2, .int .i64 x2, .int .i64 e1, .int .i64 y1, .int .i64 q1, .int .i64 t1, .slice ma mn mc, .int .u64 f1, .int .i64 o1, .int .i64 v1, .int .u64 d1, .bool s1, .int .i64 x1, .slice ga gn gc, .slice ha hn hc, .int .i64 N.n, .int .i64 N.room, .slice wa wn wc] #[.int .i64 e2, .int .i64 y2, .int .i64 q2, .int .i64 t2, .slice ea en ec, .int .u64 f2, .int .i64 o2, .int .i64 v2, .int .u64 d2, .bool s2, .int .i64 x2, .int .i64 e1, .int .i64 y1, .int .i64 q1, .int .i64 t1, .slice ma mn mc, .int .u64 f1, .int .i64 o1, .int .i64 v1, .int .u64 d1, .bool s1, .int .i64 x1, .slice ga gn gc, .slice ha hn hc, .int .i64 N.n, .int .i64 N.room, .slice wa wn wc] rfl rfl (ho1.blk (at2 w _ _ _) (by omega)) (by kernel_rfl) (by simp) rfl rfl ?_
  intro W2 hb2 ho2
  go_wp2
  exact bodyPost_ret (v := .agg #[.int .i64 e2, .int .i64 y2, .int .i64 q2, .int .i64 t2, .slice ea en ec, .int .u64 f2, .int .i64 o2, .int .i64 v2, .int .u64 d2, .bool s2, .int .i64 x2, .int .i64 e1, .int .i64 y1, .int .i64 q1, .int .i64 t1, .slice ma mn mc, .int .u64 f1, .int .i64 o1, .int .i64 v1, .int .u64 d1, .bool s1, .int .i64 x1, .slice ga gn gc, .slice ha hn hc, .int .i64 N.n, .int .i64 N.room, .slice wa wn wc]) (res_c rfl rfl hb2 uPipe (by kernel_rfl)) rfl ⟨rfl, ext_off (ext_off (Ext.alloc (Ext.alloc (Ext.alloc (Ext.refl w) _) _) _) ho1 (fun k hk => by omega)) ho2 (fun k hk => by omega)⟩
set_option maxRecDepth 50000 in
set_option maxHeartbeats 6400000 in
theorem rWith1 (w : World) (P : PipeS) (l0 l1 g0 g1 ws : SV) (E : EndS) (l : SV) :
    Calls Tryz.prog 37 #[.agg (pcs P l0 l1 g0 g1 ws), .int .i64 1, .agg (rCells E (.slice l.ao l.n l.c))] w fun ev w' => ev = .returned (.agg (pcs { P with e1 := E } l0 l g0 g1 ws)) ∧ Ext w w' := by
  obtain ⟨⟨e0, y0, q0, t0, L0, f0, o0, v0, d0, s0, x0⟩, ⟨e1, y1, q1, t1, L1, f1, o1, v1, d1, s1, x1⟩, G0, G1, N⟩ := P
  obtain ⟨la, ln, lc⟩ := l0
  obtain ⟨ma, mn, mc⟩ := l1
  obtain ⟨ga, gn, gc⟩ := g0
  obtain ⟨ha, hn, hc⟩ := g1
  obtain ⟨wa, wn, wc⟩ := ws
  obtain ⟨e2, y2, q2, t2, L2, f2, o2, v2, d2, s2, x2⟩ := E
  obtain ⟨ea, en, ec⟩ := l
  unfold pcs rCells
  dsimp only [SV.v]
  go_enter Tryz.func37, Tryz.ntmps37
  go_wp2_with (first | refine haltst 35 ?_ | refine haltst 30 ?_ | refine haltld 35 ?_)
  refine .inl ?_
  refine st_l 30 (.tmp 12) (.tmp 11) (w.heap.size) 11 35 #[.int .i64 e0, .int .i64 y0, .int .i64 q0, .int .i64 t0, .slice la ln lc, .int .u64 f0, .int .i64 o0, .int .i64 v0, .int .u64 d0, .bool s0, .int .i64 x0, .int .i64 e1, .int .i64 y1, .int .i64 q1, .int .i64 t1, .slice ma mn mc, .int .u64 f1, .int .i64 o1, .int .i64 v1, .int .u64 d1, .bool s1, .int .i64 x1, .slice ga gn gc, .slice ha hn hc, .int .i64 N.n, .int .i64 N.room, .slice wa wn wc] #[.int .i64 e2, .int .i64 y2, .int .i64 q2, .int .i64 t2, .slice ea en ec, .int .u64 f2, .int .i64 o2, .int .i64 v2, .int .u64 d2, .bool s2, .int .i64 x2] #[.int .i64 e0, .int .i64 y0, .int .i64 q0, .int .i64 t0, .slice la ln lc, .int .u64 f0, .int .i64 o0, .int .i64 v0, .int .u64 d0, .bool s0, .int .i64 x0, .int .i64 e2, .int .i64 y2, .int .i64 q2, .int .i64 t2, .slice ea en ec, .int .u64 f2, .int .i64 o2, .int .i64 v2, .int .u64 d2, .bool s2, .int .i64 x2, .slice ga gn gc, .slice ha hn hc, .int .i64 N.n, .int .i64 N.room, .slice wa wn wc] rfl rfl (old1 (old1 (at0 w _) _) _) (by kernel_rfl) (by simp) rfl rfl ?_
  intro W1 hb1 ho1
  go_wp2_with (first | refine haltst 35 ?_ | refine haltst 30 ?_ | refine haltld 35 ?_)
  refine .inl ?_
  refine ld_l 35 (.tmp 3) (w.heap.size) 35 #[.int .i64 e0, .int .i64 y0, .int .i64 q0, .int .i64 t0, .slice la ln lc, .int .u64 f0, .int .i64 o0, .int .i64 v0, .int .u64 d0, .bool s0, .int .i64 x0, .int .i64 e2, .int .i64 y2, .int .i64 q2, .int .i64 t2, .slice ea en ec, .int .u64 f2, .int .i64 o2, .int .i64 v2, .int .u64 d2, .bool s2, .int .i64 x2, .slice ga gn gc, .slice ha hn hc, .int .i64 N.n, .int .i64 N.room, .slice wa wn wc] rfl (hb1) uPipe (by kernel_rfl) ?_
  go_wp2_with (first | refine haltst 35 ?_ | refine haltst 30 ?_ | refine haltld 35 ?_)
  refine .inl ?_
  refine st_l 35 (.tmp 6) (.tmp 13) (w.heap.size + 2) 0 35 #[.int .i64 0, .int .i64 0, .int .i64 0, .int .i64 0, .slice none 0 0, .int .u64 0, .int .i64 0, .int .i64 0, .int .u64 0, .bool false, .int .i64 0, .int .i64 0, .int .i64 0, .int .i64 0, .int .i64 0, .slice none 0 0, .int .u64 0, .int .i64 0, .int .i64 0, .int .u64 0, .bool false, .int .i64 0, .slice none 0 0, .slice none 0 0, .int .i64 0, .int .i64 0, .slice none 0 0] #[.int .i64 e0, .int .i64 y0, .int .i64 q0, .int .i64 t0, .slice la ln lc, .int .u64 f0, .int .i64 o0, .int .i64 v0, .int .u64 d0, .bool s0, .int .i64 x0, .int .i64 e2, .int .i64 y2, .int .i64 q2, .int .i64 t2, .slice ea en ec, .int .u64 f2, .int .i64 o2, .int .i64 v2, .int .u64 d2, .bool s2, .int .i64 x2, .slice ga gn gc, .slice ha hn hc, .int .i64 N.n, .int .i64 N.room, .slice wa wn wc] #[.int .i64 e0, .int .i64 y0, .int .i64 q0, .int .i64 t0, .slice la ln lc, .int .u64 f0, .int .i64 o0, .int .i64 v0, .int .u64 d0, .bool s0, .int .i64 x0, .int .i64 e2, .int .i64 y2, .int .i64 q2, .int .i64 t2, .slice ea en ec, .int .u64 f2, .int .i64 o2, .int .i64 v2, .int .u64 d2, .bool s2, .int .i64 x2, .slice ga gn gc, .slice ha hn hc, .int .i64 N.n, .int .i64 N.room, .slice wa wn wc] rfl rfl (ho1.blk (at2 w _ _ _) (by omega)) (by kernel_rfl) (by simp) rfl rfl ?_
  intro W2 hb2 ho2
  go_wp2
  exact bodyPost_ret (v := .agg #[.int .i64 e0, .int .i64 y0, .int .i64 q0, .int .i64 t0, .slice la ln lc, .int .u64 f0, .int .i64 o0, .int .i64 v0, .int .u64 d0, .bool s0, .int .i64 x0, .int .i64 e2, .int .i64 y2, .int .i64 q2, .int .i64 t2, .slice ea en ec, .int .u64 f2, .int .i64 o2, .int .i64 v2, .int .u64 d2, .bool s2, .int .i64 x2, .slice ga gn gc, .slice ha hn hc, .int .i64 N.n, .int .i64 N.room, .slice wa wn wc]) (res_c rfl rfl hb2 uPipe (by kernel_rfl)) rfl ⟨rfl, ext_off (ext_off (Ext.alloc (Ext.alloc (Ext.alloc (Ext.refl w) _) _) _) ho1 (fun k hk => by omega)) ho2 (fun k hk => by omega)⟩
end Go.Proofs.YtlakolkpfkakoaaGreatDoor
