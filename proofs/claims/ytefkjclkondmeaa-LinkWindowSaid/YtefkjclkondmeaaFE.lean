/- Frames: when two are the same. -/
import Derived.Test.YtefkjclkondmeaaF0
import Derived.Laws.StructEq
namespace Go.Proofs.Ytefkjclkondmeaa
open Go.RowKit

theorem tl_iff {a b : ByteArray} : a.toList = b.toList ↔ a = b := by
  have := tl_eq a b
  constructor
  · intro h
    rw [h, beq_self_eq_true] at this
    exact of_decide_eq_true this.symm
  · intro h; rw [h]

theorem eq_f (f g : Fr) (s : Bool) (hs : decide (f = g) = s) :
    (∀ w : World, (binOp .eql 34 (.agg #[.int .i64 f.k, .int .i64 f.e, .int .u64 (f.q : Int), .int .u64 (f.a : Int), .string f.b]) (.agg #[.int .i64 g.k, .int .i64 g.e, .int .u64 (g.q : Int), .int .u64 (g.a : Int), .string g.b])).run Try.prog w = .ok (.bool s) w) ∧
    ∀ (a b : Operand) (w : World), (eqGuard .eql 34 a b (.agg #[.int .i64 f.k, .int .i64 f.e, .int .u64 (f.q : Int), .int .u64 (f.a : Int), .string f.b]) (.agg #[.int .i64 g.k, .int .i64 g.e, .int .u64 (g.q : Int), .int .u64 (g.a : Int), .string g.b])).run Try.prog w = .ok () w := by
  obtain ⟨fk, fe, fq, fa, fb⟩ := f
  obtain ⟨gk, ge, gq, ga, gb⟩ := g
  refine ⟨fun w => ?_, fun a b w => run_eqGuard_agg w _ _ a b _ _ (by kernel_rfl)⟩
  have u3 := Try.underlying3
  have a3 := Try.isAgg3
  have z3 := Try.sizeOf3
  have u4 := Try.underlying22
  have a4 := Try.isAgg22
  have z4 := Try.sizeOf22
  have u5 := Try.underlying9
  have a5 := Try.isAgg9
  have z5 := Try.sizeOf9
  have u6 := Try.underlying32
  have a6 := Try.isAgg32
  have z6 := Try.sizeOf32
  have hS : Try.prog.underlying 34 = some (.struct (Try.prog.fieldsOf 34)) := by kernel_rfl
  have hp : Try.prog.stoodInHeld 34 = false := by kernel_rfl
  rw [run_eql_struct, show (10000 : Nat) = 9999 + 1 from rfl, run_equalIn_agg w 9999 34 _ _ hS hp]
  simp only [Program.fieldsOf, Try.underlying34]
  go_simp
  subst hs
  have e1 : (fb.toList = gb.toList) = (fb = gb) := propext ⟨fun h => tl_iff.1 h, fun h => h ▸ rfl⟩
  have e2 : ((fq : Int) = (gq : Int)) = (fq = gq) := propext Int.natCast_inj
  have e3 : ((fa : Int) = (ga : Int)) = (fa = ga) := propext Int.natCast_inj
  by_cases h0 : fk = gk <;> by_cases h1 : fe = ge <;> by_cases h2 : fq = gq <;> by_cases h3 : fa = ga <;> by_cases h4 : fb = gb <;> simp [e1, e2, e3, h0, h1, h2, h3, h4]

theorem neq_f (f g : Fr) (s : Bool) (hs : decide (f = g) = s) :
    (∀ w : World, (binOp .neq 34 (.agg #[.int .i64 f.k, .int .i64 f.e, .int .u64 (f.q : Int), .int .u64 (f.a : Int), .string f.b]) (.agg #[.int .i64 g.k, .int .i64 g.e, .int .u64 (g.q : Int), .int .u64 (g.a : Int), .string g.b])).run Try.prog w = .ok (.bool (!s)) w) ∧
    ∀ (a b : Operand) (w : World), (eqGuard .neq 34 a b (.agg #[.int .i64 f.k, .int .i64 f.e, .int .u64 (f.q : Int), .int .u64 (f.a : Int), .string f.b]) (.agg #[.int .i64 g.k, .int .i64 g.e, .int .u64 (g.q : Int), .int .u64 (g.a : Int), .string g.b])).run Try.prog w = .ok () w := by
  obtain ⟨fk, fe, fq, fa, fb⟩ := f
  obtain ⟨gk, ge, gq, ga, gb⟩ := g
  refine ⟨fun w => ?_, fun a b w => run_eqGuard_agg w _ _ a b _ _ (by kernel_rfl)⟩
  have u3 := Try.underlying3
  have a3 := Try.isAgg3
  have z3 := Try.sizeOf3
  have u4 := Try.underlying22
  have a4 := Try.isAgg22
  have z4 := Try.sizeOf22
  have u5 := Try.underlying9
  have a5 := Try.isAgg9
  have z5 := Try.sizeOf9
  have u6 := Try.underlying32
  have a6 := Try.isAgg32
  have z6 := Try.sizeOf32
  have hS : Try.prog.underlying 34 = some (.struct (Try.prog.fieldsOf 34)) := by kernel_rfl
  have hp : Try.prog.stoodInHeld 34 = false := by kernel_rfl
  rw [run_neq_struct, show (10000 : Nat) = 9999 + 1 from rfl, run_equalIn_agg w 9999 34 _ _ hS hp]
  simp only [Program.fieldsOf, Try.underlying34]
  go_simp
  subst hs
  have e1 : (fb.toList = gb.toList) = (fb = gb) := propext ⟨fun h => tl_iff.1 h, fun h => h ▸ rfl⟩
  have e2 : ((fq : Int) = (gq : Int)) = (fq = gq) := propext Int.natCast_inj
  have e3 : ((fa : Int) = (ga : Int)) = (fa = ga) := propext Int.natCast_inj
  by_cases h0 : fk = gk <;> by_cases h1 : fe = ge <;> by_cases h2 : fq = gq <;> by_cases h3 : fa = ga <;> by_cases h4 : fb = gb <;> simp [e1, e2, e3, h0, h1, h2, h3, h4]
end Go.Proofs.Ytefkjclkondmeaa
