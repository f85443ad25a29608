/- errors.As and errors.Is of an error that is a struct with a number in it: Go's own text, walked. -/
import Derived.Test.YtefkjclkondmeaaBase
import Derived.LaidEql
import Derived.Stop.Asserts
import Derived.RowKitTokens
namespace Go.Proofs.Ytefkjclkondmeaa
open Go.RowKit Go.Extern.Stop Go.Stop Go.Extern

theorem m_Comparable (h : Value) (w : World) : (Go.method 229 87 (.agg #[h]) "Comparable").run Try.prog w = .ok (61, .agg #[h]) w := by kernel_rfl
theorem e_typeOfN (v : Value) (w : World) : (ReflectliteType.typeOf #[.iface 37 v]).run Try.prog w = .ok (.iface 87 (.agg #[.pointer (some ⟨0, 37, none⟩)])) w := by kernel_rfl
theorem i_noIsS (v : Value) (xT : TypeId) (w : World) : (Instr.typeAssert (.iface 85 v) xT 89 true).run Try.prog w = .ok (.tuple #[.nilIface, .bool false]) w := run_typeAssert_lacksB Try.underlying89 (by kernel_rfl) (by kernel_rfl) v xT w
theorem i_noIsN (v : Value) (xT : TypeId) (w : World) : (Instr.typeAssert (.iface 37 v) xT 89 true).run Try.prog w = .ok (.tuple #[.nilIface, .bool false]) w := run_typeAssert_lacksB Try.underlying89 (by kernel_rfl) (by kernel_rfl) v xT w
theorem i_hasUnS (v : Value) (xT : TypeId) (w : World) : (Instr.typeAssert (.iface 85 v) xT 92 true).run Try.prog w = .ok (.tuple #[.iface 85 v, .bool true]) w := run_typeAssert_hasB Try.underlying92 (by kernel_rfl) v xT w
theorem i_noUnN (v : Value) (xT : TypeId) (w : World) : (Instr.typeAssert (.iface 37 v) xT 92 true).run Try.prog w = .ok (.tuple #[.nilIface, .bool false]) w := run_typeAssert_lacksB Try.underlying92 (by kernel_rfl) (by kernel_rfl) v xT w
theorem i_noUnsN (v : Value) (xT : TypeId) (w : World) : (Instr.typeAssert (.iface 37 v) xT 94 true).run Try.prog w = .ok (.tuple #[.nilIface, .bool false]) w := run_typeAssert_lacksB Try.underlying94 (by kernel_rfl) (by kernel_rfl) v xT w
theorem i_mUnwrap (x y : Int) (w : World) : (Go.method 229 85 (.agg #[.int .i64 x, .int .i64 y]) "Unwrap").run Try.prog w = .ok (57, .agg #[.int .i64 x, .int .i64 y]) w := by kernel_rfl

theorem unwrap_any (x y : Int) (w : World) : Calls Try.prog 57 #[.agg #[.int .i64 x, .int .i64 y]] w fun ev w' => ev = .returned (.iface 37 (.int .i64 y)) ∧ w' = w.alloc (.cells #[.int .i64 x, .int .i64 y] 85) := by
  go_enter Try.func57, Try.ntmps57
  go_wp2
  go_ret
  exact ⟨rfl, rfl⟩

theorem i_eqIn (w : World) (d : Nat) (a b : Int) (i : TypeInfo) (hinfo : Try.prog.info? 37 = some i) (hcomp : i.comparable = true) :
    (Op.equalIn (d + 2) 75 (.iface 37 (.int .i64 a)) (.iface 37 (.int .i64 b))).run Try.prog w = .ok (a == b) w := by
  simp [Op.equalIn, run_underlying Try.underlying75, run_underlying Try.underlying37, typeInfo, hinfo, hcomp]
theorem i_comp : (Try.prog.info? 37).map (·.comparable) = some true := by kernel_rfl
theorem i_eq (w : World) (a b : Int) : (binOp .eql 75 (.iface 37 (.int .i64 a)) (.iface 37 (.int .i64 b))).run Try.prog w = .ok (.bool (a == b)) w := by
  obtain ⟨i, hi, hc⟩ := Option.map_eq_some_iff.1 i_comp
  simp only [binOp]
  simp [Op.equal, Op.maxDepth, i_eqIn w 9998 a b i hi hc]
def cmpSem : Array Value → Sem Value := ReflectliteType.method fun t => do Rtype.noPackHeld "Comparable" t; pure (.bool (← typeInfo t).comparable)
theorem i_comparable (w : World) : (cmpSem #[.agg #[.pointer (some ⟨0, 37, none⟩)]]).run Try.prog w = .ok (.bool true) w := by kernel_rfl

theorem is_nil (b : Int) (w : World) : Calls Try.prog 35 #[.nilIface, .iface 37 (.int .i64 b)] w fun e w' => e = .returned (.bool false) ∧ w = w' := by
  have hty := run_eql_iface_nil_left (P := Try.prog) (w := w) 37 (.int .i64 b) Try.underlying75
  go_enter Try.func35, Try.ntmps35
  go_wp2
  go_ret
  exact ⟨rfl, rfl⟩

set_option maxHeartbeats 2000000 in
/-- errors.Is(x, b), x a struct that wraps the number y -/
theorem is_wraps (x y b : Int) (w : World) :
    Calls Try.prog 35 #[.iface 85 (.agg #[.int .i64 x, .int .i64 y]), .iface 37 (.int .i64 b)] w fun e w' => e = .returned (.bool (y == b)) ∧ w' = w.alloc (.cells #[.int .i64 x, .int .i64 y] 85) := by
  have h1 := @run_callFunc_extern Try.prog 38 _ ReflectliteType.typeOf Try.func38 (by kernel_rfl) (by kernel_rfl) (by kernel_rfl) (by kernel_rfl)
  have h2 := @run_callFunc_extern Try.prog 61 _ cmpSem Try.func61 (by kernel_rfl) (by kernel_rfl) (by kernel_rfl) (by kernel_rfl)
  have m1 := e_typeOfN
  have m2 := i_comparable
  have m3 := m_Comparable
  have m4 := i_mUnwrap
  have m5 := i_noIsS
  have m6 := i_hasUnS
  have m7 := i_noIsN
  have m8 := i_noUnN
  have m9 := i_noUnsN
  have hty := run_eql_iface_types (P := Try.prog) 85 37 (.agg #[.int .i64 x, .int .i64 y]) (.int .i64 b) Try.underlying75 (by decide) w
  have heq := i_eq (w.alloc (.cells #[.int .i64 x, .int .i64 y] 85)) y b
  obtain ⟨s, hs⟩ : ∃ s, (y == b) = s := ⟨_, rfl⟩
  rw [hs] at heq ⊢
  clear hs
  cases s
  all_goals
    go_enter Try.func35, Try.ntmps35
    go_wp2
    refine wp_loop_rounds 2 ?_
    rw [rounds_succ]
    go_wp2_with (first
      | (go_at_call 57; refine (unwrap_any x y _).mono ?_; rintro e w2 ⟨rfl, rfl⟩))
    rw [rounds_succ]
    go_wp2
    go_ret
    exact ⟨rfl, rfl⟩
end Go.Proofs.Ytefkjclkondmeaa
