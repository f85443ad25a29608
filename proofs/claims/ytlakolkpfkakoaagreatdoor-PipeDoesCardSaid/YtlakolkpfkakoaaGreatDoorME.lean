/- errors.As and errors.Is of an error that is a struct with a number in it: Go's own text, walked. -/
import Derived.Test.YtlakolkpfkakoaaGreatDoorMA
import Derived.LaidEql
import Derived.Stop.Asserts
import Derived.RowKitTokens
namespace Go.Proofs.YtlakolkpfkakoaaGreatDoor
open Go.RowKit Go.Extern.Stop Go.Stop Go.Extern

theorem m_Kind (h : Value) (w : World) : (Go.method 318 175 (.agg #[h]) "Kind").run Tryz.prog w = .ok (116, h) w := by kernel_rfl
theorem m_Elem (h : Value) (w : World) : (Go.method 318 175 (.agg #[h]) "Elem").run Tryz.prog w = .ok (130, .agg #[h]) w := by kernel_rfl
theorem m_Implements (h : Value) (w : World) : (Go.method 318 175 (.agg #[h]) "Implements").run Tryz.prog w = .ok (131, .agg #[h]) w := by kernel_rfl
theorem m_AssignableTo (h : Value) (w : World) : (Go.method 318 175 (.agg #[h]) "AssignableTo").run Tryz.prog w = .ok (128, .agg #[h]) w := by kernel_rfl
theorem m_Comparable (h : Value) (w : World) : (Go.method 318 175 (.agg #[h]) "Comparable").run Tryz.prog w = .ok (129, .agg #[h]) w := by kernel_rfl

theorem e_meth (z : Sem Value) (F : TypeId → Addr → Nat → Nat → Sem Value) (v : Value) :
    ReflectliteValue.method z F #[v] = (do match ← ReflectliteValue.parts v with | none => z | some (t, a, fl) => F t a fl (fl % 32)) := rfl
theorem e_setIs (v x : Value) : ReflectliteValue.set #[v, x] = (do
    let (some (dst, a, fl), some (src, b, _)) := (← ReflectliteValue.parts v, ← ReflectliteValue.parts x)
      | unsupported (.noEntry "extern/(internal/reflectlite.Value).Set.zeroValue")
    if fl / ReflectliteValue.flagAddr % 2 == 0 then unsupported (.noEntry "extern/(internal/reflectlite.Value).Set.unaddressable")
    let val ← loadVar src b
    if ← Rtype.directlyAssignable dst src then storeVar dst a val
    else if ← Rtype.implements dst src then
      if (← Rtype.kind src) == 20 then
        match val with
        | .nilIface => unsupported (.noEntry "extern/reflectlite: a nil value of one interface type handed on as a value of another")
        | _ => storeVar dst a val
      else storeVar dst a (.iface src val)
    else panicString ("reflectlite.Set: value of type " ++ (← Rtype.spelt src) ++ " is not assignable to type " ++ (← Rtype.spelt dst))
    pure (.tuple #[])) := rfl
theorem e_typeOfS (v : Value) (w : World) : (ReflectliteType.typeOf #[.iface 149 v]).run Tryz.prog w = .ok (.iface 175 (.agg #[.pointer (some ⟨2, 149, none⟩)])) w := by kernel_rfl
theorem e_valueOfTN (t : Addr) (w : World) : (ReflectliteValue.unpack (.iface 151 (.pointer (some t)))).run Tryz.prog w = .ok (.agg #[.pointer (some ⟨2, 151, none⟩), .pointer (some ⟨w.heap.size, 0, none⟩), .int .u64 150]) (w.alloc (.cells #[.pointer (some t)] 151)) := by kernel_rfl
theorem e_typeTN (a : Addr) (w : World) : (ReflectliteValue.methodAny (ReflectliteValue.valueError "reflectlite.Value.Type" 0) (fun t _ _ _ => ReflectliteType.toType t) #[.agg #[.pointer (some ⟨2, 151, none⟩), .pointer (some a), .int .u64 150]]).run Tryz.prog w = .ok (.iface 175 (.agg #[.pointer (some ⟨2, 151, none⟩)])) w := by kernel_rfl
theorem e_kindTN (w : World) : ((ReflectliteType.abiMethod fun t => (fun a : Nat => Value.int IntKind.u8 (a : Int)) <$> Rtype.kind t) #[.pointer (some ⟨2, 151, none⟩)]).run Tryz.prog w = .ok (.int .u8 22) w := by kernel_rfl
theorem e_kindN (w : World) : ((ReflectliteType.abiMethod fun t => (fun a : Nat => Value.int IntKind.u8 (a : Int)) <$> Rtype.kind t) #[.pointer (some ⟨2, 39, none⟩)]).run Tryz.prog w = .ok (.int .u8 2) w := by kernel_rfl
theorem e_elemTN (w : World) : (ReflectliteType.method ReflectliteType.elem #[.agg #[.pointer (some ⟨2, 151, none⟩)]]).run Tryz.prog w = .ok (.iface 175 (.agg #[.pointer (some ⟨2, 39, none⟩)])) w := by kernel_rfl
theorem e_implN (w : World) : (ReflectliteType.relation "Implements" ReflectliteType.implements_ #[.agg #[.pointer (some ⟨2, 39, none⟩)], .iface 175 (.agg #[.pointer (some ⟨2, 124, none⟩)])]).run Tryz.prog w = .ok (.bool true) w := by kernel_rfl
theorem e_typeOfN (v : Value) (w : World) : (ReflectliteType.typeOf #[.iface 39 v]).run Tryz.prog w = .ok (.iface 175 (.agg #[.pointer (some ⟨2, 39, none⟩)])) w := by kernel_rfl
theorem e_asgN (w : World) : (ReflectliteType.relation "AssignableTo" ReflectliteType.assignableTo #[.agg #[.pointer (some ⟨2, 39, none⟩)], .iface 175 (.agg #[.pointer (some ⟨2, 39, none⟩)])]).run Tryz.prog w = .ok (.bool true) w := by kernel_rfl
theorem e_valueOfN (y : Int) (w : World) : (ReflectliteValue.unpack (.iface 39 (.int .i64 y))).run Tryz.prog w = .ok (.agg #[.pointer (some ⟨2, 39, none⟩), .pointer (some ⟨w.heap.size, 0, none⟩), .int .u64 130]) (w.alloc (.cells #[.int .i64 y] 39)) := by kernel_rfl
theorem e_elemOfTN (w : World) : (Rtype.elem? 151).run Tryz.prog w = .ok (some 39) w := by kernel_rfl
theorem e_mkN (p : Addr) (w : World) : (ReflectliteValue.mk 39 p ReflectliteValue.flagAddr).run Tryz.prog w = .ok (.agg #[.pointer (some ⟨2, 39, none⟩), .pointer (some p), .int .u64 386]) w := by kernel_rfl
theorem e_partsTN (a : Addr) (w : World) : (ReflectliteValue.parts (.agg #[.pointer (some ⟨2, 151, none⟩), .pointer (some a), .int .u64 150])).run Tryz.prog w = .ok (some (151, a, 150)) w := by kernel_rfl
theorem e_partsAN (a : Addr) (w : World) : (ReflectliteValue.parts (.agg #[.pointer (some ⟨2, 39, none⟩), .pointer (some a), .int .u64 386])).run Tryz.prog w = .ok (some (39, a, 386)) w := by kernel_rfl
theorem e_partsN (a : Addr) (w : World) : (ReflectliteValue.parts (.agg #[.pointer (some ⟨2, 39, none⟩), .pointer (some a), .int .u64 130])).run Tryz.prog w = .ok (some (39, a, 130)) w := by kernel_rfl
theorem e_directN (w : World) : (Rtype.directlyAssignable 39 39).run Tryz.prog w = .ok true w := by kernel_rfl
theorem e_isNilN (a p : Addr) (W : World) (ha : W.cell? a = some (.pointer (some p))) :
    (ReflectliteValue.method (ReflectliteValue.valueError "reflectlite.Value.IsNil" 0) ReflectliteValue.isNil #[.agg #[.pointer (some ⟨2, 151, none⟩), .pointer (some a), .int .u64 150]]).run Tryz.prog W = .ok (.bool false) W := by
  rw [e_meth]
  simp only [Sem.run_bind, e_partsTN, Result.andThen]
  simp [ReflectliteValue.isNil, loadVar, isAgg, underlying, Tryz.underlying151, ha, Result.andThen]
theorem e_elemVN (a p : Addr) (W : World) (ha : W.cell? a = some (.pointer (some p))) :
    (ReflectliteValue.method (ReflectliteValue.valueError "reflectlite.Value.Elem" 0) ReflectliteValue.elem #[.agg #[.pointer (some ⟨2, 151, none⟩), .pointer (some a), .int .u64 150]]).run Tryz.prog W = .ok (.agg #[.pointer (some ⟨2, 39, none⟩), .pointer (some p), .int .u64 386]) W := by
  rw [e_meth]
  simp only [Sem.run_bind, e_partsTN, Result.andThen]
  simp [ReflectliteValue.elem, loadVar, isAgg, underlying, Tryz.underlying151, ha, Result.andThen, e_elemOfTN, e_mkN]

theorem e_asgSN (w : World) : (ReflectliteType.relation "AssignableTo" ReflectliteType.assignableTo #[.agg #[.pointer (some ⟨2, 149, none⟩)], .iface 175 (.agg #[.pointer (some ⟨2, 39, none⟩)])]).run Tryz.prog w = .ok (.bool false) w := by kernel_rfl
theorem e_setN (ta b : Addr) (y : Int) (old : Value) (W : World) (hb : W.cell? b = some (.int .i64 y)) (ht : W.cell? ta = some old) (hf : W.frozen? ta = false) :
    (ReflectliteValue.set #[.agg #[.pointer (some ⟨2, 39, none⟩), .pointer (some ta), .int .u64 386], .agg #[.pointer (some ⟨2, 39, none⟩), .pointer (some b), .int .u64 130]]).run Tryz.prog W = .ok (.tuple #[]) (W.setCell ta (.int .i64 y)) := by
  rw [e_setIs]
  simp only [Sem.run_bind, e_partsAN, e_partsN, Result.andThen]
  simp [ReflectliteValue.flagAddr, loadVar, isAgg, underlying, Tryz.underlying39, hb, Result.andThen, e_directN, storeVar, Value.cells, storeCells, Addr.add]
  rw [run_store Tryz.prog W ta _ _ (by rfl)]
  simp [ht, hf]
theorem i_noAsS (v : Value) (xT : TypeId) (w : World) : (Instr.typeAssert (.iface 149 v) xT 179 true).run Tryz.prog w = .ok (.tuple #[.nilIface, .bool false]) w := run_typeAssert_lacksB Tryz.underlying179 (by kernel_rfl) (by kernel_rfl) v xT w
theorem i_noIsS (v : Value) (xT : TypeId) (w : World) : (Instr.typeAssert (.iface 149 v) xT 188 true).run Tryz.prog w = .ok (.tuple #[.nilIface, .bool false]) w := run_typeAssert_lacksB Tryz.underlying188 (by kernel_rfl) (by kernel_rfl) v xT w
theorem i_noIsN (v : Value) (xT : TypeId) (w : World) : (Instr.typeAssert (.iface 39 v) xT 188 true).run Tryz.prog w = .ok (.tuple #[.nilIface, .bool false]) w := run_typeAssert_lacksB Tryz.underlying188 (by kernel_rfl) (by kernel_rfl) v xT w
theorem i_hasUnS (v : Value) (xT : TypeId) (w : World) : (Instr.typeAssert (.iface 149 v) xT 182 true).run Tryz.prog w = .ok (.tuple #[.iface 149 v, .bool true]) w := run_typeAssert_hasB Tryz.underlying182 (by kernel_rfl) v xT w
theorem i_noUnN (v : Value) (xT : TypeId) (w : World) : (Instr.typeAssert (.iface 39 v) xT 182 true).run Tryz.prog w = .ok (.tuple #[.nilIface, .bool false]) w := run_typeAssert_lacksB Tryz.underlying182 (by kernel_rfl) (by kernel_rfl) v xT w
theorem i_noUnsN (v : Value) (xT : TypeId) (w : World) : (Instr.typeAssert (.iface 39 v) xT 184 true).run Tryz.prog w = .ok (.tuple #[.nilIface, .bool false]) w := run_typeAssert_lacksB Tryz.underlying184 (by kernel_rfl) (by kernel_rfl) v xT w
theorem i_mUnwrap (x y : Int) (w : World) : (Go.method 318 149 (.agg #[.int .i64 x, .int .i64 y]) "Unwrap").run Tryz.prog w = .ok (123, .agg #[.int .i64 x, .int .i64 y]) w := by kernel_rfl

theorem unwrap_any (x y : Int) (w : World) : Calls Tryz.prog 123 #[.agg #[.int .i64 x, .int .i64 y]] w fun ev w' => ev = .returned (.iface 39 (.int .i64 y)) ∧ w' = w.alloc (.cells #[.int .i64 x, .int .i64 y] 149) := by
  go_enter Tryz.func123, Tryz.ntmps123
  go_wp2
  go_ret
  exact ⟨rfl, rfl⟩

theorem i_eqIn (w : World) (d : Nat) (a b : Int) (i : TypeInfo) (hinfo : Tryz.prog.info? 39 = some i) (hcomp : i.comparable = true) :
    (Op.equalIn (d + 2) 124 (.iface 39 (.int .i64 a)) (.iface 39 (.int .i64 b))).run Tryz.prog w = .ok (a == b) w := by
  simp [Op.equalIn, run_underlying Tryz.underlying124, run_underlying Tryz.underlying39, typeInfo, hinfo, hcomp]
theorem i_comp : (Tryz.prog.info? 39).map (·.comparable) = some true := by kernel_rfl
theorem i_eq (w : World) (a b : Int) : (binOp .eql 124 (.iface 39 (.int .i64 a)) (.iface 39 (.int .i64 b))).run Tryz.prog w = .ok (.bool (a == b)) w := by
  obtain ⟨i, hi, hc⟩ := Option.map_eq_some_iff.1 i_comp
  simp only [binOp]
  simp [Op.equal, Op.maxDepth, i_eqIn w 9998 a b i hi hc]
def cmpSem : Array Value → Sem Value := ReflectliteType.method fun t => do Rtype.noPackHeld "Comparable" t; pure (.bool (← typeInfo t).comparable)
theorem i_comparable (w : World) : (cmpSem #[.agg #[.pointer (some ⟨2, 39, none⟩)]]).run Tryz.prog w = .ok (.bool true) w := by kernel_rfl

theorem is_nil (b : Int) (w : World) : Calls Tryz.prog 91 #[.nilIface, .iface 39 (.int .i64 b)] w fun e w' => e = .returned (.bool false) ∧ w = w' := by
  have hty := run_eql_iface_nil_left (P := Tryz.prog) (w := w) 39 (.int .i64 b) Tryz.underlying124
  go_enter Tryz.func91, Tryz.ntmps91
  go_wp2
  go_ret
  exact ⟨rfl, rfl⟩

set_option maxHeartbeats 2000000 in
theorem is_wraps (x y b : Int) (w : World) :
    Calls Tryz.prog 91 #[.iface 149 (.agg #[.int .i64 x, .int .i64 y]), .iface 39 (.int .i64 b)] w fun e w' => e = .returned (.bool (y == b)) ∧ w' = w.alloc (.cells #[.int .i64 x, .int .i64 y] 149) := by
  have h1 := @run_callFunc_extern Tryz.prog 98 _ ReflectliteType.typeOf Tryz.func98 (by kernel_rfl) (by kernel_rfl) (by kernel_rfl) (by kernel_rfl)
  have h2 := @run_callFunc_extern Tryz.prog 129 _ cmpSem Tryz.func129 (by kernel_rfl) (by kernel_rfl) (by kernel_rfl) (by kernel_rfl)
  have m1 := e_typeOfN
  have m2 := i_comparable
  have m3 := m_Comparable
  have m4 := i_mUnwrap
  have m5 := i_noIsS
  have m6 := i_hasUnS
  have m7 := i_noIsN
  have m8 := i_noUnN
  have m9 := i_noUnsN
  have hty := run_eql_iface_types (P := Tryz.prog) 149 39 (.agg #[.int .i64 x, .int .i64 y]) (.int .i64 b) Tryz.underlying124 (by decide) w
  have heq := i_eq (w.alloc (.cells #[.int .i64 x, .int .i64 y] 149)) y b
  obtain ⟨s, hs⟩ : ∃ s, (y == b) = s := ⟨_, rfl⟩
  rw [hs] at heq ⊢
  clear hs
  cases s
  all_goals
    go_enter Tryz.func91, Tryz.ntmps91
    go_wp2
    refine wp_loop_rounds 2 ?_
    rw [rounds_succ]
    go_wp2_with (first
      | (go_at_call 123; refine (unwrap_any x y _).mono ?_; rintro e w2 ⟨rfl, rfl⟩))
    rw [rounds_succ]
    go_wp2
    go_ret
    exact ⟨rfl, rfl⟩

set_option maxHeartbeats 4000000 in
theorem as_chain (g : Nat) (x y : Int) (o0 : Value) (w : World) (hg : w.cell? ⟨0, 0, none⟩ = some (.iface 175 (.agg #[.pointer (some ⟨2, 124, none⟩)]))) (hg0 : 0 < w.heap.size) (ht0 : w.cell? ⟨g, 0, none⟩ = some o0) (hf0 : w.frozen? ⟨g, 0, none⟩ = false) :
    Calls Tryz.prog 86 #[.iface 149 (.agg #[.int .i64 x, .int .i64 y]), .iface 151 (.pointer (some ⟨g, 0, none⟩))] w fun ev w' => ev = .returned (.bool true) ∧ w' = ((((((w.alloc (.cells #[.pointer (some ⟨g, 0, none⟩)] 151)).alloc (.cells #[.pointer (some ⟨2, 151, none⟩), .pointer (some ⟨w.heap.size, 0, none⟩), .int .u64 150] 162)).alloc (.cells #[.pointer (some ⟨2, 151, none⟩), .pointer (some ⟨w.heap.size, 0, none⟩), .int .u64 150] 162)).alloc (.cells #[.int .i64 x, .int .i64 y] 149)).alloc (.cells #[.int .i64 y] 39))).setCell ⟨g, 0, none⟩ (.int .i64 y) := by
  have h1 := @run_callFunc_extern Tryz.prog 93 _ (fun args => ReflectliteValue.unpack (args.getD 0 (.tuple #[]))) Tryz.func93 (by kernel_rfl) (by kernel_rfl) (by kernel_rfl) (by kernel_rfl)
  have h2 := @run_callFunc_extern Tryz.prog 94 _ (ReflectliteValue.methodAny (ReflectliteValue.valueError "reflectlite.Value.Type" 0) (fun t _ _ _ => ReflectliteType.toType t)) Tryz.func94 (by kernel_rfl) (by kernel_rfl) (by kernel_rfl) (by kernel_rfl)
  have h3 := @run_callFunc_extern Tryz.prog 95 _ (ReflectliteValue.method (ReflectliteValue.valueError "reflectlite.Value.IsNil" 0) ReflectliteValue.isNil) Tryz.func95 (by kernel_rfl) (by kernel_rfl) (by kernel_rfl) (by kernel_rfl)
  have h4 := @run_callFunc_extern Tryz.prog 116 _ (ReflectliteType.abiMethod fun t => do pure (.int .u8 (← Rtype.kind t))) Tryz.func116 (by kernel_rfl) (by kernel_rfl) (by kernel_rfl) (by kernel_rfl)
  have h5 := @run_callFunc_extern Tryz.prog 130 _ (ReflectliteType.method ReflectliteType.elem) Tryz.func130 (by kernel_rfl) (by kernel_rfl) (by kernel_rfl) (by kernel_rfl)
  have h6 := @run_callFunc_extern Tryz.prog 131 _ (ReflectliteType.relation "Implements" ReflectliteType.implements_) Tryz.func131 (by kernel_rfl) (by kernel_rfl) (by kernel_rfl) (by kernel_rfl)
  have h7 := @run_callFunc_extern Tryz.prog 98 _ (ReflectliteType.typeOf) Tryz.func98 (by kernel_rfl) (by kernel_rfl) (by kernel_rfl) (by kernel_rfl)
  have h8 := @run_callFunc_extern Tryz.prog 128 _ (ReflectliteType.relation "AssignableTo" ReflectliteType.assignableTo) Tryz.func128 (by kernel_rfl) (by kernel_rfl) (by kernel_rfl) (by kernel_rfl)
  have h9 := @run_callFunc_extern Tryz.prog 100 _ (ReflectliteValue.method (ReflectliteValue.valueError "reflectlite.Value.Elem" 0) ReflectliteValue.elem) Tryz.func100 (by kernel_rfl) (by kernel_rfl) (by kernel_rfl) (by kernel_rfl)
  have h10 := @run_callFunc_extern Tryz.prog 101 _ (ReflectliteValue.set) Tryz.func101 (by kernel_rfl) (by kernel_rfl) (by kernel_rfl) (by kernel_rfl)
  have m0 := e_typeOfS
  have m1 := e_typeOfN
  have m2 := m_AssignableTo
  have m3 := e_asgN
  have m4 := e_asgSN
  have m5 := e_valueOfN
  have m6 := e_valueOfTN
  have m7 := e_typeTN
  have m8 := m_Kind
  have m9 := m_Elem
  have m10 := m_Implements
  have m11 := e_kindTN
  have m12 := e_kindN
  have m13 := e_elemTN
  have m14 := e_implN
  have m15 := i_noAsS
  have m16 := i_hasUnS
  have m17 := i_mUnwrap
  have n8 := e_isNilN ⟨w.heap.size, 0, none⟩ ⟨g, 0, none⟩ ((w.alloc (.cells #[.pointer (some ⟨g, 0, none⟩)] 151)).alloc (.cells #[.pointer (some ⟨2, 151, none⟩), .pointer (some ⟨w.heap.size, 0, none⟩), .int .u64 150] 162)) (by simp)
  have hg2 : ((w.alloc (.cells #[.pointer (some ⟨g, 0, none⟩)] 151)).alloc (.cells #[.pointer (some ⟨2, 151, none⟩), .pointer (some ⟨w.heap.size, 0, none⟩), .int .u64 150] 162)).cell? ⟨0, 0, none⟩ = some (.iface 175 (.agg #[.pointer (some ⟨2, 124, none⟩)])) := by
    rw [World.cell?_alloc_lt _ _ ⟨0, 0, none⟩ (by first | (simp; done) | (simp; omega)), World.cell?_alloc_lt _ _ ⟨0, 0, none⟩ hg0]; exact hg
  have htl : g < w.heap.size := by
    rcases Nat.lt_or_ge g w.heap.size with h | h
    · exact h
    · simp [World.cell?, Array.getElem?_eq_none h] at ht0
  have el := e_elemVN ⟨w.heap.size, 0, none⟩ ⟨g, 0, none⟩ ((((w.alloc (.cells #[.pointer (some ⟨g, 0, none⟩)] 151)).alloc (.cells #[.pointer (some ⟨2, 151, none⟩), .pointer (some ⟨w.heap.size, 0, none⟩), .int .u64 150] 162)).alloc (.cells #[.pointer (some ⟨2, 151, none⟩), .pointer (some ⟨w.heap.size, 0, none⟩), .int .u64 150] 162)).alloc (.cells #[.int .i64 x, .int .i64 y] 149)) (by rw [World.cell?_alloc_lt _ _ ⟨w.heap.size, 0, none⟩ (by simp; omega), World.cell?_alloc_lt _ _ ⟨w.heap.size, 0, none⟩ (by simp; omega)]; simp)
  have st := e_setN ⟨g, 0, none⟩ ⟨w.heap.size + 1 + 1 + 1 + 1, 0, none⟩ y o0 (((((w.alloc (.cells #[.pointer (some ⟨g, 0, none⟩)] 151)).alloc (.cells #[.pointer (some ⟨2, 151, none⟩), .pointer (some ⟨w.heap.size, 0, none⟩), .int .u64 150] 162)).alloc (.cells #[.pointer (some ⟨2, 151, none⟩), .pointer (some ⟨w.heap.size, 0, none⟩), .int .u64 150] 162)).alloc (.cells #[.int .i64 x, .int .i64 y] 149)).alloc (.cells #[.int .i64 y] 39))
    (by rw [World.cell?_alloc_at _ _ _ _ (by simp)]; rfl)
    (by rw [World.cell?_alloc_lt _ _ ⟨g, 0, none⟩ (by simp; omega), World.cell?_alloc_lt _ _ ⟨g, 0, none⟩ (by simp; omega), World.cell?_alloc_lt _ _ ⟨g, 0, none⟩ (by simp; omega), World.cell?_alloc_lt _ _ ⟨g, 0, none⟩ (by simp; omega), World.cell?_alloc_lt _ _ ⟨g, 0, none⟩ htl]; exact ht0)
    (by rw [World.frozen?_alloc_old _ _ ⟨g, 0, none⟩ (by simp; omega), World.frozen?_alloc_old _ _ ⟨g, 0, none⟩ (by simp; omega), World.frozen?_alloc_old _ _ ⟨g, 0, none⟩ (by simp; omega), World.frozen?_alloc_old _ _ ⟨g, 0, none⟩ (by simp; omega), World.frozen?_alloc_old _ _ ⟨g, 0, none⟩ (Nat.ne_of_lt htl)]; exact hf0)
  go_enter Tryz.func86, Tryz.ntmps86
  go_wp2
  refine wp_loop_rounds 2 ?_
  rw [rounds_succ]
  go_wp2_with (first
    | (go_at_call 123; refine (unwrap_any x y _).mono ?_; rintro e w2 ⟨rfl, rfl⟩))
  rw [rounds_succ]
  go_wp2
  go_ret
  exact ⟨rfl, rfl⟩
end Go.Proofs.YtlakolkpfkakoaaGreatDoor
