/- A map's keys that are two numbers, and its elements, pointers, as numbers of blocks. -/
import Derived.Test.YtjnnfnmapigagaaNR
import Derived.Maps.RangeWalk
import Derived.Maps.OwnSet
import Derived.DeepKeys4
import Derived.Laws.StructEq
namespace Go.Proofs.Ytjnnfnmapigagaa
open Go.RowKit Go.Maps

theorem laid : laidOutB Try.prog = true := by kernel_rfl
theorem wideK : (match Try.prog.underlying 59 with | some (.array _ _) | some (.struct _) => true | _ => false) = true := by kernel_rfl
theorem kw : Keyed Try.prog 59 := Keyed.of_law (deep_law_laid laid (m := 3) (by omega) (of_decide_eq_true (by kernel_rfl)) (by kernel_rfl) wideK)

def key (a b : Int) : Value := .agg #[.int .i64 a, .int .i64 b]
def klit (a b : Int) : Lit := .string (keyBytes [.int .i64 a, .int .i64 b])
def In64 (a : Int) : Prop := -9223372036854775808 ≤ a ∧ a ≤ 9223372036854775807
theorem wf_of {a : Int} (h : In64 a) : (Lit.int .i64 a).wf = true := by
  unfold In64 at h
  simpa [Lit.wf, IntKind.min, IntKind.max, IntKind.signed, IntKind.bits] using h
theorem in_of {a : Int} (h : (Lit.int .i64 a).wf = true) : In64 a := by
  unfold In64
  simpa [ Lit.wf, IntKind.min, IntKind.max, IntKind.signed, IntKind.bits] using h

theorem cellsK : Try.prog.cellsOf 59 = 2 := by kernel_rfl
theorem cellsI : Try.prog.cellsOf 3 = 1 := by kernel_rfl
theorem typeK : Try.prog.keyType 59 = true := by kernel_rfl
theorem sizeT : ∃ d, Try.prog.types.size + 1 = d + 2 := ⟨Try.prog.types.size - 1, by have : 1 ≤ Try.prog.types.size := of_decide_eq_true (by kernel_rfl); omega⟩
theorem key_of {a b : Int} (ha : In64 a) (hb : In64 b) : keyOf Try.prog 59 (key a b) = some (klit a b) := by
  obtain ⟨d, hd⟩ := sizeT
  unfold keyOf klit key
  rw [Try.underlying59]
  dsimp only
  rw [typeK, hd]
  simp [Value.formed, Try.underlying59, cellsK, Value.cells, Program.keyLits, cellsI, Try.underlying3, wf_of ha, wf_of hb]
theorem lit_inv {d : Nat} {c : Value} {l : List Lit} (h : Program.keyLits Try.prog (d + 1) 3 [c] = some l) : ∃ a, c = .int .i64 a ∧ In64 a ∧ l = [.int .i64 a] := by
  unfold Program.keyLits at h
  rw [Try.underlying3] at h
  cases c <;> simp at h
  obtain ⟨⟨rfl, hw⟩, rfl⟩ := h
  exact ⟨_, rfl, in_of hw, rfl⟩
theorem key_inv {v : Value} {l : Lit} (h : keyOf Try.prog 59 v = some l) : ∃ a b, v = key a b ∧ In64 a ∧ In64 b ∧ l = klit a b := by
  obtain ⟨d, hd⟩ := sizeT
  unfold keyOf at h
  rw [Try.underlying59] at h
  dsimp only at h
  rw [typeK, hd] at h
  cases v <;> simp [Value.formed, Try.underlying59, cellsK] at h
  rename_i cs
  obtain ⟨hs, ls, hl, hk⟩ := h
  obtain ⟨cs⟩ := cs
  match cs, hs with
  | [c0, c1], _ =>
    unfold Program.keyLits at hl
    rw [Try.underlying59] at hl
    simp [cellsK, Value.cells, cellsI] at hl
    cases h0 : Program.keyLits Try.prog (d + 1) 3 [c0] with
    | none => rw [h0] at hl; simp at hl
    | some l0 =>
      cases h1 : Program.keyLits Try.prog (d + 1) 3 [c1] with
      | none => rw [h0, h1] at hl; simp at hl
      | some l1 =>
        obtain ⟨a, rfl, ha, rfl⟩ := lit_inv h0
        obtain ⟨b, rfl, hb, rfl⟩ := lit_inv h1
        rw [h0, h1] at hl
        simp at hl
        exact ⟨a, b, rfl, ha, hb, by rw [← hk, ← hl]; rfl⟩
theorem klit_ne {a b x y : Int} (ha : In64 a) (hb : In64 b) (hx : In64 x) (hy : In64 y) (h : ¬ (a = x ∧ b = y)) : klit a b ≠ klit x y := fun e => by
  have := kw.inj (key_of ha hb) (e ▸ key_of hx hy)
  unfold key at this
  simp at this
  exact h this
theorem klit_key (a b : Int) : WideAt.IsKeyLit (klit a b) := trivial

/-- a pointer to a block, as its number -/
def rb : Value → Option (DataW Unit × List MemPlace)
  | .pointer (some ⟨b, 0, none⟩) => some (.lit (.int .i64 (b : Int)), [])
  | _ => none
theorem rb_inv {v : Value} {y : DataW Unit × List MemPlace} (h : rb v = some y) : ∃ b : Nat, v = .pointer (some ⟨b, 0, none⟩) ∧ y = (.lit (.int .i64 (b : Int)), []) := by
  unfold rb at h
  split at h
  · exact ⟨_, rfl, (Option.some.inj h).symm⟩
  · cases h

section
variable {w : World}
theorem check_int (em : Bool) (d : Nat) (a : Int) : (Instr.checkKey em (d + 1) 3 (.int .i64 a)).run Try.prog w = .ok () w := by
  unfold Instr.checkKey
  simp [run_underlying Try.underlying3]
/-- whichever numbers a key has: what is asked of it is run -/
theorem check_key (em : Bool) (a b : Int) : (Instr.checkKey em 10000 59 (key a b)).run Try.prog w = .ok () w := by
  unfold key
  rw [show (10000 : Nat) = 9998 + 1 + 1 from rfl]
  unfold Instr.checkKey
  simp [run_underlying Try.underlying59]
  rw [run_part_plain w (P := Try.prog) (e := 3) (v := .int .i64 a) (by kernel_rfl) rfl]
  simp only [Result.andThen_ok]
  rw [check_int]
  simp only [Result.andThen_ok]
  rw [run_part_plain w (P := Try.prog) (e := 3) (v := .int .i64 b) (by kernel_rfl) rfl]
  simp only [Result.andThen_ok]
  rw [check_int]
theorem equal_key (a b x y : Int) : (Op.equal 59 (key a b) (key x y)).run Try.prog w = .ok (decide (a = x ∧ b = y)) w := by
  unfold Op.equal key
  rw [show Op.maxDepth = 9998 + 1 + 1 from rfl, run_equalIn_agg _ _ _ _ _ (by rw [Try.underlying59]; kernel_rfl) (by kernel_rfl)]
  unfold Program.fieldsOf
  rw [Try.underlying59]
  simp [Op.eqFields]
  have hp : ∀ (X Y : Value) (k : Nat) (c : Value), #[X, Y][k]? = some c → (part 3 #[X, Y] k).run Try.prog w = .ok c w := fun X Y k c hc => run_part_plain w (by kernel_rfl) hc
  rw [hp _ _ 0 (.int .i64 a) rfl]
  simp only [Result.andThen_ok]
  rw [hp _ _ 0 (.int .i64 x) rfl]
  simp only [Result.andThen_ok]
  rw [run_equalIn_int w 9998 3 .i64 .i64 a x Try.underlying3]
  simp only [Result.andThen_ok]
  by_cases h : a = x
  · subst h
    rw [if_neg (by simp), hp _ _ 1 (.int .i64 b) rfl]
    simp only [Result.andThen_ok]
    rw [hp _ _ 1 (.int .i64 y) rfl]
    simp only [Result.andThen_ok]
    rw [run_equalIn_int w 9998 3 .i64 .i64 b y Try.underlying3]
    simp only [Result.andThen_ok]
    by_cases h2 : b = y <;> simp [h2]
  · rw [if_pos (by simp [h])]
    simp [h]
theorem asking_none (a b : Int) : ∀ (es : List MapEntry) (i : Nat), (∀ e ∈ es, ∃ x y, e.key = key x y ∧ ¬ (a = x ∧ b = y)) → (Instr.findAsking 59 (key a b) es i).run Try.prog w = .ok none w
  | [], i, _ => by simp [Instr.findAsking]
  | e :: es, i, h => by
    obtain ⟨x, y, hk, hn⟩ := h e (List.mem_cons_self ..)
    unfold Instr.findAsking
    rw [hk]
    simp only [Sem.run_bind]
    rw [equal_key, decide_eq_false hn]
    simp only [Result.andThen_ok, Bool.false_eq_true, if_false]
    exact asking_none a b es (i + 1) (fun e he => h e (List.mem_cons_of_mem _ he))

theorem zeroP : (zeroValue 55).run Try.prog w = .ok (.pointer none) w := Try.zeroValue55 w
theorem look_way {m n : Nat} {D : DataW Unit} (h : w.ownsMap Try.prog 59 rb m n D) (a b : Int) :
    (∃ g : Nat, (Instr.lookup 54 (.map (some m)) (key a b) true).run Try.prog w = .ok (.tuple #[.pointer (some ⟨g, 0, none⟩), .bool true]) w ∧ In64 a ∧ In64 b ∧ ∀ zd, D.atKey (klit a b) zd = .lit (.int .i64 (g : Int))) ∨
    ((Instr.lookup 54 (.map (some m)) (key a b) true).run Try.prog w = .ok (.tuple #[.pointer none, .bool false]) w ∧ (In64 a → In64 b → ∀ zd, D.atKey (klit a b) zd = zd)) := by
  obtain ⟨es, clock, hb, F, _, rfl⟩ := h
  by_cases hin : In64 a ∧ In64 b
  · rcases Maps.fit_look true kw Try.underlying54 zeroP hb F (key_of hin.1 hin.2) with ⟨hrun, _, hat⟩ | ⟨e0, y, _, _, hrun, hRv, hat, _⟩
    · exact .inr ⟨by simpa using hrun, fun _ _ => hat⟩
    · obtain ⟨g, hg, rfl⟩ := rb_inv hRv
      rw [hg] at hrun
      exact .inl ⟨g, by simpa using hrun, hin.1, hin.2, hat⟩
  · refine .inr ⟨?_, fun ha hb => absurd ⟨ha, hb⟩ hin⟩
    have hne : ∀ e ∈ es.toList, ∃ x y, e.key = key x y ∧ ¬ (a = x ∧ b = y) := fun e he => by
      obtain ⟨l, hl⟩ := F.keys e he
      obtain ⟨x, y, hk, hx, hy, _⟩ := key_inv hl
      exact ⟨x, y, hk, fun e => hin (by rw [e.1, e.2]; exact ⟨hx, hy⟩)⟩
    have hf : (Instr.findKey 59 (key a b) es.toList).run Try.prog w = .ok none w := (run_findKey_eq (w := w) wideK _ _).trans (asking_none a b _ _ hne)
    simp [Instr.lookup, run_underlying Try.underlying54, MapKept.run_getObj_map hb, check_key, hf, Result.andThen]
end
end Go.Proofs.Ytjnnfnmapigagaa
