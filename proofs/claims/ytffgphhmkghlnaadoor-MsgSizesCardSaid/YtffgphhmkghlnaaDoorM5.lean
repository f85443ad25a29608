/- Messages: when two are the same; what the chapter's example fixes. -/
import Derived.Test.YtffgphhmkghlnaaDoorMP5
import Derived.Laws.StructEq
namespace Go.Proofs.YtffgphhmkghlnaaDoor
open Go.RowKit

theorem eq_m (f g : Mg) (s : Bool) (hs : decide (f = g) = s) :
    (∀ w : World, (binOp .eql 24 (.agg #[.int .i64 f.k, .int .i64 f.e, .int .i64 f.n]) (.agg #[.int .i64 g.k, .int .i64 g.e, .int .i64 g.n])).run Tryd.prog w = .ok (.bool s) w) ∧
    ∀ (a b : Operand) (w : World), (eqGuard .eql 24 a b (.agg #[.int .i64 f.k, .int .i64 f.e, .int .i64 f.n]) (.agg #[.int .i64 g.k, .int .i64 g.e, .int .i64 g.n])).run Tryd.prog w = .ok () w := by
  obtain ⟨fk, fe, fn⟩ := f
  obtain ⟨gk, ge, gn⟩ := g
  refine ⟨fun w => ?_, fun a b w => run_eqGuard_agg w _ _ a b _ _ (by kernel_rfl)⟩
  have u3 := Tryd.underlying3
  have a3 := Tryd.isAgg3
  have z3 := Tryd.sizeOf3
  have u6 := Tryd.underlying22
  have a6 := Tryd.isAgg22
  have z6 := Tryd.sizeOf22
  have hS : Tryd.prog.underlying 24 = some (.struct (Tryd.prog.fieldsOf 24)) := by kernel_rfl
  have hp : Tryd.prog.stoodInHeld 24 = false := by kernel_rfl
  rw [run_eql_struct, show (10000 : Nat) = 9999 + 1 from rfl, run_equalIn_agg w 9999 24 _ _ hS hp]
  simp only [Program.fieldsOf, Tryd.underlying24]
  go_simp
  subst hs
  by_cases h0 : fk = gk <;> by_cases h1 : fe = ge <;> by_cases h2 : fn = gn <;> simp [h0, h1, h2]

theorem neq_m (f g : Mg) (s : Bool) (hs : decide (f = g) = s) :
    (∀ w : World, (binOp .neq 24 (.agg #[.int .i64 f.k, .int .i64 f.e, .int .i64 f.n]) (.agg #[.int .i64 g.k, .int .i64 g.e, .int .i64 g.n])).run Tryd.prog w = .ok (.bool (!s)) w) ∧
    ∀ (a b : Operand) (w : World), (eqGuard .neq 24 a b (.agg #[.int .i64 f.k, .int .i64 f.e, .int .i64 f.n]) (.agg #[.int .i64 g.k, .int .i64 g.e, .int .i64 g.n])).run Tryd.prog w = .ok () w := by
  obtain ⟨fk, fe, fn⟩ := f
  obtain ⟨gk, ge, gn⟩ := g
  refine ⟨fun w => ?_, fun a b w => run_eqGuard_agg w _ _ a b _ _ (by kernel_rfl)⟩
  have u3 := Tryd.underlying3
  have a3 := Tryd.isAgg3
  have z3 := Tryd.sizeOf3
  have u6 := Tryd.underlying22
  have a6 := Tryd.isAgg22
  have z6 := Tryd.sizeOf22
  have hS : Tryd.prog.underlying 24 = some (.struct (Tryd.prog.fieldsOf 24)) := by kernel_rfl
  have hp : Tryd.prog.stoodInHeld 24 = false := by kernel_rfl
  rw [run_neq_struct, show (10000 : Nat) = 9999 + 1 from rfl, run_equalIn_agg w 9999 24 _ _ hS hp]
  simp only [Program.fieldsOf, Tryd.underlying24]
  go_simp
  subst hs
  by_cases h0 : fk = gk <;> by_cases h1 : fe = ge <;> by_cases h2 : fn = gn <;> simp [h0, h1, h2]

def exM : Mg := ⟨4, 2, 0⟩
theorem exM_right : rightM exM = true := by decide
theorem exM_put : putF exM = ⟨#[4, 0, 2]⟩ := by unfold putF; rw [if_pos exM_right]; rfl
theorem exM_putE : putE exM = 0 := by unfold putE; rw [if_pos exM_right]
theorem exM_got : gotM ⟨#[4, 0, 2]⟩ = true ∧ getM ⟨#[4, 0, 2]⟩ = exM := by
  have := putM_got exM_right
  have e : putMs exM = ⟨#[4, 0, 2]⟩ := rfl
  rwa [e] at this
theorem none_got : gotM ⟨#[]⟩ = false := by decide
theorem exM_show : showS exM = ⟨#[97, 115, 107, 64, 50]⟩ := by
  have h : Lib.itoa 2 = [50] := by rw [itoa_pos (by decide)]; exact dec_small (by decide)
  have h2 : itoaS 2 = ⟨#[50]⟩ := by unfold itoaS; rw [h]
  unfold showS
  rw [if_neg (by decide)]
  show nameS 4 ++ ⟨#[64]⟩ ++ itoaS 2 = _
  rw [h2]
  rfl

set_option maxRecDepth 100000 in
set_option maxHeartbeats 1600000 in
theorem awake_any (w : World) (hw : Std w) :
    Calls Tryd.prog 8 #[] w fun e w' => e = .returned (.bool true) ∧ Ext w w' := by
  have HT : Hid (∀ W, Ext w W → Std W) := Lib.hid fun W x => hw.ext x
  clear hw
  have cP := Lib.hid (show ∀ W, Calls Tryd.prog 9 #[.agg #[.int .i64 4, .int .i64 2, .int .i64 0]] W fun ev w' => ev = .returned (.tuple #[.string ⟨#[4, 0, 2]⟩, .int .i64 0]) ∧ Ext W w' from fun W => by
    have := put_any W exM
    rwa [exM_put, exM_putE] at this)
  have cG := Lib.hid (show ∀ W, Calls Tryd.prog 17 #[.string ⟨#[4, 0, 2]⟩] W fun ev w' => ev = .returned (.tuple #[.agg #[.int .i64 4, .int .i64 2, .int .i64 0], .int .i64 0]) ∧ Ext W w' from fun W => by
    have := get_any W ⟨#[4, 0, 2]⟩ (by decide)
    have e : getE ⟨#[4, 0, 2]⟩ = 0 := by unfold getE; rw [if_pos exM_got.1]
    rwa [exM_got.2, e] at this)
  have cG0 := Lib.hid (show ∀ W, Calls Tryd.prog 17 #[.string ⟨#[]⟩] W fun ev w' => ev = .returned (.tuple #[.agg #[.int .i64 0, .int .i64 0, .int .i64 0], .int .i64 71]) ∧ Ext W w' from fun W => by
    have := get_any W ⟨#[]⟩ (by decide)
    have e : getE ⟨#[]⟩ = 71 := by unfold getE; rw [if_neg (by rw [none_got]; decide)]
    rwa [not_got none_got, e] at this)
  have cS := Lib.hid (show ∀ W, Std W → Calls Tryd.prog 12 #[.agg #[.int .i64 4, .int .i64 2, .int .i64 0]] W fun ev w' => ev = .returned (.string ⟨#[97, 115, 107, 64, 50]⟩) ∧ Ext W w' from fun W h => by
    have := show_any W h exM ⟨by decide, by decide, by decide⟩
    rwa [exM_show] at this)
  have cN := Lib.hid (show ∀ W, Calls Tryd.prog 14 #[.int .i64 0] W fun ev w' => ev = .returned (.string ⟨#[63]⟩) ∧ Ext W w' from fun W => gives_same (name_none W 0 (by omega)))
  have cR := Lib.hid (show ∀ W, Calls Tryd.prog 10 #[.agg #[.int .i64 4, .int .i64 2, .int .i64 0]] W fun ev w' => ev = .returned (.bool true) ∧ Ext W w' from fun W => right_any W exM)
  have cR0 := Lib.hid (show ∀ W, Calls Tryd.prog 10 #[.agg #[.int .i64 0, .int .i64 0, .int .i64 0]] W fun ev w' => ev = .returned (.bool false) ∧ Ext W w' from fun W => right_any W ⟨0, 0, 0⟩)
  have HQ := Lib.hid (show ∀ w : World, (binOp .eql 24 (.agg #[.int .i64 4, .int .i64 2, .int .i64 0]) (.agg #[.int .i64 4, .int .i64 2, .int .i64 0])).run Tryd.prog w = .ok (.bool true) w from (eq_m exM exM true (by simp)).1)
  have HQ2 := Lib.hid (show ∀ (a b : Operand) (w : World), (eqGuard .eql 24 a b (.agg #[.int .i64 4, .int .i64 2, .int .i64 0]) (.agg #[.int .i64 4, .int .i64 2, .int .i64 0])).run Tryd.prog w = .ok () w from (eq_m exM exM true (by simp)).2)
  have HT3 : ∀ (W : World) (n : Nat), W.heap.size = n → (convert 39 9 (.slice (some ⟨n, 0, none⟩) 3 3)).run Tryd.prog (W.alloc (.cells #[.int .u8 4, .int .u8 0, .int .u8 2] 5)) = .ok (.string ⟨#[4, 0, 2]⟩) (W.alloc (.cells #[.int .u8 4, .int .u8 0, .int .u8 2] 5)) := fun W n h => h ▸ text_later [(4 : Int), 0, 2] W _ (Ext.refl _)
  go_enter Tryd.func8, Tryd.ntmps8
  go_wp2_with (first
    | (go_at_call 9; refine (cP.out _).mono ?_; rintro e w1 ⟨rfl, x1⟩; have b1 := Lib.hid (late_blk x1); have y1 := Lib.hid (Ext.trans ((Ext.refl w).alloc _) x1); clear x1)
    | (go_at_call 17; have hgd := y2; refine (cG0.out _).mono ?_; rintro e w3 ⟨rfl, x3⟩; have b4 := Lib.hid (late_blk x3); have b3 := Lib.hid (blk_later (blk_alloc b2.out (.cells #[.int .i64 4, .int .i64 2, .int .i64 0] 24)) x3); have y3 := Lib.hid (Ext.trans (Ext.alloc y2.out _) x3); clear x3;
       have k1 := (three_cells (blk_alloc (blk_alloc b3.out (.cells #[.int .i64 0, .int .i64 0, .int .i64 0] 24)) (.cells #[.int .u8 4, .int .u8 0, .int .u8 2] 5))).1;
       have k4 := (three_cells (blk_alloc (blk_alloc b4.out (.cells #[.int .i64 0, .int .i64 0, .int .i64 0] 24)) (.cells #[.int .u8 4, .int .u8 0, .int .u8 2] 5))).1;
       have hq := HQ.out; have hq2 := HQ2.out)
    | (go_at_call 17; refine (cG.out _).mono ?_; rintro e w2 ⟨rfl, x2⟩; have b2 := Lib.hid (blk_later b1.out x2); have y2 := Lib.hid (Ext.trans y1.out x2); clear x2)
    | (go_at_call 12; refine (cS.out _ (HT.out _ (Ext.alloc (Ext.alloc y3.out _) _))).mono ?_; rintro e w5 ⟨rfl, x5⟩; have b5 := Lib.hid (blk_later (blk_alloc (blk_alloc b3.out (.cells #[.int .i64 0, .int .i64 0, .int .i64 0] 24)) (.cells #[.int .u8 4, .int .u8 0, .int .u8 2] 5)) x5); have y5 := Lib.hid (Ext.trans (Ext.alloc (Ext.alloc y3.out _) _) x5); clear x5 k1 k4)
    | (go_at_call 14; refine (cN.out _).mono ?_; rintro e w6 ⟨rfl, x6⟩; have k6 := (three_cells (blk_later b5.out x6)).1; have y6 := Lib.hid (Ext.trans y5.out x6); clear x6)
    | (go_at_call 10; have hgd := y7; refine (cR0.out _).mono ?_; rintro e w8 ⟨rfl, x8⟩; have y8 := Lib.hid (Ext.trans y7.out x8); clear x8)
    | (go_at_call 10; refine (cR.out _).mono ?_; rintro e w7 ⟨rfl, x7⟩; have y7 := Lib.hid (Ext.trans y6.out x7); clear x7))
  go_ret
  exact ⟨rfl, y8.out⟩
end Go.Proofs.YtffgphhmkghlnaaDoor
