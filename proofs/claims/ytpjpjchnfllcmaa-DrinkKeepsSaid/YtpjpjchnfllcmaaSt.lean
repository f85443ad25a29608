/- A region that draws its order and only reads, operation by operation in its order; the frame is kept as the one that there was and what has been put into it since. -/
import Derived.Test.YtpjpjchnfllcmaaME
import Derived.StillTactics
namespace Go.Proofs.Ytpjpjchnfllcmaa
open Go.RowKit

def pc (a : Act) : List (Nat × Value) → Act
  | [] => a
  | (d, v) :: l => (pc a l).put (some d) v
termination_by l => l.length
def lk (n : Nat) (a : Act) (j : Nat) : List (Nat × Value) → Value
  | [] => a.eval (.tmp j)
  | (d, v) :: l => if d = j ∧ d < n then v else lk n a j l
termination_by l => l.length
theorem pc_nil (a : Act) : pc a [] = a := by unfold pc; rfl
theorem pc_cons (a : Act) (d : Nat) (v : Value) (l : List (Nat × Value)) : pc a ((d, v) :: l) = (pc a l).put (some d) v := by rw [pc]
theorem lk_nil (n : Nat) (a : Act) (j : Nat) : lk n a j [] = a.eval (.tmp j) := by unfold lk; rfl
theorem lk_cons (n : Nat) (a : Act) (j d : Nat) (v : Value) (l : List (Nat × Value)) : lk n a j ((d, v) :: l) = if d = j ∧ d < n then v else lk n a j l := by rw [lk]
theorem pc_size (a : Act) : ∀ l, (pc a l).tmps.size = a.tmps.size
  | [] => by rw [pc_nil]
  | (d, v) :: l => by
    rw [pc_cons]
    show ((pc a l).tmps.setIfInBounds d v).size = _
    rw [Array.size_setIfInBounds, pc_size a l]
theorem pc_eval {a : Act} {n : Nat} (hn : a.tmps.size = n) : ∀ (l : List (Nat × Value)) (j : Nat), (pc a l).eval (.tmp j) = lk n a j l
  | [], j => by rw [pc_nil, lk_nil]
  | (d, v) :: l, j => by
    have hs := pc_size a l
    rw [pc_cons, lk_cons, ← pc_eval hn l j]
    show ((pc a l).tmps.setIfInBounds d v).getD j undef = if d = j ∧ d < n then v else (pc a l).tmps.getD j undef
    rw [Array.getD_eq_getD_getElem?, Array.getD_eq_getD_getElem?, Array.getElem?_setIfInBounds]
    have hn2 : (pc a l).tmps.size = n := hs.trans hn
    by_cases h1 : d = j
    · subst h1
      by_cases h2 : d < n
      · simp [h2, hn2]
      · simp [h2, hn2]
    · simp [h1]
theorem pc_none (a : Act) (v : Value) : a.put none v = a := rfl

section
variable {P : Program} {ops : Array Oper} {w : World} {Q : Act → Prop}
theorem yl {a : Act} {j d : Nat} {oj : Oper} {b : Bool} (h1 : ops[j]? = some oj) (h2 : oj.dst = some d) (h3 : a.eval (.tmp d) = .bool b) : yielded ops a.tmps j = some b := by
  unfold yielded
  have h4 : a.tmps[d]? = some (.bool b) := by
    have h5 : a.tmps.getD d undef = .bool b := h3
    rw [Array.getD_eq_getD_getElem?] at h5
    cases h : a.tmps[d]? with
    | none => rw [h] at h5; cases h5
    | some x => rw [h] at h5; exact congrArg some h5
  rw [h1, Option.bind_some, h2, Option.bind_some, h4]
theorem yl0 {a : Act} {j d : Nat} {oj : Oper} (h1 : ops[j]? = some oj) (h2 : oj.dst = some d) (h3 : a.eval (.tmp d) = undef) : yielded ops a.tmps j = none := by
  unfold yielded
  have h5 : a.tmps.getD d undef = undef := h3
  rw [Array.getD_eq_getD_getElem?] at h5
  rw [h1, Option.bind_some, h2, Option.bind_some]
  cases h : a.tmps[d]? with
  | none => rfl
  | some x =>
    rw [h] at h5
    obtain rfl : x = undef := h5
    rfl
theorem wantX {o : Oper} {y : Nat → Option Bool} {j : Nat} {b : Bool} (h : o.guard = some (j, b)) (hy : y j = none) : Region.wanted o y = false := by
  unfold Region.wanted
  rw [h]
  show (y j == some b) = false
  rw [hy]
  rfl
theorem wantN {o : Oper} {y : Nat → Option Bool} (h : o.guard = none) : Region.wanted o y = true := by unfold Region.wanted; rw [h]
theorem wantG {o : Oper} {y : Nat → Option Bool} {j : Nat} {b c : Bool} (h : o.guard = some (j, b)) (hy : y j = some c) : Region.wanted o y = (b == c) := by
  unfold Region.wanted
  rw [h]
  show (y j == some b) = (b == c)
  rw [hy]
  cases b <;> cases c <;> rfl
theorem stT {o : Oper} {rest : List Oper} {a : Act} {l : List (Nat × Value)} {d : Nat} (v : Value) (hd : o.dst = some d) (hw : Region.wanted o (yielded ops (pc a l).tmps) = true)
    (hv : (execOp (pc a l).eval o).run P w = .ok (.value v) w) (h : wpStill P ops w Q rest (pc a ((d, v) :: l))) : wpStill P ops w Q (o :: rest) (pc a l) := by
  unfold wpStill
  rw [if_pos hw]
  unfold Oper.still
  rw [hv, Oper.stillUpon_value, hd, ← pc_cons]
  exact h
/-- the frame, the region's text and what is wanted behind it stand behind names -/
theorem stStart {l : List Oper} {a : Act} (h : ∀ (a0 : Act) (O : Array Oper) (Q' : Act → Prop), a0 = a → O = ops → (∀ a', Q a' → Q' a') → wpStill P O w Q' l (pc a0 [])) : wpStill P ops w Q l a := by
  have := h a ops Q rfl rfl (fun _ h => h)
  rwa [pc_nil] at this
theorem stU {o : Oper} {rest : List Oper} {a : Act} {l : List (Nat × Value)} {d : Nat} (hd : o.dst = some d) (hw : Region.wanted o (yielded ops (pc a l).tmps) = false)
    (h : wpStill P ops w Q rest (pc a ((d, undef) :: l))) : wpStill P ops w Q (o :: rest) (pc a l) := by
  unfold wpStill
  rw [if_neg (by rw [hw]; simp), hd, ← pc_cons]
  exact h
theorem stSeg {Q : Act → Prop} (k : Nat) {a : Act} (R : List (Nat × Value) → Prop) : ∀ {xs : List Oper} {l : List (Nat × Value)}, wpStill P ops w (fun a' => ∃ l', a' = pc a l' ∧ R l') (xs.take k) (pc a l) → (∀ l', R l' → wpStill P ops w Q (xs.drop k) (pc a l')) → wpStill P ops w Q xs (pc a l) := by
  intro xs l h1 h2
  have key : ∀ (ys zs : List Oper) (b : Act), wpStill P ops w (fun a' => ∃ l', a' = pc a l' ∧ R l') ys b → (∀ l', R l' → wpStill P ops w Q zs (pc a l')) → wpStill P ops w Q (ys ++ zs) b := by
    intro ys zs
    induction ys with
    | nil => rintro b ⟨l', rfl, hr⟩ h; exact h l' hr
    | cons o ys ih =>
      intro b hb h
      show if Region.wanted o (yielded ops b.tmps) then o.still P b w (wpStill P ops w Q (ys ++ zs)) else wpStill P ops w Q (ys ++ zs) (b.put o.dst undef)
      have hb : if Region.wanted o (yielded ops b.tmps) then o.still P b w (wpStill P ops w (fun a' => ∃ l', a' = pc a l' ∧ R l') ys) else wpStill P ops w (fun a' => ∃ l', a' = pc a l' ∧ R l') ys (b.put o.dst undef) := hb
      split at hb
      · rename_i hw; rw [if_pos hw]; exact Oper.still_mono (fun b' hb' => ih b' hb' h) hb
      · rename_i hw; rw [if_neg hw]; exact ih _ hb h
  have := key (xs.take k) (xs.drop k) (pc a l) h1 h2
  rwa [List.take_append_drop] at this
theorem stTn {o : Oper} {rest : List Oper} {a : Act} {l : List (Nat × Value)} {d : Nat} (v : Value) (hd : o.dst = some d) (hg : o.guard = none)
    (hv : (execOp (pc a l).eval o).run P w = .ok (.value v) w) (h : wpStill P ops w Q rest (pc a ((d, v) :: l))) : wpStill P ops w Q (o :: rest) (pc a l) := stT v hd (wantN hg) hv h
theorem stTg {o oj : Oper} {rest : List Oper} {a : Act} {l : List (Nat × Value)} {d j s n : Nat} {b : Bool} (v : Value) (hd : o.dst = some d) (hg : o.guard = some (j, b)) (hj : ops[j]? = some oj) (hs : oj.dst = some s)
    (PE : ∀ (l : List (Nat × Value)) (j : Nat), (pc a l).eval (.tmp j) = lk n a j l) (hb : lk n a s l = .bool b)
    (hv : (execOp (pc a l).eval o).run P w = .ok (.value v) w) (h : wpStill P ops w Q rest (pc a ((d, v) :: l))) : wpStill P ops w Q (o :: rest) (pc a l) :=
  stT v hd ((wantG hg (yl hj hs ((PE l s).trans hb))).trans (by cases b <;> rfl)) hv h
theorem stUg {o oj : Oper} {rest : List Oper} {a : Act} {l : List (Nat × Value)} {d j s n : Nat} {b : Bool} (hd : o.dst = some d) (hg : o.guard = some (j, b)) (hj : ops[j]? = some oj) (hs : oj.dst = some s)
    (PE : ∀ (l : List (Nat × Value)) (j : Nat), (pc a l).eval (.tmp j) = lk n a j l) (hb : lk n a s l = .bool (!b))
    (h : wpStill P ops w Q rest (pc a ((d, undef) :: l))) : wpStill P ops w Q (o :: rest) (pc a l) :=
  stU hd ((wantG hg (yl hj hs ((PE l s).trans hb))).trans (by cases b <;> rfl)) h
theorem stUx {o oj : Oper} {rest : List Oper} {a : Act} {l : List (Nat × Value)} {d j s n : Nat} {b : Bool} (hd : o.dst = some d) (hg : o.guard = some (j, b)) (hj : ops[j]? = some oj) (hs : oj.dst = some s)
    (PE : ∀ (l : List (Nat × Value)) (j : Nat), (pc a l).eval (.tmp j) = lk n a j l) (hb : lk n a s l = undef)
    (h : wpStill P ops w Q rest (pc a ((d, undef) :: l))) : wpStill P ops w Q (o :: rest) (pc a l) :=
  stU hd (wantX hg (yl0 hj hs ((PE l s).trans hb))) h
end

end Go.Proofs.Ytpjpjchnfllcmaa
