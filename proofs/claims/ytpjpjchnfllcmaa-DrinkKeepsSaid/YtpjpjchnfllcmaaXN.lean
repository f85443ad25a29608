/- Layer 15, the laws (mathematics): what was there is there, or went out, told thing by thing. -/
import Derived.Test.YtpjpjchnfllcmaaXM
namespace Go.Proofs.Ytpjpjchnfllcmaa

/-- how many of its first so many things a side has -/
def hs : Nat → Sd → Nat
  | 0, _ => 0
  | k + 1, s => hs k s + cond (hadB ((k : Int) + 1) s) 1 0
theorem hs_four (s : Sd) : hs 4 s = thing s := by
  unfold thing
  show 0 + cond (hadB (((0 : Nat) : Int) + 1) s) 1 0 + cond (hadB (((1 : Nat) : Int) + 1) s) 1 0 + cond (hadB (((2 : Nat) : Int) + 1) s) 1 0 + cond (hadB (((3 : Nat) : Int) + 1) s) 1 0 = _
  have e1 : hadB (((0 : Nat) : Int) + 1) s = s.fork := rfl
  have e2 : hadB (((1 : Nat) : Int) + 1) s = s.token := rfl
  have e3 : hadB (((2 : Nat) : Int) + 1) s = s.bottle := rfl
  have e4 : hadB (((3 : Nat) : Int) + 1) s = s.ask := rfl
  rw [e1, e2, e3, e4, Nat.zero_add]
theorem hs_le : ∀ (k : Nat) (s : Sd), hs k s ≤ k
  | 0, _ => Nat.le_refl _
  | k + 1, s => by
    have := hs_le k s
    unfold hs
    cases hadB ((k : Int) + 1) s <;> simp <;> omega
theorem things_next {L : List Sd} {k : Nat} {s : Sd} (h : L[k]? = some s) : things (L.take (k + 1)) = things (L.take k) + thing s := by
  have hk := (List.getElem?_eq_some_iff.1 h).1
  unfold things
  rw [List.take_succ_eq_append_getElem hk, (List.getElem?_eq_some_iff.1 h).2, List.map_append, List.sum_append]
  simp
theorem keeps_start {d x : Dk} {M : List Ml} (hc : chkK d = true) (hx : fireAll d = (x, M)) : x.id = d.id ∧ x.sides.length = d.sides.length ∧ things x.sides + M.length = things d.sides ∧
    ∀ (k : Nat) (s v : Sd), d.sides[k]? = some s → x.sides[k]? = some v → (v.peer = s.peer ∧ v.epoch = s.epoch ∧ v.state = s.state) ∧ ∀ q : Int, (q = 1 ∨ q = 2 ∨ q = 3 ∨ q = 4) → (cond (hadB q s) 1 0 : Nat) = cond (hadB q v) 1 0 + M.count ⟨d.id, s.peer, q, s.epoch, 0⟩ := by
  have h3 := fire_id d
  have h4 := fireAll_things (n := leftK d + 1) (d := d) (Nat.lt_succ_self _)
  have h5 := fun q hq k s v h1 h2 => fireAll_count (q := q) hq (k := k) (n := leftK d + 1) (d := d) (s := s) (v := v) (Nat.lt_succ_self _) (chk_dn hc) h1 h2
  rw [hx] at h3 h4 h5
  dsimp only at h3 h4 h5
  refine ⟨h3.1, by have := congrArg List.length h3.2.2; simpa using this, h4, fun k s v h1 h2 => ⟨?_, fun q hq => h5 q hq k s v h1 h2⟩⟩
  have e := congrArg (fun l => l[k]?) h3.2.2
  simp only [List.getElem?_map, h1, h2, Option.map_some, Option.some.injEq, Prod.mk.injEq] at e
  exact e
theorem count_next {M : List Ml} {k : Nat} {m a : Ml} {b : Bool} (h : M[k]? = some m) (hb : decide (m = a) = b) : (M.take (k + 1)).count a = (M.take k).count a + cond b 1 0 := by
  have hk := (List.getElem?_eq_some_iff.1 h).1
  rw [List.take_succ_eq_append_getElem hk, (List.getElem?_eq_some_iff.1 h).2, List.count_append, ← hb]
  by_cases e : m = a
  · subst e; simp
  · rw [decide_eq_false e, List.count_cons_of_ne (by simpa using e)]; rfl
end Go.Proofs.Ytpjpjchnfllcmaa
