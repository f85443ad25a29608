/- A region that draws its order, exactly: what gives one value wherever K holds is taken first, all else is run in every order that may come. -/
import Derived.Test.YtgcnjkabpcbkgaaReg
namespace Go.Proofs.Ytgcnjkabpcbkgaa
open Go.RowKit

section
variable {P : Program} {ops : Array Oper} {Q : Exit → Act → World → Prop} {md : Region.Mode} {K : World → Prop}

/-- whatever order is picked, from this very world on; K is kept -/
def xM (P : Program) (md : Region.Mode) (ops : Array Oper) (Q : Exit → Act → World → Prop) (K : World → Prop) : Nat → Array Bool → Act → World → Prop
  | 0, listed, a, w => K w ∧ Region.ready md ops listed = [] ∧ Q .normal a w
  | f + 1, listed, a, w => K w ∧ (Region.ready md ops listed = [] → Q .normal a w) ∧ ∀ i ∈ Region.ready md ops listed, wpOp P ops Q i (fun a2 w2 => xM P md ops Q K f (listed.setIfInBounds i true) a2 w2) a w

theorem xM.any : ∀ {f : Nat} {listed : Array Bool} {a : Act} {w : World}, xM P md ops Q K f listed a w → wpAny P md ops Q f listed a w
  | 0, _, _, _, h => h.2
  | _ + 1, _, _, _, h => ⟨h.2.1, fun i hi => wpOp_mono (fun _ _ h2 => h2.any) (h.2.2 i hi)⟩

/-- wherever K holds it gives v, and leaves the world as it is -/
def TakesX (P : Program) (ops : Array Oper) (K : World → Prop) (o : Oper) (v : Value) (a : Act) : Prop :=
  (Region.wanted o (yielded ops a.tmps) = true ∧ ∀ w', K w' → (execOp a.eval o).run P w' = .ok (.value v) w') ∨
  (Region.wanted o (yielded ops a.tmps) = false ∧ v = undef)

theorem TakesX.same {o : Oper} {v : Value} {a a' : Act} (h : TakesX P ops K o v a) (s : SameFor ops o a a') : TakesX P ops K o v a' := by
  unfold TakesX at *
  rw [s.1, s.2]
  exact h

theorem TakesX.wpOp {i : Nat} {o : Oper} {v : Value} {a : Act} {w : World} (hi : ops[i]? = some o) (h : TakesX P ops K o v a) (hk : K w)
    {R : Act → World → Prop} (hR : R (a.put o.dst v) w) : wpOp P ops Q i R a w := by
  unfold Go.wpOp
  simp only [hi]
  rcases h with ⟨hw, hv⟩ | ⟨hw, rfl⟩
  · simp only [hw, if_true]
    refine .inl ?_
    unfold Oper.wp
    rw [hv w hk]
    exact hR
  · simp only [hw, Bool.false_eq_true, if_false]
    exact hR

theorem xM_first {i : Nat} {oi : Oper} {v : Value} (hi : ops[i]? = some oi) (hsel : ∀ (j : Nat) (o : Oper) cs b, ops[j]? = some o → o.op ≠ .select cs b)
    (hQ : ∀ c a w, Q (.panic c) (a.put oi.dst v) w → Q (.panic c) a w) :
    ∀ (f : Nat) (listed : Array Bool) (a : Act) (w : World),
      (∀ j oj, ops[j]? = some oj → j ≠ i → listed.getD j true = false → (∀ e ∈ oj.after, Region.binds md e = true → e.on ≠ i) → oi.apart ops oj = true) →
      i ∈ Region.ready md ops listed → TakesX P ops K oi v a →
      xM P md ops Q K f (listed.setIfInBounds i true) (a.put oi.dst v) w → xM P md ops Q K (f + 1) listed a w := by
  intro f
  induction f with
  | zero =>
    intro listed a w _ hr ht H
    refine ⟨H.1, fun h => (by rw [h] at hr; cases hr), fun j hj => ?_⟩
    by_cases hji : j = i
    · subst hji
      exact ht.wpOp hi H.1 H
    · have := ready_mono hj hji
      rw [H.2.1] at this
      cases this
  | succ f ih =>
    intro listed a w hfree hr ht H
    refine ⟨H.1, fun h => (by rw [h] at hr; cases hr), fun j hj => ?_⟩
    by_cases hji : j = i
    · subst hji
      exact ht.wpOp hi H.1 H
    · have h1 := H.2.2 j (ready_mono hj hji)
      obtain ⟨hjun, oj, hoj, hall⟩ := mem_ready.1 hj
      have hnot : ∀ e ∈ oj.after, Region.binds md e = true → e.on ≠ i := fun e he hb heq => by
        have h1 := hall e he hb
        have h0 := (mem_ready.1 hr).1
        rw [heq] at h1
        rcases Nat.lt_or_ge i listed.size with h' | h'
        · simp [h'] at h0 h1; rw [h0] at h1; cases h1
        · simp [Array.getElem?_eq_none h'] at h1
      have h2 := wpOp_apart hoj (hfree j oj hoj hji hjun hnot) (fun cs b => hsel i oi cs b hi) (fun cs b => hsel j oj cs b hoj) hQ h1
      refine wpOp_mono (fun a' w2 h3 => ?_) h2
      refine ih (listed.setIfInBounds j true) a' w2 (fun k ok hk hki hun hno => ?_) (ready_mono hr (Ne.symm hji)) (ht.same h3.1) ?_
      · refine hfree k ok hk hki ?_ hno
        by_cases hjk : j = k
        · subst hjk; exact hjun
        · rw [getD_set_ne true hjk] at hun; exact hun
      · rw [Array.setIfInBounds_comm _ _ hji]
        exact h3.2

theorem wp_region_X_lit {id : Nat} {a : Act} {w : World} {l : List Oper} (hm : P.follows .mixedOrders = true)
    (h : ∀ w1, Ext w w1 → xM P .any l.toArray (NoPanic Q) K l.length (Array.replicate l.length false) a w1) : (Code.region id l.toArray true).wp P Q a w :=
  wp_region_noPanic (wp_region_any hm (by simpa using (h w.drew (Ext.drew (Ext.refl w))).any))

/-- what a take asks of the region's text -/
def xtakeB (md : Region.Mode) (ops : Array Oper) (listed : Array Bool) (i : Nat) : Bool :=
  (Region.ready md ops listed).contains i && Region.noSelect ops && Region.free md ops listed i

theorem xtakeV (i : Nat) {oi : Oper} {v : Value} {f : Nat} {listed : Array Bool} {a : Act} {w : World} (hi : ops[i]? = some oi := by simp only [List.getElem?_toArray, List.getElem?_cons, reduceIte]; rfl) (hb : xtakeB md ops listed i = true := by kernel_rfl)
    (hw : Region.wanted oi (yielded ops a.tmps) = true := by rfl) (hv : ∀ w', K w' → (execOp a.eval oi).run P w' = .ok (.value v) w')
    (h : xM P md ops (NoPanic Q) K f (listed.setIfInBounds i true) (a.put oi.dst v) w) : xM P md ops (NoPanic Q) K (f + 1) listed a w := by
  simp only [xtakeB, Bool.and_eq_true] at hb
  obtain ⟨⟨h1, h2⟩, h3⟩ := hb
  exact xM_first hi (Region.noSelect_spec h2) (fun _ _ _ h => h) f listed a w (Region.free_spec hi h3) (by simpa using h1) (.inl ⟨hw, hv⟩) h

/-- .. with all that is asked told by the walk's own tactics -/
theorem xtv (i : Nat) {oi : Oper} {v : Value} {f : Nat} {listed : Array Bool} {a a' : Act} {w : World} (hi : ops[i]? = some oi := by simp only [List.getElem?_toArray, List.getElem?_cons, reduceIte]; rfl) (hb : xtakeB md ops listed i = true := by kernel_rfl)
    (hw : Region.wanted oi (yielded ops a.tmps) = true := by rfl) (hv : ∀ w', K w' → (execOp a.eval oi).run P w' = .ok (.value v) w' := by intro w' hw'; go_simp; first | done | with_reducible rfl)
    (ha : a.put oi.dst v = a' := by simp only [Act.put, List.setIfInBounds_toArray, List.set]; rfl)
    (h : xM P md ops (NoPanic Q) K f (listed.setIfInBounds i true) a' w) : xM P md ops (NoPanic Q) K (f + 1) listed a w := xtakeV i hi hb hw hv (ha ▸ h)

theorem xtakeU (i : Nat) {oi : Oper} {f : Nat} {listed : Array Bool} {a : Act} {w : World} (hi : ops[i]? = some oi := by simp only [List.getElem?_toArray, List.getElem?_cons, reduceIte]; rfl) (hb : xtakeB md ops listed i = true := by kernel_rfl)
    (hw : Region.wanted oi (yielded ops a.tmps) = false := by rfl)
    (h : xM P md ops (NoPanic Q) K f (listed.setIfInBounds i true) (a.put oi.dst undef) w) : xM P md ops (NoPanic Q) K (f + 1) listed a w := by
  simp only [xtakeB, Bool.and_eq_true] at hb
  obtain ⟨⟨h1, h2⟩, h3⟩ := hb
  exact xM_first hi (Region.noSelect_spec h2) (fun _ _ _ h => h) f listed a w (Region.free_spec hi h3) (by simpa using h1) (.inr ⟨hw, rfl⟩) h

/-- running one that may come up -/
def RunX (P : Program) (md : Region.Mode) (ops : Array Oper) (Q : Exit → Act → World → Prop) (K : World → Prop) (f : Nat) (listed : Array Bool) (a : Act) (w : World) (i : Nat) : Prop :=
  ∃ oi, ops[i]? = some oi ∧ Region.wanted oi (yielded ops a.tmps) = true ∧ oi.wp P a w (fun a2 w2 => xM P md ops Q K f (listed.setIfInBounds i true) a2 w2) Q
theorem RunX.of (i : Nat) {oi : Oper} {f : Nat} {listed : Array Bool} {a : Act} {w : World} (hi : ops[i]? = some oi := by simp only [List.getElem?_toArray, List.getElem?_cons, reduceIte]; rfl) (hw : Region.wanted oi (yielded ops a.tmps) = true := by rfl)
    (h : oi.wp P a w (fun a2 w2 => xM P md ops Q K f (listed.setIfInBounds i true) a2 w2) Q) : RunX P md ops Q K f listed a w i := ⟨oi, hi, hw, h⟩
theorem RunX.op {f : Nat} {listed : Array Bool} {a : Act} {w : World} {i : Nat} (h : RunX P md ops Q K f listed a w i) : wpOp P ops Q i (fun a2 w2 => xM P md ops Q K f (listed.setIfInBounds i true) a2 w2) a w := by
  obtain ⟨oi, hi, hw, h⟩ := h
  unfold wpOp
  simp only [hi, hw, if_true]
  exact .inl h

theorem xone (i : Nat) {f : Nat} {listed : Array Bool} {a : Act} {w : World} (hr : Region.ready md ops listed = [i] := by kernel_rfl) (hk : K w) (h : RunX P md ops Q K f listed a w i) : xM P md ops Q K (f + 1) listed a w :=
  ⟨hk, fun e => (by rw [hr] at e; cases e), fun j hj => by
    rw [hr, List.mem_singleton] at hj
    subst hj
    exact h.op⟩
theorem xtwo (i j : Nat) {f : Nat} {listed : Array Bool} {a : Act} {w : World} (hr : Region.ready md ops listed = [i, j] := by kernel_rfl) (hk : K w) (h : RunX P md ops Q K f listed a w i) (h' : RunX P md ops Q K f listed a w j) : xM P md ops Q K (f + 1) listed a w :=
  ⟨hk, fun e => (by rw [hr] at e; cases e), fun k hj => by
    rw [hr, List.mem_cons, List.mem_singleton] at hj
    rcases hj with rfl | rfl
    · exact h.op
    · exact h'.op⟩
theorem xthree (i j l : Nat) {f : Nat} {listed : Array Bool} {a : Act} {w : World} (hr : Region.ready md ops listed = [i, j, l]) (hk : K w) (h : RunX P md ops Q K f listed a w i) (h' : RunX P md ops Q K f listed a w j) (h'' : RunX P md ops Q K f listed a w l) : xM P md ops Q K (f + 1) listed a w :=
  ⟨hk, fun e => (by rw [hr] at e; cases e), fun k hj => by
    rw [hr, List.mem_cons, List.mem_cons, List.mem_singleton] at hj
    rcases hj with rfl | rfl | rfl
    · exact h.op
    · exact h'.op
    · exact h''.op⟩
theorem xdone {f : Nat} {listed : Array Bool} {a : Act} {w : World} (hr : Region.ready md ops listed = []) (hk : K w) (h : Q .normal a w) : xM P md ops (NoPanic Q) K f listed a w := by
  cases f with
  | zero => exact ⟨hk, hr, h⟩
  | succ f => exact ⟨hk, fun _ => h, fun j hj => by rw [hr] at hj; cases hj⟩
end
end Go.Proofs.Ytgcnjkabpcbkgaa
