/- A region that draws its order, and whose last store goes to what the region reads: K is asked for ahead of that store (operation d) alone. -/
import Derived.Test.YtgcnjkabpcbkgaaRegX
namespace Go.Proofs.Ytgcnjkabpcbkgaa
open Go.RowKit

section
variable {P : Program} {ops : Array Oper} {Q : Exit → Act → World → Prop} {md : Region.Mode} {K : World → Prop} {d : Nat}

def yM (P : Program) (md : Region.Mode) (ops : Array Oper) (Q : Exit → Act → World → Prop) (K : World → Prop) (d : Nat) : Nat → Array Bool → Act → World → Prop
  | 0, listed, a, w => (listed.getD d true = false → K w) ∧ Region.ready md ops listed = [] ∧ Q .normal a w
  | f + 1, listed, a, w => (listed.getD d true = false → K w) ∧ (Region.ready md ops listed = [] → Q .normal a w) ∧ ∀ i ∈ Region.ready md ops listed, wpOp P ops Q i (fun a2 w2 => yM P md ops Q K d f (listed.setIfInBounds i true) a2 w2) a w

theorem yM.any : ∀ {f : Nat} {listed : Array Bool} {a : Act} {w : World}, yM P md ops Q K d f listed a w → wpAny P md ops Q f listed a w
  | 0, _, _, _, h => h.2
  | _ + 1, _, _, _, h => ⟨h.2.1, fun i hi => wpOp_mono (fun _ _ h2 => h2.any) (h.2.2 i hi)⟩

/-- operation d waits for i -/
def waitsB (md : Region.Mode) (ops : Array Oper) (d i : Nat) : Bool := match ops[d]? with
  | none => false
  | some o => o.after.any fun e => Region.binds md e && decide (e.on = i)

theorem yM_first {i : Nat} {oi : Oper} {v : Value} (hi : ops[i]? = some oi) (hid : i ≠ d) (hwd : waitsB md ops d i = true) (hsel : ∀ (j : Nat) (o : Oper) cs b, ops[j]? = some o → o.op ≠ .select cs b)
    (hQ : ∀ c a w, Q (.panic c) (a.put oi.dst v) w → Q (.panic c) a w) :
    ∀ (f : Nat) (listed : Array Bool) (a : Act) (w : World), listed.getD d true = false →
      (∀ j oj, ops[j]? = some oj → j ≠ i → listed.getD j true = false → (∀ e ∈ oj.after, Region.binds md e = true → e.on ≠ i) → oi.apart ops oj = true) →
      i ∈ Region.ready md ops listed → TakesX P ops K oi v a →
      yM P md ops Q K d f (listed.setIfInBounds i true) (a.put oi.dst v) w → yM P md ops Q K d (f + 1) listed a w := by
  have hdw : ∀ (listed : Array Bool) (j : Nat), i ∈ Region.ready md ops listed → j ∈ Region.ready md ops listed → j ≠ d := by
    rintro listed j hr hj rfl
    obtain ⟨_, oj, hoj, hall⟩ := mem_ready.1 hj
    unfold waitsB at hwd
    rw [hoj] at hwd
    simp only [Array.any_eq_true', Bool.and_eq_true, decide_eq_true_eq] at hwd
    obtain ⟨e, he, hb, heq⟩ := hwd
    have h1 := hall e he hb
    have h0 := (mem_ready.1 hr).1
    rw [heq] at h1
    rcases Nat.lt_or_ge i listed.size with h' | h'
    · simp [h'] at h0 h1; rw [h0] at h1; cases h1
    · simp [Array.getElem?_eq_none h'] at h1
  intro f
  induction f with
  | zero =>
    intro listed a w hd _ hr ht H
    have hK : K w := H.1 (by rw [getD_set_ne true hid]; exact hd)
    refine ⟨fun _ => hK, fun h => (by rw [h] at hr; cases hr), fun j hj => ?_⟩
    by_cases hji : j = i
    · subst hji
      exact ht.wpOp hi hK H
    · have := ready_mono hj hji
      rw [H.2.1] at this
      cases this
  | succ f ih =>
    intro listed a w hd hfree hr ht H
    have hK : K w := H.1 (by rw [getD_set_ne true hid]; exact hd)
    refine ⟨fun _ => hK, fun h => (by rw [h] at hr; cases hr), fun j hj => ?_⟩
    by_cases hji : j = i
    · subst hji
      exact ht.wpOp hi hK H
    · have h1 := H.2.2 j (ready_mono hj hji)
      obtain ⟨hjun, oj, hoj, hall⟩ := mem_ready.1 hj
      have hnot : ∀ e ∈ oj.after, Region.binds md e = true → e.on ≠ i := fun e he hb heq => by
        have h1 := hall e he hb
        have h0 := (mem_ready.1 hr).1
        rw [heq] at h1
        rcases Nat.lt_or_ge i listed.size with h' | h'
        · simp [h'] at h0 h1; rw [h0] at h1; cases h1
        · simp [Array.getElem?_eq_none h'] at h1
      have h2 := wpOp_apart hoj (hfree j oj hoj hji hjun hnot) (fun cs b => hsel i oi cs b hi) (fun cs b => hsel j oj cs b hoj) hQ h1
      refine wpOp_mono (fun a' w2 h3 => ?_) h2
      refine ih (listed.setIfInBounds j true) a' w2 (by rw [getD_set_ne true (hdw listed j hr hj)]; exact hd) (fun k ok hk hki hun hno => ?_) (ready_mono hr (Ne.symm hji)) (ht.same h3.1) ?_
      · refine hfree k ok hk hki ?_ hno
        by_cases hjk : j = k
        · subst hjk; exact hjun
        · rw [getD_set_ne true hjk] at hun; exact hun
      · rw [Array.setIfInBounds_comm _ _ hji]
        exact h3.2

theorem wp_region_Y_lit {id : Nat} {a : Act} {w : World} {l : List Oper} (d : Nat) (hm : P.follows .mixedOrders = true)
    (h : ∀ w1, Ext w w1 → yM P .any l.toArray (NoPanic Q) K d l.length (Array.replicate l.length false) a w1) : (Code.region id l.toArray true).wp P Q a w :=
  wp_region_noPanic (wp_region_any hm (by simpa using (h w.drew (Ext.drew (Ext.refl w))).any))

def ytakeB (md : Region.Mode) (ops : Array Oper) (listed : Array Bool) (d i : Nat) : Bool :=
  ((Region.ready md ops listed).contains i && Region.noSelect ops && Region.free md ops listed i) && (decide (i ≠ d) && waitsB md ops d i && !listed.getD d true)

theorem ytv (i : Nat) {oi : Oper} {v : Value} {f : Nat} {listed : Array Bool} {a a' : Act} {w : World} (hi : ops[i]? = some oi := by simp only [List.getElem?_toArray, List.getElem?_cons, reduceIte]; rfl) (hb : ytakeB md ops listed d i = true := by kernel_rfl)
    (hw : Region.wanted oi (yielded ops a.tmps) = true := by rfl) (hv : ∀ w', K w' → (execOp a.eval oi).run P w' = .ok (.value v) w' := by intro w' hw'; go_simp; first | done | with_reducible rfl)
    (ha : a.put oi.dst v = a' := by simp only [Act.put, List.setIfInBounds_toArray, List.set]; rfl)
    (h : yM P md ops (NoPanic Q) K d f (listed.setIfInBounds i true) a' w) : yM P md ops (NoPanic Q) K d (f + 1) listed a w := by
  subst ha
  simp only [ytakeB, Bool.and_eq_true, decide_eq_true_eq, Bool.not_eq_true'] at hb
  obtain ⟨⟨⟨h1, h2⟩, h3⟩, ⟨h4, h5⟩, h6⟩ := hb
  exact yM_first hi h4 h5 (Region.noSelect_spec h2) (fun _ _ _ h => h) f listed a w h6 (Region.free_spec hi h3) (by simpa using h1) (.inl ⟨hw, hv⟩) h

def RunY (P : Program) (md : Region.Mode) (ops : Array Oper) (Q : Exit → Act → World → Prop) (K : World → Prop) (d : Nat) (f : Nat) (listed : Array Bool) (a : Act) (w : World) (i : Nat) : Prop :=
  ∃ oi, ops[i]? = some oi ∧ Region.wanted oi (yielded ops a.tmps) = true ∧ oi.wp P a w (fun a2 w2 => yM P md ops Q K d f (listed.setIfInBounds i true) a2 w2) Q
theorem RunY.of (i : Nat) {oi : Oper} {f : Nat} {listed : Array Bool} {a : Act} {w : World} (hi : ops[i]? = some oi := by simp only [List.getElem?_toArray, List.getElem?_cons, reduceIte]; rfl) (hw : Region.wanted oi (yielded ops a.tmps) = true := by rfl)
    (h : oi.wp P a w (fun a2 w2 => yM P md ops Q K d f (listed.setIfInBounds i true) a2 w2) Q) : RunY P md ops Q K d f listed a w i := ⟨oi, hi, hw, h⟩
theorem RunY.op {f : Nat} {listed : Array Bool} {a : Act} {w : World} {i : Nat} (h : RunY P md ops Q K d f listed a w i) : wpOp P ops Q i (fun a2 w2 => yM P md ops Q K d f (listed.setIfInBounds i true) a2 w2) a w := by
  obtain ⟨oi, hi, hw, h⟩ := h
  unfold wpOp
  simp only [hi, hw, if_true]
  exact .inl h
theorem yone (i : Nat) {f : Nat} {listed : Array Bool} {a : Act} {w : World} (hr : Region.ready md ops listed = [i] := by kernel_rfl) (hk : K w) (h : RunY P md ops Q K d f listed a w i) : yM P md ops Q K d (f + 1) listed a w :=
  ⟨fun _ => hk, fun e => (by rw [hr] at e; cases e), fun j hj => by
    rw [hr, List.mem_singleton] at hj
    subst hj
    exact h.op⟩
/-- what comes behind the store -/
theorem ylate (i : Nat) {f : Nat} {listed : Array Bool} {a : Act} {w : World} (hr : Region.ready md ops listed = [i] := by kernel_rfl) (hl : listed.getD d true = true := by kernel_rfl) (h : RunY P md ops Q K d f listed a w i) : yM P md ops Q K d (f + 1) listed a w :=
  ⟨fun e => (by rw [hl] at e; cases e), fun e => (by rw [hr] at e; cases e), fun j hj => by
    rw [hr, List.mem_singleton] at hj
    subst hj
    exact h.op⟩
theorem ydone {f : Nat} {listed : Array Bool} {a : Act} {w : World} (hr : Region.ready md ops listed = []) (hl : listed.getD d true = true := by kernel_rfl) (h : Q .normal a w) : yM P md ops (NoPanic Q) K d f listed a w := by
  cases f with
  | zero => exact ⟨fun e => (by rw [hl] at e; cases e), hr, h⟩
  | succ f => exact ⟨fun e => (by rw [hl] at e; cases e), fun _ => h, fun j hj => by rw [hr] at hj; cases hj⟩
end
end Go.Proofs.Ytgcnjkabpcbkgaa
