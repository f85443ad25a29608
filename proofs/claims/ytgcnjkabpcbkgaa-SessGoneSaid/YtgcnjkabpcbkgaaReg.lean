/- A region that draws its order, whose operations only add to the world: those that give one value in every later world are taken first. -/
import Derived.Test.YtgcnjkabpcbkgaaBase
import Derived.Deep.RegionHeld3
namespace Go.Proofs.Ytgcnjkabpcbkgaa
open Go.RowKit

section
variable {P : Program} {ops : Array Oper} {Q : Exit → Act → World → Prop} {md : Region.Mode}

/-- what running it leaves: the value v, in a later world -/
def givesV (P : Program) (v : Value) (w : World) : Result Next → Prop
  | .ok (.value u) w2 => u = v ∧ Ext w w2
  | .ok (.enter f args) w2 => Ext w w2 ∧ Calls P f args w2 (fun e w3 => e = .returned v ∧ Ext w2 w3)
  | _ => False

/-- in every later world it gives v -/
def Takes (P : Program) (ops : Array Oper) (o : Oper) (v : Value) (a : Act) (w : World) : Prop :=
  (Region.wanted o (yielded ops a.tmps) = true ∧ ∀ w', Ext w w' → givesV P v w' ((execOp a.eval o).run P w')) ∨
  (Region.wanted o (yielded ops a.tmps) = false ∧ v = undef)

/-- to the operation they are the same -/
def SameFor (ops : Array Oper) (o : Oper) (a a' : Act) : Prop :=
  execOp a'.eval o = execOp a.eval o ∧ Region.wanted o (yielded ops a'.tmps) = Region.wanted o (yielded ops a.tmps)

theorem Takes.later {o : Oper} {v : Value} {a a' : Act} {w w' : World} (h : Takes P ops o v a w) (s : SameFor ops o a a') (x : Ext w w') : Takes P ops o v a' w' := by
  unfold Takes at *
  rw [s.1, s.2]
  exact h.imp (fun ⟨h1, h2⟩ => ⟨h1, fun w2 y => h2 w2 (Ext.trans x y)⟩) id

theorem Takes.wpOp {i : Nat} {o : Oper} {v : Value} {a : Act} {w : World} (hi : ops[i]? = some o) (h : Takes P ops o v a w)
    {K : Act → World → Prop} (hK : ∀ w', Ext w w' → K (a.put o.dst v) w') : wpOp P ops Q i K a w := by
  unfold Go.wpOp
  simp only [hi]
  rcases h with ⟨hw, hv⟩ | ⟨hw, rfl⟩
  · simp only [hw, if_true]
    refine .inl ?_
    have h1 := hv w (Ext.refl _)
    unfold Oper.wp
    generalize (execOp a.eval o).run P w = r at *
    cases r with
    | ok n w' =>
      cases n <;> simp only [givesV] at h1 <;> simp only [Oper.upon]
      case value u => rw [h1.1]; exact hK _ h1.2
      case enter f args =>
        exact h1.2.mono fun e w3 ⟨he, x⟩ => by subst he; exact hK _ (Ext.trans h1.1 x)
    | halt x w' => simp only [givesV] at h1
  · simp only [hw, Bool.false_eq_true, if_false]
    exact hK _ (Ext.refl _)

theorem wpOp_apart {j : Nat} {oi oj : Oper} {v : Value} (hj : ops[j]? = some oj) (hap : oi.apart ops oj = true)
    (hsi : ∀ cs b, oi.op ≠ .select cs b) (hsj : ∀ cs b, oj.op ≠ .select cs b) (hQ : ∀ c a w, Q (.panic c) (a.put oi.dst v) w → Q (.panic c) a w)
    {K : Act → World → Prop} {a : Act} {w : World} (h : wpOp P ops Q j K (a.put oi.dst v) w) :
    wpOp P ops Q j (fun a' w' => SameFor ops oi a a' ∧ K (a'.put oi.dst v) w') a w := by
  obtain ⟨h1, h2, h3⟩ := Oper.apart_spec hap
  have keep : ∀ u, SameFor ops oi a (a.put oj.dst u) := fun u => ⟨execOp_put oi hsi a oj.dst u h3, wanted_put oi a oj.dst u h3⟩
  have keepD : ∀ d u, SameFor ops oi a (({ a with defers := d :: a.defers } : Act).put oj.dst u) := fun d u =>
    ⟨(execOp_put oi hsi { a with defers := d :: a.defers } oj.dst u h3).trans rfl, (wanted_put oi { a with defers := d :: a.defers } oj.dst u h3).trans rfl⟩
  unfold wpOp at *
  simp only [hj] at *
  rw [wanted_put oj a oi.dst v h1] at h
  by_cases hw : Region.wanted oj (yielded ops a.tmps) = true
  · simp only [hw, if_true] at h ⊢
    rcases h with h | ⟨hasks, hlets⟩
    · refine .inl ?_
      unfold Oper.wp at *
      rw [execOp_put oj hsj a oi.dst v h1] at h
      generalize (execOp a.eval oj).run P w = r at *
      cases r with
      | ok n w' =>
        cases n <;> simp only [Oper.upon] at h ⊢
        case value u => exact ⟨keep u, by rw [← Act.put_comm a v u h2]; exact h⟩
        case skip => exact ⟨keep _, by rw [← Act.put_comm a v undef h2]; exact h⟩
        case defer d =>
          refine ⟨keepD d _, ?_⟩
          rw [← Act.put_comm _ v undef h2, ← Act.put_defers]
          exact h
        case enter f args =>
          refine Calls.mono h fun e w'' he => ?_
          cases e with
          | returned u => exact ⟨keep u, by rw [← Act.put_comm a v u h2]; exact he⟩
          | panicked c => exact hQ _ _ _ he
          | outgrown => exact he
        case row row args => exact Rows.mono h fun u w'' he => ⟨keep u, by rw [← Act.put_comm a v u h2]; exact he⟩
      | halt x w' =>
        cases x <;> simp only [Oper.upon] at h ⊢
        case panic u => exact hQ _ _ _ h
    · exact .inr ⟨by unfold Oper.asks at *; rw [execOp_put oj hsj a oi.dst v h1] at hasks; exact hasks, hlets⟩
  · have hw2 : Region.wanted oj (yielded ops a.tmps) = false := by simpa using hw
    simp only [hw2, Bool.false_eq_true, if_false] at h ⊢
    exact ⟨keep _, by rw [← Act.put_comm a v undef h2]; exact h⟩

/-- a store, that comes behind all else -/
def lateAt (ops : Array Oper) (i : Nat) : Bool := match ops[i]? with
  | some o => match o.op with
    | .store .. => true
    | _ => false
  | none => false

/-- what comes late waits for number i -/
def lateWaits (md : Region.Mode) (ops : Array Oper) (listed : Array Bool) (i : Nat) : Bool :=
  (List.range ops.size).all fun j => listed.getD j true || !lateAt ops j || match ops[j]? with
    | some oj => oj.after.any fun e => Region.binds md e && e.on == i
    | none => true

theorem lateWaits_spec {listed : Array Bool} {i j : Nat} (h : lateWaits md ops listed i = true) (hi : listed.getD i true = false) (hj : j ∈ Region.ready md ops listed) : lateAt ops j = false := by
  obtain ⟨h0, oj, hoj, hall⟩ := mem_ready.1 hj
  rw [lateWaits, List.all_eq_true] at h
  have h1 := h j (List.mem_range.2 (Array.getElem?_eq_some_iff.1 hoj).1)
  simp only [hoj, h0, Bool.false_or, Bool.or_eq_true] at h1
  rcases h1 with h1 | h1
  · simpa using h1
  · exfalso
    obtain ⟨e, he, hb⟩ := Array.any_eq_true'.1 h1
    rw [Bool.and_eq_true, beq_iff_eq] at hb
    have h2 := hall e he hb.1
    rw [hb.2] at h2
    rcases Nat.lt_or_ge i listed.size with h' | h'
    · simp [h'] at hi h2
      rw [hi] at h2
      cases h2
    · simp [Array.getElem?_eq_none h'] at h2

theorem lateWaits_more {listed : Array Bool} {i j : Nat} (h : lateWaits md ops listed i = true) : lateWaits md ops (listed.setIfInBounds j true) i = true := by
  rw [lateWaits, List.all_eq_true] at *
  intro k hk
  have h1 := h k hk
  rw [Bool.or_assoc, Bool.or_eq_true] at h1 ⊢
  rcases h1 with h1 | h1
  · refine .inl ?_
    by_cases hjk : j = k
    · subst hjk
      simp [Array.getElem?_setIfInBounds]
      split <;> rfl
    · rw [getD_set_ne true hjk]; exact h1
  · exact .inr h1

/-- whatever order is picked, from any later world on -/
def anyM (P : Program) (md : Region.Mode) (ops : Array Oper) (Q : Exit → Act → World → Prop) : Nat → Array Bool → Act → World → Prop
  | 0, listed, a, w => Region.ready md ops listed = [] ∧ ∀ w', Ext w w' → Q .normal a w'
  | f + 1, listed, a, w => ∀ w', Ext w w' → (Region.ready md ops listed = [] → Q .normal a w') ∧
      ∀ i ∈ Region.ready md ops listed, wpOp P ops Q i (fun a2 w2 => if lateAt ops i = true then wpAny P md ops Q f (listed.setIfInBounds i true) a2 w2 else Ext w' w2 ∧ anyM P md ops Q f (listed.setIfInBounds i true) a2 w2) a w'

theorem anyM.later : ∀ {f : Nat} {listed : Array Bool} {a : Act} {w w' : World}, anyM P md ops Q f listed a w → Ext w w' → anyM P md ops Q f listed a w'
  | 0, _, _, _, _, h, x => ⟨h.1, fun _ y => h.2 _ (Ext.trans x y)⟩
  | _ + 1, _, _, _, _, h, x => fun _ y => h _ (Ext.trans x y)

theorem anyM.any : ∀ {f : Nat} {listed : Array Bool} {a : Act} {w : World}, anyM P md ops Q f listed a w → wpAny P md ops Q f listed a w
  | 0, _, _, _, h => ⟨h.1, h.2 _ (Ext.refl _)⟩
  | _ + 1, _, _, w, h => ⟨(h w (Ext.refl _)).1, fun i hi => wpOp_mono (fun _ _ h2 => by
      by_cases hl : lateAt ops i = true
      · rwa [if_pos hl] at h2
      · rw [if_neg hl] at h2; exact h2.2.any) ((h w (Ext.refl _)).2 i hi)⟩

theorem anyM_first {i : Nat} {oi : Oper} {v : Value} (hi : ops[i]? = some oi) (hsel : ∀ (j : Nat) (o : Oper) cs b, ops[j]? = some o → o.op ≠ .select cs b)
    (hQ : ∀ c a w, Q (.panic c) (a.put oi.dst v) w → Q (.panic c) a w) :
    ∀ (f : Nat) (listed : Array Bool) (a : Act) (w : World),
      (∀ j oj, ops[j]? = some oj → j ≠ i → listed.getD j true = false → (∀ e ∈ oj.after, Region.binds md e = true → e.on ≠ i) → oi.apart ops oj = true) →
      i ∈ Region.ready md ops listed → lateWaits md ops listed i = true → Takes P ops oi v a w →
      anyM P md ops Q f (listed.setIfInBounds i true) (a.put oi.dst v) w → anyM P md ops Q (f + 1) listed a w := by
  intro f
  induction f with
  | zero =>
    intro listed a w _ hr hlw ht H w' x
    refine ⟨fun h => (by rw [h] at hr; cases hr), fun j hj => ?_⟩
    by_cases hji : j = i
    · subst hji
      have hnl := lateWaits_spec hlw (mem_ready.1 hr).1 hj
      exact (ht.later ⟨rfl, rfl⟩ x).wpOp hi fun w2 y => by rw [hnl]; exact ⟨y, H.later (Ext.trans x y)⟩
    · have := ready_mono hj hji
      rw [H.1] at this
      cases this
  | succ f ih =>
    intro listed a w hfree hr hlw ht H w' x
    refine ⟨fun h => (by rw [h] at hr; cases hr), fun j hj => ?_⟩
    have hnl := lateWaits_spec hlw (mem_ready.1 hr).1 hj
    by_cases hji : j = i
    · subst hji
      exact (ht.later ⟨rfl, rfl⟩ x).wpOp hi fun w2 y => by rw [hnl]; exact ⟨y, H.later (Ext.trans x y)⟩
    · have h1 := (H w' x).2 j (ready_mono hj hji)
      obtain ⟨hjun, oj, hoj, hall⟩ := mem_ready.1 hj
      have hnot : ∀ e ∈ oj.after, Region.binds md e = true → e.on ≠ i := fun e he hb heq => by
        have h1 := hall e he hb
        have h0 := (mem_ready.1 hr).1
        rw [heq] at h1
        rcases Nat.lt_or_ge i listed.size with h' | h'
        · simp [h'] at h0 h1; rw [h0] at h1; cases h1
        · simp [Array.getElem?_eq_none h'] at h1
      have h2 := wpOp_apart hoj (hfree j oj hoj hji hjun hnot) (fun cs b => hsel i oi cs b hi) (fun cs b => hsel j oj cs b hoj) hQ h1
      refine wpOp_mono (fun a' w2 h3 => ?_) h2
      rw [hnl] at h3 ⊢
      rw [if_neg (by decide)] at h3 ⊢
      refine ⟨h3.2.1, ih (listed.setIfInBounds j true) a' w2 (fun k ok hk hki hun hno => ?_) (ready_mono hr (Ne.symm hji)) (lateWaits_more hlw) (ht.later h3.1 (Ext.trans x h3.2.1)) ?_⟩
      · refine hfree k ok hk hki ?_ hno
        by_cases hjk : j = k
        · subst hjk; exact hjun
        · rw [getD_set_ne true hjk] at hun; exact hun
      · rw [Array.setIfInBounds_comm _ _ hji]
        exact h3.2.2

/-! The moves of a walk. -/

theorem wp_region_M {id : Nat} {a : Act} {w : World} (hm : P.follows .mixedOrders = true)
    (h : anyM P .any ops (NoPanic Q) ops.size (Array.replicate ops.size false) a w) : (Code.region id ops true).wp P Q a w :=
  wp_region_noPanic (wp_region_any hm (h.later (Ext.drew (Ext.refl w))).any)

theorem wp_region_M_lit {id : Nat} {a : Act} {w : World} {l : List Oper} (hm : P.follows .mixedOrders = true)
    (h : anyM P .any l.toArray (NoPanic Q) l.length (Array.replicate l.length false) a w) : (Code.region id l.toArray true).wp P Q a w :=
  wp_region_M hm (by simpa using h)

/-- what a take asks of the region's text -/
def takeB (md : Region.Mode) (ops : Array Oper) (listed : Array Bool) (i : Nat) : Bool :=
  (Region.ready md ops listed).contains i && Region.noSelect ops && Region.free md ops listed i && lateWaits md ops listed i

/-- a value is taken first -/
theorem takeV (i : Nat) {oi : Oper} {v : Value} {f : Nat} {listed : Array Bool} {a : Act} {w : World} (hi : ops[i]? = some oi := by simp only [List.getElem?_toArray, List.getElem?_cons, reduceIte]; rfl) (hb : takeB md ops listed i = true := by kernel_rfl)
    (hw : Region.wanted oi (yielded ops a.tmps) = true := by rfl) (hv : ∀ w', Ext w w' → (execOp a.eval oi).run P w' = .ok (.value v) w')
    (h : anyM P md ops (NoPanic Q) f (listed.setIfInBounds i true) (a.put oi.dst v) w) : anyM P md ops (NoPanic Q) (f + 1) listed a w := by
  simp only [takeB, Bool.and_eq_true] at hb
  obtain ⟨⟨⟨h1, h2⟩, h3⟩, h4⟩ := hb
  exact anyM_first hi (Region.noSelect_spec h2) (fun _ _ _ h => h) f listed a w (Region.free_spec hi h3) (by simpa using h1) h4 (.inl ⟨hw, fun w' x => by rw [hv w' x]; exact ⟨rfl, Ext.refl _⟩⟩) h

/-- .. with all that is asked told by the walk's own tactics -/
theorem tv (i : Nat) {oi : Oper} {v : Value} {f : Nat} {listed : Array Bool} {a a' : Act} {w : World} (hi : ops[i]? = some oi := by simp only [List.getElem?_toArray, List.getElem?_cons, reduceIte]; rfl) (hb : takeB md ops listed i = true := by kernel_rfl)
    (hw : Region.wanted oi (yielded ops a.tmps) = true := by rfl) (hv : ∀ w', Ext w w' → (execOp a.eval oi).run P w' = .ok (.value v) w' := by intro w' hw'; go_simp; first | done | with_reducible rfl)
    (ha : a.put oi.dst v = a' := by simp only [Act.put, List.setIfInBounds_toArray, List.set]; rfl)
    (h : anyM P md ops (NoPanic Q) f (listed.setIfInBounds i true) a' w) : anyM P md ops (NoPanic Q) (f + 1) listed a w := takeV i hi hb hw hv (ha ▸ h)

/-- whatever gives one value is taken first -/
theorem takeG (i : Nat) {oi : Oper} {v : Value} {f : Nat} {listed : Array Bool} {a : Act} {w : World} (hi : ops[i]? = some oi := by simp only [List.getElem?_toArray, List.getElem?_cons, reduceIte]; rfl) (hb : takeB md ops listed i = true := by kernel_rfl)
    (hw : Region.wanted oi (yielded ops a.tmps) = true := by rfl) (hv : ∀ w', Ext w w' → givesV P v w' ((execOp a.eval oi).run P w'))
    (h : anyM P md ops (NoPanic Q) f (listed.setIfInBounds i true) (a.put oi.dst v) w) : anyM P md ops (NoPanic Q) (f + 1) listed a w := by
  simp only [takeB, Bool.and_eq_true] at hb
  obtain ⟨⟨⟨h1, h2⟩, h3⟩, h4⟩ := hb
  exact anyM_first hi (Region.noSelect_spec h2) (fun _ _ _ h => h) f listed a w (Region.free_spec hi h3) (by simpa using h1) h4 (.inl ⟨hw, hv⟩) h

/-- a callee that leaves the world as it is -/
theorem gives_same {fn : FuncId} {args : Array Value} {v : Value} {w : World} (h : Calls P fn args w fun e w' => e = .returned v ∧ w = w') : Calls P fn args w fun e w' => e = .returned v ∧ Ext w w' :=
  h.mono fun _ _ ⟨h1, h2⟩ => ⟨h1, h2 ▸ Ext.refl _⟩

/-- what isn't wanted is passed over -/
theorem takeU (i : Nat) {oi : Oper} {f : Nat} {listed : Array Bool} {a : Act} {w : World} (hi : ops[i]? = some oi := by simp only [List.getElem?_toArray, List.getElem?_cons, reduceIte]; rfl) (hb : takeB md ops listed i = true := by kernel_rfl)
    (hw : Region.wanted oi (yielded ops a.tmps) = false := by rfl)
    (h : anyM P md ops (NoPanic Q) f (listed.setIfInBounds i true) (a.put oi.dst undef) w) : anyM P md ops (NoPanic Q) (f + 1) listed a w := by
  simp only [takeB, Bool.and_eq_true] at hb
  obtain ⟨⟨⟨h1, h2⟩, h3⟩, h4⟩ := hb
  exact anyM_first hi (Region.noSelect_spec h2) (fun _ _ _ h => h) f listed a w (Region.free_spec hi h3) (by simpa using h1) h4 (.inr ⟨hw, rfl⟩) h

/-- only one may come up: it is run -/
theorem runOne (i : Nat) {oi : Oper} {f : Nat} {listed : Array Bool} {a : Act} {w : World} (hi : ops[i]? = some oi := by simp only [List.getElem?_toArray, List.getElem?_cons, reduceIte]; rfl) (hr : Region.ready md ops listed = [i] := by kernel_rfl) (hl : lateAt ops i = false := by kernel_rfl)
    (hw : Region.wanted oi (yielded ops a.tmps) = true := by rfl)
    (h : ∀ w', Ext w w' → oi.wp P a w' (fun a2 w2 => Ext w' w2 ∧ anyM P md ops Q f (listed.setIfInBounds i true) a2 w2) Q) : anyM P md ops Q (f + 1) listed a w := fun w' x =>
  ⟨fun e => (by rw [hr] at e; cases e), fun j hj => by
    rw [hr, List.mem_singleton] at hj
    subst hj
    unfold wpOp
    simp only [hi, hw, if_true, hl, Bool.false_eq_true, if_false]
    exact .inl (h w' x)⟩

/-- a store, at the end -/
theorem runLate (i : Nat) {oi : Oper} {f : Nat} {listed : Array Bool} {a : Act} {w : World} (hi : ops[i]? = some oi := by simp only [List.getElem?_toArray, List.getElem?_cons, reduceIte]; rfl) (hr : Region.ready md ops listed = [i] := by kernel_rfl) (hl : lateAt ops i = true := by kernel_rfl)
    (hw : Region.wanted oi (yielded ops a.tmps) = true := by rfl)
    (h : ∀ w', Ext w w' → oi.wp P a w' (fun a2 w2 => wpAny P md ops Q f (listed.setIfInBounds i true) a2 w2) Q) : anyM P md ops Q (f + 1) listed a w := fun w' x =>
  ⟨fun e => (by rw [hr] at e; cases e), fun j hj => by
    rw [hr, List.mem_singleton] at hj
    subst hj
    unfold wpOp
    simp only [hi, hw, if_true, hl]
    exact .inl (h w' x)⟩

/-- behind a store: one more that comes up -/
theorem lateOne (i : Nat) {oi : Oper} {f : Nat} {listed : Array Bool} {a : Act} {w : World} (hi : ops[i]? = some oi) (hr : Region.ready md ops listed = [i])
    (hw : Region.wanted oi (yielded ops a.tmps) = true)
    (h : oi.wp P a w (fun a2 w2 => wpAny P md ops Q f (listed.setIfInBounds i true) a2 w2) Q) : wpAny P md ops Q (f + 1) listed a w :=
  ⟨fun e => (by rw [hr] at e; cases e), fun j hj => by
    rw [hr, List.mem_singleton] at hj
    subst hj
    unfold wpOp
    simp only [hi, hw, if_true]
    exact .inl h⟩

theorem lateDone {f : Nat} {listed : Array Bool} {a : Act} {w : World} (hr : Region.ready md ops listed = []) (h : Q .normal a w) : wpAny P md ops (NoPanic Q) f listed a w := by
  cases f with
  | zero => exact ⟨hr, h⟩
  | succ f => exact ⟨fun _ => h, fun j hj => by rw [hr] at hj; cases hj⟩

theorem doneM {f : Nat} {listed : Array Bool} {a : Act} {w : World} (hr : Region.ready md ops listed = []) (h : ∀ w', Ext w w' → Q .normal a w') : anyM P md ops (NoPanic Q) f listed a w := by
  cases f with
  | zero => exact ⟨hr, fun w' x => h w' x⟩
  | succ f => exact fun w' x => ⟨fun _ => h w' x, fun j hj => by rw [hr] at hj; cases hj⟩
end
end Go.Proofs.Ytgcnjkabpcbkgaa
