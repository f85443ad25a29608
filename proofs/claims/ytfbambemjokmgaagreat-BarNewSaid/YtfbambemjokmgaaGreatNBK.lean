/- Texts of this seat. -/
import Derived.Test.YtfbambemjokmgaaGreatNAV
import Derived.Test.YtfbambemjokmgaaGreatNBJ
namespace Go.Proofs.YtfbambemjokmgaaGreat
theorem Ed.facts {s : Ed} (h : s.ok = true) : ∃ v, s.left = v + 1 ∧ chkOnce v s = true ∧ (calm4 s = true → chkRest v s = true) := by
  unfold Ed.ok at h
  simp only [Bool.and_eq_true, decide_eq_true_eq] at h
  obtain ⟨h1, h2⟩ := h
  obtain ⟨v, hv⟩ : ∃ v, s.left = v + 1 := ⟨s.left - 1, by have := Nat.le_of_ble_eq_true h1; omega⟩
  have hc := Tr.all_get tbl_all hv
  unfold chkE at hc
  rw [h2] at hc
  simp only [Bool.and_eq_true] at hc
  refine ⟨v, hv, hc.1.2, fun h4 => ?_⟩
  have hr := hc.2
  rw [h4, Bool.not_true, Bool.false_or] at hr
  exact hr
theorem next1_out {v : Nat} {s : Ed} (h : next1 v s = true) : s.ok = true ∧ s.left ≤ v + 1 := by
  unfold next1 at h
  simp only [Bool.and_eq_true] at h
  exact ⟨h.1, Nat.le_of_ble_eq_true h.2⟩
theorem Ed.ok_once {s : Ed} (h : s.ok = true) {e d : Bool} (hm : s.may e d = true) : (s.once e d).ok = true ∧ (s.once e d).left ≤ s.left := by
  obtain ⟨v, hv, hc, _⟩ := s.facts h
  unfold chkOnce at hc
  simp only [Bool.and_eq_true, Bool.or_eq_true, Bool.not_eq_true'] at hc
  obtain ⟨c1, c2, c3, c4⟩ := hc
  rw [hv]
  cases e <;> cases d
  · rw [hm] at c1; exact next1_out (c1.resolve_left (by simp))
  · rw [hm] at c3; exact next1_out (c3.resolve_left (by simp))
  · rw [hm] at c2; exact next1_out (c2.resolve_left (by simp))
  · rw [hm] at c4; exact next1_out (c4.resolve_left (by simp))
theorem Ed.rest {s : Ed} (h : s.ok = true) (hc : s.once false false = s) : (s.swap.ok = true ∧ s.swap.left ≤ s.left) ∧ (s.n ≠ [] → s.free = true ∧ s.come.ok = true ∧ s.come.left < s.left) ∧ (s.ta = 0 → (s.open_ true).ok = true ∧ (s.open_ false).ok = true) ∧ (s.ta ≠ 0 → s.close_.ok = true) := by
  obtain ⟨v, hv, _, hr⟩ := s.facts h
  have hr := hr (by unfold calm4; rw [hc]; simp)
  unfold chkRest at hr
  simp only [Bool.and_eq_true, Bool.or_eq_true] at hr
  obtain ⟨r1, r2, r3⟩ := hr
  rw [hv]
  refine ⟨next1_out r1, fun hn => ?_, fun h0 => ?_, fun h0 => ?_⟩
  · rcases r2 with r2 | r2
    · exact absurd (by simpa using r2) hn
    · exact ⟨r2.1.1, r2.1.2, Nat.le_of_ble_eq_true r2.2⟩
  · have e0 : (s.ta == 0) = true := by rw [h0]; rfl
    rw [e0, cond_true, Bool.and_eq_true] at r3
    exact r3
  · have : (s.ta == 0) = false := by simpa using h0
    rw [this, cond_false] at r3; exact r3
def esOf (s : Sd) : Es := ⟨s.fork, s.dirty, s.token, s.bottle, s.ask⟩
def kn (m : Ml) : Nat := m.kind.toNat
def edOf (x y : Sd) (mab mba : List Ml) (pa pb ta tb : Int) (na nb : Bool) : Ed := ⟨esOf x, esOf y, pa.toNat, pb.toNat, ta.toNat, tb.toNat, na, nb, mab.map kn, mba.map kn⟩
def fireE (p : Int) (e : Bool) (x : Sd) : Sd := if e = true then { fireS1 p x with dirty := true } else fireS1 p x
def onceS (t p : Int) (need : List Int) (e : Bool) (x : Sd) : Sd := bottleS t need (fireE p e x)
def onceM (id t p : Int) (need : List Int) (e : Bool) (x : Sd) : List Ml := fireM1 id p x ++ bottleM id t need (fireE p e x)
def poursQ (t : Int) (q : Bool) (s : Sd) : Bool := s.bottle && s.ask && !(q && (decide (t = 2) || (decide (t = 1) && s.fork)))
def pourQ (t : Int) (q : Bool) (s : Sd) : Sd := if poursQ t q s = true then { s with bottle := false } else s
def asksQ (t : Int) (q : Bool) (s : Sd) : Bool := q && decide (t = 1) && s.ask && !s.bottle
def bottleQ (t : Int) (q : Bool) (s : Sd) : Sd := if asksQ t q (pourQ t q s) = true then { pourQ t q s with ask := false } else pourQ t q s
def kindsQ (t : Int) (q : Bool) (s : Sd) : List Nat := (if poursQ t q s = true then [3] else []) ++ (if asksQ t q (pourQ t q s) = true then [4] else [])
theorem bottle_q {t : Int} {need : List Int} {q : Bool} {s : Sd} (h : needsB need s = q) (id : Int) : bottleS t need s = bottleQ t q s ∧ (bottleM id t need s).map kn = kindsQ t q s := by
  subst h
  have e0 : pours t need s = poursQ t (needsB need s) s := rfl
  have e1 : poured t need s = pourQ t (needsB need s) s := rfl
  have e2 : needsB need (pourQ t (needsB need s) s) = needsB need s := by unfold pourQ; split <;> rfl
  have e3 : asksK t need (poured t need s) = asksQ t (needsB need s) (pourQ t (needsB need s) s) := by
    rw [e1]
    show asksQ t (needsB need (pourQ t (needsB need s) s)) (pourQ t (needsB need s) s) = _
    rw [e2]
  refine ⟨?_, ?_⟩
  · unfold bottleS bottleQ; rw [e3, e1]
  · unfold bottleM kindsQ
    rw [e3, e0, List.map_append]
    congr 1
    · split <;> rfl
    · split <;> rfl
theorem turn_nat {t ph : Int} (ht : t = 0 ∨ t = 1 ∨ t = 2) (hp : ph = 0 ∨ ph = 1 ∨ ph = 2) : turnN t.toNat ph.toNat = (turnK t false ph).toNat ∧ (turnK t false ph = 0 ∨ turnK t false ph = 1 ∨ turnK t false ph = 2) := by
  rcases ht with rfl | rfl | rfl <;> rcases hp with rfl | rfl | rfl <;> exact ⟨rfl, by decide⟩
def mailE (s : Ed) : List Nat := cond s.hot [1] [] ++ (cond s.wants [2] [] ++ (cond s.pours [3] [] ++ cond s.asks [4] []))
theorem fireM1_kn (id p : Int) (s : Sd) : (fireM1 id p s).map kn = (if hot p s = true then [1] else []) ++ (if wants p (gone p s) = true then [2] else []) := by
  unfold fireM1
  rw [List.map_append]
  congr 1
  · split <;> rfl
  · split <;> rfl
set_option maxHeartbeats 4000000 in
theorem link_q {t ph : Int} (ht : t = 0 ∨ t = 1 ∨ t = 2) (hp : ph = 0 ∨ ph = 1 ∨ ph = 2) (s y : Sd) (mab mba : List Ml) (pb tb : Int) (q nb e d : Bool) :
    esOf (bottleQ t q (fireE (turnK t false ph) e s)) = ((edOf s y mab mba ph pb t tb q nb).once e d).x ∧
    ((if hot (turnK t false ph) s = true then [1] else []) ++ (if wants (turnK t false ph) (gone (turnK t false ph) s) = true then [2] else [])) ++ kindsQ t q (fireE (turnK t false ph) e s) = mailE (edOf s y mab mba ph pb t tb q nb) := by
  obtain ⟨pe, ep, st, f, di, tk, b, k⟩ := s
  rcases ht with rfl | rfl | rfl <;> rcases hp with rfl | rfl | rfl <;> cases q <;> cases e <;> cases f <;> cases di <;> cases tk <;> cases b <;> cases k <;> exact ⟨rfl, rfl⟩
theorem needs_fire {need : List Int} {p : Int} {e : Bool} {s : Sd} : needsB need (fireE p e s) = decide (s.peer ∈ need) := by
  have : (fireE p e s).peer = s.peer := by
    obtain ⟨q1, _⟩ := fireS1_keeps p s
    unfold fireE; split
    · exact q1
    · exact q1
  unfold needsB; rw [this]
theorem link {t ph : Int} (ht : t = 0 ∨ t = 1 ∨ t = 2) (hp : ph = 0 ∨ ph = 1 ∨ ph = 2) (id : Int) (need : List Int) (s y : Sd) (mab mba : List Ml) (pb tb : Int) (nb e d : Bool) :
    edOf (onceS t (turnK t false ph) need e s) y (mab ++ onceM id t (turnK t false ph) need e s) mba (if e = true then 2 else turnK t false ph) pb (if d = true then 2 else t) tb (decide (s.peer ∈ need)) nb = (edOf s y mab mba ph pb t tb (decide (s.peer ∈ need)) nb).once e d := by
  obtain ⟨l1, l2⟩ := link_q ht hp s y mab mba pb tb (decide (s.peer ∈ need)) nb e d
  obtain ⟨b1, b2⟩ := bottle_q (t := t) (needs_fire (need := need) (p := turnK t false ph) (e := e) (s := s)) id
  have e1 : (onceM id t (turnK t false ph) need e s).map kn = mailE (edOf s y mab mba ph pb t tb (decide (s.peer ∈ need)) nb) := by
    unfold onceM
    rw [List.map_append, fireM1_kn, b2, l2]
  have e2 : esOf (onceS t (turnK t false ph) need e s) = ((edOf s y mab mba ph pb t tb (decide (s.peer ∈ need)) nb).once e d).x := by
    unfold onceS
    rw [b1, l1]
  unfold edOf at e1 e2 ⊢
  unfold Ed.once at e2 ⊢
  dsimp only at e2 ⊢
  have e3 : (if e = true then 2 else turnK t false ph).toNat = cond e 2 (turnN t.toNat ph.toNat) := by
    cases e
    · exact (turn_nat ht hp).1.symm
    · rfl
  have e4 : (if d = true then 2 else t).toNat = cond d 2 t.toNat := by cases d <;> rfl
  rw [List.map_append, e1, e2, e3, e4]
  rfl
end Go.Proofs.YtfbambemjokmgaaGreat
namespace Go.Proofs.YtfbambemjokmgaaGreat
def dkOf (nb : Nat → List Nat) (X : Nat → Nat → Sd) (P T : Nat → Int) (N : Nat → List Int) (i : Nat) : Dk := ⟨i, P i, (nb i).map (X i), T i, N i⟩
def eg (X : Nat → Nat → Sd) (P T : Nat → Int) (N : Nat → List Int) (ms : List Ml) (i k : Nat) : Ed :=
  edOf (X i k) (X k i) (chan ms i k) (chan ms k i) (P i) (P k) (T i) (T k) (decide ((k : Int) ∈ N i)) (decide ((i : Int) ∈ N k))
theorem eg_swap (X : Nat → Nat → Sd) (P T : Nat → Int) (N : Nat → List Int) (ms : List Ml) (i k : Nat) : (eg X P T N ms i k).swap = eg X P T N ms k i := rfl
theorem chan_flat {i : Int} {g : Sd → List Ml} (hg : ∀ s, ∀ m ∈ g s, m.from_ = i ∧ m.to_ = s.peer) {f : Nat → Sd} : ∀ {l : List Nat}, l.Pairwise (· < ·) → (∀ k ∈ l, (f k).peer = k) → ∀ k : Nat, k ∈ l → chan ((l.map f).flatMap g) i k = g (f k)
  | [], _, _, _, hk => by cases hk
  | j :: l, h, hf, k, hk => by
    obtain ⟨h1, h2⟩ := List.pairwise_cons.1 h
    have hj := hf j (List.mem_cons_self ..)
    have ih := chan_flat hg (f := f) h2 fun k hk => hf k (List.mem_cons_of_mem _ hk)
    rw [List.map_cons, List.flatMap_cons, chan_app]
    by_cases e : k = j
    · subst e
      have e1 : chan (g (f k)) i k = g (f k) := by
        unfold chan
        rw [List.filter_eq_self]
        intro m hm
        obtain ⟨q1, q2⟩ := hg _ m hm
        simp [q1, q2, hj]
      have e2 : chan ((l.map f).flatMap g) i k = [] := by
        unfold chan
        rw [List.filter_eq_nil_iff]
        intro m hm
        obtain ⟨s, hs, hm⟩ := List.mem_flatMap.1 hm
        obtain ⟨a, ha, rfl⟩ := List.mem_map.1 hs
        obtain ⟨q1, q2⟩ := hg _ m hm
        have q3 := hf a (List.mem_cons_of_mem _ ha)
        have q4 := h1 a ha
        simp only [q1, q2, q3, Bool.and_eq_true, beq_iff_eq, not_and]
        omega
      rw [e1, e2, List.append_nil]
    · have e1 : chan (g (f j)) i k = [] := by
        unfold chan
        rw [List.filter_eq_nil_iff]
        intro m hm
        obtain ⟨q1, q2⟩ := hg _ m hm
        simp only [q1, q2, hj, Bool.and_eq_true, beq_iff_eq, not_and]
        omega
      rw [e1, List.nil_append]
      exact ih k (by simpa [e] using hk)
theorem chan_else {i a : Int} {l : List Ml} (h : ∀ m ∈ l, m.from_ = i) (ha : a ≠ i) (k : Int) : chan l a k = [] := by
  unfold chan
  rw [List.filter_eq_nil_iff]
  intro m hm
  simp only [h m hm, Bool.and_eq_true, beq_iff_eq, not_and]
  intro e; exact absurd e.symm ha
theorem fireM1_from (id p : Int) (s : Sd) : ∀ m ∈ fireM1 id p s, (m.from_ = id ∧ m.to_ = s.peer) ∧ m.epoch = s.epoch ∧ m.num = 0 := fun m hm => by
  unfold fireM1 at hm
  rw [List.mem_append] at hm
  rcases hm with hm | hm
  · split at hm
    · simp only [List.mem_singleton] at hm; rw [hm]; exact ⟨⟨rfl, rfl⟩, rfl, rfl⟩
    · cases hm
  · split at hm
    · simp only [List.mem_singleton] at hm; rw [hm]; exact ⟨⟨rfl, rfl⟩, rfl, rfl⟩
    · cases hm
theorem bottleM_from (id t : Int) (need : List Int) (s : Sd) : ∀ m ∈ bottleM id t need s, (m.from_ = id ∧ m.to_ = s.peer) ∧ m.epoch = s.epoch ∧ m.num = 0 := fun m hm => by
  unfold bottleM at hm
  rw [List.mem_append] at hm
  rcases hm with hm | hm
  · split at hm
    · simp only [List.mem_singleton] at hm; rw [hm]; exact ⟨⟨rfl, rfl⟩, rfl, rfl⟩
    · cases hm
  · split at hm
    · simp only [List.mem_singleton] at hm; rw [hm]; exact ⟨⟨rfl, rfl⟩, rfl, rfl⟩
    · cases hm
theorem fireE_keeps (p : Int) (e : Bool) (s : Sd) : (fireE p e s).peer = s.peer ∧ (fireE p e s).epoch = s.epoch ∧ (fireE p e s).state = s.state := by
  obtain ⟨q1, q2, q3, _⟩ := fireS1_keeps p s
  unfold fireE; split
  · exact ⟨q1, q2, q3⟩
  · exact ⟨q1, q2, q3⟩
theorem onceS_keeps (t p : Int) (need : List Int) (e : Bool) (s : Sd) : (onceS t p need e s).peer = s.peer ∧ (onceS t p need e s).epoch = s.epoch ∧ (onceS t p need e s).state = s.state := by
  obtain ⟨q1, q2, q3⟩ := fireE_keeps p e s
  obtain ⟨r1, r2, r3, _⟩ := bottleS_keeps t need (fireE p e s)
  unfold onceS
  exact ⟨r1.trans q1, r2.trans q2, r3.trans q3⟩
section
variable (nb : Nat → List Nat) (X : Nat → Nat → Sd) (P T : Nat → Int) (N : Nat → List Int) (i : Nat)
def pK : Int := turnK (T i) false (P i)
def eK : Bool := eats (pK P T i) (fireSs (pK P T i) ((nb i).map (X i)))
def XO : Nat → Nat → Sd := fun a k => if a = i then onceS (T i) (pK P T i) (N i) (eK nb X P T i) (X i k) else X a k
def PO : Nat → Int := fun a => if a = i then (if eK nb X P T i = true then 2 else pK P T i) else P a
def drK : Bool := decide (T i = 1) && !missB (N i) ((nb i).map (XO nb X P T N i i))
def TO : Nat → Int := fun a => if a = i then (if drK nb X P T N i = true then 2 else T i) else T a
def MO : List Ml := (onceK (dkOf nb X P T N i)).2
theorem XO_i (k : Nat) : XO nb X P T N i i k = onceS (T i) (pK P T i) (N i) (eK nb X P T i) (X i k) := by unfold XO; rw [if_pos rfl]
theorem XO_o {a : Nat} (h : a ≠ i) (k : Nat) : XO nb X P T N i a k = X a k := by unfold XO; rw [if_neg h]
theorem PO_i : PO nb X P T i i = if eK nb X P T i = true then 2 else pK P T i := by unfold PO; rw [if_pos rfl]
theorem PO_o {a : Nat} (h : a ≠ i) : PO nb X P T i a = P a := by unfold PO; rw [if_neg h]
theorem TO_i : TO nb X P T N i i = if drK nb X P T N i = true then 2 else T i := by unfold TO; rw [if_pos rfl]
theorem TO_o {a : Nat} (h : a ≠ i) : TO nb X P T N i a = T a := by unfold TO; rw [if_neg h]
theorem dk_o {a : Nat} (h : a ≠ i) : dkOf nb (XO nb X P T N i) (PO nb X P T i) (TO nb X P T N i) N a = dkOf nb X P T N a := by
  unfold dkOf
  rw [PO_o nb X P T i h, TO_o nb X P T N i h]
  have : (nb a).map (XO nb X P T N i a) = (nb a).map (X a) := List.map_congr_left fun k _ => XO_o nb X P T N i h k
  rw [this]
variable (hop : isOpening ((nb i).map (X i)) = false)
include hop
theorem pre_is : preK (dkOf nb X P T N i) = ⟨i, pK P T i, (nb i).map (X i)⟩ := by
  unfold preK dkOf pK
  dsimp only
  rw [hop]
theorem fireD_is : (fireD (preK (dkOf nb X P T N i))).phase = PO nb X P T i i ∧ (fireD (preK (dkOf nb X P T N i))).sides = (nb i).map fun k => fireE (pK P T i) (eK nb X P T i) (X i k) := by
  rw [pre_is nb X P T N i hop, PO_i]
  unfold fireD
  dsimp only
  cases he : eK nb X P T i
  · have he' : eats (pK P T i) (fireSs (pK P T i) ((nb i).map (X i))) = false := he
    rw [he', if_neg (by simp)]
    refine ⟨by rw [if_neg (by simp)], ?_⟩
    unfold fireSs fireE
    simp
  · have he' : eats (pK P T i) (fireSs (pK P T i) ((nb i).map (X i))) = true := he
    rw [he', if_pos rfl]
    refine ⟨by rw [if_pos rfl], ?_⟩
    unfold fireSs fireE dirtyAll
    simp
theorem once_dk : (onceK (dkOf nb X P T N i)).1 = dkOf nb (XO nb X P T N i) (PO nb X P T i) (TO nb X P T N i) N i := by
  obtain ⟨q1, q2⟩ := fireD_is nb X P T N i hop
  have e1 : (fireD (preK (dkOf nb X P T N i))).sides.map (bottleS (T i) (N i)) = (nb i).map (XO nb X P T N i i) := by
    rw [q2, List.map_map]
    refine List.map_congr_left fun k _ => ?_
    rw [XO_i]; rfl
  have e0 : (fireD (preK (dkOf nb X P T N i))).id = i := (fireD_ways _).1.trans rfl
  have ht : (dkOf nb X P T N i).thirst = T i := rfl
  have hn : (dkOf nb X P T N i).need = N i := rfl
  unfold onceK
  rw [ht, hn, e1, e0, q1]
  dsimp only
  unfold dkOf
  rw [TO_i]
  congr 1
  unfold drK
  by_cases h1 : T i = 1
  · cases hm : missB (N i) ((nb i).map (XO nb X P T N i i))
    · rw [if_pos ⟨h1, rfl⟩, if_pos (by simp [h1])]
    · rw [if_neg (by simp), if_neg (by simp)]
  · rw [if_neg (fun h => h1 h.1), if_neg (by simp [h1])]
theorem once_ml : MO nb X P T N i = ((nb i).map (X i)).flatMap (fireM1 i (pK P T i)) ++ ((nb i).map fun k => fireE (pK P T i) (eK nb X P T i) (X i k)).flatMap (bottleM i (T i) (N i)) := by
  obtain ⟨q1, q2⟩ := fireD_is nb X P T N i hop
  unfold MO onceK
  dsimp only
  rw [q2, pre_is nb X P T N i hop]
  rfl
end
section
variable {n : Nat} {nb : Nat → List Nat} {ep : Int} {X : Nat → Nat → Sd} {P T : Nat → Int} {N : Nat → List Int} {ms : List Ml} {i : Nat}
structure BC (n : Nat) (nb : Nat → List Nat) (ep : Int) (X : Nat → Nat → Sd) (P T : Nat → Int) (N : Nat → List Int) (ms : List Ml) : Prop where
  pr : ∀ i k, i < n → k ∈ nb i → (X i k).peer = k ∧ (X i k).epoch = ep ∧ (X i k).state = 0
  ph : ∀ i, i < n → P i = 0 ∨ P i = 1 ∨ P i = 2
  th : ∀ i, i < n → T i = 0 ∨ T i = 1 ∨ T i = 2
  nd : ∀ i, i < n → (T i = 0 → N i = []) ∧ riseB (N i) = true ∧ ∀ p ∈ N i, ∃ k : Nat, k ∈ nb i ∧ p = k
  mail : ∀ m ∈ ms, (∃ i k : Nat, i < n ∧ k ∈ nb i ∧ m.from_ = i ∧ m.to_ = k) ∧ m.epoch = ep ∧ m.num = 0
structure BB (n : Nat) (nb : Nat → List Nat) (ep : Int) (X : Nat → Nat → Sd) (P T : Nat → Int) (N : Nat → List Int) (ms : List Ml) : Prop where
  c : BC n nb ep X P T N ms
  edge : ∀ i k, i < n → k ∈ nb i → (eg X P T N ms i k).ok = true
  calm : ∀ i, i < n → (onceK (dkOf nb X P T N i)).1 = dkOf nb X P T N i
structure BW (n : Nat) (nb : Nat → List Nat) (ep : Int) (X : Nat → Nat → Sd) (P T : Nat → Int) (N : Nat → List Int) (ms : List Ml) (i : Nat) : Prop where
  c : BC n nb ep X P T N ms
  mine : ∀ k, k ∈ nb i → (eg X P T N ms i k).ok = true
  edge : ∀ a k, a < n → k ∈ nb a → a ≠ i → k ≠ i → (eg X P T N ms a k).ok = true
  calm : ∀ a, a < n → a ≠ i → (onceK (dkOf nb X P T N a)).1 = dkOf nb X P T N a
theorem BC.hop (h : BC n nb ep X P T N ms) (hi : i < n) : isOpening ((nb i).map (X i)) = false := by
  unfold isOpening
  rw [List.any_eq_false]
  intro s hs
  obtain ⟨k, hk, rfl⟩ := List.mem_map.1 hs
  rw [(h.pr i k hi hk).2.2]
  decide
theorem mo_from (hop : isOpening ((nb i).map (X i)) = false) : ∀ m ∈ MO nb X P T N i, m.from_ = i ∧ ∃ k, k ∈ nb i ∧ m.to_ = (X i k).peer ∧ m.epoch = (X i k).epoch ∧ m.num = 0 := by
  intro m hm
  rw [once_ml nb X P T N i hop, List.mem_append] at hm
  rcases hm with hm | hm
  · obtain ⟨s, hs, hm⟩ := List.mem_flatMap.1 hm
    obtain ⟨k, hk, rfl⟩ := List.mem_map.1 hs
    obtain ⟨⟨q1, q2⟩, q3, q4⟩ := fireM1_from _ _ _ m hm
    exact ⟨q1, k, hk, q2, q3, q4⟩
  · obtain ⟨s, hs, hm⟩ := List.mem_flatMap.1 hm
    obtain ⟨k, hk, rfl⟩ := List.mem_map.1 hs
    obtain ⟨⟨q1, q2⟩, q3, q4⟩ := bottleM_from _ _ _ _ m hm
    obtain ⟨r1, r2, _⟩ := fireE_keeps (pK P T i) (eK nb X P T i) (X i k)
    exact ⟨q1, k, hk, q2.trans r1, q3.trans r2, q4⟩
theorem chan_mo (h : BC n nb ep X P T N ms) (hn : NB n nb) (hi : i < n) {k : Nat} (hk : k ∈ nb i) : chan (ms ++ MO nb X P T N i) i k = chan ms i k ++ onceM i (T i) (pK P T i) (N i) (eK nb X P T i) (X i k) := by
  rw [chan_app, once_ml nb X P T N i (h.hop hi), chan_app]
  rw [chan_flat (g := fireM1 i (pK P T i)) (fun s m hm => (fireM1_from _ _ s m hm).1) (hn.up i) (fun k hk => (h.pr i k hi hk).1) k hk]
  rw [chan_flat (g := bottleM i (T i) (N i)) (fun s m hm => (bottleM_from _ _ _ s m hm).1) (f := fun k => fireE (pK P T i) (eK nb X P T i) (X i k)) (hn.up i) (fun k hk => (fireE_keeps _ _ _).1.trans (h.pr i k hi hk).1) k hk]
  rfl
theorem chan_mo_o (h : BC n nb ep X P T N ms) (hi : i < n) {a : Nat} (ha : a ≠ i) (k : Int) : chan (ms ++ MO nb X P T N i) a k = chan ms a k := by
  rw [chan_app, chan_else (fun m hm => (mo_from (h.hop hi) m hm).1) (by omega), List.append_nil]
theorem eg_once (h : BC n nb ep X P T N ms) (hn : NB n nb) (hi : i < n) {k : Nat} (hk : k ∈ nb i) :
    eg (XO nb X P T N i) (PO nb X P T i) (TO nb X P T N i) N (ms ++ MO nb X P T N i) i k = (eg X P T N ms i k).once (eK nb X P T i) (drK nb X P T N i) := by
  have b2 := (hn.back i k hi hk).2.1
  have hl := link (h.th i hi) (h.ph i hi) i (N i) (X i k) (X k i) (chan ms i k) (chan ms k i) (P k) (T k) (decide ((i : Int) ∈ N k)) (eK nb X P T i) (drK nb X P T N i)
  rw [(h.pr i k hi hk).1] at hl
  unfold eg
  rw [← hl, XO_i, XO_o nb X P T N i b2, PO_i, PO_o nb X P T i b2, TO_i, TO_o nb X P T N i b2, chan_mo h hn hi hk, chan_mo_o h hi b2]
  rfl
theorem eg_once_o (h : BC n nb ep X P T N ms) (hi : i < n) {a k : Nat} (ha : a ≠ i) (hk : k ≠ i) :
    eg (XO nb X P T N i) (PO nb X P T i) (TO nb X P T N i) N (ms ++ MO nb X P T N i) a k = eg X P T N ms a k := by
  unfold eg
  rw [XO_o nb X P T N i ha, XO_o nb X P T N i hk, PO_o nb X P T i ha, PO_o nb X P T i hk, TO_o nb X P T N i ha, TO_o nb X P T N i hk, chan_mo_o h hi ha, chan_mo_o h hi hk]
end
end Go.Proofs.YtfbambemjokmgaaGreat
namespace Go.Proofs.YtfbambemjokmgaaGreat
theorem Ed.prop {s : Ed} (h : s.ok = true) : propE s = true := by
  obtain ⟨v, hv, _⟩ := s.facts h
  have hc := Tr.all_get tbl_prop hv
  unfold Ed.ok at h
  simp only [Bool.and_eq_true, decide_eq_true_eq] at h
  rw [h.2] at hc
  exact hc
structure GoodEd (s : Ed) : Prop where
  one1 : bn s.x.f + bn s.y.f + (cntN 1 s.m + cntN 1 s.n) = 1
  one2 : bn s.x.t + bn s.y.t + (cntN 2 s.m + cntN 2 s.n) = 1
  one3 : bn s.x.b + bn s.y.b + (cntN 3 s.m + cntN 3 s.n) = 1
  one4 : bn s.x.k + bn s.y.k + (cntN 4 s.m + cntN 4 s.n) = 1
  anti : s.swap.ah = !s.ah
  turn0 : (s.once false false).ah = s.ah
  turn1 : s.may true false = true → (s.once true false).ah = false
  dx : s.x.d = true → s.x.f = true
  has : s.ta = 2 → s.na = true → s.x.b = true
  eat : s.pa = 2 → s.x.f = true ∧ s.x.d = true
  come : s.once false false = s → s.n ≠ [] → s.come.ah = s.ah
  prog : s.once false false = s → s.m = [] → s.n = [] → s.pa = 1 → s.x.f = false → s.pb = 2 ∨ (s.pb = 1 ∧ s.ah = false)
  bot : s.once false false = s → s.m = [] → s.n = [] → s.ta = 1 → s.na = true → s.x.b = false → s.nb = true ∧ (s.tb = 2 ∨ (s.tb = 1 ∧ s.y.f = true))
theorem Ed.good {s : Ed} (h : s.ok = true) : GoodEd s := by
  have hp := s.prop h
  unfold propE at hp
  simp only [Bool.and_eq_true] at hp
  obtain ⟨h1, h2, h3, h4, h5, h6, h7, h8, h9, h10, h11⟩ := hp
  have calm : s.once false false = s → calm4 s = true := fun hc => by unfold calm4; rw [hc]; simp
  have rest : s.once false false = s → ((s.n.isEmpty || s.come.ah == s.ah) && (!(s.m.isEmpty && s.n.isEmpty) || ((!(s.pa == 1 && !s.x.f) || (s.pb == 2 || (s.pb == 1 && !s.ah))) && (!(s.ta == 1 && (s.na && !s.x.b)) || (s.nb && (s.tb == 2 || (s.tb == 1 && s.y.f))))))) = true := fun hc => by
    rw [calm hc, Bool.not_true, Bool.false_or] at h11
    exact h11
  refine ⟨by simpa using h1, by simpa using h2, by simpa using h3, by simpa using h4, by simpa using h5, ?_, fun hm => ?_, fun hd => ?_, fun ht hn => ?_, fun hp => ?_, fun hc hn => ?_, fun hc hm hn hp hf => ?_, fun hc hm hn ht ha hb => ?_⟩
  · have : s.may false false = true := rfl
    rw [this] at h6
    simpa using h6
  · rw [hm] at h7
    simpa using h7
  · rw [hd] at h8
    simpa using h8
  · rw [ht, hn] at h9
    simpa using h9
  · rw [hp] at h10
    simpa using h10
  · have := rest hc
    rw [Bool.and_eq_true, Bool.or_eq_true] at this
    rcases this.1 with e | e
    · exact absurd (by simpa using e) hn
    · simpa using e
  · have := rest hc
    rw [hm, hn, hp, hf, Bool.and_eq_true] at this
    have := this.2
    simp only [List.isEmpty_nil, Bool.and_true, Bool.not_true, Bool.false_or, Bool.and_eq_true, Bool.not_false, BEq.rfl] at this
    have := this.1
    simpa using this
  · have := rest hc
    rw [hm, hn, ht, ha, hb, Bool.and_eq_true] at this
    have := this.2
    simp only [List.isEmpty_nil, Bool.and_true, Bool.not_true, Bool.false_or, Bool.and_eq_true, Bool.not_false, BEq.rfl] at this
    have := this.2
    simpa using this
section
variable {n : Nat} {nb : Nat → List Nat} {ep : Int} {X : Nat → Nat → Sd} {P T : Nat → Int} {N : Nat → List Int} {ms : List Ml} {i : Nat}
def NoR (n : Nat) (nb : Nat → List Nat) (X : Nat → Nat → Sd) (P T : Nat → Int) (N : Nat → List Int) (ms : List Ml) : Prop := ∃ r : Nat → Nat, ∀ a k, a < n → k ∈ nb a → (eg X P T N ms a k).ah = true → r a < r k
theorem BC.may (h : BC n nb ep X P T N ms) (hn : NB n nb) (hi : i < n) {k : Nat} (hk : k ∈ nb i) : (eg X P T N ms i k).may (eK nb X P T i) (drK nb X P T N i) = true := by
  have he := eg_once h hn hi hk
  have hx : esOf (XO nb X P T N i i k) = ((eg X P T N ms i k).once (eK nb X P T i) (drK nb X P T N i)).x := by rw [← he]; rfl
  have hf : (XO nb X P T N i i k).fork = (eg X P T N ms i k).f1 := by have := congrArg Es.f hx; exact this
  have hb : (XO nb X P T N i i k).bottle = (eg X P T N ms i k).b1 := by have := congrArg Es.b hx; exact this
  obtain ⟨t1, t2⟩ := turn_nat (h.th i hi) (h.ph i hi)
  have hpeer : (XO nb X P T N i i k).peer = k := by rw [XO_i]; exact (onceS_keeps _ _ _ _ _).1.trans (h.pr i k hi hk).1
  unfold Ed.may
  rw [Bool.and_eq_true]
  constructor
  · cases e : eK nb X P T i
    · rfl
    · have e' := e
      unfold eK eats at e'
      rw [Bool.and_eq_true, decide_eq_true_eq, List.all_eq_true] at e'
      have q2 := e'.2 (fireS1 (pK P T i) (X i k)) (by unfold fireSs; rw [List.map_map]; exact List.mem_map.2 ⟨k, hk, rfl⟩)
      have q3 : (XO nb X P T N i i k).fork = (fireS1 (pK P T i) (X i k)).fork := by
        rw [XO_i]
        unfold onceS
        rw [(bottleS_keeps _ _ _).2.2.2.1]
        unfold fireE; split <;> rfl
      rw [← hf, q3, q2]
      have q4 : turnN (eg X P T N ms i k).ta (eg X P T N ms i k).pa = 1 := by
        have : turnN (T i).toNat (P i).toNat = 1 := by rw [t1]; show (pK P T i).toNat = 1; rw [e'.1]; rfl
        exact this
      rw [q4]; rfl
  · cases e : drK nb X P T N i
    · rfl
    · have e' := e
      unfold drK missB at e'
      rw [Bool.and_eq_true, decide_eq_true_eq, Bool.not_eq_true', List.any_eq_false] at e'
      have q2 := e'.2 _ (List.mem_map.2 ⟨k, hk, rfl⟩)
      have q3 : (eg X P T N ms i k).na = needsB (N i) (XO nb X P T N i i k) := by unfold needsB; rw [hpeer]; rfl
      have q4 : (eg X P T N ms i k).ta = 1 := by show (T i).toNat = 1; rw [e'.1]; rfl
      rw [q4, q3, ← hb]
      cases h1 : needsB (N i) (XO nb X P T N i i k) <;> cases h2 : (XO nb X P T N i i k).bottle
      · rfl
      · rfl
      · rw [h1, h2] at q2; exact absurd rfl q2
      · rfl
theorem may_e {s : Ed} {e d : Bool} (h : s.may e d = true) : s.may e false = true := by
  unfold Ed.may at *
  rw [Bool.and_eq_true] at *
  exact ⟨h.1, rfl⟩
theorem once_ah (s : Ed) (e d : Bool) : (s.once e d).ah = (s.once e false).ah := rfl
theorem BC.once (h : BC n nb ep X P T N ms) (hi : i < n) : BC n nb ep (XO nb X P T N i) (PO nb X P T i) (TO nb X P T N i) N (ms ++ MO nb X P T N i) := by
  refine ⟨fun a k ha hk => ?_, fun a ha => ?_, fun a ha => ?_, fun a ha => ?_, fun m hm => ?_⟩
  · by_cases e : a = i
    · subst e
      rw [XO_i]
      obtain ⟨q1, q2, q3⟩ := onceS_keeps (T a) (pK P T a) (N a) (eK nb X P T a) (X a k)
      rw [q1, q2, q3]; exact h.pr a k ha hk
    · rw [XO_o nb X P T N i e]; exact h.pr a k ha hk
  · by_cases e : a = i
    · subst e
      rw [PO_i]; split
      · exact .inr (.inr rfl)
      · exact (turn_nat (h.th a ha) (h.ph a ha)).2
    · rw [PO_o nb X P T i e]; exact h.ph a ha
  · by_cases e : a = i
    · subst e
      rw [TO_i]; split
      · exact .inr (.inr rfl)
      · exact h.th a ha
    · rw [TO_o nb X P T N i e]; exact h.th a ha
  · refine ⟨fun h0 => ?_, (h.nd a ha).2⟩
    by_cases e : a = i
    · subst e
      rw [TO_i] at h0
      split at h0
      · omega
      · exact (h.nd a ha).1 h0
    · rw [TO_o nb X P T N i e] at h0; exact (h.nd a ha).1 h0
  · rw [List.mem_append] at hm
    rcases hm with hm | hm
    · exact h.mail m hm
    · obtain ⟨q1, k, hk, q2, q3, q4⟩ := mo_from (h.hop hi) m hm
      obtain ⟨r1, r2, _⟩ := h.pr i k hi hk
      exact ⟨⟨i, k, hi, hk, q1, q2.trans r1⟩, q3.trans r2, q4⟩
theorem BW.once (hn : NB n nb) (hi : i < n) (h : BW n nb ep X P T N ms i) :
    BW n nb ep (XO nb X P T N i) (PO nb X P T i) (TO nb X P T N i) N (ms ++ MO nb X P T N i) i ∧
    (∀ k, k ∈ nb i → (eg (XO nb X P T N i) (PO nb X P T i) (TO nb X P T N i) N (ms ++ MO nb X P T N i) i k).left ≤ (eg X P T N ms i k).left) ∧
    (NoR n nb X P T N ms → NoR n nb (XO nb X P T N i) (PO nb X P T i) (TO nb X P T N i) N (ms ++ MO nb X P T N i)) := by
  have mine : ∀ k, k ∈ nb i → (eg (XO nb X P T N i) (PO nb X P T i) (TO nb X P T N i) N (ms ++ MO nb X P T N i) i k).ok = true ∧ (eg (XO nb X P T N i) (PO nb X P T i) (TO nb X P T N i) N (ms ++ MO nb X P T N i) i k).left ≤ (eg X P T N ms i k).left := fun k hk => by
    rw [eg_once h.c hn hi hk]
    exact Ed.ok_once (h.mine k hk) (h.c.may hn hi hk)
  refine ⟨⟨h.c.once hi, fun k hk => (mine k hk).1, fun a k ha hk n1 n2 => ?_, fun a ha n1 => ?_⟩, fun k hk => (mine k hk).2, fun ⟨r, hr⟩ => ?_⟩
  · rw [eg_once_o h.c hi n1 n2]; exact h.edge a k ha hk n1 n2
  · rw [dk_o nb X P T N i n1]; exact h.calm a ha n1
  · cases he : eK nb X P T i
    · -- nobody's turn is turned
      have same : ∀ k, k ∈ nb i → (eg (XO nb X P T N i) (PO nb X P T i) (TO nb X P T N i) N (ms ++ MO nb X P T N i) i k).ah = (eg X P T N ms i k).ah := fun k hk => by
        rw [eg_once h.c hn hi hk, he, once_ah]
        exact (Ed.good (h.mine k hk)).turn0
      refine ⟨r, fun a k ha hk hah => ?_⟩
      by_cases e : a = i
      · subst e; rw [same k hk] at hah; exact hr a k ha hk hah
      · by_cases e2 : k = i
        · subst e2
          obtain ⟨b1, b2, b3⟩ := hn.back a k ha hk
          rw [← eg_swap, (Ed.good (mine a b3).1).anti, same a b3, ← (Ed.good (h.mine a b3)).anti, eg_swap] at hah
          exact hr a k ha hk hah
        · rw [eg_once_o h.c hi e e2] at hah; exact hr a k ha hk hah
    · -- it eats: all go ahead of it
      have last : ∀ k, k ∈ nb i → (eg (XO nb X P T N i) (PO nb X P T i) (TO nb X P T N i) N (ms ++ MO nb X P T N i) i k).ah = false := fun k hk => by
        rw [eg_once h.c hn hi hk, he, once_ah]
        refine (Ed.good (h.mine k hk)).turn1 ?_
        have := h.c.may hn hi hk
        rw [he] at this
        exact may_e this
      obtain ⟨t, ht⟩ := top_of r n
      refine ⟨fun a => if a = i then t else r a, fun a k ha hk hah => ?_⟩
      dsimp only
      by_cases e : a = i
      · subst e; rw [last k hk] at hah; cases hah
      · rw [if_neg e]
        by_cases e2 : k = i
        · rw [if_pos e2]; exact ht a ha
        · rw [if_neg e2]
          rw [eg_once_o h.c hi e e2] at hah; exact hr a k ha hk hah
theorem BW.done (hn : NB n nb) (hi : i < n) (h : BW n nb ep X P T N ms i) (hd : (onceK (dkOf nb X P T N i)).1 = dkOf nb X P T N i) : BB n nb ep X P T N ms ∧ ∀ k, k ∈ nb i → (eg X P T N ms i k).once false false = eg X P T N ms i k := by
  have hd0 := hd
  rw [once_dk nb X P T N i (h.c.hop hi)] at hd
  have hP : PO nb X P T i i = P i := congrArg Dk.phase hd
  have hT : TO nb X P T N i i = T i := congrArg Dk.thirst hd
  have hS : (nb i).map (XO nb X P T N i i) = (nb i).map (X i) := congrArg Dk.sides hd
  have hX : ∀ k, k ∈ nb i → XO nb X P T N i i k = X i k := fun k hk => List.map_inj_left.1 hS k hk
  have hM : MO nb X P T N i = [] := once_nil hd0
  have he : eK nb X P T i = false := by
    cases e : eK nb X P T i
    · rfl
    · rw [PO_i, e, if_pos rfl] at hP
      unfold eK eats at e
      rw [Bool.and_eq_true, decide_eq_true_eq] at e
      have e1 := e.1
      unfold pK turnK at e1
      rw [← hP] at e1
      split at e1
      · omega
      · split at e1 <;> omega
  have hdr : drK nb X P T N i = false := by
    cases e : drK nb X P T N i
    · rfl
    · rw [TO_i, e, if_pos rfl] at hT
      unfold drK at e
      rw [Bool.and_eq_true, decide_eq_true_eq] at e
      omega
  have hc : ∀ k, k ∈ nb i → (eg X P T N ms i k).once false false = eg X P T N ms i k := fun k hk => by
    have b2 := (hn.back i k hi hk).2.1
    have := eg_once h.c hn hi hk
    rw [he, hdr, hM, List.append_nil] at this
    rw [← this]
    unfold eg
    rw [hX k hk, hP, hT, XO_o nb X P T N i b2, PO_o nb X P T i b2, TO_o nb X P T N i b2]
  refine ⟨⟨h.c, fun a k ha hk => ?_, fun a ha => ?_⟩, hc⟩
  · by_cases e : a = i
    · subst e; exact h.mine k hk
    · by_cases e2 : k = i
      · subst e2
        obtain ⟨b1, b2, b3⟩ := hn.back a k ha hk
        rw [← eg_swap]
        exact (Ed.rest (h.mine a b3) (hc a b3)).1.1
      · exact h.edge a k ha hk e e2
  · by_cases e : a = i
    · subst e; exact hd0
    · exact h.calm a ha e
theorem BW.fire (hn : NB n nb) (hi : i < n) : ∀ {f : Nat} {X : Nat → Nat → Sd} {P T : Nat → Int} {ms : List Ml}, leftK (dkOf nb X P T N i) < f → BW n nb ep X P T N ms i →
    ∃ (X' : Nat → Nat → Sd) (P' T' : Nat → Int), (fireAll (dkOf nb X P T N i)).1 = dkOf nb X' P' T' N i ∧ (∀ a, a ≠ i → X' a = X a ∧ P' a = P a ∧ T' a = T a) ∧
      BB n nb ep X' P' T' N (ms ++ (fireAll (dkOf nb X P T N i)).2) ∧
      (∀ k, k ∈ nb i → (eg X' P' T' N (ms ++ (fireAll (dkOf nb X P T N i)).2) i k).left ≤ (eg X P T N ms i k).left) ∧
      (∀ a k : Nat, a ≠ i → k ≠ i → eg X' P' T' N (ms ++ (fireAll (dkOf nb X P T N i)).2) a k = eg X P T N ms a k) ∧
      (NoR n nb X P T N ms → NoR n nb X' P' T' N (ms ++ (fireAll (dkOf nb X P T N i)).2))
  | 0, _, _, _, _, hf, _ => absurd hf (Nat.not_lt_zero _)
  | f + 1, X, P, T, ms, hf, h => by
    by_cases hd : (onceK (dkOf nb X P T N i)).1 = dkOf nb X P T N i
    · rw [fireAll_end hd]
      dsimp only
      rw [List.append_nil]
      exact ⟨X, P, T, rfl, fun _ _ => ⟨rfl, rfl, rfl⟩, (h.done hn hi hd).1, fun _ _ => Nat.le_refl _, fun _ _ _ _ => rfl, fun hr => hr⟩
    · obtain ⟨w, wl, wr⟩ := h.once hn hi
      have hlt := once_less hd
      rw [fireAll_on hd]
      have e1 := once_dk nb X P T N i (h.c.hop hi)
      rw [e1] at hlt ⊢
      obtain ⟨X', P', T', q1, q2, q3, q4, q5, q6⟩ := BW.fire hn hi (f := f) (by omega) w
      dsimp only
      have em : ms ++ ((onceK (dkOf nb X P T N i)).2 ++ (fireAll (dkOf nb (XO nb X P T N i) (PO nb X P T i) (TO nb X P T N i) N i)).2) = ms ++ MO nb X P T N i ++ (fireAll (dkOf nb (XO nb X P T N i) (PO nb X P T i) (TO nb X P T N i) N i)).2 := by rw [List.append_assoc]; rfl
      rw [em]
      refine ⟨X', P', T', q1, fun a ha => ?_, q3, fun k hk => Nat.le_trans (q4 k hk) (wl k hk), fun a k ha hk => (q5 a k ha hk).trans (eg_once_o h.c hi ha hk), fun hr => q6 (wr hr)⟩
      obtain ⟨r1, r2, r3⟩ := q2 a ha
      refine ⟨r1.trans ?_, r2.trans (PO_o nb X P T i ha), r3.trans (TO_o nb X P T N i ha)⟩
      funext k
      exact XO_o nb X P T N i ha k
end
end Go.Proofs.YtfbambemjokmgaaGreat
