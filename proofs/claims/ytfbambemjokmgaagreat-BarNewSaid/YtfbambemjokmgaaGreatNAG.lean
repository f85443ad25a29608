/- Texts of this seat. -/
import Derived.Test.YtfbambemjokmgaaGreatNAF
namespace Go.Proofs.YtfbambemjokmgaaGreat
open Go.RowKit
section
variable {P : Program} {ops : Array Oper} {Q : Exit → Act → World → Prop} {md : Region.Mode} {K : World → Prop}
def xM (P : Program) (md : Region.Mode) (ops : Array Oper) (Q : Exit → Act → World → Prop) (K : World → Prop) : Nat → Array Bool → Act → World → Prop
  | 0, listed, a, w => K w ∧ Region.ready md ops listed = [] ∧ Q .normal a w
  | f + 1, listed, a, w => K w ∧ (Region.ready md ops listed = [] → Q .normal a w) ∧ ∀ i ∈ Region.ready md ops listed, wpOp P ops Q i (fun a2 w2 => xM P md ops Q K f (listed.setIfInBounds i true) a2 w2) a w
theorem xM.any : ∀ {f : Nat} {listed : Array Bool} {a : Act} {w : World}, xM P md ops Q K f listed a w → wpAny P md ops Q f listed a w
  | 0, _, _, _, h => h.2
  | _ + 1, _, _, _, h => ⟨h.2.1, fun i hi => wpOp_mono (fun _ _ h2 => h2.any) (h.2.2 i hi)⟩
def TakesX (P : Program) (ops : Array Oper) (K : World → Prop) (o : Oper) (v : Value) (a : Act) : Prop :=
  (Region.wanted o (yielded ops a.tmps) = true ∧ ∀ w', K w' → (execOp a.eval o).run P w' = .ok (.value v) w') ∨
  (Region.wanted o (yielded ops a.tmps) = false ∧ v = undef)
theorem TakesX.same {o : Oper} {v : Value} {a a' : Act} (h : TakesX P ops K o v a) (s : SameFor ops o a a') : TakesX P ops K o v a' := by
  unfold TakesX at *
  rw [s.1, s.2]
  exact h
theorem TakesX.wpOp {i : Nat} {o : Oper} {v : Value} {a : Act} {w : World} (hi : ops[i]? = some o) (h : TakesX P ops K o v a) (hk : K w)
    {R : Act → World → Prop} (hR : R (a.put o.dst v) w) : wpOp P ops Q i R a w := by
  unfold Go.wpOp
  simp only [hi]
  rcases h with ⟨hw, hv⟩ | ⟨hw, rfl⟩
  · simp only [hw, if_true]
    refine .inl ?_
    unfold Oper.wp
    rw [hv w hk]
    exact hR
  · simp only [hw, Bool.false_eq_true, if_false]
    exact hR
theorem xM_first {i : Nat} {oi : Oper} {v : Value} (hi : ops[i]? = some oi) (hsel : ∀ (j : Nat) (o : Oper) cs b, ops[j]? = some o → o.op ≠ .select cs b)
    (hQ : ∀ c a w, Q (.panic c) (a.put oi.dst v) w → Q (.panic c) a w) :
    ∀ (f : Nat) (listed : Array Bool) (a : Act) (w : World),
      (∀ j oj, ops[j]? = some oj → j ≠ i → listed.getD j true = false → (∀ e ∈ oj.after, Region.binds md e = true → e.on ≠ i) → oi.apart ops oj = true) →
      i ∈ Region.ready md ops listed → TakesX P ops K oi v a →
      xM P md ops Q K f (listed.setIfInBounds i true) (a.put oi.dst v) w → xM P md ops Q K (f + 1) listed a w := by
  intro f
  induction f with
  | zero =>
    intro listed a w _ hr ht H
    refine ⟨H.1, fun h => (by rw [h] at hr; cases hr), fun j hj => ?_⟩
    by_cases hji : j = i
    · subst hji
      exact ht.wpOp hi H.1 H
    · have := ready_mono hj hji
      rw [H.2.1] at this
      cases this
  | succ f ih =>
    intro listed a w hfree hr ht H
    refine ⟨H.1, fun h => (by rw [h] at hr; cases hr), fun j hj => ?_⟩
    by_cases hji : j = i
    · subst hji
      exact ht.wpOp hi H.1 H
    · have h1 := H.2.2 j (ready_mono hj hji)
      obtain ⟨hjun, oj, hoj, hall⟩ := mem_ready.1 hj
      have hnot : ∀ e ∈ oj.after, Region.binds md e = true → e.on ≠ i := fun e he hb heq => by
        have h1 := hall e he hb
        have h0 := (mem_ready.1 hr).1
        rw [heq] at h1
        rcases Nat.lt_or_ge i listed.size with h' | h'
        · simp [h'] at h0 h1; rw [h0] at h1; cases h1
        · simp [Array.getElem?_eq_none h'] at h1
      have h2 := wpOp_apart hoj (hfree j oj hoj hji hjun hnot) (fun cs b => hsel i oi cs b hi) (fun cs b => hsel j oj cs b hoj) hQ h1
      refine wpOp_mono (fun a' w2 h3 => ?_) h2
      refine ih (listed.setIfInBounds j true) a' w2 (fun k ok hk hki hun hno => ?_) (ready_mono hr (Ne.symm hji)) (ht.same h3.1) ?_
      · refine hfree k ok hk hki ?_ hno
        by_cases hjk : j = k
        · subst hjk; exact hjun
        · rw [getD_set_ne true hjk] at hun; exact hun
      · rw [Array.setIfInBounds_comm _ _ hji]
        exact h3.2
theorem wp_region_X_lit {id : Nat} {a : Act} {w : World} {l : List Oper} (hm : P.follows .mixedOrders = true)
    (h : ∀ w1, Ext w w1 → xM P .any l.toArray (NoPanic Q) K l.length (Array.replicate l.length false) a w1) : (Code.region id l.toArray true).wp P Q a w :=
  wp_region_noPanic (wp_region_any hm (by simpa using (h w.drew (Ext.drew (Ext.refl w))).any))
def xtakeB (md : Region.Mode) (ops : Array Oper) (listed : Array Bool) (i : Nat) : Bool :=
  (Region.ready md ops listed).contains i && Region.noSelect ops && Region.free md ops listed i
theorem xtakeV (i : Nat) {oi : Oper} {v : Value} {f : Nat} {listed : Array Bool} {a : Act} {w : World} (hi : ops[i]? = some oi := by simp only [List.getElem?_toArray, List.getElem?_cons, reduceIte]; rfl) (hb : xtakeB md ops listed i = true := by kernel_rfl)
    (hw : Region.wanted oi (yielded ops a.tmps) = true := by rfl) (hv : ∀ w', K w' → (execOp a.eval oi).run P w' = .ok (.value v) w')
    (h : xM P md ops (NoPanic Q) K f (listed.setIfInBounds i true) (a.put oi.dst v) w) : xM P md ops (NoPanic Q) K (f + 1) listed a w := by
  simp only [xtakeB, Bool.and_eq_true] at hb
  obtain ⟨⟨h1, h2⟩, h3⟩ := hb
  exact xM_first hi (Region.noSelect_spec h2) (fun _ _ _ h => h) f listed a w (Region.free_spec hi h3) (by simpa using h1) (.inl ⟨hw, hv⟩) h
theorem xtv (i : Nat) {oi : Oper} {v : Value} {f : Nat} {listed : Array Bool} {a a' : Act} {w : World} (hi : ops[i]? = some oi := by simp only [List.getElem?_toArray, List.getElem?_cons, reduceIte]; rfl) (hb : xtakeB md ops listed i = true := by kernel_rfl)
    (hw : Region.wanted oi (yielded ops a.tmps) = true := by rfl) (hv : ∀ w', K w' → (execOp a.eval oi).run P w' = .ok (.value v) w' := by intro w' hw'; go_simp; first | done | with_reducible rfl)
    (ha : a.put oi.dst v = a' := by simp only [Act.put, List.setIfInBounds_toArray, List.set]; rfl)
    (h : xM P md ops (NoPanic Q) K f (listed.setIfInBounds i true) a' w) : xM P md ops (NoPanic Q) K (f + 1) listed a w := xtakeV i hi hb hw hv (ha ▸ h)
theorem xtakeU (i : Nat) {oi : Oper} {f : Nat} {listed : Array Bool} {a : Act} {w : World} (hi : ops[i]? = some oi := by simp only [List.getElem?_toArray, List.getElem?_cons, reduceIte]; rfl) (hb : xtakeB md ops listed i = true := by kernel_rfl)
    (hw : Region.wanted oi (yielded ops a.tmps) = false := by rfl)
    (h : xM P md ops (NoPanic Q) K f (listed.setIfInBounds i true) (a.put oi.dst undef) w) : xM P md ops (NoPanic Q) K (f + 1) listed a w := by
  simp only [xtakeB, Bool.and_eq_true] at hb
  obtain ⟨⟨h1, h2⟩, h3⟩ := hb
  exact xM_first hi (Region.noSelect_spec h2) (fun _ _ _ h => h) f listed a w (Region.free_spec hi h3) (by simpa using h1) (.inr ⟨hw, rfl⟩) h
def RunX (P : Program) (md : Region.Mode) (ops : Array Oper) (Q : Exit → Act → World → Prop) (K : World → Prop) (f : Nat) (listed : Array Bool) (a : Act) (w : World) (i : Nat) : Prop :=
  ∃ oi, ops[i]? = some oi ∧ Region.wanted oi (yielded ops a.tmps) = true ∧ oi.wp P a w (fun a2 w2 => xM P md ops Q K f (listed.setIfInBounds i true) a2 w2) Q
theorem RunX.of (i : Nat) {oi : Oper} {f : Nat} {listed : Array Bool} {a : Act} {w : World} (hi : ops[i]? = some oi := by simp only [List.getElem?_toArray, List.getElem?_cons, reduceIte]; rfl) (hw : Region.wanted oi (yielded ops a.tmps) = true := by rfl)
    (h : oi.wp P a w (fun a2 w2 => xM P md ops Q K f (listed.setIfInBounds i true) a2 w2) Q) : RunX P md ops Q K f listed a w i := ⟨oi, hi, hw, h⟩
theorem RunX.op {f : Nat} {listed : Array Bool} {a : Act} {w : World} {i : Nat} (h : RunX P md ops Q K f listed a w i) : wpOp P ops Q i (fun a2 w2 => xM P md ops Q K f (listed.setIfInBounds i true) a2 w2) a w := by
  obtain ⟨oi, hi, hw, h⟩ := h
  unfold wpOp
  simp only [hi, hw, if_true]
  exact .inl h
theorem xone (i : Nat) {f : Nat} {listed : Array Bool} {a : Act} {w : World} (hr : Region.ready md ops listed = [i] := by kernel_rfl) (hk : K w) (h : RunX P md ops Q K f listed a w i) : xM P md ops Q K (f + 1) listed a w :=
  ⟨hk, fun e => (by rw [hr] at e; cases e), fun j hj => by
    rw [hr, List.mem_singleton] at hj
    subst hj
    exact h.op⟩
theorem xtwo (i j : Nat) {f : Nat} {listed : Array Bool} {a : Act} {w : World} (hr : Region.ready md ops listed = [i, j] := by kernel_rfl) (hk : K w) (h : RunX P md ops Q K f listed a w i) (h' : RunX P md ops Q K f listed a w j) : xM P md ops Q K (f + 1) listed a w :=
  ⟨hk, fun e => (by rw [hr] at e; cases e), fun k hj => by
    rw [hr, List.mem_cons, List.mem_singleton] at hj
    rcases hj with rfl | rfl
    · exact h.op
    · exact h'.op⟩
theorem xdone {f : Nat} {listed : Array Bool} {a : Act} {w : World} (hr : Region.ready md ops listed = []) (hk : K w) (h : Q .normal a w) : xM P md ops (NoPanic Q) K f listed a w := by
  cases f with
  | zero => exact ⟨hk, hr, h⟩
  | succ f => exact ⟨hk, fun _ => h, fun j hj => by rw [hr] at hj; cases hj⟩
end
end Go.Proofs.YtfbambemjokmgaaGreat
namespace Go.Proofs.YtfbambemjokmgaaGreat
open Go.RowKit
structure TellsP (w : World) (fv : Value) (P : Int → Prop) (p : Int → Bool) : Prop where
  any : ∃ g lb, fv = .func (.func g) #[] lb ∧ (∀ args w, (callFunc g args).run Tryz.prog w = .ok (.enter g args) w) ∧ ∀ W x, Ext w W → P x → Calls Tryz.prog g (#[.int .i64 x] ++ lb) W fun e w' => e = .returned (.bool (p x)) ∧ Ext W w'
theorem TellsP.ext {w w' : World} {fv : Value} {P : Int → Prop} {p : Int → Bool} (h : TellsP w fv P p) (e : Ext w w') : TellsP w' fv P p := by
  obtain ⟨g, lb, rfl, h2, h3⟩ := h.any
  exact ⟨g, lb, rfl, h2, fun W x hW hp => h3 W x (e.trans hW) hp⟩
theorem TellsP.sh {w : World} {fv : Value} {P : Int → Prop} {p : Int → Bool} (h : TellsP w fv P p) : ∃ g lb, fv = .func (.func g) #[] lb := by
  obtain ⟨g, lb, rfl, _⟩ := h.any
  exact ⟨g, lb, rfl⟩
set_option maxHeartbeats 1000000 in
theorem indexFunc_p (w : World) (v fv : Value) (E : List Int) (P : Int → Prop) (p : Int → Bool) (h : Sl w v E) (ht : TellsP w fv P p) (hP : ∀ x ∈ E, P x) :
    Calls Tryz.prog 150 #[v, fv] w fun e w' => ∃ r : Int, e = .returned (.int .i64 r) ∧ decide (0 ≤ r) = E.any p ∧ Ext w w' := by
  obtain ⟨g, lb, rfl, eg, hp⟩ := ht.any
  have HP := Lib.hid hp
  have HQ := Lib.hid hP
  clear ht hp hP
  rcases h.ints with ⟨rfl, ao, c, rfl⟩ | ⟨b, off, c, rfl, hc, hc63, hb, hpos, hcell⟩
  · go_enter Tryz.func150, Tryz.ntmps150
    go_wp2
    refine wp_loop_rounds 1 ?_
    rw [rounds_succ]
    go_wp2
    go_ret
    exact ⟨_, rfl, rfl, Ext.refl _⟩
  · have HC := Lib.hid hcell
    clear hcell h
    go_enter Tryz.func150, Tryz.ntmps150
    go_wp2
    go_loopw [8] (fun i wr => ∃ k : Nat, k ≤ E.length ∧ i = .int .i64 k ∧ Hid ((E.take k).any p = false) ∧ Hid (Ext w wr)) (fun i _ => E.length - (intOf i).toNat)
    case atStart => exact ⟨0, Nat.zero_le _, rfl, Lib.hid rfl, Lib.hid (Ext.refl _)⟩
    case round =>
      obtain ⟨k, hk, rfl, HT, HX⟩ := hrel
      by_cases hlt : k < E.length
      · have hya := (HX.out.cell (p := ⟨b, off + k, none⟩) hb).trans (HC.out k hlt)
        obtain ⟨y, hy⟩ : ∃ y, y = E.getD k 0 := ⟨_, rfl⟩
        rw [← hy] at hya
        have HN : Hid ((E.take (k + 1)).any p = ((E.take k).any p || p y)) := Lib.hid (by rw [any_next p hlt 0, ← hy])
        have hPy : P y := HQ.out y (hy ▸ getD_mem hlt 0)
        have HH : Hid (∀ s, p y = s → Calls Tryz.prog g (#[.int .i64 y] ++ lb) wr fun e w' => e = .returned (.bool s) ∧ Ext wr w') := Lib.hid fun s hs => hs ▸ HP.out wr y HX.out hPy
        clear hy hPy
        obtain ⟨s, hs⟩ : ∃ s, p y = s := ⟨_, rfl⟩
        rw [hs] at HN
        have HS := Lib.hid hs
        clear hs
        cases s
        · go_wp2_with (go_at_fn g; refine (HH.out _ HS.out).mono ?_; rintro e w1 ⟨rfl, hx⟩; have HX1 := Lib.hid (HX.out.trans hx); clear hx)
          go_roundw
          case rel => exact ⟨k + 1, by omega, by go_num, Lib.hid (by rw [HN.out, HT.out]; rfl), HX1⟩
          case measure => simp [intOf]; omega
        · go_wp2_with (go_at_fn g; refine (HH.out _ HS.out).mono ?_; rintro e w1 ⟨rfl, hx⟩; have HX1 := Lib.hid (HX.out.trans hx); clear hx)
          go_ret
          exact ⟨_, rfl, by rw [any_of_take (HN.out.trans (by simp))]; simp, HX1.out⟩
      · have hkl : k = E.length := by omega
        go_wp2
        go_ret
        exact ⟨_, rfl, by have := HT.out; rw [hkl, List.take_length] at this; rw [this]; rfl, HX.out⟩
theorem containsFunc_p (w : World) (v fv : Value) (E : List Int) (P : Int → Prop) (p : Int → Bool) (h : Sl w v E) (ht : TellsP w fv P p) (hP : ∀ x ∈ E, P x) (t : Bool) (hr : E.any p = t) :
    Calls Tryz.prog 125 #[v, fv] w fun e w' => e = .returned (.bool t) ∧ Ext w w' := by
  subst hr
  have HS := Lib.hid h
  have HT := Lib.hid ht
  have HQ := Lib.hid hP
  clear h ht hP
  go_enter Tryz.func125, Tryz.ntmps125
  go_wp2_with (go_at_call 150; refine (indexFunc_p _ _ _ E P p HS.out HT.out HQ.out).mono ?_; rintro e w1 ⟨r, rfl, hr, hx⟩; have HR := Lib.hid hr; have HX := Lib.hid hx; clear hr hx)
  go_ret
  exact ⟨ret_bool HR.out, HX.out⟩
structure IV where
  ao : Option Addr
  n : Nat
  c : Nat
def IV.val (x : IV) : Value := .slice x.ao x.n x.c
instance : Elem IV where
  e := 26
  t := 215
  k := 1
  bytes := 24
  z := .slice none 0 0
  enc := fun x => [.slice x.ao x.n x.c]
  dflt := ⟨none, 0, 0⟩
  len := fun _ => rfl
  pos := by decide
  one := fun x u hu => by simp at hu; subst hu; rfl
  row := by kernel_rfl
  info := by kernel_rfl
  zsize := rfl
  few := by decide
theorem Sl.rowsAt {w : World} {ao : Option Addr} {n c : Nat} {xs : List IV} (h : Sl w (.slice ao n c) xs) {k : Nat} {x : IV} (hk : xs[k]? = some x) :
    ∃ b off, ao = some ⟨b, off, none⟩ ∧ n = xs.length ∧ n ≤ c ∧ c ≤ 9223372036854775807 ∧ b < w.heap.size ∧ w.cell? ⟨b, off + k, none⟩ = some (.slice x.ao x.n x.c) := by
  rcases h.parts with ⟨rfl, _⟩ | ⟨b, off, c', hv, h1, h2, h3, _, h4⟩
  · simp at hk
  · simp only [Value.slice.injEq] at hv
    obtain ⟨rfl, rfl, rfl⟩ := hv
    have := h4 k x hk 0 _ rfl
    rw [show off + (k * Elem.k IV + 0) = off + k from by show off + (k * 1 + 0) = _; omega] at this
    exact ⟨b, off, rfl, rfl, h1, h2, h3, this⟩
structure AskAt (w : World) (N : Int) (v : Value) (E : List Edge) (k : Nat) (wr : World) : Prop where
  ext : Ext w wr
  arg : wr.heap[w.heap.size]? = some (.cells #[.int .i64 N, v] 53 (0, 0))
  row : ∃ ao n c, ∃ xs : List IV, wr.heap[w.heap.size + 1]? = some (.cells #[.slice ao n c] 215 (0, 0)) ∧ Ow wr (w.heap.size + 2) (.slice ao n c) xs ∧ xs.length = k ∧
    ∀ (j : Nat) (x : IV), xs[j]? = some x → Sl wr x.val (nearOf E j) ∧ ∀ b, x.val.ownBlock = some b → w.heap.size + 2 ≤ b ∧ b < wr.heap.size ∧ (Value.slice ao n c).ownBlock ≠ some b
theorem grown_set (w : World) (d : Addr) (u : Value) : w.grownBy (w.setCell d u) (some d.block) :=
  ⟨rfl, rfl, rfl, by rw [set_size]; exact Nat.le_refl _, fun k _ hne => set_other _ _ _ _ (fun e => hne (by rw [e]))⟩
theorem AskAt.start (w : World) (N : Int) (v : Value) (E : List Edge) : AskAt w N v E 0 ((w.alloc (.cells #[.int .i64 N, v] 53)).alloc (.cells #[.slice none 0 0] 215)) := by
  obtain ⟨h1, h2⟩ := box2 (A := .cells #[.int .i64 N, v] 53) (B := .cells #[.slice none 0 0] 215) (Below.refl (w.heap.size + 2) ((w.alloc (.cells #[.int .i64 N, v] 53)).alloc (.cells #[.slice none 0 0] 215)))
  exact ⟨ext_two w _ _, h1, none, 0, 0, [], h2, Ow.nil _ _, rfl, fun j x hx => by simp at hx⟩
theorem AskAt.step {w wr w2 W2 : World} {N : Int} {v : Value} {E : List Edge} {k : Nat} {ao a2 a3 : Option Addr} {n c n2 c2 n3 c3 : Nat} {xs : List IV} (h : AskAt w N v E k wr)
    (hrow : wr.heap[w.heap.size + 1]? = some (.cells #[.slice ao n c] 215 (0, 0))) (hown : Ow wr (w.heap.size + 2) (.slice ao n c) xs) (hxl : xs.length = k)
    (hel : ∀ (j : Nat) (x : IV), xs[j]? = some x → Sl wr x.val (nearOf E j) ∧ ∀ b, x.val.ownBlock = some b → w.heap.size + 2 ≤ b ∧ b < wr.heap.size ∧ (Value.slice ao n c).ownBlock ≠ some b)
    (x2 : Ext wr w2) (o2 : Ow w2 wr.heap.size (.slice a2 n2 c2) (nearOf E k)) {A : Obj} (ho : Ow W2 (w.heap.size + 2) (.slice a3 n3 c3) (xs ++ [⟨a2, n2, c2⟩])) (ha : Apd (w.heap.size + 2) (.slice ao n c) (.slice a3 n3 c3) (w2.alloc A) W2) :
    (W2.heap[w.heap.size + 1]? = some (.cells #[.slice ao n c] 215 (0, 0))) ∧ AskAt w N v E (k + 1) (W2.setCell ⟨w.heap.size + 1, 0, none⟩ (.slice a3 n3 c3)) := by
  have hs : w.heap.size + 2 ≤ wr.heap.size := by have := blk_lt hrow; omega
  have xA : Ext wr (w2.alloc A) := x2.alloc A
  have hB : ∀ j, j < w.heap.size + 2 → W2.heap[j]? = wr.heap[j]? := fun j hj => (ha.below.block j hj).trans (xA.block j (by omega))
  have hr2 := (hB (w.heap.size + 1) (by omega)).trans hrow
  have x3 : Ext w W2 := Below.trans (h.ext.trans xA) (ha.below.mono (by omega))
  have hsz : (w2.alloc A).heap.size ≤ W2.heap.size := ha.below.size
  have hsw : wr.heap.size ≤ w2.heap.size := x2.size
  rw [size_alloc] at hsz
  refine ⟨hr2, below_set x3 (by show w.heap.size ≤ w.heap.size + 1; omega) _, (set_other _ _ _ _ (by show w.heap.size ≠ w.heap.size + 1; omega)).trans ((hB _ (by omega)).trans h.arg), a3, n3, c3, xs ++ [⟨a2, n2, c2⟩], by rw [blk_set hr2]; rfl, ho.set (by show w.heap.size + 1 < _; omega) _, by simp [hxl], fun j x hx => ?_⟩
  have old : ∀ (x : IV) (l : List Int), Sl (w2.alloc A) x.val l → (∀ b, x.val.ownBlock = some b → w.heap.size + 2 ≤ b ∧ b < w2.heap.size ∧ (Value.slice ao n c).ownBlock ≠ some b) →
      Sl (W2.setCell ⟨w.heap.size + 1, 0, none⟩ (.slice a3 n3 c3)) x.val l ∧ ∀ b, x.val.ownBlock = some b → w.heap.size + 2 ≤ b ∧ b < (W2.setCell ⟨w.heap.size + 1, 0, none⟩ (.slice a3 n3 c3)).heap.size ∧ (Value.slice a3 n3 c3).ownBlock ≠ some b := fun x l hsl hlo => by
    have s1 : Sl W2 x.val l := by
      refine hsl.grown ha.grown ?_
      cases hq : x.val.ownBlock with
      | none => cases hv : (Value.slice ao n c).ownBlock with
        | none => exact .inr rfl
        | some b => exact .inl (by simp)
      | some b => exact .inl (fun e => (hlo b hq).2.2 e.symm)
    refine ⟨s1.grown (grown_set _ _ _) (.inl fun e => ?_), fun b hb => ⟨(hlo b hb).1, by rw [set_size]; have := (hlo b hb).2.1; omega, ?_⟩⟩
    · have : w.heap.size + 2 ≤ w.heap.size + 1 := (hlo _ e).1
      omega
    · rcases ha.block with hbl | hbl
      · rw [hbl]; exact (hlo b hb).2.2
      · intro e
        have := hbl b e
        rw [size_alloc] at this
        have := (hlo b hb).2.1
        omega
  rcases Nat.lt_or_ge j xs.length with hj | hj
  · rw [List.getElem?_append_left hj] at hx
    obtain ⟨h1, h2⟩ := hel j x hx
    exact old x _ (h1.ext xA) fun b hb => ⟨(h2 b hb).1, by have := (h2 b hb).2.1; omega, (h2 b hb).2.2⟩
  · rw [List.getElem?_append_right hj] at hx
    have hj2 : j = k := by
      have := (List.getElem?_eq_some_iff.1 hx).1
      simp at this
      omega
    subst hj2
    rw [hxl, Nat.sub_self] at hx
    simp only [List.getElem?_cons_zero, Option.some.injEq] at hx
    subst hx
    refine old _ _ (o2.sl.alloc A) fun b hb => ?_
    have hl := o2.low b hb
    refine ⟨by omega, hl.2, fun e => ?_⟩
    have := (hown.low b e).2
    omega
structure Asks (w : World) (fv : Value) (N : Int) (E : List Edge) : Prop where
  any : ∃ g lb, fv = .func (.func g) #[] lb ∧ (∀ args w, (callFunc g args).run Tryz.prog w = .ok (.enter g args) w) ∧
    ∀ W (a : Int) tv p, Ext w W → 0 ≤ a → a < N → TellsP W tv (fun x => btw a x ∈ E) p → Calls Tryz.prog g (#[.int .i64 a, tv] ++ lb) W fun e w' => e = .returned (.bool ((rnear N E a).any p)) ∧ Ext W w'
theorem Asks.ext {w w' : World} {fv : Value} {N : Int} {E : List Edge} (h : Asks w fv N E) (e : Ext w w') : Asks w' fv N E := by
  obtain ⟨g, lb, rfl, h2, h3⟩ := h.any
  exact ⟨g, lb, rfl, h2, fun W a tv p hW => h3 W a tv p (e.trans hW)⟩
theorem Asks.sh {w : World} {fv : Value} {N : Int} {E : List Edge} (h : Asks w fv N E) : ∃ g lb, fv = .func (.func g) #[] lb := by
  obtain ⟨g, lb, rfl, _⟩ := h.any
  exact ⟨g, lb, rfl⟩
set_option maxHeartbeats 1000000 in
theorem AskAt.asks {w wr : World} {N : Int} {v : Value} {E : List Edge} (ok : OkG N E) (h : AskAt w N v E N.toNat wr) : Asks wr (.func (.func 183) #[] #[.pointer (some ⟨w.heap.size + 1, 0, none⟩)]) N E := by
  obtain ⟨ao, n, c, xs, hrow, hown, hxl, hel⟩ := h.row
  refine ⟨183, _, rfl, enters_of Tryz.func183 (by kernel_rfl) rfl, fun W a tv p hW h0 h1 ht => ?_⟩
  have hat : a.toNat < xs.length := by omega
  obtain ⟨x, hx⟩ : ∃ x, xs[a.toNat]? = some x := ⟨_, List.getElem?_eq_getElem hat⟩
  obtain ⟨b, off, rfl, hn, hnc, hc63, hb, hcell⟩ := hown.sl.rowsAt hx
  have hcW := (hW.cell (p := ⟨b, off + a.toNat, none⟩) hb).trans hcell
  have k0 : W.cell? ⟨w.heap.size + 1, 0, none⟩ = some (.slice (some ⟨b, off, none⟩) n c) := blk_cell ((hW.block _ (blk_lt hrow)).trans hrow) 0 rfl
  have hsl := (hel _ x hx).1.ext hW
  rw [Int.toNat_of_nonneg h0] at hsl
  have HS := Lib.hid hsl
  have HT := Lib.hid ht
  have HM : Hid (∀ y ∈ nearOf E a, btw a y ∈ E) := Lib.hid fun y hy => (mem_nearOf (fun e he => (ok.each e he).2.1)).1 hy
  have HR : Hid ((nearOf E a).any p = (rnear N E a).any p) := Lib.hid (any_mem (fun y => near_rnear ok) p)
  have han : a < (n : Int) := by omega
  obtain ⟨xa, xn, xc⟩ := x
  obtain ⟨tg, tl, rfl⟩ := ht.sh
  clear hW hel hown hrow hsl ht ok hx hcell hat hn hxl h
  change Calls Tryz.prog _ #[.int .i64 a, .func (.func tg) #[] tl, .pointer (some ⟨w.heap.size + 1, 0, none⟩)] W _
  go_enter Tryz.func183, Tryz.ntmps183
  go_wp2_with (go_at_call 125; refine (containsFunc_p _ _ _ _ _ p HS.out HT.out HM.out _ HR.out).mono ?_; rintro e w1 ⟨rfl, hx⟩; have HX := Lib.hid hx; clear hx)
  go_ret
  exact ⟨rfl, HX.out⟩
end Go.Proofs.YtfbambemjokmgaaGreat
namespace Go.Proofs.YtfbambemjokmgaaGreat
open Go.RowKit
set_option maxHeartbeats 2000000 in
theorem asker_any (w : World) (N : Int) (v : Value) (E : List Edge) (h : Sl w v E) (ok : OkG N E) :
    Calls Tryz.prog 154 #[.agg #[.int .i64 N, v]] w fun e w' => ∃ fv, e = .returned fv ∧ Asks w' fv N E ∧ Ext w w' := by
  obtain ⟨vo, vn, vc, rfl⟩ := h.sh
  have HS := Lib.hid h
  have HOK := Lib.hid ok
  have n0 := ok.n0
  have n64 := ok.n64
  obtain ⟨m, hm⟩ : ∃ m, m = N.toNat := ⟨_, rfl⟩
  have hNm : N = (m : Int) := by omega
  have hmf : ∀ (fn : Fn) (first cap : Array Value) (w : World), (Instr.makeFunc fn first cap).run Tryz.prog w = .ok (.func fn first cap) w := fun _ _ _ _ => rfl
  have HM := Lib.hid hm
  clear h ok hm
  subst hNm
  go_enter Tryz.func154, Tryz.ntmps154
  go_wp2
  go_loopw [7] (fun i wr => ∃ k : Nat, k ≤ m ∧ i = .int .i64 k ∧ Hid (AskAt w (m : Int) (.slice vo vn vc) E k wr)) (fun i _ => m - (intOf i).toNat)
  case atStart => exact ⟨0, Nat.zero_le _, rfl, Lib.hid (AskAt.start w _ _ E)⟩
  case round =>
    obtain ⟨k, hk, rfl, HA⟩ := hrel
    by_cases hlt : k < m
    · obtain ⟨ao, n, c, xs, hrow, hown, hxl, hel⟩ := HA.out.row
      have HRW := Lib.hid hrow
      have HOW := Lib.hid hown
      have HEL := Lib.hid hel
      have HAG := Lib.hid HA.out.arg
      have hs2 : w.heap.size + 2 ≤ wr.heap.size := by have := blk_lt hrow; omega
      clear hrow hown hel
      go_wp2_with fail
      (refine wp_region_X_lit (K := fun W => W.heap[w.heap.size]? = some (.cells #[.int .i64 (m : Int), .slice vo vn vc] 53 (0, 0))) (by kernel_rfl) (fun w1 hw1 => ?_))
      have HX1 := Lib.hid hw1
      have HG1 := Lib.hid ((hw1.block _ (blk_lt HAG.out)).trans HAG.out)
      have d1 := blk_cell ((hw1.block _ (blk_lt HRW.out)).trans HRW.out) 0 rfl
      clear hw1
      refine xtv 1 (hv := by intro w' hw'; have hc0 := blk_cell hw' 0 rfl; have hc1 := blk_cell hw' 1 rfl; go_simp; first | done | with_reducible rfl) (h := ?_)
      refine xtv 2 (h := ?_)
      refine xtwo 0 3 (hk := HG1.out) (h := RunX.of 0 (h := ?_)) (h' := RunX.of 3 (h := ?_))
      · go_simp
        (try (simp only [Act.put, List.setIfInBounds_toArray, List.set]))
        refine xone 3 (hk := HG1.out) (h := RunX.of 3 (h := ?_))
        go_simp
        refine (near_any w1 (m : Int) _ E (k : Int) (HS.out.ext (Ext.trans HA.out.ext HX1.out)) HOK.out).mono ?_
        rintro e2 w2 ⟨v2, rfl, ho2, hx2⟩
        obtain ⟨a2, n2, c2, rfl⟩ := ho2.sh
        have HX2 := Lib.hid (Ext.trans HX1.out hx2)
        have HO2 := Lib.hid (ho2.mono (Below.size HX1.out))
        have HG2 := Lib.hid ((HX2.out.block _ (blk_lt HAG.out)).trans HAG.out)
        have d2 := blk_cell ((HX2.out.block _ (blk_lt HRW.out)).trans HRW.out) 0 rfl
        clear ho2 hx2
        dsimp only
        (try (simp only [Act.put, List.setIfInBounds_toArray, List.set]))
        refine xone 4 (hk := HG2.out) (h := RunX.of 4 (h := ?_))
        go_simp
        (try (simp only [Act.put, List.setIfInBounds_toArray, List.set]))
        refine xone 5 (hk := ((blk_alloc HG2.out (.cells #[.slice a2 n2 c2] 26)))) (h := RunX.of 5 (h := ?_))
        (refine wp_append_sl (α := IV) (.tmp 10) (.tmp 14) rfl (w.heap.size + 2) (.slice ao n c) xs rfl ?_ (.slice (some ⟨w2.heap.size, 0, none⟩) 1 1) [(⟨a2, n2, c2⟩ : IV)] rfl ?_ ?_ ?_ ?_; exact ((HOW.out.ext HX2.out).alloc _); exact (Sl.litAt w2 _ rfl [(⟨a2, n2, c2⟩ : IV)] (show (1 : Nat) ≤ 1000000 by decide)); (first | omega | (simp; omega)); (rw [size_alloc]; have hx := Below.size HX2.out; omega); intro v3 W3 ho3 ha3)
        obtain ⟨a3, n3, c3, rfl⟩ := ho3.sh
        obtain ⟨hb3, hst⟩ := HA.out.step HRW.out HOW.out hxl HEL.out HX2.out HO2.out ho3 ha3
        have k3 := blk_cell hb3 0 rfl
        have g3 := blk_free hb3 0
        have HG3 := Lib.hid ((ha3.below.block _ (by omega)).trans (blk_alloc HG2.out (.cells #[.slice a2 n2 c2] 26)))
        have HST := Lib.hid hst
        clear ho3 ha3 hst hb3
        dsimp only
        (try (simp only [Act.put, List.setIfInBounds_toArray, List.set]))
        refine xone 6 (hk := HG3.out) (h := RunX.of 6 (h := ?_))
        go_simp
        (try (simp only [Act.put, List.setIfInBounds_toArray, List.set]))
        (refine xdone (by kernel_rfl) ((set_other _ _ _ _ (by show w.heap.size ≠ w.heap.size + 1; omega)).trans HG3.out) ?_)
        go_wp2
        go_roundw
        case rel => exact ⟨k + 1, by omega, by go_num, HST⟩
        case measure => simp [intOf]; omega
      · go_simp
        refine (near_any w1 (m : Int) _ E (k : Int) (HS.out.ext (Ext.trans HA.out.ext HX1.out)) HOK.out).mono ?_
        rintro e2 w2 ⟨v2, rfl, ho2, hx2⟩
        obtain ⟨a2, n2, c2, rfl⟩ := ho2.sh
        have HX2 := Lib.hid (Ext.trans HX1.out hx2)
        have HO2 := Lib.hid (ho2.mono (Below.size HX1.out))
        have HG2 := Lib.hid ((HX2.out.block _ (blk_lt HAG.out)).trans HAG.out)
        have d2 := blk_cell ((HX2.out.block _ (blk_lt HRW.out)).trans HRW.out) 0 rfl
        clear ho2 hx2
        dsimp only
        (try (simp only [Act.put, List.setIfInBounds_toArray, List.set]))
        refine xtwo 0 4 (hk := HG2.out) (h := RunX.of 0 (h := ?_)) (h' := RunX.of 4 (h := ?_))
        · go_simp
          (try (simp only [Act.put, List.setIfInBounds_toArray, List.set]))
          refine xone 4 (hk := HG2.out) (h := RunX.of 4 (h := ?_))
          go_simp
          (try (simp only [Act.put, List.setIfInBounds_toArray, List.set]))
          refine xone 5 (hk := ((blk_alloc HG2.out (.cells #[.slice a2 n2 c2] 26)))) (h := RunX.of 5 (h := ?_))
          (refine wp_append_sl (α := IV) (.tmp 10) (.tmp 14) rfl (w.heap.size + 2) (.slice ao n c) xs rfl ?_ (.slice (some ⟨w2.heap.size, 0, none⟩) 1 1) [(⟨a2, n2, c2⟩ : IV)] rfl ?_ ?_ ?_ ?_; exact ((HOW.out.ext HX2.out).alloc _); exact (Sl.litAt w2 _ rfl [(⟨a2, n2, c2⟩ : IV)] (show (1 : Nat) ≤ 1000000 by decide)); (first | omega | (simp; omega)); (rw [size_alloc]; have hx := Below.size HX2.out; omega); intro v3 W3 ho3 ha3)
          obtain ⟨a3, n3, c3, rfl⟩ := ho3.sh
          obtain ⟨hb3, hst⟩ := HA.out.step HRW.out HOW.out hxl HEL.out HX2.out HO2.out ho3 ha3
          have k3 := blk_cell hb3 0 rfl
          have g3 := blk_free hb3 0
          have HG3 := Lib.hid ((ha3.below.block _ (by omega)).trans (blk_alloc HG2.out (.cells #[.slice a2 n2 c2] 26)))
          have HST := Lib.hid hst
          clear ho3 ha3 hst hb3
          dsimp only
          (try (simp only [Act.put, List.setIfInBounds_toArray, List.set]))
          refine xone 6 (hk := HG3.out) (h := RunX.of 6 (h := ?_))
          go_simp
          (try (simp only [Act.put, List.setIfInBounds_toArray, List.set]))
          (refine xdone (by kernel_rfl) ((set_other _ _ _ _ (by show w.heap.size ≠ w.heap.size + 1; omega)).trans HG3.out) ?_)
          go_wp2
          go_roundw
          case rel => exact ⟨k + 1, by omega, by go_num, HST⟩
          case measure => simp [intOf]; omega
        · go_simp
          (try (simp only [Act.put, List.setIfInBounds_toArray, List.set]))
          have d3 : (w2.alloc (.cells #[.slice a2 n2 c2] 26)).cell? ⟨w.heap.size + 1, 0, none⟩ = some (.slice ao n c) := (World.cell?_alloc_past _ _ _ (by have hx := Below.size HX2.out; show w.heap.size + 1 < w2.heap.size; omega)).trans d2
          refine xone 0 (hk := ((blk_alloc HG2.out (.cells #[.slice a2 n2 c2] 26)))) (h := RunX.of 0 (h := ?_))
          go_simp
          (try (simp only [Act.put, List.setIfInBounds_toArray, List.set]))
          refine xone 5 (hk := ((blk_alloc HG2.out (.cells #[.slice a2 n2 c2] 26)))) (h := RunX.of 5 (h := ?_))
          (refine wp_append_sl (α := IV) (.tmp 10) (.tmp 14) rfl (w.heap.size + 2) (.slice ao n c) xs rfl ?_ (.slice (some ⟨w2.heap.size, 0, none⟩) 1 1) [(⟨a2, n2, c2⟩ : IV)] rfl ?_ ?_ ?_ ?_; exact ((HOW.out.ext HX2.out).alloc _); exact (Sl.litAt w2 _ rfl [(⟨a2, n2, c2⟩ : IV)] (show (1 : Nat) ≤ 1000000 by decide)); (first | omega | (simp; omega)); (rw [size_alloc]; have hx := Below.size HX2.out; omega); intro v3 W3 ho3 ha3)
          obtain ⟨a3, n3, c3, rfl⟩ := ho3.sh
          obtain ⟨hb3, hst⟩ := HA.out.step HRW.out HOW.out hxl HEL.out HX2.out HO2.out ho3 ha3
          have k3 := blk_cell hb3 0 rfl
          have g3 := blk_free hb3 0
          have HG3 := Lib.hid ((ha3.below.block _ (by omega)).trans (blk_alloc HG2.out (.cells #[.slice a2 n2 c2] 26)))
          have HST := Lib.hid hst
          clear ho3 ha3 hst hb3
          dsimp only
          (try (simp only [Act.put, List.setIfInBounds_toArray, List.set]))
          refine xone 6 (hk := HG3.out) (h := RunX.of 6 (h := ?_))
          go_simp
          (try (simp only [Act.put, List.setIfInBounds_toArray, List.set]))
          (refine xdone (by kernel_rfl) ((set_other _ _ _ _ (by show w.heap.size ≠ w.heap.size + 1; omega)).trans HG3.out) ?_)
          go_wp2
          go_roundw
          case rel => exact ⟨k + 1, by omega, by go_num, HST⟩
          case measure => simp [intOf]; omega
    · have hkm : k = m := by omega
      subst hkm
      go_wp2
      go_ret
      have hq := HA.out
      refine ⟨_, rfl, AskAt.asks HOK.out (by rw [← HM.out]; exact hq), hq.ext⟩
end Go.Proofs.YtfbambemjokmgaaGreat
namespace Go.Proofs.YtfbambemjokmgaaGreat
open Go.RowKit
theorem TellsP.imp {w : World} {fv : Value} {P Q : Int → Prop} {p : Int → Bool} (h : TellsP w fv P p) (g : ∀ x, Q x → P x) : TellsP w fv Q p := by
  obtain ⟨f, lb, rfl, h2, h3⟩ := h.any
  exact ⟨f, lb, rfl, h2, fun W x hW hq => h3 W x hW (g x hq)⟩
set_option maxHeartbeats 1000000 in
theorem least_any (w : World) (fv : Value) (t : Int → Bool) (m : Int) (ht : TellsP w fv (fun _ => True) t) (hm : IsLeast t m) (hb : m ≤ 1000000) :
    Calls Tryz.prog 188 #[fv] w fun e w' => e = .returned (.int .i64 m) ∧ Ext w w' := by
  obtain ⟨g, lb, rfl, eg, hp⟩ := ht.any
  have HP := Lib.hid hp
  have HM := Lib.hid hm
  have h1 := hm.pos
  clear ht hp hm
  go_enter Tryz.func188, Tryz.ntmps188
  go_wp2
  go_loopw [3] (fun i wr => ∃ k : Int, 1 ≤ k ∧ k ≤ m ∧ i = .int .i64 k ∧ Hid (Ext w wr)) (fun i _ => (m - intOf i).toNat)
  case atStart => exact ⟨1, by omega, h1, rfl, Lib.hid (Ext.refl _)⟩
  case round =>
    obtain ⟨k, hk1, hk, rfl, HX⟩ := hrel
    by_cases hlt : k < m
    · have HH : Hid (Calls Tryz.prog g (#[.int .i64 k] ++ lb) wr fun e w' => e = .returned (.bool true) ∧ Ext wr w') := Lib.hid (by have := HP.out wr k HX.out trivial; rwa [HM.out.low k hk1 hlt] at this)
      have hw1 : IntKind.i64.wrap (k + 1) = k + 1 := wrapN _ (by omega) (by omega)
      go_wp2_with (go_at_fn g; refine HH.out.mono ?_; rintro e w1 ⟨rfl, hx⟩; have HX1 := Lib.hid (HX.out.trans hx); clear hx)
      go_roundw
      case rel => exact ⟨k + 1, by omega, by omega, rfl, HX1⟩
      case measure => simp [intOf]; omega
    · have hkm : k = m := by omega
      subst hkm
      have HH : Hid (Calls Tryz.prog g (#[.int .i64 k] ++ lb) wr fun e w' => e = .returned (.bool false) ∧ Ext wr w') := Lib.hid (by have := HP.out wr k HX.out trivial; rwa [HM.out.free] at this)
      go_wp2_with (go_at_fn g; refine HH.out.mono ?_; rintro e w1 ⟨rfl, hx⟩; have HX1 := Lib.hid (HX.out.trans hx); clear hx)
      go_ret
      exact ⟨rfl, HX1.out⟩
theorem Sl.colAt {w : World} {v : Value} {c : List Int} (h : Sl w v c) {x : Int} (h0 : 0 ≤ x) (h1 : x < c.length) :
    ∃ b off n k, v = .slice (some ⟨b, off, none⟩) n k ∧ n = c.length ∧ n ≤ k ∧ k ≤ 9223372036854775807 ∧ b < w.heap.size ∧ w.cell? ⟨b, off + x.toNat, none⟩ = some (.int .i64 (col c x)) := by
  obtain ⟨ao, k, rfl⟩ := h.len
  obtain ⟨b, off, rfl, _, h2, h3, h4, h5⟩ := h.intsAt (k := x.toNat) (by omega)
  exact ⟨b, off, _, k, rfl, rfl, h2, h3, h4, h5⟩
theorem ahead_tells (w : World) (V C : Nat) (cv : Value) (c : List Int) (a : Int) (hV : V < w.heap.size) (hC : C < w.heap.size) (k0 : w.cell? ⟨V, 0, none⟩ = some (.int .i64 a)) (k1 : w.cell? ⟨C, 0, none⟩ = some cv) (h : Sl w cv c) :
    TellsP w (.func (.func 185) #[] #[.pointer (some ⟨V, 0, none⟩), .pointer (some ⟨C, 0, none⟩)]) (fun x => 0 ≤ x ∧ x < c.length) (fun x => decide (a < x) && (col c x == 0)) :=
  ⟨185, _, rfl, enters_of Tryz.func185 (by kernel_rfl) rfl, fun W x hW hx => by
    obtain ⟨b, off, n, k, rfl, hn, hnk, hk63, hb, hcell⟩ := h.colAt hx.1 hx.2
    have g0 := (hW.cell (p := ⟨V, 0, none⟩) hV).trans k0
    have g1 := (hW.cell (p := ⟨C, 0, none⟩) hC).trans k1
    have g2 := (hW.cell (p := ⟨b, off + x.toNat, none⟩) hb).trans hcell
    obtain ⟨hx0, hx1⟩ := hx
    have hxn : x < (n : Int) := by omega
    clear hW h hV hC k0 k1 hcell hb hn hx1
    change Calls Tryz.prog _ #[.int .i64 x, .pointer (some ⟨V, 0, none⟩), .pointer (some ⟨C, 0, none⟩)] W _
    obtain ⟨y, hy⟩ : ∃ y, y = col c x := ⟨_, rfl⟩
    rw [← hy] at g2 ⊢
    clear hy
    by_cases hlt : a < x
    · by_cases e : y = 0
      · subst e
        go_enter Tryz.func185, Tryz.ntmps185
        go_wp2
        go_ret
        exact ⟨ret_bool (by simp [hlt]), (by repeat (first | exact Ext.refl _ | assumption | refine Ext.alloc ?_ _ | refine Ext.drew ?_ | refine Ext.drewN ?_ _))⟩
      · have e2 : (y == 0) = false := by simp [e]
        rw [e2]
        clear e
        go_enter Tryz.func185, Tryz.ntmps185
        go_wp2
        go_ret
        exact ⟨ret_bool (by simp), (by repeat (first | exact Ext.refl _ | assumption | refine Ext.alloc ?_ _ | refine Ext.drew ?_ | refine Ext.drewN ?_ _))⟩
    · rw [decide_eq_false hlt]
      go_enter Tryz.func185, Tryz.ntmps185
      go_wp2
      go_ret
      exact ⟨ret_bool (by simp), (by repeat (first | exact Ext.refl _ | assumption | refine Ext.alloc ?_ _ | refine Ext.drew ?_ | refine Ext.drewN ?_ _))⟩⟩
theorem inner_tells (w : World) (C B : Nat) (cv : Value) (c : List Int) (a : Int) (hC : C < w.heap.size) (hB : B < w.heap.size) (k0 : w.cell? ⟨C, 0, none⟩ = some cv) (k1 : w.cell? ⟨B, 0, none⟩ = some (.int .i64 a)) (h : Sl w cv c) :
    TellsP w (.func (.func 187) #[] #[.pointer (some ⟨C, 0, none⟩), .pointer (some ⟨B, 0, none⟩)]) (fun x => 0 ≤ x ∧ x < c.length) (fun x => col c x == a) :=
  ⟨187, _, rfl, enters_of Tryz.func187 (by kernel_rfl) rfl, fun W x hW hx => by
    obtain ⟨b, off, n, k, rfl, hn, hnk, hk63, hb, hcell⟩ := h.colAt hx.1 hx.2
    have g0 := (hW.cell (p := ⟨C, 0, none⟩) hC).trans k0
    have g1 := (hW.cell (p := ⟨B, 0, none⟩) hB).trans k1
    have g2 := (hW.cell (p := ⟨b, off + x.toNat, none⟩) hb).trans hcell
    obtain ⟨hx0, hx1⟩ := hx
    have hxn : x < (n : Int) := by omega
    clear hW h hB hC k0 k1 hcell hb hn hx1
    change Calls Tryz.prog _ #[.int .i64 x, .pointer (some ⟨C, 0, none⟩), .pointer (some ⟨B, 0, none⟩)] W _
    obtain ⟨y, hy⟩ : ∃ y, y = col c x := ⟨_, rfl⟩
    rw [← hy] at g2 ⊢
    clear hy
    go_enter Tryz.func187, Tryz.ntmps187
    go_wp2
    go_quiet (fail)
    go_wp2
    go_ret
    exact ⟨rfl, (by repeat (first | exact Ext.refl _ | assumption | refine Ext.alloc ?_ _ | refine Ext.drew ?_ | refine Ext.drewN ?_ _))⟩⟩
theorem right_tells (w : World) (C B : Nat) (cv : Value) (c : List Int) (a : Int) (hC : C < w.heap.size) (hB : B < w.heap.size) (k0 : w.cell? ⟨C, 0, none⟩ = some cv) (k1 : w.cell? ⟨B, 0, none⟩ = some (.int .i64 a)) (h : Sl w cv c) :
    TellsP w (.func (.func 189) #[] #[.pointer (some ⟨C, 0, none⟩), .pointer (some ⟨B, 0, none⟩)]) (fun x => 0 ≤ x ∧ x < c.length) (fun x => col c x == a) :=
  ⟨189, _, rfl, enters_of Tryz.func189 (by kernel_rfl) rfl, fun W x hW hx => by
    obtain ⟨b, off, n, k, rfl, hn, hnk, hk63, hb, hcell⟩ := h.colAt hx.1 hx.2
    have g0 := (hW.cell (p := ⟨C, 0, none⟩) hC).trans k0
    have g1 := (hW.cell (p := ⟨B, 0, none⟩) hB).trans k1
    have g2 := (hW.cell (p := ⟨b, off + x.toNat, none⟩) hb).trans hcell
    obtain ⟨hx0, hx1⟩ := hx
    have hxn : x < (n : Int) := by omega
    clear hW h hB hC k0 k1 hcell hb hn hx1
    change Calls Tryz.prog _ #[.int .i64 x, .pointer (some ⟨C, 0, none⟩), .pointer (some ⟨B, 0, none⟩)] W _
    obtain ⟨y, hy⟩ : ∃ y, y = col c x := ⟨_, rfl⟩
    rw [← hy] at g2 ⊢
    clear hy
    go_enter Tryz.func189, Tryz.ntmps189
    go_wp2
    go_quiet (fail)
    go_wp2
    go_ret
    exact ⟨rfl, (by repeat (first | exact Ext.refl _ | assumption | refine Ext.alloc ?_ _ | refine Ext.drew ?_ | refine Ext.drewN ?_ _))⟩⟩
set_option maxHeartbeats 1000000 in
theorem taken_tells (w : World) (M V C : Nat) (fv cv : Value) (N : Int) (E : List Edge) (c : List Int) (a : Int) (ok : OkG N E) (hM : M < w.heap.size) (hV : V < w.heap.size) (hC : C < w.heap.size)
    (k0 : w.cell? ⟨M, 0, none⟩ = some fv) (k1 : w.cell? ⟨V, 0, none⟩ = some (.int .i64 a)) (k2 : w.cell? ⟨C, 0, none⟩ = some cv) (h : Sl w cv c) (hl : (c.length : Int) = N) (ha : Asks w fv N E) (h0 : 0 ≤ a) (h1 : a < N) :
    TellsP w (.func (.func 186) #[] #[.pointer (some ⟨M, 0, none⟩), .pointer (some ⟨V, 0, none⟩), .pointer (some ⟨C, 0, none⟩)]) (fun _ => True) (takenB c (rnear N E a)) :=
  ⟨186, _, rfl, enters_of Tryz.func186 (by kernel_rfl) rfl, fun W x hW _ => by
    have g0 := (hW.cell (p := ⟨M, 0, none⟩) hM).trans k0
    have g1 := (hW.cell (p := ⟨V, 0, none⟩) hV).trans k1
    have g2 := (hW.cell (p := ⟨C, 0, none⟩) hC).trans k2
    have hMW : M < W.heap.size := Nat.lt_of_lt_of_le hM hW.size
    have hVW : V < W.heap.size := Nat.lt_of_lt_of_le hV hW.size
    have hCW : C < W.heap.size := Nat.lt_of_lt_of_le hC hW.size
    obtain ⟨g, lb, rfl, eg, hq⟩ := ha.any
    have hS := h.ext hW
    have hin := inner_tells (W.alloc (.cells #[.int .i64 x] 3)) C W.heap.size cv c x (by rw [size_alloc]; omega) (by rw [size_alloc]; omega) ((World.cell?_alloc_past _ _ _ (by simpa using hCW)).trans g2) (blk_cell (get_alloc_new _ _) 0 rfl) (hS.alloc _)
    have HQ := Lib.hid (hq (W.alloc (.cells #[.int .i64 x] 3)) a _ (fun y => col c y == x) (hW.alloc _) h0 h1 (hin.imp fun y hy => by have := near_in ok hy; omega))
    have hmf : ∀ (fn : Fn) (first cap : Array Value) (w : World), (Instr.makeFunc fn first cap).run Tryz.prog w = .ok (.func fn first cap) w := fun _ _ _ _ => rfl
    clear hW h ha ok hM hV hC k0 k1 k2 hq hin hS hl
    change Calls Tryz.prog _ #[.int .i64 x, .pointer (some ⟨M, 0, none⟩), .pointer (some ⟨V, 0, none⟩), .pointer (some ⟨C, 0, none⟩)] W _
    go_enter Tryz.func186, Tryz.ntmps186
    go_wp2_with (go_at_fn g; refine HQ.out.mono ?_; rintro e w1 ⟨rfl, hx⟩; have HX := Lib.hid (Ext.trans ((Ext.refl W).alloc _) hx); clear hx)
    go_ret
    exact ⟨rfl, HX.out⟩⟩
end Go.Proofs.YtfbambemjokmgaaGreat
