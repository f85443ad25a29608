/- What a function value tells of the numbers that it may be asked of; who is near is told by a closure, made once. -/
import Derived.Test.YtalncechmhmdcaaP4
import Derived.Test.YtalncechmhmdcaaY1
import Derived.Test.YtalncechmhmdcaaYR
import Derived.Test.YtalncechmhmdcaaRegX
import Derived.Test.YtalncechmhmdcaaBlk
import Derived.BigGuard
namespace Go.Proofs.Ytalncechmhmdcaa
open Go.RowKit

/-- as Tells, of numbers with P alone -/
structure TellsP (w : World) (fv : Value) (P : Int → Prop) (p : Int → Bool) : Prop where
  any : ∃ g lb, fv = .func (.func g) #[] lb ∧ (∀ args w, (callFunc g args).run Try.prog w = .ok (.enter g args) w) ∧ ∀ W x, Ext w W → P x → Calls Try.prog g (#[.int .i64 x] ++ lb) W fun e w' => e = .returned (.bool (p x)) ∧ Ext W w'
theorem TellsP.ext {w w' : World} {fv : Value} {P : Int → Prop} {p : Int → Bool} (h : TellsP w fv P p) (e : Ext w w') : TellsP w' fv P p := by
  obtain ⟨g, lb, rfl, h2, h3⟩ := h.any
  exact ⟨g, lb, rfl, h2, fun W x hW hp => h3 W x (e.trans hW) hp⟩
theorem TellsP.sh {w : World} {fv : Value} {P : Int → Prop} {p : Int → Bool} (h : TellsP w fv P p) : ∃ g lb, fv = .func (.func g) #[] lb := by
  obtain ⟨g, lb, rfl, _⟩ := h.any
  exact ⟨g, lb, rfl⟩

set_option maxHeartbeats 1000000 in
theorem indexFunc_p (w : World) (v fv : Value) (E : List Int) (P : Int → Prop) (p : Int → Bool) (h : Sl w v E) (ht : TellsP w fv P p) (hP : ∀ x ∈ E, P x) :
    Calls Try.prog 39 #[v, fv] w fun e w' => ∃ r : Int, e = .returned (.int .i64 r) ∧ decide (0 ≤ r) = E.any p ∧ Ext w w' := by
  obtain ⟨g, lb, rfl, eg, hp⟩ := ht.any
  have HP := Lib.hid hp
  have HQ := Lib.hid hP
  clear ht hp hP
  rcases h.ints with ⟨rfl, ao, c, rfl⟩ | ⟨b, off, c, rfl, hc, hc63, hb, hpos, hcell⟩
  · go_enter Try.func39, Try.ntmps39
    go_wp2
    refine wp_loop_rounds 1 ?_
    rw [rounds_succ]
    go_wp2
    go_ret
    exact ⟨_, rfl, rfl, Ext.refl _⟩
  · have HC := Lib.hid hcell
    clear hcell h
    go_enter Try.func39, Try.ntmps39
    go_wp2
    go_loopw [8] (fun i wr => ∃ k : Nat, k ≤ E.length ∧ i = .int .i64 k ∧ Hid ((E.take k).any p = false) ∧ Hid (Ext w wr)) (fun i _ => E.length - (intOf i).toNat)
    case atStart => exact ⟨0, Nat.zero_le _, rfl, Lib.hid rfl, Lib.hid (Ext.refl _)⟩
    case round =>
      obtain ⟨k, hk, rfl, HT, HX⟩ := hrel
      by_cases hlt : k < E.length
      · have hya := (HX.out.cell (p := ⟨b, off + k, none⟩) hb).trans (HC.out k hlt)
        obtain ⟨y, hy⟩ : ∃ y, y = E.getD k 0 := ⟨_, rfl⟩
        rw [← hy] at hya
        have HN : Hid ((E.take (k + 1)).any p = ((E.take k).any p || p y)) := Lib.hid (by rw [any_next p hlt 0, ← hy])
        have hPy : P y := HQ.out y (hy ▸ getD_mem hlt 0)
        have HH : Hid (∀ s, p y = s → Calls Try.prog g (#[.int .i64 y] ++ lb) wr fun e w' => e = .returned (.bool s) ∧ Ext wr w') := Lib.hid fun s hs => hs ▸ HP.out wr y HX.out hPy
        clear hy hPy
        obtain ⟨s, hs⟩ : ∃ s, p y = s := ⟨_, rfl⟩
        rw [hs] at HN
        have HS := Lib.hid hs
        clear hs
        cases s
        · go_wp2_with (go_at_fn g; refine (HH.out _ HS.out).mono ?_; rintro e w1 ⟨rfl, hx⟩; have HX1 := Lib.hid (HX.out.trans hx); clear hx)
          go_roundw
          case rel => exact ⟨k + 1, by omega, by go_num, Lib.hid (by rw [HN.out, HT.out]; rfl), HX1⟩
          case measure => simp [intOf]; omega
        · go_wp2_with (go_at_fn g; refine (HH.out _ HS.out).mono ?_; rintro e w1 ⟨rfl, hx⟩; have HX1 := Lib.hid (HX.out.trans hx); clear hx)
          go_ret
          exact ⟨_, rfl, by rw [any_of_take (HN.out.trans (by simp))]; simp, HX1.out⟩
      · have hkl : k = E.length := by omega
        go_wp2
        go_ret
        exact ⟨_, rfl, by have := HT.out; rw [hkl, List.take_length] at this; rw [this]; rfl, HX.out⟩

theorem containsFunc_p (w : World) (v fv : Value) (E : List Int) (P : Int → Prop) (p : Int → Bool) (h : Sl w v E) (ht : TellsP w fv P p) (hP : ∀ x ∈ E, P x) (t : Bool) (hr : E.any p = t) :
    Calls Try.prog 27 #[v, fv] w fun e w' => e = .returned (.bool t) ∧ Ext w w' := by
  subst hr
  have HS := Lib.hid h
  have HT := Lib.hid ht
  have HQ := Lib.hid hP
  clear h ht hP
  go_enter Try.func27, Try.ntmps27
  go_wp2_with (go_at_call 39; refine (indexFunc_p _ _ _ E P p HS.out HT.out HQ.out).mono ?_; rintro e w1 ⟨r, rfl, hr, hx⟩; have HR := Lib.hid hr; have HX := Lib.hid hx; clear hr hx)
  go_ret
  exact ⟨ret_bool HR.out, HX.out⟩

/-- a slice of numbers as an element -/
structure IV where
  ao : Option Addr
  n : Nat
  c : Nat
def IV.val (x : IV) : Value := .slice x.ao x.n x.c
instance : Elem IV where
  e := 25
  t := 59
  k := 1
  bytes := 24
  z := .slice none 0 0
  enc := fun x => [.slice x.ao x.n x.c]
  dflt := ⟨none, 0, 0⟩
  len := fun _ => rfl
  pos := by decide
  one := fun x u hu => by simp at hu; subst hu; rfl
  row := by kernel_rfl
  info := by kernel_rfl
  zsize := rfl
  few := by decide

theorem Sl.rowsAt {w : World} {ao : Option Addr} {n c : Nat} {xs : List IV} (h : Sl w (.slice ao n c) xs) {k : Nat} {x : IV} (hk : xs[k]? = some x) :
    ∃ b off, ao = some ⟨b, off, none⟩ ∧ n = xs.length ∧ n ≤ c ∧ c ≤ 9223372036854775807 ∧ b < w.heap.size ∧ w.cell? ⟨b, off + k, none⟩ = some (.slice x.ao x.n x.c) := by
  rcases h.parts with ⟨rfl, _⟩ | ⟨b, off, c', hv, h1, h2, h3, _, h4⟩
  · simp at hk
  · simp only [Value.slice.injEq] at hv
    obtain ⟨rfl, rfl, rfl⟩ := hv
    have := h4 k x hk 0 _ rfl
    rw [show off + (k * Elem.k IV + 0) = off + k from by show off + (k * 1 + 0) = _; omega] at this
    exact ⟨b, off, rfl, rfl, h1, h2, h3, this⟩

/-- while who is near is found, node by node: the argument's block, that of the row, and k of it -/
structure AskAt (w : World) (N : Int) (v : Value) (E : List Edge) (k : Nat) (wr : World) : Prop where
  ext : Ext w wr
  arg : wr.heap[w.heap.size]? = some (.cells #[.int .i64 N, v] 24 (0, 0))
  row : ∃ ao n c, ∃ xs : List IV, wr.heap[w.heap.size + 1]? = some (.cells #[.slice ao n c] 59 (0, 0)) ∧ Ow wr (w.heap.size + 2) (.slice ao n c) xs ∧ xs.length = k ∧
    ∀ (j : Nat) (x : IV), xs[j]? = some x → Sl wr x.val (nearOf E j) ∧ ∀ b, x.val.ownBlock = some b → w.heap.size + 2 ≤ b ∧ b < wr.heap.size ∧ (Value.slice ao n c).ownBlock ≠ some b
theorem grown_set (w : World) (d : Addr) (u : Value) : w.grownBy (w.setCell d u) (some d.block) :=
  ⟨rfl, rfl, rfl, by rw [set_size]; exact Nat.le_refl _, fun k _ hne => set_other _ _ _ _ (fun e => hne (by rw [e]))⟩
theorem AskAt.start (w : World) (N : Int) (v : Value) (E : List Edge) : AskAt w N v E 0 ((w.alloc (.cells #[.int .i64 N, v] 24)).alloc (.cells #[.slice none 0 0] 59)) := by
  obtain ⟨h1, h2⟩ := box2 (A := .cells #[.int .i64 N, v] 24) (B := .cells #[.slice none 0 0] 59) (Below.refl (w.heap.size + 2) ((w.alloc (.cells #[.int .i64 N, v] 24)).alloc (.cells #[.slice none 0 0] 59)))
  exact ⟨ext_two w _ _, h1, none, 0, 0, [], h2, Ow.nil _ _, rfl, fun j x hx => by simp at hx⟩
/-- one more: what is told (at w2), its box, the append, the store -/
theorem AskAt.step {w wr w2 W2 : World} {N : Int} {v : Value} {E : List Edge} {k : Nat} {ao a2 a3 : Option Addr} {n c n2 c2 n3 c3 : Nat} {xs : List IV} (h : AskAt w N v E k wr)
    (hrow : wr.heap[w.heap.size + 1]? = some (.cells #[.slice ao n c] 59 (0, 0))) (hown : Ow wr (w.heap.size + 2) (.slice ao n c) xs) (hxl : xs.length = k)
    (hel : ∀ (j : Nat) (x : IV), xs[j]? = some x → Sl wr x.val (nearOf E j) ∧ ∀ b, x.val.ownBlock = some b → w.heap.size + 2 ≤ b ∧ b < wr.heap.size ∧ (Value.slice ao n c).ownBlock ≠ some b)
    (x2 : Ext wr w2) (o2 : Ow w2 wr.heap.size (.slice a2 n2 c2) (nearOf E k)) {A : Obj} (ho : Ow W2 (w.heap.size + 2) (.slice a3 n3 c3) (xs ++ [⟨a2, n2, c2⟩])) (ha : Apd (w.heap.size + 2) (.slice ao n c) (.slice a3 n3 c3) (w2.alloc A) W2) :
    (W2.heap[w.heap.size + 1]? = some (.cells #[.slice ao n c] 59 (0, 0))) ∧ AskAt w N v E (k + 1) (W2.setCell ⟨w.heap.size + 1, 0, none⟩ (.slice a3 n3 c3)) := by
  have hs : w.heap.size + 2 ≤ wr.heap.size := by have := blk_lt hrow; omega
  have xA : Ext wr (w2.alloc A) := x2.alloc A
  have hB : ∀ j, j < w.heap.size + 2 → W2.heap[j]? = wr.heap[j]? := fun j hj => (ha.below.block j hj).trans (xA.block j (by omega))
  have hr2 := (hB (w.heap.size + 1) (by omega)).trans hrow
  have x3 : Ext w W2 := Below.trans (h.ext.trans xA) (ha.below.mono (by omega))
  have hsz : (w2.alloc A).heap.size ≤ W2.heap.size := ha.below.size
  have hsw : wr.heap.size ≤ w2.heap.size := x2.size
  rw [size_alloc] at hsz
  refine ⟨hr2, below_set x3 (by show w.heap.size ≤ w.heap.size + 1; omega) _, (set_other _ _ _ _ (by show w.heap.size ≠ w.heap.size + 1; omega)).trans ((hB _ (by omega)).trans h.arg), a3, n3, c3, xs ++ [⟨a2, n2, c2⟩], by rw [blk_set hr2]; rfl, ho.set (by show w.heap.size + 1 < _; omega) _, by simp [hxl], fun j x hx => ?_⟩
  have old : ∀ (x : IV) (l : List Int), Sl (w2.alloc A) x.val l → (∀ b, x.val.ownBlock = some b → w.heap.size + 2 ≤ b ∧ b < w2.heap.size ∧ (Value.slice ao n c).ownBlock ≠ some b) →
      Sl (W2.setCell ⟨w.heap.size + 1, 0, none⟩ (.slice a3 n3 c3)) x.val l ∧ ∀ b, x.val.ownBlock = some b → w.heap.size + 2 ≤ b ∧ b < (W2.setCell ⟨w.heap.size + 1, 0, none⟩ (.slice a3 n3 c3)).heap.size ∧ (Value.slice a3 n3 c3).ownBlock ≠ some b := fun x l hsl hlo => by
    have s1 : Sl W2 x.val l := by
      refine hsl.grown ha.grown ?_
      cases hq : x.val.ownBlock with
      | none => cases hv : (Value.slice ao n c).ownBlock with
        | none => exact .inr rfl
        | some b => exact .inl (by simp)
      | some b => exact .inl (fun e => (hlo b hq).2.2 e.symm)
    refine ⟨s1.grown (grown_set _ _ _) (.inl fun e => ?_), fun b hb => ⟨(hlo b hb).1, by rw [set_size]; have := (hlo b hb).2.1; omega, ?_⟩⟩
    · have : w.heap.size + 2 ≤ w.heap.size + 1 := (hlo _ e).1
      omega
    · rcases ha.block with hbl | hbl
      · rw [hbl]; exact (hlo b hb).2.2
      · intro e
        have := hbl b e
        rw [size_alloc] at this
        have := (hlo b hb).2.1
        omega
  rcases Nat.lt_or_ge j xs.length with hj | hj
  · rw [List.getElem?_append_left hj] at hx
    obtain ⟨h1, h2⟩ := hel j x hx
    exact old x _ (h1.ext xA) fun b hb => ⟨(h2 b hb).1, by have := (h2 b hb).2.1; omega, (h2 b hb).2.2⟩
  · rw [List.getElem?_append_right hj] at hx
    have hj2 : j = k := by
      have := (List.getElem?_eq_some_iff.1 hx).1
      simp at this
      omega
    subst hj2
    rw [hxl, Nat.sub_self] at hx
    simp only [List.getElem?_cons_zero, Option.some.injEq] at hx
    subst hx
    refine old _ _ (o2.sl.alloc A) fun b hb => ?_
    have hl := o2.low b hb
    refine ⟨by omega, hl.2, fun e => ?_⟩
    have := (hown.low b e).2
    omega

/-- of each node it tells whether something is told of one that it is near to -/
structure Asks (w : World) (fv : Value) (N : Int) (E : List Edge) : Prop where
  any : ∃ g lb, fv = .func (.func g) #[] lb ∧ (∀ args w, (callFunc g args).run Try.prog w = .ok (.enter g args) w) ∧
    ∀ W (a : Int) tv p, Ext w W → 0 ≤ a → a < N → TellsP W tv (fun x => btw a x ∈ E) p → Calls Try.prog g (#[.int .i64 a, tv] ++ lb) W fun e w' => e = .returned (.bool ((rnear N E a).any p)) ∧ Ext W w'
theorem Asks.ext {w w' : World} {fv : Value} {N : Int} {E : List Edge} (h : Asks w fv N E) (e : Ext w w') : Asks w' fv N E := by
  obtain ⟨g, lb, rfl, h2, h3⟩ := h.any
  exact ⟨g, lb, rfl, h2, fun W a tv p hW => h3 W a tv p (e.trans hW)⟩
theorem Asks.sh {w : World} {fv : Value} {N : Int} {E : List Edge} (h : Asks w fv N E) : ∃ g lb, fv = .func (.func g) #[] lb := by
  obtain ⟨g, lb, rfl, _⟩ := h.any
  exact ⟨g, lb, rfl⟩

set_option maxHeartbeats 1000000 in
theorem AskAt.asks {w wr : World} {N : Int} {v : Value} {E : List Edge} (ok : OkG N E) (h : AskAt w N v E N.toNat wr) : Asks wr (.func (.func 45) #[] #[.pointer (some ⟨w.heap.size + 1, 0, none⟩)]) N E := by
  obtain ⟨ao, n, c, xs, hrow, hown, hxl, hel⟩ := h.row
  refine ⟨45, _, rfl, enters_of Try.func45 (by kernel_rfl) rfl, fun W a tv p hW h0 h1 ht => ?_⟩
  have hat : a.toNat < xs.length := by omega
  obtain ⟨x, hx⟩ : ∃ x, xs[a.toNat]? = some x := ⟨_, List.getElem?_eq_getElem hat⟩
  obtain ⟨b, off, rfl, hn, hnc, hc63, hb, hcell⟩ := hown.sl.rowsAt hx
  have hcW := (hW.cell (p := ⟨b, off + a.toNat, none⟩) hb).trans hcell
  have k0 : W.cell? ⟨w.heap.size + 1, 0, none⟩ = some (.slice (some ⟨b, off, none⟩) n c) := blk_cell ((hW.block _ (blk_lt hrow)).trans hrow) 0 rfl
  have hsl := (hel _ x hx).1.ext hW
  rw [Int.toNat_of_nonneg h0] at hsl
  have HS := Lib.hid hsl
  have HT := Lib.hid ht
  have HM : Hid (∀ y ∈ nearOf E a, btw a y ∈ E) := Lib.hid fun y hy => (mem_nearOf (fun e he => (ok.each e he).2.1)).1 hy
  have HR : Hid ((nearOf E a).any p = (rnear N E a).any p) := Lib.hid (any_mem (fun y => near_rnear ok) p)
  have han : a < (n : Int) := by omega
  obtain ⟨xa, xn, xc⟩ := x
  obtain ⟨tg, tl, rfl⟩ := ht.sh
  clear hW hel hown hrow hsl ht ok hx hcell hat hn hxl h
  change Calls Try.prog _ #[.int .i64 a, .func (.func tg) #[] tl, .pointer (some ⟨w.heap.size + 1, 0, none⟩)] W _
  go_enter Try.func45, Try.ntmps45
  go_wp2_with (go_at_call 27; refine (containsFunc_p _ _ _ _ _ p HS.out HT.out HM.out _ HR.out).mono ?_; rintro e w1 ⟨rfl, hx⟩; have HX := Lib.hid hx; clear hx)
  go_ret
  exact ⟨rfl, HX.out⟩

end Go.Proofs.Ytalncechmhmdcaa
