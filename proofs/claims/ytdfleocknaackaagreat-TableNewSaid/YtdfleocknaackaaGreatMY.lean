/- What a function value tells of the numbers that it may be asked of; who is near is told by a closure, made once. -/
import Derived.Test.YtdfleocknaackaaGreatP4
import Derived.Test.YtdfleocknaackaaGreatY1
import Derived.Test.YtdfleocknaackaaGreatYR
import Derived.Test.YtdfleocknaackaaGreatME
import Derived.Test.YtdfleocknaackaaGreatMK
import Derived.BigGuard
namespace Go.Proofs.YtdfleocknaackaaGreat
open Go.RowKit

/-- as Tells, of numbers with P alone -/
structure TellsP (w : World) (fv : Value) (P : Int → Prop) (p : Int → Bool) : Prop where
  any : ∃ g lb, fv = .func (.func g) #[] lb ∧ (∀ args w, (callFunc g args).run Tryz.prog w = .ok (.enter g args) w) ∧ ∀ W x, Ext w W → P x → Calls Tryz.prog g (#[.int .i64 x] ++ lb) W fun e w' => e = .returned (.bool (p x)) ∧ Ext W w'
theorem TellsP.ext {w w' : World} {fv : Value} {P : Int → Prop} {p : Int → Bool} (h : TellsP w fv P p) (e : Ext w w') : TellsP w' fv P p := by
  obtain ⟨g, lb, rfl, h2, h3⟩ := h.any
  exact ⟨g, lb, rfl, h2, fun W x hW hp => h3 W x (e.trans hW) hp⟩
theorem TellsP.sh {w : World} {fv : Value} {P : Int → Prop} {p : Int → Bool} (h : TellsP w fv P p) : ∃ g lb, fv = .func (.func g) #[] lb := by
  obtain ⟨g, lb, rfl, _⟩ := h.any
  exact ⟨g, lb, rfl⟩

set_option maxHeartbeats 1000000 in
theorem indexFunc_p (w : World) (v fv : Value) (E : List Int) (P : Int → Prop) (p : Int → Bool) (h : Sl w v E) (ht : TellsP w fv P p) (hP : ∀ x ∈ E, P x) :
    Calls Tryz.prog 110 #[v, fv] w fun e w' => ∃ r : Int, e = .returned (.int .i64 r) ∧ decide (0 ≤ r) = E.any p ∧ Ext w w' := by
  obtain ⟨g, lb, rfl, eg, hp⟩ := ht.any
  have HP := Lib.hid hp
  have HQ := Lib.hid hP
  clear ht hp hP
  rcases h.ints with ⟨rfl, ao, c, rfl⟩ | ⟨b, off, c, rfl, hc, hc63, hb, hpos, hcell⟩
  · go_enter Tryz.func110, Tryz.ntmps110
    go_wp2
    refine wp_loop_rounds 1 ?_
    rw [rounds_succ]
    go_wp2
    go_ret
    exact ⟨_, rfl, rfl, Ext.refl _⟩
  · have HC := Lib.hid hcell
    clear hcell h
    go_enter Tryz.func110, Tryz.ntmps110
    go_wp2
    go_loopw [8] (fun i wr => ∃ k : Nat, k ≤ E.length ∧ i = .int .i64 k ∧ Hid ((E.take k).any p = false) ∧ Hid (Ext w wr)) (fun i _ => E.length - (intOf i).toNat)
    case atStart => exact ⟨0, Nat.zero_le _, rfl, Lib.hid rfl, Lib.hid (Ext.refl _)⟩
    case round =>
      obtain ⟨k, hk, rfl, HT, HX⟩ := hrel
      by_cases hlt : k < E.length
      · have hya := (HX.out.cell (p := ⟨b, off + k, none⟩) hb).trans (HC.out k hlt)
        obtain ⟨y, hy⟩ : ∃ y, y = E.getD k 0 := ⟨_, rfl⟩
        rw [← hy] at hya
        have HN : Hid ((E.take (k + 1)).any p = ((E.take k).any p || p y)) := Lib.hid (by rw [any_next p hlt 0, ← hy])
        have hPy : P y := HQ.out y (hy ▸ getD_mem hlt 0)
        have HH : Hid (∀ s, p y = s → Calls Tryz.prog g (#[.int .i64 y] ++ lb) wr fun e w' => e = .returned (.bool s) ∧ Ext wr w') := Lib.hid fun s hs => hs ▸ HP.out wr y HX.out hPy
        clear hy hPy
        obtain ⟨s, hs⟩ : ∃ s, p y = s := ⟨_, rfl⟩
        rw [hs] at HN
        have HS := Lib.hid hs
        clear hs
        cases s
        · go_wp2_with (go_at_fn g; refine (HH.out _ HS.out).mono ?_; rintro e w1 ⟨rfl, hx⟩; have HX1 := Lib.hid (HX.out.trans hx); clear hx)
          go_roundw
          case rel => exact ⟨k + 1, by omega, by go_num, Lib.hid (by rw [HN.out, HT.out]; rfl), HX1⟩
          case measure => simp [intOf]; omega
        · go_wp2_with (go_at_fn g; refine (HH.out _ HS.out).mono ?_; rintro e w1 ⟨rfl, hx⟩; have HX1 := Lib.hid (HX.out.trans hx); clear hx)
          go_ret
          exact ⟨_, rfl, by rw [any_of_take (HN.out.trans (by simp))]; simp, HX1.out⟩
      · have hkl : k = E.length := by omega
        go_wp2
        go_ret
        exact ⟨_, rfl, by have := HT.out; rw [hkl, List.take_length] at this; rw [this]; rfl, HX.out⟩

theorem containsFunc_p (w : World) (v fv : Value) (E : List Int) (P : Int → Prop) (p : Int → Bool) (h : Sl w v E) (ht : TellsP w fv P p) (hP : ∀ x ∈ E, P x) (t : Bool) (hr : E.any p = t) :
    Calls Tryz.prog 85 #[v, fv] w fun e w' => e = .returned (.bool t) ∧ Ext w w' := by
  subst hr
  have HS := Lib.hid h
  have HT := Lib.hid ht
  have HQ := Lib.hid hP
  clear h ht hP
  go_enter Tryz.func85, Tryz.ntmps85
  go_wp2_with (go_at_call 110; refine (indexFunc_p _ _ _ E P p HS.out HT.out HQ.out).mono ?_; rintro e w1 ⟨r, rfl, hr, hx⟩; have HR := Lib.hid hr; have HX := Lib.hid hx; clear hr hx)
  go_ret
  exact ⟨ret_bool HR.out, HX.out⟩

/-- a slice of numbers as an element -/
structure IV where
  ao : Option Addr
  n : Nat
  c : Nat
def IV.val (x : IV) : Value := .slice x.ao x.n x.c
instance : Elem IV where
  e := 43
  t := 160
  k := 1
  bytes := 24
  z := .slice none 0 0
  enc := fun x => [.slice x.ao x.n x.c]
  dflt := ⟨none, 0, 0⟩
  len := fun _ => rfl
  pos := by decide
  one := fun x u hu => by simp at hu; subst hu; rfl
  row := by kernel_rfl
  info := by kernel_rfl
  zsize := rfl
  few := by decide

theorem Sl.rowsAt {w : World} {ao : Option Addr} {n c : Nat} {xs : List IV} (h : Sl w (.slice ao n c) xs) {k : Nat} {x : IV} (hk : xs[k]? = some x) :
    ∃ b off, ao = some ⟨b, off, none⟩ ∧ n = xs.length ∧ n ≤ c ∧ c ≤ 9223372036854775807 ∧ b < w.heap.size ∧ w.cell? ⟨b, off + k, none⟩ = some (.slice x.ao x.n x.c) := by
  rcases h.parts with ⟨rfl, _⟩ | ⟨b, off, c', hv, h1, h2, h3, _, h4⟩
  · simp at hk
  · simp only [Value.slice.injEq] at hv
    obtain ⟨rfl, rfl, rfl⟩ := hv
    have := h4 k x hk 0 _ rfl
    rw [show off + (k * Elem.k IV + 0) = off + k from by show off + (k * 1 + 0) = _; omega] at this
    exact ⟨b, off, rfl, rfl, h1, h2, h3, this⟩

/-- while who is near is found, node by node: the argument's block, that of the row, and k of it -/
structure AskAt (w : World) (N : Int) (v : Value) (E : List Edge) (k : Nat) (wr : World) : Prop where
  ext : Ext w wr
  arg : wr.heap[w.heap.size]? = some (.cells #[.int .i64 N, v] 24 (0, 0))
  row : ∃ ao n c, ∃ xs : List IV, wr.heap[w.heap.size + 1]? = some (.cells #[.slice ao n c] 160 (0, 0)) ∧ Ow wr (w.heap.size + 2) (.slice ao n c) xs ∧ xs.length = k ∧
    ∀ (j : Nat) (x : IV), xs[j]? = some x → Sl wr x.val (nearOf E j) ∧ ∀ b, x.val.ownBlock = some b → w.heap.size + 2 ≤ b ∧ b < wr.heap.size ∧ (Value.slice ao n c).ownBlock ≠ some b
theorem grown_set (w : World) (d : Addr) (u : Value) : w.grownBy (w.setCell d u) (some d.block) :=
  ⟨rfl, rfl, rfl, by rw [set_size]; exact Nat.le_refl _, fun k _ hne => set_other _ _ _ _ (fun e => hne (by rw [e]))⟩
theorem AskAt.start (w : World) (N : Int) (v : Value) (E : List Edge) : AskAt w N v E 0 ((w.alloc (.cells #[.int .i64 N, v] 24)).alloc (.cells #[.slice none 0 0] 160)) := by
  obtain ⟨h1, h2⟩ := box2 (A := .cells #[.int .i64 N, v] 24) (B := .cells #[.slice none 0 0] 160) (Below.refl (w.heap.size + 2) ((w.alloc (.cells #[.int .i64 N, v] 24)).alloc (.cells #[.slice none 0 0] 160)))
  exact ⟨ext_two w _ _, h1, none, 0, 0, [], h2, Ow.nil _ _, rfl, fun j x hx => by simp at hx⟩
/-- one more: what is told (at w2), its box, the append, the store -/
theorem AskAt.step {w wr w2 W2 : World} {N : Int} {v : Value} {E : List Edge} {k : Nat} {ao a2 a3 : Option Addr} {n c n2 c2 n3 c3 : Nat} {xs : List IV} (h : AskAt w N v E k wr)
    (hrow : wr.heap[w.heap.size + 1]? = some (.cells #[.slice ao n c] 160 (0, 0))) (hown : Ow wr (w.heap.size + 2) (.slice ao n c) xs) (hxl : xs.length = k)
    (hel : ∀ (j : Nat) (x : IV), xs[j]? = some x → Sl wr x.val (nearOf E j) ∧ ∀ b, x.val.ownBlock = some b → w.heap.size + 2 ≤ b ∧ b < wr.heap.size ∧ (Value.slice ao n c).ownBlock ≠ some b)
    (x2 : Ext wr w2) (o2 : Ow w2 wr.heap.size (.slice a2 n2 c2) (nearOf E k)) {A : Obj} (ho : Ow W2 (w.heap.size + 2) (.slice a3 n3 c3) (xs ++ [⟨a2, n2, c2⟩])) (ha : Apd (w.heap.size + 2) (.slice ao n c) (.slice a3 n3 c3) (w2.alloc A) W2) :
    (W2.heap[w.heap.size + 1]? = some (.cells #[.slice ao n c] 160 (0, 0))) ∧ AskAt w N v E (k + 1) (W2.setCell ⟨w.heap.size + 1, 0, none⟩ (.slice a3 n3 c3)) := by
  have hs : w.heap.size + 2 ≤ wr.heap.size := by have := blk_lt hrow; omega
  have xA : Ext wr (w2.alloc A) := x2.alloc A
  have hB : ∀ j, j < w.heap.size + 2 → W2.heap[j]? = wr.heap[j]? := fun j hj => (ha.below.block j hj).trans (xA.block j (by omega))
  have hr2 := (hB (w.heap.size + 1) (by omega)).trans hrow
  have x3 : Ext w W2 := Below.trans (h.ext.trans xA) (ha.below.mono (by omega))
  have hsz : (w2.alloc A).heap.size ≤ W2.heap.size := ha.below.size
  have hsw : wr.heap.size ≤ w2.heap.size := x2.size
  rw [size_alloc] at hsz
  refine ⟨hr2, below_set x3 (by show w.heap.size ≤ w.heap.size + 1; omega) _, (set_other _ _ _ _ (by show w.heap.size ≠ w.heap.size + 1; omega)).trans ((hB _ (by omega)).trans h.arg), a3, n3, c3, xs ++ [⟨a2, n2, c2⟩], by rw [blk_set hr2]; rfl, ho.set (by show w.heap.size + 1 < _; omega) _, by simp [hxl], fun j x hx => ?_⟩
  have old : ∀ (x : IV) (l : List Int), Sl (w2.alloc A) x.val l → (∀ b, x.val.ownBlock = some b → w.heap.size + 2 ≤ b ∧ b < w2.heap.size ∧ (Value.slice ao n c).ownBlock ≠ some b) →
      Sl (W2.setCell ⟨w.heap.size + 1, 0, none⟩ (.slice a3 n3 c3)) x.val l ∧ ∀ b, x.val.ownBlock = some b → w.heap.size + 2 ≤ b ∧ b < (W2.setCell ⟨w.heap.size + 1, 0, none⟩ (.slice a3 n3 c3)).heap.size ∧ (Value.slice a3 n3 c3).ownBlock ≠ some b := fun x l hsl hlo => by
    have s1 : Sl W2 x.val l := by
      refine hsl.grown ha.grown ?_
      cases hq : x.val.ownBlock with
      | none => cases hv : (Value.slice ao n c).ownBlock with
        | none => exact .inr rfl
        | some b => exact .inl (by simp)
      | some b => exact .inl (fun e => (hlo b hq).2.2 e.symm)
    refine ⟨s1.grown (grown_set _ _ _) (.inl fun e => ?_), fun b hb => ⟨(hlo b hb).1, by rw [set_size]; have := (hlo b hb).2.1; omega, ?_⟩⟩
    · have : w.heap.size + 2 ≤ w.heap.size + 1 := (hlo _ e).1
      omega
    · rcases ha.block with hbl | hbl
      · rw [hbl]; exact (hlo b hb).2.2
      · intro e
        have := hbl b e
        rw [size_alloc] at this
        have := (hlo b hb).2.1
        omega
  rcases Nat.lt_or_ge j xs.length with hj | hj
  · rw [List.getElem?_append_left hj] at hx
    obtain ⟨h1, h2⟩ := hel j x hx
    exact old x _ (h1.ext xA) fun b hb => ⟨(h2 b hb).1, by have := (h2 b hb).2.1; omega, (h2 b hb).2.2⟩
  · rw [List.getElem?_append_right hj] at hx
    have hj2 : j = k := by
      have := (List.getElem?_eq_some_iff.1 hx).1
      simp at this
      omega
    subst hj2
    rw [hxl, Nat.sub_self] at hx
    simp only [List.getElem?_cons_zero, Option.some.injEq] at hx
    subst hx
    refine old _ _ (o2.sl.alloc A) fun b hb => ?_
    have hl := o2.low b hb
    refine ⟨by omega, hl.2, fun e => ?_⟩
    have := (hown.low b e).2
    omega

/-- of each node it tells whether something is told of one that it is near to -/
structure Asks (w : World) (fv : Value) (N : Int) (E : List Edge) : Prop where
  any : ∃ g lb, fv = .func (.func g) #[] lb ∧ (∀ args w, (callFunc g args).run Tryz.prog w = .ok (.enter g args) w) ∧
    ∀ W (a : Int) tv p, Ext w W → 0 ≤ a → a < N → TellsP W tv (fun x => btw a x ∈ E) p → Calls Tryz.prog g (#[.int .i64 a, tv] ++ lb) W fun e w' => e = .returned (.bool ((rnear N E a).any p)) ∧ Ext W w'
theorem Asks.ext {w w' : World} {fv : Value} {N : Int} {E : List Edge} (h : Asks w fv N E) (e : Ext w w') : Asks w' fv N E := by
  obtain ⟨g, lb, rfl, h2, h3⟩ := h.any
  exact ⟨g, lb, rfl, h2, fun W a tv p hW => h3 W a tv p (e.trans hW)⟩
theorem Asks.sh {w : World} {fv : Value} {N : Int} {E : List Edge} (h : Asks w fv N E) : ∃ g lb, fv = .func (.func g) #[] lb := by
  obtain ⟨g, lb, rfl, _⟩ := h.any
  exact ⟨g, lb, rfl⟩

set_option maxHeartbeats 1000000 in
theorem AskAt.asks {w wr : World} {N : Int} {v : Value} {E : List Edge} (ok : OkG N E) (h : AskAt w N v E N.toNat wr) : Asks wr (.func (.func 113) #[] #[.pointer (some ⟨w.heap.size + 1, 0, none⟩)]) N E := by
  obtain ⟨ao, n, c, xs, hrow, hown, hxl, hel⟩ := h.row
  refine ⟨113, _, rfl, enters_of Tryz.func113 (by kernel_rfl) rfl, fun W a tv p hW h0 h1 ht => ?_⟩
  have hat : a.toNat < xs.length := by omega
  obtain ⟨x, hx⟩ : ∃ x, xs[a.toNat]? = some x := ⟨_, List.getElem?_eq_getElem hat⟩
  obtain ⟨b, off, rfl, hn, hnc, hc63, hb, hcell⟩ := hown.sl.rowsAt hx
  have hcW := (hW.cell (p := ⟨b, off + a.toNat, none⟩) hb).trans hcell
  have k0 : W.cell? ⟨w.heap.size + 1, 0, none⟩ = some (.slice (some ⟨b, off, none⟩) n c) := blk_cell ((hW.block _ (blk_lt hrow)).trans hrow) 0 rfl
  have hsl := (hel _ x hx).1.ext hW
  rw [Int.toNat_of_nonneg h0] at hsl
  have HS := Lib.hid hsl
  have HT := Lib.hid ht
  have HM : Hid (∀ y ∈ nearOf E a, btw a y ∈ E) := Lib.hid fun y hy => (mem_nearOf (fun e he => (ok.each e he).2.1)).1 hy
  have HR : Hid ((nearOf E a).any p = (rnear N E a).any p) := Lib.hid (any_mem (fun y => near_rnear ok) p)
  have han : a < (n : Int) := by omega
  obtain ⟨xa, xn, xc⟩ := x
  obtain ⟨tg, tl, rfl⟩ := ht.sh
  clear hW hel hown hrow hsl ht ok hx hcell hat hn hxl h
  change Calls Tryz.prog _ #[.int .i64 a, .func (.func tg) #[] tl, .pointer (some ⟨w.heap.size + 1, 0, none⟩)] W _
  go_enter Tryz.func113, Tryz.ntmps113
  go_wp2_with (go_at_call 85; refine (containsFunc_p _ _ _ _ _ p HS.out HT.out HM.out _ HR.out).mono ?_; rintro e w1 ⟨rfl, hx⟩; have HX := Lib.hid hx; clear hx)
  go_ret
  exact ⟨rfl, HX.out⟩

end Go.Proofs.YtdfleocknaackaaGreat

/- Colours: who is near is found once; who takes a colour takes the least free one; all at once. -/
namespace Go.Proofs.YtdfleocknaackaaGreat
open Go.RowKit

set_option maxHeartbeats 2000000 in
theorem asker_any (w : World) (N : Int) (v : Value) (E : List Edge) (h : Sl w v E) (ok : OkG N E) :
    Calls Tryz.prog 89 #[.agg #[.int .i64 N, v]] w fun e w' => ∃ fv, e = .returned fv ∧ Asks w' fv N E ∧ Ext w w' := by
  obtain ⟨vo, vn, vc, rfl⟩ := h.sh
  have HS := Lib.hid h
  have HOK := Lib.hid ok
  have n0 := ok.n0
  have n64 := ok.n64
  obtain ⟨m, hm⟩ : ∃ m, m = N.toNat := ⟨_, rfl⟩
  have hNm : N = (m : Int) := by omega
  have hmf : ∀ (fn : Fn) (first cap : Array Value) (w : World), (Instr.makeFunc fn first cap).run Tryz.prog w = .ok (.func fn first cap) w := fun _ _ _ _ => rfl
  have HM := Lib.hid hm
  clear h ok hm
  subst hNm
  go_enter Tryz.func89, Tryz.ntmps89
  go_wp2
  go_loopw [7] (fun i wr => ∃ k : Nat, k ≤ m ∧ i = .int .i64 k ∧ Hid (AskAt w (m : Int) (.slice vo vn vc) E k wr)) (fun i _ => m - (intOf i).toNat)
  case atStart => exact ⟨0, Nat.zero_le _, rfl, Lib.hid (AskAt.start w _ _ E)⟩
  case round =>
    obtain ⟨k, hk, rfl, HA⟩ := hrel
    by_cases hlt : k < m
    · obtain ⟨ao, n, c, xs, hrow, hown, hxl, hel⟩ := HA.out.row
      have HRW := Lib.hid hrow
      have HOW := Lib.hid hown
      have HEL := Lib.hid hel
      have HAG := Lib.hid HA.out.arg
      have hs2 : w.heap.size + 2 ≤ wr.heap.size := by have := blk_lt hrow; omega
      clear hrow hown hel
      go_wp2_with fail
      (refine wp_region_X_lit (K := fun W => W.heap[w.heap.size]? = some (.cells #[.int .i64 (m : Int), .slice vo vn vc] 24 (0, 0))) (by kernel_rfl) (fun w1 hw1 => ?_))
      have HX1 := Lib.hid hw1
      have HG1 := Lib.hid ((hw1.block _ (blk_lt HAG.out)).trans HAG.out)
      have d1 := blk_cell ((hw1.block _ (blk_lt HRW.out)).trans HRW.out) 0 rfl
      clear hw1
      refine xtv 1 (hv := by intro w' hw'; have hc0 := blk_cell hw' 0 rfl; have hc1 := blk_cell hw' 1 rfl; go_simp; first | done | with_reducible rfl) (h := ?_)
      refine xtv 2 (h := ?_)
      refine xtwo 0 3 (hk := HG1.out) (h := RunX.of 0 (h := ?_)) (h' := RunX.of 3 (h := ?_))
      · go_simp
        (try (simp only [Act.put, List.setIfInBounds_toArray, List.set]))
        refine xone 3 (hk := HG1.out) (h := RunX.of 3 (h := ?_))
        go_simp
        refine (near_any w1 (m : Int) _ E (k : Int) (HS.out.ext (Ext.trans HA.out.ext HX1.out)) HOK.out).mono ?_
        rintro e2 w2 ⟨v2, rfl, ho2, hx2⟩
        obtain ⟨a2, n2, c2, rfl⟩ := ho2.sh
        have HX2 := Lib.hid (Ext.trans HX1.out hx2)
        have HO2 := Lib.hid (ho2.mono (Below.size HX1.out))
        have HG2 := Lib.hid ((HX2.out.block _ (blk_lt HAG.out)).trans HAG.out)
        have d2 := blk_cell ((HX2.out.block _ (blk_lt HRW.out)).trans HRW.out) 0 rfl
        clear ho2 hx2
        dsimp only
        (try (simp only [Act.put, List.setIfInBounds_toArray, List.set]))
        refine xone 4 (hk := HG2.out) (h := RunX.of 4 (h := ?_))
        go_simp
        (try (simp only [Act.put, List.setIfInBounds_toArray, List.set]))
        refine xone 5 (hk := ((blk_alloc HG2.out (.cells #[.slice a2 n2 c2] 43)))) (h := RunX.of 5 (h := ?_))
        (refine wp_append_sl (α := IV) (.tmp 10) (.tmp 14) rfl (w.heap.size + 2) (.slice ao n c) xs rfl ?_ (.slice (some ⟨w2.heap.size, 0, none⟩) 1 1) [(⟨a2, n2, c2⟩ : IV)] rfl ?_ ?_ ?_ ?_; exact ((HOW.out.ext HX2.out).alloc _); exact (Sl.litAt w2 _ rfl [(⟨a2, n2, c2⟩ : IV)] (show (1 : Nat) ≤ 1000000 by decide)); (first | omega | (simp; omega)); (rw [size_alloc]; have hx := Below.size HX2.out; omega); intro v3 W3 ho3 ha3)
        obtain ⟨a3, n3, c3, rfl⟩ := ho3.sh
        obtain ⟨hb3, hst⟩ := HA.out.step HRW.out HOW.out hxl HEL.out HX2.out HO2.out ho3 ha3
        have k3 := blk_cell hb3 0 rfl
        have g3 := blk_free hb3 0
        have HG3 := Lib.hid ((ha3.below.block _ (by omega)).trans (blk_alloc HG2.out (.cells #[.slice a2 n2 c2] 43)))
        have HST := Lib.hid hst
        clear ho3 ha3 hst hb3
        dsimp only
        (try (simp only [Act.put, List.setIfInBounds_toArray, List.set]))
        refine xone 6 (hk := HG3.out) (h := RunX.of 6 (h := ?_))
        go_simp
        (try (simp only [Act.put, List.setIfInBounds_toArray, List.set]))
        (refine xdone (by kernel_rfl) ((set_other _ _ _ _ (by show w.heap.size ≠ w.heap.size + 1; omega)).trans HG3.out) ?_)
        go_wp2
        go_roundw
        case rel => exact ⟨k + 1, by omega, by go_num, HST⟩
        case measure => simp [intOf]; omega
      · go_simp
        refine (near_any w1 (m : Int) _ E (k : Int) (HS.out.ext (Ext.trans HA.out.ext HX1.out)) HOK.out).mono ?_
        rintro e2 w2 ⟨v2, rfl, ho2, hx2⟩
        obtain ⟨a2, n2, c2, rfl⟩ := ho2.sh
        have HX2 := Lib.hid (Ext.trans HX1.out hx2)
        have HO2 := Lib.hid (ho2.mono (Below.size HX1.out))
        have HG2 := Lib.hid ((HX2.out.block _ (blk_lt HAG.out)).trans HAG.out)
        have d2 := blk_cell ((HX2.out.block _ (blk_lt HRW.out)).trans HRW.out) 0 rfl
        clear ho2 hx2
        dsimp only
        (try (simp only [Act.put, List.setIfInBounds_toArray, List.set]))
        refine xtwo 0 4 (hk := HG2.out) (h := RunX.of 0 (h := ?_)) (h' := RunX.of 4 (h := ?_))
        · go_simp
          (try (simp only [Act.put, List.setIfInBounds_toArray, List.set]))
          refine xone 4 (hk := HG2.out) (h := RunX.of 4 (h := ?_))
          go_simp
          (try (simp only [Act.put, List.setIfInBounds_toArray, List.set]))
          refine xone 5 (hk := ((blk_alloc HG2.out (.cells #[.slice a2 n2 c2] 43)))) (h := RunX.of 5 (h := ?_))
          (refine wp_append_sl (α := IV) (.tmp 10) (.tmp 14) rfl (w.heap.size + 2) (.slice ao n c) xs rfl ?_ (.slice (some ⟨w2.heap.size, 0, none⟩) 1 1) [(⟨a2, n2, c2⟩ : IV)] rfl ?_ ?_ ?_ ?_; exact ((HOW.out.ext HX2.out).alloc _); exact (Sl.litAt w2 _ rfl [(⟨a2, n2, c2⟩ : IV)] (show (1 : Nat) ≤ 1000000 by decide)); (first | omega | (simp; omega)); (rw [size_alloc]; have hx := Below.size HX2.out; omega); intro v3 W3 ho3 ha3)
          obtain ⟨a3, n3, c3, rfl⟩ := ho3.sh
          obtain ⟨hb3, hst⟩ := HA.out.step HRW.out HOW.out hxl HEL.out HX2.out HO2.out ho3 ha3
          have k3 := blk_cell hb3 0 rfl
          have g3 := blk_free hb3 0
          have HG3 := Lib.hid ((ha3.below.block _ (by omega)).trans (blk_alloc HG2.out (.cells #[.slice a2 n2 c2] 43)))
          have HST := Lib.hid hst
          clear ho3 ha3 hst hb3
          dsimp only
          (try (simp only [Act.put, List.setIfInBounds_toArray, List.set]))
          refine xone 6 (hk := HG3.out) (h := RunX.of 6 (h := ?_))
          go_simp
          (try (simp only [Act.put, List.setIfInBounds_toArray, List.set]))
          (refine xdone (by kernel_rfl) ((set_other _ _ _ _ (by show w.heap.size ≠ w.heap.size + 1; omega)).trans HG3.out) ?_)
          go_wp2
          go_roundw
          case rel => exact ⟨k + 1, by omega, by go_num, HST⟩
          case measure => simp [intOf]; omega
        · go_simp
          (try (simp only [Act.put, List.setIfInBounds_toArray, List.set]))
          have d3 : (w2.alloc (.cells #[.slice a2 n2 c2] 43)).cell? ⟨w.heap.size + 1, 0, none⟩ = some (.slice ao n c) := (World.cell?_alloc_past _ _ _ (by have hx := Below.size HX2.out; show w.heap.size + 1 < w2.heap.size; omega)).trans d2
          refine xone 0 (hk := ((blk_alloc HG2.out (.cells #[.slice a2 n2 c2] 43)))) (h := RunX.of 0 (h := ?_))
          go_simp
          (try (simp only [Act.put, List.setIfInBounds_toArray, List.set]))
          refine xone 5 (hk := ((blk_alloc HG2.out (.cells #[.slice a2 n2 c2] 43)))) (h := RunX.of 5 (h := ?_))
          (refine wp_append_sl (α := IV) (.tmp 10) (.tmp 14) rfl (w.heap.size + 2) (.slice ao n c) xs rfl ?_ (.slice (some ⟨w2.heap.size, 0, none⟩) 1 1) [(⟨a2, n2, c2⟩ : IV)] rfl ?_ ?_ ?_ ?_; exact ((HOW.out.ext HX2.out).alloc _); exact (Sl.litAt w2 _ rfl [(⟨a2, n2, c2⟩ : IV)] (show (1 : Nat) ≤ 1000000 by decide)); (first | omega | (simp; omega)); (rw [size_alloc]; have hx := Below.size HX2.out; omega); intro v3 W3 ho3 ha3)
          obtain ⟨a3, n3, c3, rfl⟩ := ho3.sh
          obtain ⟨hb3, hst⟩ := HA.out.step HRW.out HOW.out hxl HEL.out HX2.out HO2.out ho3 ha3
          have k3 := blk_cell hb3 0 rfl
          have g3 := blk_free hb3 0
          have HG3 := Lib.hid ((ha3.below.block _ (by omega)).trans (blk_alloc HG2.out (.cells #[.slice a2 n2 c2] 43)))
          have HST := Lib.hid hst
          clear ho3 ha3 hst hb3
          dsimp only
          (try (simp only [Act.put, List.setIfInBounds_toArray, List.set]))
          refine xone 6 (hk := HG3.out) (h := RunX.of 6 (h := ?_))
          go_simp
          (try (simp only [Act.put, List.setIfInBounds_toArray, List.set]))
          (refine xdone (by kernel_rfl) ((set_other _ _ _ _ (by show w.heap.size ≠ w.heap.size + 1; omega)).trans HG3.out) ?_)
          go_wp2
          go_roundw
          case rel => exact ⟨k + 1, by omega, by go_num, HST⟩
          case measure => simp [intOf]; omega
    · have hkm : k = m := by omega
      subst hkm
      go_wp2
      go_ret
      have hq := HA.out
      refine ⟨_, rfl, AskAt.asks HOK.out (by rw [← HM.out]; exact hq), hq.ext⟩

end Go.Proofs.YtdfleocknaackaaGreat

/- Colours: who goes ahead, what is taken, the least free one, a round. -/
namespace Go.Proofs.YtdfleocknaackaaGreat
open Go.RowKit

theorem TellsP.imp {w : World} {fv : Value} {P Q : Int → Prop} {p : Int → Bool} (h : TellsP w fv P p) (g : ∀ x, Q x → P x) : TellsP w fv Q p := by
  obtain ⟨f, lb, rfl, h2, h3⟩ := h.any
  exact ⟨f, lb, rfl, h2, fun W x hW hq => h3 W x hW (g x hq)⟩

set_option maxHeartbeats 1000000 in
theorem least_any (w : World) (fv : Value) (t : Int → Bool) (m : Int) (ht : TellsP w fv (fun _ => True) t) (hm : IsLeast t m) (hb : m ≤ 1000000) :
    Calls Tryz.prog 118 #[fv] w fun e w' => e = .returned (.int .i64 m) ∧ Ext w w' := by
  obtain ⟨g, lb, rfl, eg, hp⟩ := ht.any
  have HP := Lib.hid hp
  have HM := Lib.hid hm
  have h1 := hm.pos
  clear ht hp hm
  go_enter Tryz.func118, Tryz.ntmps118
  go_wp2
  go_loopw [3] (fun i wr => ∃ k : Int, 1 ≤ k ∧ k ≤ m ∧ i = .int .i64 k ∧ Hid (Ext w wr)) (fun i _ => (m - intOf i).toNat)
  case atStart => exact ⟨1, by omega, h1, rfl, Lib.hid (Ext.refl _)⟩
  case round =>
    obtain ⟨k, hk1, hk, rfl, HX⟩ := hrel
    by_cases hlt : k < m
    · have HH : Hid (Calls Tryz.prog g (#[.int .i64 k] ++ lb) wr fun e w' => e = .returned (.bool true) ∧ Ext wr w') := Lib.hid (by have := HP.out wr k HX.out trivial; rwa [HM.out.low k hk1 hlt] at this)
      have hw1 : IntKind.i64.wrap (k + 1) = k + 1 := wrapN _ (by omega) (by omega)
      go_wp2_with (go_at_fn g; refine HH.out.mono ?_; rintro e w1 ⟨rfl, hx⟩; have HX1 := Lib.hid (HX.out.trans hx); clear hx)
      go_roundw
      case rel => exact ⟨k + 1, by omega, by omega, rfl, HX1⟩
      case measure => simp [intOf]; omega
    · have hkm : k = m := by omega
      subst hkm
      have HH : Hid (Calls Tryz.prog g (#[.int .i64 k] ++ lb) wr fun e w' => e = .returned (.bool false) ∧ Ext wr w') := Lib.hid (by have := HP.out wr k HX.out trivial; rwa [HM.out.free] at this)
      go_wp2_with (go_at_fn g; refine HH.out.mono ?_; rintro e w1 ⟨rfl, hx⟩; have HX1 := Lib.hid (HX.out.trans hx); clear hx)
      go_ret
      exact ⟨rfl, HX1.out⟩

theorem Sl.colAt {w : World} {v : Value} {c : List Int} (h : Sl w v c) {x : Int} (h0 : 0 ≤ x) (h1 : x < c.length) :
    ∃ b off n k, v = .slice (some ⟨b, off, none⟩) n k ∧ n = c.length ∧ n ≤ k ∧ k ≤ 9223372036854775807 ∧ b < w.heap.size ∧ w.cell? ⟨b, off + x.toNat, none⟩ = some (.int .i64 (col c x)) := by
  obtain ⟨ao, k, rfl⟩ := h.len
  obtain ⟨b, off, rfl, _, h2, h3, h4, h5⟩ := h.intsAt (k := x.toNat) (by omega)
  exact ⟨b, off, _, k, rfl, rfl, h2, h3, h4, h5⟩

theorem ahead_tells (w : World) (V C : Nat) (cv : Value) (c : List Int) (a : Int) (hV : V < w.heap.size) (hC : C < w.heap.size) (k0 : w.cell? ⟨V, 0, none⟩ = some (.int .i64 a)) (k1 : w.cell? ⟨C, 0, none⟩ = some cv) (h : Sl w cv c) :
    TellsP w (.func (.func 115) #[] #[.pointer (some ⟨V, 0, none⟩), .pointer (some ⟨C, 0, none⟩)]) (fun x => 0 ≤ x ∧ x < c.length) (fun x => decide (a < x) && (col c x == 0)) :=
  ⟨115, _, rfl, enters_of Tryz.func115 (by kernel_rfl) rfl, fun W x hW hx => by
    obtain ⟨b, off, n, k, rfl, hn, hnk, hk63, hb, hcell⟩ := h.colAt hx.1 hx.2
    have g0 := (hW.cell (p := ⟨V, 0, none⟩) hV).trans k0
    have g1 := (hW.cell (p := ⟨C, 0, none⟩) hC).trans k1
    have g2 := (hW.cell (p := ⟨b, off + x.toNat, none⟩) hb).trans hcell
    obtain ⟨hx0, hx1⟩ := hx
    have hxn : x < (n : Int) := by omega
    clear hW h hV hC k0 k1 hcell hb hn hx1
    change Calls Tryz.prog _ #[.int .i64 x, .pointer (some ⟨V, 0, none⟩), .pointer (some ⟨C, 0, none⟩)] W _
    obtain ⟨y, hy⟩ : ∃ y, y = col c x := ⟨_, rfl⟩
    rw [← hy] at g2 ⊢
    clear hy
    by_cases hlt : a < x
    · by_cases e : y = 0
      · subst e
        go_enter Tryz.func115, Tryz.ntmps115
        go_wp2
        go_ret
        exact ⟨ret_bool (by simp [hlt]), (by repeat (first | exact Ext.refl _ | assumption | refine Ext.alloc ?_ _ | refine Ext.drew ?_ | refine Ext.drewN ?_ _))⟩
      · have e2 : (y == 0) = false := by simp [e]
        rw [e2]
        clear e
        go_enter Tryz.func115, Tryz.ntmps115
        go_wp2
        go_ret
        exact ⟨ret_bool (by simp), (by repeat (first | exact Ext.refl _ | assumption | refine Ext.alloc ?_ _ | refine Ext.drew ?_ | refine Ext.drewN ?_ _))⟩
    · rw [decide_eq_false hlt]
      go_enter Tryz.func115, Tryz.ntmps115
      go_wp2
      go_ret
      exact ⟨ret_bool (by simp), (by repeat (first | exact Ext.refl _ | assumption | refine Ext.alloc ?_ _ | refine Ext.drew ?_ | refine Ext.drewN ?_ _))⟩⟩

theorem inner_tells (w : World) (C B : Nat) (cv : Value) (c : List Int) (a : Int) (hC : C < w.heap.size) (hB : B < w.heap.size) (k0 : w.cell? ⟨C, 0, none⟩ = some cv) (k1 : w.cell? ⟨B, 0, none⟩ = some (.int .i64 a)) (h : Sl w cv c) :
    TellsP w (.func (.func 117) #[] #[.pointer (some ⟨C, 0, none⟩), .pointer (some ⟨B, 0, none⟩)]) (fun x => 0 ≤ x ∧ x < c.length) (fun x => col c x == a) :=
  ⟨117, _, rfl, enters_of Tryz.func117 (by kernel_rfl) rfl, fun W x hW hx => by
    obtain ⟨b, off, n, k, rfl, hn, hnk, hk63, hb, hcell⟩ := h.colAt hx.1 hx.2
    have g0 := (hW.cell (p := ⟨C, 0, none⟩) hC).trans k0
    have g1 := (hW.cell (p := ⟨B, 0, none⟩) hB).trans k1
    have g2 := (hW.cell (p := ⟨b, off + x.toNat, none⟩) hb).trans hcell
    obtain ⟨hx0, hx1⟩ := hx
    have hxn : x < (n : Int) := by omega
    clear hW h hB hC k0 k1 hcell hb hn hx1
    change Calls Tryz.prog _ #[.int .i64 x, .pointer (some ⟨C, 0, none⟩), .pointer (some ⟨B, 0, none⟩)] W _
    obtain ⟨y, hy⟩ : ∃ y, y = col c x := ⟨_, rfl⟩
    rw [← hy] at g2 ⊢
    clear hy
    go_enter Tryz.func117, Tryz.ntmps117
    go_wp2
    go_quiet (fail)
    go_wp2
    go_ret
    exact ⟨rfl, (by repeat (first | exact Ext.refl _ | assumption | refine Ext.alloc ?_ _ | refine Ext.drew ?_ | refine Ext.drewN ?_ _))⟩⟩

theorem right_tells (w : World) (C B : Nat) (cv : Value) (c : List Int) (a : Int) (hC : C < w.heap.size) (hB : B < w.heap.size) (k0 : w.cell? ⟨C, 0, none⟩ = some cv) (k1 : w.cell? ⟨B, 0, none⟩ = some (.int .i64 a)) (h : Sl w cv c) :
    TellsP w (.func (.func 119) #[] #[.pointer (some ⟨C, 0, none⟩), .pointer (some ⟨B, 0, none⟩)]) (fun x => 0 ≤ x ∧ x < c.length) (fun x => col c x == a) :=
  ⟨119, _, rfl, enters_of Tryz.func119 (by kernel_rfl) rfl, fun W x hW hx => by
    obtain ⟨b, off, n, k, rfl, hn, hnk, hk63, hb, hcell⟩ := h.colAt hx.1 hx.2
    have g0 := (hW.cell (p := ⟨C, 0, none⟩) hC).trans k0
    have g1 := (hW.cell (p := ⟨B, 0, none⟩) hB).trans k1
    have g2 := (hW.cell (p := ⟨b, off + x.toNat, none⟩) hb).trans hcell
    obtain ⟨hx0, hx1⟩ := hx
    have hxn : x < (n : Int) := by omega
    clear hW h hB hC k0 k1 hcell hb hn hx1
    change Calls Tryz.prog _ #[.int .i64 x, .pointer (some ⟨C, 0, none⟩), .pointer (some ⟨B, 0, none⟩)] W _
    obtain ⟨y, hy⟩ : ∃ y, y = col c x := ⟨_, rfl⟩
    rw [← hy] at g2 ⊢
    clear hy
    go_enter Tryz.func119, Tryz.ntmps119
    go_wp2
    go_quiet (fail)
    go_wp2
    go_ret
    exact ⟨rfl, (by repeat (first | exact Ext.refl _ | assumption | refine Ext.alloc ?_ _ | refine Ext.drew ?_ | refine Ext.drewN ?_ _))⟩⟩

set_option maxHeartbeats 1000000 in
theorem taken_tells (w : World) (M V C : Nat) (fv cv : Value) (N : Int) (E : List Edge) (c : List Int) (a : Int) (ok : OkG N E) (hM : M < w.heap.size) (hV : V < w.heap.size) (hC : C < w.heap.size)
    (k0 : w.cell? ⟨M, 0, none⟩ = some fv) (k1 : w.cell? ⟨V, 0, none⟩ = some (.int .i64 a)) (k2 : w.cell? ⟨C, 0, none⟩ = some cv) (h : Sl w cv c) (hl : (c.length : Int) = N) (ha : Asks w fv N E) (h0 : 0 ≤ a) (h1 : a < N) :
    TellsP w (.func (.func 116) #[] #[.pointer (some ⟨M, 0, none⟩), .pointer (some ⟨V, 0, none⟩), .pointer (some ⟨C, 0, none⟩)]) (fun _ => True) (takenB c (rnear N E a)) :=
  ⟨116, _, rfl, enters_of Tryz.func116 (by kernel_rfl) rfl, fun W x hW _ => by
    have g0 := (hW.cell (p := ⟨M, 0, none⟩) hM).trans k0
    have g1 := (hW.cell (p := ⟨V, 0, none⟩) hV).trans k1
    have g2 := (hW.cell (p := ⟨C, 0, none⟩) hC).trans k2
    have hMW : M < W.heap.size := Nat.lt_of_lt_of_le hM hW.size
    have hVW : V < W.heap.size := Nat.lt_of_lt_of_le hV hW.size
    have hCW : C < W.heap.size := Nat.lt_of_lt_of_le hC hW.size
    obtain ⟨g, lb, rfl, eg, hq⟩ := ha.any
    have hS := h.ext hW
    have hin := inner_tells (W.alloc (.cells #[.int .i64 x] 3)) C W.heap.size cv c x (by rw [size_alloc]; omega) (by rw [size_alloc]; omega) ((World.cell?_alloc_past _ _ _ (by simpa using hCW)).trans g2) (blk_cell (get_alloc_new _ _) 0 rfl) (hS.alloc _)
    have HQ := Lib.hid (hq (W.alloc (.cells #[.int .i64 x] 3)) a _ (fun y => col c y == x) (hW.alloc _) h0 h1 (hin.imp fun y hy => by have := near_in ok hy; omega))
    have hmf : ∀ (fn : Fn) (first cap : Array Value) (w : World), (Instr.makeFunc fn first cap).run Tryz.prog w = .ok (.func fn first cap) w := fun _ _ _ _ => rfl
    clear hW h ha ok hM hV hC k0 k1 k2 hq hin hS hl
    change Calls Tryz.prog _ #[.int .i64 x, .pointer (some ⟨M, 0, none⟩), .pointer (some ⟨V, 0, none⟩), .pointer (some ⟨C, 0, none⟩)] W _
    go_enter Tryz.func116, Tryz.ntmps116
    go_wp2_with (go_at_fn g; refine HQ.out.mono ?_; rintro e w1 ⟨rfl, hx⟩; have HX := Lib.hid (Ext.trans ((Ext.refl W).alloc _) hx); clear hx)
    go_ret
    exact ⟨rfl, HX.out⟩⟩

end Go.Proofs.YtdfleocknaackaaGreat

/- Colours: what becomes of them in a round. -/
namespace Go.Proofs.YtdfleocknaackaaGreat
open Go.RowKit

set_option maxHeartbeats 2000000 in
theorem behind_any (w : World) (cv fv : Value) (N : Int) (E : List Edge) (c : List Int) (ok : OkG N E) (h : Sl w cv c) (hl : (c.length : Int) = N) (ha : Asks w fv N E) :
    Calls Tryz.prog 91 #[cv, fv] w (GivesOw w (roundL N E c)) := by
  obtain ⟨vo, k0, rfl⟩ := h.len
  obtain ⟨g, lb, rfl, eg, hq⟩ := ha.any
  have n0 := ok.n0
  have n64 := ok.n64
  have HA := Lib.hid ha
  have HQ := Lib.hid hq
  have HOK := Lib.hid ok
  have HLL := Lib.hid hl
  have X0 : Ext w ((w.alloc (.cells #[.slice vo c.length k0] 43)).alloc (.cells #[.func (.func g) #[] lb] 135)) := ext_two w _ _
  have HX0 := Lib.hid X0
  have HS := Lib.hid (h.ext X0)
  obtain ⟨R, hR⟩ : ∃ R, R = roundL N E c := ⟨_, rfl⟩
  have hRl : R.length = c.length := by rw [hR, roundL_length]; omega
  have HR := Lib.hid hR
  have HRL := Lib.hid hRl
  rw [← hR]
  have hc64 : c.length ≤ 64 := by omega
  have HK : Hid (∀ W, Ext ((w.alloc (.cells #[.slice vo c.length k0] 43)).alloc (.cells #[.func (.func g) #[] lb] 135)) W → W.cell? ⟨w.heap.size, 0, none⟩ = some (.slice vo c.length k0) ∧ W.cell? ⟨w.heap.size + 1, 0, none⟩ = some (.func (.func g) #[] lb)) := Lib.hid fun W hW => by
    obtain ⟨hA, hB⟩ := box2 (hW.mono (by rw [size_alloc, size_alloc]; omega))
    exact ⟨blk_cell hA 0 rfl, blk_cell hB 0 rfl⟩
  have hmf : ∀ (fn : Fn) (first cap : Array Value) (w : World), (Instr.makeFunc fn first cap).run Tryz.prog w = .ok (.func fn first cap) w := fun _ _ _ _ => rfl
  clear h ha hq ok hl hR hRl X0
  go_enter Tryz.func91, Tryz.ntmps91
  go_wp2
  go_loopw [5, 12] (fun q i wr => ∃ k : Nat, k ≤ c.length ∧ i = .int .i64 k ∧ Hid (Ow wr (w.heap.size + 2) q (R.take k)) ∧ Hid (Ext ((w.alloc (.cells #[.slice vo c.length k0] 43)).alloc (.cells #[.func (.func g) #[] lb] 135)) wr)) (fun _ i _ => c.length - (intOf i).toNat)
  case atStart => exact ⟨0, Nat.zero_le _, rfl, Lib.hid (Ow.nil _ _), Lib.hid (Ext.refl _)⟩
  case round =>
    obtain ⟨k, hk, rfl, HO, HX⟩ := hrel
    have hsz : w.heap.size + 2 ≤ wr.heap.size := by have := HX.out.size; rw [size_alloc, size_alloc] at this; omega
    by_cases hlt : k < c.length
    · obtain ⟨b, off, rfl, hn, hnc, hc63, hb, hcell⟩ := HS.out.intsAt hlt
      have hya := (HX.out.cell (p := ⟨b, off + k, none⟩) hb).trans hcell
      obtain ⟨kc, kf⟩ := HK.out wr HX.out
      obtain ⟨y, hy⟩ : ∃ y, y = c.getD k 0 := ⟨_, rfl⟩
      rw [← hy] at hya
      have hkN : (k : Int) < N := by have := HLL.out; omega
      have hcol : col c (k : Int) = y := by rw [hy]; rfl
      have HN : Hid (R.take (k + 1) = R.take k ++ [take1 c (rnear N E k) k]) := Lib.hid (by
        rw [take_next (by rw [HRL.out]; exact hlt) 0]
        congr 2
        have := col_round (N := N) (E := E) (c := c) (i := (k : Int)) (by omega) hkN
        rw [← HR.out] at this
        exact this)
      obtain ⟨L, hL⟩ : ∃ L, L = R.take k := ⟨_, rfl⟩
      have hLl : L.length ≤ 64 := by rw [hL]; simp; omega
      rw [← hL] at HO HN
      -- the box of the node
      obtain ⟨W1, hW1⟩ : ∃ W1, W1 = wr.alloc (.cells #[.int .i64 (k : Int)] 3) := ⟨_, rfl⟩
      have XW : Ext wr W1 := by rw [hW1]; exact (Ext.refl wr).alloc _
      have v1 : W1.cell? ⟨wr.heap.size, 0, none⟩ = some (.int .i64 (k : Int)) := by rw [hW1]; exact blk_cell (get_alloc_new _ _) 0 rfl
      have vsz : W1.heap.size = wr.heap.size + 1 := by rw [hW1, size_alloc]
      have XX := HX.out.trans XW
      obtain ⟨kc1, kf1⟩ := HK.out W1 XX
      have HT := Lib.hid (taken_tells W1 (w.heap.size + 1) wr.heap.size w.heap.size _ _ N E c k HOK.out (by omega) (by omega) (by omega) kf1 v1 kc1 (HS.out.ext XX) HLL.out (HA.out.ext (HX0.out.trans XX)) (by omega) hkN)
      have HW := Lib.hid (HQ.out W1 k _ _ (HX0.out.trans XX) (by omega) hkN ((ahead_tells W1 wr.heap.size w.heap.size _ c k (by omega) (by omega) v1 kc1 (HS.out.ext XX)).imp fun x hx => by have := near_in HOK.out hx; have := HLL.out; omega))
      have HWD : Hid (((rnear N E k).any fun x => decide ((k : Int) < x) && (col c x == 0)) = waits c (rnear N E k) k) := Lib.hid rfl
      have HXW := Lib.hid XW
      clear hy hL hcell XX XW kc1 vsz
      rw [HWD.out] at HW
      subst hW1
      by_cases h0 : y = 0
      · subst h0
        cases hw : waits c (rnear N E k) k
        · have hm := take1_takes hcol hw
          have hmb := hm.le (M := (rnear N E k).map (col c)) fun x hx => taken_mem hx
          have hrl : (rnear N E (k : Int)).length ≤ 64 := by
            unfold rnear
            have := List.length_filter_le (fun b => decide (btw (k : Int) b ∈ E)) ((List.range N.toNat).map (fun i : Nat => (i : Int)))
            simp at this
            omega
          rw [List.length_map] at hmb
          rw [hw] at HW
          obtain ⟨m, hmd⟩ : ∃ m, m = take1 c (rnear N E k) k := ⟨_, rfl⟩
          rw [← hmd] at hm HN hmb
          have HM := Lib.hid hm
          have hm1 := hm.pos
          clear hm hw hmd hcol
          go_wp2_with (first
            | (go_at_fn g; refine HW.out.mono ?_; rintro e w1 ⟨rfl, hx⟩; have X1 := Lib.hid (HXW.out.trans hx); have T1 := Lib.hid (HT.out.ext hx); clear hx)
            | (go_at_call 118; refine (least_any _ _ _ m T1.out HM.out (by omega)).mono ?_; rintro e w2 ⟨rfl, hx⟩; have X2 := Lib.hid (X1.out.trans hx); have hs2 := Below.size X2.out; clear hx)
            | (at_builtin; refine wpList_append_sl (α := Int) rfl (.tmp 30) (.tmp 32) rfl (w.heap.size + 2) _ L rfl ?_ (.slice (some ⟨_, 0, none⟩) 1 1) [m] rfl ?_ ?_ ?_ ?_; exact ((HO.out.ext X2.out).alloc _); exact (Sl.litAt w2 _ rfl [m] (show (1 : Nat) ≤ 1000000 by decide)); (first | omega | (simp; omega)); exact (by first | omega | (rw [size_alloc]; omega)); intro v3 W3 ho3 ha3; have O3 := Lib.hid ho3; have y3 := Lib.hid (Below.trans (HX.out.trans (X2.out.alloc _)) (Below.mono ha3.below (by rw [size_alloc, size_alloc]; omega))); clear ho3 ha3))
          go_roundw
          case rel => exact ⟨k + 1, by omega, by go_num, Lib.hid (by rw [HN.out]; exact O3.out), y3⟩
          case measure => simp [intOf]; omega
        · have hz : take1 c (rnear N E k) k = 0 := (take1_waits hw).trans hcol
          rw [hz] at HN
          rw [hw] at HW
          clear hz hw hcol HT
          go_wp2_with (first
            | (go_at_fn g; refine HW.out.mono ?_; rintro e w1 ⟨rfl, hx⟩; have X1 := Lib.hid (HXW.out.trans hx); have hs1 := Below.size X1.out; clear hx)
            | (at_builtin; refine wpList_append_sl (α := Int) rfl (.tmp 30) (.tmp 32) rfl (w.heap.size + 2) _ L rfl ?_ (.slice (some ⟨_, 0, none⟩) 1 1) [0] rfl ?_ ?_ ?_ ?_; exact ((HO.out.ext X1.out).alloc _); exact (Sl.litAt w1 _ rfl [0] (show (1 : Nat) ≤ 1000000 by decide)); (first | omega | (simp; omega)); exact (by first | omega | (rw [size_alloc]; omega)); intro v3 W3 ho3 ha3; have O3 := Lib.hid ho3; have y3 := Lib.hid (Below.trans (HX.out.trans (X1.out.alloc _)) (Below.mono ha3.below (by rw [size_alloc, size_alloc]; omega))); clear ho3 ha3))
          go_roundw
          case rel => exact ⟨k + 1, by omega, by go_num, Lib.hid (by rw [HN.out]; exact O3.out), y3⟩
          case measure => simp [intOf]; omega
      · have hz : take1 c (rnear N E k) k = y := (take1_keeps (by rw [hcol]; exact h0)).trans hcol
        rw [hz] at HN
        have e0 : (y == 0) = false := by simp [h0]
        clear hz hcol HT HW h0
        go_wp2_with (first
          | (at_builtin; refine wpList_append_sl (α := Int) rfl (.tmp 30) (.tmp 32) rfl (w.heap.size + 2) _ L rfl ?_ (.slice (some ⟨_, 0, none⟩) 1 1) [y] rfl ?_ ?_ ?_ ?_; exact ((HO.out.alloc _).alloc _); exact (Sl.litAt _ _ (by simp) [y] (show (1 : Nat) ≤ 1000000 by decide)); (first | omega | (simp; omega)); exact (by first | omega | (rw [size_alloc]; omega) | (rw [size_alloc, size_alloc]; omega)); intro v3 W3 ho3 ha3; have O3 := Lib.hid ho3; have y3 := Lib.hid (Below.trans ((HX.out.alloc _).alloc _) (Below.mono ha3.below (by rw [size_alloc, size_alloc]; omega))); clear ho3 ha3))
        go_roundw
        case rel => exact ⟨k + 1, by omega, by go_num, Lib.hid (by rw [HN.out]; exact O3.out), y3⟩
        case measure => simp [intOf]; omega
    · have hkl : k = c.length := by omega
      have ho := HO.out
      rw [hkl, ← HRL.out, List.take_length] at ho
      have HO' := Lib.hid ho
      clear ho HO hkl
      go_wp2
      go_ret
      exact ⟨_, rfl, HO'.out.mono (by omega), HX0.out.trans HX.out⟩

end Go.Proofs.YtdfleocknaackaaGreat

/- Colours: Round and Most. -/
namespace Go.Proofs.YtdfleocknaackaaGreat
open Go.RowKit

def roundR (N : Int) (E : List Edge) (c : List Int) : Int := if okG N E = true then (if cForm N c = true then 0 else 110) else 30
theorem form_iff {N : Int} {c : List Int} : cForm N c = true ↔ (c.length : Int) = N ∧ ∀ x ∈ c, 0 ≤ x := by
  simp [cForm, List.all_eq_true]
theorem any_neg (c : List Int) : (c.any fun x => decide (x < 0)) = !(c.all fun x => decide (0 ≤ x)) := by
  rw [List.not_all_eq_any_not]
  exact any_same fun x _ => by rw [← decide_not]; exact decide_eq_decide.2 (by omega)

/-- numbers and what is wrong come out -/
def GivesC (w : World) (d : List Int) (r : Int) (e : Ending) (w' : World) : Prop := ∃ v, e = .returned (.tuple #[v, .int .i64 r]) ∧ Sl w' v d ∧ Ext w w'
theorem Sl.none (w : World) : Sl w (.slice none 0 0) ([] : List Int) := Sl.empty _ _ _ (by omega) (fun _ => rfl)

end Go.Proofs.YtdfleocknaackaaGreat
