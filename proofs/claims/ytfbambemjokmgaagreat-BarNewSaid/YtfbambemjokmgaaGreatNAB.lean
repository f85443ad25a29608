/- Texts of this seat. -/
import Derived.Test.YtfbambemjokmgaaGreatNAA
namespace Go.Proofs.YtfbambemjokmgaaGreat
open Go.RowKit
instance : Elem Int where
  e := 3
  t := 26
  k := 1
  bytes := 8
  z := .int .i64 0
  enc := fun x => [.int .i64 x]
  dflt := 0
  len := fun _ => rfl
  pos := by decide
  one := fun x u hu => by simp at hu; subst hu; rfl
  row := by kernel_rfl
  info := by kernel_rfl
  zsize := rfl
  few := by decide
theorem Sl.ints {w : World} {v : Value} {xs : List Int} (h : Sl w v xs) :
    (xs = [] ∧ ∃ ao c, v = .slice ao 0 c) ∨
    (∃ b off c, v = .slice (some ⟨b, off, none⟩) xs.length c ∧ xs.length ≤ c ∧ c ≤ 9223372036854775807 ∧ b < w.heap.size ∧ 0 < xs.length ∧ ∀ j, j < xs.length → w.cell? ⟨b, off + j, none⟩ = some (.int .i64 (xs.getD j 0))) := by
  rcases h.parts with h | ⟨b, off, c, h1, h2, h3, h4, h5, h6⟩
  · exact .inl h
  · refine .inr ⟨b, off, c, h1, h2, h3, h4, h5, fun j hj => ?_⟩
    have := h6 j (xs.getD j 0) (by simp [hj]) 0 _ rfl
    rwa [show off + (j * Elem.k Int + 0) = off + j from by show off + (j * 1 + 0) = _; omega] at this
structure Edge where
  a : Int
  b : Int
deriving DecidableEq
instance : Elem Edge where
  e := 30
  t := 51
  k := 2
  bytes := 16
  z := .agg #[.int .i64 0, .int .i64 0]
  enc := fun x => [.int .i64 x.a, .int .i64 x.b]
  dflt := ⟨0, 0⟩
  len := fun _ => rfl
  pos := by decide
  one := fun x u hu => by simp at hu; rcases hu with rfl | rfl <;> rfl
  row := by kernel_rfl
  info := by kernel_rfl
  zsize := rfl
  few := by decide
theorem Sl.edges {w : World} {v : Value} {xs : List Edge} (h : Sl w v xs) :
    (xs = [] ∧ ∃ ao c, v = .slice ao 0 c) ∨
    (∃ b off c, v = .slice (some ⟨b, off, none⟩) xs.length c ∧ xs.length ≤ c ∧ c ≤ 9223372036854775807 ∧ b < w.heap.size ∧ 0 < xs.length ∧
      ∀ j, j < xs.length → w.cell? ⟨b, off + j * 2, none⟩ = some (.int .i64 (xs.getD j ⟨0, 0⟩).a) ∧ w.cell? ⟨b, off + j * 2 + 1, none⟩ = some (.int .i64 (xs.getD j ⟨0, 0⟩).b)) := by
  rcases h.parts with h | ⟨b, off, c, h1, h2, h3, h4, h5, h6⟩
  · exact .inl h
  · refine .inr ⟨b, off, c, h1, h2, h3, h4, h5, fun j hj => ?_⟩
    have e : xs[j]? = some (xs.getD j ⟨0, 0⟩) := by simp [hj]
    exact ⟨h6 j _ e 0 _ rfl, by have := h6 j _ e 1 _ rfl; rwa [show off + (j * Elem.k Edge + 1) = off + j * 2 + 1 from by show off + (j * 2 + 1) = _; omega] at this⟩
theorem cells_i (xs : List Int) : cellsOf xs = xs.map (Value.int .i64) := by
  induction xs with
  | nil => rfl
  | cons x xs ih => show [Value.int .i64 x] ++ cellsOf xs = _; rw [ih]; rfl
def ahead (x y : Edge) : Bool := decide (x.a < y.a) || (decide (x.a = y.a) && decide (x.b < y.b))
def cmpI (a b : Int) : Int := if a < b then -1 else if b < a then 1 else 0
def ord (x y : Edge) : Int := if cmpI x.a y.a ≠ 0 then cmpI x.a y.a else cmpI x.b y.b
def btw (a b : Int) : Edge := ⟨min a b, max a b⟩
def rises (E : List Edge) : Bool := decide (E.Pairwise fun x y => ahead x y = true)
def okE (N : Int) (e : Edge) : Bool := decide (0 ≤ e.a) && decide (e.a < e.b) && decide (e.b < N)
def okG (N : Int) (E : List Edge) : Bool := decide (0 ≤ N) && decide (N ≤ 64) && decide (E.length ≤ 400) && E.all (okE N) && rises E
theorem ord_lt (x y : Edge) : decide (ord x y < 0) = ahead x y := by
  unfold ord ahead cmpI
  rw [Bool.eq_iff_iff]
  simp only [decide_eq_true_eq, Bool.or_eq_true, Bool.and_eq_true]
  repeat' split
  all_goals omega
theorem ord_zero (x y : Edge) : decide (ord x y = 0) = decide (x = y) := by
  obtain ⟨a, b⟩ := x
  obtain ⟨c, d⟩ := y
  unfold ord cmpI
  rw [Bool.eq_iff_iff]
  simp only [decide_eq_true_eq, Edge.mk.injEq]
  repeat' split
  all_goals omega
theorem ahead_trans {x y z : Edge} (h : ahead x y = true) (g : ahead y z = true) : ahead x z = true := by
  simp only [ahead, Bool.or_eq_true, Bool.and_eq_true, decide_eq_true_eq] at *
  omega
theorem ahead_irr (x : Edge) : ahead x x = false := by simp [ahead]
theorem ahead_asymm {x y : Edge} (h : ahead x y = true) : ahead y x = false := by
  cases e : ahead y x with
  | false => rfl
  | true => have := ahead_trans h e; rw [ahead_irr] at this; cases this
theorem btw_comm (a b : Int) : btw a b = btw b a := by simp [btw, Int.min_comm, Int.max_comm]
def Rises (E : List Edge) : Prop := E.Pairwise fun x y => ahead x y = true
theorem rises_iff {E : List Edge} : rises E = true ↔ Rises E := by simp [rises, Rises]
theorem rises_ext {l m : List Edge} (hl : Rises l) (hm : Rises m) (h : ∀ x, x ∈ l ↔ x ∈ m) : l = m := by
  induction l generalizing m with
  | nil => cases m with
    | nil => rfl
    | cons y m => exact absurd ((h y).2 (by simp)) (by simp)
  | cons x l ih => cases m with
    | nil => exact absurd ((h x).1 (by simp)) (by simp)
    | cons y m =>
      have a := List.pairwise_cons.1 hl
      have b := List.pairwise_cons.1 hm
      have exy : x = y := by
        rcases List.mem_cons.1 ((h x).1 (by simp)) with e | e
        · exact e
        · rcases List.mem_cons.1 ((h y).2 (by simp)) with e' | e'
          · exact e'.symm
          · have h1 := b.1 x e
            have h2 := a.1 y e'
            rw [ahead_asymm h1] at h2; cases h2
      subst exy
      rw [ih a.2 b.2]
      intro z
      constructor
      · intro hz
        rcases List.mem_cons.1 ((h z).1 (by simp [hz])) with e | e
        · subst e; have := a.1 z hz; rw [ahead_irr] at this; cases this
        · exact e
      · intro hz
        rcases List.mem_cons.1 ((h z).2 (by simp [hz])) with e | e
        · subst e; have := b.1 z hz; rw [ahead_irr] at this; cases this
        · exact e
theorem rises_filter {l : List Edge} (h : Rises l) (p : Edge → Bool) : Rises (l.filter p) := List.Pairwise.sublist List.filter_sublist h
def chk (N : Int) (E : List Edge) : Int := if okG N E = true then 0 else 30
def badEnds (N a b : Int) : Bool := decide (a = b) || (decide (min a b < 0) || decide (N ≤ max a b))
def ends (N : Int) (E : List Edge) (a b : Int) : Int := if okG N E = true then (if badEnds N a b = true then 31 else 0) else 30
structure OkG (N : Int) (E : List Edge) : Prop where
  n0 : 0 ≤ N
  n64 : N ≤ 64
  few : E.length ≤ 400
  each : ∀ e ∈ E, 0 ≤ e.a ∧ e.a < e.b ∧ e.b < N
  rise : Rises E
theorem okG_iff {N : Int} {E : List Edge} : okG N E = true ↔ OkG N E := by
  simp only [okG, Bool.and_eq_true, decide_eq_true_eq, List.all_eq_true, okE, rises_iff]
  constructor
  · rintro ⟨⟨⟨⟨h1, h2⟩, h3⟩, h4⟩, h5⟩
    exact ⟨h1, h2, h3, fun e he => by have := h4 e he; omega, h5⟩
  · rintro ⟨h1, h2, h3, h4, h5⟩
    exact ⟨⟨⟨⟨h1, h2⟩, h3⟩, fun e he => by have := h4 e he; omega⟩, h5⟩
end Go.Proofs.YtfbambemjokmgaaGreat
namespace Go.Proofs.YtfbambemjokmgaaGreat
open Go.RowKit
theorem compare_any (w : World) (a b : Int) : Calls Tryz.prog 209 #[.int .i64 a, .int .i64 b] w fun e w' => e = .returned (.int .i64 (cmpI a b)) ∧ w' = w := by
  rcases Int.lt_trichotomy a b with h | h | h
  · have e : cmpI a b = -1 := by unfold cmpI; rw [if_pos h]
    have E := Lib.hid e
    clear e
    go_enter Tryz.func209, Tryz.ntmps209
    go_wp2
    go_ret
    exact ⟨by rw [E.out]; rfl, rfl⟩
  · have e : cmpI a b = 0 := by unfold cmpI; rw [if_neg (by omega), if_neg (by omega)]
    have h1 : ¬ a < b := by omega
    have h2 : ¬ b < a := by omega
    have E := Lib.hid e
    clear e h
    go_enter Tryz.func209, Tryz.ntmps209
    go_wp2
    go_ret
    exact ⟨by rw [E.out]; rfl, rfl⟩
  · have e : cmpI a b = 1 := by unfold cmpI; rw [if_neg (by omega), if_pos h]
    have h1 : ¬ a < b := by omega
    have E := Lib.hid e
    clear e
    go_enter Tryz.func209, Tryz.ntmps209
    go_wp2
    go_ret
    exact ⟨by rw [E.out]; rfl, rfl⟩
theorem or_any (w : World) (v : Value) (a b : Int) (h : Sl w v [a, b]) :
    Calls Tryz.prog 208 #[v] w fun e w' => e = .returned (.int .i64 (if a ≠ 0 then a else b)) ∧ w' = w := by
  rcases h.ints with ⟨h, _⟩ | ⟨B, off, c, rfl, hc, hc63, hB, _, hcell⟩
  · simp at h
  have h0 : w.cell? ⟨B, off, none⟩ = some (.int .i64 a) := hcell 0 (by simp)
  have h1 : w.cell? ⟨B, off + 1, none⟩ = some (.int .i64 b) := hcell 1 (by simp)
  have hl : ([a, b] : List Int).length = 2 := rfl
  rw [hl]
  clear hcell h hl hc
  by_cases ha : a = 0
  · by_cases hb : b = 0
    · subst ha hb
      go_enter Tryz.func208, Tryz.ntmps208
      go_wp2
      refine wp_loop_rounds 3 ?_
      rw [rounds_succ]; go_wp2
      rw [rounds_succ]; go_wp2
      rw [rounds_succ]; go_wp2
      go_ret
      exact ⟨rfl, rfl⟩
    · subst ha
      have hb' : (b != 0) = true := by simp [hb]
      have e : (if (0 : Int) ≠ 0 then (0 : Int) else b) = b := by simp
      rw [e]
      clear e
      have HB := Lib.hid hb
      clear hb
      go_enter Tryz.func208, Tryz.ntmps208
      go_wp2
      refine wp_loop_rounds 3 ?_
      rw [rounds_succ]; go_wp2
      rw [rounds_succ]; go_wp2
      go_ret
      exact ⟨rfl, rfl⟩
  · have ha' : (a != 0) = true := by simp [ha]
    have e : (if a ≠ 0 then a else b) = a := by simp [ha]
    rw [e]
    clear e ha
    go_enter Tryz.func208, Tryz.ntmps208
    go_wp2
    refine wp_loop_rounds 3 ?_
    rw [rounds_succ]; go_wp2
    go_ret
    exact ⟨rfl, rfl⟩
theorem or_val (w : World) (v : Value) (a b r : Int) (h : Sl w v [a, b]) (hr : (if a ≠ 0 then a else b) = r) :
    Calls Tryz.prog 208 #[v] w fun e w' => e = .returned (.int .i64 r) ∧ w' = w := hr ▸ or_any w v a b h
theorem ord_def (xa xb ya yb : Int) : (if cmpI xa ya ≠ 0 then cmpI xa ya else cmpI xb yb) = ord ⟨xa, xb⟩ ⟨ya, yb⟩ := by unfold ord; rfl
theorem two_edges (w : World) (xa xb ya yb : Int) (W : World) (h : Ext ((w.alloc (.cells #[.int .i64 xa, .int .i64 xb] 30)).alloc (.cells #[.int .i64 ya, .int .i64 yb] 30)) W) :
    (W.cell? ⟨w.heap.size, 0, none⟩ = some (.int .i64 xa) ∧ W.cell? ⟨w.heap.size, 1, none⟩ = some (.int .i64 xb)) ∧ W.cell? ⟨w.heap.size + 1, 0, none⟩ = some (.int .i64 ya) ∧ W.cell? ⟨w.heap.size + 1, 1, none⟩ = some (.int .i64 yb) := by
  obtain ⟨hA, hB⟩ := box2 (h.mono (by rw [size_alloc, size_alloc]; omega))
  exact ⟨⟨blk_cell hA 0 rfl, blk_cell hA 1 rfl⟩, blk_cell hB 0 rfl, blk_cell hB 1 rfl⟩
set_option maxHeartbeats 1000000 in
theorem order_any (w : World) (xa xb ya yb : Int) : Calls Tryz.prog 200 #[.agg #[.int .i64 xa, .int .i64 xb], .agg #[.int .i64 ya, .int .i64 yb]] w fun e w' => e = .returned (.int .i64 (ord ⟨xa, xb⟩ ⟨ya, yb⟩)) ∧ Ext w w' := by
  have HK := Lib.hid (two_edges w xa xb ya yb)
  go_enter Tryz.func200, Tryz.ntmps200
  go_wp2_with fail
  go_region_held3 (fun W => (W.cell? ⟨w.heap.size, 0, none⟩ = some (.int .i64 xa) ∧ W.cell? ⟨w.heap.size, 1, none⟩ = some (.int .i64 xb)) ∧ W.cell? ⟨w.heap.size + 1, 0, none⟩ = some (.int .i64 ya) ∧ W.cell? ⟨w.heap.size + 1, 1, none⟩ = some (.int .i64 yb)) (exact HK.out _ ((by repeat (first | exact Ext.refl _ | assumption | refine Ext.alloc ?_ _ | refine Ext.drew ?_ | refine Ext.drewN ?_ _))))
    (first
    | (go_at_call 209; refine (compare_any _ _ _).mono ?_; rintro e w1 ⟨rfl, rfl⟩)
    | (go_at_call 208; refine (or_val _ _ (cmpI xa ya) (cmpI xb yb) (ord ⟨xa, xb⟩ ⟨ya, yb⟩) (by first | exact Sl.litAt _ _ rfl [cmpI xa ya, cmpI xb yb] (by simp) | exact Sl.litAt _ _ (by simp) [cmpI xa ya, cmpI xb yb] (by simp) | exact Sl.drew (Sl.litAt _ _ (by simp) [cmpI xa ya, cmpI xb yb] (by simp))) (ord_def _ _ _ _)).mono ?_; rintro e w1 ⟨rfl, rfl⟩))
  all_goals go_wp2
  all_goals go_ret
  all_goals exact ⟨rfl, (by repeat (first | exact Ext.refl _ | assumption | refine Ext.alloc ?_ _ | refine Ext.drew ?_ | refine Ext.drewN ?_ _))⟩
end Go.Proofs.YtfbambemjokmgaaGreat
namespace Go.Proofs.YtfbambemjokmgaaGreat
open Go.RowKit
def Edge.val (e : Edge) : Value := .agg #[.int .i64 e.a, .int .i64 e.b]
structure Tells {α : Type} (val : α → Value) (w : World) (fv : Value) (p : α → Bool) : Prop where
  any : ∃ g lb, fv = .func (.func g) #[] lb ∧ (∀ args w, (callFunc g args).run Tryz.prog w = .ok (.enter g args) w) ∧ ∀ W x, Ext w W → Calls Tryz.prog g (#[val x] ++ lb) W fun e w' => e = .returned (.bool (p x)) ∧ Ext W w'
theorem Tells.ext {α : Type} {val : α → Value} {w w' : World} {fv : Value} {p : α → Bool} (h : Tells val w fv p) (e : Ext w w') : Tells val w' fv p := by
  obtain ⟨g, lb, rfl, h2, h3⟩ := h.any
  exact ⟨g, lb, rfl, h2, fun W x hW => h3 W x (e.trans hW)⟩
theorem Tells.sh {α : Type} {val : α → Value} {w : World} {fv : Value} {p : α → Bool} (h : Tells val w fv p) : ∃ g lb, fv = .func (.func g) #[] lb := by
  obtain ⟨g, lb, rfl, _⟩ := h.any
  exact ⟨g, lb, rfl⟩
theorem any_next {α : Type} {xs : List α} {k : Nat} (p : α → Bool) (h : k < xs.length) (d : α) : (xs.take (k + 1)).any p = ((xs.take k).any p || p (xs.getD k d)) := by
  rw [List.take_succ_eq_append_getElem h, List.any_append]
  simp [h]
theorem any_of_take {α : Type} {xs : List α} {k : Nat} {p : α → Bool} (h : (xs.take k).any p = true) : xs.any p = true := by
  rw [List.any_eq_true] at *
  obtain ⟨x, h1, h2⟩ := h
  exact ⟨x, List.mem_of_mem_take h1, h2⟩
theorem filter_next {α : Type} {xs : List α} {k : Nat} (p : α → Bool) (h : k < xs.length) (d : α) : (xs.take (k + 1)).filter p = (xs.take k).filter p ++ (if p (xs.getD k d) = true then [xs.getD k d] else []) := by
  rw [List.take_succ_eq_append_getElem h, List.filter_append]
  simp [h, List.filter_cons]
theorem take_next {α : Type} {xs : List α} {k : Nat} (h : k < xs.length) (d : α) : xs.take (k + 1) = xs.take k ++ [xs.getD k d] := by
  rw [List.take_succ_eq_append_getElem h]
  simp [h]
theorem take_eq_next {α : Type} {xs ys : List α} {k : Nat} (h1 : k < xs.length) (h2 : k < ys.length) (d : α) : xs.take (k + 1) = ys.take (k + 1) ↔ xs.take k = ys.take k ∧ xs.getD k d = ys.getD k d := by
  rw [take_next h1 d, take_next h2 d]
  constructor
  · intro h
    have := List.append_inj h (by simp; omega)
    exact ⟨this.1, by simpa using this.2⟩
  · rintro ⟨ha, hb⟩
    rw [ha, hb]
theorem cell_at {w : World} {cs : Array Value} {t : TypeId} {i : Nat} {u : Value} (W : World) (h : Ext (w.alloc (.cells cs t (0, 0))) W) (hu : cs[i]? = some u) : W.cell? ⟨w.heap.size, i, none⟩ = some u :=
  blk_cell (box1 (h.mono (by rw [size_alloc]; omega))) i hu
set_option maxHeartbeats 1000000 in
theorem indexFunc_e (w : World) (v fv : Value) (E : List Edge) (p : Edge → Bool) (h : Sl w v E) (ht : Tells Edge.val w fv p) :
    Calls Tryz.prog 199 #[v, fv] w fun e w' => ∃ r : Int, e = .returned (.int .i64 r) ∧ decide (0 ≤ r) = E.any p ∧ Ext w w' := by
  obtain ⟨g, lb, rfl, eg, hp⟩ := ht.any
  have HP := Lib.hid hp
  clear ht hp
  rcases Sl.edges h with ⟨rfl, ao, c, rfl⟩ | ⟨b, off, c, rfl, hc, hc63, hb, hpos, hcell⟩
  · go_enter Tryz.func199, Tryz.ntmps199
    go_wp2
    refine wp_loop_rounds 1 ?_
    rw [rounds_succ]
    go_wp2
    go_ret
    exact ⟨_, rfl, rfl, Ext.refl _⟩
  · have HC := Lib.hid hcell
    clear hcell h
    go_enter Tryz.func199, Tryz.ntmps199
    go_wp2
    go_loopw [8] (fun i wr => ∃ k : Nat, k ≤ E.length ∧ i = .int .i64 k ∧ Hid ((E.take k).any p = false) ∧ Hid (Ext w wr)) (fun i _ => E.length - (intOf i).toNat)
    case atStart => exact ⟨0, Nat.zero_le _, rfl, Lib.hid rfl, Lib.hid (Ext.refl _)⟩
    case round =>
      obtain ⟨k, hk, rfl, HT, HX⟩ := hrel
      by_cases hlt : k < E.length
      · 
        have hya := (HX.out.cell (p := ⟨b, off + k * 2, none⟩) hb).trans (HC.out k hlt).1
        have hyb := (HX.out.cell (p := ⟨b, off + k * 2 + 1, none⟩) hb).trans (HC.out k hlt).2
        obtain ⟨⟨ya, yb⟩, hy⟩ : ∃ y, y = E.getD k ⟨0, 0⟩ := ⟨_, rfl⟩
        rw [← hy] at hya hyb
        have HN : Hid ((E.take (k + 1)).any p = ((E.take k).any p || p ⟨ya, yb⟩)) := Lib.hid (by rw [any_next p hlt ⟨0, 0⟩, ← hy])
        clear hy
        have HH : Hid (∀ s, p ⟨ya, yb⟩ = s → Calls Tryz.prog g (#[.agg #[.int .i64 ya, .int .i64 yb]] ++ lb) wr fun e w' => e = .returned (.bool s) ∧ Ext wr w') := Lib.hid fun s hs => hs ▸ HP.out wr ⟨ya, yb⟩ HX.out
        obtain ⟨s, hs⟩ : ∃ s, p ⟨ya, yb⟩ = s := ⟨_, rfl⟩
        rw [hs] at HN
        have HS := Lib.hid hs
        clear hs
        cases s
        · go_wp2_with (go_at_fn g; refine (HH.out _ HS.out).mono ?_; rintro e w1 ⟨rfl, hx⟩; have HX1 := Lib.hid (HX.out.trans hx); clear hx)
          go_roundw
          case rel => exact ⟨k + 1, by omega, by go_num, Lib.hid (by rw [HN.out, HT.out]; rfl), HX1⟩
          case measure => simp [intOf]; omega
        · go_wp2_with (go_at_fn g; refine (HH.out _ HS.out).mono ?_; rintro e w1 ⟨rfl, hx⟩; have HX1 := Lib.hid (HX.out.trans hx); clear hx)
          go_ret
          exact ⟨_, rfl, by rw [any_of_take (HN.out.trans (by simp))]; simp, HX1.out⟩
      · have hkl : k = E.length := by omega
        go_wp2
        go_ret
        exact ⟨_, rfl, by have := HT.out; rw [hkl, List.take_length] at this; rw [this]; rfl, HX.out⟩
theorem containsFunc_e (w : World) (v fv : Value) (E : List Edge) (p : Edge → Bool) (h : Sl w v E) (ht : Tells Edge.val w fv p) (t : Bool) (hr : E.any p = t) :
    Calls Tryz.prog 171 #[v, fv] w fun e w' => e = .returned (.bool t) ∧ Ext w w' := by
  subst hr
  have HS := Lib.hid h
  have HT := Lib.hid ht
  clear h ht
  go_enter Tryz.func171, Tryz.ntmps171
  go_wp2_with (go_at_call 199; refine (indexFunc_e _ _ _ E p HS.out HT.out).mono ?_; rintro e w1 ⟨r, rfl, hr, hx⟩; have HR := Lib.hid hr; have HX := Lib.hid hx; clear hr hx)
  go_ret
  exact ⟨ret_bool HR.out, HX.out⟩
theorem order_val (w : World) (xa xb ya yb r : Int) (hr : ord ⟨xa, xb⟩ ⟨ya, yb⟩ = r) : Calls Tryz.prog 200 #[.agg #[.int .i64 xa, .int .i64 xb], .agg #[.int .i64 ya, .int .i64 yb]] w fun e w' => e = .returned (.int .i64 r) ∧ Ext w w' := hr ▸ order_any w xa xb ya yb
theorem rises_next {E : List Edge} {k : Nat} (h1 : 1 ≤ k) (h : k < E.length) : Rises (E.take (k + 1)) ↔ Rises (E.take k) ∧ ahead (E.getD (k - 1) ⟨0, 0⟩) (E.getD k ⟨0, 0⟩) = true := by
  rw [take_next h ⟨0, 0⟩]
  have ht : E.take k = E.take (k - 1) ++ [E.getD (k - 1) ⟨0, 0⟩] := by
    have := take_next (xs := E) (k := k - 1) (by omega) ⟨0, 0⟩
    rwa [show k - 1 + 1 = k from by omega] at this
  constructor
  · intro hr
    have := List.pairwise_append.1 hr
    exact ⟨this.1, this.2.2 _ (by rw [ht]; simp) _ (by simp)⟩
  · rintro ⟨hr, ha⟩
    refine List.pairwise_append.2 ⟨hr, by simp, fun x hx y hy => ?_⟩
    rw [List.mem_singleton] at hy
    subst hy
    rw [ht] at hx hr
    rcases List.mem_append.1 hx with hx | hx
    · exact ahead_trans ((List.pairwise_append.1 hr).2.2 x hx _ (by simp)) ha
    · rw [List.mem_singleton] at hx
      subst hx
      exact ha
theorem rises_one (E : List Edge) : Rises (E.take 1) := by
  match E with
  | [] => exact List.Pairwise.nil
  | x :: l => exact List.pairwise_singleton _ _
set_option maxHeartbeats 1000000 in
theorem rise_any (w : World) (v : Value) (E : List Edge) (h : Sl w v E) : Calls Tryz.prog 172 #[v] w fun e w' => e = .returned (.bool (rises E)) ∧ Ext w w' := by
  rcases h.edges with ⟨rfl, ao, c, rfl⟩ | ⟨b, off, c, rfl, hc, hc63, hb, hpos, hcell⟩
  · go_enter Tryz.func172, Tryz.ntmps172
    go_wp2
    refine wp_loop_rounds 1 ?_
    rw [rounds_succ]
    go_wp2
    go_ret
    exact ⟨rfl, Ext.refl _⟩
  · have hlen : E.length ≤ 9223372036854775807 := by omega
    have HC := Lib.hid hcell
    clear hcell h
    go_enter Tryz.func172, Tryz.ntmps172
    go_wp2
    go_loopw [3] (fun i wr => ∃ k : Nat, 1 ≤ k ∧ k ≤ E.length ∧ i = .int .i64 k ∧ Hid (Rises (E.take k)) ∧ Hid (Ext w wr)) (fun i _ => E.length - (intOf i).toNat)
    case atStart => exact ⟨1, Nat.le_refl _, hpos, rfl, Lib.hid (rises_one E), Lib.hid (Ext.refl _)⟩
    case round =>
      obtain ⟨k, hk1, hk, rfl, HT, HX⟩ := hrel
      by_cases hlt : k < E.length
      · have hk' : k - 1 < E.length := by omega
        obtain ⟨⟨ya, yb⟩, hy⟩ : ∃ y, y = E.getD k ⟨0, 0⟩ := ⟨_, rfl⟩
        obtain ⟨⟨za, zb⟩, hz⟩ : ∃ z, z = E.getD (k - 1) ⟨0, 0⟩ := ⟨_, rfl⟩
        have HK : Hid (∀ W, Ext wr W → (W.cell? ⟨b, off + k * 2, none⟩ = some (.int .i64 ya) ∧ W.cell? ⟨b, off + k * 2 + 1, none⟩ = some (.int .i64 yb)) ∧ W.cell? ⟨b, off + (k - 1) * 2, none⟩ = some (.int .i64 za) ∧ W.cell? ⟨b, off + (k - 1) * 2 + 1, none⟩ = some (.int .i64 zb)) := Lib.hid fun W hW => by
          have x := HX.out.trans hW
          have c1 := HC.out k hlt
          have c2 := HC.out (k - 1) hk'
          rw [← hy] at c1
          rw [← hz] at c2
          exact ⟨⟨(x.cell (p := ⟨b, off + k * 2, none⟩) hb).trans c1.1, (x.cell (p := ⟨b, off + k * 2 + 1, none⟩) hb).trans c1.2⟩, (x.cell (p := ⟨b, off + (k - 1) * 2, none⟩) hb).trans c2.1, (x.cell (p := ⟨b, off + (k - 1) * 2 + 1, none⟩) hb).trans c2.2⟩
        have HN : Hid (Rises (E.take (k + 1)) ↔ Rises (E.take k) ∧ ahead ⟨za, zb⟩ ⟨ya, yb⟩ = true) := Lib.hid (by rw [rises_next hk1 hlt, ← hy, ← hz])
        clear hy hz
        obtain ⟨r, hr⟩ : ∃ r, ord ⟨za, zb⟩ ⟨ya, yb⟩ = r := ⟨_, rfl⟩
        have HA : Hid (ahead ⟨za, zb⟩ ⟨ya, yb⟩ = decide (r < 0)) := Lib.hid (by rw [← hr, ord_lt])
        have HR := Lib.hid hr
        clear hr
        have hw1 : IntKind.i64.wrap ((k : Int) - 1) = ((k - 1 : Nat) : Int) := by rw [IntWalk.i64_in _ (by omega)]; omega
        go_wp2_with fail
        go_region_held3 (fun W => (W.cell? ⟨b, off + k * 2, none⟩ = some (.int .i64 ya) ∧ W.cell? ⟨b, off + k * 2 + 1, none⟩ = some (.int .i64 yb)) ∧ W.cell? ⟨b, off + (k - 1) * 2, none⟩ = some (.int .i64 za) ∧ W.cell? ⟨b, off + (k - 1) * 2 + 1, none⟩ = some (.int .i64 zb)) (exact HK.out _ ((by repeat (first | exact Ext.refl _ | assumption | refine Ext.alloc ?_ _ | refine Ext.drew ?_ | refine Ext.drewN ?_ _))))
          (first
          | (go_at_call 200; refine (order_val _ _ _ _ _ r HR.out).mono ?_; rintro e w1 ⟨rfl, hx⟩; have y1 : Ext wr w1 := Ext.trans (by exact (by repeat (first | exact Ext.refl _ | assumption | refine Ext.alloc ?_ _ | refine Ext.drew ?_ | refine Ext.drewN ?_ _))) hx; clear hx))
        all_goals
          by_cases hrl : 0 ≤ r
          · go_wp2
            go_ret
            refine ⟨ret_bool (decide_eq_false (fun e => ?_)).symm, HX.out.trans (by first | exact y1 | exact Ext.drew y1)⟩
            have := (HN.out.1 (List.Pairwise.sublist (List.take_sublist _ _) e)).2
            rw [HA.out] at this
            simp at this
            omega
          · go_wp2
            go_roundw
            case rel => exact ⟨k + 1, by omega, by omega, by go_num, Lib.hid (HN.out.2 ⟨HT.out, by rw [HA.out]; simp; omega⟩), Lib.hid (HX.out.trans (by first | exact y1 | exact Ext.drew y1))⟩
            case measure => simp [intOf]; omega
      · go_wp2
        go_ret
        have hkl : k = E.length := by omega
        have hn := HT.out
        rw [hkl, List.take_length] at hn
        exact ⟨ret_bool (rises_iff.2 hn).symm, HX.out⟩
end Go.Proofs.YtfbambemjokmgaaGreat
namespace Go.Proofs.YtfbambemjokmgaaGreat
open Go.RowKit
theorem wrong_tells (w : World) (G : Nat) (N : Int) (hG : G < w.heap.size) (hc : w.cell? ⟨G, 0, none⟩ = some (.int .i64 N)) : Tells Edge.val w (.func (.func 170) #[] #[.pointer (some ⟨G, 0, none⟩)]) (fun e => !okE N e) :=
  ⟨170, _, rfl, enters_of Tryz.func170 (by kernel_rfl) rfl, fun W ⟨a, b⟩ hW => by
    have hc' : W.cell? ⟨G, 0, none⟩ = some (.int .i64 N) := (hW.cell (p := ⟨G, 0, none⟩) hG).trans hc
    have hG' : G < W.heap.size := Nat.lt_of_lt_of_le hG hW.size
    clear hc hG hW
    change Calls Tryz.prog _ #[.agg #[.int .i64 a, .int .i64 b], .pointer (some ⟨G, 0, none⟩)] W _
    by_cases h1 : a < 0
    · go_enter Tryz.func170, Tryz.ntmps170
      go_wp2
      go_ret
      exact ⟨ret_bool (by simp [okE]; try omega), (by repeat (first | exact Ext.refl _ | assumption | refine Ext.alloc ?_ _ | refine Ext.drew ?_ | refine Ext.drewN ?_ _))⟩
    · by_cases h2 : b ≤ a
      · go_enter Tryz.func170, Tryz.ntmps170
        go_wp2
        go_ret
        exact ⟨ret_bool (by simp [okE]; try omega), (by repeat (first | exact Ext.refl _ | assumption | refine Ext.alloc ?_ _ | refine Ext.drew ?_ | refine Ext.drewN ?_ _))⟩
      · by_cases h3 : N ≤ b
        · go_enter Tryz.func170, Tryz.ntmps170
          go_wp2
          go_ret
          exact ⟨ret_bool (by simp [okE]; try omega), (by repeat (first | exact Ext.refl _ | assumption | refine Ext.alloc ?_ _ | refine Ext.drew ?_ | refine Ext.drewN ?_ _))⟩
        · go_enter Tryz.func170, Tryz.ntmps170
          go_wp2
          go_ret
          exact ⟨ret_bool (by simp [okE]; try omega), (by repeat (first | exact Ext.refl _ | assumption | refine Ext.alloc ?_ _ | refine Ext.drew ?_ | refine Ext.drewN ?_ _))⟩⟩
end Go.Proofs.YtfbambemjokmgaaGreat
namespace Go.Proofs.YtfbambemjokmgaaGreat
open Go.RowKit
theorem chk_of {N : Int} {E : List Edge} (h : OkG N E) : chk N E = 0 := by unfold chk; rw [if_pos (okG_iff.2 h)]
theorem chk_not {N : Int} {E : List Edge} (h : ¬ OkG N E) : chk N E = 30 := by unfold chk; rw [if_neg (fun e => h (okG_iff.1 e))]
set_option maxHeartbeats 1000000 in
theorem check_any (w : World) (N : Int) (v : Value) (E : List Edge) (h : Sl w v E) (r : Int) (hr : chk N E = r) :
    Calls Tryz.prog 145 #[.agg #[.int .i64 N, v]] w fun e w' => e = .returned (.int .i64 r) ∧ Ext w w' := by
  have HR := Lib.hid hr
  obtain ⟨ao, c, rfl⟩ := h.len
  have HS := Lib.hid h
  clear hr h
  by_cases h1 : N < 0
  · go_enter Tryz.func145, Tryz.ntmps145
    go_wp2
    go_ret
    exact ⟨ret_int (by rw [← HR.out, chk_not (fun o => by have := o.n0; omega)]), (by repeat (first | exact Ext.refl _ | assumption | refine Ext.alloc ?_ _ | refine Ext.drew ?_ | refine Ext.drewN ?_ _))⟩
  by_cases h2 : 64 < N
  · go_enter Tryz.func145, Tryz.ntmps145
    go_wp2
    go_ret
    exact ⟨ret_int (by rw [← HR.out, chk_not (fun o => by have := o.n64; omega)]), (by repeat (first | exact Ext.refl _ | assumption | refine Ext.alloc ?_ _ | refine Ext.drew ?_ | refine Ext.drewN ?_ _))⟩
  by_cases h3 : 400 < E.length
  · go_enter Tryz.func145, Tryz.ntmps145
    go_wp2
    go_ret
    exact ⟨ret_int (by rw [← HR.out, chk_not (fun o => by have := o.few; omega)]), (by repeat (first | exact Ext.refl _ | assumption | refine Ext.alloc ?_ _ | refine Ext.drew ?_ | refine Ext.drewN ?_ _))⟩
  obtain ⟨t, ht⟩ : ∃ t, (E.any fun e => !okE N e) = t := ⟨_, rfl⟩
  obtain ⟨s, hs⟩ : ∃ s, rises E = s := ⟨_, rfl⟩
  have HT := Lib.hid ht
  have HU := Lib.hid hs
  have HW : Hid (Tells Edge.val (w.alloc (.cells #[.int .i64 N, .slice ao E.length c] 53)) (.func (.func 170) #[] #[.pointer (some ⟨w.heap.size, 0, none⟩)]) (fun e => !okE N e)) :=
    Lib.hid (wrong_tells _ _ N (by simp) (blk_cell (get_alloc_new _ _) 0 rfl))
  clear ht hs
  have hmf : ∀ (fn : Fn) (first cap : Array Value) (w : World), (Instr.makeFunc fn first cap).run Tryz.prog w = .ok (.func fn first cap) w := fun _ _ _ _ => rfl
  cases t
  · cases s
    all_goals
      go_enter Tryz.func145, Tryz.ntmps145
      go_wp2_with (first
        | (go_at_call 171; refine (containsFunc_e _ _ _ E _ (HS.out.ext (by repeat (first | exact Ext.refl _ | assumption | refine Ext.alloc ?_ _ | refine Ext.drew ?_ | refine Ext.drewN ?_ _))) (HW.out.ext (by repeat (first | exact Ext.refl _ | assumption | refine Ext.alloc ?_ _ | refine Ext.drew ?_ | refine Ext.drewN ?_ _))) _ HT.out).mono ?_; rintro e w1 ⟨rfl, hx⟩; have y1 : Ext w w1 := Ext.trans ((Ext.refl w).alloc _) hx; have g1 := blk_cell (box1 (hx.mono (by rw [size_alloc]; omega))) 1 rfl; clear hx)
        | (go_at_call 172; refine (rise_any _ _ E (HS.out.ext y1)).mono ?_; rintro e w2 ⟨rfl, hx⟩; rw [HU.out]; have y2 : Ext w w2 := y1.trans hx; clear hx))
      go_ret
    · exact ⟨ret_int (by rw [← HR.out, chk_not (fun o => by have := rises_iff.2 o.rise; rw [HU.out] at this; cases this)]), y2⟩
    · refine ⟨ret_int ?_, y2⟩
      rw [← HR.out, chk_of ⟨by omega, by omega, by omega, fun e he => ?_, rises_iff.1 HU.out⟩]
      have := List.any_eq_false.1 HT.out e he
      simp [okE] at this
      omega
  · go_enter Tryz.func145, Tryz.ntmps145
    go_wp2_with (first
      | (go_at_call 171; refine (containsFunc_e _ _ _ E _ (HS.out.ext (by repeat (first | exact Ext.refl _ | assumption | refine Ext.alloc ?_ _ | refine Ext.drew ?_ | refine Ext.drewN ?_ _))) (HW.out.ext (by repeat (first | exact Ext.refl _ | assumption | refine Ext.alloc ?_ _ | refine Ext.drew ?_ | refine Ext.drewN ?_ _))) _ HT.out).mono ?_; rintro e w1 ⟨rfl, hx⟩; have y1 : Ext w w1 := Ext.trans ((Ext.refl w).alloc _) hx; have g1 := blk_cell (box1 (hx.mono (by rw [size_alloc]; omega))) 1 rfl; clear hx))
    go_ret
    refine ⟨ret_int ?_, y1⟩
    rw [← HR.out, chk_not (fun o => ?_)]
    obtain ⟨e, he, hb⟩ := List.any_eq_true.1 HT.out
    have := o.each e he
    simp [okE] at hb
    omega
theorem has_iff (E : List Edge) (a b : Int) : (E.any fun e => ord e (btw a b) == 0) = decide (btw a b ∈ E) := by
  rw [Bool.eq_iff_iff]
  simp only [List.any_eq_true, decide_eq_true_eq]
  constructor
  · rintro ⟨e, he, h⟩
    have : decide (ord e (btw a b) = 0) = true := by simpa using h
    rw [ord_zero] at this
    rw [← of_decide_eq_true this]
    exact he
  · intro h
    refine ⟨_, h, ?_⟩
    have : decide (ord (btw a b) (btw a b) = 0) = true := by rw [ord_zero]; simp
    simpa using this
end Go.Proofs.YtfbambemjokmgaaGreat
namespace Go.Proofs.YtfbambemjokmgaaGreat
open Go.RowKit
set_option maxHeartbeats 1000000 in
theorem those_e (w : World) (N : Int) (v fv : Value) (E : List Edge) (p : Edge → Bool) (h : Sl w v E) (ht : Tells Edge.val w fv p) (hlen : E.length ≤ 1000000) :
    Calls Tryz.prog 190 #[.agg #[.int .i64 N, v], fv] w (GivesOw w (E.filter p)) := by
  obtain ⟨g, lb, rfl, eg, hp⟩ := ht.any
  have HP := Lib.hid hp
  clear ht hp
  rcases h.edges with ⟨rfl, ao, c, rfl⟩ | ⟨b, off, c, rfl, hc, hc63, hb, hpos, hcell⟩
  · go_enter Tryz.func190, Tryz.ntmps190
    go_wp2
    refine wp_loop_rounds 1 ?_
    rw [rounds_succ]
    go_wp2
    go_ret
    exact ⟨_, rfl, Ow.nil _ _, (by repeat (first | exact Ext.refl _ | assumption | refine Ext.alloc ?_ _ | refine Ext.drew ?_ | refine Ext.drewN ?_ _))⟩
  · have HC := Lib.hid hcell
    clear hcell h
    go_enter Tryz.func190, Tryz.ntmps190
    go_wp2
    go_loopw [5, 11] (fun q i wr => ∃ k : Nat, k ≤ E.length ∧ i = .int .i64 k ∧ Hid (Ow wr w.heap.size q ((E.take k).filter p)) ∧ Hid (Ext w wr)) (fun _ i _ => E.length - (intOf i).toNat)
    case atStart => exact ⟨0, Nat.zero_le _, rfl, Lib.hid (by simpa using Ow.nil _ _), Lib.hid (by repeat (first | exact Ext.refl _ | assumption | refine Ext.alloc ?_ _ | refine Ext.drew ?_ | refine Ext.drewN ?_ _))⟩
    case round =>
      obtain ⟨k, hk, rfl, HO, HX⟩ := hrel
      by_cases hlt : k < E.length
      · have hya := (HX.out.cell (p := ⟨b, off + k * 2, none⟩) hb).trans (HC.out k hlt).1
        have hyb := (HX.out.cell (p := ⟨b, off + k * 2 + 1, none⟩) hb).trans (HC.out k hlt).2
        obtain ⟨⟨ya, yb⟩, hy⟩ : ∃ y, y = E.getD k ⟨0, 0⟩ := ⟨_, rfl⟩
        rw [← hy] at hya hyb
        have HN : Hid ((E.take (k + 1)).filter p = (E.take k).filter p ++ (if p ⟨ya, yb⟩ = true then [⟨ya, yb⟩] else [])) := Lib.hid (by rw [filter_next p hlt ⟨0, 0⟩, ← hy])
        clear hy
        obtain ⟨L, hL⟩ : ∃ L, L = (E.take k).filter p := ⟨_, rfl⟩
        have hLl : L.length ≤ 1000000 := by
          have := List.length_filter_le p (E.take k)
          rw [← hL] at this
          simp at this
          omega
        rw [← hL] at HO HN
        clear hL
        have hwr : w.heap.size ≤ wr.heap.size := HX.out.size
        obtain ⟨s, hs⟩ : ∃ s, p ⟨ya, yb⟩ = s := ⟨_, rfl⟩
        rw [hs] at HN
        have HH : Hid (∀ W, Ext w W → Calls Tryz.prog g (#[.agg #[.int .i64 ya, .int .i64 yb]] ++ lb) W fun e w' => e = .returned (.bool s) ∧ Ext W w') := Lib.hid fun W hW => hs ▸ HP.out W ⟨ya, yb⟩ hW
        clear hs
        cases s
        all_goals
          go_wp2_with (first
            | (go_at_fn g; refine (HH.out _ (HX.out.trans (by repeat (first | exact Ext.refl _ | assumption | refine Ext.alloc ?_ _ | refine Ext.drew ?_ | refine Ext.drewN ?_ _)))).mono ?_; rintro e w1 ⟨rfl, hx⟩; have z1 : Ext wr w1 := Ext.trans ((Ext.refl wr).alloc _) hx; have gA := box1 (hx.mono (by rw [size_alloc]; omega)); have g0 : w1.cell? ⟨wr.heap.size, 0, none⟩ = some (.int .i64 ya) := blk_cell gA 0 rfl; have g1 : w1.cell? ⟨wr.heap.size, 1, none⟩ = some (.int .i64 yb) := blk_cell gA 1 rfl; have y1 := Lib.hid (HX.out.trans z1); have O1 := Lib.hid (HO.out.ext z1); have hs1 : w.heap.size ≤ w1.heap.size := y1.out.size; clear hx gA)
            | (at_builtin; refine wpList_append_sl (α := Edge) rfl (.tmp 18) (.tmp 20) rfl w.heap.size _ L rfl ?_ (.slice (some ⟨_, 0, none⟩) 1 1) [Edge.mk ya yb] rfl ?_ ?_ ?_ ?_; exact (O1.out.alloc _); exact (Sl.litAt w1 _ rfl [Edge.mk ya yb] (by simp)); (first | omega | (simp; omega)); (simp; omega); intro v2 W2 ho2 ha2; have O2 := Lib.hid ho2; have y2 : Hid (Ext w W2) := Lib.hid (Below.trans (y1.out.alloc _) ha2.below); clear ho2 ha2))
          go_roundw
          case rel => exact ⟨k + 1, by omega, by go_num, Lib.hid (by rw [HN.out]; first | exact O2.out | simpa using O1.out), by first | exact y2 | exact y1⟩
          case measure => simp [intOf]; omega
      · have hkl : k = E.length := by omega
        have ho := HO.out
        rw [hkl, List.take_length] at ho
        have HO' := Lib.hid ho
        clear ho HO hkl
        go_wp2
        go_ret
        exact ⟨_, rfl, HO'.out, HX.out⟩
end Go.Proofs.YtfbambemjokmgaaGreat
namespace Go.Proofs.YtfbambemjokmgaaGreat
open Go.RowKit
theorem refAhead_val (w : World) (xa xb ya yb : Int) (r : Bool) (hr : ahead ⟨xa, xb⟩ ⟨ya, yb⟩ = r) : Calls Tryz.prog 85 #[.agg #[.int .i64 xa, .int .i64 xb], .agg #[.int .i64 ya, .int .i64 yb]] w fun e w' => e = .returned (.bool r) ∧ Ext w w' := by
  have HR := Lib.hid hr
  clear hr
  by_cases h1 : xa < ya
  · go_enter Tryz.func85, Tryz.ntmps85
    go_wp2
    go_ret
    exact ⟨ret_bool (by rw [← HR.out]; simp [ahead, h1]), (by repeat (first | exact Ext.refl _ | assumption | refine Ext.alloc ?_ _ | refine Ext.drew ?_ | refine Ext.drewN ?_ _))⟩
  by_cases h2 : xa = ya
  · have e2 : (xa == ya) = true := by simp [h2]
    have H2 := Lib.hid h2
    clear h2
    by_cases h3 : xb < yb
    all_goals
      go_enter Tryz.func85, Tryz.ntmps85
      go_wp2
      go_ret
      exact ⟨ret_bool (by rw [← HR.out, H2.out]; simp [ahead]; try omega), (by repeat (first | exact Ext.refl _ | assumption | refine Ext.alloc ?_ _ | refine Ext.drew ?_ | refine Ext.drewN ?_ _))⟩
  · have e2 : (xa == ya) = false := by simp [h2]
    have H2 := Lib.hid h2
    clear h2
    go_enter Tryz.func85, Tryz.ntmps85
    go_wp2
    go_ret
    exact ⟨ret_bool (by rw [← HR.out]; simp [ahead, H2.out]; try omega), (by repeat (first | exact Ext.refl _ | assumption | refine Ext.alloc ?_ _ | refine Ext.drew ?_ | refine Ext.drewN ?_ _))⟩
theorem btw_is (e : Edge) (a b : Int) : (e = btw a b) ↔ (e.a = a ∧ e.b = b ∧ a ≤ b) ∨ (e.a = b ∧ e.b = a ∧ b < a) := by
  obtain ⟨x, y⟩ := e
  simp only [btw, Edge.mk.injEq]
  omega
set_option maxHeartbeats 2000000 in
theorem refHas_val (w : World) (N : Int) (v : Value) (E : List Edge) (a b : Int) (h : Sl w v E) (r : Bool) (hr : decide (btw a b ∈ E) = r) :
    Calls Tryz.prog 42 #[.agg #[.int .i64 N, v], .int .i64 a, .int .i64 b] w fun e w' => e = .returned (.bool r) ∧ Ext w w' := by
  rw [← has_iff] at hr
  have hp : ∀ e, (ord e (btw a b) == 0) = decide (e = btw a b) := fun e => by rw [← ord_zero]; rfl
  simp only [hp] at hr
  clear hp
  subst hr
  rcases h.edges with ⟨rfl, ao, c, rfl⟩ | ⟨q, off, c, rfl, hc, hc63, hb, hpos, hcell⟩
  · go_enter Tryz.func42, Tryz.ntmps42
    go_wp2
    refine wp_loop_rounds 1 ?_
    rw [rounds_succ]
    go_wp2
    go_ret
    exact ⟨rfl, (by repeat (first | exact Ext.refl _ | assumption | refine Ext.alloc ?_ _ | refine Ext.drew ?_ | refine Ext.drewN ?_ _))⟩
  · have HC := Lib.hid hcell
    clear hcell h
    have HK : Hid (∀ V, Ext (w.alloc (.cells #[.int .i64 N, .slice (some ⟨q, off, none⟩) E.length c] 53)) V → V.cell? ⟨w.heap.size, 1, none⟩ = some (.slice (some ⟨q, off, none⟩) E.length c)) := Lib.hid fun V hV => cell_at V hV rfl
    go_enter Tryz.func42, Tryz.ntmps42
    go_wp2
    go_loopw [7] (fun i wr => ∃ k : Nat, k ≤ E.length ∧ i = .int .i64 k ∧ Hid ((E.take k).any (fun e => decide (e = btw a b)) = false) ∧ Hid (Ext (w.alloc (.cells #[.int .i64 N, .slice (some ⟨q, off, none⟩) E.length c] 53)) wr)) (fun i _ => E.length - (intOf i).toNat)
    case atStart => exact ⟨0, Nat.zero_le _, rfl, Lib.hid rfl, Lib.hid (Ext.refl _)⟩
    case round =>
      obtain ⟨k, hk, rfl, HT, HX⟩ := hrel
      have g1 := HK.out wr HX.out
      by_cases hlt : k < E.length
      · have X := Ext.trans ((Ext.refl w).alloc _) HX.out
        have hya := (X.cell (p := ⟨q, off + k * 2, none⟩) hb).trans (HC.out k hlt).1
        have hyb := (X.cell (p := ⟨q, off + k * 2 + 1, none⟩) hb).trans (HC.out k hlt).2
        obtain ⟨⟨ya, yb⟩, hy⟩ : ∃ y, y = E.getD k ⟨0, 0⟩ := ⟨_, rfl⟩
        rw [← hy] at hya hyb
        have HN : Hid ((E.take (k + 1)).any (fun e => decide (e = btw a b)) = ((E.take k).any (fun e => decide (e = btw a b)) || decide ((⟨ya, yb⟩ : Edge) = btw a b))) := Lib.hid (by rw [any_next _ hlt ⟨0, 0⟩, ← hy])
        clear hy X
        have HB := Lib.hid (btw_is ⟨ya, yb⟩ a b)
        by_cases h0 : (⟨ya, yb⟩ : Edge) = btw a b
        · have H0 := Lib.hid h0
          rw [btw_is] at h0
          rcases h0 with ⟨h1, h2, h3⟩ | ⟨h1, h2, h3⟩
          · have e1 : (ya == a) = true := by simpa using h1
            have e2 : (yb == b) = true := by simpa using h2
            clear h1 h2
            go_wp2
            go_ret
            exact ⟨ret_bool (by rw [any_of_take (HN.out.trans (by rw [decide_eq_true H0.out]; simp))]), Ext.trans ((Ext.refl w).alloc _) (HX.out.alloc _)⟩
          · have h1 : ya = b := h1
            have h2 : yb = a := h2
            have e1 : (ya == a) = false := by simp; omega
            have e2 : (yb == b) = false := by simp; omega
            have e3 : (ya == b) = true := by simpa using h1
            have e4 : (yb == a) = true := by simpa using h2
            clear h1 h2
            go_wp2
            go_ret
            exact ⟨ret_bool (by rw [any_of_take (HN.out.trans (by rw [decide_eq_true H0.out]; simp))]), Ext.trans ((Ext.refl w).alloc _) (HX.out.alloc _)⟩
        · have H0 := Lib.hid h0
          have hq : ¬ ((ya = a ∧ yb = b ∧ a ≤ b) ∨ (ya = b ∧ yb = a ∧ b < a)) := fun e => h0 ((btw_is ⟨ya, yb⟩ a b).2 e)
          clear h0
          rcases (show ya = a ∨ ya ≠ a by omega) with h1 | h1
          all_goals rcases (show yb = b ∨ yb ≠ b by omega) with h2 | h2
          all_goals rcases (show ya = b ∨ ya ≠ b by omega) with h3 | h3
          all_goals rcases (show yb = a ∨ yb ≠ a by omega) with h4 | h4
          all_goals rcases (show a ≤ b ∨ b < a by omega) with h5 | h5
          all_goals try (exfalso; omega)
          all_goals
            first | (have e1 : (ya == a) = true := by simp [h1]) | (have e1 : (ya == a) = false := by simp [h1])
            first | (have e2 : (yb == b) = true := by simp [h2]) | (have e2 : (yb == b) = false := by simp [h2])
            first | (have e3 : (ya == b) = true := by simp [h3]) | (have e3 : (ya == b) = false := by simp [h3])
            first | (have e4 : (yb == a) = true := by simp [h4]) | (have e4 : (yb == a) = false := by simp [h4])
            have e5 : ¬ (a ≤ b ∧ b < a) := by omega
            clear h1 h2 h3 h4 hq
            go_wp2
            go_roundw
            case rel => exact ⟨k + 1, by omega, by go_num, Lib.hid (by rw [HN.out, HT.out, decide_eq_false H0.out]; rfl), Lib.hid (HX.out.alloc _)⟩
            case measure => simp [intOf]; omega
      · have hkl : k = E.length := by omega
        go_wp2
        go_ret
        exact ⟨ret_bool (by have := HT.out; rw [hkl, List.take_length] at this; rw [this]), Ext.trans ((Ext.refl w).alloc _) HX.out⟩
end Go.Proofs.YtfbambemjokmgaaGreat
namespace Go.Proofs.YtfbambemjokmgaaGreat
open Go.RowKit
theorem eatK {α : Type} (f : α → α) (L : List α) (k : Nat) (s : α) (hs : L[k]? = some s) : ((L.take k).map f ++ L.drop k).set k (f s) = (L.take (k + 1)).map f ++ L.drop (k + 1) := by
  have hk := (List.getElem?_eq_some_iff.1 hs).1
  have hl : ((L.take k).map f).length = k := by rw [List.length_map, List.length_take]; omega
  have he : L.drop k = s :: L.drop (k + 1) := by
    have := (List.getElem?_eq_some_iff.1 hs).2
    rw [← this, List.getElem_cons_drop hk]
  rw [List.take_succ_eq_append_getElem hk, (List.getElem?_eq_some_iff.1 hs).2, List.map_append, he, List.set_append_right _ _ (by omega), hl, Nat.sub_self]
  simp
theorem eatK_at {α : Type} (f : α → α) (L : List α) (k : Nat) (s : α) (hs : L[k]? = some s) : ((L.take k).map f ++ L.drop k)[k]? = some s ∧ ((L.take k).map f ++ L.drop k).length = L.length := by
  have hk := (List.getElem?_eq_some_iff.1 hs).1
  have hl : ((L.take k).map f).length = k := by rw [List.length_map, List.length_take]; omega
  refine ⟨?_, by rw [List.length_append, hl, List.length_drop]; omega⟩
  rw [List.getElem?_append_right (by omega), hl, Nat.sub_self, List.getElem?_drop, Nat.add_zero]
  exact hs
theorem slNoneU {α : Type} [Elem α] (w : World) : Sl w (.slice none 0 0) ([] : List α) := (Sa.nil (fun _ => False) w).sl
theorem slOffU {α : Type} [Elem α] {w w' : World} {v : Value} {xs : List α} {g n : Nat} (h : Sl w v xs) (hv : ∀ b, v.ownBlock = some b → n ≤ b) (o : Off (fun b => b = g) w w') (hg : g < n) : Sl w' v xs :=
  h.off (.inr fun b hb e => by have := hv b hb; omega) o
end Go.Proofs.YtfbambemjokmgaaGreat
