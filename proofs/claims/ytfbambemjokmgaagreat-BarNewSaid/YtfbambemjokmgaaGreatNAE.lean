/- Texts of this seat. -/
import Derived.Sort.OwnSortedInts
import Derived.Test.YtfbambemjokmgaaGreatNAB
import Derived.Test.YtfbambemjokmgaaGreatNAD
namespace Go.Proofs.YtfbambemjokmgaaGreat
open Go.RowKit
theorem grownBy_same (w : World) (row : Option Nat) : w.grownBy w row := ⟨rfl, rfl, rfl, Nat.le_refl _, fun _ _ _ => rfl⟩
theorem ow_i {w : World} {B : Nat} {v : Value} {xs : List Int} : Ow w B v xs ↔ w.ownsRow B 3 1 v xs.length (xs.map (Value.int .i64)) := by
  unfold Ow
  rw [cells_i]
  rfl
theorem sort_ow (w : World) (B : Nat) (v : Value) (xs : List Int) (h : Ow w B v xs) (hl : xs.length ≤ 1000000) :
    Calls Tryz.prog 181 #[v] w fun e w' => e = .returned (.tuple #[]) ∧ Hid (Ow w' B v (xs.mergeSort fun x y => decide (x ≤ y))) ∧ Hid (w.grownBy w' v.ownBlock) := by
  by_cases hx : xs = []
  · subst hx
    obtain ⟨ao, c, rfl⟩ := h.sl.len
    refine (Tryz.slices_Sort_int_none ao c w).mono ?_
    rintro e w' ⟨rfl, rfl⟩
    exact ⟨rfl, Lib.hid (by simpa using h), Lib.hid (grownBy_same _ _)⟩
  · rcases (ow_i.1 h).2 with ⟨_, h0⟩ | ⟨g, cap, cur, rfl, hg, hh, h1, h2, h3, h4⟩
    · exact absurd (List.eq_nil_of_length_eq_zero h0) hx
    · have hlm : (xs.mergeSort fun x y => decide (x ≤ y)).length = xs.length := by simp
      refine (Tryz.slices_Sort_int g 0 cap xs w (holds_of_blockI hh (by simpa using h4)) (Array.getElem?_eq_some_iff.1 hh).1 (by omega)).mono ?_
      rintro e w' ⟨rfl, n, os, rfl⟩
      refine ⟨rfl, ?_, grownBy_sortedI _⟩
      have := ownsRow_sortedI (w := w) (n := n) (os := os) hlm hg hh h1 h2 h3
      refine ow_i.2 ?_
      rw [hlm]
      exact this
theorem compact_ow (w : World) (B : Nat) (v : Value) (xs : List Int) (h : Ow w B v xs) (hl : xs.length ≤ 1000000) :
    Calls Tryz.prog 182 #[v] w fun e w' => ∃ v', e = .returned v' ∧ Hid (Ow w' B v' (Lib.compact xs)) ∧ Hid (w.grownBy w' v.ownBlock) := by
  by_cases hx : xs = []
  · subst hx
    obtain ⟨ao, c, rfl⟩ := h.sl.len
    refine (Tryz.slices_Compact_int_empty ao c w).mono ?_
    rintro e w' ⟨rfl, rfl⟩
    exact ⟨_, rfl, h, grownBy_same _ _⟩
  · rcases (ow_i.1 h).2 with ⟨_, h0⟩ | ⟨g, cap, cur, rfl, hg, hh, h1, h2, h3, h4⟩
    · exact absurd (List.eq_nil_of_length_eq_zero h0) hx
    · have hcl := compact_length xs
      refine (Tryz.slices_Compact_int g 0 cap xs w (holds_of_blockI hh (by simpa using h4)) (by omega) h1).mono ?_
      rintro e w' ⟨rfl, q, rfl⟩
      have hsz : (Lib.compact xs ++ List.replicate (xs.length - (Lib.compact xs).length) 0).length = xs.length := by simp; omega
      have e0 : ∀ d : Array Int, Sort.putRow (Value.int .i64) (Sort.ahead w q) g 0 d = Sort.grow (Sort.putRow (Value.int .i64) (Sort.ahead w q) g 0 d) #[] := fun d => by simp
      refine ⟨_, rfl, ?_, by rw [e0]; exact grownBy_sortedI _⟩
      rw [e0]
      refine ow_i.2 ⟨by simp, .inr ⟨g, cap, _, rfl, hg, heap_sortedI _ hh, by omega, h2, by simp [Sort.putCells, h3], ?_⟩⟩
      have ht := take_putCellsI cur (Lib.compact xs ++ List.replicate (xs.length - (Lib.compact xs).length) 0) (by rw [hsz]; omega)
      rw [Nat.mul_one]
      have := congrArg (List.take (Lib.compact xs).length) ht
      rw [List.take_take, Nat.min_eq_left (by rw [hsz]; omega)] at this
      rw [this, ← List.map_take, List.take_left]
def ival (x : Int) : Value := .int .i64 x
theorem tells_other (w : World) (B : Nat) (x : Int) (hB : B < w.heap.size) (hc : w.cell? ⟨B, 0, none⟩ = some (.int .i64 x)) : Tells ival w (.func (.func 206) #[] #[.pointer (some ⟨B, 0, none⟩)]) (fun y => y != x) :=
  ⟨206, _, rfl, enters_of Tryz.func206 (by kernel_rfl) rfl, fun W y hb => by
    have hc' : W.cell? ⟨B, 0, none⟩ = some (.int .i64 x) := (hb.cell (p := ⟨B, 0, none⟩) hB).trans hc
    clear hc
    change Calls Tryz.prog _ #[.int .i64 y, .pointer (some ⟨B, 0, none⟩)] W _
    go_enter Tryz.func206, Tryz.ntmps206
    go_wp2
    go_ret
    exact ⟨rfl, Ext.refl _⟩⟩
set_option maxHeartbeats 1000000 in
theorem those_i (w : World) (v fv : Value) (xs : List Int) (p : Int → Bool) (h : Sl w v xs) (ht : Tells ival w fv p) (hlen : xs.length ≤ 1000000) :
    Calls Tryz.prog 152 #[v, fv] w (GivesOw w (norm (xs.filter p))) := by
  obtain ⟨g, lb, rfl, eg, hp⟩ := ht.any
  have HP := Lib.hid hp
  clear ht hp
  rcases h.ints with ⟨rfl, ao, c, rfl⟩ | ⟨b, off, c, rfl, hc, hc63, hb, hpos, hcell⟩
  · go_enter Tryz.func152, Tryz.ntmps152
    go_wp2
    refine wp_loop_rounds 1 ?_
    rw [rounds_succ]
    go_wp2_with (first
      | (go_at_call 181; refine (sort_ow _ w.heap.size _ [] (Ow.nil _ _) (by simp)).mono ?_; rintro e w1 ⟨rfl, HO1, HG1⟩)
      | (go_at_call 182; refine (compact_ow _ w.heap.size _ _ HO1.out (by simp)).mono ?_; rintro e w2 ⟨v2, rfl, HO2, HG2⟩))
    go_ret
    exact ⟨_, rfl, HO2.out, ((Below.refl _ w).grown HG1.out (Nat.le_refl _) (by simp [Value.ownBlock])).trans ((Below.refl _ w1).grown HG2.out HG1.out.size (by simp [Value.ownBlock]))⟩
  · have HC := Lib.hid hcell
    clear hcell h
    go_enter Tryz.func152, Tryz.ntmps152
    go_wp2
    go_loopw [5, 10] (fun q i wr => ∃ k : Nat, k ≤ xs.length ∧ i = .int .i64 k ∧ Hid (Ow wr w.heap.size q ((xs.take k).filter p)) ∧ Hid (Ext w wr)) (fun _ i _ => xs.length - (intOf i).toNat)
    case atStart => exact ⟨0, Nat.zero_le _, rfl, Lib.hid (by simpa using Ow.nil _ _), Lib.hid (Ext.refl _)⟩
    case round =>
      obtain ⟨k, hk, rfl, HO, HX⟩ := hrel
      by_cases hlt : k < xs.length
      · have hy := (HX.out.cell (p := ⟨b, off + k, none⟩) hb).trans (HC.out k hlt)
        obtain ⟨y, hyy⟩ : ∃ y, y = xs.getD k 0 := ⟨_, rfl⟩
        rw [← hyy] at hy
        have HN : Hid ((xs.take (k + 1)).filter p = (xs.take k).filter p ++ (if p y = true then [y] else [])) := Lib.hid (by rw [filter_next p hlt 0, ← hyy])
        clear hyy
        obtain ⟨L, hL⟩ : ∃ L, L = (xs.take k).filter p := ⟨_, rfl⟩
        have hLl : L.length ≤ 1000000 := by
          have := List.length_filter_le p (xs.take k)
          rw [← hL] at this
          simp at this
          omega
        rw [← hL] at HO HN
        clear hL
        have hwr : w.heap.size ≤ wr.heap.size := HX.out.size
        obtain ⟨s, hs⟩ : ∃ s, p y = s := ⟨_, rfl⟩
        rw [hs] at HN
        have HH : Hid (∀ W, Ext w W → Calls Tryz.prog g (#[.int .i64 y] ++ lb) W fun e w' => e = .returned (.bool s) ∧ Ext W w') := Lib.hid fun W hW => hs ▸ HP.out W y hW
        clear hs
        cases s
        all_goals
          go_wp2_with (first
            | (go_at_fn g; refine (HH.out _ (HX.out.trans (by repeat (first | exact Ext.refl _ | assumption | refine Ext.alloc ?_ _ | refine Ext.drew ?_ | refine Ext.drewN ?_ _)))).mono ?_; rintro e w1 ⟨rfl, hx⟩; have y1 := Lib.hid (HX.out.trans hx); have O1 := Lib.hid (HO.out.ext hx); have hs1 : w.heap.size ≤ w1.heap.size := y1.out.size; clear hx)
            | (at_builtin; refine wpList_append_sl (α := Int) rfl (.tmp 17) (.tmp 19) rfl w.heap.size _ L rfl ?_ (.slice (some ⟨_, 0, none⟩) 1 1) [y] rfl ?_ ?_ ?_ ?_; exact (O1.out.alloc _); exact (Sl.litAt w1 _ rfl [y] (by simp)); (first | omega | (simp; omega)); exact (by first | (simp; done) | (simp; omega)); intro v2 W2 ho2 ha2; have O2 := Lib.hid ho2; have y2 : Hid (Ext w W2) := Lib.hid (Below.trans (y1.out.alloc _) ha2.below); clear ho2 ha2))
          go_roundw
          case rel => exact ⟨k + 1, by omega, by go_num, Lib.hid (by rw [HN.out]; first | exact O2.out | simpa using O1.out), by first | exact y2 | exact y1⟩
          case measure => simp [intOf]; omega
      · have hkl : k = xs.length := by omega
        have ho := HO.out
        rw [hkl, List.take_length] at ho
        have HO' := Lib.hid ho
        clear ho HO
        have HLn := Lib.hid hkl
        clear hkl
        have hfl : (xs.filter p).length ≤ 1000000 := Nat.le_trans (List.length_filter_le _ _) hlen
        obtain ⟨L, hL⟩ : ∃ L, L = xs.filter p := ⟨_, rfl⟩
        rw [← hL] at HO' hfl
        have HL2 := Lib.hid hL
        clear hL
        go_wp2_with (first
          | (go_at_call 181; refine (sort_ow _ w.heap.size _ L HO'.out hfl).mono ?_; rintro e w1 ⟨rfl, HO1, HG1⟩)
          | (go_at_call 182; refine (compact_ow _ w.heap.size _ _ HO1.out (by simpa using hfl)).mono ?_; rintro e w2 ⟨v2, rfl, HO2, HG2⟩))
        go_ret
        exact ⟨_, rfl, by rw [← HL2.out]; exact HO2.out, (HX.out.grown HG1.out HX.out.size fun k hk => (HO'.out.low k hk).1).grown HG2.out (Nat.le_trans HX.out.size HG1.out.size) fun k hk => (HO'.out.low k hk).1⟩
theorem setDel_any (w : World) (v : Value) (xs : List Int) (x : Int) (h : Sl w v xs) (hlen : xs.length ≤ 1000000) : Calls Tryz.prog 192 #[v, .int .i64 x] w (GivesOw w (norm (xs.filter fun y => y != x))) := by
  have HS := Lib.hid (h.alloc (.cells #[.int .i64 x] 3))
  have HT : Hid (Tells ival (w.alloc (.cells #[.int .i64 x] 3)) (.func (.func 206) #[] #[.pointer (some ⟨w.heap.size, 0, none⟩)]) (fun y => y != x)) :=
    Lib.hid (tells_other _ _ _ (by simp) (blk_cell (get_alloc_new _ _) 0 rfl))
  clear h
  have hmf : ∀ (fn : Fn) (first cap : Array Value) (w : World), (Instr.makeFunc fn first cap).run Tryz.prog w = .ok (.func fn first cap) w := fun _ _ _ _ => rfl
  go_enter Tryz.func192, Tryz.ntmps192
  go_wp2_with (go_at_call 152; refine (those_i _ _ _ xs _ HS.out HT.out hlen).mono ?_; rintro e w' ⟨v', rfl, ho, hb⟩; have HO := Lib.hid ho; have HB := Lib.hid hb; clear ho hb)
  go_ret
  exact ⟨_, rfl, HO.out.mono (by simp), ((Ext.refl w).alloc _).trans HB.out⟩
set_option maxHeartbeats 1000000 in
theorem index_i (w : World) (v : Value) (xs : List Int) (x : Int) (h : Sl w v xs) : Calls Tryz.prog 184 #[v, .int .i64 x] w fun e w' => ∃ r : Int, e = .returned (.int .i64 r) ∧ decide (0 ≤ r) = decide (x ∈ xs) ∧ Ext w w' := by
  rcases h.ints with ⟨rfl, ao, c, rfl⟩ | ⟨b, off, c, rfl, hc, hc63, hb, hpos, hcell⟩
  · go_enter Tryz.func184, Tryz.ntmps184
    go_wp2
    refine wp_loop_rounds 1 ?_
    rw [rounds_succ]
    go_wp2
    go_ret
    exact ⟨_, rfl, by simp, Ext.refl _⟩
  · have HC := Lib.hid hcell
    clear hcell h
    go_enter Tryz.func184, Tryz.ntmps184
    go_wp2
    go_loopw [8] (fun i wr => ∃ k : Nat, k ≤ xs.length ∧ i = .int .i64 k ∧ Hid (x ∉ xs.take k) ∧ Hid (Drew w wr)) (fun i _ => xs.length - (intOf i).toNat)
    case atStart => exact ⟨0, Nat.zero_le _, rfl, Lib.hid (by simp), Lib.hid (Drew.refl _)⟩
    case round =>
      obtain ⟨k, hk, rfl, HT, HD⟩ := hrel
      by_cases hlt : k < xs.length
      · have hy := (HD.out.cell ⟨b, off + k, none⟩).trans (HC.out k hlt)
        obtain ⟨y, hyy⟩ : ∃ y, y = xs.getD k 0 := ⟨_, rfl⟩
        rw [← hyy] at hy
        have HN : Hid (xs.take (k + 1) = xs.take k ++ [y]) := Lib.hid (by rw [take_next hlt 0, ← hyy])
        have HM : Hid (y ∈ xs) := Lib.hid (hyy ▸ by rw [List.getD_eq_getElem?_getD, List.getElem?_eq_getElem hlt]; simp)
        clear hyy
        by_cases hq : x = y
        · have e1 : (x == y) = true := by simp [hq]
          have HQ := Lib.hid hq
          clear hq
          go_wp2
          try go_quiet (fail)
          try go_wp2
          go_ret
          exact ⟨_, rfl, by rw [HQ.out, decide_eq_true HM.out]; simp, by first | exact Ext.of_drew HD.out | exact Ext.of_drew (HD.out.more _)⟩
        · have e1 : (x == y) = false := by simp [hq]
          have HQ := Lib.hid hq
          clear hq
          go_wp2
          try go_quiet (fail)
          try go_wp2
          go_roundw
          case rel => exact ⟨k + 1, by omega, by go_num, Lib.hid (by rw [HN.out]; simp only [List.mem_append, List.mem_singleton]; exact fun e => e.elim HT.out HQ.out), by first | exact HD | exact Lib.hid (HD.out.more _)⟩
          case measure => simp [intOf]; omega
      · have hkl : k = xs.length := by omega
        go_wp2
        go_ret
        exact ⟨_, rfl, by have := HT.out; rw [hkl, List.take_length] at this; rw [decide_eq_false this]; rfl, Ext.of_drew HD.out⟩
theorem contains_i (w : World) (v : Value) (xs : List Int) (x : Int) (h : Sl w v xs) (r : Bool) (hr : decide (x ∈ xs) = r) : Calls Tryz.prog 155 #[v, .int .i64 x] w fun e w' => e = .returned (.bool r) ∧ Ext w w' := by
  subst hr
  have HS := Lib.hid h
  clear h
  go_enter Tryz.func155, Tryz.ntmps155
  go_wp2_with (go_at_call 184; refine (index_i _ _ xs x HS.out).mono ?_; rintro e w1 ⟨r, rfl, hr, hx⟩; have HR := Lib.hid hr; have HX := Lib.hid hx; clear hr hx)
  go_ret
  exact ⟨ret_bool HR.out, HX.out⟩
theorem setHas_val (w : World) (v : Value) (xs : List Int) (x : Int) (h : Sl w v xs) (r : Bool) (hr : decide (x ∈ xs) = r) : Calls Tryz.prog 177 #[v, .int .i64 x] w fun e w' => e = .returned (.bool r) ∧ Ext w w' := by
  have HS := Lib.hid h
  have HR := Lib.hid hr
  clear h hr
  go_enter Tryz.func177, Tryz.ntmps177
  go_wp2_with (go_at_call 155; refine (contains_i _ _ xs x HS.out _ HR.out).mono ?_; rintro e w1 ⟨rfl, hx⟩; have HX := Lib.hid hx; clear hx)
  go_ret
  exact ⟨rfl, HX.out⟩
theorem setValid_any (w : World) (v : Value) (xs : List Int) (h : Sl w v xs) : Calls Tryz.prog 100 #[v] w fun e w' => e = .returned (.bool (decide (SS xs))) ∧ Drew w w' := by
  rcases h.ints with ⟨rfl, ao, c, rfl⟩ | ⟨b, off, c, rfl, hc, hc63, hb, hpos, hcell⟩
  · go_enter Tryz.func100, Tryz.ntmps100
    go_wp2
    refine wp_loop_rounds 1 ?_
    rw [rounds_succ]
    go_wp2
    go_ret
    exact ⟨ret_bool (decide_eq_true (SS_one (by simp))).symm, Drew.refl _⟩
  · have hlen : xs.length ≤ 9223372036854775807 := by omega
    have HC := Lib.hid hcell
    clear hcell h
    go_enter Tryz.func100, Tryz.ntmps100
    go_wp2
    go_loopw [3] (fun i wr => ∃ k : Nat, 1 ≤ k ∧ k ≤ xs.length ∧ i = .int .i64 k ∧ Hid (SS (xs.take k)) ∧ Hid (Drew w wr)) (fun i _ => xs.length - (intOf i).toNat)
    case atStart => exact ⟨1, Nat.le_refl _, hpos, rfl, Lib.hid (SS_one (by simp; omega)), Lib.hid (Drew.refl _)⟩
    case round =>
      obtain ⟨k, hk1, hk, rfl, HT, HD⟩ := hrel
      by_cases hlt : k < xs.length
      · have hck := (HD.out.cell ⟨b, off + k, none⟩).trans (HC.out k hlt)
        have hck' := (HD.out.cell ⟨b, off + (k - 1), none⟩).trans (HC.out (k - 1) (by omega))
        obtain ⟨y, hy⟩ : ∃ y, y = xs.getD k 0 := ⟨_, rfl⟩
        obtain ⟨z, hz⟩ : ∃ z, z = xs.getD (k - 1) 0 := ⟨_, rfl⟩
        rw [← hy] at hck
        rw [← hz] at hck'
        have HY := Lib.hid hy
        have HZ := Lib.hid hz
        clear hy hz
        by_cases h1 : y ≤ z
        · go_wp2
          go_quiet (fail)
          go_wp2
          go_ret
          refine ⟨ret_bool (decide_eq_false (fun e => ?_)).symm, HD.out.more _⟩
          have := ((SS_take_succ hk1 hlt).1 (List.Pairwise.sublist (List.take_sublist _ _) e)).2
          rw [← HY.out, ← HZ.out] at this
          omega
        · have hd : decide (y ≤ z) = false := decide_eq_false h1
          go_wp2
          go_quiet (fail)
          go_wp2
          go_roundw
          case rel => exact ⟨k + 1, by omega, by omega, by go_num, Lib.hid ((SS_take_succ hk1 hlt).2 ⟨HT.out, by rw [← HY.out, ← HZ.out]; omega⟩), Lib.hid (HD.out.more _)⟩
          case measure => simp [intOf]; omega
      · go_wp2
        go_ret
        have hkl : k = xs.length := by omega
        have hn := HT.out
        rw [hkl, List.take_length] at hn
        exact ⟨ret_bool (decide_eq_true hn).symm, HD.out⟩
end Go.Proofs.YtfbambemjokmgaaGreat
namespace Go.Proofs.YtfbambemjokmgaaGreat
def endsOf (L : List Edge) : List Int := L.flatMap fun e => [e.a, e.b]
def hits (a : Int) (e : Edge) : Bool := e.a == a || e.b == a
def nearOf (E : List Edge) (a : Int) : List Int := norm ((endsOf (E.filter (hits a))).filter fun y => y != a)
theorem endsOf_snoc (L : List Edge) (e : Edge) : endsOf (L ++ [e]) = endsOf L ++ [e.a, e.b] := by unfold endsOf; simp
theorem endsOf_length (L : List Edge) : (endsOf L).length = 2 * L.length := by
  unfold endsOf
  induction L with
  | nil => rfl
  | cons e L ih => simp only [List.flatMap_cons, List.length_append, List.length_cons, List.length_nil, ih]; omega
theorem mem_nearOf {E : List Edge} (ok : ∀ e ∈ E, e.a < e.b) {a x : Int} : x ∈ nearOf E a ↔ btw a x ∈ E := by
  unfold nearOf
  rw [mem_norm]
  simp only [List.mem_filter, endsOf, List.mem_flatMap, hits, Bool.or_eq_true, beq_iff_eq, bne_iff_ne, ne_eq, List.mem_cons, List.not_mem_nil, or_false]
  constructor
  · rintro ⟨⟨e, ⟨he, h1⟩, h2⟩, h3⟩
    have := ok e he
    have : e = btw a x := by
      obtain ⟨p, q⟩ := e
      simp only [btw, Edge.mk.injEq] at *
      omega
    rw [← this]; exact he
  · intro h
    have := ok _ h
    simp only [btw] at this
    refine ⟨⟨_, ⟨h, ?_⟩, ?_⟩, ?_⟩ <;> (try simp only [btw]) <;> omega
abbrev Known := Int → Option Int
def free (N : Int) (f : Known) : Nat := ((List.range N.toNat).filter fun i : Nat => (f (i : Int)).isNone).length
end Go.Proofs.YtfbambemjokmgaaGreat
namespace Go.Proofs.YtfbambemjokmgaaGreat
open Go.RowKit
theorem okG_not {N : Int} {E : List Edge} (h : ¬ OkG N E) : okG N E = false := by
  cases e : okG N E with
  | false => rfl
  | true => exact absurd (okG_iff.1 e) h
theorem all_next {α : Type} {xs : List α} {k : Nat} (p : α → Bool) (h : k < xs.length) (d : α) : (xs.take (k + 1)).all p = ((xs.take k).all p && p (xs.getD k d)) := by
  rw [take_next h d, List.all_append]
  simp
theorem getD_mem {α : Type} {xs : List α} {k : Nat} (h : k < xs.length) (d : α) : xs.getD k d ∈ xs := by
  rw [List.getD_eq_getElem?_getD, List.getElem?_eq_getElem h]
  simp
set_option maxHeartbeats 2000000 in
theorem refCheck_val (w : World) (N : Int) (v : Value) (E : List Edge) (h : Sl w v E) (r : Bool) (hr : okG N E = r) :
    Calls Tryz.prog 45 #[.agg #[.int .i64 N, v]] w fun e w' => e = .returned (.bool r) ∧ Ext w w' := by
  have HR := Lib.hid hr
  clear hr
  by_cases h1 : N < 0
  · obtain ⟨ao, c, rfl⟩ := h.len
    clear h
    go_enter Tryz.func45, Tryz.ntmps45
    go_wp2
    go_ret
    exact ⟨ret_bool (by rw [← HR.out, okG_not (fun o => by have := o.n0; omega)]), (by repeat (first | exact Ext.refl _ | assumption | refine Ext.alloc ?_ _ | refine Ext.drew ?_ | refine Ext.drewN ?_ _))⟩
  by_cases h2 : 64 < N
  · obtain ⟨ao, c, rfl⟩ := h.len
    clear h
    go_enter Tryz.func45, Tryz.ntmps45
    go_wp2
    go_ret
    exact ⟨ret_bool (by rw [← HR.out, okG_not (fun o => by have := o.n64; omega)]), (by repeat (first | exact Ext.refl _ | assumption | refine Ext.alloc ?_ _ | refine Ext.drew ?_ | refine Ext.drewN ?_ _))⟩
  by_cases h3 : 400 < E.length
  · obtain ⟨ao, c, rfl⟩ := h.len
    clear h
    go_enter Tryz.func45, Tryz.ntmps45
    go_wp2
    go_ret
    exact ⟨ret_bool (by rw [← HR.out, okG_not (fun o => by have := o.few; omega)]), (by repeat (first | exact Ext.refl _ | assumption | refine Ext.alloc ?_ _ | refine Ext.drew ?_ | refine Ext.drewN ?_ _))⟩
  rcases h.edges with ⟨rfl, ao, c, rfl⟩ | ⟨q, off, c, rfl, hc, hc63, hb, hpos, hcell⟩
  · clear h
    go_enter Tryz.func45, Tryz.ntmps45
    go_wp2
    refine wp_loop_rounds 1 ?_
    rw [rounds_succ]
    go_wp2
    go_ret
    exact ⟨ret_bool (by rw [← HR.out, okG_iff.2 ⟨by omega, by omega, by simp, by simp, List.Pairwise.nil⟩]), (by repeat (first | exact Ext.refl _ | assumption | refine Ext.alloc ?_ _ | refine Ext.drew ?_ | refine Ext.drewN ?_ _))⟩
  · have HC := Lib.hid hcell
    have hlen : E.length ≤ 400 := by omega
    clear hcell h h3
    have HK : Hid (∀ V, Ext (w.alloc (.cells #[.int .i64 N, .slice (some ⟨q, off, none⟩) E.length c] 53)) V → V.cell? ⟨w.heap.size, 0, none⟩ = some (.int .i64 N) ∧ V.cell? ⟨w.heap.size, 1, none⟩ = some (.slice (some ⟨q, off, none⟩) E.length c)) := Lib.hid fun V hV => ⟨cell_at V hV rfl, cell_at V hV rfl⟩
    have HW := Lib.hid (Int.not_lt.1 h1)
    have HW2 := Lib.hid (Int.not_lt.1 h2)
    go_enter Tryz.func45, Tryz.ntmps45
    go_wp2
    go_loopw [3] (fun i wr => ∃ k : Nat, k ≤ E.length ∧ i = .int .i64 k ∧ Hid ((E.take k).all (okE N) = true ∧ Rises (E.take k)) ∧ Hid (Ext (w.alloc (.cells #[.int .i64 N, .slice (some ⟨q, off, none⟩) E.length c] 53)) wr)) (fun i _ => E.length - (intOf i).toNat)
    case atStart => exact ⟨0, Nat.zero_le _, rfl, Lib.hid ⟨rfl, List.Pairwise.nil⟩, Lib.hid (Ext.refl _)⟩
    case round =>
      obtain ⟨k, hk, rfl, HT, HX⟩ := hrel
      have g1 := (HK.out wr HX.out).2
      have g0 := (HK.out wr HX.out).1
      by_cases hlt : k < E.length
      · obtain ⟨⟨ya, yb⟩, hy⟩ : ∃ y, y = E.getD k ⟨0, 0⟩ := ⟨_, rfl⟩
        have HY := Lib.hid hy
        have X := Ext.trans ((Ext.refl w).alloc _) HX.out
        have hya := (X.cell (p := ⟨q, off + k * 2, none⟩) hb).trans (HC.out k hlt).1
        have hyb := (X.cell (p := ⟨q, off + k * 2 + 1, none⟩) hb).trans (HC.out k hlt).2
        rw [← hy] at hya hyb
        clear hy
        have HE : Hid (∀ V, Ext (wr.alloc (.cells #[.int .i64 ya, .int .i64 yb] 30)) V → (V.cell? ⟨w.heap.size, 0, none⟩ = some (.int .i64 N) ∧ V.cell? ⟨w.heap.size, 1, none⟩ = some (.slice (some ⟨q, off, none⟩) E.length c)) ∧ V.cell? ⟨wr.heap.size, 0, none⟩ = some (.int .i64 ya) ∧ V.cell? ⟨wr.heap.size, 1, none⟩ = some (.int .i64 yb)) :=
          Lib.hid fun V hV => ⟨HK.out V (HX.out.trans (((Ext.refl wr).alloc _).trans hV)), cell_at V hV rfl, cell_at V hV rfl⟩
        by_cases hok : okE N ⟨ya, yb⟩ = true
        · have hok' : 0 ≤ ya ∧ ya < yb ∧ yb < N := by simpa [okE, and_assoc] using hok
          have o1 : ¬ ya < 0 := by omega
          have o2 : ¬ yb ≤ ya := by omega
          have o3 : ¬ N ≤ yb := by omega
          clear hok'
          have HO := Lib.hid hok
          clear hok
          rcases Nat.eq_zero_or_pos k with rfl | hk0
          · have hya0 : wr.cell? ⟨q, off, none⟩ = some (.int .i64 ya) := by simpa using hya
            have hyb0 : wr.cell? ⟨q, off + 1, none⟩ = some (.int .i64 yb) := by simpa using hyb
            clear hya hyb
            go_wp2
            have b1 : decide (ya < 0) = false := by simp; omega
            have b2 : decide (yb ≤ ya) = false := by simp; omega
            have b3 : decide (N ≤ yb) = false := by simp; omega
            obtain ⟨⟨k0, k1⟩, _, _⟩ := HE.out _ (Ext.refl _)
            go_quiet (fail)
            go_wp2
            go_roundw
            case rel => exact ⟨1, by omega, by go_num, Lib.hid ⟨by rw [show (1 : Nat) = 0 + 1 from rfl, all_next _ hlt ⟨0, 0⟩, ← HY.out, HO.out]; rfl, rises_one E⟩, Lib.hid (HX.out.trans (by repeat (first | exact Ext.refl _ | assumption | refine Ext.alloc ?_ _ | refine Ext.drew ?_ | refine Ext.drewN ?_ _)))⟩
            case measure => simp [intOf]; omega
          · have hk' : k - 1 < E.length := by omega
            obtain ⟨⟨za, zb⟩, hz⟩ : ∃ z, z = E.getD (k - 1) ⟨0, 0⟩ := ⟨_, rfl⟩
            have hza := (X.cell (p := ⟨q, off + (k - 1) * 2, none⟩) hb).trans (HC.out (k - 1) hk').1
            have hzb := (X.cell (p := ⟨q, off + (k - 1) * 2 + 1, none⟩) hb).trans (HC.out (k - 1) hk').2
            rw [← hz] at hza hzb
            have HZ := Lib.hid hz
            clear hz
            have hq : q < wr.heap.size := Nat.lt_of_lt_of_le hb X.size
            have HF : Hid (∀ V, Ext (wr.alloc (.cells #[.int .i64 ya, .int .i64 yb] 30)) V → ((V.cell? ⟨w.heap.size, 0, none⟩ = some (.int .i64 N) ∧ V.cell? ⟨w.heap.size, 1, none⟩ = some (.slice (some ⟨q, off, none⟩) E.length c)) ∧ V.cell? ⟨wr.heap.size, 0, none⟩ = some (.int .i64 ya) ∧ V.cell? ⟨wr.heap.size, 1, none⟩ = some (.int .i64 yb)) ∧ V.cell? ⟨q, off + (k - 1) * 2, none⟩ = some (.int .i64 za) ∧ V.cell? ⟨q, off + (k - 1) * 2 + 1, none⟩ = some (.int .i64 zb)) :=
              Lib.hid fun V hV => ⟨HE.out V hV, (((Ext.refl wr).alloc _).trans hV |>.cell (p := ⟨q, off + (k - 1) * 2, none⟩) hq).trans hza, (((Ext.refl wr).alloc _).trans hV |>.cell (p := ⟨q, off + (k - 1) * 2 + 1, none⟩) hq).trans hzb⟩
            have HN : Hid (Rises (E.take (k + 1)) ↔ Rises (E.take k) ∧ ahead ⟨za, zb⟩ ⟨ya, yb⟩ = true) := Lib.hid (by rw [rises_next hk0 hlt, ← HY.out, ← HZ.out])
            obtain ⟨s, hs⟩ : ∃ s, ahead ⟨za, zb⟩ ⟨ya, yb⟩ = s := ⟨_, rfl⟩
            have HS := Lib.hid hs
            clear hs X hza hzb
            have hw1 : IntKind.i64.wrap ((k : Int) - 1) = ((k - 1 : Nat) : Int) := by rw [IntWalk.i64_in _ (by omega)]; omega
            cases s
            all_goals
              go_wp2
              have b1 : decide (ya < 0) = false := by simp; omega
              have b2 : decide (yb ≤ ya) = false := by simp; omega
              have b3 : decide (N ≤ yb) = false := by simp; omega
              have b4 : decide (0 < (k : Int)) = true := by simp; omega
              go_region_held3 (fun V => ((V.cell? ⟨w.heap.size, 0, none⟩ = some (.int .i64 N) ∧ V.cell? ⟨w.heap.size, 1, none⟩ = some (.slice (some ⟨q, off, none⟩) E.length c)) ∧ V.cell? ⟨wr.heap.size, 0, none⟩ = some (.int .i64 ya) ∧ V.cell? ⟨wr.heap.size, 1, none⟩ = some (.int .i64 yb)) ∧ V.cell? ⟨q, off + (k - 1) * 2, none⟩ = some (.int .i64 za) ∧ V.cell? ⟨q, off + (k - 1) * 2 + 1, none⟩ = some (.int .i64 zb)) (exact HF.out _ ((by repeat (first | exact Ext.refl _ | assumption | refine Ext.alloc ?_ _ | refine Ext.drew ?_ | refine Ext.drewN ?_ _))))
                (first
                | (go_at_call 85; refine (refAhead_val _ _ _ _ _ _ HS.out).mono ?_; rintro e w1 ⟨rfl, hx⟩; have y1 : Ext (wr.alloc (.cells #[.int .i64 ya, .int .i64 yb] 30)) w1 := Ext.trans (by exact (by repeat (first | exact Ext.refl _ | assumption | refine Ext.alloc ?_ _ | refine Ext.drew ?_ | refine Ext.drewN ?_ _))) hx; clear hx))
              go_wp2
            · go_ret
              refine ⟨ret_bool ?_, Ext.trans (Ext.trans ((Ext.refl w).alloc _) HX.out) (Ext.trans ((Ext.refl wr).alloc _) (by first | exact y1 | exact Ext.drew y1))⟩
              rw [← HR.out, okG_not (fun o => ?_)]
              have := (HN.out.1 (List.Pairwise.sublist (List.take_sublist _ _) o.rise)).2
              rw [HS.out] at this
              cases this
            · go_roundw
              case rel => exact ⟨k + 1, by omega, by go_num, Lib.hid ⟨by rw [all_next _ hlt ⟨0, 0⟩, ← HY.out, HO.out, HT.out.1]; rfl, HN.out.2 ⟨HT.out.2, HS.out⟩⟩, Lib.hid (HX.out.trans (Ext.trans ((Ext.refl wr).alloc _) (by first | exact y1 | exact Ext.drew y1)))⟩
              case measure => simp [intOf]; omega
        · have HB : Hid (okG N E = false) := Lib.hid (okG_not fun o => hok (by have := o.each _ (getD_mem hlt ⟨0, 0⟩); rw [← HY.out] at this; have t1 : 0 ≤ ya := this.1; have t2 : ya < yb := this.2.1; have t3 : yb < N := this.2.2; simp [okE, t1, t2, t3]))
          have hbad : ya < 0 ∨ (¬ ya < 0 ∧ yb ≤ ya) ∨ (¬ ya < 0 ∧ ¬ yb ≤ ya ∧ N ≤ yb) := by rw [Bool.not_eq_true] at hok; simp only [okE, Bool.and_eq_false_iff, decide_eq_false_iff_not] at hok; omega
          clear hok X
          rcases hbad with o1 | ⟨o1, o2⟩ | ⟨o1, o2, o3⟩
          all_goals
            go_wp2
            first | (have b1 : decide (ya < 0) = true := by simp; omega) | (have b1 : decide (ya < 0) = false := by simp; omega)
            try first | (have b2 : decide (yb ≤ ya) = true := by simp; omega) | (have b2 : decide (yb ≤ ya) = false := by simp; omega)
            try first | (have b3 : decide (N ≤ yb) = true := by simp; omega) | (have b3 : decide (N ≤ yb) = false := by simp; omega)
            obtain ⟨⟨k0, k1⟩, _, _⟩ := HE.out _ (Ext.refl _)
            go_quiet (fail)
            go_wp2
            go_ret
            exact ⟨ret_bool (by rw [← HR.out, HB.out]), Ext.trans (Ext.trans ((Ext.refl w).alloc _) HX.out) (by repeat (first | exact Ext.refl _ | assumption | refine Ext.alloc ?_ _ | refine Ext.drew ?_ | refine Ext.drewN ?_ _))⟩
      · have hkl : k = E.length := by omega
        go_wp2
        go_ret
        refine ⟨ret_bool ?_, Ext.trans ((Ext.refl w).alloc _) HX.out⟩
        have := HT.out
        rw [hkl, List.take_length, List.all_eq_true] at this
        rw [← HR.out, okG_iff.2 ⟨HW.out, HW2.out, hlen, fun e he => ?_, this.2⟩]
        have := this.1 e he
        simp [okE] at this
        omega
end Go.Proofs.YtfbambemjokmgaaGreat
namespace Go.Proofs.YtfbambemjokmgaaGreat
open Go.RowKit
theorem Sl.edgesAt {w : World} {ao : Option Addr} {n c : Nat} {E : List Edge} (h : Sl w (.slice ao n c) E) {k : Nat} (hk : k < E.length) :
    ∃ b off, ao = some ⟨b, off, none⟩ ∧ n = E.length ∧ n ≤ c ∧ c ≤ 9223372036854775807 ∧ b < w.heap.size ∧ w.cell? ⟨b, off + k * 2, none⟩ = some (.int .i64 (E.getD k ⟨0, 0⟩).a) ∧ w.cell? ⟨b, off + k * 2 + 1, none⟩ = some (.int .i64 (E.getD k ⟨0, 0⟩).b) := by
  rcases h.edges with ⟨rfl, _⟩ | ⟨b, off, c', hv, h1, h2, h3, _, h4⟩
  · simp at hk
  · simp only [Value.slice.injEq] at hv
    obtain ⟨rfl, rfl, rfl⟩ := hv
    exact ⟨b, off, rfl, rfl, h1, h2, h3, (h4 k hk).1, (h4 k hk).2⟩
theorem Sl.intsAt {w : World} {ao : Option Addr} {n c : Nat} {E : List Int} (h : Sl w (.slice ao n c) E) {k : Nat} (hk : k < E.length) :
    ∃ b off, ao = some ⟨b, off, none⟩ ∧ n = E.length ∧ n ≤ c ∧ c ≤ 9223372036854775807 ∧ b < w.heap.size ∧ w.cell? ⟨b, off + k, none⟩ = some (.int .i64 (E.getD k 0)) := by
  rcases h.ints with ⟨rfl, _⟩ | ⟨b, off, c', hv, h1, h2, h3, _, h4⟩
  · simp at hk
  · simp only [Value.slice.injEq] at hv
    obtain ⟨rfl, rfl, rfl⟩ := hv
    exact ⟨b, off, rfl, rfl, h1, h2, h3, h4 k hk⟩
theorem near_tells (w : World) (C : Nat) (x : Int) (hC : C < w.heap.size) (h0 : w.cell? ⟨C, 0, none⟩ = some (.int .i64 x)) : Tells Edge.val w (.func (.func 191) #[] #[.pointer (some ⟨C, 0, none⟩)]) (hits x) :=
  ⟨191, _, rfl, enters_of Tryz.func191 (by kernel_rfl) rfl, fun W ⟨a, b⟩ hW => by
    have k0 : W.cell? ⟨C, 0, none⟩ = some (.int .i64 x) := (hW.cell (p := ⟨C, 0, none⟩) hC).trans h0
    have hC' : C < W.heap.size := Nat.lt_of_lt_of_le hC hW.size
    clear h0 hC hW
    change Calls Tryz.prog _ #[.agg #[.int .i64 a, .int .i64 b], .pointer (some ⟨C, 0, none⟩)] W _
    by_cases e1 : a = x
    · have g1 : (a == x) = true := by simp [e1]
      have E1 := Lib.hid g1
      clear e1
      go_enter Tryz.func191, Tryz.ntmps191
      go_wp2
      go_ret
      exact ⟨ret_bool (by simp only [hits, E1.out]; simp), (by repeat (first | exact Ext.refl _ | assumption | refine Ext.alloc ?_ _ | refine Ext.drew ?_ | refine Ext.drewN ?_ _))⟩
    · have g1 : (a == x) = false := by simp [e1]
      have E1 := Lib.hid g1
      clear e1
      go_enter Tryz.func191, Tryz.ntmps191
      go_wp2
      go_ret
      exact ⟨ret_bool (by simp only [hits, E1.out]; simp), (by repeat (first | exact Ext.refl _ | assumption | refine Ext.alloc ?_ _ | refine Ext.drew ?_ | refine Ext.drewN ?_ _))⟩⟩
set_option maxHeartbeats 1000000 in
theorem near_any (w : World) (N : Int) (v : Value) (E : List Edge) (x : Int) (h : Sl w v E) (ok : OkG N E) :
    Calls Tryz.prog 158 #[.agg #[.int .i64 N, v], .int .i64 x] w (GivesOw w (nearOf E x)) := by
  obtain ⟨ao, c, rfl⟩ := h.len
  have HC := Lib.hid (chk_of ok)
  have hfew := ok.few
  have hX : Ext w ((w.alloc (.cells #[.int .i64 N, .slice ao E.length c] 53)).alloc (.cells #[.int .i64 x] 3)) := ext_two w _ _
  have HS := Lib.hid (h.ext hX)
  have HK : Hid (∀ V, Ext ((w.alloc (.cells #[.int .i64 N, .slice ao E.length c] 53)).alloc (.cells #[.int .i64 x] 3)) V → (V.cell? ⟨w.heap.size, 0, none⟩ = some (.int .i64 N) ∧ V.cell? ⟨w.heap.size, 1, none⟩ = some (.slice ao E.length c)) ∧ V.cell? ⟨w.heap.size + 1, 0, none⟩ = some (.int .i64 x)) := Lib.hid fun V hV => by
    obtain ⟨hA, hB⟩ := box2 (hV.mono (by rw [size_alloc, size_alloc]; omega))
    exact ⟨⟨blk_cell hA 0 rfl, blk_cell hA 1 rfl⟩, blk_cell hB 0 rfl⟩
  clear h ok
  have hmf : ∀ (fn : Fn) (first cap : Array Value) (w : World), (Instr.makeFunc fn first cap).run Tryz.prog w = .ok (.func fn first cap) w := fun _ _ _ _ => rfl
  obtain ⟨K, hKd⟩ : ∃ K, K = E.filter (hits x) := ⟨_, rfl⟩
  have hKl : K.length ≤ 400 := by rw [hKd]; exact Nat.le_trans (List.length_filter_le _ _) hfew
  have HKd := Lib.hid hKd
  clear hKd
  go_enter Tryz.func158, Tryz.ntmps158
  go_wp2_with (first
    | (go_at_call 145; refine (check_any _ N _ E (HS.out.ext (by repeat (first | exact Ext.refl _ | assumption | refine Ext.alloc ?_ _ | refine Ext.drew ?_ | refine Ext.drewN ?_ _))) 0 HC.out).mono ?_; rintro e w1 ⟨rfl, x1⟩; obtain ⟨⟨p0, p1⟩, p2⟩ := HK.out w1 x1)
    | (go_at_call 190; refine (those_e _ N _ _ E _ (HS.out.ext (by repeat (first | exact Ext.refl _ | assumption | exact Hid.out (by assumption) | refine Ext.alloc ?_ _ | refine Ext.drew ?_ | refine Ext.drewN ?_ _ | refine Ext.trans ?_ (by assumption)))) (near_tells _ _ x (by have := x1.size; rw [size_alloc, size_alloc] at this; omega) p2) (by omega)).mono ?_; rintro e w2 ⟨v2, rfl, ho, x2⟩; rw [← HKd.out] at ho; have y2 := x1.trans x2; obtain ⟨ao2, c2, rfl⟩ := ho.sl.len; have O2 := Lib.hid ho.sl; obtain ⟨⟨r0, r1⟩, r2⟩ := HK.out w2 y2; clear ho))
  have hs2 : w.heap.size + 2 ≤ w2.heap.size := by have := y2.size; rw [size_alloc, size_alloc] at this; exact this
  go_loopw [5, 15] (fun q i wr => ∃ k : Nat, k ≤ K.length ∧ i = .int .i64 k ∧ Hid (Ow wr w2.heap.size q (endsOf (K.take k))) ∧ Hid (Ext w2 wr)) (fun _ i _ => K.length - (intOf i).toNat)
  case atStart => exact ⟨0, Nat.zero_le _, rfl, Lib.hid (Ow.nil _ _), Lib.hid (Ext.refl _)⟩
  case round =>
    obtain ⟨k, hk, rfl, HO, HX⟩ := hrel
    by_cases hlt : k < K.length
    · obtain ⟨b, off, hao, hn, hnc, hc63, hb, hya0, hyb0⟩ := O2.out.edgesAt hlt
      subst hao
      have hya := (HX.out.cell (p := ⟨b, off + k * 2, none⟩) hb).trans hya0
      have hyb := (HX.out.cell (p := ⟨b, off + k * 2 + 1, none⟩) hb).trans hyb0
      obtain ⟨⟨ya, yb⟩, hy⟩ : ∃ y, y = K.getD k ⟨0, 0⟩ := ⟨_, rfl⟩
      rw [← hy] at hya hyb
      have HN : Hid (endsOf (K.take (k + 1)) = endsOf (K.take k) ++ [ya, yb]) := Lib.hid (by rw [take_next hlt ⟨0, 0⟩, ← hy, endsOf_snoc])
      clear hy hya0 hyb0 hn
      obtain ⟨L, hL⟩ : ∃ L, L = endsOf (K.take k) := ⟨_, rfl⟩
      have hLl : L.length ≤ 1000 := by rw [hL, endsOf_length]; simp; omega
      rw [← hL] at HO HN
      clear hL
      have hwr : w2.heap.size ≤ wr.heap.size := HX.out.size
      go_wp2_with ((at_builtin; refine wpList_append_sl (α := Int) rfl (.tmp 19) (.tmp 24) rfl w2.heap.size _ L rfl ?_ (.slice (some ⟨_, 0, none⟩) 2 2) [ya, yb] rfl ?_ ?_ ?_ ?_; exact ((HO.out.alloc _).alloc _); exact (Sl.litAt _ _ (by simp) [ya, yb] (by simp)); (first | omega | (simp; omega)); exact (by first | (simp; done) | (simp; omega)); intro v3 W3 ho3 ha3; have O3 := Lib.hid ho3; have y3 : Hid (Ext w2 W3) := Lib.hid (Below.trans ((HX.out.alloc _).alloc _) ha3.below); clear ho3 ha3))
      go_roundw
      case rel => exact ⟨k + 1, by omega, by go_num, Lib.hid (by rw [HN.out]; exact O3.out), y3⟩
      case measure => simp [intOf]; omega
    · have hkl : k = K.length := by omega
      have ho := HO.out
      rw [hkl, List.take_length] at ho
      have HO' := Lib.hid ho
      clear ho HO hkl
      have hEl : (endsOf K).length ≤ 1000000 := by rw [endsOf_length]; omega
      obtain ⟨L, hL⟩ : ∃ L, L = endsOf K := ⟨_, rfl⟩
      have HL := Lib.hid hL
      rw [← hL] at HO' hEl
      clear hL
      have r2' := (HK.out wr (y2.trans HX.out)).2
      go_wp2_with (go_at_call 192; refine (setDel_any _ _ L x HO'.out.sl hEl).mono ?_; rintro e w4 ⟨v4, rfl, ho4, x4⟩; have O4 := Lib.hid ho4; clear ho4)
      go_ret
      have hsz : w.heap.size ≤ wr.heap.size := by have := HX.out.size; omega
      exact ⟨_, rfl, by unfold nearOf; rw [← HKd.out, ← HL.out]; exact O4.out.mono hsz, hX.trans (y2.trans (HX.out.trans x4))⟩
end Go.Proofs.YtfbambemjokmgaaGreat
namespace Go.Proofs.YtfbambemjokmgaaGreat
open Go.RowKit
instance : Elem Arc where
  e := 117
  t := 70
  k := 2
  bytes := 16
  z := .agg #[.int .i64 0, .int .i64 0]
  enc := fun x => [.int .i64 x.a, .int .i64 x.b]
  dflt := ⟨0, 0⟩
  len := fun _ => rfl
  pos := by decide
  one := fun x u hu => by simp at hu; rcases hu with rfl | rfl <;> rfl
  row := by kernel_rfl
  info := by kernel_rfl
  zsize := rfl
  few := by decide
theorem Sl.arcs {w : World} {v : Value} {xs : List Arc} (h : Sl w v xs) :
    (xs = [] ∧ ∃ ao c, v = .slice ao 0 c) ∨
    (∃ b off c, v = .slice (some ⟨b, off, none⟩) xs.length c ∧ xs.length ≤ c ∧ c ≤ 9223372036854775807 ∧ b < w.heap.size ∧ 0 < xs.length ∧
      ∀ j, j < xs.length → w.cell? ⟨b, off + j * 2, none⟩ = some (.int .i64 (xs.getD j ⟨0, 0⟩).a) ∧ w.cell? ⟨b, off + j * 2 + 1, none⟩ = some (.int .i64 (xs.getD j ⟨0, 0⟩).b)) := by
  rcases h.parts with h | ⟨b, off, c, h1, h2, h3, h4, h5, h6⟩
  · exact .inl h
  · refine .inr ⟨b, off, c, h1, h2, h3, h4, h5, fun j hj => ?_⟩
    have e : xs[j]? = some (xs.getD j ⟨0, 0⟩) := by simp [hj]
    exact ⟨h6 j _ e 0 _ rfl, by have := h6 j _ e 1 _ rfl; rwa [show off + (j * Elem.k Arc + 1) = off + j * 2 + 1 from by show off + (j * 2 + 1) = _; omega] at this⟩
end Go.Proofs.YtfbambemjokmgaaGreat
namespace Go.Proofs.YtfbambemjokmgaaGreat
open Go.RowKit Go.ChangeShapes Go.WideShapes Go.Deep
set_option maxRecDepth 20000 in
theorem cellsOf_split {α : Type} [Elem α] : ∀ (xs : List α) (j : Nat) (u : Value), (cellsOf xs)[j]? = some u → ∃ (i : Nat) (x : α) (r : Nat), xs[i]? = some x ∧ (Elem.enc x)[r]? = some u ∧ r < Elem.k α ∧ j = i * Elem.k α + r
  | [], j, u, h => by simp [cellsOf] at h
  | x :: xs, j, u, h => by
    have hl := Elem.len x
    change (Elem.enc x ++ cellsOf xs)[j]? = some u at h
    by_cases hj : j < Elem.k α
    · rw [List.getElem?_append_left (by omega)] at h
      exact ⟨0, x, j, rfl, h, hj, by omega⟩
    · rw [List.getElem?_append_right (by omega), hl] at h
      obtain ⟨i, y, r, h1, h2, h3, h4⟩ := cellsOf_split xs _ u h
      exact ⟨i + 1, y, r, h1, h2, h3, by rw [Nat.succ_mul]; omega⟩
set_option maxRecDepth 20000 in
theorem addr_add (b off n : Nat) : (⟨b, off, none⟩ : Addr).add n = ⟨b, off + n, none⟩ := by unfold Addr.add; split <;> simp_all
def Dec (α : Type) [Elem α] : Prop := ∀ (H : Type) (enc : TypeId × Value → H) (w : World) (base : Nat) (spare : Nat → Bool) (held : Bool) (n : Nat) (cs : List Value) (x : DataW H × List MemPlace),
  DataW.trod enc Tryz.prog w base spare held n (Elem.e α) cs = some x → ∃ a : α, cs = Elem.enc a
set_option maxRecDepth 20000 in
theorem spot_none {w : World} {a : Addr} {v : Value} (h : w.cell? a = some v) : a.spot = none := by
  unfold World.cell? at h
  split at h
  · cases hs : a.spot with
    | none => rfl
    | some _ => rw [hs] at h; simp at h
  · cases h
set_option maxRecDepth 20000 in
theorem arg_slice {α : Type} [Elem α] (hdec : Dec α) (hC : Tryz.prog.cellsOf (Elem.e α) = Elem.k α) {H : Type} {enc : TypeId × Value → H} {w : World} {r : Reach} {b0 base : Nat} {spare : Nat → Bool} {held : Bool} {v : Value} {d : DataW H} {p : List MemPlace}
    (hv : Value.okWide Tryz.prog w r b0 (Elem.t α) v) (h : DataW.Trod enc Tryz.prog w base spare held (Elem.t α) v d p) : ∃ ao c, ∃ xs : List α, v = .slice ao xs.length c ∧ Sl w (.slice ao xs.length c) xs := by
  obtain ⟨ao, len, cap, rfl⟩ := okWide_slice (Elem.row (α := α)) hv
  obtain ⟨fuel, hf⟩ := h
  rcases open_slice (Elem.row (α := α)) hf with ⟨hcs, _⟩ | ⟨a, l, c, m, n, D, Pl, hcs, hb, hl, hm, hmm, hx, hi⟩
  · simp [Value.cells] at hcs
    obtain ⟨rfl, rfl, rfl⟩ := hcs
    exact ⟨none, 0, [], rfl, Sl.empty _ _ _ (by omega) (fun _ => rfl)⟩
  · simp [Value.cells] at hcs
    obtain ⟨rfl, rfl, rfl⟩ := hcs
    have hlm : len ≤ m := by rw [hmm]; split <;> omega
    have key : ∀ i, ∃ x : α, i < len → w.cells? base (a.add (i * Elem.k α)) (Elem.k α) = some (Elem.enc x) := by
      intro i
      by_cases hil : i < len
      · obtain ⟨cs', h1, h2⟩ := hi i (by omega)
        obtain ⟨x, rfl⟩ := hdec H enc w base spare held n cs' _ h2
        rw [hC] at h1
        exact ⟨x, fun _ => h1⟩
      · exact ⟨Elem.dflt, fun h => absurd h hil⟩
    obtain ⟨f, hf'⟩ := Classical.axiomOfChoice key
    have hxl : ((List.range len).map f).length = len := by simp
    refine ⟨some a, cap, (List.range len).map f, by rw [hxl], ?_⟩
    by_cases h0 : len = 0
    · subst h0
      exact ⟨by simp [cellsOf], some a, cap, rfl, by simp, hm, by simp, .inl (by simp)⟩
    · have hpos := Elem.pos (α := α)
      obtain ⟨b, off, sp⟩ := a
      have hz : w.cell? ((Addr.mk b off sp).add 0) = some ((Elem.enc (f 0))[0]'(by rw [Elem.len]; exact hpos)) := by
        have := (World.cells?_some (hf' 0 (by omega))).2.2 0 hpos
        rw [Nat.zero_mul] at this
        simpa [Addr.add] using this.trans (List.getElem?_eq_getElem (by rw [Elem.len]; exact hpos))
      have hsp : sp = none := by
        have := spot_none hz
        simpa [Addr.add] using this
      subst hsp
      obtain ⟨v0, hz'⟩ : ∃ v0, w.cell? ⟨b, off, none⟩ = some v0 := ⟨_, by simpa [Addr.add] using hz⟩
      refine ⟨cellsOf_length _, _, cap, rfl, by rw [hxl]; exact hl, hm, by simp, .inr ⟨b, off, rfl, World.block_lt_of_cell? w _ hz', fun j u hj => ?_⟩⟩
      obtain ⟨i, x, r, h1, h2, h3, rfl⟩ := cellsOf_split _ j u hj
      rw [List.getElem?_map] at h1
      have hil : i < len := by
        rcases Nat.lt_or_ge i len with h | h
        · exact h
        · rw [List.getElem?_eq_none (by simpa using h)] at h1; simp at h1
      rw [List.getElem?_range hil] at h1
      simp only [Option.map_some, Option.some.injEq] at h1
      have := (World.cells?_some (hf' i hil)).2.2 r h3
      rw [addr_add b off _, addr_add b _ r] at this
      rw [show off + (i * Elem.k α + r) = off + i * Elem.k α + r from by omega, this, h1, h2]
end Go.Proofs.YtfbambemjokmgaaGreat
