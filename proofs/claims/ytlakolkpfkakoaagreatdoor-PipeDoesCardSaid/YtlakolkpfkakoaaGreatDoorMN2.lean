/- Rings of slices of bytes: what a ring holds in memory, and each of its functions. -/
import Derived.Test.YtlakolkpfkakoaaGreatDoorMA
import Derived.Test.YtlakolkpfkakoaaGreatDoorMB0
import Derived.Test.YtlakolkpfkakoaaGreatDoorShelf
import Derived.Sort.OwnSortedInts
import Derived.Sort.OwnSorted
import Derived.Maps.RangeWalk
import Derived.Maps.OwnSet
import Derived.DeepKeys4
import Derived.Laws.StructEq
import Derived.Test.YtlakolkpfkakoaaGreatDoorMN1
namespace Go.Proofs.YtlakolkpfkakoaaGreatDoor
open Go.RowKit Go.Sort
structure RAt {α : Type} [Elem α] (T : TypeId) (w : World) (B p : Nat) (q : Option Nat) (room : Nat) (xs : List α) : Prop where
  low : B ≤ p
  le : xs.length ≤ room
  most : room ≤ 1000
  blk : ∃ v, w.heap[p]? = some (.cells #[.int .i64 room, v] T (0, 0)) ∧ Ow w B v xs ∧ v.ownBlock = q ∧ q ≠ some p
structure RStep (p : Nat) (q q' : Option Nat) (w w' : World) : Prop where
  os : w'.os = w.os
  tape : w'.tape = w.tape
  output : w'.output = w.output
  size : w.heap.size ≤ w'.heap.size
  block : ∀ b, b < w.heap.size → b ≠ p → q ≠ some b → w'.heap[b]? = w.heap[b]?
  new : q' = q ∨ ∀ b, q' = some b → w.heap.size ≤ b

theorem RStep.refl (p : Nat) (q : Option Nat) (w : World) : RStep p q q w w := ⟨rfl, rfl, rfl, Nat.le_refl _, fun _ _ _ _ => rfl, .inl rfl⟩

section
variable {α : Type} [Elem α] {T : TypeId} {w w' : World} {B p : Nat} {q q' : Option Nat} {room : Nat} {xs : List α}

theorem RAt.lt (h : RAt T w B p q room xs) : p < w.heap.size := by obtain ⟨v, hb, _⟩ := h.blk; exact blk_lt hb
theorem RAt.qlow (h : RAt T w B p q room xs) : ∀ b, q = some b → B ≤ b ∧ b < w.heap.size := by
  obtain ⟨v, _, ho, rfl, _⟩ := h.blk
  exact ho.low
theorem RAt.ext (h : RAt T w B p q room xs) (e : Ext w w') : RAt T w' B p q room xs := by
  obtain ⟨v, hb, ho, hq, hne⟩ := h.blk
  exact ⟨h.low, h.le, h.most, v, by rw [e.block p (blk_lt hb)]; exact hb, ho.ext e, hq, hne⟩
theorem RStep.below (h : RStep p q q' w w') (hp : B ≤ p) (hq : ∀ b, q = some b → B ≤ b) (hB : B ≤ w.heap.size) : Below B w w' :=
  ⟨h.os, h.tape, h.output, h.size, fun k hk => h.block k (by omega) (by omega) (fun e => by have := hq k e; omega)⟩
theorem RAt.step (h : RAt T w B p q room xs) (s : RStep p q q' w w') (hB : B ≤ w.heap.size) : Below B w w' := s.below h.low (fun b e => (h.qlow b e).1) hB
def Kp {β : Type} [Elem β] (p : Nat) (q : Option Nat) (w : World) (v : Value) (ys : List β) : Prop :=
  Sl w v ys ∧ (ys = [] ∨ ∀ b, v.ownBlock = some b → b ≠ p ∧ q ≠ some b)

theorem Kp.ext {β : Type} [Elem β] {v : Value} {ys : List β} (h : Kp p q w v ys) (e : Ext w w') : Kp p q w' v ys := ⟨h.1.ext e, h.2⟩
theorem Kp.step {β : Type} [Elem β] {v : Value} {ys : List β} (h : Kp p q w v ys) (s : RStep p q q' w w') : Kp p q' w' v ys := by
  obtain ⟨⟨h1, ao, c, rfl, h2, h3, h4, h5⟩, h6⟩ := h
  rcases h6 with h6 | h6
  · subst h6
    exact ⟨⟨h1, ao, c, rfl, h2, h3, h4, .inl rfl⟩, .inl rfl⟩
  · rcases h5 with h5 | ⟨b, off, rfl, hb, hc⟩
    · exact ⟨⟨h1, ao, c, rfl, h2, h3, h4, .inl h5⟩, .inl (List.eq_nil_of_length_eq_zero h5)⟩
    · have hn := h6 b rfl
      refine ⟨⟨h1, _, c, rfl, h2, h3, h4, .inr ⟨b, off, rfl, Nat.lt_of_lt_of_le hb s.size, fun j u hj => ?_⟩⟩, .inr fun b' e => ?_⟩
      · refine (World.cell?_of_block (w := w) (a := ⟨b, off + j, none⟩) (s.block b hb hn.1 hn.2)).trans (hc j u hj)
      · obtain rfl : b = b' := by simpa [Value.ownBlock] using e
        refine ⟨hn.1, fun e' => ?_⟩
        rcases s.new with h | h
        · exact hn.2 (h ▸ e')
        · have := h b e'; omega
theorem Kp.old {β : Type} [Elem β] {n : Nat} {v : Value} {ys : List β} (h : Sl w v ys) (hf : ys = [] ∨ ∀ b, v.ownBlock = some b → b < n) (hp : n ≤ p) (hq : ∀ b, q = some b → n ≤ b) : Kp p q w v ys :=
  ⟨h, hf.imp id fun hf b e => by have := hf b e; exact ⟨by omega, fun e' => by have := hq b e'; omega⟩⟩
end
def GivesR {α : Type} [Elem α] (T : TypeId) (w : World) (B p : Nat) (q : Option Nat) (room : Nat) (v : Value) (ys : List α) (e : Ending) (w' : World) : Prop :=
  e = .returned v ∧ ∃ q', RAt T w' B p q' room ys ∧ RStep p q q' w w'
structure BV where
  ao : Option Addr
  n : Nat
  c : Nat
instance : Inhabited BV := ⟨⟨none, 0, 0⟩⟩
def encBV (x : BV) : Value := .slice x.ao x.n x.c
instance : Elem BV where
  e := 114
  t := 145
  k := 1
  bytes := 24
  z := .slice none 0 0
  enc := fun x => [.slice x.ao x.n x.c]
  dflt := ⟨none, 0, 0⟩
  len := fun _ => rfl
  pos := by decide
  one := fun x u hu => by simp at hu; subst hu; rfl
  row := by kernel_rfl
  info := by kernel_rfl
  zsize := rfl
  few := by decide

theorem cells_bv (xs : List BV) : cellsOf xs = xs.map encBV := by
  induction xs with
  | nil => rfl
  | cons x xs ih => show [encBV x] ++ cellsOf xs = _; rw [ih]; rfl

section
variable {α : Type} [Inhabited α] {enc : α → Value}
theorem holds_of_blockE {w : World} {g : Nat} {cur : Array Value} {e : TypeId} {ss : List α} (hb : w.heap[g]? = some (.cells cur e (0, 0))) (ht : cur.toList.take ss.length = ss.map enc) : Holds enc w g 0 ss.toArray := by
  intro j hj
  have hj' : j < ss.length := by simpa using hj
  refine ⟨?_, by simp [World.frozen?, hb]⟩
  have h1 : (cur.toList.take ss.length)[j]? = (ss.map enc)[j]? := by rw [ht]
  rw [List.getElem?_take_of_lt hj'] at h1
  simp only [World.cell?, hb, Nat.zero_add]
  simp only [Option.isSome_none, Bool.false_eq_true, if_false]
  rw [← Array.getElem?_toList, h1]
  simp [hj']
theorem heap_sortedE {w : World} {g n : Nat} {cur : Array Value} {e : TypeId} {fr : Nat × Nat} (d : Array α) (hb : w.heap[g]? = some (.cells cur e fr)) :
    (putRow enc (Sort.ahead w n) g 0 d).heap[g]? = some (.cells (putCells enc 0 d cur) e fr) := by
  simp [putRow, mapBlock, Sort.ahead, Array.getElem?_modify, hb, onCells]
theorem grownBy_sortedE {w : World} {g n : Nat} (d : Array α) : w.grownBy (putRow enc (Sort.ahead w n) g 0 d) (some g) := by
  refine ⟨rfl, rfl, rfl, by simp [putRow, mapBlock, Sort.ahead], fun k hk hne => ?_⟩
  have : g ≠ k := fun e => hne (by rw [e])
  simp [putRow, mapBlock, Sort.ahead, Array.getElem?_modify, this]
theorem take_putCellsE (cur : Array Value) (ts : List α) (h : ts.length ≤ cur.size) : (putCells enc 0 ts.toArray cur).toList.take ts.length = ts.map enc := by
  apply List.ext_getElem?
  intro j
  by_cases hj : j < ts.length
  · rw [List.getElem?_take_of_lt hj, Array.getElem?_toList]
    simp [putCells, hj, show j < cur.size by omega]
  · rw [List.getElem?_take_eq_none (by omega), List.getElem?_eq_none (by simp; omega)]
end

theorem delete_ow_b (w : World) (B : Nat) (v : Value) (xs : List BV) (k : Nat) (h : Ow w B v xs) (hk : k < xs.length) (hl : xs.length ≤ 100000) :
    Calls Tryz.prog 89 #[v, .int .i64 k, .int .i64 (k + 1)] w fun e w' => ∃ v', e = .returned v' ∧ Ow w' B v' (xs.eraseIdx k) ∧ w.grownBy w' v.ownBlock ∧ v'.ownBlock = v.ownBlock := by
  rcases h.2 with ⟨_, hz⟩ | ⟨g, cap, cur, rfl, hg, hh, hc1, hc2, hc3, hc4⟩
  · omega
  · have hc2' : cap ≤ 9223372036854775807 := by simpa only [maxLen] using hc2
    have hc4' : cur.toList.take xs.length = xs.map encBV := by have h4 := hc4; rw [show xs.length * Elem.k BV = xs.length from Nat.mul_one _, cells_bv] at h4; exact h4
    have hH := holds_of_blockE (enc := encBV) (ss := xs) hh hc4'
    obtain ⟨i0, hi0, hz1⟩ : ∃ i0, Tryz.prog.info? 114 = some i0 ∧ i0.size = 1 := by
      have h0 := Elem.info (α := BV)
      cases hq : Tryz.prog.info? 114 with
      | none => rw [show Tryz.prog.info? (Elem.e BV) = none from hq] at h0; simp at h0
      | some i0 =>
        rw [show Tryz.prog.info? (Elem.e BV) = some i0 from hq] at h0
        simp at h0
        exact ⟨i0, rfl, h0.2.1⟩
    have := AnyE.slices_Delete Tryz.del89 encBV (fun _ => rfl) ⟨none, 0, 0⟩ Tryz.zeroValue114 i0 hi0 hz1 g 0 cap k (k + 1) xs.toArray w hH (by simpa using hc1) hc2' (by omega) (by simp; omega)
    rw [List.size_toArray] at this
    rw [show ((k : Int) + 1) = ((k + 1 : Nat) : Int) from by omega]
    refine this.mono ?_
    rintro e w1 ⟨rfl, dn, rfl⟩
    have hle : (xs.eraseIdx k).length = xs.length - 1 := by rw [List.length_eraseIdx, if_pos hk]
    refine ⟨_, rfl, ?_, grownBy_sortedE _, rfl⟩
    refine ⟨cellsOf_length _, .inr ⟨g, cap, _, ?_, hg, heap_sortedE _ hh, by rw [hle]; omega, hc2, by simp [Sort.putCells, hc3], ?_⟩⟩
    · rw [hle, show k + 1 - k = 1 from by omega]
    · have ht := take_putCellsE (enc := encBV) cur (xs.take k ++ xs.drop (k + 1) ++ List.replicate (k + 1 - k) ⟨none, 0, 0⟩) (by simp; rw [hc3]; show _ ≤ cap * 1; omega)
      have ht2 := congrArg (List.take (xs.eraseIdx k).length) ht
      have hll : (xs.take k ++ xs.drop (k + 1) ++ List.replicate (k + 1 - k) (⟨none, 0, 0⟩ : BV)).length = xs.length := by simp; omega
      rw [List.take_take, hll, Nat.min_eq_left (by rw [hle]; omega)] at ht2
      have hk1 : (xs.eraseIdx k).length * Elem.k BV = (xs.eraseIdx k).length := Nat.mul_one _
      rw [hk1, ht2, ← List.map_take, cells_bv, List.take_left' (by rw [hle]; simp; omega)]
      rw [List.eraseIdx_eq_take_drop_succ]

section
theorem new_b (n : Int) (B : Nat) (w : World) (hB : B ≤ w.heap.size) :
    Calls Tryz.prog 61 #[.int .i64 n] w fun e w' => e = .returned (.pointer (some ⟨w.heap.size, 0, none⟩)) ∧ RAt 147 w' B w.heap.size none (min (max n 0) 1000).toNat ([] : List BV) ∧ Ext w w' := by
  have h1 : (((min (max n 0) 1000).toNat : Nat) : Int) = min (max n 0) 1000 := by omega
  have h2 : (min (max n 0) 1000).toNat ≤ 1000 := by omega
  obtain ⟨m, hm⟩ : ∃ m, m = (min (max n 0) 1000).toNat := ⟨_, rfl⟩
  rw [← hm] at h1 h2 ⊢
  have H1 := Lib.hid h1
  clear h1 hm
  go_enter Tryz.func61, Tryz.ntmps61
  go_wp2
  go_ret
  refine ⟨rfl, ⟨hB, Nat.zero_le _, h2, .slice none 0 0, ?_, Ow.nil _ _, rfl, by simp⟩, (Ext.refl _).alloc _⟩
  rw [heap_alloc_new, H1.out]

theorem room_b {w : World} {B p : Nat} {q : Option Nat} {room : Nat} {xs : List BV} (h : RAt 147 w B p q room xs) :
    Calls Tryz.prog 88 #[.pointer (some ⟨p, 0, none⟩)] w fun e w' => e = .returned (.int .i64 (room - xs.length)) ∧ Drew w w' := by
  obtain ⟨v, hb, ho, _⟩ := h.blk
  obtain ⟨ao, c, rfl⟩ := ho.sl.len
  have c0 := blk_cell hb 0 rfl
  have c1 := blk_cell hb 1 rfl
  have := h.le
  have := h.most
  clear h ho
  go_enter Tryz.func88, Tryz.ntmps88
  go_wp2
  try go_quiet (fail)
  try go_wp2
  go_ret
  exact ⟨rfl, _, rfl⟩

theorem at_yes_b {w : World} {B p : Nat} {q : Option Nat} {room : Nat} {xs : List BV} (h : RAt 147 w B p q room xs) (at' : Int) (h0 : 0 ≤ at') (h1 : at' < xs.length) (x : BV) (hx : xs[at'.toNat]? = some x) :
    Calls Tryz.prog 83 #[.pointer (some ⟨p, 0, none⟩), .int .i64 at'] w fun e w' => e = .returned (.tuple #[.slice x.ao x.n x.c, .bool true]) ∧ w = w' := by
  obtain ⟨v, hb, ho, _⟩ := h.blk
  have := h.le
  have := h.most
  rcases ho.sl.parts with ⟨rfl, _⟩ | ⟨b, off, c, rfl, hc, hc63, hbl, hpos, hcell⟩
  · simp at h1; omega
  · have c1 := blk_cell hb 1 rfl
    have cx := hcell at'.toNat x hx 0 _ rfl
    rw [show off + (at'.toNat * Elem.k BV + 0) = off + at'.toNat from by show off + (at'.toNat * 1 + 0) = _; omega] at cx
    obtain ⟨k, rfl⟩ := Int.eq_ofNat_of_zero_le h0
    simp only [Int.toNat_natCast] at cx
    have hk : k < xs.length := by omega
    clear h ho hcell hx h0 h1
    go_enter Tryz.func83, Tryz.ntmps83
    go_wp2
    go_ret2
    exact ⟨rfl, rfl⟩

theorem at_no_b {w : World} {B p : Nat} {q : Option Nat} {room : Nat} {xs : List BV} (h : RAt 147 w B p q room xs) (at' : Int) (h1 : at' < 0 ∨ (xs.length : Int) ≤ at') :
    Calls Tryz.prog 83 #[.pointer (some ⟨p, 0, none⟩), .int .i64 at'] w fun e w' => e = .returned (.tuple #[.slice none 0 0, .bool false]) ∧ w = w' := by
  obtain ⟨v, hb, ho, _⟩ := h.blk
  obtain ⟨ao, c, rfl⟩ := ho.sl.len
  have c1 := blk_cell hb 1 rfl
  have := h.le
  have := h.most
  clear h ho
  rcases h1 with h1 | h1
  · go_enter Tryz.func83, Tryz.ntmps83
    go_wp2
    go_ret2
    exact ⟨rfl, rfl⟩
  · have h2 : ¬ at' < 0 := by omega
    go_enter Tryz.func83, Tryz.ntmps83
    go_wp2
    go_ret2
    exact ⟨rfl, rfl⟩

theorem push_no_b {w : World} {B p : Nat} {q : Option Nat} {room : Nat} {xs : List BV} (h : RAt 147 w B p q room xs) (x : BV) (hf : room ≤ xs.length) :
    Calls Tryz.prog 70 #[.pointer (some ⟨p, 0, none⟩), .slice x.ao x.n x.c] w fun e w' => e = .returned (.bool false) ∧ Drew w w' := by
  have hd : (((room : Int) - (xs.length : Int)) == 0) = true := by have := h.le; simp; omega
  go_enter Tryz.func70, Tryz.ntmps70
  go_wp2_with fail
  refine (room_b h).mono ?_
  rintro e w1 ⟨rfl, hw⟩
  have HW := Lib.hid hw
  clear hw
  go_wp2
  go_ret
  exact ⟨rfl, HW.out⟩

theorem push_yes_b {w : World} {B p : Nat} {q : Option Nat} {room : Nat} {xs : List BV} (h : RAt 147 w B p q room xs) (hB : B ≤ w.heap.size) (x : BV) (hf : xs.length < room) :
    Calls Tryz.prog 70 #[.pointer (some ⟨p, 0, none⟩), .slice x.ao x.n x.c] w (GivesR 147 w B p q room (.bool true) (xs ++ [x])) := by
  have hd : (((room : Int) - (xs.length : Int)) == 0) = false := by have := h.le; simp; omega
  have h0 := h
  obtain ⟨v, hb, ho, hvq, hqp⟩ := h.blk
  have hmost := h.most
  have hlow := h.low
  have hpw : p < w.heap.size := blk_lt hb
  have HV := Lib.hid hvq
  have HB := Lib.hid hb
  have HO := Lib.hid ho
  have HQ := Lib.hid hqp
  clear h hb ho hvq hqp
  go_enter Tryz.func70, Tryz.ntmps70
  go_wp2_with fail
  refine (room_b h0).mono ?_
  rintro e w1 ⟨rfl, hw⟩
  obtain ⟨dn, rfl⟩ := hw
  clear h0
  obtain ⟨ao, c, rfl⟩ := HO.out.sl.len
  have c1 := blk_cell (w := w.drewN dn) HB.out 1 rfl
  go_wp2_with (at_builtin; go_loud (refine wpList_append_sl (α := BV) rfl (.tmp 12) (.tmp 14) rfl B (.slice ao xs.length c) xs rfl ((HO.out.drewN dn).alloc _) (.slice (some ⟨_, 0, none⟩) 1 1) [x] rfl (Sl.lit (w.drewN dn) [x] (by simp)) (by simp; omega) (by simp; omega) ?_; intro v1 W1 ho1 ha1; obtain ⟨ao1, n1, cc1, rfl⟩ := ho1.sh; have hs1 : w.heap.size + 1 ≤ W1.heap.size := (by have := ha1.grown.size; simpa using this); have hbk : W1.heap[p]? = w.heap[p]? := ((ha1.grown.block p (by simp; omega) (by rw [HV.out]; exact fun e => HQ.out e.symm)).trans (heap_alloc_old (w.drewN dn) _ hpw)); have c2 := blk_cell (hbk.trans HB.out) 1 rfl; have f2 := blk_free (hbk.trans HB.out) 1; have HO1 := Lib.hid ho1; have HA1 := Lib.hid ha1; have HK := Lib.hid hbk; clear ho1 ha1 hbk))
  go_ret
  have ho1 := HO1.out
  have ha1 := HA1.out
  have hlow1 := ho1.low
  have hg := ha1.grown
  have hne : (Value.slice ao1 n1 cc1).ownBlock ≠ some p := by
    rcases ha1.block with h | h
    · rw [h, HV.out]; exact HQ.out
    · intro e; have := h p e; simp at this; omega
  refine ⟨rfl, _, ⟨hlow, by simp; omega, hmost, _, ?_, ?_, rfl, hne⟩, ⟨hg.os, hg.tape, hg.output, by rw [set_size]; omega, fun b hb hbp hqb => ?_, ?_⟩⟩
  · have := blk_set (HK.out.trans HB.out) 1 (.slice ao1 n1 cc1)
    simpa using this
  · exact ownsRow_setCell_other ho1 (by simpa using hne) _
  · rw [set_other _ _ _ _ (by simpa using hbp)]
    have := hg.block b (by simp; omega) (by rw [HV.out]; exact fun e => hqb e.symm)
    rw [this]
    exact heap_alloc_old _ _ hb
  · rcases ha1.block with h | h
    · exact .inl (h.trans HV.out)
    · exact .inr fun b e => by have := h b e; simp at this; omega

theorem cut_no_b {w : World} {B p : Nat} {q : Option Nat} {room : Nat} {xs : List BV} (h : RAt 147 w B p q room xs) (at' : Int) (h1 : at' < 0 ∨ (xs.length : Int) ≤ at') :
    Calls Tryz.prog 76 #[.pointer (some ⟨p, 0, none⟩), .int .i64 at'] w fun e w' => e = .returned (.tuple #[.slice none 0 0, .bool false]) ∧ w = w' := by
  go_enter Tryz.func76, Tryz.ntmps76
  go_wp2_with fail
  refine (at_no_b h at' h1).mono ?_
  rintro e w' ⟨rfl, rfl⟩
  go_wp2
  go_ret2
  exact ⟨rfl, rfl⟩

theorem cut_yes_b {w : World} {B p : Nat} {q : Option Nat} {room : Nat} {xs : List BV} (h : RAt 147 w B p q room xs) (k : Nat) (x : BV) (hx : xs[k]? = some x) :
    Calls Tryz.prog 76 #[.pointer (some ⟨p, 0, none⟩), .int .i64 k] w (GivesR 147 w B p q room (.tuple #[.slice x.ao x.n x.c, .bool true]) (xs.eraseIdx k)) := by
  have hk : k < xs.length := (List.getElem?_eq_some_iff.1 hx).1
  have h0 := h
  obtain ⟨v, hb, ho, hvq, hqp⟩ := h.blk
  have hmost := h.most
  have hle := h.le
  have hlow := h.low
  have hpw : p < w.heap.size := blk_lt hb
  have HV := Lib.hid hvq
  have HB := Lib.hid hb
  have HQ := Lib.hid hqp
  have HO := Lib.hid ho
  have HX := Lib.hid hx
  obtain ⟨ao, c, rfl⟩ := ho.sl.len
  have c1 := blk_cell hb 1 rfl
  clear h hb ho hvq hqp hx
  go_enter Tryz.func76, Tryz.ntmps76
  go_wp2_with fail
  refine (at_yes_b h0 k (by omega) (by omega) x (by simpa using HX.out)).mono ?_
  rintro e w' ⟨rfl, rfl⟩
  clear h0
  go_wp2_with fail
  refine (delete_ow_b w B _ xs k HO.out hk (by omega)).mono ?_
  rintro e w1 ⟨v1, rfl, ho1, hg1, hv1⟩
  obtain ⟨ao1, n1, cc1, rfl⟩ := ho1.sh
  have hbk : w1.heap[p]? = w.heap[p]? := hg1.block p hpw (by rw [HV.out]; exact fun e => HQ.out e.symm)
  have c2 := blk_cell (hbk.trans HB.out) 1 rfl
  have f2 := blk_free (hbk.trans HB.out) 1
  have HO1 := Lib.hid ho1
  have HG1 := Lib.hid hg1
  have HV1 := Lib.hid (hv1.trans HV.out)
  have HK := Lib.hid hbk
  clear ho1 hg1 hv1 hbk
  go_wp2
  go_ret2
  have hg := HG1.out
  refine ⟨rfl, q, ⟨hlow, by rw [List.length_eraseIdx]; split <;> omega, hmost, _, ?_, ?_, HV1.out, HQ.out⟩, ⟨hg.os, hg.tape, hg.output, by rw [set_size]; exact hg.size, fun b hb hbp hqb => ?_, .inl rfl⟩⟩
  · have := blk_set (HK.out.trans HB.out) 1 (.slice ao1 n1 cc1)
    simpa using this
  · exact ownsRow_setCell_other HO1.out (by rw [HV1.out]; simpa using HQ.out) _
  · rw [set_other _ _ _ _ (by simpa using hbp)]
    exact hg.block b hb (by rw [HV.out]; exact fun e => hqb e.symm)

end

end Go.Proofs.YtlakolkpfkakoaaGreatDoor

/- A map's keys that are two numbers, and its elements, pointers, as numbers of blocks. -/
namespace Go.Proofs.YtlakolkpfkakoaaGreatDoor
open Go.RowKit Go.Maps
set_option maxRecDepth 50000

theorem laid : laidOutB Tryz.prog = true := by kernel_rfl
theorem wideK : (match Tryz.prog.underlying 116 with | some (.array _ _) | some (.struct _) => true | _ => false) = true := by kernel_rfl
theorem kw : Keyed Tryz.prog 116 := Keyed.of_law (deep_law_laid laid (m := 3) (by omega) (of_decide_eq_true (by kernel_rfl)) (by kernel_rfl) wideK)

def key (a b : Int) : Value := .agg #[.int .i64 a, .int .i64 b]
def klit (a b : Int) : Lit := .string (keyBytes [.int .i64 a, .int .i64 b])
def In64 (a : Int) : Prop := -9223372036854775808 ≤ a ∧ a ≤ 9223372036854775807
theorem wf_of {a : Int} (h : In64 a) : (Lit.int .i64 a).wf = true := by
  unfold In64 at h
  simpa [Lit.wf, IntKind.min, IntKind.max, IntKind.signed, IntKind.bits] using h
theorem in_of {a : Int} (h : (Lit.int .i64 a).wf = true) : In64 a := by
  unfold In64
  simpa [ Lit.wf, IntKind.min, IntKind.max, IntKind.signed, IntKind.bits] using h

theorem cellsK : Tryz.prog.cellsOf 116 = 2 := by kernel_rfl
theorem cellsI : Tryz.prog.cellsOf 3 = 1 := by kernel_rfl
theorem typeK : Tryz.prog.keyType 116 = true := by kernel_rfl
theorem sizeT : ∃ d, Tryz.prog.types.size + 1 = d + 2 := ⟨Tryz.prog.types.size - 1, by have : 1 ≤ Tryz.prog.types.size := of_decide_eq_true (by kernel_rfl); omega⟩
theorem key_of {a b : Int} (ha : In64 a) (hb : In64 b) : keyOf Tryz.prog 116 (key a b) = some (klit a b) := by
  obtain ⟨d, hd⟩ := sizeT
  unfold keyOf klit key
  rw [Tryz.underlying116]
  dsimp only
  rw [typeK, hd]
  simp [Value.formed, Tryz.underlying116, cellsK, Value.cells, Program.keyLits, cellsI, Tryz.underlying3, wf_of ha, wf_of hb]
theorem lit_inv {d : Nat} {c : Value} {l : List Lit} (h : Program.keyLits Tryz.prog (d + 1) 3 [c] = some l) : ∃ a, c = .int .i64 a ∧ In64 a ∧ l = [.int .i64 a] := by
  unfold Program.keyLits at h
  rw [Tryz.underlying3] at h
  cases c <;> simp at h
  obtain ⟨⟨rfl, hw⟩, rfl⟩ := h
  exact ⟨_, rfl, in_of hw, rfl⟩
theorem key_inv {v : Value} {l : Lit} (h : keyOf Tryz.prog 116 v = some l) : ∃ a b, v = key a b ∧ In64 a ∧ In64 b ∧ l = klit a b := by
  obtain ⟨d, hd⟩ := sizeT
  unfold keyOf at h
  rw [Tryz.underlying116] at h
  dsimp only at h
  rw [typeK, hd] at h
  cases v <;> simp [Value.formed, Tryz.underlying116, cellsK] at h
  rename_i cs
  obtain ⟨hs, ls, hl, hk⟩ := h
  obtain ⟨cs⟩ := cs
  match cs, hs with
  | [c0, c1], _ =>
    unfold Program.keyLits at hl
    rw [Tryz.underlying116] at hl
    simp [cellsK, Value.cells, cellsI] at hl
    cases h0 : Program.keyLits Tryz.prog (d + 1) 3 [c0] with
    | none => rw [h0] at hl; simp at hl
    | some l0 =>
      cases h1 : Program.keyLits Tryz.prog (d + 1) 3 [c1] with
      | none => rw [h0, h1] at hl; simp at hl
      | some l1 =>
        obtain ⟨a, rfl, ha, rfl⟩ := lit_inv h0
        obtain ⟨b, rfl, hb, rfl⟩ := lit_inv h1
        rw [h0, h1] at hl
        simp at hl
        exact ⟨a, b, rfl, ha, hb, by rw [← hk, ← hl]; rfl⟩
theorem klit_ne {a b x y : Int} (ha : In64 a) (hb : In64 b) (hx : In64 x) (hy : In64 y) (h : ¬ (a = x ∧ b = y)) : klit a b ≠ klit x y := fun e => by
  have := kw.inj (key_of ha hb) (e ▸ key_of hx hy)
  unfold key at this
  simp at this
  exact h this
theorem klit_key (a b : Int) : WideAt.IsKeyLit (klit a b) := trivial
def rb : Value → Option (DataW Unit × List MemPlace)
  | .pointer (some ⟨b, 0, none⟩) => some (.lit (.int .i64 b), [])
  | _ => none
theorem rb_inv {v : Value} {y : DataW Unit × List MemPlace} (h : rb v = some y) : ∃ b : Nat, v = .pointer (some ⟨b, 0, none⟩) ∧ y = (.lit (.int .i64 b), []) := by
  unfold rb at h
  split at h
  · exact ⟨_, rfl, (Option.some.inj h).symm⟩
  · cases h

section
variable {w : World}
theorem check_int (em : Bool) (d : Nat) (a : Int) : (Instr.checkKey em (d + 1) 3 (.int .i64 a)).run Tryz.prog w = .ok () w := by
  unfold Instr.checkKey
  simp [run_underlying Tryz.underlying3]
theorem check_key (em : Bool) (a b : Int) : (Instr.checkKey em 10000 116 (key a b)).run Tryz.prog w = .ok () w := by
  unfold key
  rw [show (10000 : Nat) = 9998 + 1 + 1 from rfl]
  unfold Instr.checkKey
  simp [run_underlying Tryz.underlying116]
  rw [run_part_plain w (P := Tryz.prog) (e := 3) (v := .int .i64 a) (by kernel_rfl) rfl]
  simp only [Result.andThen_ok]
  rw [check_int]
  simp only [Result.andThen_ok]
  rw [run_part_plain w (P := Tryz.prog) (e := 3) (v := .int .i64 b) (by kernel_rfl) rfl]
  simp only [Result.andThen_ok]
  rw [check_int]
theorem equal_key (a b x y : Int) : (Op.equal 116 (key a b) (key x y)).run Tryz.prog w = .ok (decide (a = x ∧ b = y)) w := by
  unfold Op.equal key
  rw [show Op.maxDepth = 9998 + 1 + 1 from rfl, run_equalIn_agg _ _ _ _ _ (by rw [Tryz.underlying116]; kernel_rfl) (by kernel_rfl)]
  unfold Program.fieldsOf
  rw [Tryz.underlying116]
  simp [Op.eqFields]
  have hp : ∀ (X Y : Value) (k : Nat) (c : Value), #[X, Y][k]? = some c → (part 3 #[X, Y] k).run Tryz.prog w = .ok c w := fun X Y k c hc => run_part_plain w (by kernel_rfl) hc
  rw [hp _ _ 0 (.int .i64 a) rfl]
  simp only [Result.andThen_ok]
  rw [hp _ _ 0 (.int .i64 x) rfl]
  simp only [Result.andThen_ok]
  rw [run_equalIn_int w 9998 3 .i64 .i64 a x Tryz.underlying3]
  simp only [Result.andThen_ok]
  by_cases h : a = x
  · subst h
    rw [if_neg (by simp), hp _ _ 1 (.int .i64 b) rfl]
    simp only [Result.andThen_ok]
    rw [hp _ _ 1 (.int .i64 y) rfl]
    simp only [Result.andThen_ok]
    rw [run_equalIn_int w 9998 3 .i64 .i64 b y Tryz.underlying3]
    simp only [Result.andThen_ok]
    by_cases h2 : b = y <;> simp [h2]
  · rw [if_pos (by simp [h])]
    simp [h]
theorem asking_none (a b : Int) : ∀ (es : List MapEntry) (i : Nat), (∀ e ∈ es, ∃ x y, e.key = key x y ∧ ¬ (a = x ∧ b = y)) → (Instr.findAsking 116 (key a b) es i).run Tryz.prog w = .ok none w
  | [], i, _ => by simp [Instr.findAsking]
  | e :: es, i, h => by
    obtain ⟨x, y, hk, hn⟩ := h e (List.mem_cons_self ..)
    unfold Instr.findAsking
    rw [hk]
    simp only [Sem.run_bind]
    rw [equal_key, decide_eq_false hn]
    simp only [Result.andThen_ok, Bool.false_eq_true, if_false]
    exact asking_none a b es (i + 1) (fun e he => h e (List.mem_cons_of_mem _ he))

theorem zeroP : (zeroValue 112).run Tryz.prog w = .ok (.pointer none) w := Tryz.zeroValue112 w
theorem look_way {m n : Nat} {D : DataW Unit} (h : w.ownsMap Tryz.prog 116 rb m n D) (a b : Int) :
    (∃ g : Nat, (Instr.lookup 111 (.map (some m)) (key a b) true).run Tryz.prog w = .ok (.tuple #[.pointer (some ⟨g, 0, none⟩), .bool true]) w ∧ In64 a ∧ In64 b ∧ ∀ zd, D.atKey (klit a b) zd = .lit (.int .i64 g)) ∨
    ((Instr.lookup 111 (.map (some m)) (key a b) true).run Tryz.prog w = .ok (.tuple #[.pointer none, .bool false]) w ∧ (In64 a → In64 b → ∀ zd, D.atKey (klit a b) zd = zd)) := by
  obtain ⟨es, clock, hb, F, _, rfl⟩ := h
  by_cases hin : In64 a ∧ In64 b
  · rcases Maps.fit_look true kw Tryz.underlying111 zeroP hb F (key_of hin.1 hin.2) with ⟨hrun, _, hat⟩ | ⟨e0, y, _, _, hrun, hRv, hat, _⟩
    · exact .inr ⟨by simpa using hrun, fun _ _ => hat⟩
    · obtain ⟨g, hg, rfl⟩ := rb_inv hRv
      rw [hg] at hrun
      exact .inl ⟨g, by simpa using hrun, hin.1, hin.2, hat⟩
  · refine .inr ⟨?_, fun ha hb => absurd ⟨ha, hb⟩ hin⟩
    have hne : ∀ e ∈ es.toList, ∃ x y, e.key = key x y ∧ ¬ (a = x ∧ b = y) := fun e he => by
      obtain ⟨l, hl⟩ := F.keys e he
      obtain ⟨x, y, hk, hx, hy, _⟩ := key_inv hl
      exact ⟨x, y, hk, fun e => hin (by rw [e.1, e.2]; exact ⟨hx, hy⟩)⟩
    have hf : (Instr.findKey 116 (key a b) es.toList).run Tryz.prog w = .ok none w := (run_findKey_eq (w := w) wideK _ _).trans (asking_none a b _ _ hne)
    simp [Instr.lookup, run_underlying Tryz.underlying111, MapKept.run_getObj_map hb, check_key, hf, Result.andThen]
end
end Go.Proofs.YtlakolkpfkakoaaGreatDoor

/- What a net is in memory: a map of rings of bytes; what a step of one ring is to the others. -/
namespace Go.Proofs.YtlakolkpfkakoaaGreatDoor
open Go.RowKit Go.Maps

theorem NetS.Ok.put {S : NetS} (h : S.Ok) {a b : Int} (h2 : S.two a b = true) {l : List ByteArray} (hl : l.length ≤ S.room) (hs : ∀ s ∈ l, s.size ≤ 1000) : (S.put a b l).Ok := by
  refine ⟨h.nodes, h.rooms, fun x y => ?_, fun x y hxy => ?_, fun x y s hm => ?_⟩
  · show (if x = a ∧ y = b then l else S.f x y).length ≤ S.room
    split
    · exact hl
    · exact h.few x y
  · show (if x = a ∧ y = b then l else S.f x y) = []
    rw [if_neg (fun e => by
      have : S.two x y = false := hxy
      rw [e.1, e.2, h2] at this
      cases this)]
    exact h.none x y hxy
  · by_cases e : x = a ∧ y = b
    · have : s ∈ l := by simpa [NetS.put, e] using hm
      exact hs s this
    · have : s ∈ S.f x y := by simpa [NetS.put, e] using hm
      exact h.short x y s this

theorem Byt.keep {w w' : World} {g : Nat} {l : List Nat} (h : Byt w g l) (hg : w'.heap[g]? = w.heap[g]?) : Byt w' g l := by
  obtain ⟨C, m, h1, h2⟩ := h
  exact ⟨C, m, hg.trans h1, h2⟩
theorem Ow.keep {α : Type} [Elem α] {w w' : World} {B : Nat} {v : Value} {xs : List α} (h : Ow w B v xs) (hq : ∀ b, v.ownBlock = some b → w'.heap[b]? = w.heap[b]?) : Ow w' B v xs := by
  refine ⟨h.1, ?_⟩
  rcases h.2 with h2 | ⟨g, cap, cur, rfl, hg, hh, r⟩
  · exact .inl h2
  · exact .inr ⟨g, cap, cur, rfl, hg, (hq g rfl).trans hh, r⟩
theorem RAt.keep {α : Type} [Elem α] {T : TypeId} {w w' : World} {B p : Nat} {q : Option Nat} {room : Nat} {xs : List α} (h : RAt T w B p q room xs) (hp : w'.heap[p]? = w.heap[p]?) (hq : ∀ b, q = some b → w'.heap[b]? = w.heap[b]?) : RAt T w' B p q room xs := by
  obtain ⟨v, hb, ho, rfl, hne⟩ := h.blk
  exact ⟨h.low, h.le, h.most, v, hp.trans hb, ho.keep hq, rfl, hne⟩
def BytAt (w : World) (own : Nat → Prop) (g : Nat) (q : Option Nat) (v : BV) (s : ByteArray) : Prop :=
  ∃ b, v.ao = some ⟨b, 0, none⟩ ∧ v.n = s.size ∧ Byt w b (bl s) ∧ own b ∧ b ≠ g ∧ q ≠ some b
structure Row (w : World) (own : Nat → Prop) (g room : Nat) (vs : List BV) (q : Option Nat) (l : List ByteArray) : Prop where
  ring : RAt 147 w 0 g q room vs
  og : own g
  oq : ∀ b, q = some b → own b
  all : All2 (BytAt w own g q) vs l
  apart : vs.Pairwise (fun x y => x.ao ≠ y.ao)
def RowAt (w : World) (own : Nat → Prop) (g room : Nat) (l : List ByteArray) : Prop := ∃ vs q, Row w own g room vs q l

theorem RowAt.to {w w' : World} {own own' : Nat → Prop} {g room : Nat} {l : List ByteArray} (h : RowAt w own g room l) (hk : ∀ k, own k → k < w.heap.size → w'.heap[k]? = w.heap[k]?) (hm : ∀ k, own k → own' k) : RowAt w' own' g room l := by
  obtain ⟨vs, q, h1, h2, h3, h4, h5⟩ := h
  refine ⟨vs, q, h1.keep (hk g h2 h1.lt) (fun b hb => hk b (h3 b hb) (h1.qlow b hb).2), hm g h2, fun b hb => hm b (h3 b hb), h4.mono ?_, h5⟩
  rintro v s ⟨b, e1, e2, e3, e4, e5, e6⟩
  exact ⟨b, e1, e2, e3.keep (hk b e4 e3.lt), hm b e4, e5, e6⟩

theorem Row.ext {w w' : World} {own : Nat → Prop} {g room : Nat} {vs : List BV} {q : Option Nat} {l : List ByteArray} (h : Row w own g room vs q l) (x : Ext w w') : Row w' own g room vs q l :=
  ⟨h.ring.ext x, h.og, h.oq, h.all.mono (fun _ _ ⟨b, e1, e2, e3, e4⟩ => ⟨b, e1, e2, e3.ext x, e4⟩), h.apart⟩
theorem BytAt.step {w w' : World} {own own' : Nat → Prop} {g : Nat} {q q' : Option Nat} {v : BV} {s : ByteArray} (h : BytAt w own g q v s) (r : RStep g q q' w w') (hm : ∀ k, own k → own' k) : BytAt w' own' g q' v s := by
  obtain ⟨b, e1, e2, e3, e4, e5, e6⟩ := h
  refine ⟨b, e1, e2, e3.keep (r.block b e3.lt e5 e6), hm b e4, e5, fun e => ?_⟩
  rcases r.new with h1 | h1
  · exact e6 (h1 ▸ e)
  · have := h1 b e; have := e3.lt; omega

theorem All2.eraseIdx {α β : Type} {R : α → β → Prop} : ∀ {l : List α} {m : List β}, All2 R l m → ∀ k, All2 R (l.eraseIdx k) (m.eraseIdx k)
  | _, _, .nil, _ => by rw [List.eraseIdx_nil, List.eraseIdx_nil]; exact .nil
  | _, _, .cons _ h, 0 => h
  | _, _, .cons hr h, k + 1 => .cons hr (h.eraseIdx k)

theorem pairwise_push {vs : List BV} {v : BV} (h : vs.Pairwise (fun x y => x.ao ≠ y.ao)) (hv : ∀ x ∈ vs, x.ao ≠ v.ao) : (vs ++ [v]).Pairwise (fun x y => x.ao ≠ y.ao) := by
  rw [List.pairwise_append]
  exact ⟨h, List.pairwise_singleton _ _, fun x hx y hy => by rw [List.mem_singleton] at hy; subst hy; exact hv x hx⟩
theorem All2.mem {α β : Type} {R : α → β → Prop} : ∀ {l : List α} {m : List β}, All2 R l m → ∀ x ∈ l, ∃ y ∈ m, R x y
  | _, _, .cons hr h, x, hx => by
    rcases List.mem_cons.1 hx with rfl | hx
    · exact ⟨_, List.mem_cons_self .., hr⟩
    · obtain ⟨y, hy, hq⟩ := h.mem x hx
      exact ⟨y, List.mem_cons_of_mem _ hy, hq⟩
def Own' (own : Nat → Prop) (w w' : World) (k : Nat) : Prop := own k ∨ (w.heap.size ≤ k ∧ k < w'.heap.size)
theorem RowAt.push {w w1 w2 : World} {own : Nat → Prop} {g room n : Nat} {vs : List BV} {q q' : Option Nat} {l : List ByteArray} {s : ByteArray} {c : Nat} (h : Row w own g room vs q l) (x1 : Ext w w1) (hn : w.heap.size ≤ n) (hb : Byt w1 n (bl s)) (hq1 : RStep g q q' w1 w2)
    (hr : RAt 147 w2 0 g q' room (vs ++ [⟨some ⟨n, 0, none⟩, s.size, c⟩])) : RowAt w2 (Own' own w w2) g room (l ++ [s]) := by
  have hg := h.ring.lt
  have hn1 := hb.lt
  have hs := hq1.size
  have hold : ∀ v s, BytAt w own g q v s → BytAt w2 (Own' own w w2) g q' v s := fun v s hv => by
    obtain ⟨b, e1, e2, e3, e4, e5, e6⟩ := hv
    exact BytAt.step (own := own) ⟨b, e1, e2, e3.ext x1, e4, e5, e6⟩ hq1 (fun k hk => .inl hk)
  refine ⟨_, q', hr, .inl h.og, fun b hb => ?_, (h.all.mono hold).append (.one ⟨n, rfl, rfl, hb.keep (hq1.block n hn1 (by omega) (fun e => by have := (h.ring.qlow n e).2; omega)), .inr ⟨hn, by omega⟩, by omega, fun e => ?_⟩), pairwise_push h.apart fun x hx e => ?_⟩
  · rcases hq1.new with h1 | h1
    · exact .inl (h.oq b (h1 ▸ hb))
    · exact .inr ⟨Nat.le_trans x1.size (h1 b hb), (hr.qlow b hb).2⟩
  · rcases hq1.new with h1 | h1
    · have := (h.ring.qlow n (h1 ▸ e)).2; omega
    · have := h1 n e; omega
  · obtain ⟨y, _, b, e1, _, e3, _⟩ := h.all.mem x hx
    rw [e1] at e
    have e' : b = n := by simpa using e
    have := e3.lt
    omega
theorem RowAt.cut {w w2 : World} {own : Nat → Prop} {g room k : Nat} {vs : List BV} {q q' : Option Nat} {l : List ByteArray} (h : Row w own g room vs q l) (hq1 : RStep g q q' w w2)
    (hr : RAt 147 w2 0 g q' room (vs.eraseIdx k)) : RowAt w2 (Own' own w w2) g room (l.eraseIdx k) := by
  refine ⟨_, q', hr, .inl h.og, fun b hb => ?_, (h.all.eraseIdx k).mono (fun v s hv => hv.step hq1 (fun k hk => .inl hk)), h.apart.sublist (List.eraseIdx_sublist ..)⟩
  rcases hq1.new with h1 | h1
  · exact .inl (h.oq b (h1 ▸ hb))
  · exact .inr ⟨h1 b hb, (hr.qlow b hb).2⟩
theorem RowAt.turn {w : World} {own : Nat → Prop} {g room k b j X : Nat} {vs : List BV} {q : Option Nat} {l : List ByteArray} {s : ByteArray} {v : BV} (h : Row w own g room vs q l) (hv : vs[k]? = some v) (hs : l[k]? = some s) (hb : v.ao = some ⟨b, 0, none⟩)
    (hj : j < s.size) (s' : ByteArray) (hs' : bl s' = (bl s).set j X) : RowAt (w.setCell ⟨b, j, none⟩ (.int .u8 X)) own g room (l.set k s') := by
  obtain ⟨b', e1, e2, e3, e4, e5, e6⟩ := h.all.get hv hs
  have hbb : b' = b := by rw [e1] at hb; simpa using hb
  subst hbb
  have hoth : ∀ c, c ≠ b' → (w.setCell ⟨b', j, none⟩ (.int .u8 X)).heap[c]? = w.heap[c]? := fun c hc => set_other _ _ _ _ hc
  have hnew : Byt (w.setCell ⟨b', j, none⟩ (.int .u8 X)) b' (bl s') := by rw [hs']; exact e3.set j X (by rw [bl_length]; exact hj)
  have hsz : s'.size = s.size := by
    have := congrArg List.length hs'
    rwa [List.length_set, bl_length, bl_length] at this
  refine ⟨vs, q, h.ring.keep (hoth g (Ne.symm e5)) (fun c hc => hoth c (fun e => e6 (e ▸ hc))), h.og, h.oq, ?_, h.apart⟩
  have main : ∀ {vs : List BV} {l : List ByteArray} {k : Nat}, All2 (BytAt w own g q) vs l → vs.Pairwise (fun x y => x.ao ≠ y.ao) → vs[k]? = some v → l[k]? = some s → All2 (BytAt (w.setCell ⟨b', j, none⟩ (.int .u8 X)) own g q) vs (l.set k s') := by
    intro vs l k hall
    induction hall generalizing k with
    | nil => intro _ h; simp at h
    | @cons x y xs ys hr hall ih =>
      intro hp hvk hsk
      have hp' := List.pairwise_cons.1 hp
      cases k with
      | zero =>
        simp at hvk hsk
        subst hvk hsk
        refine .cons ⟨b', e1, e2.trans hsz.symm, hnew, e4, e5, e6⟩ ?_
        have hrest : ∀ {xs : List BV} {ys : List ByteArray}, All2 (BytAt w own g q) xs ys → (∀ z ∈ xs, x.ao ≠ z.ao) → All2 (BytAt (w.setCell ⟨b', j, none⟩ (.int .u8 X)) own g q) xs ys := by
          intro xs ys hall
          induction hall with
          | nil => intro _; exact .nil
          | @cons z t _ _ hr _ ih =>
            intro hne
            refine .cons ?_ (ih fun z hz => hne z (List.mem_cons_of_mem _ hz))
            obtain ⟨c, f1, f2, f3, f4⟩ := hr
            refine ⟨c, f1, f2, f3.keep (hoth c fun e => ?_), f4⟩
            exact hne z (List.mem_cons_self ..) (by rw [e1, f1, e])
        exact hrest hall hp'.1
      | succ k =>
        simp at hvk hsk
        refine .cons ?_ (ih hp'.2 hvk hsk)
        obtain ⟨c, f1, f2, f3, f4⟩ := hr
        refine ⟨c, f1, f2, f3.keep (hoth c fun e => ?_), f4⟩
        exact hp'.1 v (List.mem_of_getElem? hvk) (by rw [e1, f1, e])
  exact main h.all h.apart hv hs
structure NA (w : World) (p : Nat) (S : NetS) (F : Nat → Prop) (m : Nat) (D : DataW Unit) (G : Int → Int → Nat) (O : Nat → Option (Int × Int)) : Prop where
  ok : S.Ok
  blk : w.heap[p]? = some (.cells #[.map (some m)] 118 (0, 0))
  map : w.ownsMap Tryz.prog 116 rb m 5000 D
  tells : ∀ a b, In64 a → In64 b → ∀ zd, D.atKey (klit a b) zd = if S.two a b = true then .lit (.int .i64 (G a b : Int)) else zd
  fp : F p
  fm : F m
  op : ∀ a b, O p ≠ some (a, b)
  om : ∀ a b, O m ≠ some (a, b)
  own : ∀ k a b, O k = some (a, b) → F k
  low : ∀ k, F k → k < w.heap.size
  rows : ∀ a b, S.two a b = true → RowAt w (fun k => O k = some (a, b)) (G a b) S.room (S.f a b)
def NAt (w : World) (p : Nat) (S : NetS) (F : Nat → Prop) : Prop := ∃ m D G O, NA w p S F m D G O
theorem NAt.ok {w : World} {p : Nat} {S : NetS} {F : Nat → Prop} (h : NAt w p S F) : S.Ok := by obtain ⟨_, _, _, _, h⟩ := h; exact h.ok
theorem NAt.low {w : World} {p : Nat} {S : NetS} {F : Nat → Prop} (h : NAt w p S F) : ∀ k, F k → k < w.heap.size := by obtain ⟨_, _, _, _, h⟩ := h; exact h.low
theorem map_keep {w w' : World} {m n : Nat} {D : DataW Unit} (h : w.ownsMap Tryz.prog 116 rb m n D) (hb : w'.heap[m]? = w.heap[m]?) : w'.ownsMap Tryz.prog 116 rb m n D := by
  obtain ⟨es, clock, h1, r⟩ := h
  exact ⟨es, clock, hb.trans h1, r⟩
theorem NA.off {w w' : World} {p : Nat} {S : NetS} {F H : Nat → Prop} {m : Nat} {D : DataW Unit} {G : Int → Int → Nat} {O : Nat → Option (Int × Int)} (h : NA w p S F m D G O) (o : Off H w w') (hg : ∀ k, F k → ¬ H k) : NA w' p S F m D G O := by
  have hk : ∀ k, F k → w'.heap[k]? = w.heap[k]? := fun k hk => o.block k (h.low k hk) (hg k hk)
  exact ⟨h.ok, (hk p h.fp).trans h.blk, map_keep h.map (hk m h.fm), h.tells, h.fp, h.fm, h.op, h.om, h.own, fun k hk => Nat.lt_of_lt_of_le (h.low k hk) o.size, fun a b h2 => (h.rows a b h2).to (fun k ho _ => hk k (h.own k a b ho)) (fun _ ho => ho)⟩
theorem NAt.off {w w' : World} {p : Nat} {S : NetS} {F G : Nat → Prop} (h : NAt w p S F) (o : Off G w w') (hg : ∀ k, F k → ¬ G k) : NAt w' p S F := by
  obtain ⟨m, D, K, O, h⟩ := h
  exact ⟨m, D, K, O, h.off o hg⟩
def Moves (p : Nat) (S' : NetS) (F : Nat → Prop) (r : Value) (w : World) (e : Ending) (w' : World) : Prop := ∃ F', e = .returned r ∧ NAt w' p S' F' ∧ Off F w w' ∧ Grows F F' w

section
variable {w w' : World} {p : Nat} {S : NetS} {F : Nat → Prop} {m : Nat} {D : DataW Unit} {G : Int → Int → Nat} {O : Nat → Option (Int × Int)}
theorem NA.same (h : NA w p S F m D G O) (x : Ext w w') (r : Value) : Moves p S F r w (.returned r) w' :=
  ⟨F, rfl, ⟨m, D, G, O, h.off (Off.of_ext (F := fun _ => False) x) (fun _ _ hf => hf)⟩, Off.of_ext x, Grows.refl _ _⟩
theorem NA.put (h : NA w p S F m D G O) {a b : Int} (h2 : S.two a b = true) {l : List ByteArray} (hS : (S.put a b l).Ok) (hos : w'.os = w.os) (htape : w'.tape = w.tape) (hout : w'.output = w.output) (hsz : w.heap.size ≤ w'.heap.size)
    (hblk : ∀ k, k < w.heap.size → O k ≠ some (a, b) → w'.heap[k]? = w.heap[k]?) (row : RowAt w' (Own' (fun k => O k = some (a, b)) w w') (G a b) S.room l) (r : Value) : Moves p (S.put a b l) F r w (.returned r) w' := by
  refine ⟨Own' F w w', rfl, ⟨m, D, G, fun k => if k < w.heap.size then O k else if k < w'.heap.size then some (a, b) else none, hS, (hblk p (h.low p h.fp) (h.op a b)).trans h.blk, map_keep h.map (hblk m (h.low m h.fm) (h.om a b)), h.tells, .inl h.fp, .inl h.fm, fun x y => ?_, fun x y => ?_, fun k x y hk => ?_, fun k hk => ?_, fun x y hxy => ?_⟩, ⟨hos, htape, hout, hsz, fun k hk hf => hblk k hk fun ho => hf (h.own k a b ho)⟩, fun k hk => ?_⟩
  · rw [if_pos (h.low p h.fp)]
    exact h.op x y
  · rw [if_pos (h.low m h.fm)]
    exact h.om x y
  · split at hk
    · exact .inl (h.own k x y hk)
    · split at hk
      · exact .inr ⟨by omega, by assumption⟩
      · cases hk
  · rcases hk with hk | hk
    · exact Nat.lt_of_lt_of_le (h.low k hk) hsz
    · exact hk.2
  · by_cases e : x = a ∧ y = b
    · obtain ⟨rfl, rfl⟩ := e
      have e1 : (S.put x y l).f x y = l := by simp [NetS.put]
      rw [e1]
      refine row.to (fun k _ _ => rfl) (fun k hk => ?_)
      rcases hk with hk | hk
      · rw [if_pos (h.low k (h.own k x y hk))]
        exact hk
      · rw [if_neg (by omega), if_pos hk.2]
    · have e1 : (S.put a b l).f x y = S.f x y := by simp [NetS.put, e]
      rw [e1]
      refine (h.rows x y hxy).to (fun k hk hlt => hblk k hlt (fun e' => e ?_)) (fun k hk => ?_)
      · rw [hk] at e'
        simpa using e'
      · rw [if_pos (h.low k (h.own k x y hk))]
        exact hk
  · rcases hk with hk | hk
    · exact .inl hk
    · exact .inr hk.1
end
end Go.Proofs.YtlakolkpfkakoaaGreatDoor

/- What the program's nets answer, and what they mean then: all but making one, turning a bit, and asking whether all is quiet. -/
namespace Go.Proofs.YtlakolkpfkakoaaGreatDoor
open Go.RowKit Go.Maps

section
variable {w w' : World} {p : Nat} {S : NetS} {F : Nat → Prop} {m : Nat} {D : DataW Unit} {G : Int → Int → Nat} {O : Nat → Option (Int × Int)}

theorem two_in {S : NetS} (ok : S.Ok) {a b : Int} (h : S.two a b = true) : In64 a ∧ In64 b := by
  have := ok.nodes
  simp only [NetS.two, Bool.and_eq_true, decide_eq_true_eq] at h
  unfold In64
  omega

theorem between_yes (h : NA w p S F m D G O) (a b : Int) (h2 : S.two a b = true) :
    Calls Tryz.prog 69 #[.pointer (some ⟨p, 0, none⟩), .int .i64 a, .int .i64 b] w fun e w' => e = .returned (.pointer (some ⟨G a b, 0, none⟩)) ∧ w = w' := by
  obtain ⟨ha, hb⟩ := two_in h.ok h2
  have c0 := blk_cell h.blk 0 rfl
  have hrun : (Instr.lookup 111 (.map (some m)) (.agg #[.int .i64 a, .int .i64 b]) true).run Tryz.prog w = .ok (.tuple #[.pointer (some ⟨G a b, 0, none⟩), .bool true]) w := by
    rcases look_way h.map a b with ⟨g, hg, _, _, ht⟩ | ⟨_, hz⟩
    · have h1 := ht (.lit (.bool true))
      rw [h.tells a b ha hb, if_pos h2] at h1
      have h2 : (G a b : Int) = (g : Int) := by simpa using h1
      have : G a b = g := by omega
      rw [this]
      exact hg
    · exfalso
      have h1 := hz ha hb (.lit (.bool true))
      rw [h.tells a b ha hb, if_pos h2] at h1
      simp at h1
  clear h h2 ha hb
  go_enter Tryz.func69, Tryz.ntmps69
  go_wp2
  go_ret
  exact ⟨rfl, rfl⟩

theorem between_no (h : NA w p S F m D G O) (a b : Int) (h2 : S.two a b = false) :
    Calls Tryz.prog 69 #[.pointer (some ⟨p, 0, none⟩), .int .i64 a, .int .i64 b] w fun e w' => e = .returned (.pointer (some ⟨w.heap.size, 0, none⟩)) ∧ RAt 147 w' 0 w.heap.size none 0 ([] : List BV) ∧ Ext w w' := by
  have c0 := blk_cell h.blk 0 rfl
  have hrun : (Instr.lookup 111 (.map (some m)) (.agg #[.int .i64 a, .int .i64 b]) true).run Tryz.prog w = .ok (.tuple #[.pointer none, .bool false]) w := by
    rcases look_way h.map a b with ⟨g, hg, ha, hb, ht⟩ | ⟨hg, _⟩
    · exfalso
      have h1 := ht (.lit (.bool true))
      rw [h.tells a b ha hb, if_neg (by rw [h2]; simp)] at h1
      simp at h1
    · exact hg
  clear h h2
  go_enter Tryz.func69, Tryz.ntmps69
  go_wp2_with fail
  refine (new_b 0 0 w (Nat.zero_le _)).mono ?_
  rintro e w1 ⟨rfl, hr, hx⟩
  have HR := Lib.hid hr
  have HX := Lib.hid hx
  clear hr hx
  go_wp2
  go_ret
  exact ⟨rfl, HR.out, HX.out⟩
theorem at_row {w : World} {own : Nat → Prop} {g room : Nat} {vs : List BV} {q : Option Nat} {l : List ByteArray} (R : Row w own g room vs q l) {k : Int} (h0 : 0 ≤ k) (h1 : k < (l.length : Int)) :
    ∃ (v : BV) (b : Nat) (s : ByteArray), vs[k.toNat]? = some v ∧ l[k.toNat]? = some s ∧ l.getD k.toNat ⟨#[]⟩ = s ∧ v = ⟨some ⟨b, 0, none⟩, s.size, v.c⟩ ∧ Byt w b (bl s) ∧ own b ∧
      (convert 114 9 (.slice (some ⟨b, 0, none⟩) s.size v.c)).run Tryz.prog w = .ok (.string s) w := by
  have hl := R.all.length
  have hk : k.toNat < l.length := by omega
  have hk2 : k.toNat < vs.length := by omega
  have e1 : vs[k.toNat]? = some (vs[k.toNat]) := List.getElem?_eq_getElem hk2
  have e2 : l[k.toNat]? = some (l[k.toNat]) := List.getElem?_eq_getElem hk
  obtain ⟨b, f1, f2, f3, f4, _⟩ := R.all.get e1 e2
  refine ⟨_, b, _, e1, e2, by simp [hk], ?_, f3, f4, ?_⟩
  · cases hv : vs[k.toNat]
    rw [hv] at f1 f2
    simp only at f1 f2
    rw [f1, f2]
  · have := f3.text l[k.toNat].size vs[k.toNat].c (bl_length _)
    rw [this, textN_bl]
theorem nil_text {w : World} : (convert 114 9 (.slice none 0 0)).run Tryz.prog w = .ok (.string ⟨#[]⟩) w := by
  kernel_rfl

theorem pLook (h0 : NAt w p S F) (a b k : Int) :
    Calls Tryz.prog 60 #[.pointer (some ⟨p, 0, none⟩), .int .i64 a, .int .i64 b, .int .i64 k] w (Moves p S F (.tuple #[.string (S.look a b k), .bool (S.there a b k)]) w) := by
  obtain ⟨m, D, G, O, h⟩ := h0
  have H := Lib.hid h
  by_cases h2 : S.two a b = true
  · obtain ⟨vs, q, R⟩ := h.rows a b h2
    have HB := Lib.hid (between_yes h a b h2)
    by_cases ht : S.there a b k = true
    · obtain ⟨hk0, hk1⟩ := there_iff.1 ht
      obtain ⟨v, g, s, hv, hs, hd, rfl', hb, _, hcv⟩ := at_row R hk0 hk1
      unfold NetS.look
      rw [if_pos ht, hd, ht]
      have HA := Lib.hid (at_yes_b R.ring k hk0 (by rw [R.all.length]; exact hk1) v hv)
      rw [rfl'] at HA
      have HC := Lib.hid hcv
      clear h R h2 ht hk0 hk1 hv hs hd rfl' hb hcv
      go_enter Tryz.func60, Tryz.ntmps60
      go_wp2_with fail
      refine HB.out.mono ?_
      rintro e w1 ⟨rfl, rfl⟩
      go_wp2_with fail
      refine HA.out.mono ?_
      rintro e w1 ⟨rfl, rfl⟩
      have hcv := HC.out
      go_wp2
      go_ret2
      exact H.out.same (Ext.refl _) _
    · have hl := R.all.length
      have hk : k < 0 ∨ (vs.length : Int) ≤ k := by
        rw [there_iff] at ht
        omega
      unfold NetS.look
      rw [if_neg ht, show S.there a b k = false from by simpa using ht]
      have HA := Lib.hid (at_no_b R.ring k hk)
      clear h R h2 ht hl hk
      have hcv := nil_text (w := w)
      go_enter Tryz.func60, Tryz.ntmps60
      go_wp2_with fail
      refine HB.out.mono ?_
      rintro e w1 ⟨rfl, rfl⟩
      go_wp2_with fail
      refine HA.out.mono ?_
      rintro e w1 ⟨rfl, rfl⟩
      go_wp2
      go_ret2
      exact H.out.same (Ext.refl _) _
  · have h2 : S.two a b = false := by simpa using h2
    have HE := h.ok.none a b h2
    have HB := Lib.hid (between_no h a b h2)
    have ht : S.there a b k = false := by
      unfold NetS.there
      rw [HE]
      simp
    unfold NetS.look
    rw [if_neg (by rw [ht]; simp), ht]
    clear h h2 HE ht
    go_enter Tryz.func60, Tryz.ntmps60
    go_wp2_with fail
    refine HB.out.mono ?_
    rintro e w1 ⟨rfl, hr, hx⟩
    have HX := Lib.hid hx
    clear hx
    go_wp2_with fail
    refine (at_no_b hr k (by simp; omega)).mono ?_
    rintro e w2 ⟨rfl, rfl⟩
    clear hr
    have hcv := nil_text (w := w1)
    go_wp2
    go_ret2
    exact H.out.same HX.out _

theorem may_two {S : NetS} {a b : Int} (h : S.two a b = true) : S.may a b = decide ((S.f a b).length < S.room) := by unfold NetS.may; rw [h, Bool.true_and]
theorem may_no {S : NetS} {a b : Int} (h : S.two a b = false) : S.may a b = false := by unfold NetS.may; rw [h, Bool.false_and]

theorem pSend (h0 : NAt w p S F) (a b : Int) (s : ByteArray) (hs : s.size ≤ 1000) :
    Calls Tryz.prog 40 #[.pointer (some ⟨p, 0, none⟩), .int .i64 a, .int .i64 b, .string s] w (Moves p (S.send a b s) F (.bool (S.may a b)) w) := by
  obtain ⟨m, D, G, O, h⟩ := h0
  have H := Lib.hid h
  have hbytes := bytes_of (s := s)
  by_cases h2 : S.two a b = true
  · obtain ⟨vs, q, R⟩ := h.rows a b h2
    have HB := Lib.hid (between_yes h a b h2)
    have hl := R.all.length
    have HR := Lib.hid R
    have H2 := Lib.hid h2
    by_cases hm : (S.f a b).length < S.room
    · have hm2 : S.may a b = true := by rw [may_two h2]; simpa using hm
      unfold NetS.send
      rw [if_pos hm2, hm2]
      have HOk := Lib.hid (h.ok.put h2 (l := S.f a b ++ [s]) (by simp; omega) (fun t ht => by
        rcases List.mem_append.1 ht with ht | ht
        · exact h.ok.short a b t ht
        · rw [List.mem_singleton] at ht; subst ht; exact hs))
      have HL := Lib.hid (show vs.length < S.room by omega)
      clear h R h2 hl hm hm2 hs
      go_enter Tryz.func40, Tryz.ntmps40
      go_wp2_with fail
      refine HB.out.mono ?_
      rintro e w1 ⟨rfl, rfl⟩
      go_wp2_with fail
      refine (push_yes_b (HR.out.ring.ext (newB_ext w s)) (Nat.zero_le _) ⟨some ⟨w.heap.size, 0, none⟩, s.size, capB w s⟩ HL.out).mono ?_
      rintro e w2 ⟨rfl, q', hr, hq⟩
      have HR2 := Lib.hid hr
      have HQ := Lib.hid hq
      clear hr hq
      go_wp2
      go_ret
      have hq := HQ.out
      have x := newB_ext w s
      refine H.out.put H2.out HOk.out (hq.os.trans x.os) (hq.tape.trans x.tape) (hq.output.trans x.output) (Nat.le_trans x.size hq.size) (fun k hk ho => ?_) (RowAt.push HR.out x (Nat.le_refl _) (newB_byt w s) hq HR2.out) _
      exact (hq.block k (Nat.lt_of_lt_of_le hk x.size) (fun e => ho (e ▸ HR.out.og)) (fun e => ho (HR.out.oq k e))).trans (x.block k hk)
    · have hm2 : S.may a b = false := by rw [may_two h2]; simpa using hm
      unfold NetS.send
      rw [if_neg (by rw [hm2]; simp), hm2]
      have HL := Lib.hid (show S.room ≤ vs.length by omega)
      clear h R h2 hl hm hm2 hs
      go_enter Tryz.func40, Tryz.ntmps40
      go_wp2_with fail
      refine HB.out.mono ?_
      rintro e w1 ⟨rfl, rfl⟩
      go_wp2_with fail
      refine (push_no_b (HR.out.ring.ext (newB_ext w s)) ⟨some ⟨w.heap.size, 0, none⟩, s.size, capB w s⟩ HL.out).mono ?_
      rintro e w2 ⟨rfl, hq⟩
      have HQ := Lib.hid hq
      clear hq
      go_wp2
      go_ret
      obtain ⟨n, rfl⟩ := HQ.out
      exact H.out.same (Ext.drewN (newB_ext w s) _) _
  · have h2 : S.two a b = false := by simpa using h2
    have hm2 := may_no h2
    have HB := Lib.hid (between_no h a b h2)
    unfold NetS.send
    rw [if_neg (by rw [hm2]; simp), hm2]
    clear h h2 hm2 hs
    go_enter Tryz.func40, Tryz.ntmps40
    go_wp2_with fail
    refine HB.out.mono ?_
    rintro e w1 ⟨rfl, hr, hx⟩
    have HX := Lib.hid hx
    have HR := Lib.hid hr
    clear hx hr
    go_wp2_with fail
    refine (push_no_b (HR.out.ext (newB_ext w1 s)) ⟨some ⟨w1.heap.size, 0, none⟩, s.size, capB w1 s⟩ (Nat.zero_le _)).mono ?_
    rintro e w2 ⟨rfl, hq⟩
    have HQ := Lib.hid hq
    clear hq
    go_wp2
    go_ret
    obtain ⟨n, rfl⟩ := HQ.out
    exact H.out.same (Ext.trans HX.out (Ext.drewN (newB_ext w1 s) _)) _

theorem pDeliver (h0 : NAt w p S F) (a b k : Int) :
    Calls Tryz.prog 48 #[.pointer (some ⟨p, 0, none⟩), .int .i64 a, .int .i64 b, .int .i64 k] w (Moves p (S.deliver a b k) F (.tuple #[.string (S.look a b k), .bool (S.there a b k)]) w) := by
  obtain ⟨m, D, G, O, h⟩ := h0
  have H := Lib.hid h
  by_cases h2 : S.two a b = true
  · obtain ⟨vs, q, R⟩ := h.rows a b h2
    have HB := Lib.hid (between_yes h a b h2)
    by_cases ht : S.there a b k = true
    · obtain ⟨hk0, hk1⟩ := there_iff.1 ht
      obtain ⟨v, g, s, hv, hs, hd, rfl', hb, ho, _⟩ := at_row R hk0 hk1
      unfold NetS.look NetS.deliver
      rw [if_pos ht, if_pos ht, hd, ht]
      have HA := cut_yes_b R.ring k.toNat v hv
      rw [rfl', show ((k.toNat : Nat) : Int) = k from by omega] at HA
      replace HA := Lib.hid HA
      have HR := Lib.hid R
      have H2 := Lib.hid h2
      have HY := Lib.hid hb
      have HOk := Lib.hid (h.ok.put h2 (l := (S.f a b).eraseIdx k.toNat) (Nat.le_trans (List.length_eraseIdx_le ..) (h.ok.few a b)) (fun t ht => h.ok.short a b t (List.mem_of_mem_eraseIdx ht)))
      have HN : Hid (¬ (g = G a b) ∧ q ≠ some g) := Lib.hid (by
        obtain ⟨b', e1, _, _, _, e5, e6⟩ := R.all.get hv hs
        rw [rfl'] at e1
        have : g = b' := by simpa using e1
        subst this
        exact ⟨e5, e6⟩)
      clear h R h2 ht hk0 hk1 hs hd hb ho hv rfl'
      go_enter Tryz.func48, Tryz.ntmps48
      go_wp2_with fail
      refine HB.out.mono ?_
      rintro e w1 ⟨rfl, rfl⟩
      go_wp2_with fail
      refine HA.out.mono ?_
      rintro e w2 ⟨rfl, q', hr, hq⟩
      have hcv := (HY.out.keep (hq.block g HY.out.lt HN.out.1 HN.out.2)).text s.size v.c (bl_length _)
      rw [textN_bl] at hcv
      have HR2 := Lib.hid hr
      have HQ := Lib.hid hq
      clear hr hq
      go_wp2
      go_ret2
      have hq := HQ.out
      exact H.out.put H2.out HOk.out hq.os hq.tape hq.output hq.size (fun k hk ho => hq.block k hk (fun e => ho (e ▸ HR.out.og)) (fun e => ho (HR.out.oq k e))) (RowAt.cut HR.out hq HR2.out) _
    · have hl := R.all.length
      have hk : k < 0 ∨ (vs.length : Int) ≤ k := by
        rw [there_iff] at ht
        omega
      unfold NetS.look NetS.deliver
      rw [if_neg ht, if_neg ht, show S.there a b k = false from by simpa using ht]
      have HA := Lib.hid (cut_no_b R.ring k hk)
      clear h R h2 ht hl hk
      have hcv := nil_text (w := w)
      go_enter Tryz.func48, Tryz.ntmps48
      go_wp2_with fail
      refine HB.out.mono ?_
      rintro e w1 ⟨rfl, rfl⟩
      go_wp2_with fail
      refine HA.out.mono ?_
      rintro e w1 ⟨rfl, rfl⟩
      go_wp2
      go_ret2
      exact H.out.same (Ext.refl _) _
  · have h2 : S.two a b = false := by simpa using h2
    have HE := h.ok.none a b h2
    have HB := Lib.hid (between_no h a b h2)
    have ht : S.there a b k = false := by
      unfold NetS.there
      rw [HE]
      simp
    unfold NetS.look NetS.deliver
    rw [if_neg (by rw [ht]; simp), if_neg (by rw [ht]; simp), ht]
    clear h h2 HE ht
    go_enter Tryz.func48, Tryz.ntmps48
    go_wp2_with fail
    refine HB.out.mono ?_
    rintro e w1 ⟨rfl, hr, hx⟩
    have HX := Lib.hid hx
    clear hx
    go_wp2_with fail
    refine (cut_no_b hr k (by simp; omega)).mono ?_
    rintro e w2 ⟨rfl, rfl⟩
    clear hr
    have hcv := nil_text (w := w1)
    go_wp2
    go_ret2
    exact H.out.same HX.out _

theorem short_look {S : NetS} (ok : S.Ok) (a b k : Int) : (S.look a b k).size ≤ 1000 := by
  unfold NetS.look
  split
  · rename_i h
    obtain ⟨h0, h1⟩ := there_iff.1 h
    have hk : k.toNat < (S.f a b).length := by omega
    have : (S.f a b).getD k.toNat ⟨#[]⟩ ∈ S.f a b := by simp [hk]
    exact ok.short a b _ this
  · decide

theorem pDouble (h : NAt w p S F) (a b k : Int) :
    Calls Tryz.prog 55 #[.pointer (some ⟨p, 0, none⟩), .int .i64 a, .int .i64 b, .int .i64 k] w (Moves p (S.double a b k) F (.bool (S.canD a b k)) w) := by
  have HS := Lib.hid (short_look h.ok a b k)
  have HL := Lib.hid (pLook h a b k)
  unfold NetS.double NetS.canD
  by_cases ht : S.there a b k = true
  · rw [if_pos ht, ht, Bool.true_and]
    rw [ht] at HL
    clear h ht
    go_enter Tryz.func55, Tryz.ntmps55
    go_wp2_with fail
    refine HL.out.mono ?_
    rintro e w1 ⟨F1, rfl, n1, o1, g1⟩
    have HO1 := Lib.hid o1
    have HG1 := Lib.hid g1
    have HP := Lib.hid (pSend n1 a b (S.look a b k) HS.out)
    clear o1 g1 n1
    go_wp2_with fail
    refine HP.out.mono ?_
    rintro e w2 ⟨F2, rfl, n2, o2, g2⟩
    have HN2 := Lib.hid n2
    have HO2 := Lib.hid o2
    have HG2 := Lib.hid g2
    clear n2 o2 g2
    go_wp2
    go_ret
    exact ⟨F2, rfl, HN2.out, HO1.out.trans HO2.out HG1.out, HG1.out.trans HG2.out HO1.out.size⟩
  · rw [if_neg ht, show S.there a b k = false from by simpa using ht, Bool.false_and]
    rw [show S.there a b k = false from by simpa using ht] at HL
    clear h ht
    go_enter Tryz.func55, Tryz.ntmps55
    go_wp2_with fail
    refine HL.out.mono ?_
    rintro e w1 ⟨F1, rfl, n1, o1, g1⟩
    have HN1 := Lib.hid n1
    have HO1 := Lib.hid o1
    have HG1 := Lib.hid g1
    clear o1 g1 n1
    go_wp2
    go_ret
    exact ⟨F1, rfl, HN1.out, HO1.out, HG1.out⟩
end
end Go.Proofs.YtlakolkpfkakoaaGreatDoor

/- What the program's nets answer: a bit turned. -/
namespace Go.Proofs.YtlakolkpfkakoaaGreatDoor
open Go.RowKit Go.Maps

theorem bitPlace_any (w : World) (s : ByteArray) (bit : Int) (hb : -9223372036854775808 ≤ bit) (hb2 : bit ≤ 9223372036854775807) (hs : 0 < s.size) (hl : s.size ≤ 1000) :
    Calls Tryz.prog 84 #[.int .i64 bit, .int .i64 (8 * (s.size : Int))] w fun e w' => e = .returned (.int .i64 (turnAt s bit : Int)) ∧ w = w' := by
  by_cases h2 : bit = -9223372036854775808
  · have hy := turnAt_of (s := s) (bit := bit) (y := 0) hb (by rw [if_pos (by omega), if_pos h2])
    have h0 : turnAt s bit = 0 := by rw [Int.zero_tmod] at hy; omega
    rw [h0]
    subst h2
    clear hy h0
    go_enter Tryz.func84, Tryz.ntmps84
    go_wp2
    go_ret
    exact ⟨rfl, rfl⟩
  · have h1 : (bit == -9223372036854775808) = false := beq_eq_false_iff_ne.2 h2
    have hw : IntKind.i64.wrap (-bit) = -bit := by
      simp [IntKind.wrap, IntKind.signed, IntKind.bits]
      omega
    obtain ⟨y, hY⟩ : ∃ y, y = (if bit < 0 then -bit else bit) := ⟨_, rfl⟩
    have hm : max bit (-bit) = y := by
      rw [hY]
      split <;> omega
    have hy0 : 0 ≤ y := by rw [hY]; split <;> omega
    have hy := turnAt_of (s := s) (bit := bit) (y := y) hb (by rw [hY]; by_cases h3 : bit < 0; (rw [if_pos h3, if_pos h3, if_neg h2]); rw [if_neg h3, if_neg h3])
    have hpos : ¬ (8 * (s.size : Int)) = 0 := by omega
    have hy2 : y % (8 * (s.size : Int)) = (turnAt s bit : Int) := by rw [← hy, Int.tmod_eq_emod_of_nonneg hy0]
    obtain ⟨T, hT⟩ : ∃ T, T = turnAt s bit := ⟨_, rfl⟩
    rw [← hT] at hy hy2 ⊢
    clear hT hY
    obtain ⟨Z, hZ⟩ : ∃ Z, Z = 8 * (s.size : Int) := ⟨_, rfl⟩
    rw [← hZ] at hy hy2 hpos ⊢
    clear hZ hs hl h2
    go_enter Tryz.func84, Tryz.ntmps84
    go_wp2
    go_ret
    exact ⟨rfl, rfl⟩

section
variable {w : World} {p : Nat} {S : NetS} {F : Nat → Prop}
set_option maxHeartbeats 800000 in
theorem pFlip (h0 : NAt w p S F) (a b k bit : Int) (hb : -9223372036854775808 ≤ bit) (hb2 : bit ≤ 9223372036854775807) :
    Calls Tryz.prog 57 #[.pointer (some ⟨p, 0, none⟩), .int .i64 a, .int .i64 b, .int .i64 k, .int .i64 bit] w (Moves p (S.flip a b k bit) F (.bool (S.canF a b k)) w) := by
  obtain ⟨m, D, G, O, h⟩ := h0
  have H := Lib.hid h
  by_cases h2 : S.two a b = true
  · obtain ⟨vs, q, R⟩ := h.rows a b h2
    have HB := Lib.hid (between_yes h a b h2)
    by_cases ht : S.there a b k = true
    · obtain ⟨hk0, hk1⟩ := there_iff.1 ht
      obtain ⟨v, g, s, hv, hs, hd, rfl', hy, ho, hcv⟩ := at_row R hk0 hk1
      clear hcv
      have HA := Lib.hid (at_yes_b R.ring k hk0 (by rw [R.all.length]; exact hk1) v hv)
      rw [rfl'] at HA
      have hlook : S.look a b k = s := by unfold NetS.look; rw [if_pos ht, hd]
      have hshort := short_look h.ok a b k
      unfold NetS.flip
      by_cases hz : s.size = 0
      · have hc : S.canF a b k = false := by unfold NetS.canF; rw [ht, hlook, decide_eq_true hz]; rfl
        rw [if_neg (by rw [hc]; simp), hc]
        rw [hz] at HA
        clear h R h2 ht hk0 hk1 hv hs hd rfl' hy ho hlook hshort hz hc hb hb2
        go_enter Tryz.func57, Tryz.ntmps57
        go_wp2_with fail
        refine HB.out.mono ?_
        rintro e w1 ⟨rfl, rfl⟩
        go_wp2_with fail
        refine HA.out.mono ?_
        rintro e w1 ⟨rfl, rfl⟩
        go_wp2
        go_ret
        exact H.out.same (Ext.refl _) _
      · have hc : S.canF a b k = true := by unfold NetS.canF; rw [ht, hlook, decide_eq_false hz]; rfl
        rw [if_pos hc, hc, hlook]
        rw [hlook] at hshort
        have hD := turnAt_lt (s := s) (bit := bit) (by omega)
        have HP := Lib.hid (fun W => bitPlace_any W s bit hb hb2 (by omega) hshort)
        have hlt : turnAt s bit / 8 < (bl s).length := by rw [bl_length]; omega
        have k1 := hy.cell _ hlt
        have k2 := hy.free _ hlt
        have hB : (bl s).getD (turnAt s bit / 8) 0 < 256 := bl_lt s _ (by simp [hlt])
        have hD8 : turnAt s bit % 8 < 8 := Nat.mod_lt _ (by decide)
        have h7 : 2 ^ (turnAt s bit % 8) ≤ 2 ^ 7 := Nat.pow_le_pow_right (by decide) (by omega)
        have hX : (bl s).getD (turnAt s bit / 8) 0 ^^^ 2 ^ (turnAt s bit % 8) < 256 := Nat.xor_lt_two_pow (n := 8) hB (by omega)
        have h8 : (2 : Int) ^ (turnAt s bit % 8) % 256 = ((2 ^ (turnAt s bit % 8) : Nat) : Int) := by
          have h9 : ((2 ^ (turnAt s bit % 8) : Nat) : Int) = (2 : Int) ^ (turnAt s bit % 8) := by rw [Int.natCast_pow]; rfl
          have h10 : (0 : Int) ≤ ((2 ^ (turnAt s bit % 8) : Nat) : Int) := Int.natCast_nonneg _
          rw [← h9]
          omega
        have k3 : bits .xor .u8 (((bl s).getD (turnAt s bit / 8) 0 : Nat) : Int) ((2 : Int) ^ (turnAt s bit % 8) % 256) = (((bl s).getD (turnAt s bit / 8) 0 ^^^ 2 ^ (turnAt s bit % 8) : Nat) : Int) := by
          rw [h8]
          exact u8_xor_nat _ _ hB (by omega)
        have HT := Lib.hid (show bl (turned s bit) = (bl s).set (turnAt s bit / 8) ((bl s).getD (turnAt s bit / 8) 0 ^^^ 2 ^ (turnAt s bit % 8)) from by
          unfold turned
          refine bl_textN fun x hx => ?_
          rcases List.mem_or_eq_of_mem_set hx with hx | rfl
          · exact bl_lt s x hx
          · exact hX)
        have hts : (turned s bit).size = s.size := by
          have := congrArg List.length HT.out
          rwa [List.length_set, bl_length, bl_length] at this
        have HOk := Lib.hid (h.ok.put h2 (l := (S.f a b).set k.toNat (turned s bit)) (by rw [List.length_set]; exact h.ok.few a b) (fun t ht => by
          rcases List.mem_or_eq_of_mem_set ht with ht | rfl
          · exact h.ok.short a b t ht
          · rw [hts]; exact hshort))
        have HR := Lib.hid R
        have H2 := Lib.hid h2
        have HV := Lib.hid hv
        have HS := Lib.hid hs
        have HE : Hid (v.ao = some ⟨g, 0, none⟩) := Lib.hid (by rw [rfl'])
        have HOw := Lib.hid ho
        have HG := Lib.hid hy.lt
        have hz0 : ¬ (s.size : Int) = 0 := by omega
        have hz1 : ((s.size : Int) == 0) = false := beq_eq_false_iff_ne.2 hz0
        have hw8 : IntKind.i64.wrap (8 * (s.size : Int)) = 8 * (s.size : Int) := by
          simp [IntKind.wrap, IntKind.signed, IntKind.bits]
          omega
        obtain ⟨N, hN⟩ : ∃ N, N = s.size := ⟨_, rfl⟩
        rw [← hN] at HA HP hD hz0 hz1 hw8 hshort
        have HJ := Lib.hid (show turnAt s bit / 8 < s.size by omega)
        obtain ⟨T, hT⟩ : ∃ T, T = turnAt s bit := ⟨_, rfl⟩
        rw [← hT] at HP hD k1 k2 k3 HT HJ
        obtain ⟨B, hBB⟩ : ∃ B, B = (bl s).getD (T / 8) 0 := ⟨_, rfl⟩
        rw [← hBB] at k1 k3 HT
        obtain ⟨X, hXX⟩ : ∃ X, X = B ^^^ 2 ^ (T % 8) := ⟨_, rfl⟩
        rw [← hXX] at k3 HT
        have hwq : IntKind.i64.wrap ((T : Int) / 8) = ((T / 8 : Nat) : Int) := by
          simp [IntKind.wrap, IntKind.bits, IntKind.signed]; omega
        have hwr : ((T : Int) % 8) = ((T % 8 : Nat) : Int) := by omega
        have hwt : Int.tmod (T : Int) 8 = ((T % 8 : Nat) : Int) := by rw [Int.tmod_eq_emod_of_nonneg (by omega)]; omega
        have hjn : ((T / 8 : Nat) : Int) < (N : Int) := by omega
        obtain ⟨J, hJ⟩ : ∃ J, J = T / 8 := ⟨_, rfl⟩
        rw [← hJ] at k1 k2 hwq HT HJ hjn
        obtain ⟨M, hM⟩ : ∃ M, M = T % 8 := ⟨_, rfl⟩
        have hM8 : M < 8 := by rw [hM]; exact Nat.mod_lt _ (by decide)
        rw [← hM] at k3 hwr hwt
        have k3w : bits .xor .u8 (B : Int) (IntKind.u8.wrap ((2 : Int) ^ M)) = (X : Int) := by
          rw [show IntKind.u8.wrap ((2 : Int) ^ M) = (2 : Int) ^ M % 256 from by simp [IntKind.wrap, IntKind.bits, IntKind.signed]]
          exact k3
        clear h R h2 ht hk0 hk1 hv hs hd rfl' hy ho hlook hz hc hb hb2 hlt hB hD8 h7 hX h8 hts hT hBB hXX hN hJ hM
        go_enter Tryz.func57, Tryz.ntmps57
        go_wp2_with fail
        refine HB.out.mono ?_
        rintro e w1 ⟨rfl, rfl⟩
        go_wp2_with fail
        refine HA.out.mono ?_
        rintro e w1 ⟨rfl, rfl⟩
        go_wp2_with fail
        refine (HP.out _).mono ?_
        rintro e w1 ⟨rfl, rfl⟩
        go_wp2_with fail
        refine wp_region_M_lit (by kernel_rfl) ?_
        refine tv 0 (h := ?_)
        refine tv 1 (h := ?_)
        refine tv 2 (h := ?_)
        refine tv 3 (h := ?_)
        refine tv 4 (hv := by intro w' hw'; have k1' := (hw'.cell HG.out).trans k1; go_simp; first | done | with_reducible rfl) (h := ?_)
        refine tv 5 (h := ?_)
        refine tv 6 (h := ?_)
        refine tv 7 (h := ?_)
        refine tv 8 (h := ?_)
        refine tv 9 (h := ?_)
        trace_state
        (refine runLate 10 (h := ?_); intro w' hw'; have k1' := (hw'.cell HG.out).trans k1; have k2' := (hw'.frozen HG.out).trans k2; go_simp; try (simp only [Act.put, List.setIfInBounds_toArray, List.set]))
        (refine lateDone (by kernel_rfl) ?_)
        go_wp2
        go_ret
        have hg : g ≠ G a b ∧ q ≠ some g := by
          obtain ⟨b', e1, _, _, _, e5, e6⟩ := HR.out.all.get HV.out HS.out
          rw [HE.out] at e1
          have : g = b' := by simpa using e1
          subst this
          exact ⟨e5, e6⟩
        have row := RowAt.turn (X := X) (HR.out.ext hw') HV.out HS.out HE.out HJ.out (turned s bit) HT.out
        have fin := H.out.put (w' := w'.setCell ⟨g, J, none⟩ (.int .u8 X)) H2.out HOk.out hw'.os hw'.tape hw'.output (by rw [set_size]; exact hw'.size) (fun c hc ho => by
          rw [set_other _ _ _ _ (fun e => ho (by rw [show c = g from e]; exact HOw.out))]
          exact hw'.block c hc) (row.to (fun _ _ _ => rfl) (fun c hc => .inl hc)) (.bool true)
        first
          | exact fin
          | (rw [← k3w] at fin; exact fin)
    · have hl := R.all.length
      have hk : k < 0 ∨ (vs.length : Int) ≤ k := by
        rw [there_iff] at ht
        omega
      have hc : S.canF a b k = false := by unfold NetS.canF; rw [show S.there a b k = false from by simpa using ht]; rfl
      unfold NetS.flip
      rw [if_neg (by rw [hc]; simp), hc]
      have HA := Lib.hid (at_no_b R.ring k hk)
      clear h R h2 ht hl hk hc hb hb2
      go_enter Tryz.func57, Tryz.ntmps57
      go_wp2_with fail
      refine HB.out.mono ?_
      rintro e w1 ⟨rfl, rfl⟩
      go_wp2_with fail
      refine HA.out.mono ?_
      rintro e w1 ⟨rfl, rfl⟩
      go_wp2
      go_ret
      exact H.out.same (Ext.refl _) _
  · have h2 : S.two a b = false := by simpa using h2
    have HE := h.ok.none a b h2
    have HB := Lib.hid (between_no h a b h2)
    have ht : S.there a b k = false := by
      unfold NetS.there
      rw [HE]
      simp
    have hc : S.canF a b k = false := by unfold NetS.canF; rw [ht]; rfl
    unfold NetS.flip
    rw [if_neg (by rw [hc]; simp), hc]
    clear h h2 HE ht hc hb hb2
    go_enter Tryz.func57, Tryz.ntmps57
    go_wp2_with fail
    refine HB.out.mono ?_
    rintro e w1 ⟨rfl, hr, hx⟩
    have HX := Lib.hid hx
    clear hx
    go_wp2_with fail
    refine (at_no_b hr k (by simp; omega)).mono ?_
    rintro e w2 ⟨rfl, rfl⟩
    clear hr
    go_wp2
    go_ret
    exact H.out.same HX.out _
end
end Go.Proofs.YtlakolkpfkakoaaGreatDoor

/- What the program's nets answer: one is made. -/
namespace Go.Proofs.YtlakolkpfkakoaaGreatDoor
open Go.RowKit Go.Maps
set_option maxRecDepth 50000
def Done (N : Nat) (a b : Nat) (x y : Int) : Prop := 0 ≤ x ∧ x < (N : Int) ∧ 0 ≤ y ∧ y < (N : Int) ∧ x ≠ y ∧ (x < (a : Int) ∨ (x = (a : Int) ∧ y < (b : Int)))
instance (N a b : Nat) (x y : Int) : Decidable (Done N a b x y) := by unfold Done; infer_instance
def told (N a b : Nat) (G : Int → Int → Nat) (x y : Int) (zd : DataW Unit) : DataW Unit := if Done N a b x y then .lit (.int .i64 (G x y : Int)) else zd

structure MadeD (w wr : World) (m N room : Nat) (a b : Nat) (D : DataW Unit) (G : Int → Int → Nat) (O : Nat → Option (Int × Int)) : Prop where
  low : w.heap.size ≤ m
  ext : Ext w wr
  map : wr.ownsMap Tryz.prog 116 rb m (a * N + b) D
  tells : ∀ x y, In64 x → In64 y → ∀ zd, D.atKey (klit x y) zd = told N a b G x y zd
  om : ∀ x y, O m ≠ some (x, y)
  own : ∀ k x y, O k = some (x, y) → w.heap.size ≤ k ∧ k < wr.heap.size
  rows : ∀ x y, Done N a b x y → RowAt wr (fun k => O k = some (x, y)) (G x y) room []
def Made (w wr : World) (m N room : Nat) (a b : Nat) : Prop := ∃ D G O, MadeD w wr m N room a b D G O

theorem told_congr {N a b a' b' : Nat} {G : Int → Int → Nat} (h : ∀ x y, Done N a b x y ↔ Done N a' b' x y) (x y : Int) (zd : DataW Unit) : told N a b G x y zd = told N a' b' G x y zd := by
  unfold told
  by_cases h1 : Done N a b x y
  · rw [if_pos h1, if_pos ((h x y).1 h1)]
  · rw [if_neg h1, if_neg (fun h2 => h1 ((h x y).2 h2))]
theorem Made.congr {w wr : World} {m N room a b a' b' : Nat} (h : Made w wr m N room a b) (hd : ∀ x y, Done N a b x y ↔ Done N a' b' x y) (hn : a * N + b ≤ a' * N + b') : Made w wr m N room a' b' := by
  obtain ⟨D, G, O, h⟩ := h
  exact ⟨D, G, O, h.low, h.ext, h.map.mono hn, fun x y hx hy zd => (h.tells x y hx hy zd).trans (told_congr hd x y zd), h.om, h.own, fun x y hxy => h.rows x y ((hd x y).2 hxy)⟩
theorem Made.start (w : World) (N room : Nat) : Made w (w.alloc (.map #[] 0)) w.heap.size N room 0 0 := by
  have hno : ∀ x y, ¬ Done N 0 0 x y := fun x y h => by unfold Done at h; omega
  refine ⟨.map [], fun _ _ => 0, fun _ => none, Nat.le_refl _, (Ext.refl _).alloc _, (World.ownsMap_made _ _ _ _).mono (Nat.zero_le _), fun x y _ _ zd => ?_, fun _ _ h => (by cases h), fun _ _ _ h => (by cases h), fun x y h => absurd h (hno x y)⟩
  unfold told
  rw [if_neg (hno x y)]
  rfl
theorem Made.skip {w wr : World} {m N room a : Nat} (h : Made w wr m N room a a) : Made w wr m N room a (a + 1) :=
  h.congr (fun x y => by unfold Done; omega) (by omega)
theorem Made.line {w wr : World} {m N room a : Nat} (h : Made w wr m N room a N) : Made w wr m N room (a + 1) 0 :=
  h.congr (fun x y => by unfold Done; omega) (by rw [Nat.succ_mul]; omega)

theorem Done.snoc {N a b : Nat} (ha : a < N) (hb : b < N) (hne : a ≠ b) (x y : Int) : Done N a (b + 1) x y ↔ Done N a b x y ∨ (x = (a : Int) ∧ y = (b : Int)) := by
  unfold Done
  constructor
  · intro h; omega
  · intro h; omega
theorem not_done {N a b : Nat} : ¬ Done N a b (a : Int) (b : Int) := by unfold Done; omega

theorem MadeD.add {w wr w1 w2 : World} {m N room a b : Nat} {D : DataW Unit} {G : Int → Int → Nat} {O : Nat → Option (Int × Int)} (h : MadeD w wr m N room a b D G O) (hN : N ≤ 64) (ha : a < N) (hb : b < N) (hne : a ≠ b) (hm : m < wr.heap.size)
    (hr : RAt 147 w1 0 wr.heap.size none room ([] : List BV)) (xe : Ext wr w1) (g : w1.grownBy w2 (some m))
    (ho : w2.ownsMap Tryz.prog 116 rb m (a * N + b + 1) (D.put (klit a b) (.lit (.int .i64 wr.heap.size)))) : Made w w2 m N room a (b + 1) := by
  have hIa : In64 (a : Int) := by unfold In64; omega
  have hIb : In64 (b : Int) := by unfold In64; omega
  have hlt := hr.lt
  refine ⟨_, fun x y => if x = (a : Int) ∧ y = (b : Int) then wr.heap.size else G x y, fun k => if k = wr.heap.size then some ((a : Int), (b : Int)) else O k, h.low, ?_, ho, fun x y hx hy zd => ?_, fun x y => ?_, fun k x y hk => ?_, fun x' y hxy => ?_⟩
  · refine Below.trans h.ext (Below.trans (xe.mono h.ext.size) ⟨g.os, g.tape, g.output, g.size, fun k hk => g.block k ?_ (fun e => ?_)⟩)
    · have := h.ext.size; have := xe.size; omega
    · have := Option.some.inj e; have := h.low; omega
  · unfold told
    by_cases e : x = (a : Int) ∧ y = (b : Int)
    · obtain ⟨rfl, rfl⟩ := e
      rw [Maps.atKey_put_same h.map.isMap (klit_key _ _), if_pos ((Done.snoc ha hb hne _ _).2 (.inr ⟨rfl, rfl⟩))]
      dsimp only
      rw [if_pos ⟨rfl, rfl⟩]
    · rw [Maps.atKey_put_other (klit_ne hx hy hIa hIb e), h.tells x y hx hy, told]
      dsimp only
      rw [if_neg e]
      by_cases hd : Done N a b x y
      · rw [if_pos hd, if_pos ((Done.snoc ha hb hne _ _).2 (.inl hd))]
      · rw [if_neg hd, if_neg (fun hd2 => by
          rcases (Done.snoc ha hb hne _ _).1 hd2 with h1 | h1
          · exact hd h1
          · exact e h1)]
  · rw [if_neg (by omega)]
    exact h.om x y
  · have h1 := xe.size
    have h2 := g.size
    have h3 := h.ext.size
    split at hk
    · rename_i e
      rw [e]
      exact ⟨h3, by omega⟩
    · have := h.own k _ _ hk
      omega
  · rcases (Done.snoc ha hb hne _ _).1 hxy with hd | ⟨rfl, rfl⟩
    · rw [if_neg (fun e => not_done (N := N) (a := a) (b := b) (by rw [← e.1, ← e.2]; exact hd))]
      refine (h.rows x' y hd).to (fun k hk hlt => ?_) (fun k hk => ?_)
      · rw [g.block k (by have := xe.size; omega) (fun e => by have e' := Option.some.inj e; subst e'; exact h.om _ _ hk)]
        exact xe.block k hlt
      · rw [if_neg (by have := (h.own k _ _ hk).2; omega)]
        exact hk
    · rw [if_pos ⟨rfl, rfl⟩]
      refine ⟨[], none, hr.keep (g.block _ hlt (fun e => by have := Option.some.inj e; omega)) (fun b hb => (by cases hb)), if_pos rfl, fun b hb => (by cases hb), .nil, .nil⟩

theorem Made.finish {w wr : World} {m N room : Nat} (h : Made w wr m N room N 0) (hN : N ≤ 64) (hr : room ≤ 1000) :
    ∃ F, NAt (wr.alloc (.cells #[.map (some m)] 118 (0, 0))) wr.heap.size ⟨N, room, fun _ _ => []⟩ F ∧ (∀ k, F k → w.heap.size ≤ k) ∧ Ext w (wr.alloc (.cells #[.map (some m)] 118 (0, 0))) := by
  obtain ⟨D, G, O, h⟩ := h
  have hml := h.map.lt
  have hs := h.ext.size
  have htwo : ∀ a b, NetS.two ⟨N, room, fun _ _ => []⟩ a b = true ↔ Done N N 0 a b := fun a b => by
    simp only [NetS.two, Bool.and_eq_true, decide_eq_true_eq, Done]
    omega
  refine ⟨fun k => w.heap.size ≤ k ∧ k < wr.heap.size + 1, ⟨m, D, G, O, ⟨hN, hr, fun _ _ => Nat.zero_le _, fun _ _ _ => rfl, fun _ _ s hs => by cases hs⟩, get_alloc_new wr _, map_keep (h.map.mono (Nat.le_trans (show N * N + 0 ≤ 5000 from by have := Nat.mul_le_mul hN hN; omega) (Nat.le_refl _))) (get_alloc_old hml), fun a b ha hb zd => ?_, ⟨hs, by omega⟩, ⟨h.low, by omega⟩, fun a b e => ?_, h.om, fun k a b hk => ?_, fun k hk => by rw [size_alloc]; exact hk.2, fun a b h2 => ?_⟩, fun k hk => hk.1, h.ext.alloc _⟩
  · rw [h.tells a b ha hb, told]
    by_cases hd : Done N N 0 a b
    · rw [if_pos hd, if_pos ((htwo a b).2 hd)]
    · rw [if_neg hd, if_neg (fun h2 => hd ((htwo a b).1 h2))]
  · have := (h.own _ _ _ e).2; omega
  · have := h.own k a b hk; exact ⟨this.1, by omega⟩
  · exact (h.rows a b ((htwo a b).1 h2)).to (fun k _ hlt => get_alloc_old hlt) (fun _ hk => hk)

set_option maxHeartbeats 1600000 in
theorem pNew (w : World) (n room : Int) :
    Calls Tryz.prog 30 #[.int .i64 n, .int .i64 room] w fun e w' => ∃ p F, e = .returned (.pointer (some ⟨p, 0, none⟩)) ∧ NAt w' p (NetS.new n room) F ∧ (∀ k, F k → w.heap.size ≤ k) ∧ Ext w w' := by
  obtain ⟨N, hNN⟩ : ∃ N, N = (min (max n 0) 64).toNat := ⟨_, rfl⟩
  obtain ⟨R, hRR⟩ : ∃ R, R = (min (max room 0) 1000).toNat := ⟨_, rfl⟩
  have hS : NetS.new n room = ⟨N, R, fun _ _ => []⟩ := by unfold NetS.new; rw [hNN, hRR]
  rw [hS]
  have hN : N ≤ 64 := by omega
  have HR : Hid (R ≤ 1000) := Lib.hid (by omega)
  have hmin : min (max n 0) 64 = (N : Int) := by omega
  have HRR := Lib.hid hRR
  have hmm := @run_makeMap Tryz.prog
  clear hNN hRR hS
  go_enter Tryz.func30, Tryz.ntmps30
  go_wp2
  go_loopw [13] (fun i wr => ∃ a : Nat, a ≤ N ∧ i = .int .i64 a ∧ Hid (Made w wr w.heap.size N R a 0)) (fun i _ => N - (intOf i).toNat)
  case atStart => exact ⟨0, Nat.zero_le _, rfl, Lib.hid (Made.start w N R)⟩
  case round =>
    obtain ⟨a, haN, rfl, HA⟩ := hrel
    by_cases ha : a < N
    · go_wp2
      obtain ⟨W0, rfl⟩ : ∃ W0, W0 = wr := ⟨_, rfl⟩
      go_loopw [17] (fun j wi => ∃ b : Nat, b ≤ N ∧ j = .int .i64 b ∧ Hid (Made w wi w.heap.size N R a b)) (fun j _ => N - (intOf j).toNat)
      case atStart => exact ⟨0, Nat.zero_le _, rfl, HA⟩
      case round =>
        obtain ⟨b, hbN, rfl, HB⟩ := hrel
        by_cases hb : b < N
        · by_cases hne : a = b
          · subst hne
            go_wp2
            exact ⟨⟨a + 1, hb, by go_num, Lib.hid HB.out.skip⟩, by simp [intOf]; omega⟩
          · have hne2 : ¬ (a : Int) = (b : Int) := by omega
            have HNE := Lib.hid hne
            clear hne
            obtain ⟨W1, rfl⟩ : ∃ W1, W1 = wr := ⟨_, rfl⟩
            have hn := new_b room 0 W1 (Nat.zero_le _)
            rw [← HRR.out] at hn
            replace hn := Lib.hid hn
            obtain ⟨D, G, O, MD⟩ := HB.out
            have hown := MD.map
            have HMD := Lib.hid MD
            have hnb : a * N + b ≤ 5000 := by
              have h1 := Nat.mul_le_mul (Nat.le_of_lt ha) hN
              have h2 := Nat.mul_le_mul hN (Nat.le_refl 64)
              omega
            have hIa : In64 (a : Int) := by unfold In64; omega
            have hIb : In64 (b : Int) := by unfold In64; omega
            have hkey := key_of hIa hIb
            unfold key at hkey
            replace hkey := Lib.hid hkey
            replace hnb := Lib.hid hnb
            clear MD hIa hIb
            go_wp2_with fail
            refine hn.out.mono ?_
            rintro e w1 ⟨rfl, hr, hx⟩
            have hown1 := map_keep hown (hx.block _ hown.lt)
            have HLt := Lib.hid hown.lt
            have HRg := Lib.hid hr
            have HX := Lib.hid hx
            clear hr hx hown
            go_wp2_with (first
              | (at_mapUpdate; refine wpList_mapUpdate_own _ rfl _ _ _ 111 rfl 116 112 kw Tryz.underlying111 rb w.heap.size _ _ rfl hown1 (by have := hnb.out; unfold maxLen; omega) _ _ _ rfl rfl hkey.out _ [] rfl ?_; intro w2 hown2 hg2; have HM2 := Lib.hid (HMD.out.add hN ha hb HNE.out HLt.out HRg.out HX.out hg2 hown2); clear hown2 hg2)
              | go_in)
            exact ⟨⟨b + 1, hb, by go_num, HM2⟩, by simp [intOf]; omega⟩
        · have hbe : b = N := by omega
          subst hbe
          go_wp2
          exact ⟨⟨a + 1, ha, by go_num, Lib.hid HB.out.line⟩, by simp [intOf]; omega⟩
    · have hae : a = N := by omega
      subst hae
      go_wp2
      go_ret
      obtain ⟨F, h1, h2, h3⟩ := HA.out.finish hN HR.out
      exact ⟨_, F, rfl, h1, h2, h3⟩
end Go.Proofs.YtlakolkpfkakoaaGreatDoor
