/- Rings of slices of bytes: what a ring holds in memory, and each of its functions. -/
import Derived.Test.YtjnnfnmapigagaaOff
import Derived.Test.YtjnnfnmapigagaaC7
import Derived.Test.YtjnnfnmapigagaaShelf
import Derived.Sort.OwnSortedInts
import Derived.Sort.OwnSorted
namespace Go.Proofs.Ytjnnfnmapigagaa
open Go.RowKit Go.Sort

/-- The ring at block p (of type T): its room, its things; q: the block of its things, if there is one. -/
structure RAt {α : Type} [Elem α] (T : TypeId) (w : World) (B p : Nat) (q : Option Nat) (room : Nat) (xs : List α) : Prop where
  low : B ≤ p
  le : xs.length ≤ room
  most : room ≤ 1000
  blk : ∃ v, w.heap[p]? = some (.cells #[.int .i64 room, v] T (0, 0)) ∧ Ow w B v xs ∧ v.ownBlock = q ∧ q ≠ some p

/-- A step of the ring: only its own blocks change; its things lie where they did, or in a new block. -/
structure RStep (p : Nat) (q q' : Option Nat) (w w' : World) : Prop where
  os : w'.os = w.os
  tape : w'.tape = w.tape
  output : w'.output = w.output
  size : w.heap.size ≤ w'.heap.size
  block : ∀ b, b < w.heap.size → b ≠ p → q ≠ some b → w'.heap[b]? = w.heap[b]?
  new : q' = q ∨ ∀ b, q' = some b → w.heap.size ≤ b

theorem RStep.refl (p : Nat) (q : Option Nat) (w : World) : RStep p q q w w := ⟨rfl, rfl, rfl, Nat.le_refl _, fun _ _ _ _ => rfl, .inl rfl⟩

section
variable {α : Type} [Elem α] {T : TypeId} {w w' : World} {B p : Nat} {q q' : Option Nat} {room : Nat} {xs : List α}

theorem RAt.lt (h : RAt T w B p q room xs) : p < w.heap.size := by obtain ⟨v, hb, _⟩ := h.blk; exact blk_lt hb
theorem RAt.qlow (h : RAt T w B p q room xs) : ∀ b, q = some b → B ≤ b ∧ b < w.heap.size := by
  obtain ⟨v, _, ho, rfl, _⟩ := h.blk
  exact ho.low
theorem RAt.ext (h : RAt T w B p q room xs) (e : Ext w w') : RAt T w' B p q room xs := by
  obtain ⟨v, hb, ho, hq, hne⟩ := h.blk
  exact ⟨h.low, h.le, h.most, v, by rw [e.block p (blk_lt hb)]; exact hb, ho.ext e, hq, hne⟩
theorem RStep.below (h : RStep p q q' w w') (hp : B ≤ p) (hq : ∀ b, q = some b → B ≤ b) (hB : B ≤ w.heap.size) : Below B w w' :=
  ⟨h.os, h.tape, h.output, h.size, fun k hk => h.block k (by omega) (by omega) (fun e => by have := hq k e; omega)⟩
theorem RAt.step (h : RAt T w B p q room xs) (s : RStep p q q' w w') (hB : B ≤ w.heap.size) : Below B w w' := s.below h.low (fun b e => (h.qlow b e).1) hB

/-- A slice that the ring has no part in. -/
def Kp {β : Type} [Elem β] (p : Nat) (q : Option Nat) (w : World) (v : Value) (ys : List β) : Prop :=
  Sl w v ys ∧ (ys = [] ∨ ∀ b, v.ownBlock = some b → b ≠ p ∧ q ≠ some b)

theorem Kp.ext {β : Type} [Elem β] {v : Value} {ys : List β} (h : Kp p q w v ys) (e : Ext w w') : Kp p q w' v ys := ⟨h.1.ext e, h.2⟩
theorem Kp.step {β : Type} [Elem β] {v : Value} {ys : List β} (h : Kp p q w v ys) (s : RStep p q q' w w') : Kp p q' w' v ys := by
  obtain ⟨⟨h1, ao, c, rfl, h2, h3, h4, h5⟩, h6⟩ := h
  rcases h6 with h6 | h6
  · subst h6
    exact ⟨⟨h1, ao, c, rfl, h2, h3, h4, .inl rfl⟩, .inl rfl⟩
  · rcases h5 with h5 | ⟨b, off, rfl, hb, hc⟩
    · exact ⟨⟨h1, ao, c, rfl, h2, h3, h4, .inl h5⟩, .inl (List.eq_nil_of_length_eq_zero h5)⟩
    · have hn := h6 b rfl
      refine ⟨⟨h1, _, c, rfl, h2, h3, h4, .inr ⟨b, off, rfl, Nat.lt_of_lt_of_le hb s.size, fun j u hj => ?_⟩⟩, .inr fun b' e => ?_⟩
      · refine (World.cell?_of_block (w := w) (a := ⟨b, off + j, none⟩) (s.block b hb hn.1 hn.2)).trans (hc j u hj)
      · obtain rfl : b = b' := by simpa [Value.ownBlock] using e
        refine ⟨hn.1, fun e' => ?_⟩
        rcases s.new with h | h
        · exact hn.2 (h ▸ e')
        · have := h b e'; omega
theorem Kp.fresh {β : Type} [Elem β] {n : Nat} {v : Value} {ys : List β} (h : Sl w v ys) (hf : ∀ b, v.ownBlock = some b → n ≤ b) (hp : p < n) (hq : ∀ b, q = some b → b < n) : Kp p q w v ys :=
  ⟨h, .inr fun b e => by have := hf b e; exact ⟨by omega, fun e' => by have := hq b e'; omega⟩⟩
theorem Kp.old {β : Type} [Elem β] {n : Nat} {v : Value} {ys : List β} (h : Sl w v ys) (hf : ys = [] ∨ ∀ b, v.ownBlock = some b → b < n) (hp : n ≤ p) (hq : ∀ b, q = some b → n ≤ b) : Kp p q w v ys :=
  ⟨h, hf.imp id fun hf b e => by have := hf b e; exact ⟨by omega, fun e' => by have := hq b e'; omega⟩⟩
end
/-- What a call of the ring that changes it gives. -/
def GivesR {α : Type} [Elem α] (T : TypeId) (w : World) (B p : Nat) (q : Option Nat) (room : Nat) (v : Value) (ys : List α) (e : Ending) (w' : World) : Prop :=
  e = .returned v ∧ ∃ q', RAt T w' B p q' room ys ∧ RStep p q q' w w'

/-- a slice of bytes as an element -/
structure BV where
  ao : Option Addr
  n : Nat
  c : Nat
instance : Inhabited BV := ⟨⟨none, 0, 0⟩⟩
def encBV (x : BV) : Value := .slice x.ao x.n x.c
instance : Elem BV where
  e := 57
  t := 73
  k := 1
  bytes := 24
  z := .slice none 0 0
  enc := fun x => [.slice x.ao x.n x.c]
  dflt := ⟨none, 0, 0⟩
  len := fun _ => rfl
  pos := by decide
  one := fun x u hu => by simp at hu; subst hu; rfl
  row := by kernel_rfl
  info := by kernel_rfl
  zsize := rfl
  few := by decide

theorem cells_b (xs : List BV) : cellsOf xs = xs.map encBV := by
  induction xs with
  | nil => rfl
  | cons x xs ih => show [encBV x] ++ cellsOf xs = _; rw [ih]; rfl

section
variable {α : Type} [Inhabited α] {enc : α → Value}
theorem holds_of_blockE {w : World} {g : Nat} {cur : Array Value} {e : TypeId} {ss : List α} (hb : w.heap[g]? = some (.cells cur e (0, 0))) (ht : cur.toList.take ss.length = ss.map enc) : Holds enc w g 0 ss.toArray := by
  intro j hj
  have hj' : j < ss.length := by simpa using hj
  refine ⟨?_, by simp [World.frozen?, hb]⟩
  have h1 : (cur.toList.take ss.length)[j]? = (ss.map enc)[j]? := by rw [ht]
  rw [List.getElem?_take_of_lt hj'] at h1
  simp only [World.cell?, hb, Nat.zero_add]
  simp only [Option.isSome_none, Bool.false_eq_true, if_false]
  rw [← Array.getElem?_toList, h1]
  simp [hj']
theorem heap_sortedE {w : World} {g n : Nat} {cur : Array Value} {e : TypeId} {fr : Nat × Nat} (d : Array α) (hb : w.heap[g]? = some (.cells cur e fr)) :
    (putRow enc (Sort.ahead w n) g 0 d).heap[g]? = some (.cells (putCells enc 0 d cur) e fr) := by
  simp [putRow, mapBlock, Sort.ahead, Array.getElem?_modify, hb, onCells]
theorem grownBy_sortedE {w : World} {g n : Nat} (d : Array α) : w.grownBy (putRow enc (Sort.ahead w n) g 0 d) (some g) := by
  refine ⟨rfl, rfl, rfl, by simp [putRow, mapBlock, Sort.ahead], fun k hk hne => ?_⟩
  have : g ≠ k := fun e => hne (by rw [e])
  simp [putRow, mapBlock, Sort.ahead, Array.getElem?_modify, this]
theorem take_putCellsE (cur : Array Value) (ts : List α) (h : ts.length ≤ cur.size) : (putCells enc 0 ts.toArray cur).toList.take ts.length = ts.map enc := by
  apply List.ext_getElem?
  intro j
  by_cases hj : j < ts.length
  · rw [List.getElem?_take_of_lt hj, Array.getElem?_toList]
    simp [putCells, hj, show j < cur.size by omega]
  · rw [List.getElem?_take_eq_none (by omega), List.getElem?_eq_none (by simp; omega)]
end

theorem delete_ow_b (w : World) (B : Nat) (v : Value) (xs : List BV) (k : Nat) (h : Ow w B v xs) (hk : k < xs.length) (hl : xs.length ≤ 100000) :
    Calls Try.prog 39 #[v, .int .i64 k, .int .i64 (k + 1)] w fun e w' => ∃ v', e = .returned v' ∧ Ow w' B v' (xs.eraseIdx k) ∧ w.grownBy w' v.ownBlock ∧ v'.ownBlock = v.ownBlock := by
  rcases h.2 with ⟨_, hz⟩ | ⟨g, cap, cur, rfl, hg, hh, hc1, hc2, hc3, hc4⟩
  · omega
  · have hc2' : cap ≤ 9223372036854775807 := by simpa only [maxLen] using hc2
    have hc4' : cur.toList.take xs.length = xs.map encBV := by have h4 := hc4; rw [show xs.length * Elem.k BV = xs.length from Nat.mul_one _, cells_b] at h4; exact h4
    have hH := holds_of_blockE (enc := encBV) (ss := xs) hh hc4'
    obtain ⟨i0, hi0, hz1⟩ : ∃ i0, Try.prog.info? 57 = some i0 ∧ i0.size = 1 := by
      have h0 := Elem.info (α := BV)
      cases hq : Try.prog.info? 57 with
      | none => rw [show Try.prog.info? (Elem.e BV) = none from hq] at h0; simp at h0
      | some i0 =>
        rw [show Try.prog.info? (Elem.e BV) = some i0 from hq] at h0
        simp at h0
        exact ⟨i0, rfl, h0.2.1⟩
    have := AnyE.slices_Delete Try.del39 encBV (fun _ => rfl) ⟨none, 0, 0⟩ Try.zeroValue57 i0 hi0 hz1 g 0 cap k (k + 1) xs.toArray w hH (by simpa using hc1) hc2' (by omega) (by simp; omega)
    rw [List.size_toArray] at this
    rw [show ((k : Int) + 1) = ((k + 1 : Nat) : Int) from by omega]
    refine this.mono ?_
    rintro e w1 ⟨rfl, dn, rfl⟩
    have hle : (xs.eraseIdx k).length = xs.length - 1 := by rw [List.length_eraseIdx, if_pos hk]
    refine ⟨_, rfl, ?_, grownBy_sortedE _, rfl⟩
    refine ⟨cellsOf_length _, .inr ⟨g, cap, _, ?_, hg, heap_sortedE _ hh, by rw [hle]; omega, hc2, by simp [Sort.putCells, hc3], ?_⟩⟩
    · rw [hle, show k + 1 - k = 1 from by omega]
    · have ht := take_putCellsE (enc := encBV) cur (xs.take k ++ xs.drop (k + 1) ++ List.replicate (k + 1 - k) ⟨none, 0, 0⟩) (by simp; rw [hc3]; show _ ≤ cap * 1; omega)
      have ht2 := congrArg (List.take (xs.eraseIdx k).length) ht
      have hll : (xs.take k ++ xs.drop (k + 1) ++ List.replicate (k + 1 - k) (⟨none, 0, 0⟩ : BV)).length = xs.length := by simp; omega
      rw [List.take_take, hll, Nat.min_eq_left (by rw [hle]; omega)] at ht2
      have hk1 : (xs.eraseIdx k).length * Elem.k BV = (xs.eraseIdx k).length := Nat.mul_one _
      rw [hk1, ht2, ← List.map_take, cells_b, List.take_left' (by rw [hle]; simp; omega)]
      rw [List.eraseIdx_eq_take_drop_succ]

theorem take_eraseIdx_b (xs : List BV) (k : Nat) : xs.take k ++ xs.drop (k + 1) = xs.eraseIdx k := List.eraseIdx_eq_take_drop_succ .. |>.symm
section
/-- New. -/
theorem new_b (n : Int) (B : Nat) (w : World) (hB : B ≤ w.heap.size) :
    Calls Try.prog 27 #[.int .i64 n] w fun e w' => e = .returned (.pointer (some ⟨w.heap.size, 0, none⟩)) ∧ RAt 75 w' B w.heap.size none (min (max n 0) 1000).toNat ([] : List BV) ∧ Ext w w' := by
  have h1 : (((min (max n 0) 1000).toNat : Nat) : Int) = min (max n 0) 1000 := by omega
  have h2 : (min (max n 0) 1000).toNat ≤ 1000 := by omega
  obtain ⟨m, hm⟩ : ∃ m, m = (min (max n 0) 1000).toNat := ⟨_, rfl⟩
  rw [← hm] at h1 h2 ⊢
  have H1 := Lib.hid h1
  clear h1 hm
  go_enter Try.func27, Try.ntmps27
  go_wp2
  go_ret
  refine ⟨rfl, ⟨hB, Nat.zero_le _, h2, .slice none 0 0, ?_, Ow.nil _ _, rfl, by simp⟩, (Ext.refl _).alloc _⟩
  rw [heap_alloc_new, H1.out]

theorem len_b {w : World} {B p : Nat} {q : Option Nat} {room : Nat} {xs : List BV} (h : RAt 75 w B p q room xs) :
    Calls Try.prog 33 #[.pointer (some ⟨p, 0, none⟩)] w fun e w' => e = .returned (.int .i64 xs.length) ∧ w = w' := by
  obtain ⟨v, hb, ho, _⟩ := h.blk
  obtain ⟨ao, c, rfl⟩ := ho.sl.len
  have c1 := blk_cell hb 1 rfl
  clear h ho
  go_enter Try.func33, Try.ntmps33
  go_wp2
  go_ret
  exact ⟨rfl, rfl⟩

theorem room_b {w : World} {B p : Nat} {q : Option Nat} {room : Nat} {xs : List BV} (h : RAt 75 w B p q room xs) :
    Calls Try.prog 38 #[.pointer (some ⟨p, 0, none⟩)] w fun e w' => e = .returned (.int .i64 (room - xs.length)) ∧ Drew w w' := by
  obtain ⟨v, hb, ho, _⟩ := h.blk
  obtain ⟨ao, c, rfl⟩ := ho.sl.len
  have c0 := blk_cell hb 0 rfl
  have c1 := blk_cell hb 1 rfl
  have := h.le
  have := h.most
  clear h ho
  go_enter Try.func38, Try.ntmps38
  go_wp2
  try go_quiet (fail)
  try go_wp2
  go_ret
  exact ⟨rfl, _, rfl⟩

theorem at_yes_b {w : World} {B p : Nat} {q : Option Nat} {room : Nat} {xs : List BV} (h : RAt 75 w B p q room xs) (at' : Int) (h0 : 0 ≤ at') (h1 : at' < xs.length) (x : BV) (hx : xs[at'.toNat]? = some x) :
    Calls Try.prog 34 #[.pointer (some ⟨p, 0, none⟩), .int .i64 at'] w fun e w' => e = .returned (.tuple #[.slice x.ao x.n x.c, .bool true]) ∧ w = w' := by
  obtain ⟨v, hb, ho, _⟩ := h.blk
  have := h.le
  have := h.most
  rcases ho.sl.parts with ⟨rfl, _⟩ | ⟨b, off, c, rfl, hc, hc63, hbl, hpos, hcell⟩
  · simp at h1; omega
  · have c1 := blk_cell hb 1 rfl
    have cx := hcell at'.toNat x hx 0 _ rfl
    rw [show off + (at'.toNat * Elem.k BV + 0) = off + at'.toNat from by show off + (at'.toNat * 1 + 0) = _; omega] at cx
    obtain ⟨k, rfl⟩ := Int.eq_ofNat_of_zero_le h0
    simp only [Int.toNat_natCast] at cx
    have hk : k < xs.length := by omega
    clear h ho hcell hx h0 h1
    go_enter Try.func34, Try.ntmps34
    go_wp2
    go_ret2
    exact ⟨rfl, rfl⟩

theorem at_no_b {w : World} {B p : Nat} {q : Option Nat} {room : Nat} {xs : List BV} (h : RAt 75 w B p q room xs) (at' : Int) (h1 : at' < 0 ∨ (xs.length : Int) ≤ at') :
    Calls Try.prog 34 #[.pointer (some ⟨p, 0, none⟩), .int .i64 at'] w fun e w' => e = .returned (.tuple #[.slice none 0 0, .bool false]) ∧ w = w' := by
  obtain ⟨v, hb, ho, _⟩ := h.blk
  obtain ⟨ao, c, rfl⟩ := ho.sl.len
  have c1 := blk_cell hb 1 rfl
  have := h.le
  have := h.most
  clear h ho
  rcases h1 with h1 | h1
  · go_enter Try.func34, Try.ntmps34
    go_wp2
    go_ret2
    exact ⟨rfl, rfl⟩
  · have h2 : ¬ at' < 0 := by omega
    go_enter Try.func34, Try.ntmps34
    go_wp2
    go_ret2
    exact ⟨rfl, rfl⟩

theorem push_no_b {w : World} {B p : Nat} {q : Option Nat} {room : Nat} {xs : List BV} (h : RAt 75 w B p q room xs) (x : BV) (hf : room ≤ xs.length) :
    Calls Try.prog 35 #[.pointer (some ⟨p, 0, none⟩), .slice x.ao x.n x.c] w fun e w' => e = .returned (.bool false) ∧ Drew w w' := by
  have hd : (((room : Int) - (xs.length : Int)) == 0) = true := by have := h.le; simp; omega
  go_enter Try.func35, Try.ntmps35
  go_wp2_with fail
  refine (room_b h).mono ?_
  rintro e w1 ⟨rfl, hw⟩
  have HW := Lib.hid hw
  clear hw
  go_wp2
  go_ret
  exact ⟨rfl, HW.out⟩

theorem push_yes_b {w : World} {B p : Nat} {q : Option Nat} {room : Nat} {xs : List BV} (h : RAt 75 w B p q room xs) (hB : B ≤ w.heap.size) (x : BV) (hf : xs.length < room) :
    Calls Try.prog 35 #[.pointer (some ⟨p, 0, none⟩), .slice x.ao x.n x.c] w (GivesR 75 w B p q room (.bool true) (xs ++ [x])) := by
  have hd : (((room : Int) - (xs.length : Int)) == 0) = false := by have := h.le; simp; omega
  have h0 := h
  obtain ⟨v, hb, ho, hvq, hqp⟩ := h.blk
  have hmost := h.most
  have hlow := h.low
  have hpw : p < w.heap.size := blk_lt hb
  have HV := Lib.hid hvq
  have HB := Lib.hid hb
  have HO := Lib.hid ho
  have HQ := Lib.hid hqp
  clear h hb ho hvq hqp
  go_enter Try.func35, Try.ntmps35
  go_wp2_with fail
  refine (room_b h0).mono ?_
  rintro e w1 ⟨rfl, hw⟩
  obtain ⟨dn, rfl⟩ := hw
  clear h0
  obtain ⟨ao, c, rfl⟩ := HO.out.sl.len
  have c1 := blk_cell (w := w.drewN dn) HB.out 1 rfl
  go_wp2_with (at_builtin; go_loud (refine wpList_append_sl (α := BV) rfl (.tmp 12) (.tmp 14) rfl B (.slice ao xs.length c) xs rfl ((HO.out.drewN dn).alloc _) (.slice (some ⟨_, 0, none⟩) 1 1) [x] rfl (Sl.lit (w.drewN dn) [x] (by simp)) (by simp; omega) (by simp; omega) ?_; intro v1 W1 ho1 ha1; obtain ⟨ao1, n1, cc1, rfl⟩ := ho1.sh; have hs1 : w.heap.size + 1 ≤ W1.heap.size := (by have := ha1.grown.size; simpa using this); have hbk : W1.heap[p]? = w.heap[p]? := ((ha1.grown.block p (by simp; omega) (by rw [HV.out]; exact fun e => HQ.out e.symm)).trans (heap_alloc_old (w.drewN dn) _ hpw)); have c2 := blk_cell (hbk.trans HB.out) 1 rfl; have f2 := blk_free (hbk.trans HB.out) 1; have HO1 := Lib.hid ho1; have HA1 := Lib.hid ha1; have HK := Lib.hid hbk; clear ho1 ha1 hbk))
  go_ret
  have ho1 := HO1.out
  have ha1 := HA1.out
  have hlow1 := ho1.low
  have hg := ha1.grown
  have hne : (Value.slice ao1 n1 cc1).ownBlock ≠ some p := by
    rcases ha1.block with h | h
    · rw [h, HV.out]; exact HQ.out
    · intro e; have := h p e; simp at this; omega
  refine ⟨rfl, _, ⟨hlow, by simp; omega, hmost, _, ?_, ?_, rfl, hne⟩, ⟨hg.os, hg.tape, hg.output, by rw [set_size]; omega, fun b hb hbp hqb => ?_, ?_⟩⟩
  · have := blk_set (HK.out.trans HB.out) 1 (.slice ao1 n1 cc1)
    simpa using this
  · exact ownsRow_setCell_other ho1 (by simpa using hne) _
  · rw [set_other _ _ _ _ (by simpa using hbp)]
    have := hg.block b (by simp; omega) (by rw [HV.out]; exact fun e => hqb e.symm)
    rw [this]
    exact heap_alloc_old _ _ hb
  · rcases ha1.block with h | h
    · exact .inl (h.trans HV.out)
    · exact .inr fun b e => by have := h b e; simp at this; omega

theorem cut_no_b {w : World} {B p : Nat} {q : Option Nat} {room : Nat} {xs : List BV} (h : RAt 75 w B p q room xs) (at' : Int) (h1 : at' < 0 ∨ (xs.length : Int) ≤ at') :
    Calls Try.prog 37 #[.pointer (some ⟨p, 0, none⟩), .int .i64 at'] w fun e w' => e = .returned (.tuple #[.slice none 0 0, .bool false]) ∧ w = w' := by
  go_enter Try.func37, Try.ntmps37
  go_wp2_with fail
  refine (at_no_b h at' h1).mono ?_
  rintro e w' ⟨rfl, rfl⟩
  go_wp2
  go_ret2
  exact ⟨rfl, rfl⟩

theorem cut_yes_b {w : World} {B p : Nat} {q : Option Nat} {room : Nat} {xs : List BV} (h : RAt 75 w B p q room xs) (k : Nat) (x : BV) (hx : xs[k]? = some x) :
    Calls Try.prog 37 #[.pointer (some ⟨p, 0, none⟩), .int .i64 k] w (GivesR 75 w B p q room (.tuple #[.slice x.ao x.n x.c, .bool true]) (xs.eraseIdx k)) := by
  have hk : k < xs.length := (List.getElem?_eq_some_iff.1 hx).1
  have h0 := h
  obtain ⟨v, hb, ho, hvq, hqp⟩ := h.blk
  have hmost := h.most
  have hle := h.le
  have hlow := h.low
  have hpw : p < w.heap.size := blk_lt hb
  have HV := Lib.hid hvq
  have HB := Lib.hid hb
  have HQ := Lib.hid hqp
  have HO := Lib.hid ho
  have HX := Lib.hid hx
  obtain ⟨ao, c, rfl⟩ := ho.sl.len
  have c1 := blk_cell hb 1 rfl
  clear h hb ho hvq hqp hx
  go_enter Try.func37, Try.ntmps37
  go_wp2_with fail
  refine (at_yes_b h0 k (by omega) (by omega) x (by simpa using HX.out)).mono ?_
  rintro e w' ⟨rfl, rfl⟩
  clear h0
  go_wp2_with fail
  refine (delete_ow_b w B _ xs k HO.out hk (by omega)).mono ?_
  rintro e w1 ⟨v1, rfl, ho1, hg1, hv1⟩
  obtain ⟨ao1, n1, cc1, rfl⟩ := ho1.sh
  have hbk : w1.heap[p]? = w.heap[p]? := hg1.block p hpw (by rw [HV.out]; exact fun e => HQ.out e.symm)
  have c2 := blk_cell (hbk.trans HB.out) 1 rfl
  have f2 := blk_free (hbk.trans HB.out) 1
  have HO1 := Lib.hid ho1
  have HG1 := Lib.hid hg1
  have HV1 := Lib.hid (hv1.trans HV.out)
  have HK := Lib.hid hbk
  clear ho1 hg1 hv1 hbk
  go_wp2
  go_ret2
  have hg := HG1.out
  refine ⟨rfl, q, ⟨hlow, by rw [List.length_eraseIdx]; split <;> omega, hmost, _, ?_, ?_, HV1.out, HQ.out⟩, ⟨hg.os, hg.tape, hg.output, by rw [set_size]; exact hg.size, fun b hb hbp hqb => ?_, .inl rfl⟩⟩
  · have := blk_set (HK.out.trans HB.out) 1 (.slice ao1 n1 cc1)
    simpa using this
  · exact ownsRow_setCell_other HO1.out (by rw [HV1.out]; simpa using HQ.out) _
  · rw [set_other _ _ _ _ (by simpa using hbp)]
    exact hg.block b hb (by rw [HV.out]; exact fun e => hqb e.symm)

end

end Go.Proofs.Ytjnnfnmapigagaa
