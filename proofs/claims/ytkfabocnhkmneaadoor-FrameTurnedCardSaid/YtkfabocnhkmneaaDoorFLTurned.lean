/- FrameTurned: walked. -/
import Derived.Test.YtkfabocnhkmneaaDoorFLApart
namespace Go.Proofs.YtkfabocnhkmneaaDoor
open Go.RowKit

theorem xor_u8 (a b : Nat) (ha : a < 256) (hb : b < 256) : bits .xor .u8 (a : Int) (b : Int) = ((a ^^^ b : Nat) : Int) := u8_xor_nat a b ha hb

theorem blk_later {W W' : World} {g : Nat} {O : Obj} (h : W.heap[g]? = some O) (x : Ext W W') : W'.heap[g]? = some O := (x.block g (blk_lt h)).trans h
theorem blk_alloc {W : World} {g : Nat} {O : Obj} (h : W.heap[g]? = some O) (o : Obj) : (W.alloc o).heap[g]? = some O := (get_alloc_old (blk_lt h)).trans h

theorem get_none (W : World) (h : Std W) (s : ByteArray) (hs : s.size ≤ 300) (hk : whatN s ≠ 0) :
    ∃ K : Int, (K != 0) = true ∧ Calls Tryd.prog 15 #[.string s] W fun ev w' => ev = .returned (.tuple #[.agg #[.int .i64 0, .int .i64 0, .int .u64 0, .int .u64 0, .string ⟨#[]⟩], .int .i64 K]) ∧ Ext W w' := by
  refine ⟨(whatN s : Int), bne_iff_ne.2 (by omega), ?_⟩
  have := get_any W h s (by omega)
  have j3 : getF s = Fr.zero := by unfold getF; rw [if_neg hk]
  rwa [j3] at this

set_option maxRecDepth 100000 in
set_option maxHeartbeats 1600000 in
theorem frameTurned_short (w : World) (hw : Std w) (f : Fr) (hf : (-9223372036854775808 ≤ f.k ∧ f.k ≤ 9223372036854775807) ∧ (-9223372036854775808 ≤ f.e ∧ f.e ≤ 9223372036854775807) ∧ f.q < 18446744073709551616 ∧ f.a < 18446744073709551616) (hr : rightB f = true) (A Y : Nat) (hA : A < 256) (hY : Y < 256) (hY0 : Y ≠ 0) :
    Calls Tryd.prog 6 #[.agg #[.int .i64 f.k, .int .i64 f.e, .int .u64 (f.q : Int), .int .u64 (f.a : Int), .string f.b], .int .u8 (A : Int), .int .u8 (Y : Int)] w fun e w' => e = .returned (.bool true) ∧ Ext w w' := by
  have HT : Hid (∀ W, Ext (w.alloc (.cells #[.int .i64 f.k, .int .i64 f.e, .int .u64 (f.q : Int), .int .u64 (f.a : Int), .string f.b] 25)) W → Std W) := Lib.hid fun W x => hw.ext (Ext.trans ((Ext.refl w).alloc _) x)
  have HK : Hid (∀ W, Ext (w.alloc (.cells #[.int .i64 f.k, .int .i64 f.e, .int .u64 (f.q : Int), .int .u64 (f.a : Int), .string f.b] 25)) W → (W.cell? ⟨w.heap.size, 0, none⟩ = some (.int .i64 f.k) ∧ W.cell? ⟨w.heap.size, 1, none⟩ = some (.int .i64 f.e) ∧ W.cell? ⟨w.heap.size, 2, none⟩ = some (.int .u64 (f.q : Int)) ∧ W.cell? ⟨w.heap.size, 3, none⟩ = some (.int .u64 (f.a : Int)) ∧ W.cell? ⟨w.heap.size, 4, none⟩ = some (.string f.b))) := Lib.hid fun W x => (five_cells (late_blk x)).1
  have HE : Hid (∀ W, Ext (w.alloc (.cells #[.int .i64 f.k, .int .i64 f.e, .int .u64 (f.q : Int), .int .u64 (f.a : Int), .string f.b] 25)) W → Ext w W) := Lib.hid fun W x => Ext.trans ((Ext.refl w).alloc _) x
  have cRf := Lib.hid (fun W => right_any W f.k f.e f.q f.a f.b)
  change Hid (∀ W, Calls Tryd.prog 11 #[.agg #[.int .i64 f.k, .int .i64 f.e, .int .u64 (f.q : Int), .int .u64 (f.a : Int), .string f.b]] W fun ev w' => ev = .returned (.bool (rightB f)) ∧ Ext W w') at cRf
  rw [hr] at cRf
  have hb64 := (right_spec hr).2.2.1
  have cP := Lib.hid (fun W h => put_any W h f ⟨hf.1, hf.2.1, hf.2.2.1, hf.2.2.2, by omega⟩)
  have p1 : putE f = 0 := by unfold putE; rw [if_pos hr]
  obtain ⟨g1, _⟩ := put_get hf.2.2.1 hf.2.2.2 hr
  have hsz := putF_size hr
  obtain ⟨S, hS⟩ : ∃ S, S = putF f := ⟨_, rfl⟩
  rw [p1, ← hS] at cP
  rw [← hS] at g1 hsz
  obtain ⟨k, hk⟩ : ∃ k, k = A % S.size := ⟨_, rfl⟩
  have hkl : k < S.size := by rw [hk]; exact Nat.mod_lt _ (by omega)
  have t1 : (A : Int) % (S.size : Int) = (k : Int) := by rw [hk]; rfl
  have HKL := Lib.hid hkl
  have n1 := turned_none g1 hkl hY hY0
  have n2 := cut_none g1 hkl
  have n3 := more_none g1 ⟨#[UInt8.ofNat Y]⟩ rfl
  have z1 : (oneB S k Y).size ≤ 300 := by unfold oneB; rw [textN_size, List.length_set, bl_length]; omega
  have c1 := Lib.hid (fun W h => get_none W h (oneB S k Y) z1 n1)
  have c2 := Lib.hid (fun W h => get_none W h (S.extract 0 k) (by rw [ByteArray.size_extract]; omega) n2)
  have c3 := Lib.hid (fun W h => get_none W h (S ++ ⟨#[UInt8.ofNat Y]⟩) (by rw [ByteArray.size_append]; show S.size + 1 ≤ 300; omega) n3)
  have HCV : ∀ W, (convert 9 41 (.string S)).run Tryd.prog W = .ok (.slice (some ⟨W.heap.size, 0, none⟩) S.size (capB W S)) (newB W S) := fun W => bytes_of W S
  have HT1 := text_one
  have i1 : (0 : Int) ≤ (k : Int) := by omega
  have i2 : (k : Int) < (S.size : Int) := by omega
  have i3 : (k : Int) ≤ (S.size : Int) := by omega
  have i4 : ((Y : Int) == 0) = false := beq_eq_false_iff_ne.2 (by omega)
  have i5 : ¬ (Y : Int) = 0 := by omega
  have i6 : ¬ 9223372036854775807 < S.size + 1 := by omega
  have i7 : ¬ (S.size : Int) = 0 := by omega
  have hlen : (bl S).length = S.size := bl_length S
  obtain ⟨C, hC⟩ : ∃ C, C = (bl S).getD k 0 := ⟨_, rfl⟩
  have hC2 : C < 256 := by
    rw [hC, List.getD_eq_getElem?_getD, List.getElem?_eq_getElem (by omega)]
    exact bl_lt S _ (List.getElem_mem (by omega))
  have xo := xor_u8 C Y hC2 hY
  have HO := Lib.hid (show oneB S k Y = textN ((bl S).set k (C ^^^ Y)) by unfold oneB; rw [hC])
  have HZ : Hid (∀ w : World, (binOp .eql 25 (.agg #[.int .i64 0, .int .i64 0, .int .u64 0, .int .u64 0, .string ⟨#[]⟩]) (.agg #[.int .i64 0, .int .i64 0, .int .u64 0, .int .u64 0, .string ⟨#[]⟩])).run Tryd.prog w = .ok (.bool true) w) := Lib.hid (eq_f Fr.zero Fr.zero true (by simp)).1
  have HZ2 : Hid (∀ (a b : Operand) (w : World), (eqGuard .eql 25 a b (.agg #[.int .i64 0, .int .i64 0, .int .u64 0, .int .u64 0, .string ⟨#[]⟩]) (.agg #[.int .i64 0, .int .i64 0, .int .u64 0, .int .u64 0, .string ⟨#[]⟩])).run Tryd.prog w = .ok () w) := Lib.hid (eq_f Fr.zero Fr.zero true (by simp)).2
  have HCC := Lib.hid hC
  have HLN := Lib.hid hlen
  clear hw hf hr p1 g1 hsz hS n1 n2 n3 z1 hC hlen hY0 hb64 hk hkl
  go_enter Tryd.func6, Tryd.ntmps6
  go_wp2_with (first
    | (go_at_call 9; refine (awake_any _ (HT.out _ (Ext.refl _))).mono ?_; rintro e w1 ⟨rfl, x1⟩; have k1 := HK.out w1 x1)
    | (go_at_call 11; refine (cRf.out _).mono ?_; rintro e w2 ⟨rfl, x2⟩; have y2 := Lib.hid (Ext.trans x1 x2); have k2 := HK.out w2 y2.out; clear x2 k1)
    | (go_at_call 10; refine (cP.out _ (HT.out _ y2.out)).mono ?_; rintro e w3 ⟨rfl, x3⟩; have y3 := Lib.hid (Ext.trans y2.out x3); clear x3 k2;
       have hb3 := newB_byt w3 S; have cv := hb3.cell k (by rw [HLN.out]; exact HKL.out); rw [← HCC.out] at cv; have fr := hb3.free k (by rw [HLN.out]; exact HKL.out);
       have cvt := (hb3.set k (C ^^^ Y) (by rw [HLN.out]; exact HKL.out)).text S.size (capB w3 S) (by rw [List.length_set]; exact HLN.out); rw [← HO.out] at cvt; clear hb3;
       have y4 := Lib.hid (below_set (d := ⟨w3.heap.size, k, none⟩) (Ext.trans y3.out (newB_ext w3 S)) y3.out.size (.int .u8 ((C ^^^ Y : Nat) : Int))))
    | (go_at_call 15; have hgd := y6; obtain ⟨K3, hK3, cc⟩ := c3.out _ (HT.out _ (Ext.alloc (Ext.alloc y6.out (.cells #[.int .i64 0, .int .i64 0, .int .u64 0, .int .u64 0, .string ⟨#[]⟩] 25)) (.cells #[.int .u8 (Y : Int)] 5))); refine cc.mono ?_; rintro e w7 ⟨rfl, x7⟩; clear cc;
       have y7 := Lib.hid (Ext.trans (Ext.alloc (Ext.alloc y6.out (.cells #[.int .i64 0, .int .i64 0, .int .u64 0, .int .u64 0, .string ⟨#[]⟩] 25)) (.cells #[.int .u8 (Y : Int)] 5)) x7);
       have b6 := blk_later (blk_alloc (get_alloc_new w6 (.cells #[.int .i64 0, .int .i64 0, .int .u64 0, .int .u64 0, .string ⟨#[]⟩] 25)) (.cells #[.int .u8 (Y : Int)] 5)) x7;
       have b5' := blk_later (blk_alloc (blk_alloc b5.out (.cells #[.int .i64 0, .int .i64 0, .int .u64 0, .int .u64 0, .string ⟨#[]⟩] 25)) (.cells #[.int .u8 (Y : Int)] 5)) x7;
       have m5 := (five_cells (blk_alloc b5' (.cells #[.int .i64 0, .int .i64 0, .int .u64 0, .int .u64 0, .string ⟨#[]⟩] 25))).1; have m6 := (five_cells (blk_alloc b6 (.cells #[.int .i64 0, .int .i64 0, .int .u64 0, .int .u64 0, .string ⟨#[]⟩] 25))).1; have m7 := (five_cells (get_alloc_new w7 (.cells #[.int .i64 0, .int .i64 0, .int .u64 0, .int .u64 0, .string ⟨#[]⟩] 25))).1; clear x7 b6 b5'; have hz := HZ.out; have hz2 := HZ2.out)
    | (go_at_call 15; have hgd := y5; obtain ⟨K2, hK2, cc⟩ := c2.out _ (HT.out _ (Ext.alloc y5.out (.cells #[.int .i64 0, .int .i64 0, .int .u64 0, .int .u64 0, .string ⟨#[]⟩] 25))); refine cc.mono ?_; rintro e w6 ⟨rfl, x6⟩; clear cc; have y6 := Lib.hid (Ext.trans (Ext.alloc y5.out (.cells #[.int .i64 0, .int .i64 0, .int .u64 0, .int .u64 0, .string ⟨#[]⟩] 25)) x6); have b5 := Lib.hid (late_blk x6); clear x6)
    | (go_at_call 15; obtain ⟨K1, hK1, cc⟩ := c1.out _ (HT.out _ y4.out); refine cc.mono ?_; rintro e w5 ⟨rfl, x5⟩; clear cc; have y5 := Lib.hid (Ext.trans y4.out x5); clear x5 cv fr cvt))
  go_ret
  exact ⟨rfl, HE.out _ (Ext.alloc y7.out _)⟩

set_option maxRecDepth 100000 in
set_option maxHeartbeats 1600000 in
theorem frameTurned_n (w : World) (hw : Std w) (f : Fr) (hr : rightB f = false) (A Y : Nat) :
    Calls Tryd.prog 6 #[.agg #[.int .i64 f.k, .int .i64 f.e, .int .u64 (f.q : Int), .int .u64 (f.a : Int), .string f.b], .int .u8 (A : Int), .int .u8 (Y : Int)] w fun e w' => e = .returned (.bool true) ∧ Ext w w' := by
  have HT : Hid (∀ W, Ext (w.alloc (.cells #[.int .i64 f.k, .int .i64 f.e, .int .u64 (f.q : Int), .int .u64 (f.a : Int), .string f.b] 25)) W → Std W) := Lib.hid fun W x => hw.ext (Ext.trans ((Ext.refl w).alloc _) x)
  have HK : Hid (∀ W, Ext (w.alloc (.cells #[.int .i64 f.k, .int .i64 f.e, .int .u64 (f.q : Int), .int .u64 (f.a : Int), .string f.b] 25)) W → (W.cell? ⟨w.heap.size, 0, none⟩ = some (.int .i64 f.k) ∧ W.cell? ⟨w.heap.size, 1, none⟩ = some (.int .i64 f.e) ∧ W.cell? ⟨w.heap.size, 2, none⟩ = some (.int .u64 (f.q : Int)) ∧ W.cell? ⟨w.heap.size, 3, none⟩ = some (.int .u64 (f.a : Int)) ∧ W.cell? ⟨w.heap.size, 4, none⟩ = some (.string f.b))) := Lib.hid fun W x => (five_cells (late_blk x)).1
  have HE : Hid (∀ W, Ext (w.alloc (.cells #[.int .i64 f.k, .int .i64 f.e, .int .u64 (f.q : Int), .int .u64 (f.a : Int), .string f.b] 25)) W → Ext w W) := Lib.hid fun W x => Ext.trans ((Ext.refl w).alloc _) x
  have cRf := Lib.hid (fun W => right_any W f.k f.e f.q f.a f.b)
  change Hid (∀ W, Calls Tryd.prog 11 #[.agg #[.int .i64 f.k, .int .i64 f.e, .int .u64 (f.q : Int), .int .u64 (f.a : Int), .string f.b]] W fun ev w' => ev = .returned (.bool (rightB f)) ∧ Ext W w') at cRf
  rw [hr] at cRf
  clear hw hr
  go_enter Tryd.func6, Tryd.ntmps6
  go_wp2_with (first
    | (go_at_call 9; have hgd := y2; refine (awake_any _ (HT.out _ y2.out)).mono ?_; rintro e w9 ⟨rfl, x9⟩)
    | (go_at_call 9; refine (awake_any _ (HT.out _ (Ext.refl _))).mono ?_; rintro e w1 ⟨rfl, x1⟩; have k1 := HK.out w1 x1)
    | (go_at_call 11; refine (cRf.out _).mono ?_; rintro e w2 ⟨rfl, x2⟩; have y2 := Lib.hid (Ext.trans x1 x2); have k2 := HK.out w2 y2.out; clear x2 k1))
  go_ret
  exact ⟨rfl, HE.out _ (Ext.trans y2.out x9)⟩

set_option maxRecDepth 100000 in
set_option maxHeartbeats 1600000 in
theorem frameTurned_zero (w : World) (hw : Std w) (f : Fr) (hr : rightB f = true) (A : Nat) :
    Calls Tryd.prog 6 #[.agg #[.int .i64 f.k, .int .i64 f.e, .int .u64 (f.q : Int), .int .u64 (f.a : Int), .string f.b], .int .u8 (A : Int), .int .u8 0] w fun e w' => e = .returned (.bool true) ∧ Ext w w' := by
  have HT : Hid (∀ W, Ext (w.alloc (.cells #[.int .i64 f.k, .int .i64 f.e, .int .u64 (f.q : Int), .int .u64 (f.a : Int), .string f.b] 25)) W → Std W) := Lib.hid fun W x => hw.ext (Ext.trans ((Ext.refl w).alloc _) x)
  have HK : Hid (∀ W, Ext (w.alloc (.cells #[.int .i64 f.k, .int .i64 f.e, .int .u64 (f.q : Int), .int .u64 (f.a : Int), .string f.b] 25)) W → (W.cell? ⟨w.heap.size, 0, none⟩ = some (.int .i64 f.k) ∧ W.cell? ⟨w.heap.size, 1, none⟩ = some (.int .i64 f.e) ∧ W.cell? ⟨w.heap.size, 2, none⟩ = some (.int .u64 (f.q : Int)) ∧ W.cell? ⟨w.heap.size, 3, none⟩ = some (.int .u64 (f.a : Int)) ∧ W.cell? ⟨w.heap.size, 4, none⟩ = some (.string f.b))) := Lib.hid fun W x => (five_cells (late_blk x)).1
  have HE : Hid (∀ W, Ext (w.alloc (.cells #[.int .i64 f.k, .int .i64 f.e, .int .u64 (f.q : Int), .int .u64 (f.a : Int), .string f.b] 25)) W → Ext w W) := Lib.hid fun W x => Ext.trans ((Ext.refl w).alloc _) x
  have cRf := Lib.hid (fun W => right_any W f.k f.e f.q f.a f.b)
  change Hid (∀ W, Calls Tryd.prog 11 #[.agg #[.int .i64 f.k, .int .i64 f.e, .int .u64 (f.q : Int), .int .u64 (f.a : Int), .string f.b]] W fun ev w' => ev = .returned (.bool (rightB f)) ∧ Ext W w') at cRf
  rw [hr] at cRf
  clear hw hr
  go_enter Tryd.func6, Tryd.ntmps6
  go_wp2_with (first
    | (go_at_call 9; have hgd := y2; refine (awake_any _ (HT.out _ y2.out)).mono ?_; rintro e w9 ⟨rfl, x9⟩)
    | (go_at_call 9; refine (awake_any _ (HT.out _ (Ext.refl _))).mono ?_; rintro e w1 ⟨rfl, x1⟩; have k1 := HK.out w1 x1)
    | (go_at_call 11; refine (cRf.out _).mono ?_; rintro e w2 ⟨rfl, x2⟩; have y2 := Lib.hid (Ext.trans x1 x2); have k2 := HK.out w2 y2.out; clear x2 k1))
  go_ret
  exact ⟨rfl, HE.out _ (Ext.trans y2.out x9)⟩
end Go.Proofs.YtkfabocnhkmneaaDoor
