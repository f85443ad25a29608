/- Put, whatever the frame. -/
import Derived.Test.YtkfabocnhkmneaaDoorFP4
namespace Go.Proofs.YtkfabocnhkmneaaDoor
open Go.RowKit

theorem make_b (w : World) (n : Nat) (hn : n ≤ 1000) :
    ∃ w', (Instr.makeSlice 41 (.int .i64 0) (.int .i64 (27 + (n : Int)))).run Tryd.prog w = .ok (.slice (some ⟨w.heap.size, 0, none⟩) 0 (27 + n)) w' ∧ Ow w' w.heap.size (.slice (some ⟨w.heap.size, 0, none⟩) 0 (27 + n)) (b8 []) ∧ Ext w w' := by
  obtain ⟨i0, hi, hz0, hz1, hz2⟩ := info_parts (Elem.info (α := B8))
  have hz2 : i0.bytes = 1 := hz2
  obtain ⟨w', h1, h2, h3⟩ := run_make_own (P := Tryd.prog) w w.heap.size 41 (Elem.e B8) i0 (Elem.z B8) (Elem.k B8) (Elem.row (α := B8)) hi hz0 hz1 .i64 .i64 (27 + n) (by rw [hz2]; omega) (by unfold maxLen; omega) (Nat.le_refl _)
  refine ⟨w', ?_, ?_, (Below.refl _ w).grown h3 (Nat.le_refl _) (by simp)⟩
  · rw [← h1]
    rfl
  · exact h2

set_option maxHeartbeats 2000000 in
set_option maxRecDepth 100000 in
theorem put_good (w : World) (h : Std w) (K E q a : Nat) (b : ByteArray) (hK : K < 256) (hE : E < 65536) (hb : b.size ≤ 64) (hr : rightB ⟨K, E, q, a, b⟩ = true) :
    Calls Tryd.prog 10 #[.agg #[.int .i64 (K : Int), .int .i64 (E : Int), .int .u64 (q : Int), .int .u64 (a : Int), .string b]] w fun ev w' => ev = .returned (.tuple #[.string (putS K E q a b), .int .i64 0]) ∧ Ext w w' := by
  have cF := fun W => formFault_any W K E q a b
  rw [show formV ⟨K, E, q, a, b⟩ = .nilIface from by unfold formV; rw [if_pos hr]] at cF
  replace cF := Lib.hid cF
  have s1 : IntKind.u64.wrap (E : Int) = (E : Int) := wrapU _ (by omega) (by omega)
  have s2 : IntKind.u64.wrap (b.size : Int) = (b.size : Int) := wrapU _ (by omega) (by omega)
  have s3 : IntKind.u8.wrap (K : Int) = (K : Int) := by simp [IntKind.wrap, IntKind.bits, IntKind.signed]; omega
  have s4 : (K : Int) % 256 = (K : Int) := by omega
  have HTB : Hid (∀ W, Ext w W → Tab W) := Lib.hid (fun W x => (h.ext x).1)
  have HL3 : (b8 []).length + (b8 [78, 1, K]).length ≤ 100000000 := show (3 : Nat) ≤ 100000000 by decide
  obtain ⟨PL, hPL⟩ : ∃ PL, PL = putL K E q a b := ⟨_, rfl⟩
  have hlen : PL.length = 23 + b.size := by rw [hPL, putL_length]
  have HNE : Hid (PL ≠ []) := Lib.hid (by intro e0; rw [e0] at hlen; simp at hlen; omega)
  have HPB : ∀ x ∈ PL, x < 256 := by rw [hPL]; exact putL_lt hK
  have hM : moreN 0 PL < 4294967296 := moreN_lt (by decide) HPB
  have cM0 := fun W (hW : Tab W) => sum_any W (textN PL) hW (by rw [textN_size]; omega)
  rw [bl_textN HPB] at cM0
  obtain ⟨M, hM2⟩ : ∃ M, M = moreN 0 PL := ⟨_, rfl⟩
  rw [← hM2] at hM cM0
  have cM := Lib.hid (fun W (x : Ext w W) => cM0 W (HTB.out W x))
  have HLEN : Hid (PL.length + (tailN M).length ≤ 100000000) := Lib.hid (by rw [hlen]; show 23 + b.size + 4 ≤ _; omega)
  have HPL := Lib.hid hPL
  have HM := Lib.hid hM2
  clear h hr hPL hlen HPB hM2 cM0
  go_enter Tryd.func10, Tryd.ntmps10
  go_wp2_with (first
    | (go_at_call 18; refine (cF.out _).mono ?_; rintro e w2 ⟨rfl, x2⟩; have hb2 := late_blk x2; have H2 := Lib.hid hb2; have Y2 := Lib.hid (Ext.trans ((Ext.refl w).alloc _) x2); obtain ⟨w3, hmk, ho3, x3⟩ := make_b w2 b.size (by omega); have O3 := Lib.hid ho3; have X3 := Lib.hid x3; obtain ⟨k3, k4⟩ := five_cells hb2; obtain ⟨j3, j4⟩ := five_cells ((x3.block _ (blk_lt hb2)).trans hb2); have hs3 := x3.size; clear x2 hb2 x3 ho3)
    | (at_builtin; refine wpList_append_sl (α := B8) rfl (.tmp 17) (.tmp 21) rfl w2.heap.size _ (b8 []) rfl ?_ (.slice (some ⟨_, 0, none⟩) 3 3) (b8 [78, 1, K]) rfl ?_ ?_ ?_ ?_; exact (O3.out.alloc _); exact (Sl.litAt w3 _ rfl (b8 [78, 1, K]) (show (3 : Nat) ≤ 1000000 by decide)); (first | omega | (simp; omega)); (rw [size_alloc]; omega); intro v4 w4 ho4 ha4; rw [← b8_append] at ho4; have O4 := Lib.hid ho4; have y4 : Below w2.heap.size w2 w4 := (Below.trans (X3.out.alloc _) ha4.below); have Y4 := Lib.hid y4; obtain ⟨q3, q4⟩ := five_cells ((y4.block _ (blk_lt H2.out)).trans H2.out); have hs4 := y4.size; obtain ⟨a4, n4, c4, rfl⟩ := ho4.sh; clear ho4 ha4 y4)
    | (go_at_call 20; have hgd := gone7; refine (writeNumber_any _ w2.heap.size _ ([78, 1, K] ++ highN E 2 ++ highN q 8 ++ highN a 8) b.size 21 23 2 rfl O7.out (Nat.le_trans Y7.out.size (Nat.le_refl _)) (by decide) (by simp [highN_length])).mono ?_; rintro e w8 ⟨v8, rfl, ho8, x8⟩; have O8 := Lib.hid ho8; have y8 : Below w2.heap.size w2 w8 := Below.trans Y7.out x8; have Y8 := Lib.hid y8; obtain ⟨q3, q4⟩ := five_cells ((y8.block _ (blk_lt H2.out)).trans H2.out); obtain ⟨a8, n8, c8, rfl⟩ := ho8.sh; have gone8 := Lib.hid True.intro; clear ho8 x8 y8)
    | (go_at_call 20; have hgd := gone6; refine (writeNumber_any _ w2.heap.size _ ([78, 1, K] ++ highN E 2 ++ highN q 8) a 13 21 8 rfl O6.out (Nat.le_trans Y6.out.size (Nat.le_refl _)) (by decide) (by simp [highN_length])).mono ?_; rintro e w7 ⟨v7, rfl, ho7, x7⟩; have O7 := Lib.hid ho7; have y7 : Below w2.heap.size w2 w7 := Below.trans Y6.out x7; have Y7 := Lib.hid y7; obtain ⟨q3, q4⟩ := five_cells ((y7.block _ (blk_lt H2.out)).trans H2.out); obtain ⟨a7, n7, c7, rfl⟩ := ho7.sh; have gone7 := Lib.hid True.intro; clear ho7 x7 y7)
    | (go_at_call 20; have hgd := gone5; refine (writeNumber_any _ w2.heap.size _ ([78, 1, K] ++ highN E 2) q 5 13 8 rfl O5.out (Nat.le_trans Y5.out.size (Nat.le_refl _)) (by decide) (by simp [highN_length])).mono ?_; rintro e w6 ⟨v6, rfl, ho6, x6⟩; have O6 := Lib.hid ho6; have y6 : Below w2.heap.size w2 w6 := Below.trans Y5.out x6; have Y6 := Lib.hid y6; obtain ⟨q3, q4⟩ := five_cells ((y6.block _ (blk_lt H2.out)).trans H2.out); obtain ⟨a6, n6, c6, rfl⟩ := ho6.sh; have gone6 := Lib.hid True.intro; clear ho6 x6 y6)
    | (go_at_call 20; refine (writeNumber_any _ w2.heap.size _ ([78, 1, K]) E 3 5 2 rfl O4.out (Nat.le_trans Y4.out.size (Nat.le_refl _)) (by decide) (by simp)).mono ?_; rintro e w5 ⟨v5, rfl, ho5, x5⟩; have O5 := Lib.hid ho5; have y5 : Below w2.heap.size w2 w5 := Below.trans Y4.out x5; have Y5 := Lib.hid y5; obtain ⟨q3, q4⟩ := five_cells ((y5.block _ (blk_lt H2.out)).trans H2.out); obtain ⟨a5, n5, c5, rfl⟩ := ho5.sh; have gone5 := Lib.hid True.intro; clear ho5 x5 y5)
    | (at_builtin; have hgd := gone10; go_loud (refine wpList_append_text rfl (.tmp 46) (.tmp 50) rfl w2.heap.size _ PL rfl (O9.out.ext X10.out) (textN (tailN M)) rfl (by rw [textN_size]; exact HLEN.out) (Nat.le_trans Y9.out.size X10.out.size) ?_; intro v11 w11 ho11 x11; have hp := text_ow ho11 (by intro e0; exact HNE.out (List.append_eq_nil_iff.1 e0).1); obtain ⟨g11, c11, rfl, hg11, hcv11⟩ := hp; rw [List.length_append] at hcv11; have Y11 := Lib.hid (Below.trans (Below.trans Y9.out (X10.out.mono Y9.out.size)) x11); clear ho11 x11))
    | (at_builtin; have hgd := gone8; go_loud (refine wpList_append_text rfl (.tmp 42) (.tmp 44) rfl w2.heap.size _ ([78, 1, K] ++ highN E 2 ++ highN q 8 ++ highN a 8 ++ highN b.size 2) rfl O8.out b rfl (by simp [highN_length]; omega) Y8.out.size ?_; intro v9 w9 ho9 x9; have hp9 : Ow w9 w2.heap.size v9 (b8 (putL K E q a b)) := ho9; rw [← HPL.out] at hp9; have hp := text_ow hp9 HNE.out; obtain ⟨g9, c9, rfl, hg9, hcv9⟩ := hp; have O9 := Lib.hid hp9; have Y9 := Lib.hid (Below.trans Y8.out x9); clear ho9 x9 hp9))
    | (go_at_call 22; refine (cM.out w9 (Below.trans Y2.out (Y9.out.mono Y2.out.size))).mono ?_; rintro e w10 ⟨rfl, rfl⟩)
    | (go_at_call 21; refine (tail_any _ M hM).mono ?_; rintro e w10 ⟨rfl, x10⟩; have X10 := Lib.hid x10; have gone10 := Lib.hid True.intro; clear x10))
  go_ret2
  refine ⟨?_, Below.trans Y2.out (Y11.out.mono Y2.out.size)⟩
  have e9 : putS K E q a b = textN (PL ++ bl (textN (tailN M))) := by
    unfold putS
    rw [← HPL.out, ← HM.out, textN_append, bl_textN (tailN_lt hM)]
  rw [e9]
  rfl

set_option maxHeartbeats 800000 in
theorem put_bad (w : World) (h : Std w) (k e : Int) (q a : Nat) (b : ByteArray) (hr : rightB ⟨k, e, q, a, b⟩ = false) :
    Calls Tryd.prog 10 #[.agg #[.int .i64 k, .int .i64 e, .int .u64 (q : Int), .int .u64 (a : Int), .string b]] w fun ev w' => ev = .returned (.tuple #[.string ⟨#[]⟩, .int .i64 60]) ∧ Ext w w' := by
  have cF := fun W => formFault_any W k e q a b
  rw [show formV ⟨k, e, q, a, b⟩ = .iface 57 (.agg #[.int .i64 0, .int .i64 60]) from by unfold formV; rw [if_neg (by rw [hr]; decide)]] at cF
  replace cF := Lib.hid cF
  have cW := Lib.hid (fun W (x : Ext w W) => wrapped_any W (h.ext x) 0 60)
  clear h hr
  go_enter Tryd.func10, Tryd.ntmps10
  go_wp2_with (first
    | (go_at_call 18; refine (cF.out _).mono ?_; rintro e w2 ⟨rfl, x2⟩; have Y2 := Lib.hid (Ext.trans ((Ext.refl w).alloc _) x2); clear x2)
    | (go_at_call 19; refine (cW.out _ Y2.out).mono ?_; rintro e w3 ⟨rfl, x3⟩; have Y3 := Lib.hid (Ext.trans Y2.out x3); clear x3))
  go_ret2
  exact ⟨rfl, Y3.out⟩

theorem put_any (w : World) (h : Std w) (f : Fr) (_hf : f.In) :
    Calls Tryd.prog 10 #[.agg #[.int .i64 f.k, .int .i64 f.e, .int .u64 (f.q : Int), .int .u64 (f.a : Int), .string f.b]] w fun ev w' => ev = .returned (.tuple #[.string (putF f), .int .i64 (putE f : Nat)]) ∧ Ext w w' := by
  obtain ⟨k, e, q, a, b⟩ := f
  unfold putF putE
  by_cases hr : rightB ⟨k, e, q, a, b⟩ = true
  · rw [if_pos hr, if_pos hr]
    obtain ⟨h1, h2, h3, h4⟩ := (right_iff _ _ _ _ _).1 hr
    obtain ⟨K, rfl⟩ : ∃ K : Nat, k = (K : Int) := ⟨k.toNat, by omega⟩
    obtain ⟨E, rfl⟩ : ∃ E : Nat, e = (E : Int) := ⟨e.toNat, by omega⟩
    exact put_good w h K E q a b (by omega) (by omega) h3 hr
  · rw [if_neg hr, if_neg hr]
    exact put_bad w h k e q a b (by simpa using hr)
end Go.Proofs.YtkfabocnhkmneaaDoor
