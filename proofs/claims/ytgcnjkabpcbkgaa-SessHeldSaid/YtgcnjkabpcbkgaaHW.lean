/- Layer 17, the laws: the chapter's example. -/
import Derived.Test.YtgcnjkabpcbkgaaHX
import Derived.Test.YtgcnjkabpcbkgaaHS
import Derived.Test.YtgcnjkabpcbkgaaHO
namespace Go.Proofs.Ytgcnjkabpcbkgaa
open Go.RowKit

set_option maxRecDepth 100000 in
set_option maxHeartbeats 16000000 in
theorem awakeH_any (w : World) : Calls Try.prog 9 #[] w fun e w' => e = .returned (.bool true) ∧ Ext w w' := by
  obtain ⟨wa, hwa⟩ : ∃ q, q = w.alloc (.cells #[.int .i64 1] 3) := ⟨_, rfl⟩
  have Xa : Hid (Ext w wa) := Lib.hid (by rw [hwa]; exact (Ext.refl w).alloc _)
  have Sa1 : Hid (Sl wa (.slice (some ⟨w.heap.size, 0, none⟩) 1 1) ([1] : List Int)) := Lib.hid (by rw [hwa]; exact Sl.litAt w _ rfl [1] (by simp))
  have Hwa := Lib.hid hwa
  have C1 : Hid (Calls Try.prog 26 #[.agg #[.int .i64 0, .slice none 0 0], .int .i64 3, .slice (some ⟨w.heap.size, 0, none⟩) 1 1] wa (GivesBk Non wa (bk1, 0))) := Lib.hid (ex_open1 ▸ sessOpen_any Non wa 0 3 _ _ [] [1] (Ns.nil _ _) Sa1.out (by simp) (by simp) (fun b hb => hb.elim))
  clear hwa
  go_enter Try.func9, Try.ntmps9
  go_wp2_with (first
      | (go_at_call 26; refine (Hwa.out ▸ C1.out).mono ?_; rintro e w1 ⟨a1, m1, c1, rfl, n1, x1⟩; dsimp only [bk1, bk2, bkC, bkD, bkE, bkY, noH] at n1 ⊢; have N1 := Lib.hid n1; have X1 : Hid (Ext w w1) := Lib.hid (Xa.out.trans (by first | exact x1 | exact Hwa.out ▸ x1)); clear n1 x1)
      | refine haltst 24 ?_)
  refine .inl ?_
  obtain ⟨g1, hg1⟩ : ∃ g, g = w1.heap.size := ⟨_, rfl⟩
  have hb1 := at0 w1 (.cells #[.int .i64 0, .slice none 0 0] 24)
  rw [← hg1] at hb1 ⊢
  refine st_l 24 (.tmp 1) (.tmp 26) g1 0 24 _ #[.int .i64 3, .slice a1 m1 c1] _ rfl rfl hb1 (by kernel_rfl) (by simp) rfl rfl ?_
  intro W1 hW1 o1
  simp only [Act.put]
  have D1 := Lib.hid hW1
  have E1 : Hid (Ext w1 W1) := Lib.hid (ext_off ((Ext.refl w1).alloc _) o1 (fun b hb => by omega))
  have G1 : Hid (w1.heap.size ≤ g1) := Lib.hid (by omega)
  clear hW1 o1 hb1 hg1
  obtain ⟨wb, hwb⟩ : ∃ q, q = W1.alloc (.cells #[.int .i64 2, .int .i64 1, .int .i64 2] 3) := ⟨_, rfl⟩
  have Xb : Hid (Ext W1 wb) := Lib.hid (hwb ▸ (Ext.refl W1).alloc _)
  have Sb : Hid (Sl wb (.slice (some ⟨W1.heap.size, 0, none⟩) 3 3) ([2, 1, 2] : List Int)) := Lib.hid (by rw [hwb]; exact Sl.litAt W1 _ rfl [2, 1, 2] (by simp))
  have Hwb := Lib.hid hwb
  have C2 : Hid (Calls Try.prog 26 #[.agg #[.int .i64 3, .slice a1 m1 c1], .int .i64 5, .slice (some ⟨W1.heap.size, 0, none⟩) 3 3] wb (GivesBk (fun b => b = g1) wb (bk2, 0))) := Lib.hid (ex_open2 ▸ sessOpen_any (fun b => b = g1) wb 3 5 _ _ _ [2, 1, 2] ((N1.out.grow (G := fun b => b = g1) (fun b hb => .inr (by have := G1.out; omega))).ext (E1.out.trans Xb.out)) Sb.out (by simp) (by simp) (fun b hb => by have := blk_lt (keepU D1.out Xb.out); omega))
  clear hwb
  have d0 := blk_cell D1.out 0 rfl
  have d1 := blk_cell D1.out 1 rfl
  go_wp2_with (first
      | (go_at_call 26; refine (Hwb.out ▸ C2.out).mono ?_; rintro e w2 ⟨a2, m2, c2, rfl, n2, x2⟩; dsimp only [bk1, bk2, bkC, bkD, bkE, bkY, noH] at n2 ⊢; have N2 := Lib.hid n2; have X2 : Hid (Ext W1 w2) := Lib.hid (Xb.out.trans (by first | exact x2 | exact Hwb.out ▸ x2)); clear n2 x2)
      | refine haltst 24 ?_)
  refine .inl ?_
  refine st_l 24 (.tmp 1) (.tmp 32) g1 0 24 _ #[.int .i64 5, .slice a2 m2 c2] _ rfl rfl (keepU D1.out X2.out) (by kernel_rfl) (by simp) rfl rfl ?_
  intro W2 hW2 o2
  simp only [Act.put]
  have D2 := Lib.hid hW2
  have N2' : Hid (Ns HV Non W2 (.slice a2 m2 c2) [(⟨3, [1], 0, 0⟩ : Se), ⟨5, [1, 2], 0, 0⟩]) := Lib.hid (ns_non (N2.out.off o2 (Grows.refl _ _)))
  have E2 : Hid (Ext w W2) := Lib.hid (ext_off (X1.out.trans (E1.out.trans X2.out)) o2 (fun b hb => by have := G1.out; have := Below.size X1.out; omega))
  have C3 : Hid (Calls Try.prog 23 #[.agg #[.int .i64 5, .slice a2 m2 c2]] W2 (GivesBkN Non W2 (bkC, 3, 0))) := Lib.hid (ex_grant ▸ sessGrant_any Non W2 5 _ _ N2'.out (by simp) (fun b hb => hb.elim))
  clear hW2 o2 d0 d1
  have d0 := blk_cell D2.out 0 rfl
  have d1 := blk_cell D2.out 1 rfl
  go_wp2_with (first
      | (go_at_call 23; refine (C3.out).mono ?_; rintro e w3 ⟨a3, m3, c3, rfl, n3, x3⟩; dsimp only [bk1, bk2, bkC, bkD, bkE, bkY, noH] at n3 ⊢; have N3 := Lib.hid n3; have X3 : Hid (Ext W2 w3) := Lib.hid x3; clear n3 x3)
      | refine haltst 24 ?_)
  refine .inl ?_
  obtain ⟨g3, hg3⟩ : ∃ g, g = w3.heap.size := ⟨_, rfl⟩
  have hb3 := at0 w3 (.cells #[.int .i64 0, .slice none 0 0] 24)
  rw [← hg3] at hb3 ⊢
  refine st_l 24 (.tmp 4) (.tmp 37) g3 0 24 _ #[.int .i64 5, .slice a3 m3 c3] _ rfl rfl hb3 (by kernel_rfl) (by simp) rfl rfl ?_
  intro W3 hW3 o3
  simp only [Act.put]
  have D3 := Lib.hid hW3
  have E3 : Hid (Ext w3 W3) := Lib.hid (ext_off ((Ext.refl w3).alloc _) o3 (fun b hb => by omega))
  have G3 : Hid (w3.heap.size ≤ g3) := Lib.hid (by omega)
  clear hW3 o3 hb3 hg3
  have HC : Hid (∀ V, Ext W3 V → V.cell? ⟨g3, 0, none⟩ = some (.int .i64 5) ∧ V.cell? ⟨g3, 1, none⟩ = some (.slice a3 m3 c3)) := Lib.hid fun V hV => ⟨blk_cell (keepU D3.out hV) 0 rfl, blk_cell (keepU D3.out hV) 1 rfl⟩
  have NC : Hid (∀ V, Ext W3 V → Ns HV Non V (.slice a3 m3 c3) [(⟨3, [1], 1, 0⟩ : Se), ⟨5, [1, 2], 0, 0⟩]) := Lib.hid fun V hV => N3.out.ext (E3.out.trans hV)
  clear d0 d1
  obtain ⟨c0, c1⟩ := HC.out W3 (Ext.refl _)
  have C4 : Hid (Calls Try.prog 15 #[.agg #[.int .i64 5, .slice a3 m3 c3], .int .i64 3] W3 fun e w' => e = .returned (.tuple #[.int .i64 1, .int .i64 0]) ∧ Ext W3 w') := Lib.hid (by
    have := sessPoll_any Non W3 5 3 _ _ (NC.out W3 (Ext.refl _)) (by simp)
    rw [show pollH (5, [(⟨3, [1], 1, 0⟩ : Se), ⟨5, [1, 2], 0, 0⟩]) 3 = (1, 0) from ex_poll] at this
    exact this)
  have C5 : Hid (∀ V, Ext W3 V → Calls Try.prog 27 #[.agg #[.int .i64 5, .slice a3 m3 c3], .int .i64 3] V (GivesBk Non V (bkD, 0))) := Lib.hid fun V hV => ex_release ▸ sessRelease_any Non V 5 3 _ _ (NC.out V hV) (by simp) (fun b hb => hb.elim)
  have C7 : Hid (∀ V, Ext W3 V → Calls Try.prog 24 #[.agg #[.int .i64 5, .slice a3 m3 c3], .int .i64 1] V (GivesBkN Non V (bkD, 3, 0))) := Lib.hid fun V hV => ex_tick ▸ sessTick_any Non V 5 1 _ _ (NC.out V hV) (by simp) (fun b hb => hb.elim)
  have C8 : Hid (∀ V, Ext W3 V → Calls Try.prog 25 #[.agg #[.int .i64 5, .slice a3 m3 c3], .int .i64 2] V (GivesBkL Non V (bkY, [5], 0))) := Lib.hid fun V hV => ex_gone ▸ sessGone_any Non V 5 2 _ _ (NC.out V hV) (by simp) (fun b hb => hb.elim)
  have C9 : Hid (∀ V, Ext W3 V → Calls Try.prog 28 #[.agg #[.int .i64 5, .slice a3 m3 c3], .int .i64 3] V (GivesBk Non V (noH, 175))) := Lib.hid fun V hV => ex_cancel ▸ sessCancel_any Non V 5 3 _ _ (NC.out V hV) (by simp) (fun b hb => hb.elim)
  go_wp2_with (first
      | (go_at_call 15; refine (C4.out).mono ?_; rintro e w4 ⟨rfl, x4⟩; have X4 : Hid (Ext W3 w4) := Lib.hid x4; clear x4 c0 c1; obtain ⟨c0, c1⟩ := HC.out w4 X4.out)
      | (go_at_call 27; refine (C5.out w4 X4.out).mono ?_; rintro e w5 ⟨a5, m5, c5, rfl, n5, x5⟩; dsimp only [bk1, bk2, bkC, bkD, bkE, bkY, noH] at n5 ⊢; have N5 := Lib.hid n5; have X5 : Hid (Ext W3 w5) := Lib.hid (X4.out.trans x5); clear n5 x5)
      | refine haltst 24 ?_)
  refine .inl ?_
  obtain ⟨g5, hg5⟩ : ∃ g, g = w5.heap.size := ⟨_, rfl⟩
  have hb5 := at0 w5 (.cells #[.int .i64 0, .slice none 0 0] 24)
  rw [← hg5] at hb5 ⊢
  refine st_l 24 (.tmp 9) (.tmp 48) g5 0 24 _ #[.int .i64 5, .slice a5 m5 c5] _ rfl rfl hb5 (by kernel_rfl) (by simp) rfl rfl ?_
  intro W5 hW5 o5
  simp only [Act.put]
  have D5 := Lib.hid hW5
  have E5 : Hid (Ext w5 W5) := Lib.hid (ext_off ((Ext.refl w5).alloc _) o5 (fun b hb => by omega))
  have G5 : Hid (w5.heap.size ≤ g5) := Lib.hid (by omega)
  clear hW5 o5 hb5 hg5
  have F5 : Hid (Ext W3 W5) := Lib.hid (X5.out.trans E5.out)
  have HD : Hid (∀ V, Ext W5 V → V.cell? ⟨g5, 0, none⟩ = some (.int .i64 5) ∧ V.cell? ⟨g5, 1, none⟩ = some (.slice a5 m5 c5)) := Lib.hid fun V hV => ⟨blk_cell (keepU D5.out hV) 0 rfl, blk_cell (keepU D5.out hV) 1 rfl⟩
  have ND : Hid (∀ V, Ext W5 V → Ns HV Non V (.slice a5 m5 c5) [(⟨5, [1, 2], 0, 0⟩ : Se)]) := Lib.hid fun V hV => N5.out.ext (E5.out.trans hV)
  clear c0 c1
  obtain ⟨d0, d1⟩ := HD.out W5 (Ext.refl _)
  have C6 : Hid (Calls Try.prog 23 #[.agg #[.int .i64 5, .slice a5 m5 c5]] W5 (GivesBkN Non W5 (bkE, 5, 0))) := Lib.hid (ex_grant2 ▸ sessGrant_any Non W5 5 _ _ (ND.out W5 (Ext.refl _)) (by simp) (fun b hb => hb.elim))
  go_wp2_with (first
      | (go_at_call 23; refine (C6.out).mono ?_; rintro e w6 ⟨a6, m6, c6, rfl, n6, x6⟩; dsimp only [bk1, bk2, bkC, bkD, bkE, bkY, noH] at n6 ⊢; have N6 := Lib.hid n6; have X6 : Hid (Ext W5 w6) := Lib.hid x6; clear n6 x6)
      | refine haltst 24 ?_)
  refine .inl ?_
  obtain ⟨g6, hg6⟩ : ∃ g, g = w6.heap.size := ⟨_, rfl⟩
  have hb6 := at0 w6 (.cells #[.int .i64 0, .slice none 0 0] 24)
  rw [← hg6] at hb6 ⊢
  refine st_l 24 (.tmp 11) (.tmp 53) g6 0 24 _ #[.int .i64 5, .slice a6 m6 c6] _ rfl rfl hb6 (by kernel_rfl) (by simp) rfl rfl ?_
  intro W6 hW6 o6
  simp only [Act.put]
  have D6 := Lib.hid hW6
  have E6 : Hid (Ext w6 W6) := Lib.hid (ext_off ((Ext.refl w6).alloc _) o6 (fun b hb => by omega))
  have G6 : Hid (w6.heap.size ≤ g6) := Lib.hid (by omega)
  clear hW6 o6 hb6 hg6
  have F6 : Hid (Ext W5 W6) := Lib.hid (X6.out.trans E6.out)
  clear d0 d1
  obtain ⟨c0, c1⟩ := HC.out W6 (F5.out.trans F6.out)
  go_wp2_with (first
      | (go_at_call 24; refine (C7.out W6 (F5.out.trans F6.out)).mono ?_; rintro e w7 ⟨a7, m7, c7, rfl, n7, x7⟩; dsimp only [bk1, bk2, bkC, bkD, bkE, bkY, noH] at n7 ⊢; obtain rfl : m7 = 1 := (by obtain ⟨_, _, e⟩ := n7.len; simp only [Value.slice.injEq] at e; exact e.2.1); have N7 := Lib.hid n7; have X7 : Hid (Ext W6 w7) := Lib.hid x7; clear n7 x7)
      | refine haltst 24 ?_)
  refine .inl ?_
  obtain ⟨g7, hg7⟩ : ∃ g, g = w7.heap.size := ⟨_, rfl⟩
  have hb7 := at0 w7 (.cells #[.int .i64 0, .slice none 0 0] 24)
  rw [← hg7] at hb7 ⊢
  refine st_l 24 (.tmp 14) (.tmp 59) g7 0 24 _ #[.int .i64 5, .slice a7 1 c7] _ rfl rfl hb7 (by kernel_rfl) (by simp) rfl rfl ?_
  intro W7 hW7 o7
  simp only [Act.put]
  have D7 := Lib.hid hW7
  have E7 : Hid (Ext w7 W7) := Lib.hid (ext_off ((Ext.refl w7).alloc _) o7 (fun b hb => by omega))
  have G7 : Hid (w7.heap.size ≤ g7) := Lib.hid (by omega)
  clear hW7 o7 hb7 hg7
  have F7 : Hid (Ext W5 W7) := Lib.hid (F6.out.trans (X7.out.trans E7.out))
  clear c0 c1
  obtain ⟨c0, c1⟩ := HC.out W7 (F5.out.trans F7.out)
  go_wp2_with (first
      | (go_at_call 25; refine (C8.out W7 (F5.out.trans F7.out)).mono ?_; rintro e w8 ⟨a8, m8, c8, b8, k8, d8, rfl, n8, s8, x8⟩; dsimp only [bk1, bk2, bkC, bkD, bkE, bkY, noH] at n8 s8 ⊢; obtain rfl : m8 = 1 := (by obtain ⟨_, _, e⟩ := n8.len; simp only [Value.slice.injEq] at e; exact e.2.1); have N8 := Lib.hid n8; have S8 := Lib.hid s8.sl; have X8 : Hid (Ext W7 w8) := Lib.hid x8; clear n8 s8 x8)
      | refine haltst 24 ?_)
  refine .inl ?_
  obtain ⟨g8, hg8⟩ : ∃ g, g = w8.heap.size := ⟨_, rfl⟩
  have hb8 := at0 w8 (.cells #[.int .i64 0, .slice none 0 0] 24)
  rw [← hg8] at hb8 ⊢
  refine st_l 24 (.tmp 17) (.tmp 65) g8 0 24 _ #[.int .i64 5, .slice a8 1 c8] _ rfl rfl hb8 (by kernel_rfl) (by simp) rfl rfl ?_
  intro W8 hW8 o8
  simp only [Act.put]
  have D8 := Lib.hid hW8
  have E8 : Hid (Ext w8 W8) := Lib.hid (ext_off ((Ext.refl w8).alloc _) o8 (fun b hb => by omega))
  have G8 : Hid (w8.heap.size ≤ g8) := Lib.hid (by omega)
  clear hW8 o8 hb8 hg8
  have F8 : Hid (Ext W5 W8) := Lib.hid (F7.out.trans (X8.out.trans E8.out))
  clear c0 c1
  obtain ⟨c0, c1⟩ := HC.out W8 (F5.out.trans F8.out)
  go_wp2_with (first
      | (go_at_call 28; refine (C9.out W8 (F5.out.trans F8.out)).mono ?_; rintro e w9 ⟨a9, m9, c9, rfl, n9, x9⟩; dsimp only [bk1, bk2, bkC, bkD, bkE, bkY, noH] at n9 ⊢; have N9 := Lib.hid n9; have X9 : Hid (Ext W8 w9) := Lib.hid x9; clear n9 x9)
      | refine haltst 24 ?_)
  refine .inl ?_
  obtain ⟨g9, hg9⟩ : ∃ g, g = w9.heap.size := ⟨_, rfl⟩
  have hb9 := at0 w9 (.cells #[.int .i64 0, .slice none 0 0] 24)
  rw [← hg9] at hb9 ⊢
  refine st_l 24 (.tmp 20) (.tmp 71) g9 0 24 _ #[.int .i64 0, .slice a9 m9 c9] _ rfl rfl hb9 (by kernel_rfl) (by simp) rfl rfl ?_
  intro W9 hW9 o9
  simp only [Act.put]
  have D9 := Lib.hid hW9
  have E9 : Hid (Ext w9 W9) := Lib.hid (ext_off ((Ext.refl w9).alloc _) o9 (fun b hb => by omega))
  have G9 : Hid (w9.heap.size ≤ g9) := Lib.hid (by omega)
  clear hW9 o9 hb9 hg9
  have F9 : Hid (Ext W5 W9) := Lib.hid (F8.out.trans (X9.out.trans E9.out))
  clear c0 c1
  have Y7 : Hid (Ext W7 W9) := Lib.hid (X8.out.trans (E8.out.trans (X9.out.trans E9.out)))
  have Y8 : Hid (Ext W8 W9) := Lib.hid (X9.out.trans E9.out)
  have t7 := blk_cell (keepU D7.out Y7.out) 1 rfl
  have t8 := blk_cell (keepU D8.out Y8.out) 1 rfl
  obtain ⟨wz, hwz⟩ : ∃ q, q = W9.alloc (.cells #[.int .i64 5] 3) := ⟨_, rfl⟩
  have Xz : Hid (Ext W9 wz) := Lib.hid (hwz ▸ (Ext.refl W9).alloc _)
  have Sz : Hid (Sl wz (.slice (some ⟨W9.heap.size, 0, none⟩) 1 1) ([5] : List Int)) := Lib.hid (by rw [hwz]; exact Sl.litAt W9 _ rfl [5] (by simp))
  have Hwz := Lib.hid hwz
  have S8' : Hid (Sl wz (.slice b8 k8 d8) ([5] : List Int)) := Lib.hid (S8.out.ext (E8.out.trans (Y8.out.trans Xz.out)))
  clear hwz
  go_wp2_with (first
      | (go_at_call 19; refine (Hwz.out ▸ refSame_val true wz _ _ [5] [5] S8'.out Sz.out rfl).mono ?_; rintro e wq ⟨rfl, xq⟩; have Zq : Hid (Ext W9 wq) := Lib.hid (Xz.out.trans (by first | exact Ext.of_drew xq | exact Hwz.out ▸ Ext.of_drew xq)); clear xq; obtain ⟨c0, c1⟩ := HC.out wq (F5.out.trans (F9.out.trans Zq.out)); obtain ⟨d0, d1⟩ := HD.out wq (F9.out.trans Zq.out))
      | (go_at_call 20; refine (sessCheck_any Non wq 5 _ _ (NC.out wq (F5.out.trans (F9.out.trans Zq.out))) (by simp) true chk_C).mono ?_; rintro e wr ⟨rfl, xr⟩; have Zr : Hid (Ext W9 wr) := Lib.hid (Zq.out.trans xr); clear xr c0 c1 d0 d1; obtain ⟨c0, c1⟩ := HC.out wr (F5.out.trans (F9.out.trans Zr.out)); obtain ⟨d0, d1⟩ := HD.out wr (F9.out.trans Zr.out))
      | (have hgd := Zs; go_at_call 21; refine (sessSame_any Non Non ws 5 5 _ _ _ _ (NC.out ws (F5.out.trans (F9.out.trans Zs.out))) (ND.out ws (F9.out.trans Zs.out)) (by simp) (by simp) false (by decide)).mono ?_; rintro e wt ⟨rfl, xt⟩; have Zt : Hid (Ext W9 wt) := Lib.hid (Zs.out.trans xt); clear xt c0 c1 d0 d1)
      | (go_at_call 21; refine (sessSame_any Non Non wr 5 5 _ _ _ _ (NC.out wr (F5.out.trans (F9.out.trans Zr.out))) (NC.out wr (F5.out.trans (F9.out.trans Zr.out))) (by simp) (by simp) true (decide_eq_true rfl)).mono ?_; rintro e ws ⟨rfl, xs⟩; have Zs : Hid (Ext W9 ws) := Lib.hid (Zr.out.trans xs); clear xs c0 c1 d0 d1; obtain ⟨c0, c1⟩ := HC.out ws (F5.out.trans (F9.out.trans Zs.out)); obtain ⟨d0, d1⟩ := HD.out ws (F9.out.trans Zs.out)))
  go_ret
  exact ⟨rfl, E2.out.trans (X3.out.trans (E3.out.trans (F5.out.trans (F9.out.trans Zt.out))))⟩
end Go.Proofs.Ytgcnjkabpcbkgaa
