/- Texts of this seat. -/
import Derived.Test.YtfbambemjokmgaaGreatNBC
namespace Go.Proofs.YtfbambemjokmgaaGreat
open Go.RowKit
theorem contains_tells (w : World) (v fv : Value) (L : List Sd) (p : Sd → Bool) (h : Sl w v L) (ht : Tells sval w fv p) (t : Bool) (hr : L.any p = t) :
    Calls Tryz.prog 142 #[v, fv] w fun e w' => e = .returned (.bool t) ∧ Ext w w' := by
  obtain ⟨g, lb, rfl, eg, hp⟩ := ht.any
  refine (containsFunc_sd w v L g lb (fun _ V => Ext w V) (fun _ s => p s) eg (fun _ W hW => h.ext hW) ?_ (Ext.refl w) t ?_ ?_).mono ?_
  · intro i s W hi hW
    exact (hp W s hW).mono fun e w' hh => ⟨hh.1, Ext.trans hW hh.2⟩
  · intro hall
    rw [← hr, List.any_eq_false]
    intro s hs
    obtain ⟨k, hk⟩ := List.getElem?_of_mem hs
    simpa using hall k s hk
  · intro k s hk hq _
    rw [← hr, List.any_eq_true]
    exact ⟨s, List.mem_of_getElem? hk, hq⟩
  · rintro e w' ⟨rfl, _, hx⟩
    exact ⟨rfl, hx⟩
theorem tellsOpens (w : World) : Tells sval w (.func (.func 201) #[] #[]) (fun s => decide (s.state = 1)) :=
  ⟨201, _, rfl, enters_of Tryz.func201 (by kernel_rfl) rfl, fun W s hb => by
    obtain ⟨y0, y1, y2, y3, y4, y5, y6, y7⟩ := s
    change Calls Tryz.prog _ #[.agg #[.int .i64 y0, .int .i64 y1, .int .i64 y2, .bool y3, .bool y4, .bool y5, .bool y6, .bool y7]] W _
    dsimp only
    have x2 := blk_cell (at0 W (.cells #[.int .i64 y0, .int .i64 y1, .int .i64 y2, .bool y3, .bool y4, .bool y5, .bool y6, .bool y7] 66)) 2 rfl
    have HX : Hid (Ext W (W.alloc (.cells #[.int .i64 y0, .int .i64 y1, .int .i64 y2, .bool y3, .bool y4, .bool y5, .bool y6, .bool y7] 66))) := Lib.hid ((Ext.refl W).alloc _)
    clear hb
    go_enter Tryz.func201, Tryz.ntmps201
    go_wp2
    go_ret
    exact ⟨rfl, HX.out⟩⟩
set_option maxRecDepth 100000 in
set_option maxHeartbeats 4000000 in
theorem due_any (w : World) (id ph th : Int) (v nv : Value) (L : List Sd) (N : List Int) (h : Sl w v L) (hN : Sl w nv N) :
    Calls Tryz.prog 174 #[.agg #[.int .i64 id, .int .i64 ph, v, .int .i64 th, nv]] w fun e w' => e = .returned (.int .i64 (turnK th (isOpening L) ph)) ∧ Ext w w' := by
  obtain ⟨ao, c, rfl⟩ := h.len
  obtain ⟨na, nc, rfl⟩ := hN.len
  obtain ⟨W0, hW0⟩ : ∃ W0, W0 = w.alloc (.cells #[.int .i64 id, .int .i64 ph, .slice ao L.length c, .int .i64 th, .slice na N.length nc] 63) := ⟨_, rfl⟩
  have X0 : Hid (Ext w W0) := Lib.hid (hW0 ▸ (Ext.refl w).alloc _)
  have b0 : W0.heap[w.heap.size]? = some (.cells #[.int .i64 id, .int .i64 ph, .slice ao L.length c, .int .i64 th, .slice na N.length nc] 63 (0, 0)) := hW0 ▸ at0 w _
  obtain ⟨⟨d0, d1, d2⟩, d3, d4⟩ := cells5 b0
  have HW0 := Lib.hid hW0
  have HS := Lib.hid (h.ext X0.out)
  obtain ⟨op, hop⟩ : ∃ op, isOpening L = op := ⟨_, rfl⟩
  have HOP := Lib.hid hop
  rw [hop]
  clear h hN hW0 b0 hop
  by_cases e1 : th = 1
  · have t1 : (th == 1) = true := by simp [e1]
    have t1n : (th != 1) = false := by simp [e1]
    by_cases e2 : ph = 0
    · have t2 : (ph == 0) = true := by simp [e2]
      have HR : Hid (turnK th op ph = 1) := Lib.hid (by unfold turnK; rw [if_pos ⟨e1, e2⟩])
      clear e1 e2
      go_enter Tryz.func174, Tryz.ntmps174
      go_upto_region 1 with (fail)
      rw [← HW0.out]
      go_wp2
      go_ret
      exact ⟨ret_int HR.out.symm, X0.out⟩
    · have t2 : (ph == 0) = false := by simp [e2]
      have HR : Hid (turnK th op ph = ph) := Lib.hid (by unfold turnK; rw [if_neg (fun q => e2 q.2), if_neg (fun q => q.1 e1)])
      clear e1 e2
      go_enter Tryz.func174, Tryz.ntmps174
      go_upto_region 1 with (fail)
      rw [← HW0.out]
      go_wp2
      go_ret
      exact ⟨ret_int HR.out.symm, X0.out⟩
  · have t1 : (th == 1) = false := by simp [e1]
    have t1n : (th != 1) = true := by simp [e1]
    by_cases e2 : ph = 2
    · have t2 : (ph == 2) = true := by simp [e2]
      have HR : Hid (turnK th op ph = if op = true then ph else 0) := Lib.hid (by
        unfold turnK; rw [if_neg (fun q => e1 q.1)]
        cases op
        · rw [if_pos ⟨e1, e2, rfl⟩]; rfl
        · rw [if_neg (fun q => by have := q.2.2; simp at this)]; rfl)
      have HC := Lib.hid (contains_tells W0 _ _ L _ HS.out (tellsOpens W0) op HOP.out)
      clear e1 e2
      cases op
      · go_enter Tryz.func174, Tryz.ntmps174
        go_upto_region 1 with (fail)
        rw [← HW0.out]
        go_wp2_with (first
          | (go_at_call 142; refine HC.out.mono ?_; rintro e w1 ⟨rfl, hx⟩; have X1 := Lib.hid hx; have d1' := blk_cell (keepU (W := w1) (g := w.heap.size) (by rw [HW0.out]; exact at0 w _) hx) 1 rfl; clear hx))
        go_ret
        exact ⟨ret_int (by rw [HR.out]; rfl), X0.out.trans X1.out⟩
      · go_enter Tryz.func174, Tryz.ntmps174
        go_upto_region 1 with (fail)
        rw [← HW0.out]
        go_wp2_with (first
          | (go_at_call 142; refine HC.out.mono ?_; rintro e w1 ⟨rfl, hx⟩; have X1 := Lib.hid hx; have d1' := blk_cell (keepU (W := w1) (g := w.heap.size) (by rw [HW0.out]; exact at0 w _) hx) 1 rfl; clear hx))
        go_ret
        exact ⟨ret_int (by rw [HR.out]; rfl), X0.out.trans X1.out⟩
    · have t2 : (ph == 2) = false := by simp [e2]
      have HR : Hid (turnK th op ph = ph) := Lib.hid (by unfold turnK; rw [if_neg (fun q => e1 q.1), if_neg (fun q => e2 q.2.1)])
      clear e1 e2
      go_enter Tryz.func174, Tryz.ntmps174
      go_upto_region 1 with (fail)
      rw [← HW0.out]
      go_wp2
      go_ret
      exact ⟨ret_int HR.out.symm, X0.out⟩
structure Looks (gd gn : Nat) (id ph th : Int) (sv nv : Value) (N : List Int) (W : World) : Prop where
  dbox : W.heap[gd]? = some (.cells #[.int .i64 id, .int .i64 ph, sv, .int .i64 th, nv] 63 (0, 0))
  nbox : W.heap[gn]? = some (.cells #[.func (.func 176) #[] #[.pointer (some ⟨gd, 0, none⟩)]] 141 (0, 0))
  need : Sl W nv N
theorem Looks.ext {gd gn : Nat} {id ph th : Int} {sv nv : Value} {N : List Int} {W W' : World} (h : Looks gd gn id ph th sv nv N W) (x : Ext W W') : Looks gd gn id ph th sv nv N W' := ⟨keepU h.dbox x, keepU h.nbox x, h.need.ext x⟩
set_option maxRecDepth 100000 in
set_option maxHeartbeats 2000000 in
theorem needs_one (W : World) (gd gn : Nat) (id ph th : Int) (sv nv : Value) (N : List Int) (s : Sd) (h : Looks gd gn id ph th sv nv N W) (t : Bool) (ht : needsB N s = t) :
    Calls Tryz.prog 176 #[.agg s.cs, .pointer (some ⟨gd, 0, none⟩)] W fun e W' => e = .returned (.bool t) ∧ Ext W W' := by
  obtain ⟨na, nc, rfl⟩ := h.need.len
  obtain ⟨y0, y1, y2, y3, y4, y5, y6, y7⟩ := s
  unfold Sd.cs
  unfold needsB at ht
  dsimp only at ht ⊢
  obtain ⟨W1, hW1⟩ : ∃ W1, W1 = W.alloc (.cells #[.int .i64 y0, .int .i64 y1, .int .i64 y2, .bool y3, .bool y4, .bool y5, .bool y6, .bool y7] 66) := ⟨_, rfl⟩
  have X1 : Hid (Ext W W1) := Lib.hid (hW1 ▸ (Ext.refl W).alloc _)
  have d1 : W1.heap[W.heap.size]? = some (.cells #[.int .i64 y0, .int .i64 y1, .int .i64 y2, .bool y3, .bool y4, .bool y5, .bool y6, .bool y7] 66 (0, 0)) := hW1 ▸ at0 W _
  have HW1 := Lib.hid hW1
  have x0 := blk_cell d1 0 rfl
  have h1 := h.ext X1.out
  have k4 := blk_cell h1.dbox 4 rfl
  have HC := Lib.hid (setHas_val W1 _ N y0 h1.need t ht)
  clear ht h hW1 d1 h1
  go_enter Tryz.func176, Tryz.ntmps176
  go_upto_region 1 with (fail)
  rw [← HW1.out]
  go_wp2_with (go_at_call 177; refine HC.out.mono ?_; rintro e w2 ⟨rfl, hx⟩; have X2 := Lib.hid hx; clear hx)
  go_ret
  exact ⟨rfl, X1.out.trans X2.out⟩
set_option maxRecDepth 100000 in
set_option maxHeartbeats 4000000 in
theorem keeps_one (W : World) (gd gn : Nat) (id ph th : Int) (sv nv : Value) (N : List Int) (s : Sd) (h : Looks gd gn id ph th sv nv N W) (t : Bool) (ht : keptB th N s = t) :
    Calls Tryz.prog 178 #[.agg s.cs, .pointer (some ⟨gn, 0, none⟩), .pointer (some ⟨gd, 0, none⟩)] W fun e W' => e = .returned (.bool t) ∧ Ext W W' := by
  obtain ⟨na, nc, rfl⟩ := h.need.len
  obtain ⟨q, hq⟩ : ∃ q, needsB N s = q := ⟨_, rfl⟩
  have HNO := Lib.hid (fun V (hV : Ext W V) => needs_one V gd gn id ph th sv _ N s (h.ext hV) q hq)
  obtain ⟨y0, y1, y2, y3, y4, y5, y6, y7⟩ := s
  unfold Sd.cs at HNO ⊢
  unfold keptB at ht
  rw [hq] at ht
  dsimp only at ht HNO ⊢
  obtain ⟨W1, hW1⟩ : ∃ W1, W1 = W.alloc (.cells #[.int .i64 y0, .int .i64 y1, .int .i64 y2, .bool y3, .bool y4, .bool y5, .bool y6, .bool y7] 66) := ⟨_, rfl⟩
  have X1 : Hid (Ext W W1) := Lib.hid (hW1 ▸ (Ext.refl W).alloc _)
  have d1 : W1.heap[W.heap.size]? = some (.cells #[.int .i64 y0, .int .i64 y1, .int .i64 y2, .bool y3, .bool y4, .bool y5, .bool y6, .bool y7] 66 (0, 0)) := hW1 ▸ at0 W _
  have HW1 := Lib.hid hW1
  have HK : Hid (∀ V, Ext W1 V → _) := Lib.hid fun V hV => cells8U (keepU d1 hV)
  have HD : Hid (∀ V, Ext W1 V → _) := Lib.hid fun V hV => cells5 (keepU (keepU h.dbox X1.out) hV)
  have HG : Hid (∀ V, Ext W1 V → V.cell? ⟨gn, 0, none⟩ = some (.func (.func 176) #[] #[.pointer (some ⟨gd, 0, none⟩)])) := Lib.hid fun V hV => blk_cell (keepU (keepU h.nbox X1.out) hV) 0 rfl
  have HT := Lib.hid ht
  clear ht h hW1 d1 hq
  cases q
  · go_enter Tryz.func178, Tryz.ntmps178
    go_upto_region 1 with (fail)
    rw [← HW1.out]
    obtain ⟨⟨⟨x0, x1⟩, x2, x3⟩, ⟨x4, x5⟩, x6, x7⟩ := HK.out W1 (Ext.refl _)
    obtain ⟨⟨d0, d1, d2⟩, d3, d4⟩ := HD.out W1 (Ext.refl _)
    have g0 := HG.out W1 (Ext.refl _)
    go_wp2_with (first
      | (go_at_call 176; refine (HNO.out W1 X1.out).mono ?_; rintro e w2 ⟨rfl, hx⟩; have X2 : Hid (Ext W1 w2) := Lib.hid hx; clear x0 x1 x2 x3 x4 x5 x6 x7 d0 d1 d2 d3 d4; obtain ⟨⟨⟨x0, x1⟩, x2, x3⟩, ⟨x4, x5⟩, x6, x7⟩ := HK.out w2 hx; obtain ⟨⟨d0, d1, d2⟩, d3, d4⟩ := HD.out w2 hx; clear hx))
    go_ret
    exact ⟨ret_bool (by rw [← HT.out]; simp), X1.out.trans X2.out⟩
  by_cases e2 : th = 2
  · have t2 : (th == 2) = true := by simp [e2]
    have HT2 : Hid (true = t) := Lib.hid (by rw [← HT.out, decide_eq_true e2]; rfl)
    clear HT e2
    go_enter Tryz.func178, Tryz.ntmps178
    go_upto_region 1 with (fail)
    rw [← HW1.out]
    obtain ⟨⟨⟨x0, x1⟩, x2, x3⟩, ⟨x4, x5⟩, x6, x7⟩ := HK.out W1 (Ext.refl _)
    obtain ⟨⟨d0, d1, d2⟩, d3, d4⟩ := HD.out W1 (Ext.refl _)
    have g0 := HG.out W1 (Ext.refl _)
    go_wp2_with (first
      | (go_at_call 176; refine (HNO.out W1 X1.out).mono ?_; rintro e w2 ⟨rfl, hx⟩; have X2 : Hid (Ext W1 w2) := Lib.hid hx; clear x0 x1 x2 x3 x4 x5 x6 x7 d0 d1 d2 d3 d4; obtain ⟨⟨⟨x0, x1⟩, x2, x3⟩, ⟨x4, x5⟩, x6, x7⟩ := HK.out w2 hx; obtain ⟨⟨d0, d1, d2⟩, d3, d4⟩ := HD.out w2 hx; clear hx))
    go_ret
    exact ⟨ret_bool HT2.out, X1.out.trans X2.out⟩
  · have t2 : (th == 2) = false := by simp [e2]
    by_cases e1 : th = 1
    · have t1 : (th == 1) = true := by simp [e1]
      have HT2 : Hid (y3 = t) := Lib.hid (by rw [← HT.out, decide_eq_false e2, decide_eq_true e1]; rfl)
      clear HT e1 e2
      go_enter Tryz.func178, Tryz.ntmps178
      go_upto_region 1 with (fail)
      rw [← HW1.out]
      obtain ⟨⟨⟨x0, x1⟩, x2, x3⟩, ⟨x4, x5⟩, x6, x7⟩ := HK.out W1 (Ext.refl _)
      obtain ⟨⟨d0, d1, d2⟩, d3, d4⟩ := HD.out W1 (Ext.refl _)
      have g0 := HG.out W1 (Ext.refl _)
      go_wp2_with (first
        | (go_at_call 176; refine (HNO.out W1 X1.out).mono ?_; rintro e w2 ⟨rfl, hx⟩; have X2 : Hid (Ext W1 w2) := Lib.hid hx; clear x0 x1 x2 x3 x4 x5 x6 x7 d0 d1 d2 d3 d4; obtain ⟨⟨⟨x0, x1⟩, x2, x3⟩, ⟨x4, x5⟩, x6, x7⟩ := HK.out w2 hx; obtain ⟨⟨d0, d1, d2⟩, d3, d4⟩ := HD.out w2 hx; clear hx))
      go_ret
      exact ⟨ret_bool HT2.out, X1.out.trans X2.out⟩
    · have t1 : (th == 1) = false := by simp [e1]
      have HT2 : Hid (false = t) := Lib.hid (by rw [← HT.out, decide_eq_false e2, decide_eq_false e1]; rfl)
      clear HT e1 e2
      go_enter Tryz.func178, Tryz.ntmps178
      go_upto_region 1 with (fail)
      rw [← HW1.out]
      obtain ⟨⟨⟨x0, x1⟩, x2, x3⟩, ⟨x4, x5⟩, x6, x7⟩ := HK.out W1 (Ext.refl _)
      obtain ⟨⟨d0, d1, d2⟩, d3, d4⟩ := HD.out W1 (Ext.refl _)
      have g0 := HG.out W1 (Ext.refl _)
      go_wp2_with (first
        | (go_at_call 176; refine (HNO.out W1 X1.out).mono ?_; rintro e w2 ⟨rfl, hx⟩; have X2 : Hid (Ext W1 w2) := Lib.hid hx; clear x0 x1 x2 x3 x4 x5 x6 x7 d0 d1 d2 d3 d4; obtain ⟨⟨⟨x0, x1⟩, x2, x3⟩, ⟨x4, x5⟩, x6, x7⟩ := HK.out w2 hx; obtain ⟨⟨d0, d1, d2⟩, d3, d4⟩ := HD.out w2 hx; clear hx))
      go_ret
      exact ⟨ret_bool HT2.out, X1.out.trans X2.out⟩
set_option maxRecDepth 100000 in
set_option maxHeartbeats 4000000 in
theorem lacks_K (W : World) (gd gn : Nat) (id ph th : Int) (sv nv : Value) (N : List Int) (s : Sd) (h : Looks gd gn id ph th sv nv N W) (t : Bool) (ht : (decide (th = 1) && needsB N s && !s.bottle) = t) :
    Calls Tryz.prog 179 #[.agg s.cs, .pointer (some ⟨gd, 0, none⟩), .pointer (some ⟨gn, 0, none⟩)] W fun e W' => e = .returned (.bool t) ∧ Ext W W' := by
  obtain ⟨na, nc, rfl⟩ := h.need.len
  obtain ⟨q, hq⟩ : ∃ q, needsB N s = q := ⟨_, rfl⟩
  have HNO := Lib.hid (fun V (hV : Ext W V) => needs_one V gd gn id ph th sv _ N s (h.ext hV) q hq)
  obtain ⟨y0, y1, y2, y3, y4, y5, y6, y7⟩ := s
  unfold Sd.cs at HNO ⊢
  rw [hq] at ht
  dsimp only at ht HNO ⊢
  obtain ⟨W1, hW1⟩ : ∃ W1, W1 = W.alloc (.cells #[.int .i64 y0, .int .i64 y1, .int .i64 y2, .bool y3, .bool y4, .bool y5, .bool y6, .bool y7] 66) := ⟨_, rfl⟩
  have X1 : Hid (Ext W W1) := Lib.hid (hW1 ▸ (Ext.refl W).alloc _)
  have d1 : W1.heap[W.heap.size]? = some (.cells #[.int .i64 y0, .int .i64 y1, .int .i64 y2, .bool y3, .bool y4, .bool y5, .bool y6, .bool y7] 66 (0, 0)) := hW1 ▸ at0 W _
  have HW1 := Lib.hid hW1
  have HK : Hid (∀ V, Ext W1 V → _) := Lib.hid fun V hV => cells8U (keepU d1 hV)
  have HD : Hid (∀ V, Ext W1 V → _) := Lib.hid fun V hV => cells5 (keepU (keepU h.dbox X1.out) hV)
  have HG : Hid (∀ V, Ext W1 V → V.cell? ⟨gn, 0, none⟩ = some (.func (.func 176) #[] #[.pointer (some ⟨gd, 0, none⟩)])) := Lib.hid fun V hV => blk_cell (keepU (keepU h.nbox X1.out) hV) 0 rfl
  have HT := Lib.hid ht
  clear ht h hW1 d1 hq
  by_cases e1 : th = 1
  · have t1 : (th == 1) = true := by simp [e1]
    have HT2 : Hid ((q && !y6) = t) := Lib.hid (by rw [← HT.out, decide_eq_true e1]; rfl)
    clear HT e1
    cases q
    · go_enter Tryz.func179, Tryz.ntmps179
      go_upto_region 1 with (fail)
      rw [← HW1.out]
      obtain ⟨⟨⟨x0, x1⟩, x2, x3⟩, ⟨x4, x5⟩, x6, x7⟩ := HK.out W1 (Ext.refl _)
      obtain ⟨⟨d0, d1, d2⟩, d3, d4⟩ := HD.out W1 (Ext.refl _)
      have g0 := HG.out W1 (Ext.refl _)
      go_wp2_with (first
        | (go_at_call 176; refine (HNO.out W1 X1.out).mono ?_; rintro e w2 ⟨rfl, hx⟩; have X2 : Hid (Ext W1 w2) := Lib.hid hx; clear x0 x1 x2 x3 x4 x5 x6 x7 d0 d1 d2 d3 d4; obtain ⟨⟨⟨x0, x1⟩, x2, x3⟩, ⟨x4, x5⟩, x6, x7⟩ := HK.out w2 hx; obtain ⟨⟨d0, d1, d2⟩, d3, d4⟩ := HD.out w2 hx; clear hx))
      go_ret
      exact ⟨ret_bool (by rw [← HT2.out]; rfl), X1.out.trans X2.out⟩
    · go_enter Tryz.func179, Tryz.ntmps179
      go_upto_region 1 with (fail)
      rw [← HW1.out]
      obtain ⟨⟨⟨x0, x1⟩, x2, x3⟩, ⟨x4, x5⟩, x6, x7⟩ := HK.out W1 (Ext.refl _)
      obtain ⟨⟨d0, d1, d2⟩, d3, d4⟩ := HD.out W1 (Ext.refl _)
      have g0 := HG.out W1 (Ext.refl _)
      go_wp2_with (first
        | (go_at_call 176; refine (HNO.out W1 X1.out).mono ?_; rintro e w2 ⟨rfl, hx⟩; have X2 : Hid (Ext W1 w2) := Lib.hid hx; clear x0 x1 x2 x3 x4 x5 x6 x7 d0 d1 d2 d3 d4; obtain ⟨⟨⟨x0, x1⟩, x2, x3⟩, ⟨x4, x5⟩, x6, x7⟩ := HK.out w2 hx; obtain ⟨⟨d0, d1, d2⟩, d3, d4⟩ := HD.out w2 hx; clear hx))
      go_ret
      exact ⟨ret_bool (by rw [← HT2.out]; rfl), X1.out.trans X2.out⟩
  · have t1 : (th == 1) = false := by simp [e1]
    have HT2 : Hid (false = t) := Lib.hid (by rw [← HT.out, decide_eq_false e1]; rfl)
    clear HT e1
    go_enter Tryz.func179, Tryz.ntmps179
    go_upto_region 1 with (fail)
    rw [← HW1.out]
    obtain ⟨⟨⟨x0, x1⟩, x2, x3⟩, ⟨x4, x5⟩, x6, x7⟩ := HK.out W1 (Ext.refl _)
    obtain ⟨⟨d0, d1, d2⟩, d3, d4⟩ := HD.out W1 (Ext.refl _)
    have g0 := HG.out W1 (Ext.refl _)
    go_wp2
    go_ret
    exact ⟨ret_bool HT2.out, X1.out⟩
set_option maxRecDepth 100000 in
set_option maxHeartbeats 4000000 in
theorem sendK_any (W : World) (go gd B : Nat) (id ph th kd : Int) (sv nv ov : Value) (M : List Ml) (s : Sd) (hd : W.heap[gd]? = some (.cells #[.int .i64 id, .int .i64 ph, sv, .int .i64 th, nv] 63 (0, 0))) (ho : W.heap[go]? = some (.cells #[ov] 23 (0, 0))) (hw : Ow W B ov M) (hB : B ≤ W.heap.size) (hne : ov.ownBlock ≠ some go) (hl : M.length ≤ 20000) :
    Calls Tryz.prog 180 #[.agg s.cs, .int .i64 kd, .pointer (some ⟨go, 0, none⟩), .pointer (some ⟨gd, 0, none⟩)] W fun e W' => e = .returned (.tuple #[]) ∧ ∃ ov', W'.heap[go]? = some (.cells #[ov'] 23 (0, 0)) ∧ Ow W' B ov' (M ++ [⟨id, s.peer, kd, s.epoch, 0⟩]) ∧ Off (fun i => i = go ∨ ov.ownBlock = some i) W W' ∧ (ov'.ownBlock = ov.ownBlock ∨ ∀ b, ov'.ownBlock = some b → W.heap.size ≤ b) := by
  obtain ⟨fo, fn, fc, rfl⟩ := hw.sh
  obtain ⟨y0, y1, y2, y3, y4, y5, y6, y7⟩ := s
  unfold Sd.cs
  dsimp only
  obtain ⟨W1, hW1⟩ : ∃ W1, W1 = W.alloc (.cells #[.int .i64 y0, .int .i64 y1, .int .i64 y2, .bool y3, .bool y4, .bool y5, .bool y6, .bool y7] 66) := ⟨_, rfl⟩
  have X1 : Hid (Ext W W1) := Lib.hid (hW1 ▸ (Ext.refl W).alloc _)
  have d1 : W1.heap[W.heap.size]? = some (.cells #[.int .i64 y0, .int .i64 y1, .int .i64 y2, .bool y3, .bool y4, .bool y5, .bool y6, .bool y7] 66 (0, 0)) := hW1 ▸ at0 W _
  have hgo : go < W.heap.size := blk_lt ho
  have hs1 : W1.heap.size = W.heap.size + 1 := by rw [hW1, size_alloc]
  have HW1 := Lib.hid hW1
  have HO := Lib.hid (keepU ho X1.out)
  have HD := Lib.hid (keepU hd X1.out)
  have HOW := Lib.hid (hw.ext X1.out)
  have HNE := Lib.hid hne
  have x0 := blk_cell d1 0 rfl
  have x1 := blk_cell d1 1 rfl
  have k0 := blk_cell HO.out 0 rfl
  have k1 := blk_cell HD.out 0 rfl
  clear ho hd hw hW1 d1 hne
  go_enter Tryz.func180, Tryz.ntmps180
  go_upto_region 1 with (fail)
  rw [← HW1.out]
  go_wp2_with (first
    | (at_builtin; refine wpList_append_sl (α := Ml) rfl (.tmp 6) (.tmp 17) rfl B (.slice fo fn fc) M rfl ?_ (.slice (some ⟨_, 0, none⟩) 1 1) [(⟨id, y0, kd, y1, 0⟩ : Ml)] rfl ?_ ?_ ?_ ?_; exact (HOW.out.alloc _); exact (Sl.litAt W1 _ hs1.symm [(⟨id, y0, kd, y1, 0⟩ : Ml)] (show (1 : Nat) ≤ 1000000 by decide)); (first | omega | (simp; omega)); (rw [size_alloc]; omega); intro v2 W7 ho2 ha2; obtain ⟨a2, n2, c2, rfl⟩ := ho2.sh; have O2 := Lib.hid ho2; have A2 := Lib.hid ha2; have b2 := (ha2.grown.block go (by rw [size_alloc]; omega) (fun e => HNE.out e.symm)).trans (old1 HO.out _); have B2 := Lib.hid b2; have c7 := blk_cell b2 0 rfl; have f7 := blk_free b2 0; clear ho2 ha2 b2))
  refine bodyPost_end (results_none rfl _ _ _) rfl ?_
  have hn2 : (Value.slice a2 n2 c2).ownBlock ≠ some go := by
    rcases A2.out.block with h | h
    · rw [h]; exact HNE.out
    · intro e; have := h go e; rw [size_alloc] at this; omega
  refine ⟨rfl, .slice a2 n2 c2, blk_set B2.out 0 _, owU O2.out (fun b hb => set_other _ _ _ _ (fun e => hn2 (by rw [hb]; exact congrArg some e))), ?_, ?_⟩
  · have o1 : Off (fun i => i = go ∨ (Value.slice fo fn fc).ownBlock = some i) W (W1.alloc (.cells #[.int .i64 id, .int .i64 y0, .int .i64 kd, .int .i64 y1, .int .i64 0] 95)) := Off.of_ext (Ext.alloc X1.out _)
    have o2 : Off (fun i => i = go ∨ (Value.slice fo fn fc).ownBlock = some i) (W1.alloc (.cells #[.int .i64 id, .int .i64 y0, .int .i64 kd, .int .i64 y1, .int .i64 0] 95)) W7 := (off_grown A2.out.grown).mono fun i hi => .inr hi
    exact (o1.trans o2 (Grows.refl _ _)).trans ((off_set W7 ⟨go, 0, none⟩ _).mono fun i hi => .inl hi) (Grows.refl _ _)
  · rcases A2.out.block with h | h
    · exact .inl h
    · exact .inr fun b hb => by have := h b hb; rw [size_alloc] at this; omega
end Go.Proofs.YtfbambemjokmgaaGreat
