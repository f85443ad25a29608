/- Texts of this seat. -/
import Derived.Test.YtfbambemjokmgaaGreatNBF
namespace Go.Proofs.YtfbambemjokmgaaGreat
open Go.RowKit
structure RAt (w : World) (gn go : Nat) (id ph th : Int) (nv sv : Value) (S : List Sd) (ov : Value) (M : List Ml) (W : World) : Prop where
  ext : Ext w W
  dbox : W.heap[w.heap.size]? = some (.cells #[.int .i64 id, .int .i64 ph, sv, .int .i64 th, nv] 63 (0, 0))
  rbox : W.heap[w.heap.size + 1]? = some (.cells #[.int .i64 0, .int .i64 0, .slice none 0 0, .int .i64 0, .slice none 0 0] 63 (0, 0))
  nbox : W.heap[gn]? = some (.cells #[.func (.func 176) #[] #[.pointer (some ⟨w.heap.size, 0, none⟩)]] 141 (0, 0))
  obox : W.heap[go]? = some (.cells #[ov] 23 (0, 0))
  out : Ow W (w.heap.size + 2) ov M
  sides : Ow W (w.heap.size + 2) sv S
  apart : ∀ b, sv.ownBlock = some b → ov.ownBlock ≠ some b
  ogo : ov.ownBlock ≠ some go
  ogn : ov.ownBlock ≠ some gn
  sgo : sv.ownBlock ≠ some go
  sgn : sv.ownBlock ≠ some gn
  low : w.heap.size + 2 ≤ go ∧ w.heap.size + 2 ≤ gn ∧ go ≠ gn
section
variable {w W W' : World} {gn go : Nat} {id ph th : Int} {nv sv ov : Value} {S : List Sd} {M : List Ml}
theorem RAt.off {F : Nat → Prop} (h : RAt w gn go id ph th nv sv S ov M W) (o : Off F W W') (hF : ∀ k, F k → w.heap.size + 2 ≤ k ∧ k ≠ gn ∧ k ≠ go ∧ sv.ownBlock ≠ some k ∧ ov.ownBlock ≠ some k) : RAt w gn go id ph th nv sv S ov M W' :=
  ⟨ext_off h.ext o fun k hk => by have := (hF k hk).1; omega,
   o.blk h.dbox fun hk => by have := (hF _ hk).1; omega, o.blk h.rbox fun hk => by have := (hF _ hk).1; omega, o.blk h.nbox fun hk => (hF _ hk).2.1 rfl, o.blk h.obox fun hk => (hF _ hk).2.2.1 rfl,
   owU h.out fun b hb => o.block b (h.out.low b hb).2 fun hk => (hF _ hk).2.2.2.2 hb, owU h.sides fun b hb => o.block b (h.sides.low b hb).2 fun hk => (hF _ hk).2.2.2.1 hb,
   h.apart, h.ogo, h.ogn, h.sgo, h.sgn, h.low⟩
theorem RAt.ext' (h : RAt w gn go id ph th nv sv S ov M W) (x : Ext W W') : RAt w gn go id ph th nv sv S ov M W' := h.off (Off.of_ext (F := fun _ => False) x) fun _ hk => hk.elim
theorem RAt.looks (h : RAt w gn go id ph th nv sv S ov M W) {N : List Int} (hn : Sl w nv N) : Looks w.heap.size gn id ph th sv nv N W := ⟨h.dbox, h.nbox, hn.ext h.ext⟩
theorem RAt.sent {ov' : Value} {m : Ml} (h : RAt w gn go id ph th nv sv S ov M W) (hb : W'.heap[go]? = some (.cells #[ov'] 23 (0, 0))) (ho : Ow W' (w.heap.size + 2) ov' (M ++ [m])) (o : Off (fun i => i = go ∨ ov.ownBlock = some i) W W') (hn : ov'.ownBlock = ov.ownBlock ∨ ∀ b, ov'.ownBlock = some b → W.heap.size ≤ b) : RAt w gn go id ph th nv sv S ov' (M ++ [m]) W' := by
  obtain ⟨l1, l2, l3⟩ := h.low
  have z := blk_lt h.obox
  have z2 := blk_lt h.nbox
  have hlow : ∀ k, (k = go ∨ ov.ownBlock = some k) → w.heap.size + 2 ≤ k := fun k hk => by
    rcases hk with e | e
    · omega
    · exact (h.out.low k e).1
  have fresh : ∀ k, k < W.heap.size → ov.ownBlock ≠ some k → ov'.ownBlock ≠ some k := fun k hk hne e => by
    rcases hn with q | q
    · rw [q] at e; exact hne e
    · have := q k e; omega
  refine ⟨ext_off h.ext o fun k hk => by have := hlow k hk; omega, o.blk h.dbox fun hk => by have := hlow _ hk; omega, o.blk h.rbox fun hk => by have := hlow _ hk; omega, o.blk h.nbox fun hk => ?_, hb, ho, owU h.sides fun b hb2 => o.block b (h.sides.low b hb2).2 fun hk => ?_, fun b hb2 => ?_, ?_, ?_, h.sgo, h.sgn, h.low⟩
  · rcases hk with e | e
    · exact l3 e.symm
    · exact h.ogn e
  · rcases hk with e | e
    · exact h.sgo (by rw [hb2, e])
    · exact h.apart b hb2 e
  · exact fresh b (h.sides.low b hb2).2 (h.apart b hb2)
  · exact fresh go z h.ogo
  · exact fresh gn z2 h.ogn
theorem RAt.put {S' : List Sd} {gs : Nat} (h : RAt w gn go id ph th nv sv S ov M W) (hg : sv.ownBlock = some gs) (hs : Ow W' (w.heap.size + 2) sv S') (o : Off (fun b => b = gs) W W') : RAt w gn go id ph th nv sv S' ov M W' := by
  have hlow := (h.sides.low gs hg).1
  refine ⟨ext_off h.ext o fun k hk => by omega, o.blk h.dbox fun hk => by omega, o.blk h.rbox fun hk => by omega, o.blk h.nbox fun hk => h.sgn (by rw [hk]; exact hg), o.blk h.obox fun hk => h.sgo (by rw [hk]; exact hg), owU h.out fun b hb2 => o.block b (h.out.low b hb2).2 fun hk => ?_, hs, h.apart, h.ogo, h.ogn, h.sgo, h.sgn, h.low⟩
  subst hk
  exact h.apart b hg hb2
theorem RAt.thirst (h : RAt w gn go id ph th nv sv S ov M W) (th2 : Int) : RAt w gn go id ph th2 nv sv S ov M (W.setCell ⟨w.heap.size, 3, none⟩ (.int .i64 th2)) := by
  obtain ⟨l1, l2, l3⟩ := h.low
  have o := off_set W ⟨w.heap.size, 3, none⟩ (.int .i64 th2)
  refine ⟨below_set h.ext (Nat.le_refl _) _, by rw [blk_set h.dbox]; rfl, o.blk h.rbox (by show ¬ w.heap.size + 1 = w.heap.size; omega), o.blk h.nbox (by show ¬ gn = w.heap.size; omega), o.blk h.obox (by show ¬ go = w.heap.size; omega), h.out.set (d := ⟨w.heap.size, 3, none⟩) (by show w.heap.size < _; omega) _, h.sides.set (d := ⟨w.heap.size, 3, none⟩) (by show w.heap.size < _; omega) _, h.apart, h.ogo, h.ogn, h.sgo, h.sgn, h.low⟩
end
def GivesKR (w : World) (nv : Value) (r : Dk × List Ml) (e : Ending) (w' : World) : Prop := ∃ v' vl, e = .returned (.tuple #[.agg #[.int .i64 r.1.id, .int .i64 r.1.phase, v', .int .i64 r.1.thirst, nv], vl, .int .i64 0]) ∧ Sl w' v' r.1.sides ∧ Sl w' vl r.2 ∧ Ext w w' ∧ ∀ b, v'.ownBlock = some b → w.heap.size ≤ b
set_option maxRecDepth 100000 in
set_option maxHeartbeats 16000000 in
theorem round_any (w : World) (id ph th : Int) (v nv : Value) (L : List Sd) (N : List Int) (h : Sl w v L) (hN : Sl w nv N) (hl : L.length ≤ 1000) (hd : dnOk ⟨id, ph, L⟩ = true) :
    Calls Tryz.prog 151 #[.agg #[.int .i64 id, .int .i64 ph, v, .int .i64 th, nv]] w (GivesKR w nv (onceK ⟨id, ph, L, th, N⟩)) := by
  obtain ⟨ao, c, rfl⟩ := h.len
  obtain ⟨na, nc, rfl⟩ := hN.len
  have hmf : ∀ (fn : Fn) (first cap : Array Value) (w : World), (Instr.makeFunc fn first cap).run Tryz.prog w = .ok (.func fn first cap) w := fun _ _ _ _ => rfl
  obtain ⟨W0, hW0⟩ : ∃ W0, W0 = (w.alloc (.cells #[.int .i64 id, .int .i64 ph, .slice ao L.length c, .int .i64 th, .slice na N.length nc] 63)).alloc (.cells #[.int .i64 0, .int .i64 0, .slice none 0 0, .int .i64 0, .slice none 0 0] 63) := ⟨_, rfl⟩
  have X0 : Hid (Ext w W0) := Lib.hid (hW0 ▸ ((Ext.refl w).alloc _).alloc _)
  have D0 : Hid (W0.heap[w.heap.size]? = some (.cells #[.int .i64 id, .int .i64 ph, .slice ao L.length c, .int .i64 th, .slice na N.length nc] 63 (0, 0))) := Lib.hid (hW0 ▸ old1 (at0 w _) _)
  have R0 : Hid (W0.heap[w.heap.size + 1]? = some (.cells #[.int .i64 0, .int .i64 0, .slice none 0 0, .int .i64 0, .slice none 0 0] 63 (0, 0))) := Lib.hid (hW0 ▸ at1 w _ _)
  have HW0 := Lib.hid hW0
  have HS := Lib.hid (h.ext X0.out)
  have HSw := Lib.hid h
  have HN := Lib.hid (hN.ext X0.out)
  have HNw := Lib.hid hN
  obtain ⟨pq, hpq⟩ : ∃ pq, turnK th (isOpening L) ph = pq := ⟨_, rfl⟩
  obtain ⟨⟨fi, fp, F⟩, hF⟩ : ∃ d, fireD ⟨id, pq, L⟩ = d := ⟨_, rfl⟩
  obtain ⟨M0, hM0⟩ : ∃ M0, fireMl ⟨id, pq, L⟩ = M0 := ⟨_, rfl⟩
  have hfi : id = fi := by have := (fireD_ways ⟨id, pq, L⟩).1; rw [hF] at this; exact this.symm
  subst hfi
  have HR : Hid (onceK ⟨id, ph, L, th, N⟩ = (⟨id, fp, F.map (bottleS th N), if th = 1 ∧ missB N (F.map (bottleS th N)) = false then 2 else th, N⟩, M0 ++ F.flatMap (bottleM id th N))) := Lib.hid (by
    have hp : preK ⟨id, ph, L, th, N⟩ = ⟨id, pq, L⟩ := by unfold preK; dsimp only; rw [hpq]
    unfold onceK
    rw [hp, hF, hM0])
  have HFl : Hid (F.length = L.length) := Lib.hid (by have := fireD_len ⟨id, pq, L⟩; rw [hF] at this; exact this.1)
  have HMl : Hid (M0.length ≤ 2000) := Lib.hid (by have := fireMs_len id pq L; rw [← hM0]; unfold fireMl; dsimp only; omega)
  have HDU := Lib.hid (hpq ▸ due_any W0 id ph th _ _ L N HS.out HN.out : Calls Tryz.prog 174 #[.agg #[.int .i64 id, .int .i64 ph, .slice ao L.length c, .int .i64 th, .slice na N.length nc]] W0 fun e w' => e = .returned (.int .i64 pq) ∧ Ext W0 w')
  have HFI : Hid (∀ W, Ext w W → Calls Tryz.prog 175 #[.agg #[.int .i64 id, .int .i64 pq, .slice ao L.length c]] W (GivesFO W (⟨id, fp, F⟩, M0, 0))) := Lib.hid (fun W hW => by
    have := fireO_any W id pq _ L (HSw.out.ext hW) hl
    have hp : dnOk ⟨id, pq, L⟩ = true := by
      have h1 := preK_ok (d := ⟨id, ph, L, th, N⟩) hd
      unfold preK at h1
      dsimp only at h1
      rw [hpq] at h1
      exact h1
    unfold fireR at this
    rw [if_pos hp, hF, hM0] at this
    exact this)
  clear h hN hW0 hpq hF hM0
  obtain ⟨⟨d0, d1, d2⟩, d3, d4⟩ := cells5 D0.out
  go_enter Tryz.func151, Tryz.ntmps151
  go_upto_region 1 with (fail)
  rw [← HW0.out]
  go_upto_region 2 with (first
    | (go_at_call 174; refine HDU.out.mono ?_; rintro e w1 ⟨rfl, x1⟩; have X1 : Hid (Ext W0 w1) := Lib.hid x1; have f1 := blk_free (keepU D0.out x1) 1; have c1 := blk_cell (keepU D0.out x1) 1 rfl; clear x1))
  obtain ⟨W1, hW1⟩ : ∃ W1, W1 = w1.setCell ⟨w.heap.size, 1, none⟩ (.int .i64 pq) := ⟨_, rfl⟩
  have D1 : Hid (W1.heap[w.heap.size]? = some (.cells #[.int .i64 id, .int .i64 pq, .slice ao L.length c, .int .i64 th, .slice na N.length nc] 63 (0, 0))) := Lib.hid (by rw [hW1, blk_set (keepU D0.out X1.out)]; rfl)
  have R1 : Hid (W1.heap[w.heap.size + 1]? = some (.cells #[.int .i64 0, .int .i64 0, .slice none 0 0, .int .i64 0, .slice none 0 0] 63 (0, 0))) := Lib.hid (by rw [hW1, set_other _ _ _ _ (by show w.heap.size + 1 ≠ w.heap.size; omega)]; exact keepU R0.out X1.out)
  have XW1 : Hid (Ext w W1) := Lib.hid (hW1 ▸ below_set (X0.out.trans X1.out) (Nat.le_refl _) _)
  rw [← hW1]
  clear hW1 d0 d1 d2 d3 d4 f1 c1 HDU HS HN D0 R0 X0 X1 HW0
  have HFI1 := Lib.hid (HFI.out W1 XW1.out)
  obtain ⟨⟨d0, d1, d2⟩, d3, d4⟩ := cells5 D1.out
  go_wp2_with (first
    | (go_at_call 175; refine HFI1.out.mono ?_; rintro e w2 ⟨v2, vl, rfl, o2, l2, x2, a2⟩; obtain ⟨fa, fn, fc, rfl⟩ := o2.sh; obtain ⟨la, ln, lc, rfl⟩ := l2.sh; dsimp only at o2 l2; have O2 := Lib.hid o2; have L2 := Lib.hid l2; have X2 : Hid (Ext W1 w2) := Lib.hid x2; have A2 := Lib.hid a2; clear o2 l2 x2 a2)
    | refine haltst 61 ?_)
  refine .inl ?_
  obtain ⟨gX, hgX⟩ : ∃ g, g = w2.heap.size := ⟨_, rfl⟩
  obtain ⟨go, hgo⟩ : ∃ g, g = gX + 1 := ⟨_, rfl⟩
  obtain ⟨W3, hW3⟩ : ∃ W3, W3 = (w2.alloc (.cells #[.int .i64 0, .int .i64 0, .slice none 0 0] 61)).alloc (.cells #[.slice none 0 0] 23) := ⟨_, rfl⟩
  have X3 : Hid (Ext W1 W3) := Lib.hid (hW3 ▸ (X2.out.alloc _).alloc _)
  have XV3 : Hid (Ext w2 W3) := Lib.hid (hW3 ▸ ((Ext.refl w2).alloc _).alloc _)
  have N3 : Hid (W3.heap[gX]? = some (.cells #[.int .i64 0, .int .i64 0, .slice none 0 0] 61 (0, 0))) := Lib.hid (by rw [hW3, hgX]; exact old1 (at0 w2 _) _)
  have G3 : Hid (W3.heap[go]? = some (.cells #[.slice none 0 0] 23 (0, 0))) := Lib.hid (by rw [hW3, hgo, hgX]; exact at1 w2 _ _)
  have hgl : w.heap.size + 2 ≤ gX := by rw [hgX]; have := blk_lt (keepU R1.out X2.out); omega
  have HV2 : Hid (∀ b, ((Value.slice fa fn fc).ownBlock = some b ∨ (Value.slice la ln lc).ownBlock = some b) → w.heap.size + 2 ≤ b ∧ b < gX) := Lib.hid (fun b hb => by
    have hz := blk_lt R1.out
    rw [hgX]
    rcases hb with e | e
    · have := O2.out.low b e; omega
    · have := L2.out.low b e; omega)
  have hz2 : w.heap.size + 2 ≤ W1.heap.size := by have := blk_lt R1.out; omega
  have S3 : Hid (Ow W3 (w.heap.size + 2) (.slice fa fn fc) F) := Lib.hid ((O2.out.ext XV3.out).mono hz2)
  have T3 : Hid (Ow W3 (w.heap.size + 2) (.slice la ln lc) M0) := Lib.hid ((L2.out.ext XV3.out).mono hz2)
  have hgg : gX < go := by omega
  rw [← hW3, ← hgX, ← hgo]
  clear hgo
  refine st_l 61 (.tmp 5) (.tmp 22) gX 0 61 #[.int .i64 0, .int .i64 0, .slice none 0 0] #[.int .i64 id, .int .i64 fp, .slice fa fn fc] #[.int .i64 id, .int .i64 fp, .slice fa fn fc] rfl rfl N3.out (by kernel_rfl) (by simp) rfl rfl ?_
  intro W4 hW4 o4
  simp only [Act.put]
  have N4 := Lib.hid hW4
  have D4 : Hid (W4.heap[w.heap.size]? = some (.cells #[.int .i64 id, .int .i64 pq, .slice ao L.length c, .int .i64 th, .slice na N.length nc] 63 (0, 0))) := Lib.hid (o4.blk (keepU D1.out X3.out) (by omega))
  have R4 : Hid (W4.heap[w.heap.size + 1]? = some (.cells #[.int .i64 0, .int .i64 0, .slice none 0 0, .int .i64 0, .slice none 0 0] 63 (0, 0))) := Lib.hid (o4.blk (keepU R1.out X3.out) (by omega))
  have G4 : Hid (W4.heap[go]? = some (.cells #[.slice none 0 0] 23 (0, 0))) := Lib.hid (o4.blk G3.out (by omega))
  have S4 : Hid (Ow W4 (w.heap.size + 2) (.slice fa fn fc) F) := Lib.hid (owU S3.out fun b hb => o4.block b (S3.out.low b hb).2 (by have := (HV2.out b (.inl hb)).2; omega))
  have T4 : Hid (Ow W4 (w.heap.size + 2) (.slice la ln lc) M0) := Lib.hid (owU T3.out fun b hb => o4.block b (T3.out.low b hb).2 (by have := (HV2.out b (.inr hb)).2; omega))
  have X4 : Hid (Ext w W4) := Lib.hid (ext_off (XW1.out.trans X3.out) o4 (fun b hb => by omega))
  have c6 := blk_cell G4.out 0 rfl
  have f6 := blk_free G4.out 0
  clear hW4 o4 hW3 hgX d0 d1 d2 d3 d4 N3 G3 S3 T3 O2 L2 X3 XV3 D1 R1 X2 XW1 HFI1 HFI
  go_upto_region 3 with (fail)
  obtain ⟨W5, hW5⟩ : ∃ W5, W5 = W4.setCell ⟨go, 0, none⟩ (.slice la ln lc) := ⟨_, rfl⟩
  have o5 : Off (fun k => k = go) W4 W5 := hW5 ▸ off_set W4 ⟨go, 0, none⟩ _
  have G5 : Hid (W5.heap[go]? = some (.cells #[.slice la ln lc] 23 (0, 0))) := Lib.hid (by rw [hW5, blk_set G4.out]; rfl)
  have N5 : Hid (W5.heap[gX]? = some (.cells #[.int .i64 id, .int .i64 fp, .slice fa fn fc] 61 (0, 0))) := Lib.hid (o5.blk N4.out (by omega))
  have D5 := Lib.hid (o5.blk D4.out (by omega))
  have R5 := Lib.hid (o5.blk R4.out (by omega))
  have S5 : Hid (Ow W5 (w.heap.size + 2) (.slice fa fn fc) F) := Lib.hid (owU S4.out fun b hb => o5.block b (S4.out.low b hb).2 (by have := (HV2.out b (.inl hb)).2; omega))
  have T5 : Hid (Ow W5 (w.heap.size + 2) (.slice la ln lc) M0) := Lib.hid (owU T4.out fun b hb => o5.block b (T4.out.low b hb).2 (by have := (HV2.out b (.inr hb)).2; omega))
  have X5 : Hid (Ext w W5) := Lib.hid (ext_off X4.out o5 (fun b hb => by omega))
  rw [← hW5]
  clear hW5 o5 c6 f6 N4 D4 R4 G4 S4 T4 X4
  obtain ⟨e0, e1, e2⟩ := cells3U N5.out
  obtain ⟨⟨d0, d1, d2⟩, d3, d4⟩ := cells5 D5.out
  go_upto_region 5 with (fail)
  go_wp2_with (first | refine haltst 61 ?_)
  refine .inl ?_
  refine st_l 61 (.tmp 30) (.tmp 29) w.heap.size 0 63 #[.int .i64 id, .int .i64 pq, .slice ao L.length c, .int .i64 th, .slice na N.length nc] #[.int .i64 id, .int .i64 fp, .slice fa fn fc] #[.int .i64 id, .int .i64 fp, .slice fa fn fc, .int .i64 th, .slice na N.length nc] rfl rfl D5.out (by kernel_rfl) (by simp) rfl rfl ?_
  intro W6 hW6 o6
  simp only [Act.put]
  obtain ⟨gn, hgn⟩ : ∃ g, g = W6.heap.size := ⟨_, rfl⟩
  obtain ⟨W7, hW7⟩ : ∃ W7, W7 = W6.alloc (.cells #[.func (.func 176) #[] #[.pointer (some ⟨w.heap.size, 0, none⟩)]] 141) := ⟨_, rfl⟩
  have hgng : go < gn := by rw [hgn]; exact Nat.lt_of_lt_of_le (blk_lt G5.out) o6.size
  have R7 : Hid (RAt w gn go id fp th (.slice na N.length nc) (.slice fa fn fc) (goneK th N F 0) (.slice la ln lc) (M0 ++ sentK id th N F 0) W7) := Lib.hid (by
    have e1 : goneK th N F 0 = F := by unfold goneK; simp
    have e2 : M0 ++ sentK id th N F 0 = M0 := by unfold sentK; simp
    rw [e1, e2]
    have x7 : Ext W6 W7 := hW7 ▸ (Ext.refl W6).alloc _
    have lowS : ∀ b, (Value.slice fa fn fc).ownBlock = some b → w.heap.size + 2 ≤ b ∧ b < gX := fun b hb => HV2.out b (.inl hb)
    have lowT : ∀ b, (Value.slice la ln lc).ownBlock = some b → w.heap.size + 2 ≤ b ∧ b < gX := fun b hb => HV2.out b (.inr hb)
    refine ⟨(ext_off X5.out o6 (fun b hb => by omega)).trans x7, keepU hW6 x7, keepU (o6.blk R5.out (by omega)) x7, by rw [hW7, hgn]; exact at0 W6 _, keepU (o6.blk G5.out (by omega)) x7, ?_, ?_, A2.out, ?_, ?_, ?_, ?_, by omega, by omega, by omega⟩
    · exact (owU T5.out fun b hb => o6.block b (T5.out.low b hb).2 (by have := (lowT b hb).1; omega)).ext x7
    · exact (owU S5.out fun b hb => o6.block b (S5.out.low b hb).2 (by have := (lowS b hb).1; omega)).ext x7
    · exact fun e => by have := (lowT go e).2; omega
    · exact fun e => by have := (lowT gn e).2; omega
    · exact fun e => by have := (lowS go e).2; omega
    · exact fun e => by have := (lowS gn e).2; omega)
  clear d0 d1 d2 d3 d4 e0 e1 e2
  go_upto_region 7 with (fail)
  rw [← hW7, ← hgn]
  clear hW7 hgn hW6 o6 N5 D5 R5 G5 S5 T5 X5 A2 HV2 hgl hz2
  obtain ⟨⟨d0, d1, d2⟩, d3, d4⟩ := cells5 R7.out.dbox
  have HFN : Hid (fn = F.length) := Lib.hid (by
    obtain ⟨_, _, e⟩ := R7.out.sides.sl.len
    simp only [Value.slice.injEq] at e
    rw [e.2.1]
    unfold goneK; simp)
  go_upto_region 10 with (fail)
  go_wp2
  go_loopw [39] (fun i wr => ∃ (k : Nat) (oa : Option Addr) (on oc : Nat), k ≤ fn ∧ i = .int .i64 k ∧ Hid (RAt w gn go id fp th (.slice na N.length nc) (.slice fa fn fc) (goneK th N F k) (.slice oa on oc) (M0 ++ sentK id th N F k) wr)) (fun i _ => fn - (intOf i).toNat)
  case atStart => exact ⟨0, la, ln, lc, Nat.zero_le _, rfl, R7⟩
  case round =>
    obtain ⟨k, oa, on, oc, hk, rfl, HR7⟩ := hrel
    clear d0 d1 d2 d3 d4
    by_cases hlt : k < fn
    · obtain ⟨s, hsF⟩ : ∃ s, F[k]? = some s := ⟨_, List.getElem?_eq_getElem (by have := HFN.out; omega)⟩
      obtain ⟨ga, gl, gs⟩ := goneK_at (th := th) (N := N) hsF
      have HSN := Lib.hid (sentK_next (id := id) (th := th) (N := N) hsF)
      obtain ⟨G, hG⟩ : ∃ G, goneK th N F k = G := ⟨_, rfl⟩
      rw [hG] at HR7 gl gs ga
      have HGS := Lib.hid gs
      have hkG : k < G.length := by have := HFN.out; omega
      obtain ⟨b1, off, s', hsy, hsj, hao, hn, hnc, hc63, hb, hcs⟩ := HR7.out.sides.sl.sidesAt hkG
      subst hao
      obtain rfl : s' = s := by have := hsj.symm.trans ga; simpa using this
      obtain ⟨⟨⟨x0, x1⟩, x2, x3⟩, ⟨x4, x5⟩, x6, x7⟩ := hcs _ (Ext.refl _)
      have HKG := Lib.hid hkG
      have hfc : fn ≤ fc := hnc
      have HML : Hid ((M0 ++ sentK id th N F k).length ≤ 10000) := Lib.hid (by have := sentK_len (id := id) (th := th) (N := N) (F := F) k; have := HFl.out; have := HMl.out; rw [List.length_append]; omega)
      clear hsy hsj hcs ga gl gs hG hsF hn hkG
      obtain ⟨Mk, hMk⟩ : ∃ M, M0 ++ sentK id th N F k = M := ⟨_, rfl⟩
      rw [hMk] at HR7 HML
      have HMK := Lib.hid hMk
      clear hMk
      obtain ⟨y0, y1, y2, y3, y4, y5, y6, y7⟩ := s'
      dsimp only at x0 x1 x2 x3 x4 x5 x6 x7
      go_upto_region 13 with (fail)
      obtain ⟨gx, hgx⟩ : ∃ g, g = wr.heap.size := ⟨_, rfl⟩
      obtain ⟨Wx, hWx⟩ : ∃ W, W = wr.alloc (.cells #[.int .i64 y0, .int .i64 y1, .int .i64 y2, .bool y3, .bool y4, .bool y5, .bool y6, .bool y7] 66) := ⟨_, rfl⟩
      have BX : Hid (Wx.heap[gx]? = some (.cells #[.int .i64 y0, .int .i64 y1, .int .i64 y2, .bool y3, .bool y4, .bool y5, .bool y6, .bool y7] 66 (0, 0))) := Lib.hid (by rw [hWx, hgx]; exact at0 wr _)
      have RX := Lib.hid (HR7.out.ext' (hWx ▸ (Ext.refl wr).alloc _ : Ext wr Wx))
      have hgx1 : w.heap.size + 2 ≤ gx := by rw [hgx]; have := blk_lt HR7.out.rbox; omega
      have HGX : Hid (gx ≠ gn ∧ gx ≠ go ∧ (Value.slice (some ⟨b1, off, none⟩) fn fc).ownBlock ≠ some gx ∧ (Value.slice oa on oc).ownBlock ≠ some gx) := Lib.hid (by
        rw [hgx]
        refine ⟨fun e => by have := blk_lt HR7.out.nbox; omega, fun e => by have := blk_lt HR7.out.obox; omega, fun e => by have := (HR7.out.sides.low _ e).2; omega, fun e => by have := (HR7.out.out.low _ e).2; omega⟩)
      rw [← hWx]
      try rw [← hgx]
      clear hWx hgx x0 x1 x2 x3 x4 x5 x6 x7
      have HKE : Hid (∀ (s : Sd) (t : Bool) V, Ext Wx V → keptB th N s = t → Calls Tryz.prog 178 #[.agg s.cs, .pointer (some ⟨gn, 0, none⟩), .pointer (some ⟨w.heap.size, 0, none⟩)] V fun e W' => e = .returned (.bool t) ∧ Ext V W') := Lib.hid fun s t V hV ht => keeps_one V w.heap.size gn id fp th _ _ N s ((RX.out.ext' hV).looks HNw.out) t ht
      go_cut [55] (fun s55 wx => ∃ q, s55 = .bool q ∧ Hid (pours th N ⟨y0, y1, y2, y3, y4, y5, y6, y7⟩ = q) ∧ Hid (Ext Wx wx))
      case first =>
        obtain ⟨⟨⟨x0, x1⟩, x2, x3⟩, ⟨x4, x5⟩, x6, x7⟩ := cells8U BX.out
        cases y6
        · have HB : Hid (pours th N ⟨y0, y1, y2, y3, y4, y5, false, y7⟩ = false) := Lib.hid rfl
          go_wp2_with fail
          go_meet
          exact ⟨_, rfl, HB, Lib.hid (Ext.refl _)⟩
        cases y7
        · have HB : Hid (pours th N ⟨y0, y1, y2, y3, y4, y5, true, false⟩ = false) := Lib.hid rfl
          go_wp2_with fail
          go_meet
          exact ⟨_, rfl, HB, Lib.hid (Ext.refl _)⟩
        obtain ⟨q, hq⟩ : ∃ q, keptB th N ⟨y0, y1, y2, y3, y4, y5, true, true⟩ = q := ⟨_, rfl⟩
        have HB : Hid (pours th N ⟨y0, y1, y2, y3, y4, y5, true, true⟩ = !q) := Lib.hid (by unfold pours; rw [hq]; rfl)
        have HK1 := Lib.hid (HKE.out _ q Wx (Ext.refl _) hq)
        unfold Sd.cs at HK1
        dsimp only at HK1
        clear hq
        go_wp2_with (go_at_call 178; refine HK1.out.mono ?_; rintro e w3 ⟨rfl, hx⟩; have X3 : Hid (Ext Wx w3) := Lib.hid hx; clear hx)
        go_meet
        exact ⟨_, rfl, HB, X3⟩
      case rest =>
        obtain ⟨q, rfl, HQ, HX⟩ := hcut
        have RC := Lib.hid (RX.out.ext' HX.out)
        have BC := Lib.hid (keepU BX.out HX.out)
        clear HKE RX BX HX HR7
        go_upto_if 55 with (fail)
        go_cut [13] (fun s13 wx => ∃ (b6 : Bool) (oa : Option Addr) (on oc : Nat), s13 = .pointer (some ⟨gx, 0, none⟩) ∧ Hid ((⟨y0, y1, y2, y3, y4, y5, b6, y7⟩ : Sd) = cond q ⟨y0, y1, y2, y3, y4, y5, false, y7⟩ ⟨y0, y1, y2, y3, y4, y5, y6, y7⟩) ∧ Hid (RAt w gn go id fp th (.slice na N.length nc) (.slice (some ⟨b1, off, none⟩) fn fc) G (.slice oa on oc) (Mk ++ cond q [⟨id, y0, 3, y1, 0⟩] []) wx) ∧ Hid (wx.heap[gx]? = some (.cells #[.int .i64 y0, .int .i64 y1, .int .i64 y2, .bool y3, .bool y4, .bool y5, .bool b6, .bool y7] 66 (0, 0))) ∧ Hid ((Value.slice oa on oc).ownBlock ≠ some gx))
        case first =>
          obtain ⟨⟨⟨x0, x1⟩, x2, x3⟩, ⟨x4, x5⟩, x6, x7⟩ := cells8U BC.out
          cases q
          · go_wp2_with fail
            go_meet
            exact ⟨y6, oa, on, oc, rfl, Lib.hid rfl, by simpa using RC, BC, Lib.hid HGX.out.2.2.2⟩
          · go_upto_region 15 with (first
              | (go_at_call 180; refine (sendK_any wc go w.heap.size (w.heap.size + 2) id fp th 3 _ _ _ Mk (⟨y0, y1, y2, y3, y4, y5, y6, y7⟩ : Sd) RC.out.dbox RC.out.obox RC.out.out (by have := blk_lt RC.out.rbox; omega) RC.out.ogo (by have := HML.out; omega)).mono ?_; rintro e w5 ⟨rfl, ov', hb5, ho5, of5, hn5⟩; obtain ⟨p5, q5, r5, rfl⟩ := ho5.sh; have F5 := Lib.hid (RC.out.sent hb5 ho5 of5 hn5); have B5 : Hid (w5.heap[gx]? = some (.cells #[.int .i64 y0, .int .i64 y1, .int .i64 y2, .bool y3, .bool y4, .bool y5, .bool y6, .bool y7] 66 (0, 0))) := Lib.hid (of5.blk BC.out (by rintro (e | e); exact HGX.out.2.1 e; exact HGX.out.2.2.2 e)); have V5 : Hid ((Value.slice p5 q5 r5).ownBlock ≠ some gx) := Lib.hid (by rcases hn5 with e | e; rw [e]; exact HGX.out.2.2.2; intro e2; have := e gx e2; have := blk_lt BC.out; omega); clear hb5 ho5 of5 hn5; clear x0 x1 x2 x3 x4 x5 x6 x7; obtain ⟨⟨⟨x0, x1⟩, x2, x3⟩, ⟨x4, x5⟩, x6, x7⟩ := cells8U B5.out; have ff6 := blk_free B5.out 6))
            go_wp2_with fail
            go_meet
            refine ⟨false, p5, q5, r5, rfl, Lib.hid rfl, Lib.hid (F5.out.off (off_set w5 ⟨gx, 6, none⟩ _) (fun k hk => by
              have hk : k = gx := hk
              subst hk
              exact ⟨hgx1, HGX.out.1, HGX.out.2.1, HGX.out.2.2.1, V5.out⟩)), Lib.hid (by rw [blk_set B5.out]; rfl), V5⟩
        case rest =>
          obtain ⟨b6, oa, on, oc, rfl, HS1, R6, B6, V6⟩ := hcut
          clear RC BC
          obtain ⟨M1, hM1⟩ : ∃ M, Mk ++ cond q [(⟨id, y0, 3, y1, 0⟩ : Ml)] [] = M := ⟨_, rfl⟩
          have HM1L : Hid (M1.length ≤ 10001) := Lib.hid (by rw [← hM1, List.length_append]; have := HML.out; cases q <;> simp <;> omega)
          rw [hM1] at R6
          have HM1 := Lib.hid hM1
          clear hM1
          have HLK : Hid (∀ V, Ext wc V → Calls Tryz.prog 179 #[.agg (⟨y0, y1, y2, y3, y4, y5, b6, y7⟩ : Sd).cs, .pointer (some ⟨w.heap.size, 0, none⟩), .pointer (some ⟨gn, 0, none⟩)] V fun e W' => e = .returned (.bool (decide (th = 1) && needsB N ⟨y0, y1, y2, y3, y4, y5, b6, y7⟩ && !b6)) ∧ Ext V W') := Lib.hid fun V hV => lacks_K V w.heap.size gn id fp th _ _ N _ ((R6.out.ext' hV).looks HNw.out) _ rfl
          unfold Sd.cs at HLK
          dsimp only at HLK
          obtain ⟨lk, hlk⟩ : ∃ l, (decide (th = 1) && needsB N ⟨y0, y1, y2, y3, y4, y5, b6, y7⟩ && !b6) = l := ⟨_, rfl⟩
          rw [hlk] at HLK
          have HAS : Hid (asksK th N ⟨y0, y1, y2, y3, y4, y5, b6, y7⟩ = (lk && y7)) := Lib.hid (by
            rw [← hlk]; unfold asksK; dsimp only
            cases decide (th = 1) <;> cases needsB N ⟨y0, y1, y2, y3, y4, y5, b6, y7⟩ <;> cases b6 <;> cases y7 <;> rfl)
          clear hlk
          go_upto_region 16 with (fail)
          go_cut [66] (fun s66 wx => ∃ q2, s66 = .bool q2 ∧ Hid (asksK th N ⟨y0, y1, y2, y3, y4, y5, b6, y7⟩ = q2) ∧ Hid (Ext wc wx))
          case first =>
            obtain ⟨⟨⟨x0, x1⟩, x2, x3⟩, ⟨x4, x5⟩, x6, x7⟩ := cells8U B6.out
            cases lk
            · go_wp2_with (go_at_call 179; refine (HLK.out wc (Ext.refl _)).mono ?_; rintro e w3 ⟨rfl, hx⟩; have X3 : Hid (Ext wc w3) := Lib.hid hx; clear hx)
              go_meet
              exact ⟨_, rfl, by simpa using HAS, X3⟩
            · go_wp2_with (go_at_call 179; refine (HLK.out wc (Ext.refl _)).mono ?_; rintro e w3 ⟨rfl, hx⟩; have X3 : Hid (Ext wc w3) := Lib.hid hx; clear x0 x1 x2 x3 x4 x5 x6 x7; obtain ⟨⟨⟨x0, x1⟩, x2, x3⟩, ⟨x4, x5⟩, x6, x7⟩ := cells8U (keepU B6.out hx); clear hx)
              go_meet
              exact ⟨_, rfl, by simpa using HAS, X3⟩
          case rest =>
            obtain ⟨q2, rfl, HQ2, HX2⟩ := hcut
            have RC := Lib.hid (R6.out.ext' HX2.out)
            have BC := Lib.hid (keepU B6.out HX2.out)
            clear HLK HAS R6 B6 HX2
            go_upto_if 66 with (fail)
            go_cut [13] (fun s13 wx => ∃ (b7 : Bool) (oa : Option Addr) (on oc : Nat), s13 = .pointer (some ⟨gx, 0, none⟩) ∧ Hid ((⟨y0, y1, y2, y3, y4, y5, b6, b7⟩ : Sd) = cond q2 ⟨y0, y1, y2, y3, y4, y5, b6, false⟩ ⟨y0, y1, y2, y3, y4, y5, b6, y7⟩) ∧ Hid (RAt w gn go id fp th (.slice na N.length nc) (.slice (some ⟨b1, off, none⟩) fn fc) G (.slice oa on oc) (M1 ++ cond q2 [⟨id, y0, 4, y1, 0⟩] []) wx) ∧ Hid (wx.heap[gx]? = some (.cells #[.int .i64 y0, .int .i64 y1, .int .i64 y2, .bool y3, .bool y4, .bool y5, .bool b6, .bool b7] 66 (0, 0))))
            case first =>
              obtain ⟨⟨⟨x0, x1⟩, x2, x3⟩, ⟨x4, x5⟩, x6, x7⟩ := cells8U BC.out
              cases q2
              · go_wp2_with fail
                go_meet
                exact ⟨y7, oa, on, oc, rfl, Lib.hid rfl, by simpa using RC, BC⟩
              · go_upto_region 18 with (first
                  | (go_at_call 180; refine (sendK_any wc go w.heap.size (w.heap.size + 2) id fp th 4 _ _ _ M1 (⟨y0, y1, y2, y3, y4, y5, b6, y7⟩ : Sd) RC.out.dbox RC.out.obox RC.out.out (by have := blk_lt RC.out.rbox; omega) RC.out.ogo (by have := HM1L.out; omega)).mono ?_; rintro e w5 ⟨rfl, ov', hb5, ho5, of5, hn5⟩; obtain ⟨p5, q5, r5, rfl⟩ := ho5.sh; have F5 := Lib.hid (RC.out.sent hb5 ho5 of5 hn5); have B5 : Hid (w5.heap[gx]? = some (.cells #[.int .i64 y0, .int .i64 y1, .int .i64 y2, .bool y3, .bool y4, .bool y5, .bool b6, .bool y7] 66 (0, 0))) := Lib.hid (of5.blk BC.out (by rintro (e | e); exact HGX.out.2.1 e; exact V6.out e)); have V5 : Hid ((Value.slice p5 q5 r5).ownBlock ≠ some gx) := Lib.hid (by rcases hn5 with e | e; rw [e]; exact V6.out; intro e2; have := e gx e2; have := blk_lt BC.out; omega); clear hb5 ho5 of5 hn5; clear x0 x1 x2 x3 x4 x5 x6 x7; obtain ⟨⟨⟨x0, x1⟩, x2, x3⟩, ⟨x4, x5⟩, x6, x7⟩ := cells8U B5.out; have ff7 := blk_free B5.out 7))
                go_wp2_with fail
                go_meet
                refine ⟨false, p5, q5, r5, rfl, Lib.hid rfl, Lib.hid (F5.out.off (off_set w5 ⟨gx, 7, none⟩ _) (fun k hk => by
                  have hk : k = gx := hk
                  subst hk
                  exact ⟨hgx1, HGX.out.1, HGX.out.2.1, HGX.out.2.2.1, V5.out⟩)), Lib.hid (by rw [blk_set B5.out]; rfl)⟩
            case rest =>
              obtain ⟨b7, oa, on, oc, rfl, HS2, R7, B7⟩ := hcut
              clear RC BC
              have HBO := Lib.hid (bottle_out (id := id) HQ.out HS1.out HQ2.out HS2.out)
              dsimp only at HBO
              have HMF : Hid (M1 ++ cond q2 [(⟨id, y0, 4, y1, 0⟩ : Ml)] [] = M0 ++ sentK id th N F (k + 1)) := Lib.hid (by
                rw [HSN.out, HBO.out.2, ← HM1.out, ← HMK.out]
                simp only [List.append_assoc])
              rw [HMF.out] at R7
              obtain ⟨gs, cur, hgs0, hgs, hgs1, hnc6, hc636, hcur, hcsz, hput⟩ := R7.out.sides.setAt HKG.out ⟨y0, y1, y2, y3, y4, y5, b6, b7⟩
              simp only [Option.some.injEq, Addr.mk.injEq] at hgs0
              obtain ⟨rfl, rfl, _⟩ := hgs0
              have HCUR := Lib.hid hcur
              have HPUT := Lib.hid hput
              have HCZ : Hid (k * 8 + 8 ≤ cur.size) := Lib.hid hcsz
              obtain ⟨⟨d0, d1, d2⟩, d3, d4⟩ := cells5 R7.out.dbox
              obtain ⟨⟨⟨x0, x1⟩, x2, x3⟩, ⟨x4, x5⟩, x6, x7⟩ := cells8U B7.out
              clear hcur hput hcsz hgs1 hnc6 hc636
              go_wp2_with (first | refine haltst 66 ?_)
              refine .inl ?_
              refine st_l 66 (.tmp 76) (.tmp 75) b1 (k * 8) 66 cur #[.int .i64 y0, .int .i64 y1, .int .i64 y2, .bool y3, .bool y4, .bool y5, .bool b6, .bool b7] _ rfl rfl HCUR.out (by kernel_rfl) HCZ.out rfl rfl ?_
              intro W8 hW8 o8
              simp only [Act.put]
              have R8 := Lib.hid (R7.out.put rfl (HPUT.out W8 hW8) o8)
              have HG9 : Hid (G.set k ⟨y0, y1, y2, y3, y4, y5, b6, b7⟩ = goneK th N F (k + 1)) := Lib.hid (by rw [← HGS.out, HBO.out.1])
              rw [HG9.out] at R8
              clear hW8 o8 d0 d1 d2 d3 d4 x0 x1 x2 x3 x4 x5 x6 x7
              go_wp2
              go_roundw
              case rel => exact ⟨k + 1, oa, on, oc, by omega, by go_num, R8⟩
              case measure => simp [intOf]; omega
    · have hkl : k = F.length := by have := HFN.out; omega
      have FF : Hid (RAt w gn go id fp th (.slice na N.length nc) (.slice fa fn fc) (F.map (bottleS th N)) (.slice oa on oc) (M0 ++ F.flatMap (bottleM id th N)) wr) := Lib.hid (by
        have := HR7.out
        rw [hkl, goneK_end] at this
        unfold sentK at this
        rw [List.take_length] at this
        exact this)
      clear HR7 hkl hk
      obtain ⟨ms, hms⟩ : ∃ ms, missB N (F.map (bottleS th N)) = ms := ⟨_, rfl⟩
      obtain ⟨th2, hth⟩ : ∃ t, (if th = 1 ∧ ms = false then (2 : Int) else th) = t := ⟨_, rfl⟩
      have HT2 := Lib.hid hth
      have HR2 : Hid (onceK ⟨id, ph, L, th, N⟩ = (⟨id, fp, F.map (bottleS th N), th2, N⟩, M0 ++ F.flatMap (bottleM id th N))) := Lib.hid (by rw [HR.out, hms, hth])
      have HMS := Lib.hid hms
      clear hth hms
      obtain ⟨⟨d0, d1, d2⟩, d3, d4⟩ := cells5 FF.out.dbox
      have f3 := blk_free FF.out.dbox 3
      by_cases e1 : th = 1
      · have t1 : (th == 1) = true := by simp [e1]
        have HC : Hid (Calls Tryz.prog 142 #[.slice fa fn fc, .func (.func 179) #[] #[.pointer (some ⟨w.heap.size, 0, none⟩), .pointer (some ⟨gn, 0, none⟩)]] wr fun e w' => e = .returned (.bool ms) ∧ Ext wr w') := Lib.hid (by
          refine contains_tells wr _ _ (F.map (bottleS th N)) (fun s => decide (th = 1) && needsB N s && !s.bottle) FF.out.sides.sl ⟨179, _, rfl, enters_of Tryz.func179 (by kernel_rfl) rfl, fun W s hW => ?_⟩ ms ?_
          · exact lacks_K W w.heap.size gn id fp th _ _ N s ((FF.out.ext' hW).looks HNw.out) _ rfl
          · rw [← HMS.out]
            unfold missB
            rw [decide_eq_true e1]
            rfl)
        cases ms
        · have e2 : th2 = 2 := by rw [← HT2.out, if_pos ⟨e1, rfl⟩]
          subst e2
          clear e1
          go_upto_region 23 with (first
            | (go_at_call 142; refine HC.out.mono ?_; rintro e w3 ⟨rfl, hx⟩; have X3 : Hid (Ext wr w3) := Lib.hid hx; have F3 := Lib.hid (FF.out.ext' hx); clear d0 d1 d2 d3 d4 f3; obtain ⟨⟨d0, d1, d2⟩, d3, d4⟩ := cells5 F3.out.dbox; have f3 := blk_free F3.out.dbox 3; clear hx))
          obtain ⟨W5, hW5⟩ : ∃ W5, W5 = w3.setCell ⟨w.heap.size, 3, none⟩ (.int .i64 2) := ⟨_, rfl⟩
          have FE := Lib.hid (hW5 ▸ F3.out.thirst 2)
          rw [← hW5]
          clear hW5 d0 d1 d2 d3 d4 f3
          (refine wp_region_X_lit (K := fun V => V.heap[w.heap.size]? = some (.cells #[.int .i64 id, .int .i64 fp, .slice fa fn fc, .int .i64 2, .slice na N.length nc] 63 (0, 0)) ∧ V.heap[go]? = some (.cells #[.slice oa on oc] 23 (0, 0))) (by kernel_rfl) (fun w1 hw1 => ?_))
          have HX1 : Hid (Ext _ w1) := Lib.hid hw1
          have RE := Lib.hid (FE.out.ext' hw1)
          clear hw1
          refine xtv 0 (hv := by intro w' hw'; obtain ⟨⟨d0, d1, d2⟩, d3, d4⟩ := cells5 hw'.1; go_simp; first | done | with_reducible rfl) (h := ?_)
          refine xtv 1 (hv := by intro w' hw'; have q0 := blk_cell hw'.2 0 rfl; go_simp; first | done | with_reducible rfl) (h := ?_)
          refine xone 2 (hk := ⟨RE.out.dbox, RE.out.obox⟩) (h := RunX.of 2 (h := ?_))
          refine wp_st 63 (.tmp 2) (.tmp 90) rfl (w.heap.size + 1) 0 63 #[.int .i64 0, .int .i64 0, .slice none 0 0, .int .i64 0, .slice none 0 0] #[.int .i64 id, .int .i64 fp, .slice fa fn fc, .int .i64 2, .slice na N.length nc] #[.int .i64 id, .int .i64 fp, .slice fa fn fc, .int .i64 2, .slice na N.length nc] rfl rfl RE.out.rbox (by kernel_rfl) (by simp) rfl rfl ?_
          intro WB hWB oB
          simp only [Act.put]
          have hlo := RE.out.low
          have KB : Hid (WB.heap[w.heap.size]? = some (.cells #[.int .i64 id, .int .i64 fp, .slice fa fn fc, .int .i64 2, .slice na N.length nc] 63 (0, 0)) ∧ WB.heap[go]? = some (.cells #[.slice oa on oc] 23 (0, 0))) := Lib.hid ⟨oB.blk RE.out.dbox (by omega), oB.blk RE.out.obox (by omega)⟩
          have SB := Lib.hid (owU RE.out.sides (fun b hb => oB.block b (RE.out.sides.low b hb).2 (by have := (RE.out.sides.low b hb).1; omega)))
          have OB := Lib.hid (owU RE.out.out (fun b hb => oB.block b (RE.out.out.low b hb).2 (by have := (RE.out.out.low b hb).1; omega)))
          have XB := Lib.hid (ext_off RE.out.ext oB (fun b hb => by omega))
          have RB := Lib.hid hWB
          clear hWB oB hlo
          refine xtv 3 (h := ?_)
          refine xtv 4 (h := ?_)
          (refine xdone (by kernel_rfl) (KB.out) ?_)
          go_wp2
          exact bodyPost_ret (v := .tuple #[.agg #[.int .i64 id, .int .i64 fp, .slice fa fn fc, .int .i64 2, .slice na N.length nc], .slice oa on oc, .int .i64 0]) (res_ctt 3 4 rfl rfl RB.out uDrinker (by kernel_rfl)) rfl (by
            rw [HR2.out]
            exact ⟨_, _, rfl, SB.out.sl, OB.out.sl, XB.out, fun b hb => by have := (SB.out.low b hb).1; omega⟩)
        · have e2 : th2 = th := by rw [← HT2.out, if_neg (by simp)]
          subst e2
          clear e1
          go_upto_region 23 with (first
            | (go_at_call 142; refine HC.out.mono ?_; rintro e w3 ⟨rfl, hx⟩; have X3 : Hid (Ext wr w3) := Lib.hid hx; have F3 := Lib.hid (FF.out.ext' hx); clear d0 d1 d2 d3 d4 f3; clear hx))
          have FE := F3
          (refine wp_region_X_lit (K := fun V => V.heap[w.heap.size]? = some (.cells #[.int .i64 id, .int .i64 fp, .slice fa fn fc, .int .i64 th2, .slice na N.length nc] 63 (0, 0)) ∧ V.heap[go]? = some (.cells #[.slice oa on oc] 23 (0, 0))) (by kernel_rfl) (fun w1 hw1 => ?_))
          have HX1 : Hid (Ext _ w1) := Lib.hid hw1
          have RE := Lib.hid (FE.out.ext' hw1)
          clear hw1
          refine xtv 0 (hv := by intro w' hw'; obtain ⟨⟨d0, d1, d2⟩, d3, d4⟩ := cells5 hw'.1; go_simp; first | done | with_reducible rfl) (h := ?_)
          refine xtv 1 (hv := by intro w' hw'; have q0 := blk_cell hw'.2 0 rfl; go_simp; first | done | with_reducible rfl) (h := ?_)
          refine xone 2 (hk := ⟨RE.out.dbox, RE.out.obox⟩) (h := RunX.of 2 (h := ?_))
          refine wp_st 63 (.tmp 2) (.tmp 90) rfl (w.heap.size + 1) 0 63 #[.int .i64 0, .int .i64 0, .slice none 0 0, .int .i64 0, .slice none 0 0] #[.int .i64 id, .int .i64 fp, .slice fa fn fc, .int .i64 th2, .slice na N.length nc] #[.int .i64 id, .int .i64 fp, .slice fa fn fc, .int .i64 th2, .slice na N.length nc] rfl rfl RE.out.rbox (by kernel_rfl) (by simp) rfl rfl ?_
          intro WB hWB oB
          simp only [Act.put]
          have hlo := RE.out.low
          have KB : Hid (WB.heap[w.heap.size]? = some (.cells #[.int .i64 id, .int .i64 fp, .slice fa fn fc, .int .i64 th2, .slice na N.length nc] 63 (0, 0)) ∧ WB.heap[go]? = some (.cells #[.slice oa on oc] 23 (0, 0))) := Lib.hid ⟨oB.blk RE.out.dbox (by omega), oB.blk RE.out.obox (by omega)⟩
          have SB := Lib.hid (owU RE.out.sides (fun b hb => oB.block b (RE.out.sides.low b hb).2 (by have := (RE.out.sides.low b hb).1; omega)))
          have OB := Lib.hid (owU RE.out.out (fun b hb => oB.block b (RE.out.out.low b hb).2 (by have := (RE.out.out.low b hb).1; omega)))
          have XB := Lib.hid (ext_off RE.out.ext oB (fun b hb => by omega))
          have RB := Lib.hid hWB
          clear hWB oB hlo
          refine xtv 3 (h := ?_)
          refine xtv 4 (h := ?_)
          (refine xdone (by kernel_rfl) (KB.out) ?_)
          go_wp2
          exact bodyPost_ret (v := .tuple #[.agg #[.int .i64 id, .int .i64 fp, .slice fa fn fc, .int .i64 th2, .slice na N.length nc], .slice oa on oc, .int .i64 0]) (res_ctt 3 4 rfl rfl RB.out uDrinker (by kernel_rfl)) rfl (by
            rw [HR2.out]
            exact ⟨_, _, rfl, SB.out.sl, OB.out.sl, XB.out, fun b hb => by have := (SB.out.low b hb).1; omega⟩)
      · have e2 : th2 = th := by rw [← HT2.out, if_neg (fun h => e1 h.1)]
        subst e2
        have t1 : (th2 == 1) = false := by simp [e1]
        have FE := FF
        clear e1
        go_upto_region 23 with (fail)
        clear d0 d1 d2 d3 d4 f3
        (refine wp_region_X_lit (K := fun V => V.heap[w.heap.size]? = some (.cells #[.int .i64 id, .int .i64 fp, .slice fa fn fc, .int .i64 th2, .slice na N.length nc] 63 (0, 0)) ∧ V.heap[go]? = some (.cells #[.slice oa on oc] 23 (0, 0))) (by kernel_rfl) (fun w1 hw1 => ?_))
        have HX1 : Hid (Ext _ w1) := Lib.hid hw1
        have RE := Lib.hid (FE.out.ext' hw1)
        clear hw1
        refine xtv 0 (hv := by intro w' hw'; obtain ⟨⟨d0, d1, d2⟩, d3, d4⟩ := cells5 hw'.1; go_simp; first | done | with_reducible rfl) (h := ?_)
        refine xtv 1 (hv := by intro w' hw'; have q0 := blk_cell hw'.2 0 rfl; go_simp; first | done | with_reducible rfl) (h := ?_)
        refine xone 2 (hk := ⟨RE.out.dbox, RE.out.obox⟩) (h := RunX.of 2 (h := ?_))
        refine wp_st 63 (.tmp 2) (.tmp 90) rfl (w.heap.size + 1) 0 63 #[.int .i64 0, .int .i64 0, .slice none 0 0, .int .i64 0, .slice none 0 0] #[.int .i64 id, .int .i64 fp, .slice fa fn fc, .int .i64 th2, .slice na N.length nc] #[.int .i64 id, .int .i64 fp, .slice fa fn fc, .int .i64 th2, .slice na N.length nc] rfl rfl RE.out.rbox (by kernel_rfl) (by simp) rfl rfl ?_
        intro WB hWB oB
        simp only [Act.put]
        have hlo := RE.out.low
        have KB : Hid (WB.heap[w.heap.size]? = some (.cells #[.int .i64 id, .int .i64 fp, .slice fa fn fc, .int .i64 th2, .slice na N.length nc] 63 (0, 0)) ∧ WB.heap[go]? = some (.cells #[.slice oa on oc] 23 (0, 0))) := Lib.hid ⟨oB.blk RE.out.dbox (by omega), oB.blk RE.out.obox (by omega)⟩
        have SB := Lib.hid (owU RE.out.sides (fun b hb => oB.block b (RE.out.sides.low b hb).2 (by have := (RE.out.sides.low b hb).1; omega)))
        have OB := Lib.hid (owU RE.out.out (fun b hb => oB.block b (RE.out.out.low b hb).2 (by have := (RE.out.out.low b hb).1; omega)))
        have XB := Lib.hid (ext_off RE.out.ext oB (fun b hb => by omega))
        have RB := Lib.hid hWB
        clear hWB oB hlo
        refine xtv 3 (h := ?_)
        refine xtv 4 (h := ?_)
        (refine xdone (by kernel_rfl) (KB.out) ?_)
        go_wp2
        exact bodyPost_ret (v := .tuple #[.agg #[.int .i64 id, .int .i64 fp, .slice fa fn fc, .int .i64 th2, .slice na N.length nc], .slice oa on oc, .int .i64 0]) (res_ctt 3 4 rfl rfl RB.out uDrinker (by kernel_rfl)) rfl (by
          rw [HR2.out]
          exact ⟨_, _, rfl, SB.out.sl, OB.out.sl, XB.out, fun b hb => by have := (SB.out.low b hb).1; omega⟩)
end Go.Proofs.YtfbambemjokmgaaGreat
