/- Texts of this seat. -/
import Derived.Lib.SliceRun
import Derived.Deep.LoopGhost
import Derived.Test.YtfbambemjokmgaaGreatNAB
import Derived.Test.YtfbambemjokmgaaGreatNAE
namespace Go.Proofs.YtfbambemjokmgaaGreat
open Go.RowKit
theorem uSide : ∃ fs, Tryz.prog.underlying 66 = some (.struct fs) := ⟨_, Tryz.underlying66⟩
def sideR (L : List Sd) (p : Int) : Sd × Bool := match L.find? (fun s => s.peer == p) with
  | some s => (s, true)
  | none => (Sd.zero, false)
theorem sideR_at {L : List Sd} {p : Int} {k : Nat} {y : Sd} (h : (L.take k).any (fun s => s.peer == p) = false) (hy : L[k]? = some y) (hp : (y.peer == p) = true) : sideR L p = (y, true) := by
  have hk := (List.getElem?_eq_some_iff.1 hy).1
  have e : L = L.take k ++ y :: L.drop (k + 1) := by
    have := (List.getElem?_eq_some_iff.1 hy).2
    rw [← this, List.getElem_cons_drop hk, List.take_append_drop]
  unfold sideR
  rw [e, List.find?_append]
  have h2 : (L.take k).find? (fun s => s.peer == p) = none := by
    rw [List.find?_eq_none]
    intro x hx
    have := List.any_eq_false.1 h x hx
    simpa using this
  rw [h2]
  simp [hp]
theorem sideR_none {L : List Sd} {p : Int} (h : L.any (fun s => s.peer == p) = false) : sideR L p = (Sd.zero, false) := by
  unfold sideR
  have h2 : L.find? (fun s => s.peer == p) = none := by
    rw [List.find?_eq_none]
    intro x hx
    have := List.any_eq_false.1 h x hx
    simpa using this
  rw [h2]
theorem any_nextD {α : Type} {xs : List α} {k : Nat} {y : α} (p : α → Bool) (h : xs[k]? = some y) : (xs.take (k + 1)).any p = ((xs.take k).any p || p y) := by
  have hk := (List.getElem?_eq_some_iff.1 h).1
  rw [List.take_succ_eq_append_getElem hk, List.any_append]
  have := (List.getElem?_eq_some_iff.1 h).2
  simp [this]
set_option maxRecDepth 100000 in
set_option maxHeartbeats 1000000 in
theorem refSide_any (w : World) (id phase : Int) (v : Value) (L : List Sd) (p : Int) (h : Sl w v L) (s : Sd) (b : Bool) (hr : sideR L p = (s, b)) :
    Calls Tryz.prog 32 #[.agg #[.int .i64 id, .int .i64 phase, v], .int .i64 p] w fun e w' => e = .returned (.tuple #[.agg s.cs, .bool b]) ∧ Ext w w' := by
  obtain ⟨ao, c, rfl⟩ := h.len
  have HS := Lib.hid h
  have hlen := h.length_le
  have HR := Lib.hid hr
  have HK : Hid (∀ V, Ext ((w.alloc (.cells #[.int .i64 id, .int .i64 phase, .slice ao L.length c] 61)).alloc (.cells Sd.zero.cs 66)) V → (V.cell? ⟨w.heap.size, 2, none⟩ = some (.slice ao L.length c)) ∧ V.heap[w.heap.size + 1]? = some (.cells Sd.zero.cs 66 (0, 0))) := Lib.hid fun V hV => by
    obtain ⟨hA, hB⟩ := box2 (hV.mono (by rw [size_alloc, size_alloc]; omega))
    exact ⟨blk_cell hA 2 rfl, hB⟩
  have X0 : Ext w ((w.alloc (.cells #[.int .i64 id, .int .i64 phase, .slice ao L.length c] 61)).alloc (.cells Sd.zero.cs 66)) := ((Ext.refl w).alloc _).alloc _
  have HX0 := Lib.hid X0
  clear h hr X0
  go_enter Tryz.func32, Tryz.ntmps32
  go_wp2
  go_loopw [6] (fun i wr => ∃ k : Nat, k ≤ L.length ∧ i = .int .i64 k ∧ Hid ((L.take k).any (fun s => s.peer == p) = false) ∧ Hid (Ext ((w.alloc (.cells #[.int .i64 id, .int .i64 phase, .slice ao L.length c] 61)).alloc (.cells Sd.zero.cs 66)) wr)) (fun i _ => L.length - (intOf i).toNat)
  case atStart => exact ⟨0, Nat.zero_le _, rfl, Lib.hid rfl, Lib.hid (Ext.refl _)⟩
  case round =>
    obtain ⟨k, hk, rfl, HT, HX⟩ := hrel
    obtain ⟨kd, kb⟩ := HK.out wr HX.out
    have HB := Lib.hid kb
    clear kb
    by_cases hlt : k < L.length
    · obtain ⟨b1, off, y, hy, hyk, rfl, hn, hnc, hc63, hb, hcell⟩ := HS.out.sidesAt hlt
      obtain ⟨⟨⟨h0, h1⟩, h2, h3⟩, ⟨h4, h5⟩, h6, h7⟩ := hcell wr (HX0.out.trans HX.out)
      have HN := Lib.hid (any_nextD (fun s : Sd => s.peer == p) hyk)
      have HYK := Lib.hid hyk
      obtain ⟨y0, y1, y2, y3, y4, y5, y6, y7⟩ := y
      dsimp only at h0 h1 h2 h3 h4 h5 h6 h7
      clear hcell hy hyk hn
      cases ht : (y0 == p)
      · have HF : Hid ((L.take (k + 1)).any (fun s => s.peer == p) = false) := Lib.hid (HN.out.trans (by rw [HT.out]; exact ht))
        clear h1 h2 h3 h4 h5 h6 h7
        go_wp2
        go_roundw
        case rel => exact ⟨k + 1, by omega, by go_num, HF, HX⟩
        case measure => simp [intOf]; omega
      · have HE := Lib.hid (HR.out.symm.trans (sideR_at HT.out HYK.out ht))
        go_wp2_with (first | refine haltst 66 ?_)
        refine .inl ?_
        refine st_l 66 (.tmp 4) (.tmp 26) (w.heap.size + 1) 0 66 Sd.zero.cs (Sd.cs ⟨y0, y1, y2, y3, y4, y5, y6, y7⟩) (Sd.cs ⟨y0, y1, y2, y3, y4, y5, y6, y7⟩) rfl rfl HB.out (by kernel_rfl) (by simp [Sd.cs, Sd.zero]) rfl rfl ?_
        intro W hW oW
        simp only [Act.put]
        go_wp2
        refine bodyPost_ret (v := .tuple #[.agg (Sd.cs ⟨y0, y1, y2, y3, y4, y5, y6, y7⟩), .bool true]) (res_ct 5 rfl rfl hW uSide (by kernel_rfl)) rfl ⟨?_, ?_⟩
        · have := HE.out
          simp only [Prod.mk.injEq] at this
          rw [this.1, this.2]
        · exact ext_off (HX0.out.trans HX.out) oW (fun k hk => by omega)
    · have hkl : k = L.length := by omega
      have HE : Hid ((s, b) = (Sd.zero, false)) := Lib.hid (HR.out.symm.trans (sideR_none (by have := HT.out; rwa [hkl, List.take_length] at this)))
      go_wp2_with (first | refine haltst 66 ?_)
      refine .inl ?_
      refine st_l 66 (.tmp 4) (.tmp 27) (w.heap.size + 1) 0 66 Sd.zero.cs Sd.zero.cs Sd.zero.cs rfl rfl HB.out (by kernel_rfl) (by simp [Sd.cs, Sd.zero]) rfl rfl ?_
      intro W hW oW
      simp only [Act.put]
      go_wp2
      refine bodyPost_ret (v := .tuple #[.agg Sd.zero.cs, .bool false]) (res_ct 5 rfl rfl hW uSide (by kernel_rfl)) rfl ⟨?_, ?_⟩
      · have := HE.out
        simp only [Prod.mk.injEq] at this
        rw [this.1, this.2]
      · exact ext_off (HX0.out.trans HX.out) oW (fun k hk => by omega)
end Go.Proofs.YtfbambemjokmgaaGreat
namespace Go.Proofs.YtfbambemjokmgaaGreat
open Go.RowKit
theorem cells8P {w : World} {g : Nat} {u0 u1 u2 u3 u4 u5 u6 u7 : Value} {t : TypeId} (h : w.heap[g]? = some (.cells #[u0, u1, u2, u3, u4, u5, u6, u7] t (0, 0))) :
    ((w.cell? ⟨g, 0, none⟩ = some u0 ∧ w.cell? ⟨g, 1, none⟩ = some u1) ∧ w.cell? ⟨g, 2, none⟩ = some u2 ∧ w.cell? ⟨g, 3, none⟩ = some u3) ∧ (w.cell? ⟨g, 4, none⟩ = some u4 ∧ w.cell? ⟨g, 5, none⟩ = some u5) ∧ w.cell? ⟨g, 6, none⟩ = some u6 ∧ w.cell? ⟨g, 7, none⟩ = some u7 :=
  ⟨⟨⟨blk_cell h 0 rfl, blk_cell h 1 rfl⟩, blk_cell h 2 rfl, blk_cell h 3 rfl⟩, ⟨blk_cell h 4 rfl, blk_cell h 5 rfl⟩, blk_cell h 6 rfl, blk_cell h 7 rfl⟩
set_option maxRecDepth 100000 in
set_option maxHeartbeats 2000000 in
theorem pSide_any (w : World) (id phase : Int) (v : Value) (L : List Sd) (p : Int) (h : Sl w v L) (s : Sd) (b : Bool) (hr : sideR L p = (s, b)) :
    Calls Tryz.prog 116 #[.agg #[.int .i64 id, .int .i64 phase, v], .int .i64 p] w fun e w' => e = .returned (.tuple #[.agg s.cs, .bool b]) ∧ Ext w w' := by
  obtain ⟨ao, c, rfl⟩ := h.len
  have HS := Lib.hid h
  have hlen := h.length_le
  have HR := Lib.hid hr
  have HK : Hid (∀ V, Ext ((w.alloc (.cells #[.int .i64 id, .int .i64 phase, .slice ao L.length c] 61)).alloc (.cells Sd.zero.cs 66)) V → (V.cell? ⟨w.heap.size, 2, none⟩ = some (.slice ao L.length c)) ∧ V.heap[w.heap.size + 1]? = some (.cells Sd.zero.cs 66 (0, 0))) := Lib.hid fun V hV => by
    obtain ⟨hA, hB⟩ := box2 (hV.mono (by rw [size_alloc, size_alloc]; omega))
    exact ⟨blk_cell hA 2 rfl, hB⟩
  have X0 : Ext w ((w.alloc (.cells #[.int .i64 id, .int .i64 phase, .slice ao L.length c] 61)).alloc (.cells Sd.zero.cs 66)) := ((Ext.refl w).alloc _).alloc _
  have HX0 := Lib.hid X0
  clear h hr X0
  go_enter Tryz.func116, Tryz.ntmps116
  go_wp2
  go_loopw [11] (fun i wr => ∃ k : Nat, k ≤ L.length ∧ i = .int .i64 k ∧ Hid ((L.take k).any (fun s => s.peer == p) = false) ∧ Hid (Ext ((w.alloc (.cells #[.int .i64 id, .int .i64 phase, .slice ao L.length c] 61)).alloc (.cells Sd.zero.cs 66)) wr)) (fun i _ => L.length - (intOf i).toNat)
  case atStart => exact ⟨0, Nat.zero_le _, rfl, Lib.hid rfl, Lib.hid (Ext.refl _)⟩
  case round =>
    obtain ⟨k, hk, rfl, HT, HX⟩ := hrel
    obtain ⟨kd, kb⟩ := HK.out wr HX.out
    have HB := Lib.hid kb
    clear kb kd
    by_cases hlt : k < L.length
    · obtain ⟨b1, off, y, hy, hyk, rfl, hn, hnc, hc63, hb, hcell⟩ := HS.out.sidesAt hlt
      obtain ⟨⟨⟨h0, h1⟩, h2, h3⟩, ⟨h4, h5⟩, h6, h7⟩ := hcell wr (HX0.out.trans HX.out)
      have HN := Lib.hid (any_nextD (fun s : Sd => s.peer == p) hyk)
      have HYK := Lib.hid hyk
      have HA : Hid (Ext ((w.alloc (.cells #[.int .i64 id, .int .i64 phase, .slice (some ⟨b1, off, none⟩) L.length c] 61)).alloc (.cells Sd.zero.cs 66)) (wr.alloc (.cells y.cs 66))) := Lib.hid (HX.out.alloc _)
      have HBX := Lib.hid (at0 wr (.cells y.cs 66))
      have HB2 := Lib.hid (blk_alloc HB.out (.cells y.cs 66))
      obtain ⟨y0, y1, y2, y3, y4, y5, y6, y7⟩ := y
      dsimp only at h0 h1 h2 h3 h4 h5 h6 h7
      dsimp only [Sd.cs] at HA HBX
      clear hcell hy hyk hn
      go_upto_region 4 with (fail)
      obtain ⟨⟨⟨q0, q1⟩, q2, q3⟩, ⟨q4, q5⟩, q6, q7⟩ := cells8P HBX.out
      cases ht : (y0 == p)
      · have HF : Hid ((L.take (k + 1)).any (fun s => s.peer == p) = false) := Lib.hid (HN.out.trans (by rw [HT.out]; exact ht))
        go_wp2
        go_roundw
        case rel => exact ⟨k + 1, by omega, by go_num, HF, HA⟩
        case measure => simp [intOf]; omega
      · have HE := Lib.hid (HR.out.symm.trans (sideR_at HT.out HYK.out ht))
        go_wp2_with (first | refine haltst 66 ?_)
        refine .inl ?_
        refine st_l 66 (.tmp 4) (.tmp 19) (w.heap.size + 1) 0 66 Sd.zero.cs (Sd.cs ⟨y0, y1, y2, y3, y4, y5, y6, y7⟩) (Sd.cs ⟨y0, y1, y2, y3, y4, y5, y6, y7⟩) rfl rfl HB2.out (by kernel_rfl) (by simp [Sd.cs, Sd.zero]) rfl rfl ?_
        intro W hW oW
        simp only [Act.put]
        go_wp2
        refine bodyPost_ret (v := .tuple #[.agg (Sd.cs ⟨y0, y1, y2, y3, y4, y5, y6, y7⟩), .bool true]) (res_ct 5 rfl rfl hW uSide (by kernel_rfl)) rfl ⟨?_, ?_⟩
        · have := HE.out
          simp only [Prod.mk.injEq] at this
          rw [this.1, this.2]
        · exact ext_off (HX0.out.trans HA.out) oW (fun k hk => by omega)
    · have hkl : k = L.length := by omega
      have HE : Hid ((s, b) = (Sd.zero, false)) := Lib.hid (HR.out.symm.trans (sideR_none (by have := HT.out; rwa [hkl, List.take_length] at this)))
      go_wp2_with (first | refine haltst 66 ?_)
      refine .inl ?_
      refine st_l 66 (.tmp 4) (.tmp 21) (w.heap.size + 1) 0 66 Sd.zero.cs Sd.zero.cs Sd.zero.cs rfl rfl HB.out (by kernel_rfl) (by simp [Sd.cs, Sd.zero]) rfl rfl ?_
      intro W hW oW
      simp only [Act.put]
      go_wp2
      refine bodyPost_ret (v := .tuple #[.agg Sd.zero.cs, .bool false]) (res_ct 5 rfl rfl hW uSide (by kernel_rfl)) rfl ⟨?_, ?_⟩
      · have := HE.out
        simp only [Prod.mk.injEq] at this
        rw [this.1, this.2]
      · exact ext_off (HX0.out.trans HX.out) oW (fun k hk => by omega)
end Go.Proofs.YtfbambemjokmgaaGreat
namespace Go.Proofs.YtfbambemjokmgaaGreat
open Go.RowKit
section
variable {P : Program} {ops : Array Oper} {Q : Exit → Act → World → Prop} {md : Region.Mode} {K : World → Prop}
def xM (P : Program) (md : Region.Mode) (ops : Array Oper) (Q : Exit → Act → World → Prop) (K : World → Prop) : Nat → Array Bool → Act → World → Prop
  | 0, listed, a, w => K w ∧ Region.ready md ops listed = [] ∧ Q .normal a w
  | f + 1, listed, a, w => K w ∧ (Region.ready md ops listed = [] → Q .normal a w) ∧ ∀ i ∈ Region.ready md ops listed, wpOp P ops Q i (fun a2 w2 => xM P md ops Q K f (listed.setIfInBounds i true) a2 w2) a w
theorem xM.any : ∀ {f : Nat} {listed : Array Bool} {a : Act} {w : World}, xM P md ops Q K f listed a w → wpAny P md ops Q f listed a w
  | 0, _, _, _, h => h.2
  | _ + 1, _, _, _, h => ⟨h.2.1, fun i hi => wpOp_mono (fun _ _ h2 => h2.any) (h.2.2 i hi)⟩
def TakesX (P : Program) (ops : Array Oper) (K : World → Prop) (o : Oper) (v : Value) (a : Act) : Prop :=
  (Region.wanted o (yielded ops a.tmps) = true ∧ ∀ w', K w' → (execOp a.eval o).run P w' = .ok (.value v) w') ∨
  (Region.wanted o (yielded ops a.tmps) = false ∧ v = undef)
theorem TakesX.same {o : Oper} {v : Value} {a a' : Act} (h : TakesX P ops K o v a) (s : SameFor ops o a a') : TakesX P ops K o v a' := by
  unfold TakesX at *
  rw [s.1, s.2]
  exact h
theorem TakesX.wpOp {i : Nat} {o : Oper} {v : Value} {a : Act} {w : World} (hi : ops[i]? = some o) (h : TakesX P ops K o v a) (hk : K w)
    {R : Act → World → Prop} (hR : R (a.put o.dst v) w) : wpOp P ops Q i R a w := by
  unfold Go.wpOp
  simp only [hi]
  rcases h with ⟨hw, hv⟩ | ⟨hw, rfl⟩
  · simp only [hw, if_true]
    refine .inl ?_
    unfold Oper.wp
    rw [hv w hk]
    exact hR
  · simp only [hw, Bool.false_eq_true, if_false]
    exact hR
theorem xM_first {i : Nat} {oi : Oper} {v : Value} (hi : ops[i]? = some oi) (hsel : ∀ (j : Nat) (o : Oper) cs b, ops[j]? = some o → o.op ≠ .select cs b)
    (hQ : ∀ c a w, Q (.panic c) (a.put oi.dst v) w → Q (.panic c) a w) :
    ∀ (f : Nat) (listed : Array Bool) (a : Act) (w : World),
      (∀ j oj, ops[j]? = some oj → j ≠ i → listed.getD j true = false → (∀ e ∈ oj.after, Region.binds md e = true → e.on ≠ i) → oi.apart ops oj = true) →
      i ∈ Region.ready md ops listed → TakesX P ops K oi v a →
      xM P md ops Q K f (listed.setIfInBounds i true) (a.put oi.dst v) w → xM P md ops Q K (f + 1) listed a w := by
  intro f
  induction f with
  | zero =>
    intro listed a w _ hr ht H
    refine ⟨H.1, fun h => (by rw [h] at hr; cases hr), fun j hj => ?_⟩
    by_cases hji : j = i
    · subst hji
      exact ht.wpOp hi H.1 H
    · have := ready_mono hj hji
      rw [H.2.1] at this
      cases this
  | succ f ih =>
    intro listed a w hfree hr ht H
    refine ⟨H.1, fun h => (by rw [h] at hr; cases hr), fun j hj => ?_⟩
    by_cases hji : j = i
    · subst hji
      exact ht.wpOp hi H.1 H
    · have h1 := H.2.2 j (ready_mono hj hji)
      obtain ⟨hjun, oj, hoj, hall⟩ := mem_ready.1 hj
      have hnot : ∀ e ∈ oj.after, Region.binds md e = true → e.on ≠ i := fun e he hb heq => by
        have h1 := hall e he hb
        have h0 := (mem_ready.1 hr).1
        rw [heq] at h1
        rcases Nat.lt_or_ge i listed.size with h' | h'
        · simp [h'] at h0 h1; rw [h0] at h1; cases h1
        · simp [Array.getElem?_eq_none h'] at h1
      have h2 := wpOp_apart hoj (hfree j oj hoj hji hjun hnot) (fun cs b => hsel i oi cs b hi) (fun cs b => hsel j oj cs b hoj) hQ h1
      refine wpOp_mono (fun a' w2 h3 => ?_) h2
      refine ih (listed.setIfInBounds j true) a' w2 (fun k ok hk hki hun hno => ?_) (ready_mono hr (Ne.symm hji)) (ht.same h3.1) ?_
      · refine hfree k ok hk hki ?_ hno
        by_cases hjk : j = k
        · subst hjk; exact hjun
        · rw [getD_set_ne true hjk] at hun; exact hun
      · rw [Array.setIfInBounds_comm _ _ hji]
        exact h3.2
theorem wp_region_X_lit {id : Nat} {a : Act} {w : World} {l : List Oper} (hm : P.follows .mixedOrders = true)
    (h : ∀ w1, Ext w w1 → xM P .any l.toArray (NoPanic Q) K l.length (Array.replicate l.length false) a w1) : (Code.region id l.toArray true).wp P Q a w :=
  wp_region_noPanic (wp_region_any hm (by simpa using (h w.drew (Ext.drew (Ext.refl w))).any))
def xtakeB (md : Region.Mode) (ops : Array Oper) (listed : Array Bool) (i : Nat) : Bool :=
  (Region.ready md ops listed).contains i && Region.noSelect ops && Region.free md ops listed i
theorem xtakeV (i : Nat) {oi : Oper} {v : Value} {f : Nat} {listed : Array Bool} {a : Act} {w : World} (hi : ops[i]? = some oi := by simp only [List.getElem?_toArray, List.getElem?_cons, reduceIte]; rfl) (hb : xtakeB md ops listed i = true := by kernel_rfl)
    (hw : Region.wanted oi (yielded ops a.tmps) = true := by rfl) (hv : ∀ w', K w' → (execOp a.eval oi).run P w' = .ok (.value v) w')
    (h : xM P md ops (NoPanic Q) K f (listed.setIfInBounds i true) (a.put oi.dst v) w) : xM P md ops (NoPanic Q) K (f + 1) listed a w := by
  simp only [xtakeB, Bool.and_eq_true] at hb
  obtain ⟨⟨h1, h2⟩, h3⟩ := hb
  exact xM_first hi (Region.noSelect_spec h2) (fun _ _ _ h => h) f listed a w (Region.free_spec hi h3) (by simpa using h1) (.inl ⟨hw, hv⟩) h
theorem xtv (i : Nat) {oi : Oper} {v : Value} {f : Nat} {listed : Array Bool} {a a' : Act} {w : World} (hi : ops[i]? = some oi := by simp only [List.getElem?_toArray, List.getElem?_cons, reduceIte]; rfl) (hb : xtakeB md ops listed i = true := by kernel_rfl)
    (hw : Region.wanted oi (yielded ops a.tmps) = true := by rfl) (hv : ∀ w', K w' → (execOp a.eval oi).run P w' = .ok (.value v) w' := by intro w' hw'; go_simp; first | done | with_reducible rfl)
    (ha : a.put oi.dst v = a' := by simp only [Act.put, List.setIfInBounds_toArray, List.set]; rfl)
    (h : xM P md ops (NoPanic Q) K f (listed.setIfInBounds i true) a' w) : xM P md ops (NoPanic Q) K (f + 1) listed a w := xtakeV i hi hb hw hv (ha ▸ h)
theorem xtakeU (i : Nat) {oi : Oper} {f : Nat} {listed : Array Bool} {a : Act} {w : World} (hi : ops[i]? = some oi := by simp only [List.getElem?_toArray, List.getElem?_cons, reduceIte]; rfl) (hb : xtakeB md ops listed i = true := by kernel_rfl)
    (hw : Region.wanted oi (yielded ops a.tmps) = false := by rfl)
    (h : xM P md ops (NoPanic Q) K f (listed.setIfInBounds i true) (a.put oi.dst undef) w) : xM P md ops (NoPanic Q) K (f + 1) listed a w := by
  simp only [xtakeB, Bool.and_eq_true] at hb
  obtain ⟨⟨h1, h2⟩, h3⟩ := hb
  exact xM_first hi (Region.noSelect_spec h2) (fun _ _ _ h => h) f listed a w (Region.free_spec hi h3) (by simpa using h1) (.inr ⟨hw, rfl⟩) h
def RunX (P : Program) (md : Region.Mode) (ops : Array Oper) (Q : Exit → Act → World → Prop) (K : World → Prop) (f : Nat) (listed : Array Bool) (a : Act) (w : World) (i : Nat) : Prop :=
  ∃ oi, ops[i]? = some oi ∧ Region.wanted oi (yielded ops a.tmps) = true ∧ oi.wp P a w (fun a2 w2 => xM P md ops Q K f (listed.setIfInBounds i true) a2 w2) Q
theorem RunX.of (i : Nat) {oi : Oper} {f : Nat} {listed : Array Bool} {a : Act} {w : World} (hi : ops[i]? = some oi := by simp only [List.getElem?_toArray, List.getElem?_cons, reduceIte]; rfl) (hw : Region.wanted oi (yielded ops a.tmps) = true := by rfl)
    (h : oi.wp P a w (fun a2 w2 => xM P md ops Q K f (listed.setIfInBounds i true) a2 w2) Q) : RunX P md ops Q K f listed a w i := ⟨oi, hi, hw, h⟩
theorem RunX.op {f : Nat} {listed : Array Bool} {a : Act} {w : World} {i : Nat} (h : RunX P md ops Q K f listed a w i) : wpOp P ops Q i (fun a2 w2 => xM P md ops Q K f (listed.setIfInBounds i true) a2 w2) a w := by
  obtain ⟨oi, hi, hw, h⟩ := h
  unfold wpOp
  simp only [hi, hw, if_true]
  exact .inl h
theorem xone (i : Nat) {f : Nat} {listed : Array Bool} {a : Act} {w : World} (hr : Region.ready md ops listed = [i] := by kernel_rfl) (hk : K w) (h : RunX P md ops Q K f listed a w i) : xM P md ops Q K (f + 1) listed a w :=
  ⟨hk, fun e => (by rw [hr] at e; cases e), fun j hj => by
    rw [hr, List.mem_singleton] at hj
    subst hj
    exact h.op⟩
theorem xtwo (i j : Nat) {f : Nat} {listed : Array Bool} {a : Act} {w : World} (hr : Region.ready md ops listed = [i, j] := by kernel_rfl) (hk : K w) (h : RunX P md ops Q K f listed a w i) (h' : RunX P md ops Q K f listed a w j) : xM P md ops Q K (f + 1) listed a w :=
  ⟨hk, fun e => (by rw [hr] at e; cases e), fun k hj => by
    rw [hr, List.mem_cons, List.mem_singleton] at hj
    rcases hj with rfl | rfl
    · exact h.op
    · exact h'.op⟩
theorem xdone {f : Nat} {listed : Array Bool} {a : Act} {w : World} (hr : Region.ready md ops listed = []) (hk : K w) (h : Q .normal a w) : xM P md ops (NoPanic Q) K f listed a w := by
  cases f with
  | zero => exact ⟨hk, hr, h⟩
  | succ f => exact ⟨hk, fun _ => h, fun j hj => by rw [hr] at hj; cases hj⟩
end
end Go.Proofs.YtfbambemjokmgaaGreat
namespace Go.Proofs.YtfbambemjokmgaaGreat
open Go.RowKit
theorem neq_Sd (y z : Sd) (s : Bool) (hs : decide (y = z) = s) :
    (∀ w : World, (binOp .neq 66 (.agg #[.int .i64 y.peer, .int .i64 y.epoch, .int .i64 y.state, .bool y.fork, .bool y.dirty, .bool y.token, .bool y.bottle, .bool y.ask]) (.agg #[.int .i64 z.peer, .int .i64 z.epoch, .int .i64 z.state, .bool z.fork, .bool z.dirty, .bool z.token, .bool z.bottle, .bool z.ask])).run Tryz.prog w = .ok (.bool (!s)) w) ∧ ∀ (a b : Operand) (w : World), (eqGuard .neq 66 a b (.agg #[.int .i64 y.peer, .int .i64 y.epoch, .int .i64 y.state, .bool y.fork, .bool y.dirty, .bool y.token, .bool y.bottle, .bool y.ask]) (.agg #[.int .i64 z.peer, .int .i64 z.epoch, .int .i64 z.state, .bool z.fork, .bool z.dirty, .bool z.token, .bool z.bottle, .bool z.ask])).run Tryz.prog w = .ok () w := by
  obtain ⟨y0, y1, y2, y3, y4, y5, y6, y7⟩ := y
  obtain ⟨z0, z1, z2, z3, z4, z5, z6, z7⟩ := z
  refine ⟨fun w => ?_, fun a b w => run_eqGuard_agg w _ _ a b _ _ (by kernel_rfl)⟩
  have u3 := Tryz.underlying3
  have a3 := Tryz.isAgg3
  have z3' := Tryz.sizeOf3
  have u4 := Tryz.underlying4
  have a4 := Tryz.isAgg4
  have z4' := Tryz.sizeOf4
  have uS := Tryz.underlying64
  have aS := Tryz.isAgg64
  have zS := Tryz.sizeOf64
  have hS : Tryz.prog.underlying 66 = some (.struct (Tryz.prog.fieldsOf 66)) := by kernel_rfl
  have hp : Tryz.prog.stoodInHeld 66 = false := by kernel_rfl
  rw [run_neq_struct, show (10000 : Nat) = 9999 + 1 from rfl, run_equalIn_agg w 9999 66 _ _ hS hp]
  simp only [Program.fieldsOf, Tryz.underlying66]
  go_simp
  subst hs
  by_cases h0 : y0 = z0 <;> by_cases h1 : y1 = z1 <;> by_cases h2 : y2 = z2 <;> simp [h0, h1, h2]
  cases y3 <;> cases z3 <;> simp
  all_goals cases y4 <;> cases z4 <;> simp
  all_goals cases y5 <;> cases z5 <;> simp
  all_goals cases y6 <;> cases z6 <;> simp
  all_goals cases y7 <;> cases z7 <;> simp
theorem take_eqD {α : Type} {xs ys : List α} {k : Nat} {x y : α} (hx : xs[k]? = some x) (hy : ys[k]? = some y) : xs.take (k + 1) = ys.take (k + 1) ↔ xs.take k = ys.take k ∧ x = y := by
  have h1 := (List.getElem?_eq_some_iff.1 hx).1
  have h2 := (List.getElem?_eq_some_iff.1 hy).1
  rw [List.take_succ_eq_append_getElem h1, List.take_succ_eq_append_getElem h2, (List.getElem?_eq_some_iff.1 hx).2, (List.getElem?_eq_some_iff.1 hy).2]
  constructor
  · intro h
    have := List.append_inj h (by simp; omega)
    exact ⟨this.1, by simpa using this.2⟩
  · rintro ⟨ha, hb⟩
    rw [ha, hb]
set_option maxRecDepth 100000 in
set_option maxHeartbeats 2000000 in
theorem refSameOne_any (w : World) (id1 ph1 id2 ph2 : Int) (v1 v2 : Value) (L M : List Sd) (h : Sl w v1 L) (g : Sl w v2 M) (t : Bool) (ht : decide ((⟨id1, ph1, L⟩ : Dn) = ⟨id2, ph2, M⟩) = t) :
    Calls Tryz.prog 87 #[.agg #[.int .i64 id1, .int .i64 ph1, v1], .agg #[.int .i64 id2, .int .i64 ph2, v2]] w fun e w' => e = .returned (.bool t) ∧ Ext w w' := by
  obtain ⟨ao1, c1, rfl⟩ := h.len
  obtain ⟨ao2, c2, rfl⟩ := g.len
  have l1 := h.length_le
  have l2 := g.length_le
  have HS := Lib.hid h
  have HM := Lib.hid g
  have HT := Lib.hid ht
  have HK : Hid (∀ V, Ext ((w.alloc (.cells #[.int .i64 id1, .int .i64 ph1, .slice ao1 L.length c1] 61)).alloc (.cells #[.int .i64 id2, .int .i64 ph2, .slice ao2 M.length c2] 61)) V → (V.cell? ⟨w.heap.size, 0, none⟩ = some (.int .i64 id1) ∧ V.cell? ⟨w.heap.size, 1, none⟩ = some (.int .i64 ph1) ∧ V.cell? ⟨w.heap.size, 2, none⟩ = some (.slice ao1 L.length c1)) ∧ V.cell? ⟨w.heap.size + 1, 0, none⟩ = some (.int .i64 id2) ∧ V.cell? ⟨w.heap.size + 1, 1, none⟩ = some (.int .i64 ph2) ∧ V.cell? ⟨w.heap.size + 1, 2, none⟩ = some (.slice ao2 M.length c2)) := Lib.hid fun V hV => by
    obtain ⟨hA, hB⟩ := box2 (hV.mono (by rw [size_alloc, size_alloc]; omega))
    exact ⟨⟨blk_cell hA 0 rfl, blk_cell hA 1 rfl, blk_cell hA 2 rfl⟩, blk_cell hB 0 rfl, blk_cell hB 1 rfl, blk_cell hB 2 rfl⟩
  have HX0 : Hid (Ext w ((w.alloc (.cells #[.int .i64 id1, .int .i64 ph1, .slice ao1 L.length c1] 61)).alloc (.cells #[.int .i64 id2, .int .i64 ph2, .slice ao2 M.length c2] 61))) := Lib.hid (((Ext.refl w).alloc _).alloc _)
  simp only [Dn.mk.injEq] at ht
  clear h g
  by_cases e1 : id1 = id2
  · by_cases e2 : ph1 = ph2
    · by_cases e3 : L.length = M.length
      · have q1 : (id1 != id2) = false := by simp [e1]
        have q2 : (ph1 != ph2) = false := by simp [e2]
        have q3 : ((L.length : Int) != (M.length : Int)) = false := by simp [e3]
        have HE : Hid (decide (L = M) = t) := Lib.hid (by rw [← ht]; simp [e1, e2])
        have HL3 := Lib.hid e3
        clear e1 e2 e3 ht
        go_enter Tryz.func87, Tryz.ntmps87
        go_wp2
        go_loopw [5] (fun i wr => ∃ k : Nat, k ≤ L.length ∧ i = .int .i64 k ∧ Hid (L.take k = M.take k) ∧ Hid (Ext ((w.alloc (.cells #[.int .i64 id1, .int .i64 ph1, .slice ao1 L.length c1] 61)).alloc (.cells #[.int .i64 id2, .int .i64 ph2, .slice ao2 M.length c2] 61)) wr)) (fun i _ => L.length - (intOf i).toNat)
        case atStart => exact ⟨0, Nat.zero_le _, rfl, Lib.hid rfl, Lib.hid (Ext.refl _)⟩
        case round =>
          obtain ⟨k, hk, rfl, HQ, HX⟩ := hrel
          obtain ⟨⟨ka, kb, kc⟩, kd, ke, kf⟩ := HK.out wr HX.out
          clear ka kb kd ke
          by_cases hlt : k < L.length
          · have hltM : k < M.length := by have := HL3.out; omega
            obtain ⟨b1, o1, y, _, hyk, rfl, hn, hnc, hc63, hb, hcell⟩ := HS.out.sidesAt hlt
            obtain ⟨b2, o2, z, _, hzk, rfl, hn', hnc', hc63', hb', hcell'⟩ := HM.out.sidesAt hltM
            have HCY : Hid (∀ V, Ext wr V → ((((V.cell? ⟨b1, o1 + k * 8, none⟩ = some (.int .i64 y.peer) ∧ V.cell? ⟨b1, o1 + k * 8 + 1, none⟩ = some (.int .i64 y.epoch)) ∧ V.cell? ⟨b1, o1 + k * 8 + 2, none⟩ = some (.int .i64 y.state) ∧ V.cell? ⟨b1, o1 + k * 8 + 3, none⟩ = some (.bool y.fork)) ∧ (V.cell? ⟨b1, o1 + k * 8 + 4, none⟩ = some (.bool y.dirty) ∧ V.cell? ⟨b1, o1 + k * 8 + 5, none⟩ = some (.bool y.token)) ∧ V.cell? ⟨b1, o1 + k * 8 + 6, none⟩ = some (.bool y.bottle) ∧ V.cell? ⟨b1, o1 + k * 8 + 7, none⟩ = some (.bool y.ask)))) := Lib.hid fun V hV => hcell V (HX0.out.trans (HX.out.trans hV))
            have HCZ : Hid (∀ V, Ext wr V → ((((V.cell? ⟨b2, o2 + k * 8, none⟩ = some (.int .i64 z.peer) ∧ V.cell? ⟨b2, o2 + k * 8 + 1, none⟩ = some (.int .i64 z.epoch)) ∧ V.cell? ⟨b2, o2 + k * 8 + 2, none⟩ = some (.int .i64 z.state) ∧ V.cell? ⟨b2, o2 + k * 8 + 3, none⟩ = some (.bool z.fork)) ∧ (V.cell? ⟨b2, o2 + k * 8 + 4, none⟩ = some (.bool z.dirty) ∧ V.cell? ⟨b2, o2 + k * 8 + 5, none⟩ = some (.bool z.token)) ∧ V.cell? ⟨b2, o2 + k * 8 + 6, none⟩ = some (.bool z.bottle) ∧ V.cell? ⟨b2, o2 + k * 8 + 7, none⟩ = some (.bool z.ask)))) := Lib.hid fun V hV => hcell' V (HX0.out.trans (HX.out.trans hV))
            have HBX : Hid (∀ V, Ext wr V → V.cell? ⟨w.heap.size, 2, none⟩ = some (.slice (some ⟨b1, o1, none⟩) L.length c1) ∧ V.cell? ⟨w.heap.size + 1, 2, none⟩ = some (.slice (some ⟨b2, o2, none⟩) M.length c2)) := Lib.hid fun V hV => ⟨(HK.out V (HX.out.trans hV)).1.2.2, (HK.out V (HX.out.trans hV)).2.2.2⟩
            have HN := Lib.hid (take_eqD hyk hzk)
            obtain ⟨s, hs⟩ : ∃ s, decide (y = z) = s := ⟨_, rfl⟩
            have HNQ := Lib.hid (neq_Sd y z s hs)
            have HYZ := Lib.hid hs
            clear hcell hcell' hyk hzk hn hn' hs kf
            obtain ⟨y0, y1, y2, y3, y4, y5, y6, y7⟩ := y
            obtain ⟨z0, z1, z2, z3, z4, z5, z6, z7⟩ := z
            cases s
            all_goals
              go_wp2_with fail
              (refine wp_region_X_lit (K := fun W => Ext wr W) (by kernel_rfl) (fun w1 hw1 => ?_))
              have HX1 := Lib.hid (HX.out.trans hw1)
              have HW1 := Lib.hid hw1
              clear hw1
              refine xtv 0 (h := ?_)
              refine xtv 1 (hv := by intro w' hw'; have hc := (HBX.out w' hw').1; go_simp; first | done | with_reducible rfl) (h := ?_)
              refine xtv 2 (h := ?_)
              refine xtv 3 (h := ?_)
              refine xtv 4 (hv := by intro w' hw'; obtain ⟨⟨⟨a0, a1⟩, a2, a3⟩, ⟨a4, a5⟩, a6, a7⟩ := HCY.out w' hw'; go_simp; first | done | with_reducible rfl) (h := ?_)
              refine xtv 5 (h := ?_)
              refine xtv 6 (hv := by intro w' hw'; have hc := (HBX.out w' hw').2; go_simp; first | done | with_reducible rfl) (h := ?_)
              refine xtv 7 (h := ?_)
              refine xtv 8 (h := ?_)
              refine xtv 9 (hv := by intro w' hw'; obtain ⟨⟨⟨a0, a1⟩, a2, a3⟩, ⟨a4, a5⟩, a6, a7⟩ := HCZ.out w' hw'; go_simp; first | done | with_reducible rfl) (h := ?_)
              refine xtv 10 (hv := by intro w' hw'; obtain ⟨n1, n2⟩ := HNQ.out; go_simp; first | done | with_reducible rfl) (h := ?_)
              (refine xdone (by kernel_rfl) (HW1.out) ?_)
            · go_wp2
              go_ret
              exact ⟨ret_bool (by
                rw [← HE.out]
                exact (decide_eq_false fun e => of_decide_eq_false HYZ.out ((HN.out.1 (by rw [e])).2)).symm), HX0.out.trans HX1.out⟩
            · go_wp2
              go_roundw
              case rel => exact ⟨k + 1, by omega, by go_num, Lib.hid (HN.out.2 ⟨HQ.out, of_decide_eq_true HYZ.out⟩), HX1⟩
              case measure => simp [intOf]; omega
          · have hkl : k = L.length := by omega
            have HF : Hid (true = t) := Lib.hid (by
              have hq := HQ.out
              rw [hkl, List.take_length, HL3.out, List.take_length] at hq
              rw [← HE.out, decide_eq_true hq])
            go_wp2
            go_ret
            exact ⟨ret_bool HF.out, HX0.out.trans HX.out⟩
      · have q1 : (id1 != id2) = false := by simp [e1]
        have q2 : (ph1 != ph2) = false := by simp [e2]
        have q3 : ((L.length : Int) != (M.length : Int)) = true := by simp; omega
        have HF : Hid (false = t) := Lib.hid (by rw [← ht, decide_eq_false fun e => e3 (by rw [e.2.2])])
        have HX1 := Lib.hid (HK.out _ (Ext.refl _))
        obtain ⟨⟨ka, kb, kc⟩, kd, ke, kf⟩ := HX1.out
        clear e1 e2 e3 ht
        go_enter Tryz.func87, Tryz.ntmps87
        go_wp2
        go_ret
        exact ⟨ret_bool HF.out, HX0.out⟩
    · have q1 : (id1 != id2) = false := by simp [e1]
      have q2 : (ph1 != ph2) = true := by simp [e2]
      have HF : Hid (false = t) := Lib.hid (by rw [← ht, decide_eq_false fun e => e2 e.2.1])
      clear e1 e2 ht
      go_enter Tryz.func87, Tryz.ntmps87
      go_wp2
      go_ret
      exact ⟨ret_bool HF.out, HX0.out⟩
  · have q1 : (id1 != id2) = true := by simp [e1]
    have HF : Hid (false = t) := Lib.hid (by rw [← ht, decide_eq_false fun e => e1 e.1])
    clear e1 ht
    go_enter Tryz.func87, Tryz.ntmps87
    go_wp2
    go_ret
    exact ⟨ret_bool HF.out, HX0.out⟩
end Go.Proofs.YtfbambemjokmgaaGreat
namespace Go.Proofs.YtfbambemjokmgaaGreat
open Go.RowKit
def fewB (L : List Dn) (m : Nat) : Bool := ((L.take 25).all fun d => decide (d.sides.length ≤ 24)) && decide (L.length ≤ 24) && decide (m ≤ 40)
theorem all_nextD {α : Type} {xs : List α} {k : Nat} {y : α} (p : α → Bool) (h : xs[k]? = some y) : (xs.take (k + 1)).all p = ((xs.take k).all p && p y) := by
  have hk := (List.getElem?_eq_some_iff.1 h).1
  rw [List.take_succ_eq_append_getElem hk, List.all_append]
  have := (List.getElem?_eq_some_iff.1 h).2
  simp [this]
theorem all_takeD {α : Type} {xs : List α} {p : α → Bool} {k n : Nat} (hkn : k ≤ n) (h : (xs.take k).all p = false) : (xs.take n).all p = false := by
  rw [List.all_eq_false] at *
  obtain ⟨x, h1, h2⟩ := h
  refine ⟨x, ?_, h2⟩
  rw [show xs.take k = (xs.take n).take k by rw [List.take_take, Nat.min_eq_left hkn]] at h1
  exact List.mem_of_mem_take h1
theorem cell_atD {w : World} {cs : Array Value} {t : TypeId} {i : Nat} {u : Value} (W : World) (h : Ext (w.alloc (.cells cs t (0, 0))) W) (hu : cs[i]? = some u) : W.cell? ⟨w.heap.size, i, none⟩ = some u :=
  blk_cell (box1 (h.mono (by rw [size_alloc]; omega))) i hu
set_option maxHeartbeats 1000000 in
theorem refFew_any (F : Nat → Prop) (w : World) (v : Value) (mo : Option Addr) (mn mc : Nat) (L : List Dn) (h : Ns DV F w v L) (hm : mn ≤ 9223372036854775807) (t : Bool) (ht : fewB L mn = t) :
    Calls Tryz.prog 49 #[.agg #[v, .slice mo mn mc]] w fun e w' => e = .returned (.bool t) ∧ Ext w w' := by
  obtain ⟨ao, c, rfl⟩ := h.len
  have HS := Lib.hid h
  have HT := Lib.hid ht
  have l1 := h.length_le
  have HK : Hid (∀ V, Ext (w.alloc (.cells #[.slice ao L.length c, .slice mo mn mc] 48)) V → V.cell? ⟨w.heap.size, 0, none⟩ = some (.slice ao L.length c) ∧ V.cell? ⟨w.heap.size, 1, none⟩ = some (.slice mo mn mc)) := Lib.hid fun V hV => ⟨cell_atD V hV rfl, cell_atD V hV rfl⟩
  clear h ht
  go_enter Tryz.func49, Tryz.ntmps49
  go_wp2
  go_loopw [3] (fun i wr => ∃ k : Nat, k ≤ L.length ∧ k ≤ 25 ∧ i = .int .i64 k ∧ Hid ((L.take k).all (fun d => decide (d.sides.length ≤ 24)) = true) ∧ Hid (Ext (w.alloc (.cells #[.slice ao L.length c, .slice mo mn mc] 48)) wr)) (fun i _ => L.length - (intOf i).toNat)
  case atStart => exact ⟨0, Nat.zero_le _, by omega, rfl, Lib.hid rfl, Lib.hid (Ext.refl _)⟩
  case round =>
    obtain ⟨k, hk, hk25, rfl, HQ, HX⟩ := hrel
    obtain ⟨k0, k1⟩ := HK.out wr HX.out
    have XX := Lib.hid (Ext.trans ((Ext.refl w).alloc _) HX.out)
    by_cases hlt : k < L.length
    · by_cases h25 : k < 25
      · obtain ⟨b1, o1, so1, sc1, d, hyk, rfl, hn, hnc, hc63, hb, hsl, hcell⟩ := HS.out.dinerAt hlt
        obtain ⟨a0, a1, a2⟩ := hcell wr XX.out
        have HN := Lib.hid (all_nextD (fun d : Dn => decide (d.sides.length ≤ 24)) hyk)
        have hdl := hsl.sl.length_le
        clear hcell hyk hn hsl a0 a1
        by_cases h24 : d.sides.length ≤ 24
        · have hi24 : ¬ (24 : Int) < (d.sides.length : Int) := by omega
          have HF : Hid ((L.take (k + 1)).all (fun d => decide (d.sides.length ≤ 24)) = true) := Lib.hid (HN.out.trans (by rw [HQ.out, decide_eq_true h24]; rfl))
          go_wp2
          go_roundw
          case rel => exact ⟨k + 1, by omega, by omega, by go_num, HF, HX⟩
          case measure => simp [intOf]; omega
        · have hi24 : (24 : Int) < (d.sides.length : Int) := by omega
          have HF : Hid (false = t) := Lib.hid (by
            rw [← HT.out]
            unfold fewB
            rw [all_takeD (k := k + 1) (by omega) (HN.out.trans (by rw [decide_eq_false h24, Bool.and_false]))]
            rfl)
          go_wp2
          go_ret
          exact ⟨ret_bool HF.out, XX.out⟩
      · have hi25 : ¬ (k : Int) < 25 := by omega
        have hL24 : ¬ (L.length : Int) ≤ 24 := by omega
        have HF : Hid (false = t) := Lib.hid (by rw [← HT.out]; unfold fewB; rw [decide_eq_false (show ¬ L.length ≤ 24 by omega), Bool.and_false, Bool.false_and])
        go_wp2
        go_ret
        exact ⟨ret_bool HF.out, XX.out⟩
    · have hkl : k = L.length := by omega
      have HA : Hid ((L.take 25).all (fun d => decide (d.sides.length ≤ 24)) = true) := Lib.hid (by
        have hq := HQ.out
        rw [hkl, List.take_length] at hq
        rw [List.take_of_length_le (by omega)]
        exact hq)
      by_cases h24 : L.length ≤ 24
      · have hL24 : (L.length : Int) ≤ 24 := by omega
        by_cases h40 : mn ≤ 40
        · have hm40 : (mn : Int) ≤ 40 := by omega
          have HF : Hid (true = t) := Lib.hid (by rw [← HT.out]; unfold fewB; rw [HA.out, decide_eq_true h24, decide_eq_true h40]; rfl)
          go_wp2
          go_ret
          exact ⟨ret_bool HF.out, XX.out⟩
        · have hm40 : ¬ (mn : Int) ≤ 40 := by omega
          have HF : Hid (false = t) := Lib.hid (by rw [← HT.out]; unfold fewB; rw [decide_eq_false h40, Bool.and_false])
          go_wp2
          go_ret
          exact ⟨ret_bool HF.out, XX.out⟩
      · have hL24 : ¬ (L.length : Int) ≤ 24 := by omega
        have HF : Hid (false = t) := Lib.hid (by rw [← HT.out]; unfold fewB; rw [decide_eq_false h24, Bool.and_false, Bool.false_and])
        go_wp2
        go_ret
        exact ⟨ret_bool HF.out, XX.out⟩
end Go.Proofs.YtfbambemjokmgaaGreat
namespace Go.Proofs.YtfbambemjokmgaaGreat
open Go.RowKit
def noD : Dn := ⟨0, 0, []⟩
def GivesE (w : World) (r : Dn × Int) (e : Ending) (w' : World) : Prop := ∃ v', e = .returned (.tuple #[.agg #[.int .i64 r.1.id, .int .i64 r.1.phase, v'], .int .i64 r.2]) ∧ Sl w' v' r.1.sides ∧ Ext w w' ∧ ∀ b, v'.ownBlock = some b → w.heap.size ≤ b
theorem givesNo {w W : World} {r : Dn × Int} {er : Int} (h : r = (noD, er)) (x : Ext w W) : GivesE w r (.returned (.tuple #[.agg #[.int .i64 0, .int .i64 0, .slice none 0 0], .int .i64 er])) W := by
  subst h
  exact ⟨_, rfl, slNoneU _, x, fun b hb => by simp [Value.ownBlock] at hb⟩
set_option maxRecDepth 100000 in
set_option maxHeartbeats 2000000 in
theorem clone_sd (w : World) (v : Value) (L : List Sd) (h : Sl w v L) (hl : L.length ≤ 1000) :
    Calls Tryz.prog 72 #[v] w fun e w' => ∃ v', e = .returned v' ∧ Ow w' w.heap.size v' L ∧ Ext w w' := by
  have h0 := h
  obtain ⟨_, ao, c, rfl, h2, h3, h4, h5⟩ := h0
  cases ao with
  | none =>
    obtain rfl := h4 rfl
    have hL : L = [] := List.eq_nil_of_length_eq_zero (by omega)
    subst hL
    clear h h2 h3 h4 h5
    dsimp only [List.length_nil]
    have q := fun w => Lib.run_eql_slice_nil (P := Tryz.prog) w _ _ none 0 0 0 0 (Elem.row (α := Sd))
    change ∀ w, (binOp .eql 59 (.slice none 0 0) (.slice none 0 0)).run Tryz.prog w = .ok (.bool true) w at q
    go_enter Tryz.func72, Tryz.ntmps72
    go_wp2
    go_ret
    exact ⟨_, rfl, Ow.nil _ _, Ext.refl _⟩
  | some a =>
    have HS := Lib.hid h
    clear h h2 h3 h4 h5
    have q := fun w => Lib.run_eql_slice_nil (P := Tryz.prog) w _ _ (some a) L.length c 0 0 (Elem.row (α := Sd))
    change ∀ w, (binOp .eql 59 (.slice (some a) L.length c) (.slice none 0 0)).run Tryz.prog w = .ok (.bool false) w at q
    go_enter Tryz.func72, Tryz.ntmps72
    go_wp2_with (first
      | (at_builtin; refine wpList_append_sl (α := Sd) rfl (.tmp 5) (.tmp 6) rfl w.heap.size (.slice (some ⟨_, 0, none⟩) 0 0) [] rfl ?_ _ L rfl ?_ ?_ ?_ ?_; exact (Ow.litAt w _ _ rfl (Nat.le_refl _) [] (by simp)); exact (HS.out.alloc _); (first | omega | (simp; omega)); exact (by rw [size_alloc]; omega); intro v6 W6 ho6 ha6; obtain ⟨a6, n6, c6, rfl⟩ := ho6.sh; have O6 : Hid (Ow W6 w.heap.size (.slice a6 n6 c6) L) := Lib.hid ho6; have X6 : Hid (Ext w W6) := Lib.hid (Below.trans (Ext.alloc (Ext.refl w) _) ha6.below); clear ho6 ha6))
    go_ret
    exact ⟨_, rfl, O6.out, X6.out⟩
end Go.Proofs.YtfbambemjokmgaaGreat
namespace Go.Proofs.YtfbambemjokmgaaGreat
theorem fireS1_keeps (ph : Int) (s : Sd) : (fireS1 ph s).peer = s.peer ∧ (fireS1 ph s).epoch = s.epoch ∧ (fireS1 ph s).state = s.state ∧ (fireS1 ph s).bottle = s.bottle ∧ (fireS1 ph s).ask = s.ask := by
  unfold fireS1 asked gone
  split <;> split <;> exact ⟨rfl, rfl, rfl, rfl, rfl⟩
theorem fireS1_dirty {ph : Int} {s : Sd} (h : (s.dirty && !s.fork) = false) : ((fireS1 ph s).dirty && !(fireS1 ph s).fork) = false := by
  unfold fireS1 asked gone
  split <;> split <;> simp_all
theorem sideD_of {id last : Int} {s t : Sd} (h : sideD id last s = true) (e1 : t.peer = s.peer) (e2 : t.epoch = s.epoch) (e3 : t.state = s.state) (e4 : (t.dirty && !t.fork) = false) : sideD id last t = true := by
  unfold sideD at *
  rw [e1, e2, e3, e4]
  simp only [Bool.and_eq_true] at *
  exact ⟨h.1, h.2.1, h.2.2.1, h.2.2.2.1, h.2.2.2.2.1, h.2.2.2.2.2.1, rfl⟩
theorem sideD_dirty {id last : Int} {s : Sd} (h : sideD id last s = true) : (s.dirty && !s.fork) = false := by
  unfold sideD at h
  simp only [Bool.and_eq_true] at h
  have h2 := h.2.2.2.2.2.2
  cases hd : s.dirty <;> cases hf : s.fork <;> simp_all
theorem sidesD_cons {id last : Int} {s : Sd} {L : List Sd} : sidesD id last (s :: L) = true ↔ sideD id last s = true ∧ sidesD id s.peer L = true := by
  show (sideD id last s && sidesD id s.peer L) = true ↔ _
  rw [Bool.and_eq_true]
theorem sidesD_map {id : Int} (f : Sd → Sd) : ∀ {L : List Sd} {last : Int}, sidesD id last L = true → (∀ s ∈ L, (f s).peer = s.peer ∧ (f s).epoch = s.epoch ∧ (f s).state = s.state ∧ ((s.dirty && !s.fork) = false → ((f s).dirty && !(f s).fork) = false)) → sidesD id last (L.map f) = true
  | [], _, _, _ => rfl
  | s :: L, last, h, hf => by
    obtain ⟨h1, h2⟩ := sidesD_cons.1 h
    obtain ⟨e1, e2, e3, e4⟩ := hf s (List.mem_cons_self ..)
    rw [List.map_cons]
    refine sidesD_cons.2 ⟨sideD_of h1 e1 e2 e3 (e4 (sideD_dirty h1)), ?_⟩
    rw [e1]
    exact sidesD_map f h2 fun t ht => hf t (List.mem_cons_of_mem _ ht)
theorem head_of {d : Dn} (h : headD d = true) {e : Dn} (h1 : e.id = d.id) (h2 : e.phase = d.phase ∨ e.phase = 2) (h3 : e.sides.length = d.sides.length) : headD e = true := by
  unfold headD at *
  rw [h1, h3]
  simp only [Bool.and_eq_true, Bool.or_eq_true, decide_eq_true_eq] at *
  rcases h2 with e | e
  · rw [e]; exact h
  · rw [e]; exact ⟨h.1, .inr rfl, h.2.2⟩
theorem fireD_len (d : Dn) : (fireD d).sides.length = d.sides.length ∧ (fireD d).id = d.id := by
  unfold fireD
  split <;> simp [dirtyAll, fireSs]
theorem dnOk_fire {d : Dn} (h : dnOk d = true) : dnOk (fireD d) = true := by
  unfold dnOk at *
  rw [Bool.and_eq_true] at *
  refine ⟨head_of h.1 (fireD_len d).2 ?_ (fireD_len d).1, ?_⟩
  · unfold fireD; split
    · exact .inr rfl
    · exact .inl rfl
  · have h1 : sidesD d.id (-1) (fireSs d.phase d.sides) = true := sidesD_map (fireS1 d.phase) h.2 fun s _ => ⟨(fireS1_keeps _ s).1, (fireS1_keeps _ s).2.1, (fireS1_keeps _ s).2.2.1, fireS1_dirty⟩
    rw [(fireD_len d).2]
    unfold fireD
    split
    · next he =>
      unfold eats at he
      rw [Bool.and_eq_true, List.all_eq_true] at he
      exact sidesD_map _ h1 fun s hs => ⟨rfl, rfl, rfl, fun _ => by simp [he.2 s hs]⟩
    · exact h1
end Go.Proofs.YtfbambemjokmgaaGreat
namespace Go.Proofs.YtfbambemjokmgaaGreat
section
variable {n : Nat} {nb : Nat → List Nat} {ep : Int} {X : Nat → Nat → Sd} {P : Nat → Int} {ms : List Ml} {i : Nat}
def wm (X : Nat → Nat → Sd) (P : Nat → Int) (m : Ml) : Nat := if (m.kind == 2 && ((X m.to_.toNat m.from_.toNat).fork && (X m.to_.toNat m.from_.toNat).dirty) && (P m.to_.toNat != 2)) = true then 3 else 1
def wt (X : Nat → Nat → Sd) (P : Nat → Int) (ms : List Ml) : Nat := (ms.map (wm X P)).sum
theorem wt_cons (X : Nat → Nat → Sd) (P : Nat → Int) (m : Ml) (l : List Ml) : wt X P (m :: l) = wm X P m + wt X P l := by unfold wt; rw [List.map_cons, List.sum_cons]
theorem wm_one {X : Nat → Nat → Sd} {P : Nat → Int} {m : Ml} : 1 ≤ wm X P m := by unfold wm; split <;> omega
theorem wt_len (X : Nat → Nat → Sd) (P : Nat → Int) : ∀ l : List Ml, l.length ≤ wt X P l ∧ wt X P l ≤ 3 * l.length
  | [] => ⟨Nat.le_refl _, Nat.le_refl _⟩
  | m :: l => by
    have h1 := wt_len X P l
    have h2 : wm X P m ≤ 3 := by unfold wm; split <;> omega
    have h3 := wm_one (X := X) (P := P) (m := m)
    rw [wt_cons, List.length_cons]
    omega
end
end Go.Proofs.YtfbambemjokmgaaGreat
