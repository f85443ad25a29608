/- Layer 13, the document's answers: whether two rows of mail are the same; a message of a side; a diner with another side. -/
import Derived.Test.YtogbjpipkegecaaU1
import Derived.Test.YtogbjpipkegecaaDR3
import Derived.Deep.DeepCutAuto
import Derived.Deep.CutBlock
namespace Go.Proofs.Ytogbjpipkegecaa
open Go.RowKit

theorem neq_Ml (y0 y1 y2 y3 y4 z0 z1 z2 z3 z4 : Int) (s : Bool) (hs : decide ((⟨y0, y1, y2, y3, y4⟩ : Ml) = ⟨z0, z1, z2, z3, z4⟩) = s) :
    (∀ w : World, (binOp .neq 49 (.agg #[.int .i64 y0, .int .i64 y1, .int .i64 y2, .int .i64 y3, .int .i64 y4]) (.agg #[.int .i64 z0, .int .i64 z1, .int .i64 z2, .int .i64 z3, .int .i64 z4])).run Try.prog w = .ok (.bool (!s)) w) ∧ ∀ (a b : Operand) (w : World), (eqGuard .neq 49 a b (.agg #[.int .i64 y0, .int .i64 y1, .int .i64 y2, .int .i64 y3, .int .i64 y4]) (.agg #[.int .i64 z0, .int .i64 z1, .int .i64 z2, .int .i64 z3, .int .i64 z4])).run Try.prog w = .ok () w := by
  refine ⟨fun w => ?_, fun a b w => run_eqGuard_agg w _ _ a b _ _ (by kernel_rfl)⟩
  have u3 := Try.underlying3
  have a3 := Try.isAgg3
  have z3' := Try.sizeOf3
  have uK := Try.underlying38
  have aK := Try.isAgg38
  have zK := Try.sizeOf38
  have aM := Try.isAgg40
  have zM := Try.sizeOf40
  have hS : Try.prog.underlying 49 = some (.struct (Try.prog.fieldsOf 49)) := by kernel_rfl
  have hp : Try.prog.stoodInHeld 49 = false := by kernel_rfl
  have hS2 : Try.prog.underlying 40 = some (.struct (Try.prog.fieldsOf 40)) := by kernel_rfl
  have hp2 : Try.prog.stoodInHeld 40 = false := by kernel_rfl
  have hq : ∀ (w : World) (b0 b1 b2 c0 c1 c2 : Int), (Op.equalIn 9999 40 (.agg #[.int .i64 b0, .int .i64 b1, .int .i64 b2]) (.agg #[.int .i64 c0, .int .i64 c1, .int .i64 c2])).run Try.prog w = .ok (decide (b0 = c0) && decide (b1 = c1) && decide (b2 = c2)) w := by
    intro w b0 b1 b2 c0 c1 c2
    rw [show (9999 : Nat) = 9998 + 1 from rfl, run_equalIn_agg w 9998 40 _ _ hS2 hp2]
    simp only [Program.fieldsOf, Try.underlying40]
    go_simp
    by_cases h0 : b0 = c0 <;> by_cases h1 : b1 = c1 <;> by_cases h2 : b2 = c2 <;> simp [h0, h1, h2]
  rw [run_neq_struct, show (10000 : Nat) = 9999 + 1 from rfl, run_equalIn_agg w 9999 49 _ _ hS hp]
  simp only [Program.fieldsOf, Try.underlying49]
  go_simp
  subst hs
  by_cases h0 : y0 = z0 <;> by_cases h1 : y1 = z1 <;> simp [h0, h1]
  by_cases h2 : y2 = z2 <;> by_cases h3 : y3 = z3 <;> by_cases h4 : y4 = z4 <;> simp [h2, h3, h4]

set_option maxRecDepth 100000 in
set_option maxHeartbeats 2000000 in
theorem refSameMail_any (w : World) (v1 v2 : Value) (L M : List Ml) (h : Sl w v1 L) (g : Sl w v2 M) (t : Bool) (ht : decide (L = M) = t) :
    Calls Try.prog 18 #[v1, v2] w fun e w' => e = .returned (.bool t) ∧ Ext w w' := by
  obtain ⟨ao1, c1, rfl⟩ := h.len
  obtain ⟨ao2, c2, rfl⟩ := g.len
  have l1 := h.length_le
  have l2 := g.length_le
  have HS := Lib.hid h
  have HM := Lib.hid g
  have HE := Lib.hid ht
  clear h g ht
  by_cases e3 : L.length = M.length
  · have q3 : ((L.length : Int) != (M.length : Int)) = false := by simp [e3]
    have HL3 := Lib.hid e3
    clear e3
    go_enter Try.func18, Try.ntmps18
    go_wp2
    go_loopw [5] (fun i wr => ∃ k : Nat, k ≤ L.length ∧ i = .int .i64 k ∧ Hid (L.take k = M.take k) ∧ Hid (Ext w wr)) (fun i _ => L.length - (intOf i).toNat)
    case atStart => exact ⟨0, Nat.zero_le _, rfl, Lib.hid rfl, Lib.hid (Ext.refl _)⟩
    case round =>
      obtain ⟨k, hk, rfl, HQ, HX⟩ := hrel
      by_cases hlt : k < L.length
      · have hltM : k < M.length := by have := HL3.out; omega
        obtain ⟨b1, o1, y, _, hyk, rfl, hn, hnc, hc63, hb, hcell⟩ := HS.out.mailAt hlt
        obtain ⟨b2, o2, z, _, hzk, rfl, hn', hnc', hc63', hb', hcell'⟩ := HM.out.mailAt hltM
        have HCY : Hid (∀ V, Ext wr V → _) := Lib.hid fun V hV => hcell V (HX.out.trans hV)
        have HCZ : Hid (∀ V, Ext wr V → _) := Lib.hid fun V hV => hcell' V (HX.out.trans hV)
        have HN := Lib.hid (take_eqD hyk hzk)
        obtain ⟨s, hs⟩ : ∃ s, decide (y = z) = s := ⟨_, rfl⟩
        have HYZ := Lib.hid hs
        obtain ⟨y0, y1, y2, y3, y4⟩ := y
        obtain ⟨z0, z1, z2, z3, z4⟩ := z
        have HNQ := Lib.hid (neq_Ml y0 y1 y2 y3 y4 z0 z1 z2 z3 z4 s hs)
        clear hcell hcell' hyk hzk hn hn' hs
        dsimp only at HCY HCZ
        cases s
        all_goals
          go_wp2_with fail
          (refine wp_region_X_lit (K := fun W => Ext wr W) (by kernel_rfl) (fun w1 hw1 => ?_))
          have HX1 := Lib.hid (HX.out.trans hw1)
          have HW1 := Lib.hid hw1
          clear hw1
          refine xtv 0 (h := ?_)
          refine xtv 1 (h := ?_)
          refine xtv 2 (h := ?_)
          refine xtv 3 (hv := by intro w' hw'; obtain ⟨⟨a0, a1⟩, a2, a3, a4⟩ := HCY.out w' hw'; go_simp; first | done | with_reducible rfl) (h := ?_)
          refine xtv 4 (h := ?_)
          refine xtv 5 (h := ?_)
          refine xtv 6 (h := ?_)
          refine xtv 7 (hv := by intro w' hw'; obtain ⟨⟨a0, a1⟩, a2, a3, a4⟩ := HCZ.out w' hw'; go_simp; first | done | with_reducible rfl) (h := ?_)
          refine xtv 8 (hv := by intro w' hw'; obtain ⟨q1, q2⟩ := HNQ.out; go_simp; first | done | with_reducible rfl) (h := ?_)
          (refine xdone (by kernel_rfl) (HW1.out) ?_)
        · go_wp2
          go_ret
          exact ⟨ret_bool (by
            rw [← HE.out]
            exact (decide_eq_false fun e => of_decide_eq_false HYZ.out ((HN.out.1 (by rw [e])).2)).symm), HX1.out⟩
        · go_wp2
          go_roundw
          case rel => exact ⟨k + 1, by omega, by go_num, Lib.hid (HN.out.2 ⟨HQ.out, of_decide_eq_true HYZ.out⟩), HX1⟩
          case measure => simp [intOf]; omega
      · have hkl : k = L.length := by omega
        have HF : Hid (true = t) := Lib.hid (by
          have hq := HQ.out
          rw [hkl, List.take_length, HL3.out, List.take_length] at hq
          rw [← HE.out, decide_eq_true hq])
        go_wp2
        go_ret
        exact ⟨ret_bool HF.out, HX.out⟩
  · have q3 : ((L.length : Int) != (M.length : Int)) = true := by simp; omega
    have HF : Hid (false = t) := Lib.hid (by rw [← HE.out, decide_eq_false fun e => e3 (by rw [e])])
    clear e3
    go_enter Try.func18, Try.ntmps18
    go_wp2
    go_ret
    exact ⟨ret_bool HF.out, Ext.refl _⟩

theorem cells8U {w : World} {g : Nat} {u0 u1 u2 u3 u4 u5 u6 u7 : Value} {t : TypeId} (h : w.heap[g]? = some (.cells #[u0, u1, u2, u3, u4, u5, u6, u7] t (0, 0))) :
    ((w.cell? ⟨g, 0, none⟩ = some u0 ∧ w.cell? ⟨g, 1, none⟩ = some u1) ∧ w.cell? ⟨g, 2, none⟩ = some u2 ∧ w.cell? ⟨g, 3, none⟩ = some u3) ∧ (w.cell? ⟨g, 4, none⟩ = some u4 ∧ w.cell? ⟨g, 5, none⟩ = some u5) ∧ w.cell? ⟨g, 6, none⟩ = some u6 ∧ w.cell? ⟨g, 7, none⟩ = some u7 :=
  ⟨⟨⟨blk_cell h 0 rfl, blk_cell h 1 rfl⟩, blk_cell h 2 rfl, blk_cell h 3 rfl⟩, ⟨blk_cell h 4 rfl, blk_cell h 5 rfl⟩, blk_cell h 6 rfl, blk_cell h 7 rfl⟩
theorem keepU {w W : World} {g : Nat} {o : Obj} (h : w.heap[g]? = some o) (e : Ext w W) : W.heap[g]? = some o := (e.block _ (blk_lt h)).trans h
theorem owU {α : Type} [Elem α] {w w' : World} {B : Nat} {v : Value} {xs : List α} (h : Ow w B v xs) (hq : ∀ b, v.ownBlock = some b → w'.heap[b]? = w.heap[b]?) : Ow w' B v xs := by
  refine ⟨h.1, ?_⟩
  rcases h.2 with h2 | ⟨g, cap, cur, rfl, hg, hh, r⟩
  · exact .inl h2
  · exact .inr ⟨g, cap, cur, rfl, hg, (hq g rfl).trans hh, r⟩
theorem uMail : ∃ fs, Try.prog.underlying 49 = some (.struct fs) := ⟨_, Try.underlying49⟩
theorem uDiner : ∃ fs, Try.prog.underlying 25 = some (.struct fs) := ⟨_, Try.underlying25⟩

set_option maxRecDepth 100000 in
set_option maxHeartbeats 2000000 in
theorem refMail_any (w : World) (id ph : Int) (v : Value) (L : List Sd) (x : Sd) (kd : Int) (h : Sl w v L) :
    Calls Try.prog 38 #[.agg #[.int .i64 id, .int .i64 ph, v], .agg x.cs, .int .i64 kd] w fun e w' => e = .returned (.agg #[.int .i64 id, .int .i64 x.peer, .int .i64 kd, .int .i64 x.epoch, .int .i64 0]) ∧ Ext w w' := by
  obtain ⟨ao, c, rfl⟩ := h.len
  obtain ⟨x0, x1, x2, x3, x4, x5, x6, x7⟩ := x
  unfold Sd.cs
  dsimp only
  have HR := Lib.hid (at2 w (.cells #[.int .i64 id, .int .i64 ph, .slice ao L.length c] 25) (.cells #[.int .i64 x0, .int .i64 x1, .int .i64 x2, .bool x3, .bool x4, .bool x5, .bool x6, .bool x7] 47) (.cells #[.int .i64 0, .int .i64 0, .int .i64 0, .int .i64 0, .int .i64 0] 49))
  have X0 : Hid (Ext w (((w.alloc (.cells #[.int .i64 id, .int .i64 ph, .slice ao L.length c] 25)).alloc (.cells #[.int .i64 x0, .int .i64 x1, .int .i64 x2, .bool x3, .bool x4, .bool x5, .bool x6, .bool x7] 47)).alloc (.cells #[.int .i64 0, .int .i64 0, .int .i64 0, .int .i64 0, .int .i64 0] 49))) := Lib.hid ((((Ext.refl w).alloc _).alloc _).alloc _)
  clear h
  go_enter Try.func38, Try.ntmps38
  go_wp2_with (first | refine haltst 49 ?_)
  refine .inl ?_
  refine st_l 49 (.tmp 6) (.tmp 15) (w.heap.size + 2) 0 49 #[.int .i64 0, .int .i64 0, .int .i64 0, .int .i64 0, .int .i64 0] #[.int .i64 id, .int .i64 x0, .int .i64 kd, .int .i64 x1, .int .i64 0] #[.int .i64 id, .int .i64 x0, .int .i64 kd, .int .i64 x1, .int .i64 0] rfl rfl HR.out (by kernel_rfl) (by simp) rfl rfl ?_
  intro W hW oW
  simp only [Act.put]
  go_wp2
  exact bodyPost_ret (v := .agg #[.int .i64 id, .int .i64 x0, .int .i64 kd, .int .i64 x1, .int .i64 0]) (res_c rfl rfl hW uMail (by kernel_rfl)) rfl ⟨rfl, ext_off X0.out oW (fun k hk => by omega)⟩

theorem cellsOf_set {α : Type} [Elem α] : ∀ (xs : List α) (k : Nat) (x : α), k < xs.length → cellsOf (xs.set k x) = (cellsOf xs).take (k * Elem.k α) ++ Elem.enc x ++ (cellsOf xs).drop (k * Elem.k α + Elem.k α) := by
  intro xs k x hk
  rw [List.set_eq_take_append_cons_drop, if_pos hk, cellsOf_append, ← cellsOf_take, List.append_assoc]
  congr 1
  show Elem.enc x ++ cellsOf (xs.drop (k + 1)) = _
  rw [cellsOf_drop, Nat.succ_mul]
/-- where an element of a call's own row lies, and what the row is when it has been stored to -/
theorem Ow.setAt {α : Type} [Elem α] {w : World} {B : Nat} {ao : Option Addr} {n c k : Nat} {xs : List α} (h : Ow w B (.slice ao n c) xs) (hk : k < xs.length) (x : α) :
    ∃ g cur, ao = some ⟨g, 0, none⟩ ∧ B ≤ g ∧ n = xs.length ∧ n ≤ c ∧ c ≤ 9223372036854775807 ∧ w.heap[g]? = some (.cells cur (Elem.e α) (0, 0)) ∧ k * Elem.k α + Elem.k α ≤ cur.size ∧
      ∀ W, W.heap[g]? = some (.cells (cur.toList.take (k * Elem.k α) ++ Elem.enc x ++ cur.toList.drop (k * Elem.k α + Elem.k α)).toArray (Elem.e α) (0, 0)) → Ow W B (.slice ao n c) (xs.set k x) := by
  obtain ⟨h1, h2⟩ := h
  rcases h2 with ⟨h2, h3⟩ | ⟨g, cap, cur, hv, hg, hh, hnc, hc63, hsz, htk⟩
  · rw [h3] at hk; omega
  · simp only [Value.slice.injEq] at hv
    obtain ⟨rfl, rfl, rfl⟩ := hv
    have hpos : (k + 1) * Elem.k α ≤ xs.length * Elem.k α := Nat.mul_le_mul_right _ hk
    have hcap : xs.length * Elem.k α ≤ c * Elem.k α := Nat.mul_le_mul_right _ hnc
    have hk1 : (k + 1) * Elem.k α = k * Elem.k α + Elem.k α := Nat.succ_mul _ _
    have hle : (Elem.enc x).length = Elem.k α := Elem.len x
    have hcl : cur.toList.length = c * Elem.k α := by rw [Array.length_toList]; exact hsz
    have e1 : List.take (k * Elem.k α) (List.take (xs.length * Elem.k α) cur.toList) = List.take (k * Elem.k α) cur.toList := by rw [List.take_take, Nat.min_eq_left (by omega)]
    have e2 : List.drop (k * Elem.k α + Elem.k α) (List.take (xs.length * Elem.k α) cur.toList) = List.take (xs.length * Elem.k α - (k * Elem.k α + Elem.k α)) (List.drop (k * Elem.k α + Elem.k α) cur.toList) := List.drop_take ..
    have e3 : (List.take (k * Elem.k α) cur.toList ++ Elem.enc x).length = k * Elem.k α + Elem.k α := by rw [List.length_append, List.length_take, hle, hcl, Nat.min_eq_left (by omega)]
    refine ⟨g, cur, rfl, hg, rfl, hnc, hc63, hh, by omega, fun W hW => ⟨?_, .inr ⟨g, c, _, ?_, hg, hW, ?_, hc63, ?_, ?_⟩⟩⟩
    · rw [cellsOf_length, List.length_set]
    · rw [List.length_set]
    · rw [List.length_set]; exact hnc
    · rw [List.size_toArray, List.length_append, e3, List.length_drop, hcl]
      omega
    · rw [cellsOf_set xs k x hk, ← htk, List.length_set, e1, e2]
      show List.take _ (_ ++ List.drop _ _) = _
      rw [List.take_append, e3, List.take_of_length_le (by rw [e3]; omega)]

set_option maxRecDepth 100000 in
set_option maxHeartbeats 4000000 in
theorem refSet_any (w : World) (id ph : Int) (v : Value) (L : List Sd) (k : Nat) (x : Sd) (h : Sl w v L) (hk : k < L.length) (hl : L.length ≤ 1000) :
    Calls Try.prog 34 #[.agg #[.int .i64 id, .int .i64 ph, v], .int .i64 k, .agg x.cs] w fun e w' => ∃ v', e = .returned (.agg #[.int .i64 id, .int .i64 ph, v']) ∧ Ow w' w.heap.size v' (L.set k x) ∧ Ext w w' := by
  obtain ⟨ao, c, rfl⟩ := h.len
  obtain ⟨x0, x1, x2, x3, x4, x5, x6, x7⟩ := x
  unfold Sd.cs
  dsimp only
  obtain ⟨W0, hW0⟩ : ∃ W0, W0 = ((w.alloc (.cells #[.int .i64 id, .int .i64 ph, .slice ao L.length c] 25)).alloc (.cells #[.int .i64 x0, .int .i64 x1, .int .i64 x2, .bool x3, .bool x4, .bool x5, .bool x6, .bool x7] 47)).alloc (.cells #[.int .i64 0, .int .i64 0, .slice none 0 0] 25) := ⟨_, rfl⟩
  have hs0 : W0.heap.size = w.heap.size + 3 := by rw [hW0, size_alloc, size_alloc, size_alloc]
  have X0 : Hid (Ext w W0) := Lib.hid (hW0 ▸ (((Ext.refl w).alloc _).alloc _).alloc _)
  have hB0 : W0.heap[w.heap.size]? = some (.cells #[.int .i64 id, .int .i64 ph, .slice ao L.length c] 25 (0, 0)) := hW0 ▸ old1 (old1 (at0 w _) _) _
  have hB1 : W0.heap[w.heap.size + 1]? = some (.cells #[.int .i64 x0, .int .i64 x1, .int .i64 x2, .bool x3, .bool x4, .bool x5, .bool x6, .bool x7] 47 (0, 0)) := hW0 ▸ old1 (at1 w _ _) _
  have hB2 : W0.heap[w.heap.size + 2]? = some (.cells #[.int .i64 0, .int .i64 0, .slice none 0 0] 25 (0, 0)) := hW0 ▸ at2 w _ _ _
  have HW0 := Lib.hid hW0
  have HB0 := Lib.hid hB0
  have HB1 := Lib.hid hB1
  have HB2 := Lib.hid hB2
  have HS := Lib.hid (h.ext X0.out)
  clear h hW0 hB0 hB1 hB2
  go_enter Try.func34, Try.ntmps34
  go_upto_region 1 with (fail)
  rw [← HW0.out]
  have q2 : (W0.alloc (.cells #[] 47)).cell? ⟨w.heap.size, 2, none⟩ = some (.slice ao L.length c) := blk_cell (old1 HB0.out _) 2 rfl
  go_upto_region 2 with (first
    | (at_builtin; refine wpList_append_sl (α := Sd) rfl (.tmp 7) (.tmp 9) rfl (w.heap.size + 3) (.slice (some ⟨_, 0, none⟩) 0 0) [] rfl ?_ _ L rfl ?_ ?_ ?_ ?_; exact (Ow.litAt W0 _ _ hs0.symm (by omega) [] (by simp)); exact (HS.out.alloc _); (first | omega | (simp; omega)); exact (by rw [size_alloc]; omega); intro v6 W6 ho6 ha6; obtain ⟨a6, n6, c6, rfl⟩ := ho6.sh; have O6 : Hid (Ow W6 (w.heap.size + 3) (.slice a6 n6 c6) L) := Lib.hid ho6; have X6 : Hid (Below (w.heap.size + 3) W0 W6) := Lib.hid (Below.trans (hs0 ▸ Ext.alloc (Ext.refl W0) _) ha6.below); have b60 := blk_cell ((X6.out.block w.heap.size (by omega)).trans HB0.out) 2 rfl; have f60 := blk_free ((X6.out.block w.heap.size (by omega)).trans HB0.out) 2; clear ho6 ha6))
  obtain ⟨W7, hW7⟩ : ∃ W7, W7 = W6.setCell ⟨w.heap.size, 2, none⟩ (.slice a6 n6 c6) := ⟨_, rfl⟩
  have hb6 := (X6.out.block w.heap.size (by omega)).trans HB0.out
  have hd7 : W7.heap[w.heap.size]? = some (.cells #[.int .i64 id, .int .i64 ph, .slice a6 n6 c6] 25 (0, 0)) := by rw [hW7, blk_set hb6]; rfl
  have hx7 : W7.heap[w.heap.size + 1]? = some (.cells #[.int .i64 x0, .int .i64 x1, .int .i64 x2, .bool x3, .bool x4, .bool x5, .bool x6, .bool x7] 47 (0, 0)) := by rw [hW7, set_other _ _ _ _ (by show w.heap.size + 1 ≠ w.heap.size; omega)]; exact (X6.out.block _ (by omega)).trans HB1.out
  have hr7 : W7.heap[w.heap.size + 2]? = some (.cells #[.int .i64 0, .int .i64 0, .slice none 0 0] 25 (0, 0)) := by rw [hW7, set_other _ _ _ _ (by show w.heap.size + 2 ≠ w.heap.size; omega)]; exact (X6.out.block _ (by omega)).trans HB2.out
  have O7 : Ow W7 (w.heap.size + 3) (.slice a6 n6 c6) L := hW7 ▸ O6.out.set (d := ⟨w.heap.size, 2, none⟩) (by show w.heap.size < _; omega) _
  have X7 : Hid (Ext w W7) := Lib.hid (hW7 ▸ below_set (Below.trans X0.out (Below.mono X6.out (by omega))) (Nat.le_refl _) _)
  rw [← hW7]
  obtain ⟨g, cur, rfl, hg, rfl, hnc, hc63, hcur, hcsz, hput⟩ := O7.setAt hk ⟨x0, x1, x2, x3, x4, x5, x6, x7⟩
  have HD7 := Lib.hid hd7
  have HR7 := Lib.hid hr7
  have HCUR := Lib.hid hcur
  have HPUT := Lib.hid hput
  have HCS : Hid (k * 8 + 8 ≤ cur.size) := Lib.hid hcsz
  have d2 := blk_cell hd7 2 rfl
  obtain ⟨⟨⟨y0, y1⟩, y2, y3⟩, ⟨y4, y5⟩, y6, y7⟩ := cells8U hx7
  clear hW7 hb6 hd7 hx7 hr7 O7 O6 hcur hput hcsz q2 b60 f60 X6
  go_wp2_with (first | refine haltst 47 ?_)
  refine .inl ?_
  refine st_l 47 (.tmp 16) (.tmp 15) g (k * 8) 47 cur #[.int .i64 x0, .int .i64 x1, .int .i64 x2, .bool x3, .bool x4, .bool x5, .bool x6, .bool x7] _ rfl rfl HCUR.out (by kernel_rfl) HCS.out rfl rfl ?_
  intro W8 hW8 o8
  simp only [Act.put]
  have O8 := Lib.hid (HPUT.out W8 hW8)
  have X8 := Lib.hid (ext_off X7.out o8 (fun b hb => by omega))
  have hd8 := (o8.block w.heap.size (blk_lt HD7.out) (by omega)).trans HD7.out
  have HR8 := Lib.hid ((o8.block (w.heap.size + 2) (blk_lt HR7.out) (by omega)).trans HR7.out)
  have e0 := blk_cell hd8 0 rfl
  have e1 := blk_cell hd8 1 rfl
  have e2 := blk_cell hd8 2 rfl
  clear hW8 o8 hd8 d2 y0 y1 y2 y3 y4 y5 y6 y7
  go_wp2_with (first | refine haltst 25 ?_)
  refine .inl ?_
  refine st_l 25 (.tmp 6) (.tmp 17) (w.heap.size + 2) 0 25 #[.int .i64 0, .int .i64 0, .slice none 0 0] #[.int .i64 id, .int .i64 ph, .slice (some ⟨g, 0, none⟩) L.length c6] #[.int .i64 id, .int .i64 ph, .slice (some ⟨g, 0, none⟩) L.length c6] rfl rfl HR8.out (by kernel_rfl) (by simp) rfl rfl ?_
  intro W9 hW9 o9
  simp only [Act.put]
  go_wp2
  exact bodyPost_ret (v := .agg #[.int .i64 id, .int .i64 ph, .slice (some ⟨g, 0, none⟩) L.length c6]) (res_c rfl rfl hW9 uDiner (by kernel_rfl)) rfl ⟨_, rfl, Ow.mono (owU O8.out (fun b hb => o9.block b ((O8.out.low b hb).2) (by have := (O8.out.low b hb).1; omega))) (by omega), ext_off X8.out o9 (fun b hb => by omega)⟩

end Go.Proofs.Ytogbjpipkegecaa
