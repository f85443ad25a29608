/- Layer 12, the document's answers: whether two nodes, and two rows of nodes, are the same; whether they are few. -/
import Derived.Test.YtpjpjchnfllcmaaDR1
import Derived.Test.YtpjpjchnfllcmaaME
import Derived.Deep.QuietTactic
import Derived.Deep.RegionHeld3
import Derived.Laws.StructEq
namespace Go.Proofs.Ytpjpjchnfllcmaa
open Go.RowKit

theorem neq_Sd (y z : Sd) (s : Bool) (hs : decide (y = z) = s) :
    (∀ w : World, (binOp .neq 53 (.agg #[.int .i64 y.peer, .int .i64 y.epoch, .int .i64 y.state, .bool y.fork, .bool y.dirty, .bool y.token, .bool y.bottle, .bool y.ask]) (.agg #[.int .i64 z.peer, .int .i64 z.epoch, .int .i64 z.state, .bool z.fork, .bool z.dirty, .bool z.token, .bool z.bottle, .bool z.ask])).run Try.prog w = .ok (.bool (!s)) w) ∧ ∀ (a b : Operand) (w : World), (eqGuard .neq 53 a b (.agg #[.int .i64 y.peer, .int .i64 y.epoch, .int .i64 y.state, .bool y.fork, .bool y.dirty, .bool y.token, .bool y.bottle, .bool y.ask]) (.agg #[.int .i64 z.peer, .int .i64 z.epoch, .int .i64 z.state, .bool z.fork, .bool z.dirty, .bool z.token, .bool z.bottle, .bool z.ask])).run Try.prog w = .ok () w := by
  obtain ⟨y0, y1, y2, y3, y4, y5, y6, y7⟩ := y
  obtain ⟨z0, z1, z2, z3, z4, z5, z6, z7⟩ := z
  refine ⟨fun w => ?_, fun a b w => run_eqGuard_agg w _ _ a b _ _ (by kernel_rfl)⟩
  have u3 := Try.underlying3
  have a3 := Try.isAgg3
  have z3' := Try.sizeOf3
  have u4 := Try.underlying4
  have a4 := Try.isAgg4
  have z4' := Try.sizeOf4
  have uS := Try.underlying51
  have aS := Try.isAgg51
  have zS := Try.sizeOf51
  have hS : Try.prog.underlying 53 = some (.struct (Try.prog.fieldsOf 53)) := by kernel_rfl
  have hp : Try.prog.stoodInHeld 53 = false := by kernel_rfl
  rw [run_neq_struct, show (10000 : Nat) = 9999 + 1 from rfl, run_equalIn_agg w 9999 53 _ _ hS hp]
  simp only [Program.fieldsOf, Try.underlying53]
  go_simp
  subst hs
  by_cases h0 : y0 = z0 <;> by_cases h1 : y1 = z1 <;> by_cases h2 : y2 = z2 <;> simp [h0, h1, h2]
  cases y3 <;> cases z3 <;> simp
  all_goals cases y4 <;> cases z4 <;> simp
  all_goals cases y5 <;> cases z5 <;> simp
  all_goals cases y6 <;> cases z6 <;> simp
  all_goals cases y7 <;> cases z7 <;> simp

theorem take_eqD {α : Type} {xs ys : List α} {k : Nat} {x y : α} (hx : xs[k]? = some x) (hy : ys[k]? = some y) : xs.take (k + 1) = ys.take (k + 1) ↔ xs.take k = ys.take k ∧ x = y := by
  have h1 := (List.getElem?_eq_some_iff.1 hx).1
  have h2 := (List.getElem?_eq_some_iff.1 hy).1
  rw [List.take_succ_eq_append_getElem h1, List.take_succ_eq_append_getElem h2, (List.getElem?_eq_some_iff.1 hx).2, (List.getElem?_eq_some_iff.1 hy).2]
  constructor
  · intro h
    have := List.append_inj h (by simp; omega)
    exact ⟨this.1, by simpa using this.2⟩
  · rintro ⟨ha, hb⟩
    rw [ha, hb]

set_option maxRecDepth 100000 in
set_option maxHeartbeats 2000000 in
theorem refSameOne_any (w : World) (id1 ph1 id2 ph2 : Int) (v1 v2 : Value) (L M : List Sd) (h : Sl w v1 L) (g : Sl w v2 M) (t : Bool) (ht : decide ((⟨id1, ph1, L⟩ : Dn) = ⟨id2, ph2, M⟩) = t) :
    Calls Try.prog 34 #[.agg #[.int .i64 id1, .int .i64 ph1, v1], .agg #[.int .i64 id2, .int .i64 ph2, v2]] w fun e w' => e = .returned (.bool t) ∧ Ext w w' := by
  obtain ⟨ao1, c1, rfl⟩ := h.len
  obtain ⟨ao2, c2, rfl⟩ := g.len
  have l1 := h.length_le
  have l2 := g.length_le
  have HS := Lib.hid h
  have HM := Lib.hid g
  have HT := Lib.hid ht
  have HK : Hid (∀ V, Ext ((w.alloc (.cells #[.int .i64 id1, .int .i64 ph1, .slice ao1 L.length c1] 25)).alloc (.cells #[.int .i64 id2, .int .i64 ph2, .slice ao2 M.length c2] 25)) V → (V.cell? ⟨w.heap.size, 0, none⟩ = some (.int .i64 id1) ∧ V.cell? ⟨w.heap.size, 1, none⟩ = some (.int .i64 ph1) ∧ V.cell? ⟨w.heap.size, 2, none⟩ = some (.slice ao1 L.length c1)) ∧ V.cell? ⟨w.heap.size + 1, 0, none⟩ = some (.int .i64 id2) ∧ V.cell? ⟨w.heap.size + 1, 1, none⟩ = some (.int .i64 ph2) ∧ V.cell? ⟨w.heap.size + 1, 2, none⟩ = some (.slice ao2 M.length c2)) := Lib.hid fun V hV => by
    obtain ⟨hA, hB⟩ := box2 (hV.mono (by rw [size_alloc, size_alloc]; omega))
    exact ⟨⟨blk_cell hA 0 rfl, blk_cell hA 1 rfl, blk_cell hA 2 rfl⟩, blk_cell hB 0 rfl, blk_cell hB 1 rfl, blk_cell hB 2 rfl⟩
  have HX0 : Hid (Ext w ((w.alloc (.cells #[.int .i64 id1, .int .i64 ph1, .slice ao1 L.length c1] 25)).alloc (.cells #[.int .i64 id2, .int .i64 ph2, .slice ao2 M.length c2] 25))) := Lib.hid (((Ext.refl w).alloc _).alloc _)
  simp only [Dn.mk.injEq] at ht
  clear h g
  by_cases e1 : id1 = id2
  · by_cases e2 : ph1 = ph2
    · by_cases e3 : L.length = M.length
      · have q1 : (id1 != id2) = false := by simp [e1]
        have q2 : (ph1 != ph2) = false := by simp [e2]
        have q3 : ((L.length : Int) != (M.length : Int)) = false := by simp [e3]
        have HE : Hid (decide (L = M) = t) := Lib.hid (by rw [← ht]; simp [e1, e2])
        have HL3 := Lib.hid e3
        clear e1 e2 e3 ht
        go_enter Try.func34, Try.ntmps34
        go_wp2
        go_loopw [5] (fun i wr => ∃ k : Nat, k ≤ L.length ∧ i = .int .i64 k ∧ Hid (L.take k = M.take k) ∧ Hid (Ext ((w.alloc (.cells #[.int .i64 id1, .int .i64 ph1, .slice ao1 L.length c1] 25)).alloc (.cells #[.int .i64 id2, .int .i64 ph2, .slice ao2 M.length c2] 25)) wr)) (fun i _ => L.length - (intOf i).toNat)
        case atStart => exact ⟨0, Nat.zero_le _, rfl, Lib.hid rfl, Lib.hid (Ext.refl _)⟩
        case round =>
          obtain ⟨k, hk, rfl, HQ, HX⟩ := hrel
          obtain ⟨⟨ka, kb, kc⟩, kd, ke, kf⟩ := HK.out wr HX.out
          clear ka kb kd ke
          by_cases hlt : k < L.length
          · have hltM : k < M.length := by have := HL3.out; omega
            obtain ⟨b1, o1, y, _, hyk, rfl, hn, hnc, hc63, hb, hcell⟩ := HS.out.sidesAt hlt
            obtain ⟨b2, o2, z, _, hzk, rfl, hn', hnc', hc63', hb', hcell'⟩ := HM.out.sidesAt hltM
            have HCY : Hid (∀ V, Ext wr V → ((((V.cell? ⟨b1, o1 + k * 8, none⟩ = some (.int .i64 y.peer) ∧ V.cell? ⟨b1, o1 + k * 8 + 1, none⟩ = some (.int .i64 y.epoch)) ∧ V.cell? ⟨b1, o1 + k * 8 + 2, none⟩ = some (.int .i64 y.state) ∧ V.cell? ⟨b1, o1 + k * 8 + 3, none⟩ = some (.bool y.fork)) ∧ (V.cell? ⟨b1, o1 + k * 8 + 4, none⟩ = some (.bool y.dirty) ∧ V.cell? ⟨b1, o1 + k * 8 + 5, none⟩ = some (.bool y.token)) ∧ V.cell? ⟨b1, o1 + k * 8 + 6, none⟩ = some (.bool y.bottle) ∧ V.cell? ⟨b1, o1 + k * 8 + 7, none⟩ = some (.bool y.ask)))) := Lib.hid fun V hV => hcell V (HX0.out.trans (HX.out.trans hV))
            have HCZ : Hid (∀ V, Ext wr V → ((((V.cell? ⟨b2, o2 + k * 8, none⟩ = some (.int .i64 z.peer) ∧ V.cell? ⟨b2, o2 + k * 8 + 1, none⟩ = some (.int .i64 z.epoch)) ∧ V.cell? ⟨b2, o2 + k * 8 + 2, none⟩ = some (.int .i64 z.state) ∧ V.cell? ⟨b2, o2 + k * 8 + 3, none⟩ = some (.bool z.fork)) ∧ (V.cell? ⟨b2, o2 + k * 8 + 4, none⟩ = some (.bool z.dirty) ∧ V.cell? ⟨b2, o2 + k * 8 + 5, none⟩ = some (.bool z.token)) ∧ V.cell? ⟨b2, o2 + k * 8 + 6, none⟩ = some (.bool z.bottle) ∧ V.cell? ⟨b2, o2 + k * 8 + 7, none⟩ = some (.bool z.ask)))) := Lib.hid fun V hV => hcell' V (HX0.out.trans (HX.out.trans hV))
            have HBX : Hid (∀ V, Ext wr V → V.cell? ⟨w.heap.size, 2, none⟩ = some (.slice (some ⟨b1, o1, none⟩) L.length c1) ∧ V.cell? ⟨w.heap.size + 1, 2, none⟩ = some (.slice (some ⟨b2, o2, none⟩) M.length c2)) := Lib.hid fun V hV => ⟨(HK.out V (HX.out.trans hV)).1.2.2, (HK.out V (HX.out.trans hV)).2.2.2⟩
            have HN := Lib.hid (take_eqD hyk hzk)
            obtain ⟨s, hs⟩ : ∃ s, decide (y = z) = s := ⟨_, rfl⟩
            have HNQ := Lib.hid (neq_Sd y z s hs)
            have HYZ := Lib.hid hs
            clear hcell hcell' hyk hzk hn hn' hs kf
            obtain ⟨y0, y1, y2, y3, y4, y5, y6, y7⟩ := y
            obtain ⟨z0, z1, z2, z3, z4, z5, z6, z7⟩ := z
            cases s
            all_goals
              go_wp2_with fail
              (refine wp_region_X_lit (K := fun W => Ext wr W) (by kernel_rfl) (fun w1 hw1 => ?_))
              have HX1 := Lib.hid (HX.out.trans hw1)
              have HW1 := Lib.hid hw1
              clear hw1
              refine xtv 0 (h := ?_)
              refine xtv 1 (hv := by intro w' hw'; have hc := (HBX.out w' hw').1; go_simp; first | done | with_reducible rfl) (h := ?_)
              refine xtv 2 (h := ?_)
              refine xtv 3 (h := ?_)
              refine xtv 4 (hv := by intro w' hw'; obtain ⟨⟨⟨a0, a1⟩, a2, a3⟩, ⟨a4, a5⟩, a6, a7⟩ := HCY.out w' hw'; go_simp; first | done | with_reducible rfl) (h := ?_)
              refine xtv 5 (h := ?_)
              refine xtv 6 (hv := by intro w' hw'; have hc := (HBX.out w' hw').2; go_simp; first | done | with_reducible rfl) (h := ?_)
              refine xtv 7 (h := ?_)
              refine xtv 8 (h := ?_)
              refine xtv 9 (hv := by intro w' hw'; obtain ⟨⟨⟨a0, a1⟩, a2, a3⟩, ⟨a4, a5⟩, a6, a7⟩ := HCZ.out w' hw'; go_simp; first | done | with_reducible rfl) (h := ?_)
              refine xtv 10 (hv := by intro w' hw'; obtain ⟨n1, n2⟩ := HNQ.out; go_simp; first | done | with_reducible rfl) (h := ?_)
              (refine xdone (by kernel_rfl) (HW1.out) ?_)
            · go_wp2
              go_ret
              exact ⟨ret_bool (by
                rw [← HE.out]
                exact (decide_eq_false fun e => of_decide_eq_false HYZ.out ((HN.out.1 (by rw [e])).2)).symm), HX0.out.trans HX1.out⟩
            · go_wp2
              go_roundw
              case rel => exact ⟨k + 1, by omega, by go_num, Lib.hid (HN.out.2 ⟨HQ.out, of_decide_eq_true HYZ.out⟩), HX1⟩
              case measure => simp [intOf]; omega
          · have hkl : k = L.length := by omega
            have HF : Hid (true = t) := Lib.hid (by
              have hq := HQ.out
              rw [hkl, List.take_length, HL3.out, List.take_length] at hq
              rw [← HE.out, decide_eq_true hq])
            go_wp2
            go_ret
            exact ⟨ret_bool HF.out, HX0.out.trans HX.out⟩
      · have q1 : (id1 != id2) = false := by simp [e1]
        have q2 : (ph1 != ph2) = false := by simp [e2]
        have q3 : ((L.length : Int) != (M.length : Int)) = true := by simp; omega
        have HF : Hid (false = t) := Lib.hid (by rw [← ht, decide_eq_false fun e => e3 (by rw [e.2.2])])
        have HX1 := Lib.hid (HK.out _ (Ext.refl _))
        obtain ⟨⟨ka, kb, kc⟩, kd, ke, kf⟩ := HX1.out
        clear e1 e2 e3 ht
        go_enter Try.func34, Try.ntmps34
        go_wp2
        go_ret
        exact ⟨ret_bool HF.out, HX0.out⟩
    · have q1 : (id1 != id2) = false := by simp [e1]
      have q2 : (ph1 != ph2) = true := by simp [e2]
      have HF : Hid (false = t) := Lib.hid (by rw [← ht, decide_eq_false fun e => e2 e.2.1])
      clear e1 e2 ht
      go_enter Try.func34, Try.ntmps34
      go_wp2
      go_ret
      exact ⟨ret_bool HF.out, HX0.out⟩
  · have q1 : (id1 != id2) = true := by simp [e1]
    have HF : Hid (false = t) := Lib.hid (by rw [← ht, decide_eq_false fun e => e1 e.1])
    clear e1 ht
    go_enter Try.func34, Try.ntmps34
    go_wp2
    go_ret
    exact ⟨ret_bool HF.out, HX0.out⟩

end Go.Proofs.Ytpjpjchnfllcmaa

/- Layer 12: whether nodes are few; nodes of their own memory. -/
namespace Go.Proofs.Ytpjpjchnfllcmaa
open Go.RowKit

def fewB (L : List Dn) (m : Nat) : Bool := ((L.take 25).all fun d => decide (d.sides.length ≤ 24)) && decide (L.length ≤ 24) && decide (m ≤ 40)
theorem all_nextD {α : Type} {xs : List α} {k : Nat} {y : α} (p : α → Bool) (h : xs[k]? = some y) : (xs.take (k + 1)).all p = ((xs.take k).all p && p y) := by
  have hk := (List.getElem?_eq_some_iff.1 h).1
  rw [List.take_succ_eq_append_getElem hk, List.all_append]
  have := (List.getElem?_eq_some_iff.1 h).2
  simp [this]
theorem all_takeD {α : Type} {xs : List α} {p : α → Bool} {k n : Nat} (hkn : k ≤ n) (h : (xs.take k).all p = false) : (xs.take n).all p = false := by
  rw [List.all_eq_false] at *
  obtain ⟨x, h1, h2⟩ := h
  refine ⟨x, ?_, h2⟩
  rw [show xs.take k = (xs.take n).take k by rw [List.take_take, Nat.min_eq_left hkn]] at h1
  exact List.mem_of_mem_take h1

theorem cell_atD {w : World} {cs : Array Value} {t : TypeId} {i : Nat} {u : Value} (W : World) (h : Ext (w.alloc (.cells cs t (0, 0))) W) (hu : cs[i]? = some u) : W.cell? ⟨w.heap.size, i, none⟩ = some u :=
  blk_cell (box1 (h.mono (by rw [size_alloc]; omega))) i hu

end Go.Proofs.Ytpjpjchnfllcmaa
