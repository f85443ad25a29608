/- Layer 12, the document's answers: whether two nodes, and two rows of nodes, are the same; whether they are few. -/
import Derived.Test.YtdfleocknaackaaGreatDR1
import Derived.Test.YtdfleocknaackaaGreatME
import Derived.Deep.QuietTactic
import Derived.Deep.RegionHeld3
import Derived.Laws.StructEq
namespace Go.Proofs.YtdfleocknaackaaGreat
open Go.RowKit

theorem neq_Sd (y z : Sd) (s : Bool) (hs : decide (y = z) = s) :
    (∀ w : World, (binOp .neq 52 (.agg #[.int .i64 y.peer, .int .i64 y.epoch, .int .i64 y.state, .bool y.fork, .bool y.dirty, .bool y.token, .bool y.bottle, .bool y.ask]) (.agg #[.int .i64 z.peer, .int .i64 z.epoch, .int .i64 z.state, .bool z.fork, .bool z.dirty, .bool z.token, .bool z.bottle, .bool z.ask])).run Tryz.prog w = .ok (.bool (!s)) w) ∧ ∀ (a b : Operand) (w : World), (eqGuard .neq 52 a b (.agg #[.int .i64 y.peer, .int .i64 y.epoch, .int .i64 y.state, .bool y.fork, .bool y.dirty, .bool y.token, .bool y.bottle, .bool y.ask]) (.agg #[.int .i64 z.peer, .int .i64 z.epoch, .int .i64 z.state, .bool z.fork, .bool z.dirty, .bool z.token, .bool z.bottle, .bool z.ask])).run Tryz.prog w = .ok () w := by
  obtain ⟨y0, y1, y2, y3, y4, y5, y6, y7⟩ := y
  obtain ⟨z0, z1, z2, z3, z4, z5, z6, z7⟩ := z
  refine ⟨fun w => ?_, fun a b w => run_eqGuard_agg w _ _ a b _ _ (by kernel_rfl)⟩
  have u3 := Tryz.underlying3
  have a3 := Tryz.isAgg3
  have z3' := Tryz.sizeOf3
  have u4 := Tryz.underlying4
  have a4 := Tryz.isAgg4
  have z4' := Tryz.sizeOf4
  have uS := Tryz.underlying50
  have aS := Tryz.isAgg50
  have zS := Tryz.sizeOf50
  have hS : Tryz.prog.underlying 52 = some (.struct (Tryz.prog.fieldsOf 52)) := by kernel_rfl
  have hp : Tryz.prog.stoodInHeld 52 = false := by kernel_rfl
  rw [run_neq_struct, show (10000 : Nat) = 9999 + 1 from rfl, run_equalIn_agg w 9999 52 _ _ hS hp]
  simp only [Program.fieldsOf, Tryz.underlying52]
  go_simp
  subst hs
  by_cases h0 : y0 = z0 <;> by_cases h1 : y1 = z1 <;> by_cases h2 : y2 = z2 <;> simp [h0, h1, h2]
  cases y3 <;> cases z3 <;> simp
  all_goals cases y4 <;> cases z4 <;> simp
  all_goals cases y5 <;> cases z5 <;> simp
  all_goals cases y6 <;> cases z6 <;> simp
  all_goals cases y7 <;> cases z7 <;> simp

def dC (x : DV) : Array Value := #[.int .i64 x.id, .int .i64 x.phase, .slice x.ao x.n x.c]
theorem take_eqD {α : Type} {xs ys : List α} {k : Nat} {x y : α} (hx : xs[k]? = some x) (hy : ys[k]? = some y) : xs.take (k + 1) = ys.take (k + 1) ↔ xs.take k = ys.take k ∧ x = y := by
  have h1 := (List.getElem?_eq_some_iff.1 hx).1
  have h2 := (List.getElem?_eq_some_iff.1 hy).1
  rw [List.take_succ_eq_append_getElem h1, List.take_succ_eq_append_getElem h2, (List.getElem?_eq_some_iff.1 hx).2, (List.getElem?_eq_some_iff.1 hy).2]
  constructor
  · intro h
    have := List.append_inj h (by simp; omega)
    exact ⟨this.1, by simpa using this.2⟩
  · rintro ⟨ha, hb⟩
    rw [ha, hb]

set_option maxRecDepth 100000 in
set_option maxHeartbeats 2000000 in
theorem refSameOne_any (w : World) (id1 ph1 id2 ph2 : Int) (v1 v2 : Value) (L M : List Sd) (h : Sl w v1 L) (g : Sl w v2 M) (t : Bool) (ht : decide ((⟨id1, ph1, L⟩ : Dn) = ⟨id2, ph2, M⟩) = t) :
    Calls Tryz.prog 36 #[.agg #[.int .i64 id1, .int .i64 ph1, v1], .agg #[.int .i64 id2, .int .i64 ph2, v2]] w fun e w' => e = .returned (.bool t) ∧ Ext w w' := by
  obtain ⟨ao1, c1, rfl⟩ := h.len
  obtain ⟨ao2, c2, rfl⟩ := g.len
  have l1 := h.length_le
  have l2 := g.length_le
  have HS := Lib.hid h
  have HM := Lib.hid g
  have HT := Lib.hid ht
  have HK : Hid (∀ V, Ext ((w.alloc (.cells #[.int .i64 id1, .int .i64 ph1, .slice ao1 L.length c1] 49)).alloc (.cells #[.int .i64 id2, .int .i64 ph2, .slice ao2 M.length c2] 49)) V → (V.cell? ⟨w.heap.size, 0, none⟩ = some (.int .i64 id1) ∧ V.cell? ⟨w.heap.size, 1, none⟩ = some (.int .i64 ph1) ∧ V.cell? ⟨w.heap.size, 2, none⟩ = some (.slice ao1 L.length c1)) ∧ V.cell? ⟨w.heap.size + 1, 0, none⟩ = some (.int .i64 id2) ∧ V.cell? ⟨w.heap.size + 1, 1, none⟩ = some (.int .i64 ph2) ∧ V.cell? ⟨w.heap.size + 1, 2, none⟩ = some (.slice ao2 M.length c2)) := Lib.hid fun V hV => by
    obtain ⟨hA, hB⟩ := box2 (hV.mono (by rw [size_alloc, size_alloc]; omega))
    exact ⟨⟨blk_cell hA 0 rfl, blk_cell hA 1 rfl, blk_cell hA 2 rfl⟩, blk_cell hB 0 rfl, blk_cell hB 1 rfl, blk_cell hB 2 rfl⟩
  have HX0 : Hid (Ext w ((w.alloc (.cells #[.int .i64 id1, .int .i64 ph1, .slice ao1 L.length c1] 49)).alloc (.cells #[.int .i64 id2, .int .i64 ph2, .slice ao2 M.length c2] 49))) := Lib.hid (((Ext.refl w).alloc _).alloc _)
  simp only [Dn.mk.injEq] at ht
  clear h g
  by_cases e1 : id1 = id2
  · by_cases e2 : ph1 = ph2
    · by_cases e3 : L.length = M.length
      · have q1 : (id1 != id2) = false := by simp [e1]
        have q2 : (ph1 != ph2) = false := by simp [e2]
        have q3 : ((L.length : Int) != (M.length : Int)) = false := by simp [e3]
        have HE : Hid (decide (L = M) = t) := Lib.hid (by rw [← ht]; simp [e1, e2])
        have HL3 := Lib.hid e3
        clear e1 e2 e3 ht
        go_enter Tryz.func36, Tryz.ntmps36
        go_wp2
        go_loopw [5] (fun i wr => ∃ k : Nat, k ≤ L.length ∧ i = .int .i64 k ∧ Hid (L.take k = M.take k) ∧ Hid (Ext ((w.alloc (.cells #[.int .i64 id1, .int .i64 ph1, .slice ao1 L.length c1] 49)).alloc (.cells #[.int .i64 id2, .int .i64 ph2, .slice ao2 M.length c2] 49)) wr)) (fun i _ => L.length - (intOf i).toNat)
        case atStart => exact ⟨0, Nat.zero_le _, rfl, Lib.hid rfl, Lib.hid (Ext.refl _)⟩
        case round =>
          obtain ⟨k, hk, rfl, HQ, HX⟩ := hrel
          obtain ⟨⟨ka, kb, kc⟩, kd, ke, kf⟩ := HK.out wr HX.out
          clear ka kb kd ke
          by_cases hlt : k < L.length
          · have hltM : k < M.length := by have := HL3.out; omega
            obtain ⟨b1, o1, y, _, hyk, rfl, hn, hnc, hc63, hb, hcell⟩ := HS.out.sidesAt hlt
            obtain ⟨b2, o2, z, _, hzk, rfl, hn', hnc', hc63', hb', hcell'⟩ := HM.out.sidesAt hltM
            have HCY : Hid (∀ V, Ext wr V → ((((V.cell? ⟨b1, o1 + k * 8, none⟩ = some (.int .i64 y.peer) ∧ V.cell? ⟨b1, o1 + k * 8 + 1, none⟩ = some (.int .i64 y.epoch)) ∧ V.cell? ⟨b1, o1 + k * 8 + 2, none⟩ = some (.int .i64 y.state) ∧ V.cell? ⟨b1, o1 + k * 8 + 3, none⟩ = some (.bool y.fork)) ∧ (V.cell? ⟨b1, o1 + k * 8 + 4, none⟩ = some (.bool y.dirty) ∧ V.cell? ⟨b1, o1 + k * 8 + 5, none⟩ = some (.bool y.token)) ∧ V.cell? ⟨b1, o1 + k * 8 + 6, none⟩ = some (.bool y.bottle) ∧ V.cell? ⟨b1, o1 + k * 8 + 7, none⟩ = some (.bool y.ask)))) := Lib.hid fun V hV => hcell V (HX0.out.trans (HX.out.trans hV))
            have HCZ : Hid (∀ V, Ext wr V → ((((V.cell? ⟨b2, o2 + k * 8, none⟩ = some (.int .i64 z.peer) ∧ V.cell? ⟨b2, o2 + k * 8 + 1, none⟩ = some (.int .i64 z.epoch)) ∧ V.cell? ⟨b2, o2 + k * 8 + 2, none⟩ = some (.int .i64 z.state) ∧ V.cell? ⟨b2, o2 + k * 8 + 3, none⟩ = some (.bool z.fork)) ∧ (V.cell? ⟨b2, o2 + k * 8 + 4, none⟩ = some (.bool z.dirty) ∧ V.cell? ⟨b2, o2 + k * 8 + 5, none⟩ = some (.bool z.token)) ∧ V.cell? ⟨b2, o2 + k * 8 + 6, none⟩ = some (.bool z.bottle) ∧ V.cell? ⟨b2, o2 + k * 8 + 7, none⟩ = some (.bool z.ask)))) := Lib.hid fun V hV => hcell' V (HX0.out.trans (HX.out.trans hV))
            have HBX : Hid (∀ V, Ext wr V → V.cell? ⟨w.heap.size, 2, none⟩ = some (.slice (some ⟨b1, o1, none⟩) L.length c1) ∧ V.cell? ⟨w.heap.size + 1, 2, none⟩ = some (.slice (some ⟨b2, o2, none⟩) M.length c2)) := Lib.hid fun V hV => ⟨(HK.out V (HX.out.trans hV)).1.2.2, (HK.out V (HX.out.trans hV)).2.2.2⟩
            have HN := Lib.hid (take_eqD hyk hzk)
            obtain ⟨s, hs⟩ : ∃ s, decide (y = z) = s := ⟨_, rfl⟩
            have HNQ := Lib.hid (neq_Sd y z s hs)
            have HYZ := Lib.hid hs
            clear hcell hcell' hyk hzk hn hn' hs kf
            obtain ⟨y0, y1, y2, y3, y4, y5, y6, y7⟩ := y
            obtain ⟨z0, z1, z2, z3, z4, z5, z6, z7⟩ := z
            cases s
            all_goals
              go_wp2_with fail
              (refine wp_region_X_lit (K := fun W => Ext wr W) (by kernel_rfl) (fun w1 hw1 => ?_))
              have HX1 := Lib.hid (HX.out.trans hw1)
              have HW1 := Lib.hid hw1
              clear hw1
              refine xtv 0 (h := ?_)
              refine xtv 1 (hv := by intro w' hw'; have hc := (HBX.out w' hw').1; go_simp; first | done | with_reducible rfl) (h := ?_)
              refine xtv 2 (h := ?_)
              refine xtv 3 (h := ?_)
              refine xtv 4 (hv := by intro w' hw'; obtain ⟨⟨⟨a0, a1⟩, a2, a3⟩, ⟨a4, a5⟩, a6, a7⟩ := HCY.out w' hw'; go_simp; first | done | with_reducible rfl) (h := ?_)
              refine xtv 5 (h := ?_)
              refine xtv 6 (hv := by intro w' hw'; have hc := (HBX.out w' hw').2; go_simp; first | done | with_reducible rfl) (h := ?_)
              refine xtv 7 (h := ?_)
              refine xtv 8 (h := ?_)
              refine xtv 9 (hv := by intro w' hw'; obtain ⟨⟨⟨a0, a1⟩, a2, a3⟩, ⟨a4, a5⟩, a6, a7⟩ := HCZ.out w' hw'; go_simp; first | done | with_reducible rfl) (h := ?_)
              refine xtv 10 (hv := by intro w' hw'; obtain ⟨n1, n2⟩ := HNQ.out; go_simp; first | done | with_reducible rfl) (h := ?_)
              (refine xdone (by kernel_rfl) (HW1.out) ?_)
            · go_wp2
              go_ret
              exact ⟨ret_bool (by
                rw [← HE.out]
                exact (decide_eq_false fun e => of_decide_eq_false HYZ.out ((HN.out.1 (by rw [e])).2)).symm), HX0.out.trans HX1.out⟩
            · go_wp2
              go_roundw
              case rel => exact ⟨k + 1, by omega, by go_num, Lib.hid (HN.out.2 ⟨HQ.out, of_decide_eq_true HYZ.out⟩), HX1⟩
              case measure => simp [intOf]; omega
          · have hkl : k = L.length := by omega
            have HF : Hid (true = t) := Lib.hid (by
              have hq := HQ.out
              rw [hkl, List.take_length, HL3.out, List.take_length] at hq
              rw [← HE.out, decide_eq_true hq])
            go_wp2
            go_ret
            exact ⟨ret_bool HF.out, HX0.out.trans HX.out⟩
      · have q1 : (id1 != id2) = false := by simp [e1]
        have q2 : (ph1 != ph2) = false := by simp [e2]
        have q3 : ((L.length : Int) != (M.length : Int)) = true := by simp; omega
        have HF : Hid (false = t) := Lib.hid (by rw [← ht, decide_eq_false fun e => e3 (by rw [e.2.2])])
        have HX1 := Lib.hid (HK.out _ (Ext.refl _))
        obtain ⟨⟨ka, kb, kc⟩, kd, ke, kf⟩ := HX1.out
        clear e1 e2 e3 ht
        go_enter Tryz.func36, Tryz.ntmps36
        go_wp2
        go_ret
        exact ⟨ret_bool HF.out, HX0.out⟩
    · have q1 : (id1 != id2) = false := by simp [e1]
      have q2 : (ph1 != ph2) = true := by simp [e2]
      have HF : Hid (false = t) := Lib.hid (by rw [← ht, decide_eq_false fun e => e2 e.2.1])
      clear e1 e2 ht
      go_enter Tryz.func36, Tryz.ntmps36
      go_wp2
      go_ret
      exact ⟨ret_bool HF.out, HX0.out⟩
  · have q1 : (id1 != id2) = true := by simp [e1]
    have HF : Hid (false = t) := Lib.hid (by rw [← ht, decide_eq_false fun e => e1 e.1])
    clear e1 ht
    go_enter Tryz.func36, Tryz.ntmps36
    go_wp2
    go_ret
    exact ⟨ret_bool HF.out, HX0.out⟩

set_option maxRecDepth 100000 in
set_option maxHeartbeats 2000000 in
theorem refSameD_any (F : Nat → Prop) (w : World) (v1 v2 : Value) (L M : List Dn) (h : Ns DV F w v1 L) (g : Ns DV F w v2 M) (t : Bool) (ht : decide (L = M) = t) :
    Calls Tryz.prog 57 #[v1, v2] w fun e w' => e = .returned (.bool t) ∧ Ext w w' := by
  obtain ⟨ao1, c1, rfl⟩ := h.len
  obtain ⟨ao2, c2, rfl⟩ := g.len
  have l1 := h.length_le
  have l2 := g.length_le
  have HS := Lib.hid h
  have HM := Lib.hid g
  clear h g
  by_cases e3 : L.length = M.length
  · have q3 : ((L.length : Int) != (M.length : Int)) = false := by simp [e3]
    have HL3 := Lib.hid e3
    have HE := Lib.hid ht
    clear e3 ht
    go_enter Tryz.func57, Tryz.ntmps57
    go_wp2
    go_loopw [5] (fun i wr => ∃ k : Nat, k ≤ L.length ∧ i = .int .i64 k ∧ Hid (L.take k = M.take k) ∧ Hid (Ext w wr)) (fun i _ => L.length - (intOf i).toNat)
    case atStart => exact ⟨0, Nat.zero_le _, rfl, Lib.hid rfl, Lib.hid (Ext.refl _)⟩
    case round =>
      obtain ⟨k, hk, rfl, HQ, HX⟩ := hrel
      by_cases hlt : k < L.length
      · have hltM : k < M.length := by have := HL3.out; omega
        obtain ⟨b1, o1, so1, sc1, d, hyk, rfl, hn, hnc, hc63, hb, hsl, hcell⟩ := HS.out.dinerAt hlt
        obtain ⟨b2, o2, so2, sc2, f, hzk, rfl, hn', hnc', hc63', hb', hsl', hcell'⟩ := HM.out.dinerAt hltM
        have HSL := Lib.hid (And.intro hsl.sl hsl'.sl)
        have HCY : Hid (∀ V, Ext wr V → (V.cell? ⟨b1, o1 + k * 3, none⟩ = some (.int .i64 d.id) ∧ V.cell? ⟨b1, o1 + k * 3 + 1, none⟩ = some (.int .i64 d.phase) ∧ V.cell? ⟨b1, o1 + k * 3 + 2, none⟩ = some (.slice so1 d.sides.length sc1)) ∧ V.cell? ⟨b2, o2 + k * 3, none⟩ = some (.int .i64 f.id) ∧ V.cell? ⟨b2, o2 + k * 3 + 1, none⟩ = some (.int .i64 f.phase) ∧ V.cell? ⟨b2, o2 + k * 3 + 2, none⟩ = some (.slice so2 f.sides.length sc2)) := Lib.hid fun V hV => ⟨hcell V (HX.out.trans hV), hcell' V (HX.out.trans hV)⟩
        have HN := Lib.hid (take_eqD hyk hzk)
        obtain ⟨s, hs⟩ : ∃ s, decide (d = f) = s := ⟨_, rfl⟩
        have HYZ := Lib.hid hs
        clear hcell hcell' hyk hzk hn hn' hs hsl hsl'
        obtain ⟨d0, d1, d2⟩ := d
        obtain ⟨f0, f1, f2⟩ := f
        dsimp only at HCY HSL
        cases s
        all_goals
          go_wp2_with fail
          (refine wp_region_X_lit (K := fun W => Ext wr W) (by kernel_rfl) (fun w1 hw1 => ?_))
          have HX1 := Lib.hid (HX.out.trans hw1)
          have HW1 := Lib.hid hw1
          clear hw1
          refine xtv 0 (h := ?_)
          refine xtv 1 (h := ?_)
          refine xtv 2 (h := ?_)
          refine xtv 3 (hv := by intro w' hw'; obtain ⟨⟨a0, a1, a2⟩, _, _, _⟩ := HCY.out w' hw'; go_simp; first | done | with_reducible rfl) (h := ?_)
          refine xtv 4 (h := ?_)
          refine xtv 5 (h := ?_)
          refine xtv 6 (h := ?_)
          refine xtv 7 (hv := by intro w' hw'; obtain ⟨_, a0, a1, a2⟩ := HCY.out w' hw'; go_simp; first | done | with_reducible rfl) (h := ?_)
          refine xone 8 (hk := HW1.out) (h := RunX.of 8 (h := ?_))
          go_simp
          refine (refSameOne_any w1 d0 d1 f0 f1 _ _ d2 f2 (HSL.out.1.ext HX1.out) (HSL.out.2.ext HX1.out) _ HYZ.out).mono ?_
          rintro e2 w2 ⟨rfl, hx2⟩
          have HX2 := Lib.hid (HX1.out.trans hx2)
          have HW2 := Lib.hid (HW1.out.trans hx2)
          clear hx2
          dsimp only
          (try (simp only [Act.put, List.setIfInBounds_toArray, List.set]))
          refine xtv 9 (h := ?_)
          (refine xdone (by kernel_rfl) (HW2.out) ?_)
        · go_wp2
          go_ret
          exact ⟨ret_bool (by
            rw [← HE.out]
            exact (decide_eq_false fun e => of_decide_eq_false HYZ.out ((HN.out.1 (by rw [e])).2)).symm), HX2.out⟩
        · go_wp2
          go_roundw
          case rel => exact ⟨k + 1, by omega, by go_num, Lib.hid (HN.out.2 ⟨HQ.out, of_decide_eq_true HYZ.out⟩), HX2⟩
          case measure => simp [intOf]; omega
      · have hkl : k = L.length := by omega
        have HF : Hid (true = t) := Lib.hid (by
          have hq := HQ.out
          rw [hkl, List.take_length, HL3.out, List.take_length] at hq
          rw [← HE.out, decide_eq_true hq])
        go_wp2
        go_ret
        exact ⟨ret_bool HF.out, HX.out⟩
  · have q3 : ((L.length : Int) != (M.length : Int)) = true := by simp; omega
    have HF : Hid (false = t) := Lib.hid (by rw [← ht, decide_eq_false fun e => e3 (by rw [e])])
    clear e3 ht
    go_enter Tryz.func57, Tryz.ntmps57
    go_wp2
    go_ret
    exact ⟨ret_bool HF.out, Ext.refl _⟩

end Go.Proofs.YtdfleocknaackaaGreat

/- Layer 12: whether nodes are few; nodes of their own memory. -/
namespace Go.Proofs.YtdfleocknaackaaGreat
open Go.RowKit

def fewB (L : List Dn) (m : Nat) : Bool := ((L.take 25).all fun d => decide (d.sides.length ≤ 24)) && decide (L.length ≤ 24) && decide (m ≤ 40)
theorem all_nextD {α : Type} {xs : List α} {k : Nat} {y : α} (p : α → Bool) (h : xs[k]? = some y) : (xs.take (k + 1)).all p = ((xs.take k).all p && p y) := by
  have hk := (List.getElem?_eq_some_iff.1 h).1
  rw [List.take_succ_eq_append_getElem hk, List.all_append]
  have := (List.getElem?_eq_some_iff.1 h).2
  simp [this]
theorem all_takeD {α : Type} {xs : List α} {p : α → Bool} {k n : Nat} (hkn : k ≤ n) (h : (xs.take k).all p = false) : (xs.take n).all p = false := by
  rw [List.all_eq_false] at *
  obtain ⟨x, h1, h2⟩ := h
  refine ⟨x, ?_, h2⟩
  rw [show xs.take k = (xs.take n).take k by rw [List.take_take, Nat.min_eq_left hkn]] at h1
  exact List.mem_of_mem_take h1

theorem cell_atD {w : World} {cs : Array Value} {t : TypeId} {i : Nat} {u : Value} (W : World) (h : Ext (w.alloc (.cells cs t (0, 0))) W) (hu : cs[i]? = some u) : W.cell? ⟨w.heap.size, i, none⟩ = some u :=
  blk_cell (box1 (h.mono (by rw [size_alloc]; omega))) i hu

set_option maxHeartbeats 1000000 in
theorem refFew_any (F : Nat → Prop) (w : World) (v : Value) (mo : Option Addr) (mn mc : Nat) (L : List Dn) (h : Ns DV F w v L) (hm : mn ≤ 9223372036854775807) (t : Bool) (ht : fewB L mn = t) :
    Calls Tryz.prog 34 #[.agg #[v, .slice mo mn mc]] w fun e w' => e = .returned (.bool t) ∧ Ext w w' := by
  obtain ⟨ao, c, rfl⟩ := h.len
  have HS := Lib.hid h
  have HT := Lib.hid ht
  have l1 := h.length_le
  have HK : Hid (∀ V, Ext (w.alloc (.cells #[.slice ao L.length c, .slice mo mn mc] 31)) V → V.cell? ⟨w.heap.size, 0, none⟩ = some (.slice ao L.length c) ∧ V.cell? ⟨w.heap.size, 1, none⟩ = some (.slice mo mn mc)) := Lib.hid fun V hV => ⟨cell_atD V hV rfl, cell_atD V hV rfl⟩
  clear h ht
  go_enter Tryz.func34, Tryz.ntmps34
  go_wp2
  go_loopw [3] (fun i wr => ∃ k : Nat, k ≤ L.length ∧ k ≤ 25 ∧ i = .int .i64 k ∧ Hid ((L.take k).all (fun d => decide (d.sides.length ≤ 24)) = true) ∧ Hid (Ext (w.alloc (.cells #[.slice ao L.length c, .slice mo mn mc] 31)) wr)) (fun i _ => L.length - (intOf i).toNat)
  case atStart => exact ⟨0, Nat.zero_le _, by omega, rfl, Lib.hid rfl, Lib.hid (Ext.refl _)⟩
  case round =>
    obtain ⟨k, hk, hk25, rfl, HQ, HX⟩ := hrel
    obtain ⟨k0, k1⟩ := HK.out wr HX.out
    have XX := Lib.hid (Ext.trans ((Ext.refl w).alloc _) HX.out)
    by_cases hlt : k < L.length
    · by_cases h25 : k < 25
      · obtain ⟨b1, o1, so1, sc1, d, hyk, rfl, hn, hnc, hc63, hb, hsl, hcell⟩ := HS.out.dinerAt hlt
        obtain ⟨a0, a1, a2⟩ := hcell wr XX.out
        have HN := Lib.hid (all_nextD (fun d : Dn => decide (d.sides.length ≤ 24)) hyk)
        have hdl := hsl.sl.length_le
        clear hcell hyk hn hsl a0 a1
        by_cases h24 : d.sides.length ≤ 24
        · have hi24 : ¬ (24 : Int) < (d.sides.length : Int) := by omega
          have HF : Hid ((L.take (k + 1)).all (fun d => decide (d.sides.length ≤ 24)) = true) := Lib.hid (HN.out.trans (by rw [HQ.out, decide_eq_true h24]; rfl))
          go_wp2
          go_roundw
          case rel => exact ⟨k + 1, by omega, by omega, by go_num, HF, HX⟩
          case measure => simp [intOf]; omega
        · have hi24 : (24 : Int) < (d.sides.length : Int) := by omega
          have HF : Hid (false = t) := Lib.hid (by
            rw [← HT.out]
            unfold fewB
            rw [all_takeD (k := k + 1) (by omega) (HN.out.trans (by rw [decide_eq_false h24, Bool.and_false]))]
            rfl)
          go_wp2
          go_ret
          exact ⟨ret_bool HF.out, XX.out⟩
      · have hi25 : ¬ (k : Int) < 25 := by omega
        have hL24 : ¬ (L.length : Int) ≤ 24 := by omega
        have HF : Hid (false = t) := Lib.hid (by rw [← HT.out]; unfold fewB; rw [decide_eq_false (show ¬ L.length ≤ 24 by omega), Bool.and_false, Bool.false_and])
        go_wp2
        go_ret
        exact ⟨ret_bool HF.out, XX.out⟩
    · have hkl : k = L.length := by omega
      have HA : Hid ((L.take 25).all (fun d => decide (d.sides.length ≤ 24)) = true) := Lib.hid (by
        have hq := HQ.out
        rw [hkl, List.take_length] at hq
        rw [List.take_of_length_le (by omega)]
        exact hq)
      by_cases h24 : L.length ≤ 24
      · have hL24 : (L.length : Int) ≤ 24 := by omega
        by_cases h40 : mn ≤ 40
        · have hm40 : (mn : Int) ≤ 40 := by omega
          have HF : Hid (true = t) := Lib.hid (by rw [← HT.out]; unfold fewB; rw [HA.out, decide_eq_true h24, decide_eq_true h40]; rfl)
          go_wp2
          go_ret
          exact ⟨ret_bool HF.out, XX.out⟩
        · have hm40 : ¬ (mn : Int) ≤ 40 := by omega
          have HF : Hid (false = t) := Lib.hid (by rw [← HT.out]; unfold fewB; rw [decide_eq_false h40, Bool.and_false])
          go_wp2
          go_ret
          exact ⟨ret_bool HF.out, XX.out⟩
      · have hL24 : ¬ (L.length : Int) ≤ 24 := by omega
        have HF : Hid (false = t) := Lib.hid (by rw [← HT.out]; unfold fewB; rw [decide_eq_false h24, Bool.and_false, Bool.false_and])
        go_wp2
        go_ret
        exact ⟨ret_bool HF.out, XX.out⟩

set_option maxRecDepth 100000 in
set_option maxHeartbeats 1000000 in
theorem ownD_any (F : Nat → Prop) (w : World) (v : Value) (L : List Dn) (h : Ns DV F w v L) (hl : L.length ≤ 1000) (hls : ∀ d ∈ L, d.sides.length ≤ 1000) :
    Calls Tryz.prog 53 #[v] w fun e w' => ∃ v', e = .returned v' ∧ Nw DV (fun _ => False) w' w.heap.size v' L ∧ Ext w w' := by
  obtain ⟨ao, c, rfl⟩ := h.len
  have HS := Lib.hid h
  have HLS := Lib.hid hls
  clear h hls
  go_enter Tryz.func53, Tryz.ntmps53
  go_wp2
  go_loopw [3, 4] (fun q i wr => ∃ k : Nat, k ≤ L.length ∧ i = .int .i64 k ∧ Hid (Nw DV (fun _ => False) wr w.heap.size q (L.take k)) ∧ Hid (Ext w wr)) (fun _ i _ => L.length - (intOf i).toNat)
  case atStart => exact ⟨0, Nat.zero_le _, rfl, Lib.hid (Nw.lit (α := DV) (δ := Dn) _ w _ _ rfl (Nat.le_refl _)), Lib.hid ((Ext.refl _).alloc _)⟩
  case round =>
    obtain ⟨k, hk, rfl, HQ, HX⟩ := hrel
    have hwr : w.heap.size ≤ wr.heap.size := Below.size HX.out
    by_cases hlt : k < L.length
    · obtain ⟨b1, o1, so, sc, d, hyk, rfl, hn, hnc, hc63, hb, hsl, hcell⟩ := HS.out.dinerAt hlt
      obtain ⟨a0, a1, a2⟩ := hcell wr HX.out
      have HSL := Lib.hid (hsl.sl.ext HX.out)
      have hdl : d.sides.length ≤ 1000 := HLS.out d (List.mem_of_getElem? hyk)
      have HTK : Hid (L.take (k + 1) = L.take k ++ [d]) := Lib.hid (by rw [List.take_succ_eq_append_getElem hlt, (List.getElem?_eq_some_iff.1 hyk).2])
      obtain ⟨xs, hown, hxl, hel⟩ := HQ.out.any
      have HOW := Lib.hid hown
      have HXL := Lib.hid hxl
      have HEL := Lib.hid hel
      have hxs : xs.length ≤ 1000 := by rw [hxl]; simp; omega
      clear hcell hyk hn hsl hown hxl hel
      obtain ⟨d0, d1, d2⟩ := d
      dsimp only at a0 a1 a2 HSL hdl HTK
      go_wp2_with (first
        | (at_builtin; refine wpList_append_sl (α := Sd) rfl (.tmp 17) (.tmp 19) rfl (wr.heap.size + 1) _ [] rfl ?_ (.slice so d2.length sc) d2 rfl ?_ ?_ ?_ ?_; exact (Ow.litAt (wr.alloc (.cells #[.int .i64 d0, .int .i64 d1, .slice so d2.length sc] 49)) _ _ (by simp) (by simp) [] (by simp)); exact ((HSL.out.alloc _).alloc _); (first | omega | (simp; omega)); exact (by simp); intro v2 W2 ho2 ha2; obtain ⟨a2', n2, c2, rfl⟩ := ho2.sh; have hA2 : W2.heap[wr.heap.size]? = some (.cells #[.int .i64 d0, .int .i64 d1, .slice so d2.length sc] 49 (0, 0)) := (ha2.below.block _ (by omega)).trans (blk_alloc (get_alloc_new wr _) _); have e0 := blk_cell hA2 0 rfl; have e1 := blk_cell hA2 1 rfl; have e2 := blk_cell hA2 2 rfl; have f2 := blk_free hA2 2; have hbw := blk_lt hA2; have HA2 := Lib.hid hA2; have HO2 := Lib.hid ho2; have HX2 : Hid (Ext wr W2) := Lib.hid (Below.trans (((Ext.refl wr).alloc _).alloc _) (ha2.below.mono (by omega))); clear ho2 ha2 hA2)
        | (at_builtin; refine wpList_append_sl (α := DV) rfl (.tmp 22) (.tmp 24) rfl w.heap.size _ xs rfl ?_ (.slice (some ⟨_, 0, none⟩) 1 1) [(⟨d0, d1, a2', n2, c2⟩ : DV)] rfl ?_ ?_ ?_ ?_; exact ((HOW.out.ext (below_set HX2.out (Nat.le_refl _) _)).alloc _); exact (Sl.litAt _ _ (by simp) [(⟨d0, d1, a2', n2, c2⟩ : DV)] (show (1 : Nat) ≤ 1000000 by decide)); (first | omega | (simp; omega)); exact (by first | omega | (rw [size_alloc, set_size]; omega)); intro v3 W3 ho3 ha3; have hx : Nest.rd (Own1 (fun _ => False) _) _ (⟨d0, d1, a2', n2, c2⟩ : DV) (⟨d0, d1, d2⟩ : Dn) := (⟨rfl, rfl, Sa.new ((HO2.out.set (d := ⟨wr.heap.size, 2, none⟩) (by show wr.heap.size < _; omega) (.slice a2' n2 c2)).alloc (.cells #[.int .i64 d0, .int .i64 d1, .slice a2' n2 c2] 49)) (fun k hk => by rcases hk with hk | hk; exact hk.elim; have := (HOW.out.low k hk).2; omega)⟩ : RdD _ _ _ _); have hst := Nw.step (α := DV) (δ := Dn) (F := fun _ => False) (L := L.take k) HXL.out (fun j x e hx he => Nest.ext (HEL.out j x e hx he) (Ext.alloc (below_set HX2.out (Nat.le_refl _) _) _)) hx ho3 ha3; have HST := Lib.hid hst; have HX3 : Hid (Ext w W3) := Lib.hid (Below.trans (HX.out.trans (Ext.alloc (below_set HX2.out (Nat.le_refl _) _) _)) (ha3.below.mono (Nat.le_refl _))); clear ho3 ha3 hx hst))
      go_roundw
      case rel => exact ⟨k + 1, by omega, by go_num, Lib.hid (by rw [HTK.out]; exact HST.out), HX3⟩
      case measure => simp [intOf]; omega
    · have hkl : k = L.length := by omega
      have hq := HQ.out
      rw [hkl, List.take_length] at hq
      have HQ' := Lib.hid hq
      clear hq HQ hkl
      go_wp2
      go_ret
      exact ⟨_, rfl, HQ'.out, HX.out⟩

end Go.Proofs.YtdfleocknaackaaGreat
