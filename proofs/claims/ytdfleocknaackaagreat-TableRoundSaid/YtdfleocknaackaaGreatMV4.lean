/- Layer 14, the program: mail put together, and compared. -/
import Derived.Test.YtdfleocknaackaaGreatMU1
import Derived.Test.YtdfleocknaackaaGreatME
import Derived.Test.YtdfleocknaackaaGreatShelf
import Derived.Test.YtdfleocknaackaaGreatMV1
import Derived.Test.YtdfleocknaackaaGreatMUF
import Derived.Test.YtdfleocknaackaaGreatOD
import Derived.Laws.EntriesVeiled
import Derived.Test.YtdfleocknaackaaGreatMUA
namespace Go.Proofs.YtdfleocknaackaaGreat
open Go.RowKit

set_option maxRecDepth 100000 in
set_option maxHeartbeats 2000000 in
theorem equal_m (w : World) (v1 v2 : Value) (L M : List Ml) (h : Sl w v1 L) (g : Sl w v2 M) (t : Bool) (ht : decide (L = M) = t) :
    Calls Tryz.prog 74 #[v1, v2] w fun e w' => e = .returned (.bool t) ∧ Ext w w' := by
  obtain ⟨ao1, c1, rfl⟩ := h.len
  obtain ⟨ao2, c2, rfl⟩ := g.len
  have l1 := h.length_le
  have l2 := g.length_le
  have HS := Lib.hid h
  have HM := Lib.hid g
  have HE := Lib.hid ht
  clear h g ht
  by_cases e3 : L.length = M.length
  · have q3 : ((L.length : Int) != (M.length : Int)) = false := by simp [e3]
    have HL3 := Lib.hid e3
    clear e3
    go_enter Tryz.func74, Tryz.ntmps74
    go_wp2
    go_loopw [13] (fun i wr => ∃ k : Nat, k ≤ L.length ∧ i = .int .i64 k ∧ Hid (L.take k = M.take k) ∧ Hid (Ext w wr)) (fun i _ => L.length - (intOf i).toNat)
    case atStart => exact ⟨0, Nat.zero_le _, rfl, Lib.hid rfl, Lib.hid (Ext.refl _)⟩
    case round =>
      obtain ⟨k, hk, rfl, HQ, HX⟩ := hrel
      by_cases hlt : k < L.length
      · have hltM : k < M.length := by have := HL3.out; omega
        obtain ⟨b1, o1, y, _, hyk, rfl, hn, hnc, hc63, hb, hcell⟩ := HS.out.mailAt hlt
        obtain ⟨b2, o2, z, _, hzk, rfl, hn', hnc', hc63', hb', hcell'⟩ := HM.out.mailAt hltM
        have HCY : Hid (∀ V, Ext wr V → _) := Lib.hid fun V hV => hcell V (HX.out.trans hV)
        have HCZ : Hid (∀ V, Ext wr V → _) := Lib.hid fun V hV => hcell' V (HX.out.trans hV)
        have HN := Lib.hid (take_eqD hyk hzk)
        obtain ⟨s, hs⟩ : ∃ s, decide (y = z) = s := ⟨_, rfl⟩
        have HYZ := Lib.hid hs
        obtain ⟨y0, y1, y2, y3, y4⟩ := y
        obtain ⟨z0, z1, z2, z3, z4⟩ := z
        have HNQ := Lib.hid (neq_Ml y0 y1 y2 y3 y4 z0 z1 z2 z3 z4 s hs)
        clear hcell hcell' hyk hzk hn hn' hs
        dsimp only at HCY HCZ
        cases s
        all_goals
          go_wp2_with fail
          (refine wp_region_X_lit (K := fun W => Ext wr W) (by kernel_rfl) (fun w1 hw1 => ?_))
          have HX1 := Lib.hid (HX.out.trans hw1)
          have HW1 := Lib.hid hw1
          clear hw1
          refine xtv 0 (h := ?_)
          refine xtv 1 (h := ?_)
          refine xtv 2 (h := ?_)
          refine xtv 3 (hv := by intro w' hw'; obtain ⟨⟨a0, a1⟩, a2, a3, a4⟩ := HCY.out w' hw'; go_simp; first | done | with_reducible rfl) (h := ?_)
          refine xtv 4 (h := ?_)
          refine xtv 5 (h := ?_)
          refine xtv 6 (h := ?_)
          refine xtv 7 (hv := by intro w' hw'; obtain ⟨⟨a0, a1⟩, a2, a3, a4⟩ := HCZ.out w' hw'; go_simp; first | done | with_reducible rfl) (h := ?_)
          refine xtv 8 (hv := by intro w' hw'; obtain ⟨q1, q2⟩ := HNQ.out; go_simp; first | done | with_reducible rfl) (h := ?_)
          (refine xdone (by kernel_rfl) (HW1.out) ?_)
        · go_wp2
          go_ret
          exact ⟨ret_bool (by
            rw [← HE.out]
            exact (decide_eq_false fun e => of_decide_eq_false HYZ.out ((HN.out.1 (by rw [e])).2)).symm), HX1.out⟩
        · go_wp2
          go_roundw
          case rel => exact ⟨k + 1, by omega, by go_num, Lib.hid (HN.out.2 ⟨HQ.out, of_decide_eq_true HYZ.out⟩), HX1⟩
          case measure => simp [intOf]; omega
      · have hkl : k = L.length := by omega
        have HF : Hid (true = t) := Lib.hid (by
          have hq := HQ.out
          rw [hkl, List.take_length, HL3.out, List.take_length] at hq
          rw [← HE.out, decide_eq_true hq])
        go_wp2
        go_ret
        exact ⟨ret_bool HF.out, HX.out⟩
  · have q3 : ((L.length : Int) != (M.length : Int)) = true := by simp; omega
    have HF : Hid (false = t) := Lib.hid (by rw [← HE.out, decide_eq_false fun e => e3 (by rw [e])])
    clear e3
    go_enter Tryz.func74, Tryz.ntmps74
    go_wp2
    go_ret
    exact ⟨ret_bool HF.out, Ext.refl _⟩

theorem grow_m (w : World) (n : Nat) (hn : n ≤ 2000000) : Calls Tryz.prog 102 #[.slice none 0 0, .int .i64 n] w (GivesOw w ([] : List Ml)) := by
  by_cases h0 : n = 0
  · subst h0
    refine (Any8.slices_Grow_room Tryz.grow102 none 0 0 0 w (by omega) (by omega) (by omega) (by omega)).mono ?_
    rintro e w' ⟨rfl, rfl⟩
    exact ⟨_, rfl, Ow.nil _ _, Below.refl _ _⟩
  · obtain ⟨i0, hi, hz0, hz1, hz2⟩ := info_parts (Elem.info (α := Ml))
    have hz1 : i0.size = 5 := hz1
    have hz2 : i0.bytes = 40 := hz2
    have hz0 : i0.zero = some (.agg #[.int .i64 0, .int .i64 0, .int .i64 0, .int .i64 0, .int .i64 0]) := hz0
    refine (Any8.slices_Grow_grow Tryz.grow102 i0 (.agg #[.int .i64 0, .int .i64 0, .int .i64 0, .int .i64 0, .int .i64 0]) hi hz0 (by omega) none 0 0 n [] w (by omega) (by omega) (by rw [hz2]; omega) (by omega) (by simp) (by simp) (by simp)).mono ?_
    rintro e w' ⟨rfl, rfl⟩
    have hm := grownCap_le_maxLen w (0 + n) 0 82 (by unfold maxLen; omega)
    have hge := grownCap_ge w (0 + n) 0 82
    refine ⟨_, rfl, ?_, ((Below.refl _ w).drew).alloc (Nat.le_refl _) _⟩
    refine World.ownsRow_made w.drew _ _ (Nat.le_refl _) hm ?_
    simp [size_zeroCells]
    have : (Value.agg #[.int .i64 0, .int .i64 0, .int .i64 0, .int .i64 0, .int .i64 0]).cells.size = 5 := rfl
    rw [this]
    have e1 : Tryz.grow102_ren.t 25 = 82 := rfl
    rw [e1]
    rw [Nat.zero_add] at hge
    show _ = _ * 5
    omega

theorem growI_m (w : World) (m : Int) (h0 : 0 ≤ m) (h1 : m ≤ 2000000) : Calls Tryz.prog 102 #[.slice none 0 0, .int .i64 m] w (GivesOw w ([] : List Ml)) := by
  have := grow_m w m.toNat (by omega)
  rwa [show ((m.toNat : Nat) : Int) = m from by omega] at this

set_option maxHeartbeats 1000000 in
set_option maxHeartbeats 2000000 in
theorem concat_m (w : World) (B : Nat) (v0 v1 : Value) (xs ys : List Ml) (hB : B < w.heap.size) (c0 : w.cell? ⟨B, 0, none⟩ = some v0) (c1 : w.cell? ⟨B, 1, none⟩ = some v1)
    (h0 : Sl w v0 xs) (h1 : Sl w v1 ys) (l0 : xs.length ≤ 1000) (l1 : ys.length ≤ 1000) :
    Calls Tryz.prog 72 #[.slice (some ⟨B, 0, none⟩) 2 2] w (GivesOw w (xs ++ ys)) := by
  obtain ⟨a0, k0, rfl⟩ := h0.len
  obtain ⟨a1, k1, rfl⟩ := h1.len
  have H0 := Lib.hid h0
  have H1 := Lib.hid h1
  clear h0 h1
  have HK : Hid (∀ V, Ext w V → V.cell? ⟨B, 0, none⟩ = some (.slice a0 xs.length k0) ∧ V.cell? ⟨B, 1, none⟩ = some (.slice a1 ys.length k1)) := Lib.hid fun V x =>
    ⟨(x.cell (p := ⟨B, 0, none⟩) hB).trans c0, (x.cell (p := ⟨B, 1, none⟩) hB).trans c1⟩
  go_enter Tryz.func72, Tryz.ntmps72
  go_wp2
  refine wp_loop_rounds 3 ?_
  rw [rounds_succ]; go_wp2
  rw [rounds_succ]; go_wp2
  rw [rounds_succ]
  clear c0 c1
  go_wp2_with (go_at_call 102; refine (growI_m _ _ (by omega) (by omega)).mono ?_; rintro e w1 ⟨v1, rfl, ho, x1⟩; obtain ⟨ao1, n1, q1, rfl⟩ := ho.sh; have O1 := Lib.hid ho; obtain ⟨c0, c1⟩ := HK.out w1 x1; have hs1 : w.heap.size ≤ w1.heap.size := x1.size; clear ho)
  refine wp_loop_rounds 3 ?_
  rw [rounds_succ]
  go_wp2_with ((at_builtin; refine wpList_append_sl (α := Ml) rfl (.tmp 31) (.tmp 32) rfl w.heap.size _ [] rfl ?_ _ xs rfl ?_ ?_ ?_ ?_; exact O1.out; exact (H0.out.ext x1); (first | omega | (simp; omega)); omega; intro v2 W2 ho2 ha2; obtain ⟨ao2, n2, q2, rfl⟩ := ho2.sh; have O2 := Lib.hid ho2; have x2 : Ext w W2 := Below.trans x1 ha2.below; obtain ⟨d0, d1⟩ := HK.out W2 x2; have hs2 : w.heap.size ≤ W2.heap.size := x2.size; clear ho2 ha2))
  rw [rounds_succ]
  go_wp2_with ((at_builtin; refine wpList_append_sl (α := Ml) rfl (.tmp 31) (.tmp 32) rfl w.heap.size _ ([] ++ xs) rfl ?_ _ ys rfl ?_ ?_ ?_ ?_; exact O2.out; exact (H1.out.ext x2); (first | omega | (simp; omega)); omega; intro v3 W3 ho3 ha3; obtain ⟨ao3, n3, q3, rfl⟩ := ho3.sh; have O3 := Lib.hid ho3; have x3 : Ext w W3 := Below.trans x2 ha3.below; have hs3 : w.heap.size ≤ W3.heap.size := x3.size; clear ho3 ha3))
  rw [rounds_succ]
  go_wp2
  go_ret
  exact ⟨_, rfl, by have := O3.out; simpa using this, x3⟩


end Go.Proofs.YtdfleocknaackaaGreat

/- Layer 14, the program: what is wrong with nodes that are named; a scene behind an act of one of its nodes. -/
namespace Go.Proofs.YtdfleocknaackaaGreat
open Go.RowKit

def faultR (L : List Dn) (M : List Ml) (xs : List Int) : Int := if chkT L M = true then (if xs.all (nodeB L) = true then 0 else 140) else 142
set_option maxRecDepth 100000 in
set_option maxHeartbeats 2000000 in
theorem fault_any (w : World) (vd vm vn : Value) (L : List Dn) (M : List Ml) (xs : List Int) (h : SV w vd vm L M) (hl : Sm L M) (hn : Sl w vn xs) (r : Int) (hr : faultR L M xs = r) :
    Calls Tryz.prog 50 #[.agg #[vd, vm], vn] w fun e w' => e = .returned (.int .i64 r) ∧ Ext w w' := by
  have hmf : ∀ (fn : Fn) (first cap : Array Value) (w : World), (Instr.makeFunc fn first cap).run Tryz.prog w = .ok (.func fn first cap) w := fun _ _ _ _ => rfl
  obtain ⟨ao, c, bo, d, rfl, rfl⟩ := h.len
  obtain ⟨no, nc, rfl⟩ := hn.len
  obtain ⟨W1, hW1⟩ : ∃ W1, W1 = w.alloc (.cells #[.slice ao L.length c, .slice bo M.length d] 31) := ⟨_, rfl⟩
  have X0 : Hid (Ext w W1) := Lib.hid (hW1 ▸ (Ext.refl w).alloc _)
  have B1 : Hid (W1.heap[w.heap.size]? = some (.cells #[.slice ao L.length c, .slice bo M.length d] 31 (0, 0))) := Lib.hid (hW1 ▸ at0 w _)
  have HV := Lib.hid (h.ext X0.out)
  have HN := Lib.hid (hn.ext X0.out)
  have HW1 := Lib.hid hW1
  obtain ⟨t, ht⟩ : ∃ t, chkT L M = t := ⟨_, rfl⟩
  obtain ⟨t2, ht2⟩ : ∃ t, (xs.any fun a => !nodeB L a) = t := ⟨_, rfl⟩
  have HC := Lib.hid (tCheck_any W1 _ _ L M HV.out hl t ht)
  have HR : Hid (r = cond t (cond t2 140 0) 142) := Lib.hid (by
    rw [← hr]; unfold faultR; rw [ht]
    rw [any_not] at ht2
    cases t
    · rfl
    · rw [if_pos rfl]
      cases hq : xs.all (nodeB L)
      · rw [hq] at ht2; rw [← ht2]; rfl
      · rw [hq] at ht2; rw [← ht2]; rfl)
  have HT2 := Lib.hid ht2
  obtain ⟨k0, k1⟩ := cells2S B1.out
  clear h hl hn hr ht ht2 hW1
  go_enter Tryz.func50, Tryz.ntmps50
  go_upto_region 1 with (fail)
  rw [← HW1.out]
  cases t
  · go_wp2_with (go_at_call 33; refine HC.out.mono ?_; rintro e w1 ⟨rfl, hx⟩; dsimp only [cond]; have X1 := Lib.hid (X0.out.trans hx); clear hx)
    go_ret
    exact ⟨by rw [HR.out]; rfl, X1.out⟩
  · cases t2
    all_goals
      go_wp2_with (first
        | (go_at_call 33; refine HC.out.mono ?_; rintro e w1 ⟨rfl, hx⟩; dsimp only [cond]; have X1 := Lib.hid hx; clear hx)
        | (go_at_call 85; refine (containsFunc_p w1 _ _ xs (fun _ => True) (fun a => !nodeB L a) (HN.out.ext X1.out) ⟨84, #[.pointer (some ⟨w.heap.size, 0, none⟩)], rfl, enters_of Tryz.func84 (by kernel_rfl) rfl, fun W x hW _ => missing_one W w.heap.size _ _ L M (HV.out.ext (X1.out.trans hW)) (keepU B1.out (X1.out.trans hW)) x _ rfl⟩ (fun _ _ => trivial) _ HT2.out).mono ?_; rintro e w2 ⟨rfl, hx⟩; have X2 := Lib.hid (X0.out.trans (X1.out.trans hx)); clear hx))
      go_ret
      exact ⟨by rw [HR.out]; rfl, X2.out⟩

theorem Nw.put {F : Nat → Prop} {w : World} {B k : Nat} {ao : Option Addr} {n c : Nat} {L : List Dn} (h : Nw DV F w B (.slice ao n c) L) (hk : k < L.length) (x : DV) (d : Dn) (hx : Nest.rd (Own1 F (.slice ao n c)) w x d) :
    ∃ g cur, ao = some ⟨g, 0, none⟩ ∧ B ≤ g ∧ n = L.length ∧ n ≤ c ∧ c ≤ 9223372036854775807 ∧ w.heap[g]? = some (.cells cur (Elem.e DV) (0, 0)) ∧ k * Elem.k DV + Elem.k DV ≤ cur.size ∧
      ∀ W, W.heap[g]? = some (.cells (cur.toList.take (k * Elem.k DV) ++ Elem.enc x ++ cur.toList.drop (k * Elem.k DV + Elem.k DV)).toArray (Elem.e DV) (0, 0)) → Off (fun b => b = g) w W → Nw DV F W B (.slice ao n c) (L.set k d) := by
  obtain ⟨xs, h1, h2, h3⟩ := h.any
  obtain ⟨g, cur, rfl, q1, q2, q3, q4, q5, q6, q7⟩ := h1.setAt (k := k) (by omega) x
  refine ⟨g, cur, rfl, q1, by omega, q3, q4, q5, q6, fun W hW o => ⟨xs.set k x, q7 W hW, by rw [List.length_set, List.length_set, h2], fun j y e hy he => ?_⟩⟩
  have o' : Off (Own1 F (.slice (some ⟨g, 0, none⟩) n c)) w W := o.mono fun b hb => .inr (by rw [hb]; rfl)
  by_cases e1 : k = j
  · subst e1
    rw [List.getElem?_set] at hy he
    rw [if_pos rfl, if_pos (by omega)] at hy
    rw [if_pos rfl, if_pos (by omega)] at he
    simp only [Option.some.injEq] at hy he
    subst hy he
    exact Nest.off hx o' (Grows.refl _ _)
  · rw [List.getElem?_set, if_neg e1] at hy he
    exact Nest.off (h3 j y e hy he) o' (Grows.refl _ _)
end Go.Proofs.YtdfleocknaackaaGreat

/- Layer 14, the program: a scene behind an act of one of its nodes. -/
namespace Go.Proofs.YtdfleocknaackaaGreat
open Go.RowKit

/-- the scene behind an act of the node at A, that makes r of it -/
def behR (L : List Dn) (M : List Ml) (A : Nat) (r : Dn × Int) : (List Dn × List Ml) × Int := if r.2 = 0 then (if dnOk r.1 = true then ((L.set A (fireD r.1), M ++ fireMl r.1), 0) else (noS, 130)) else (noS, r.2)
theorem fireR_yes {d : Dn} (h : dnOk d = true) : fireR d = (fireD d, fireMl d, 0) := by unfold fireR; rw [if_pos h]
theorem fireR_no {d : Dn} (h : dnOk d = false) : fireR d = (noD, [], 130) := by unfold fireR; rw [h]; rfl
theorem fireMl_few (d : Dn) : (fireMl d).length ≤ 2 * d.sides.length := fireMs_len _ _ _

theorem Nw.less {F G : Nat → Prop} {w : World} {B : Nat} {v : Value} {L : List Dn} (h : Nw DV F w B v L) (hG : ∀ k, G k → F k) : Nw DV G w B v L := by
  obtain ⟨xs, h1, h2, h3⟩ := h.any
  exact ⟨xs, h1, h2, fun j x d hx hd => Nest.grow (h3 j x d hx hd) fun k hk => .inl (hk.imp (hG k) id)⟩

set_option maxRecDepth 100000 in
set_option maxHeartbeats 16000000 in
theorem behindT_any (w : World) (vd vm : Value) (L : List Dn) (M : List Ml) (h : SV w vd vm L M) (hl : Sm L M) (A : Nat) (i0 p0 : Int) (S0 : List Sd) (hA : L[A]? = some ⟨i0, p0, S0⟩) (g : FuncId) (lb : Array Value) (r : Dn × Int)
    (eg : ∀ args w, (callFunc g args).run Tryz.prog w = .ok (.enter g args) w) (hact : ∀ W u, Ext w W → Sl W u S0 → Calls Tryz.prog g (#[.agg #[.int .i64 i0, .int .i64 p0, u]] ++ lb) W (GivesE W r)) (hrl : r.1.sides.length ≤ 100) :
    Calls Tryz.prog 51 #[.agg #[vd, vm], .int .i64 A, .func (.func g) #[] lb] w (GivesS w (behR L M A r)) := by
  have hAL : A < L.length := (List.getElem?_eq_some_iff.1 hA).1
  obtain ⟨ao, c, bo, d, rfl, rfl⟩ := h.len
  obtain ⟨W0, hW0⟩ : ∃ W0, W0 = (w.alloc (.cells #[.slice ao L.length c, .slice bo M.length d] 31)).alloc (.cells #[.slice none 0 0, .slice none 0 0] 31) := ⟨_, rfl⟩
  have X0 : Hid (Ext w W0) := Lib.hid (hW0 ▸ ((Ext.refl w).alloc _).alloc _)
  have B0 : Hid (W0.heap[w.heap.size]? = some (.cells #[.slice ao L.length c, .slice bo M.length d] 31 (0, 0))) := Lib.hid (hW0 ▸ old1 (at0 w _) _)
  have R0 : Hid (W0.heap[w.heap.size + 1]? = some (.cells #[.slice none 0 0, .slice none 0 0] 31 (0, 0))) := Lib.hid (hW0 ▸ at1 w _ _)
  have hs0 : W0.heap.size = w.heap.size + 2 := by rw [hW0, size_alloc, size_alloc]
  have HW0 := Lib.hid hW0
  have HV := Lib.hid (h.ext X0.out)
  have HL := Lib.hid hl
  obtain ⟨⟨⟨i1, p1, S1⟩, er⟩, hr⟩ : ∃ q, r = q := ⟨_, rfl⟩
  subst hr
  dsimp only at hrl
  obtain ⟨b1, off, so, sc, d0, hyk, rfl, hn, hnc, hc63, hb, hsl, hcell⟩ := HV.out.ds.dinerAt hAL
  obtain rfl : d0 = ⟨i0, p0, S0⟩ := by have := hyk.symm.trans hA; simpa using this
  dsimp only at hsl hcell
  obtain ⟨x0, x1, x2⟩ := hcell W0 (Ext.refl _)
  have HACT := Lib.hid (hact W0 _ X0.out hsl.sl)
  have HA := Lib.hid hA
  obtain ⟨k0, k1⟩ := cells2S B0.out
  clear h hl hyk hn hsl hcell hact hA hW0
  go_enter Tryz.func51, Tryz.ntmps51
  go_upto_region 1 with (fail)
  rw [← HW0.out]
  go_upto_region 2 with (first
    | (go_at_fn g; refine HACT.out.mono ?_; rintro e w1 ⟨v1, rfl, s1, y1, n1⟩; dsimp only at s1 ⊢; obtain ⟨a1, c1, rfl⟩ := s1.len; have S1' := Lib.hid s1; have X1 := Lib.hid y1; have N1 := Lib.hid n1; clear s1 y1 n1))
  obtain ⟨W2, hW2⟩ : ∃ W2, W2 = w1.alloc (.cells #[.int .i64 i1, .int .i64 p1, .slice a1 S1.length c1] 49) := ⟨_, rfl⟩
  have X2 : Hid (Ext W0 W2) := Lib.hid (hW2 ▸ X1.out.alloc _)
  have D2 : Hid (W2.heap[w1.heap.size]? = some (.cells #[.int .i64 i1, .int .i64 p1, .slice a1 S1.length c1] 49 (0, 0))) := Lib.hid (hW2 ▸ at0 w1 _)
  have HS1 : Hid (Sl W2 (.slice a1 S1.length c1) S1) := Lib.hid (hW2 ▸ S1'.out.alloc _)
  have hsz2 : W2.heap.size = w1.heap.size + 1 := by rw [hW2, size_alloc]
  have hsz1 : W0.heap.size ≤ w1.heap.size := Below.size X1.out
  (try rw [← hW2])
  clear hW2 k0 k1 x0 x1 x2
  by_cases he : er = 0
  · subst he
    have q0 : ((0 : Int) != 0) = false := rfl
    obtain ⟨k0, k1, k2⟩ := cells3U D2.out
    cases hd : dnOk ⟨i1, p1, S1⟩
    · have HR : Hid (behR L M A (⟨i1, p1, S1⟩, 0) = (noS, 130)) := Lib.hid (by unfold behR; dsimp only; rw [if_pos rfl, hd]; rfl)
      have HF := Lib.hid (fireR_no hd ▸ fire_any W2 i1 p1 _ S1 HS1.out (by omega))
      go_wp2_with (first
        | (go_at_call 86; refine HF.out.mono ?_; rintro e w3 ⟨v3, vl3, rfl, s3, l3, y3, n3, m3⟩; dsimp only [noD] at s3 l3 ⊢; obtain ⟨a3, c3, rfl⟩ := s3.len; obtain ⟨e3, f3, rfl⟩ := l3.len; have X3 := Lib.hid y3; clear s3 l3 y3 n3 m3)
        | refine haltst 49 ?_)
      refine .inl ?_
      refine st_l 49 (.tmp 8) (.tmp 31) w1.heap.size 0 49 _ _ _ rfl rfl (keepU D2.out X3.out) (by kernel_rfl) (by simp) rfl rfl ?_
      intro W4 hW4 o4
      simp only [Act.put]
      have X4 : Hid (Ext w W4) := Lib.hid (ext_off (X0.out.trans (X2.out.trans X3.out)) o4 (fun b hb => by omega))
      have R4 : Hid (W4.heap[w.heap.size + 1]? = some (.cells #[.slice none 0 0, .slice none 0 0] 31 (0, 0))) := Lib.hid (o4.blk (keepU R0.out (X2.out.trans X3.out)) (by omega))
      clear hW4 o4
      go_wp2_with (first | refine haltst 31 ?_)
      refine .inl ?_
      refine st_l 31 (.tmp 6) (.tmp 36) (w.heap.size + 1) 0 31 _ #[.slice none 0 0, .slice none 0 0] _ rfl rfl R4.out (by kernel_rfl) (by simp) rfl rfl ?_
      intro W9 hW9 o9
      simp only [Act.put]
      go_wp2
      exact bodyPost_ret (v := .tuple #[.agg #[.slice none 0 0, .slice none 0 0], .int .i64 130]) (res_ct 7 rfl rfl hW9 uScene (by kernel_rfl)) rfl (givesS_no HR.out (ext_off X4.out o9 (fun b hb => by omega)))
    · have HR : Hid (behR L M A (⟨i1, p1, S1⟩, 0) = ((L.set A (fireD ⟨i1, p1, S1⟩), M ++ fireMl ⟨i1, p1, S1⟩), 0)) := Lib.hid (by unfold behR; dsimp only; rw [if_pos rfl, hd]; rfl)
      have HF := Lib.hid (fireR_yes hd ▸ fire_any W2 i1 p1 _ S1 HS1.out (by omega))
      have hml := fireMl_few ⟨i1, p1, S1⟩
      dsimp only at hml
      obtain ⟨⟨i2, p2, S2⟩, hfd⟩ : ∃ x, fireD ⟨i1, p1, S1⟩ = x := ⟨_, rfl⟩
      obtain ⟨M2, hfm⟩ : ∃ x, fireMl ⟨i1, p1, S1⟩ = x := ⟨_, rfl⟩
      rw [hfd, hfm] at HF HR
      rw [hfm] at hml
      clear hfd hfm hd
      go_upto_region 4 with (fail)
      go_wp2_with (first
        | (go_at_call 86; refine HF.out.mono ?_; rintro e w3 ⟨v3, vl3, rfl, s3, l3, y3, n3, m3⟩; dsimp only at s3 l3 ⊢; obtain ⟨a3, c3, rfl⟩ := s3.len; obtain ⟨e3, f3, rfl⟩ := l3.len; have S3 := Lib.hid s3; have L3 := Lib.hid l3; have X3 := Lib.hid y3; have N3 := Lib.hid n3; have M3 := Lib.hid m3; clear s3 l3 y3 n3 m3)
        | refine haltst 49 ?_)
      refine .inl ?_
      refine st_l 49 (.tmp 8) (.tmp 31) w1.heap.size 0 49 _ #[.int .i64 i2, .int .i64 p2, .slice a3 S2.length c3] _ rfl rfl (keepU D2.out X3.out) (by kernel_rfl) (by simp) rfl rfl ?_
      intro W4 hW4 o4
      simp only [Act.put]
      have X4 : Hid (Ext W0 W4) := Lib.hid (ext_off (X2.out.trans X3.out) o4 (fun b hb => by omega))
      have D4 : Hid (W4.heap[w1.heap.size]? = some (.cells #[.int .i64 i2, .int .i64 p2, .slice a3 S2.length c3] 49 (0, 0))) := Lib.hid hW4
      have S4 : Hid (Sl W4 (.slice a3 S2.length c3) S2) := Lib.hid (slOffU S3.out N3.out o4 (by omega))
      have L4 : Hid (Sl W4 (.slice e3 M2.length f3) M2) := Lib.hid (slOffU L3.out M3.out o4 (by omega))
      obtain ⟨k0, k1⟩ := cells2S (keepU B0.out X4.out)
      clear hW4 o4 S3 L3
      have hsz4 : W0.heap.size ≤ W4.heap.size := Below.size X4.out
      have HDS : Hid (Ns DV Non W4 _ L) := Lib.hid (HV.out.ds.ext X4.out)
      have hN := HL.out.n
      have hw1 := blk_lt D4.out
      go_wp2
      go_loopw [11, 41] (fun q i wr => ∃ k : Nat, k ≤ L.length ∧ i = .int .i64 k ∧ Hid (Nw DV (fun b => b < W4.heap.size) wr W4.heap.size q (L.take k)) ∧ Hid (Ext W4 wr)) (fun _ i _ => L.length - (intOf i).toNat)
      case atStart => exact ⟨0, Nat.zero_le _, rfl, Lib.hid (by rw [List.take_zero]; exact Nw.nil _ _ _), Lib.hid (Ext.refl _)⟩
      case round =>
        obtain ⟨k, hk, rfl, HQ, HX⟩ := hrel
        have hwr : W4.heap.size ≤ wr.heap.size := Below.size HX.out
        by_cases hlt : k < L.length
        · obtain ⟨b2, off2, so2, sc2, dd, hyk, hao2, hn2, hnc2, hc632, hb2, hsl2, hcell2⟩ := HDS.out.dinerAt hlt
          obtain ⟨rfl, rfl⟩ : b1 = b2 ∧ off = off2 := by simpa using hao2
          obtain ⟨a0, a1', a2⟩ := hcell2 wr HX.out
          have HSL := Lib.hid (hsl2.sl.ext HX.out)
          have hdl : dd.sides.length ≤ 100 := HL.out.s dd (List.mem_of_getElem? hyk)
          have HTK : Hid (L.take (k + 1) = L.take k ++ [dd]) := Lib.hid (by rw [List.take_succ_eq_append_getElem hlt, (List.getElem?_eq_some_iff.1 hyk).2])
          obtain ⟨xs, hown, hxl, hel⟩ := HQ.out.any
          have HOW := Lib.hid hown
          have HXL := Lib.hid hxl
          have HEL := Lib.hid hel
          have hxs : xs.length ≤ 100 := by rw [hxl]; simp; omega
          clear hcell2 hyk hao2 hn2 hsl2 hown hxl hel
          obtain ⟨d0, d1, d2⟩ := dd
          dsimp only at a0 a1' a2 HSL hdl HTK
          go_wp2_with (first
            | (go_at_call 87; refine (clone_sd _ _ d2 (HSL.out.alloc _) (by omega)).mono ?_; rintro e W2' ⟨v2, rfl, ho2, hx2⟩; obtain ⟨a2', n2, c2, rfl⟩ := ho2.sh; have hA2 : W2'.heap[wr.heap.size]? = some (.cells #[.int .i64 d0, .int .i64 d1, .slice so2 d2.length sc2] 49 (0, 0)) := keepU (at0 wr _) hx2; have e0 := blk_cell hA2 0 rfl; have e1 := blk_cell hA2 1 rfl; have e2 := blk_cell hA2 2 rfl; have f2 := blk_free hA2 2; have hbw := blk_lt hA2; have HA2 := Lib.hid hA2; have HO2 := Lib.hid ho2; have HX2 : Hid (Ext wr W2') := Lib.hid (Ext.trans ((Ext.refl wr).alloc _) hx2); clear ho2 hx2 hA2)
            | (at_builtin; refine wpList_append_sl (α := DV) rfl (.tmp 49) (.tmp 51) rfl W4.heap.size _ xs rfl ?_ (.slice (some ⟨_, 0, none⟩) 1 1) [(⟨d0, d1, a2', n2, c2⟩ : DV)] rfl ?_ ?_ ?_ ?_; exact ((HOW.out.ext (below_set HX2.out (Nat.le_refl _) _)).alloc _); exact (Sl.litAt _ _ (by simp) [(⟨d0, d1, a2', n2, c2⟩ : DV)] (show (1 : Nat) ≤ 1000000 by decide)); (first | omega | (simp; omega)); exact (by first | omega | (rw [size_alloc, set_size]; omega)); intro v3 W3 ho3 ha3; have hx : Nest.rd (Own1 (fun b => b < W4.heap.size) _) _ (⟨d0, d1, a2', n2, c2⟩ : DV) (⟨d0, d1, d2⟩ : Dn) := (⟨rfl, rfl, Sa.new ((HO2.out.set (d := ⟨wr.heap.size, 2, none⟩) (by rw [size_alloc]; show wr.heap.size < _; omega) (.slice a2' n2 c2)).alloc (.cells #[.int .i64 d0, .int .i64 d1, .slice a2' n2 c2] 49)) (fun k hk => by rw [size_alloc]; rcases hk with hk | hk; (have : k < W4.heap.size := hk; omega); (have := (HOW.out.low k hk).2; omega))⟩ : RdD _ _ _ _); have hst := Nw.step (α := DV) (δ := Dn) (F := fun b => b < W4.heap.size) (L := L.take k) HXL.out (fun j x e hx he => Nest.ext (HEL.out j x e hx he) (Ext.alloc (below_set HX2.out (Nat.le_refl _) _) _)) hx ho3 ha3; have HST := Lib.hid hst; have HX3 : Hid (Ext W4 W3) := Lib.hid (Below.trans (HX.out.trans (Ext.alloc (below_set HX2.out (Nat.le_refl _) _) _)) (ha3.below.mono (Nat.le_refl _))); clear ho3 ha3 hx hst))
          go_roundw
          case rel => exact ⟨k + 1, by omega, by go_num, Lib.hid (by rw [HTK.out]; exact HST.out), HX3⟩
          case measure => simp [intOf]; omega
        · have hkl : k = L.length := by omega
          have hq := HQ.out
          rw [hkl, List.take_length] at hq
          have HQ' := Lib.hid hq
          clear hq HQ hkl
          obtain ⟨la, lc, rfl⟩ := HQ'.out.len
          have hless := HQ'.out.less (G := Non) fun k hk => hk.elim
          obtain ⟨xs0, how0, q1z, q2z⟩ := hless.any
          obtain ⟨gl, cur, rfl, hgl, _, hlc, hlc63, hcur, hcsz, hput⟩ := hless.put hAL ⟨i2, p2, a3, S2.length, c3⟩ ⟨i2, p2, S2⟩ (⟨rfl, rfl, S4.out.ext HX.out, by
            by_cases hS2 : S2 = []
            · exact .inl hS2
            · refine .inr fun b hb hf => ?_
              have hb1 := S4.out.block_lt hS2 b hb
              rcases hf with hf | hf
              · exact hf.elim
              · have := (how0.low b hf).1
                omega⟩ : RdD _ _ _ _)
          have HCUR := Lib.hid hcur
          have HPUT := Lib.hid hput
          have HCZ : Hid (A * 3 + 3 ≤ cur.size) := Lib.hid hcsz
          have XW : Hid (Ext W0 wr) := Lib.hid (X4.out.trans HX.out)
          obtain ⟨m0, m1, m2⟩ := cells3U (keepU D4.out HX.out)
          clear hcur hput hcsz hless how0 q1z q2z xs0 HQ' k0 k1
          go_wp2_with (first | refine haltst 49 ?_)
          refine .inl ?_
          refine st_l 49 (.tmp 57) (.tmp 56) gl (A * 3) 49 cur #[.int .i64 i2, .int .i64 p2, .slice a3 S2.length c3] _ rfl rfl HCUR.out (by kernel_rfl) HCZ.out rfl rfl ?_
          intro W8 hW8 o8
          simp only [Act.put]
          have O8 := Lib.hid (HPUT.out W8 hW8 o8)
          have X8 : Hid (Ext W4 W8) := Lib.hid (ext_off HX.out o8 (fun b hb => by omega))
          have X80 : Hid (Ext W0 W8) := Lib.hid (X4.out.trans X8.out)
          obtain ⟨k0, k1⟩ := cells2S (keepU B0.out X80.out)
          have hms := HL.out.m
          have hs1 := hrl
          clear hW8 o8 m0 m1 m2
          go_wp2_with (first
            | (go_at_call 72; refine (concat_m _ W8.heap.size _ _ M M2 (by rw [size_alloc]; omega) (blk_cell (at0 W8 _) 0 rfl) (blk_cell (at0 W8 _) 1 rfl) ((HV.out.ms.ext X80.out).alloc _) ((L4.out.ext X8.out).alloc _) hms (by omega)).mono ?_; rintro e wc ⟨vc, rfl, oc, xc⟩; obtain ⟨ca, cn, cc, rfl⟩ := oc.sh; have SC := Lib.hid oc.sl; have XC : Hid (Ext W8 wc) := Lib.hid (Ext.trans ((Ext.refl W8).alloc _) xc); clear oc xc)
            | refine haltst 31 ?_)
          refine .inl ?_
          have RC := Lib.hid (keepU R0.out (X80.out.trans XC.out))
          refine st_l 31 (.tmp 6) (.tmp 64) (w.heap.size + 1) 0 31 _ #[.slice (some ⟨gl, 0, none⟩) L.length lc, .slice ca cn cc] _ rfl rfl RC.out (by kernel_rfl) (by simp) rfl rfl ?_
          intro W9 hW9 o9
          simp only [Act.put]
          go_wp2
          exact bodyPost_ret (v := .tuple #[.agg #[.slice (some ⟨gl, 0, none⟩) L.length lc, .slice ca cn cc], .int .i64 0]) (res_ct 7 rfl rfl hW9 uScene (by kernel_rfl)) rfl (by
            rw [HR.out]
            exact ⟨_, _, rfl, (SV.mk ((O8.out.ns (fun k hk => hk.elim) (fun k hk => hk.elim)).ext XC.out) SC.out).off RC.out o9, ext_off (X0.out.trans (X80.out.trans XC.out)) o9 (fun b hb => by omega)⟩)
  · have HR : Hid (behR L M A (⟨i1, p1, S1⟩, er) = (noS, er)) := Lib.hid (by unfold behR; dsimp only; rw [if_neg he])
    have q0 : (er != 0) = true := by simp [he]
    clear he
    go_wp2_with (first | refine haltst 31 ?_)
    refine .inl ?_
    refine st_l 31 (.tmp 6) (.tmp 26) (w.heap.size + 1) 0 31 _ #[.slice none 0 0, .slice none 0 0] _ rfl rfl (keepU R0.out X2.out) (by kernel_rfl) (by simp) rfl rfl ?_
    intro W9 hW9 o9
    simp only [Act.put]
    go_wp2
    exact bodyPost_ret (v := .tuple #[.agg #[.slice none 0 0, .slice none 0 0], .int .i64 er]) (res_ct 7 rfl rfl hW9 uScene (by kernel_rfl)) rfl (givesS_no HR.out (ext_off (X0.out.trans X2.out) o9 (fun b hb => by omega)))
end Go.Proofs.YtdfleocknaackaaGreat

/- Layer 14, the program: what an act is, as the document has it (mathematics); who starts, who stops. -/
namespace Go.Proofs.YtdfleocknaackaaGreat
open Go.RowKit

theorem sidesD_put {id : Int} : ∀ {L : List Sd} {last : Int} {i : Nat} {s s' : Sd}, L[i]? = some s → s'.peer = s.peer → (∀ la, sideD id la s = true → sideD id la s' = true) → sidesD id last L = true → sidesD id last (L.set i s') = true
  | [], _, _, _, _, h, _, _, _ => by simp at h
  | t :: L, last, 0, s, s', h, hp, hs, hd => by
    obtain rfl : t = s := by simpa using h
    unfold sidesD at hd
    rw [Bool.and_eq_true] at hd
    rw [List.set_cons_zero]
    unfold sidesD
    rw [hs _ hd.1, hp, hd.2]; rfl
  | t :: L, last, i + 1, s, s', h, hp, hs, hd => by
    unfold sidesD at hd
    rw [Bool.and_eq_true] at hd
    rw [List.set_cons_succ]
    unfold sidesD
    rw [hd.1, sidesD_put (by simpa using h) hp hs hd.2]; rfl
theorem with_side {id la : Int} {s : Sd} {k n : Int} (h0 : (withR s k n).2 = 0) (h : sideD id la s = true) : sideD id la (withR s k n).1 = true ∧ (withR s k n).1.peer = s.peer := by
  unfold withR at *
  split
  · next q => rw [if_pos q] at h0; simp at h0
  · next q =>
    rw [if_neg q] at h0
    split
    · next q2 => rw [if_pos q2] at h0; simp at h0
    · next q2 =>
      split
      · refine ⟨?_, rfl⟩
        unfold sideD at *
        simp only [Bool.and_eq_true, Bool.not_eq_true', Bool.and_eq_false_iff, Bool.not_eq_false'] at *
        exact ⟨h.1, h.2.1, h.2.2.1, h.2.2.2.1, h.2.2.2.2.1, h.2.2.2.2.2.1, .inr (by simp)⟩
      · exact ⟨h, rfl⟩
theorem with_peer {s : Sd} {k n : Int} (h0 : (withR s k n).2 = 0) : (withR s k n).1.peer = s.peer := by
  unfold withR at *
  split
  · next q => rw [if_pos q] at h0; simp at h0
  · next q =>
    rw [if_neg q] at h0
    split
    · next q2 => rw [if_pos q2] at h0; simp at h0
    · split <;> rfl
theorem head_len {id ph : Int} {L M : List Sd} (h : headD ⟨id, ph, L⟩ = true) (hl : M.length = L.length) : headD ⟨id, ph, M⟩ = true := by
  unfold headD at *
  dsimp only at *
  rw [hl]; exact h
theorem head_ph {id ph q : Int} {L : List Sd} (h : headD ⟨id, ph, L⟩ = true) (hq : q = 0 ∨ q = 1 ∨ q = 2) : headD ⟨id, q, L⟩ = true := by
  unfold headD at *
  dsimp only at *
  simp only [Bool.and_eq_true, Bool.or_eq_true, decide_eq_true_eq] at *
  refine ⟨h.1, ?_, h.2.2⟩
  rcases hq with rfl | rfl | rfl <;> simp
theorem dnOk_ph {id ph q : Int} {L : List Sd} (h : dnOk ⟨id, ph, L⟩ = true) (hq : q = 0 ∨ q = 1 ∨ q = 2) : dnOk ⟨id, q, L⟩ = true := by
  unfold dnOk at *
  rw [Bool.and_eq_true] at *
  exact ⟨head_ph h.1 hq, h.2⟩
theorem dnOk_get {d : Dn} {p k me n : Int} (h : dnOk d = true) (h0 : (getR d p k me n).2 = 0) : dnOk (getR d p k me n).1 = true := by
  unfold getR at *
  rw [if_pos h] at h0 ⊢
  cases hf : findS (fun s => s.peer == p && s.epoch == me) d.sides with
  | none => rw [hf] at h0; simp at h0
  | some x =>
    obtain ⟨i, s⟩ := x
    rw [hf] at h0
    dsimp only at h0 ⊢
    by_cases hw : (withR s k n).2 = 0
    · rw [if_pos hw]
      obtain ⟨h1, _⟩ := findS_spec hf
      unfold dnOk at *
      rw [Bool.and_eq_true] at *
      exact ⟨head_len h.1 (by rw [List.length_set]), sidesD_put h1 (with_peer hw) (fun la hla => (with_side hw hla).1) h.2⟩
    · rw [if_neg hw] at h0; exact absurd h0 hw
theorem getR_len (d : Dn) (p k me n : Int) : (getR d p k me n).1.sides.length ≤ d.sides.length := by
  unfold getR
  split
  · split
    · simp [noD]
    · split
      · rw [List.length_set]; exact Nat.le_refl _
      · simp [noD]
  · simp [noD]
theorem stepR_len (d : Dn) (a b : Int) : (stepR d a b).1.sides.length ≤ d.sides.length := by
  unfold stepR
  split
  · split
    · exact Nat.le_refl _
    · simp [noD]
  · simp [noD]
theorem chk_diner {L : List Dn} {M : List Ml} (h : chkT L M = true) {A : Nat} {d : Dn} (hA : L[A]? = some d) : dnOk d = true := by
  unfold chkT at h
  simp only [Bool.and_eq_true, List.all_eq_true] at h
  exact h.1.2 d (List.mem_of_getElem? hA)
/-- who starts, who stops -/
theorem beh_start {L : List Dn} {M : List Ml} (h : chkT L M = true) {A : Nat} {d : Dn} (hA : L[A]? = some d) (b : Int) : behR L M A (stepR d 0 1) = stepT L M 0 A b := by
  have hd := chk_diner h hA
  have hAL := (List.getElem?_eq_some_iff.1 hA).1
  have hn : ¬ (¬ ((0 : Int) ≤ A ∧ (A : Int) < L.length) ∨ (0 : Int) = 2 ∧ ¬ (0 ≤ b ∧ b < L.length)) := by omega
  have e1 : stepT L M 0 A b = stepS L M 0 A b := by unfold stepT; rw [if_pos h]
  have e2 : stepS L M 0 A b = if d.phase = 0 then (fireAt L M A ⟨d.id, 1, d.sides⟩, 0) else (noS, 134) := by
    unfold stepS
    rw [if_neg hn, if_neg (by omega), Int.toNat_natCast, hA]
    rfl
  rw [e1, e2]
  by_cases e : d.phase = 0
  · have e3 : stepR d 0 1 = (⟨d.id, 1, d.sides⟩, 0) := by unfold stepR; rw [if_pos hd, if_pos e]
    rw [e3, if_pos e]
    unfold behR
    dsimp only
    rw [if_pos rfl, if_pos (dnOk_ph hd (by simp))]
    rfl
  · have e3 : stepR d 0 1 = (noD, 134) := by unfold stepR; rw [if_pos hd, if_neg e]
    rw [e3, if_neg e]
    rfl
theorem beh_stop {L : List Dn} {M : List Ml} (h : chkT L M = true) {A : Nat} {d : Dn} (hA : L[A]? = some d) (b : Int) : behR L M A (stepR d 2 0) = stepT L M 1 A b := by
  have hd := chk_diner h hA
  have hAL := (List.getElem?_eq_some_iff.1 hA).1
  have hn : ¬ (¬ ((0 : Int) ≤ A ∧ (A : Int) < L.length) ∨ (1 : Int) = 2 ∧ ¬ (0 ≤ b ∧ b < L.length)) := by omega
  have e1 : stepT L M 1 A b = stepS L M 1 A b := by unfold stepT; rw [if_pos h]
  have e2 : stepS L M 1 A b = if d.phase = 2 then (fireAt L M A ⟨d.id, 0, d.sides⟩, 0) else (noS, 134) := by
    unfold stepS
    rw [if_neg hn, if_neg (by omega), Int.toNat_natCast, hA]
    rfl
  rw [e1, e2]
  by_cases e : d.phase = 2
  · have e3 : stepR d 2 0 = (⟨d.id, 0, d.sides⟩, 0) := by unfold stepR; rw [if_pos hd, if_pos e]
    rw [e3, if_pos e]
    unfold behR
    dsimp only
    rw [if_pos rfl, if_pos (dnOk_ph hd (by simp))]
    rfl
  · have e3 : stepR d 2 0 = (noD, 134) := by unfold stepR; rw [if_pos hd, if_neg e]
    rw [e3, if_neg e]
    rfl
theorem pick_none {a b : Int} : ∀ {l : List Ml}, (∀ x ∈ l, (x.from_ == a && x.to_ == b) = false) → pick a b l = none
  | [], _ => rfl
  | m :: l, h => by
    unfold pick
    have := h m (List.mem_cons_self ..)
    rw [if_neg (by simpa using this), pick_none fun x hx => h x (List.mem_cons_of_mem _ hx)]; rfl
theorem pick_at {a b : Int} : ∀ {l : List Ml} {k : Nat} {m : Ml}, l[k]? = some m → (m.from_ == a && m.to_ == b) = true → (∀ (j : Nat) (u : Ml), j < k → l[j]? = some u → (u.from_ == a && u.to_ == b) = false) → pick a b l = some (l.take k, m, l.drop (k + 1))
  | [], _, _, h, _, _ => by simp at h
  | x :: l, 0, m, h, hm, _ => by
    obtain rfl : x = m := by simpa using h
    unfold pick
    rw [if_pos (by simpa using hm)]
    rfl
  | x :: l, k + 1, m, h, hm, hn => by
    unfold pick
    have := hn 0 x (by omega) rfl
    rw [if_neg (by simpa using this), pick_at (by simpa using h) hm fun j u hj hu => hn (j + 1) u (by omega) (by simpa using hu)]
    rfl
/-- mail that comes -/
theorem beh_get {L : List Dn} {M : List Ml} (h : chkT L M = true) {B : Nat} {d : Dn} (hB : L[B]? = some d) {a : Int} (ha : 0 ≤ a ∧ a < L.length) {l1 l2 : List Ml} {m : Ml} (hp : pick a B M = some (l1, m, l2)) :
    behR L (l1 ++ l2) B (getR d a m.kind m.epoch m.num) = stepT L M 2 a B := by
  have hd := chk_diner h hB
  have hBL := (List.getElem?_eq_some_iff.1 hB).1
  unfold stepT stepS
  rw [if_pos h, if_neg (by omega), if_pos rfl, hp]
  dsimp only
  rw [Int.toNat_natCast, hB]
  dsimp only
  unfold behR
  by_cases e : (getR d a m.kind m.epoch m.num).2 = 0
  · rw [if_pos e, if_pos e, if_pos (dnOk_get hd e)]
    rfl
  · rw [if_neg e, if_neg e]
theorem stepT_no {L : List Dn} {M : List Ml} (h : chkT L M = false) (k a b : Int) : stepT L M k a b = (noS, 142) := by unfold stepT; rw [h]; rfl
theorem stepT_node {L : List Dn} {M : List Ml} (h : chkT L M = true) {k a b : Int} (hn : ¬ (0 ≤ a ∧ a < L.length) ∨ k = 2 ∧ ¬ (0 ≤ b ∧ b < L.length)) : stepT L M k a b = (noS, 140) := by
  unfold stepT stepS; rw [if_pos h, if_pos hn]
theorem stepT_mail {L : List Dn} {M : List Ml} (h : chkT L M = true) {a b : Int} (hn : ¬ (¬ (0 ≤ a ∧ a < L.length) ∨ (2 : Int) = 2 ∧ ¬ (0 ≤ b ∧ b < L.length))) (hp : pick a b M = none) : stepT L M 2 a b = (noS, 141) := by
  unfold stepT stepS; rw [if_pos h, if_neg hn, if_pos rfl, hp]
theorem node_iff {L : List Dn} {a : Int} : nodeB L a = true ↔ 0 ≤ a ∧ a < L.length := by unfold nodeB; simp
end Go.Proofs.YtdfleocknaackaaGreat

/- Layer 14, the program: who is hungry, who stops. -/
namespace Go.Proofs.YtdfleocknaackaaGreat
open Go.RowKit

set_option maxRecDepth 100000 in
set_option maxHeartbeats 4000000 in
theorem tStart_any (w : World) (vd vm : Value) (L : List Dn) (M : List Ml) (h : SV w vd vm L M) (hl : Sm L M) (a b : Int) :
    Calls Tryz.prog 38 #[.agg #[vd, vm], .int .i64 a] w (GivesS w (stepT L M 0 a b)) := by
  obtain ⟨ao, c, bo, d, rfl, rfl⟩ := h.len
  obtain ⟨W0, hW0⟩ : ∃ W0, W0 = (w.alloc (.cells #[.slice ao L.length c, .slice bo M.length d] 31)).alloc (.cells #[.slice none 0 0, .slice none 0 0] 31) := ⟨_, rfl⟩
  have X0 : Hid (Ext w W0) := Lib.hid (hW0 ▸ ((Ext.refl w).alloc _).alloc _)
  have B0 : Hid (W0.heap[w.heap.size]? = some (.cells #[.slice ao L.length c, .slice bo M.length d] 31 (0, 0))) := Lib.hid (hW0 ▸ old1 (at0 w _) _)
  have R0 : Hid (W0.heap[w.heap.size + 1]? = some (.cells #[.slice none 0 0, .slice none 0 0] 31 (0, 0))) := Lib.hid (hW0 ▸ at1 w _ _)
  have HW0 := Lib.hid hW0
  have HV := Lib.hid (h.ext X0.out)
  have HL := Lib.hid hl
  obtain ⟨r, hr⟩ : ∃ r, faultR L M [a] = r := ⟨_, rfl⟩
  have HRF := Lib.hid hr
  obtain ⟨k0, k1⟩ := cells2S B0.out
  have HFA : Hid (∀ W vn, Ext W0 W → Sl W vn [a] → _) := Lib.hid fun W vn hW hn => fault_any W _ _ vn L M [a] (HV.out.ext hW) hl hn r hr
  clear h hl hW0 hr
  go_enter Tryz.func38, Tryz.ntmps38
  go_upto_region 1 with (fail)
  rw [← HW0.out]
  by_cases hr0 : r = 0
  · subst hr0
    have HCK : Hid (chkT L M = true ∧ nodeB L a = true) := Lib.hid (by
      have := HRF.out
      unfold faultR at this
      split at this
      · next q =>
        refine ⟨q, ?_⟩
        split at this
        · next q2 => simpa using q2
        · simp at this
      · simp at this)
    obtain ⟨A, hA⟩ : ∃ A : Nat, a = A := ⟨a.toNat, by have := node_iff.1 HCK.out.2; omega⟩
    subst hA
    have hAL : A < L.length := by have := node_iff.1 HCK.out.2; omega
    obtain ⟨⟨i0, p0, S0⟩, hA⟩ : ∃ x, L[A]? = some x := ⟨_, List.getElem?_eq_getElem hAL⟩
    have HBE : Hid (behR L M A (stepR ⟨i0, p0, S0⟩ 0 1) = stepT L M 0 A b) := Lib.hid (beh_start HCK.out.1 hA b)
    have hS0 : S0.length ≤ 100 := HL.out.s _ (List.mem_of_getElem? hA)
    have HBH : Hid (∀ W, Ext W0 W → _) := Lib.hid fun W hW => HBE.out ▸ behindT_any W _ _ L M (HV.out.ext hW) HL.out A i0 p0 S0 hA 67 #[] (stepR ⟨i0, p0, S0⟩ 0 1) (enters_of Tryz.func67 (by kernel_rfl) rfl) (fun V u _ hu => start_any V i0 p0 u S0 hu (by omega)) (Nat.le_trans (stepR_len _ _ _) hS0)
    obtain ⟨⟨⟨L2, M2⟩, er⟩, hq⟩ : ∃ q, stepT L M 0 A b = q := ⟨_, rfl⟩
    rw [hq] at HBH
    have HQ := Lib.hid hq
    clear hq hA HBE
    go_wp2_with (first
      | (go_at_call 50; refine (HFA.out (W0.alloc _) _ ((Ext.refl _).alloc _) (Sl.litAt W0 _ rfl [(A : Int)] (by simp))).mono ?_; rintro e w1 ⟨rfl, hx⟩; have X1 : Hid (Ext W0 w1) := Lib.hid (Ext.trans ((Ext.refl _).alloc _) hx); obtain ⟨j0, j1⟩ := cells2S (keepU B0.out X1.out); clear hx)
      | (go_at_call 51; refine (HBH.out w1 X1.out).mono ?_; rintro e w2 ⟨vd2, vm2, rfl, sv2, hx⟩; dsimp only at sv2 ⊢; obtain ⟨a1, n1, c1, a2, n2, c2, rfl, rfl⟩ := sv2.sh; have SV2 := Lib.hid sv2; have X2 := Lib.hid (X1.out.trans hx); clear sv2 hx)
      | refine haltst 31 ?_)
    refine .inl ?_
    have RC := Lib.hid (keepU R0.out X2.out)
    refine st_l 31 (.tmp 4) (.tmp 18) (w.heap.size + 1) 0 31 _ #[.slice a1 n1 c1, .slice a2 n2 c2] _ rfl rfl RC.out (by kernel_rfl) (by simp) rfl rfl ?_
    intro W9 hW9 o9
    simp only [Act.put]
    go_wp2
    exact bodyPost_ret (v := .tuple #[.agg #[.slice a1 n1 c1, .slice a2 n2 c2], .int .i64 er]) (res_ct 5 rfl rfl hW9 uScene (by kernel_rfl)) rfl (by rw [HQ.out]; exact ⟨_, _, rfl, SV2.out.off RC.out o9, ext_off (X0.out.trans X2.out) o9 (fun b hb => by omega)⟩)
  · have HR : Hid (stepT L M 0 a b = (noS, r)) := Lib.hid (by
      have := HRF.out
      unfold faultR at this
      split at this
      · next q =>
        split at this
        · omega
        · next q2 => rw [← this]; exact stepT_node q (.inl fun hn => q2 (by simpa using node_iff.2 hn))
      · next q => rw [← this]; exact stepT_no (by simpa using q) _ _ _)
    have q0 : (r != 0) = true := by simp [hr0]
    clear hr0
    go_wp2_with (first
      | (go_at_call 50; refine (HFA.out (W0.alloc _) _ ((Ext.refl _).alloc _) (Sl.litAt W0 _ rfl [a] (by simp))).mono ?_; rintro e w1 ⟨rfl, hx⟩; have X1 : Hid (Ext W0 w1) := Lib.hid (Ext.trans ((Ext.refl _).alloc _) hx); clear hx)
      | refine haltst 31 ?_)
    refine .inl ?_
    refine st_l 31 (.tmp 4) (.tmp 13) (w.heap.size + 1) 0 31 _ #[.slice none 0 0, .slice none 0 0] _ rfl rfl (keepU R0.out X1.out) (by kernel_rfl) (by simp) rfl rfl ?_
    intro W9 hW9 o9
    simp only [Act.put]
    go_wp2
    exact bodyPost_ret (v := .tuple #[.agg #[.slice none 0 0, .slice none 0 0], .int .i64 r]) (res_ct 5 rfl rfl hW9 uScene (by kernel_rfl)) rfl (givesS_no HR.out (ext_off (X0.out.trans X1.out) o9 (fun b hb => by omega)))

set_option maxRecDepth 100000 in
set_option maxHeartbeats 4000000 in
theorem tStop_any (w : World) (vd vm : Value) (L : List Dn) (M : List Ml) (h : SV w vd vm L M) (hl : Sm L M) (a b : Int) :
    Calls Tryz.prog 26 #[.agg #[vd, vm], .int .i64 a] w (GivesS w (stepT L M 1 a b)) := by
  obtain ⟨ao, c, bo, d, rfl, rfl⟩ := h.len
  obtain ⟨W0, hW0⟩ : ∃ W0, W0 = (w.alloc (.cells #[.slice ao L.length c, .slice bo M.length d] 31)).alloc (.cells #[.slice none 0 0, .slice none 0 0] 31) := ⟨_, rfl⟩
  have X0 : Hid (Ext w W0) := Lib.hid (hW0 ▸ ((Ext.refl w).alloc _).alloc _)
  have B0 : Hid (W0.heap[w.heap.size]? = some (.cells #[.slice ao L.length c, .slice bo M.length d] 31 (0, 0))) := Lib.hid (hW0 ▸ old1 (at0 w _) _)
  have R0 : Hid (W0.heap[w.heap.size + 1]? = some (.cells #[.slice none 0 0, .slice none 0 0] 31 (0, 0))) := Lib.hid (hW0 ▸ at1 w _ _)
  have HW0 := Lib.hid hW0
  have HV := Lib.hid (h.ext X0.out)
  have HL := Lib.hid hl
  obtain ⟨r, hr⟩ : ∃ r, faultR L M [a] = r := ⟨_, rfl⟩
  have HRF := Lib.hid hr
  obtain ⟨k0, k1⟩ := cells2S B0.out
  have HFA : Hid (∀ W vn, Ext W0 W → Sl W vn [a] → _) := Lib.hid fun W vn hW hn => fault_any W _ _ vn L M [a] (HV.out.ext hW) hl hn r hr
  clear h hl hW0 hr
  go_enter Tryz.func26, Tryz.ntmps26
  go_upto_region 1 with (fail)
  rw [← HW0.out]
  by_cases hr0 : r = 0
  · subst hr0
    have HCK : Hid (chkT L M = true ∧ nodeB L a = true) := Lib.hid (by
      have := HRF.out
      unfold faultR at this
      split at this
      · next q =>
        refine ⟨q, ?_⟩
        split at this
        · next q2 => simpa using q2
        · simp at this
      · simp at this)
    obtain ⟨A, hA⟩ : ∃ A : Nat, a = A := ⟨a.toNat, by have := node_iff.1 HCK.out.2; omega⟩
    subst hA
    have hAL : A < L.length := by have := node_iff.1 HCK.out.2; omega
    obtain ⟨⟨i0, p0, S0⟩, hA⟩ : ∃ x, L[A]? = some x := ⟨_, List.getElem?_eq_getElem hAL⟩
    have HBE : Hid (behR L M A (stepR ⟨i0, p0, S0⟩ 2 0) = stepT L M 1 A b) := Lib.hid (beh_stop HCK.out.1 hA b)
    have hS0 : S0.length ≤ 100 := HL.out.s _ (List.mem_of_getElem? hA)
    have HBH : Hid (∀ W, Ext W0 W → _) := Lib.hid fun W hW => HBE.out ▸ behindT_any W _ _ L M (HV.out.ext hW) HL.out A i0 p0 S0 hA 52 #[] (stepR ⟨i0, p0, S0⟩ 2 0) (enters_of Tryz.func52 (by kernel_rfl) rfl) (fun V u _ hu => stop_any V i0 p0 u S0 hu (by omega)) (Nat.le_trans (stepR_len _ _ _) hS0)
    obtain ⟨⟨⟨L2, M2⟩, er⟩, hq⟩ : ∃ q, stepT L M 1 A b = q := ⟨_, rfl⟩
    rw [hq] at HBH
    have HQ := Lib.hid hq
    clear hq hA HBE
    go_wp2_with (first
      | (go_at_call 50; refine (HFA.out (W0.alloc _) _ ((Ext.refl _).alloc _) (Sl.litAt W0 _ rfl [(A : Int)] (by simp))).mono ?_; rintro e w1 ⟨rfl, hx⟩; have X1 : Hid (Ext W0 w1) := Lib.hid (Ext.trans ((Ext.refl _).alloc _) hx); obtain ⟨j0, j1⟩ := cells2S (keepU B0.out X1.out); clear hx)
      | (go_at_call 51; refine (HBH.out w1 X1.out).mono ?_; rintro e w2 ⟨vd2, vm2, rfl, sv2, hx⟩; dsimp only at sv2 ⊢; obtain ⟨a1, n1, c1, a2, n2, c2, rfl, rfl⟩ := sv2.sh; have SV2 := Lib.hid sv2; have X2 := Lib.hid (X1.out.trans hx); clear sv2 hx)
      | refine haltst 31 ?_)
    refine .inl ?_
    have RC := Lib.hid (keepU R0.out X2.out)
    refine st_l 31 (.tmp 4) (.tmp 18) (w.heap.size + 1) 0 31 _ #[.slice a1 n1 c1, .slice a2 n2 c2] _ rfl rfl RC.out (by kernel_rfl) (by simp) rfl rfl ?_
    intro W9 hW9 o9
    simp only [Act.put]
    go_wp2
    exact bodyPost_ret (v := .tuple #[.agg #[.slice a1 n1 c1, .slice a2 n2 c2], .int .i64 er]) (res_ct 5 rfl rfl hW9 uScene (by kernel_rfl)) rfl (by rw [HQ.out]; exact ⟨_, _, rfl, SV2.out.off RC.out o9, ext_off (X0.out.trans X2.out) o9 (fun b hb => by omega)⟩)
  · have HR : Hid (stepT L M 1 a b = (noS, r)) := Lib.hid (by
      have := HRF.out
      unfold faultR at this
      split at this
      · next q =>
        split at this
        · omega
        · next q2 => rw [← this]; exact stepT_node q (.inl fun hn => q2 (by simpa using node_iff.2 hn))
      · next q => rw [← this]; exact stepT_no (by simpa using q) _ _ _)
    have q0 : (r != 0) = true := by simp [hr0]
    clear hr0
    go_wp2_with (first
      | (go_at_call 50; refine (HFA.out (W0.alloc _) _ ((Ext.refl _).alloc _) (Sl.litAt W0 _ rfl [a] (by simp))).mono ?_; rintro e w1 ⟨rfl, hx⟩; have X1 : Hid (Ext W0 w1) := Lib.hid (Ext.trans ((Ext.refl _).alloc _) hx); clear hx)
      | refine haltst 31 ?_)
    refine .inl ?_
    refine st_l 31 (.tmp 4) (.tmp 13) (w.heap.size + 1) 0 31 _ #[.slice none 0 0, .slice none 0 0] _ rfl rfl (keepU R0.out X1.out) (by kernel_rfl) (by simp) rfl rfl ?_
    intro W9 hW9 o9
    simp only [Act.put]
    go_wp2
    exact bodyPost_ret (v := .tuple #[.agg #[.slice none 0 0, .slice none 0 0], .int .i64 r]) (res_ct 5 rfl rfl hW9 uScene (by kernel_rfl)) rfl (givesS_no HR.out (ext_off (X0.out.trans X1.out) o9 (fun b hb => by omega)))
end Go.Proofs.YtdfleocknaackaaGreat

/- Layer 14, the program: mail that comes. -/
namespace Go.Proofs.YtdfleocknaackaaGreat
open Go.RowKit

set_option maxRecDepth 100000 in
set_option maxHeartbeats 1000000 in
theorem meantM_one (W : World) (g1 g2 : Nat) (a b : Int) (m : Ml) (h1 : W.heap[g1]? = some (.cells #[.int .i64 a] 3 (0, 0))) (h2 : W.heap[g2]? = some (.cells #[.int .i64 b] 3 (0, 0))) (t : Bool) (ht : (m.from_ == a && m.to_ == b) = t) :
    Calls Tryz.prog 68 #[m.val, .pointer (some ⟨g1, 0, none⟩), .pointer (some ⟨g2, 0, none⟩)] W fun e W' => e = .returned (.bool t) ∧ Ext W W' := by
  obtain ⟨m0, m1, m2, m3, m4⟩ := m
  unfold Ml.val
  dsimp only at ht ⊢
  have X0 : Hid (Ext W (W.alloc (.cells #[.int .i64 m0, .int .i64 m1, .int .i64 m2, .int .i64 m3, .int .i64 m4] 82))) := Lib.hid ((Ext.refl W).alloc _)
  have q := at0 W (.cells #[.int .i64 m0, .int .i64 m1, .int .i64 m2, .int .i64 m3, .int .i64 m4] 82)
  have k0 := blk_cell q 0 rfl
  have k1 := blk_cell q 1 rfl
  have k2 := blk_cell (keepU h1 X0.out) 0 rfl
  have k3 := blk_cell (keepU h2 X0.out) 0 rfl
  have HT := Lib.hid ht
  clear q h1 h2 ht
  go_enter Tryz.func68, Tryz.ntmps68
  by_cases e : m0 = a
  · have q : (m0 == a) = true := by simp [e]
    have HE := Lib.hid q
    clear e
    go_wp2
    go_ret
    exact ⟨ret_bool (by rw [← HT.out, HE.out]; simp), X0.out⟩
  · have q : (m0 == a) = false := by simp [e]
    have HE := Lib.hid q
    clear e
    go_wp2
    go_ret
    exact ⟨ret_bool (by rw [← HT.out, HE.out]; rfl), X0.out⟩

set_option maxRecDepth 100000 in
set_option maxHeartbeats 2000000 in
theorem get_one (w : World) (g1 g2 : Nat) (p k me n : Int) (id ph : Int) (v : Value) (L : List Sd) (h : Sl w v L) (hl : L.length ≤ 1000) (h1 : w.heap[g1]? = some (.cells #[.int .i64 p] 3 (0, 0))) (h2 : w.heap[g2]? = some (.cells #[.int .i64 k, .int .i64 me, .int .i64 n] 80 (0, 0))) :
    Calls Tryz.prog 70 #[.agg #[.int .i64 id, .int .i64 ph, v], .pointer (some ⟨g1, 0, none⟩), .pointer (some ⟨g2, 0, none⟩)] w (GivesE w (getR ⟨id, ph, L⟩ p k me n)) := by
  obtain ⟨ao, c, rfl⟩ := h.len
  obtain ⟨W0, hW0⟩ : ∃ W0, W0 = (w.alloc (.cells #[.int .i64 id, .int .i64 ph, .slice ao L.length c] 49)).alloc (.cells #[.int .i64 0, .int .i64 0, .slice none 0 0] 49) := ⟨_, rfl⟩
  have X0 : Hid (Ext w W0) := Lib.hid (hW0 ▸ ((Ext.refl w).alloc _).alloc _)
  have hD : W0.heap[w.heap.size]? = some (.cells #[.int .i64 id, .int .i64 ph, .slice ao L.length c] 49 (0, 0)) := hW0 ▸ old1 (at0 w _) _
  have R0 : Hid (W0.heap[w.heap.size + 1]? = some (.cells #[.int .i64 0, .int .i64 0, .slice none 0 0] 49 (0, 0))) := Lib.hid (hW0 ▸ at1 w _ _)
  have hs0 : W0.heap.size = w.heap.size + 2 := by rw [hW0, size_alloc, size_alloc]
  have HW0 := Lib.hid hW0
  have HC := Lib.hid (get_any W0 id ph p k me n _ L (h.ext X0.out) hl)
  obtain ⟨d0, d1, d2⟩ := cells3U hD
  have q0 := blk_cell (keepU h1 X0.out) 0 rfl
  obtain ⟨r0, r1, r2⟩ := cells3U (keepU h2 X0.out)
  clear h hW0 hD h1 h2
  obtain ⟨⟨⟨id', ph', L'⟩, er⟩, hr⟩ : ∃ r, getR ⟨id, ph, L⟩ p k me n = r := ⟨_, rfl⟩
  rw [hr] at HC ⊢
  clear hr
  go_enter Tryz.func70, Tryz.ntmps70
  go_upto_region 1 with (fail)
  rw [← HW0.out]
  go_wp2_with (first
    | (go_at_call 71; refine HC.out.mono ?_; rintro e w1 ⟨v1, rfl, s1, x1, n1⟩; dsimp only at s1 ⊢; obtain ⟨a1, c1, rfl⟩ := s1.len; have S1 := Lib.hid s1; have X1 := Lib.hid x1; have N1 := Lib.hid n1; clear s1 x1 n1)
    | refine haltst 49 ?_)
  refine .inl ?_
  refine st_l 49 (.tmp 4) (.tmp 10) (w.heap.size + 1) 0 49 #[.int .i64 0, .int .i64 0, .slice none 0 0] _ _ rfl rfl (keepU R0.out X1.out) (by kernel_rfl) (by simp) rfl rfl ?_
  intro W9 hW9 o9
  simp only [Act.put]
  go_wp2
  exact bodyPost_ret (v := .tuple #[.agg _, .int .i64 er]) (res_ct 5 rfl rfl hW9 uDiner (by kernel_rfl)) rfl ⟨_, rfl, slOffU S1.out N1.out o9 (by omega), ext_off (X0.out.trans X1.out) o9 (fun b hb => by omega), fun b hb => by have := N1.out b hb; omega⟩

theorem Sm.cut {L : List Dn} {M : List Ml} (h : Sm L M) (k : Nat) : Sm L (M.take k ++ M.drop (k + 1)) := ⟨h.n, h.s, by have := h.m; rw [List.length_append, List.length_take, List.length_drop]; omega⟩

set_option maxRecDepth 100000 in
set_option maxHeartbeats 16000000 in
theorem tDeliver_any (w : World) (vd vm : Value) (L : List Dn) (M : List Ml) (h : SV w vd vm L M) (hl : Sm L M) (a b : Int) :
    Calls Tryz.prog 39 #[.agg #[vd, vm], .int .i64 a, .int .i64 b] w (GivesS w (stepT L M 2 a b)) := by
  have hmf : ∀ (fn : Fn) (first cap : Array Value) (w : World), (Instr.makeFunc fn first cap).run Tryz.prog w = .ok (.func fn first cap) w := fun _ _ _ _ => rfl
  obtain ⟨ao, c, bo, d, rfl, rfl⟩ := h.len
  obtain ⟨W0, hW0⟩ : ∃ W0, W0 = (((w.alloc (.cells #[.slice ao L.length c, .slice bo M.length d] 31)).alloc (.cells #[.int .i64 a] 3)).alloc (.cells #[.int .i64 b] 3)).alloc (.cells #[.slice none 0 0, .slice none 0 0] 31) := ⟨_, rfl⟩
  have X0 : Hid (Ext w W0) := Lib.hid (hW0 ▸ ((((Ext.refl w).alloc _).alloc _).alloc _).alloc _)
  have B0 : Hid (W0.heap[w.heap.size]? = some (.cells #[.slice ao L.length c, .slice bo M.length d] 31 (0, 0))) := Lib.hid (hW0 ▸ old1 (old1 (old1 (at0 w _) _) _) _)
  have F0 : Hid (W0.heap[w.heap.size + 1]? = some (.cells #[.int .i64 a] 3 (0, 0))) := Lib.hid (hW0 ▸ old1 (old1 (at1 w _ _) _) _)
  have T0 : Hid (W0.heap[w.heap.size + 2]? = some (.cells #[.int .i64 b] 3 (0, 0))) := Lib.hid (hW0 ▸ old1 (at2 w _ _ _) _)
  have R0 : Hid (W0.heap[w.heap.size + 3]? = some (.cells #[.slice none 0 0, .slice none 0 0] 31 (0, 0))) := Lib.hid (hW0 ▸ at3 w _ _ _ _)
  have HS0 : Hid (W0.heap.size = w.heap.size + 4) := Lib.hid (by rw [hW0, size_alloc, size_alloc, size_alloc, size_alloc])
  have HW0 := Lib.hid hW0
  have HV := Lib.hid (h.ext X0.out)
  have HL := Lib.hid hl
  obtain ⟨r, hr⟩ : ∃ r, faultR L M [a, b] = r := ⟨_, rfl⟩
  have HRF := Lib.hid hr
  obtain ⟨k0, k1⟩ := cells2S B0.out
  have kf := blk_cell F0.out 0 rfl
  have kt := blk_cell T0.out 0 rfl
  have HFA : Hid (∀ W vn, Ext W0 W → Sl W vn [a, b] → _) := Lib.hid fun W vn hW hn => fault_any W _ _ vn L M [a, b] (HV.out.ext hW) hl hn r hr
  clear h hl hW0 hr
  go_enter Tryz.func39, Tryz.ntmps39
  go_upto_region 1 with (fail)
  rw [← HW0.out]
  by_cases hr0 : r = 0
  · subst hr0
    have HCK : Hid (chkT L M = true ∧ nodeB L a = true ∧ nodeB L b = true) := Lib.hid (by
      have := HRF.out
      unfold faultR at this
      split at this
      · next q =>
        refine ⟨q, ?_⟩
        split at this
        · next q2 => simpa using q2
        · simp at this
      · simp at this)
    obtain ⟨B, hB⟩ : ∃ B : Nat, b = B := ⟨b.toNat, by have := node_iff.1 HCK.out.2.2; omega⟩
    subst hB
    have hBL : B < L.length := by have := node_iff.1 HCK.out.2.2; omega
    have HNA : Hid (0 ≤ a ∧ a < L.length) := Lib.hid (node_iff.1 HCK.out.2.1)
    obtain ⟨⟨i0, p0, S0⟩, hB⟩ : ∃ x, L[B]? = some x := ⟨_, List.getElem?_eq_getElem hBL⟩
    have hS0 : S0.length ≤ 100 := HL.out.s _ (List.mem_of_getElem? hB)
    have HBB := Lib.hid hB
    clear hB
    go_upto_region 6 with (first
      | (go_at_call 50; refine (HFA.out (W0.alloc _) _ ((Ext.refl _).alloc _) (Sl.litAt W0 _ rfl [a, (B : Int)] (by simp))).mono ?_; rintro e w1 ⟨rfl, hx⟩; have X1 : Hid (Ext W0 w1) := Lib.hid (Ext.trans ((Ext.refl _).alloc _) hx); obtain ⟨j0, j1⟩ := cells2S (keepU B0.out X1.out); clear hx)
      | (go_at_call 69; refine (indexFunc_ml w1 _ M 68 #[.pointer (some ⟨w.heap.size + 1, 0, none⟩), .pointer (some ⟨w.heap.size + 2, 0, none⟩)] (fun m => m.from_ == a && m.to_ == (B : Int)) (enters_of Tryz.func68 (by kernel_rfl) rfl) (HV.out.ms.ext X1.out) (fun m W _ hW => meantM_one W _ _ a B m (keepU F0.out (X1.out.trans hW)) (keepU T0.out (X1.out.trans hW)) _ rfl)).mono ?_; rintro e w2 ⟨q, rfl, hq, hx⟩; have X2 := Lib.hid (X1.out.trans hx); have HQ := Lib.hid hq; obtain ⟨i0', i1'⟩ := cells2S (keepU B0.out X2.out); clear hx hq))
    by_cases hq0 : q < 0
    · have HR : Hid (stepT L M 2 a B = (noS, 141)) := Lib.hid (by
        rcases HQ.out with ⟨rfl, hn⟩ | ⟨k, x, rfl, _⟩
        · have := HNA.out
          exact stepT_mail HCK.out.1 (by omega) (pick_none hn)
        · omega)
      clear HCK HQ
      go_wp2_with (first | refine haltst 31 ?_)
      refine .inl ?_
      refine st_l 31 (.tmp 6) (.tmp 29) (w.heap.size + 3) 0 31 _ #[.slice none 0 0, .slice none 0 0] _ rfl rfl (keepU R0.out X2.out) (by kernel_rfl) (by simp) rfl rfl ?_
      intro W9 hW9 o9
      simp only [Act.put]
      go_wp2
      exact bodyPost_ret (v := .tuple #[.agg #[.slice none 0 0, .slice none 0 0], .int .i64 141]) (res_ct 7 rfl rfl hW9 uScene (by kernel_rfl)) rfl (givesS_no HR.out (ext_off (X0.out.trans X2.out) o9 (fun b hb => by omega)))
    · obtain ⟨K, x, rfl, hK, hpx, hfx⟩ : ∃ (k : Nat) (x : Ml), q = (k : Int) ∧ M[k]? = some x ∧ (x.from_ == a && x.to_ == (B : Int)) = true ∧ ∀ (j : Nat) (u : Ml), j < k → M[j]? = some u → (u.from_ == a && u.to_ == (B : Int)) = false := by
        rcases HQ.out with ⟨rfl, hn⟩ | h
        · omega
        · exact h
      have hKM : K < M.length := (List.getElem?_eq_some_iff.1 hK).1
      obtain ⟨mb, mo, y, _, hyk, rfl, _, hmc, hmc63, hmb, hcell⟩ := HV.out.ms.mailAt hKM
      obtain rfl : y = x := by have := hyk.symm.trans hK; simpa using this
      obtain ⟨⟨y0, y1⟩, y2, y3, y4⟩ := hcell w2 X2.out
      have HBE : Hid (behR L (M.take K ++ M.drop (K + 1)) B (getR ⟨i0, p0, S0⟩ a y.kind y.epoch y.num) = stepT L M 2 a B) := Lib.hid (beh_get HCK.out.1 HBB.out HNA.out (pick_at hK hpx hfx))
      have HMS := Lib.hid HV.out.ms
      obtain ⟨z0, z1, z2, z3, z4⟩ := y
      dsimp only at y0 y1 y2 y3 y4 HBE
      clear hyk hK hpx hfx hcell HCK HQ
      go_upto_region 10 with (fail)
      obtain ⟨W3, hW3⟩ : ∃ W3, W3 = w2.alloc (.cells #[.int .i64 z2, .int .i64 z3, .int .i64 z4] 80) := ⟨_, rfl⟩
      have X3 : Hid (Ext W0 W3) := Lib.hid (hW3 ▸ X2.out.alloc _)
      have G3 : Hid (W3.heap[w2.heap.size]? = some (.cells #[.int .i64 z2, .int .i64 z3, .int .i64 z4] 80 (0, 0))) := Lib.hid (hW3 ▸ at0 w2 _)
      have hg3 : W0.heap.size ≤ w2.heap.size := Below.size X2.out
      (try rw [← hW3])
      have HSC : Hid (∀ V, Ext W3 V → V.cell? ⟨w.heap.size, 1, none⟩ = some (.slice (some ⟨mb, mo, none⟩) M.length d)) := Lib.hid fun V hV => (cells2S (keepU B0.out (X3.out.trans hV))).2
      have hkw : IntKind.i64.wrap ((K : Int) + 1) = (K : Int) + 1 := wrapN _ (by omega) (by omega)
      clear hW3 y0 y1 y2 y3 y4 k0 k1 kf kt i0' i1' j0 j1
      go_wp2_with fail
      refine wp_region_M_lit (by kernel_rfl) ?_
      refine tv 0 (h := ?_)
      refine tv 1 (hv := by intro w' hw'; have hc := HSC.out w' hw'; go_simp; first | done | with_reducible rfl) (h := ?_)
      refine tv 2 (h := ?_)
      refine tv 3 (hv := by intro w' hw'; have hz : (K : Int) ≤ (d : Int) := (by omega); go_simp; first | done | with_reducible rfl) (h := ?_)
      refine tv 4 (h := ?_)
      refine tv 5 (hv := by intro w' hw'; have hc := HSC.out w' hw'; go_simp; first | done | with_reducible rfl) (h := ?_)
      refine tv 6 (h := ?_)
      refine tv 7 (hv := by intro w' hw'; have hz := hkw; go_simp; first | done | with_reducible rfl) (h := ?_)
      refine tv 8 (hv := by intro w' hw'; have hz0 : 0 ≤ (K : Int) + 1 := (by omega); have hz : (K : Int) + 1 ≤ (M.length : Int) := (by omega); have hz2 : (M.length : Int) ≤ (d : Int) := (by omega); go_simp; first | done | with_reducible rfl) (h := ?_)
      (refine runOne 9 (h := ?_); intro w' hw'; go_simp; refine ⟨Ext.alloc (Ext.refl _) _, ?_⟩; try (simp only [Act.put, List.setIfInBounds_toArray, List.set]))
      have HC0 : Hid (∀ V, Ext W3 V → Sl V (.slice (some ⟨mb, mo, none⟩) K d) (M.take K)) := Lib.hid fun V hV => by
        have := (HMS.out.ext (X3.out.trans hV)).cut 0 K (by omega) (by omega)
        simpa using this
      have HC1 : Hid (∀ V, Ext W3 V → Sl V (.slice (if d = K + 1 then some ⟨mb, mo, none⟩ else some ⟨mb, mo + (K + 1) * 5, none⟩) (M.length - (K + 1)) (d - (K + 1))) (M.drop (K + 1))) := Lib.hid fun V hV => (HMS.out.ext (X3.out.trans hV)).tail (K + 1) hKM
      have hml := HL.out.m
      refine runOne 10 (h := ?_)
      intro w5 hw5
      have X5 : Hid (Ext W3 w5) := Lib.hid (Ext.trans hw' (Ext.trans ((Ext.refl w').alloc _) hw5))
      go_simp
      refine (concat_m w5 w'.heap.size _ _ (M.take K) (M.drop (K + 1)) (blk_lt (keepU (at0 w' _) hw5)) (blk_cell (keepU (at0 w' _) hw5) 0 rfl) (blk_cell (keepU (at0 w' _) hw5) 1 rfl) (HC0.out w5 X5.out) (HC1.out w5 X5.out) (by rw [List.length_take]; omega) (by rw [List.length_drop]; omega)).mono ?_
      rintro e6 w6 ⟨v6, rfl, o6, x6⟩
      obtain ⟨ca, cn, cc, rfl⟩ := o6.sh
      have X6 : Hid (Ext W3 w6) := Lib.hid (X5.out.trans x6)
      have S6 := Lib.hid o6.sl
      refine ⟨x6, ?_⟩
      clear o6 x6 hw5 hw' X5
      (try (simp only [Act.put, List.setIfInBounds_toArray, List.set]))
      refine tv 11 (h := ?_)
      (refine runLate 12 (h := ?_); intro w' hw'; have c6 := HSC.out w' (X6.out.trans hw'); have f6 := blk_free (keepU B0.out (X3.out.trans (X6.out.trans hw'))) 1; go_simp; try (simp only [Act.put, List.setIfInBounds_toArray, List.set]))
      (refine lateDone (by kernel_rfl) ?_)
      have XL : Hid (Ext W0 w') := Lib.hid (X3.out.trans (X6.out.trans hw'))
      obtain ⟨W7, hW7⟩ : ∃ W7, W7 = w'.setCell ⟨w.heap.size, 1, none⟩ (.slice ca cn cc) := ⟨_, rfl⟩
      have o7 : Off (fun k => k = w.heap.size) w' W7 := hW7 ▸ off_set w' ⟨w.heap.size, 1, none⟩ _
      have B7 : Hid (W7.heap[w.heap.size]? = some (.cells #[.slice ao L.length c, .slice ca cn cc] 31 (0, 0))) := Lib.hid (by rw [hW7, blk_set (keepU B0.out XL.out)]; rfl)
      have X7 : Hid (Ext w W7) := Lib.hid (ext_off (X0.out.trans XL.out) o7 (fun b hb => by omega))
      have SV7 : Hid (SV W7 (.slice ao L.length c) (.slice ca cn cc) L (M.take K ++ M.drop (K + 1))) := Lib.hid ((SV.mk (HV.out.ds.ext XL.out) (S6.out.ext hw')).off (keepU B0.out XL.out) o7)
      have F7 : Hid (W7.heap[w.heap.size + 1]? = some (.cells #[.int .i64 a] 3 (0, 0))) := Lib.hid (o7.blk (keepU F0.out XL.out) (by omega))
      have T7 := o7.blk (keepU T0.out XL.out) (by omega)
      have G7 : Hid (W7.heap[w2.heap.size]? = some (.cells #[.int .i64 z2, .int .i64 z3, .int .i64 z4] 80 (0, 0))) := Lib.hid (o7.blk (keepU G3.out (X6.out.trans hw')) (by have := HS0.out; omega))
      have R7 : Hid (W7.heap[w.heap.size + 3]? = some (.cells #[.slice none 0 0, .slice none 0 0] 31 (0, 0))) := Lib.hid (o7.blk (keepU R0.out XL.out) (by omega))
      have HBH := Lib.hid (HBE.out ▸ behindT_any W7 _ _ L (M.take K ++ M.drop (K + 1)) SV7.out (HL.out.cut K) B i0 p0 S0 HBB.out 70 #[.pointer (some ⟨w.heap.size + 1, 0, none⟩), .pointer (some ⟨w2.heap.size, 0, none⟩)] (getR ⟨i0, p0, S0⟩ a z2 z3 z4) (enters_of Tryz.func70 (by kernel_rfl) rfl) (fun V u hV hu => get_one V _ _ a z2 z3 z4 i0 p0 u S0 hu (by omega) (keepU F7.out hV) (keepU G7.out hV)) (Nat.le_trans (getR_len _ _ _ _ _) hS0))
      obtain ⟨⟨⟨L2, M2⟩, er⟩, hq⟩ : ∃ q, stepT L M 2 a B = q := ⟨_, rfl⟩
      rw [hq] at HBH
      have HQ := Lib.hid hq
      obtain ⟨k0, k1⟩ := cells2S B7.out
      have kt := blk_cell T7 0 rfl
      (try rw [← hW7])
      clear hW7 o7 T7 hq HBE HC0 HC1 S6 f6 c6 HSC
      go_wp2_with (first
        | (go_at_call 51; refine HBH.out.mono ?_; rintro e w8 ⟨vd2, vm2, rfl, sv2, hx⟩; dsimp only at sv2 ⊢; obtain ⟨a1, n1, c1, a2, n2, c2, rfl, rfl⟩ := sv2.sh; have SV2 := Lib.hid sv2; have X8 := Lib.hid hx; clear sv2 hx)
        | refine haltst 31 ?_)
      all_goals
        refine .inl ?_
        have RC := Lib.hid (keepU R7.out X8.out)
        refine st_l 31 (.tmp 6) (.tmp 53) (w.heap.size + 3) 0 31 _ #[.slice a1 n1 c1, .slice a2 n2 c2] _ rfl rfl RC.out (by kernel_rfl) (by simp) rfl rfl ?_
        intro W9 hW9 o9
        simp only [Act.put]
        go_wp2
        exact bodyPost_ret (v := .tuple #[.agg #[.slice a1 n1 c1, .slice a2 n2 c2], .int .i64 er]) (res_ct 7 rfl rfl hW9 uScene (by kernel_rfl)) rfl (by rw [HQ.out]; exact ⟨_, _, rfl, SV2.out.off RC.out o9, ext_off (X7.out.trans X8.out) o9 (fun b hb => by omega)⟩)
  · have HR : Hid (stepT L M 2 a b = (noS, r)) := Lib.hid (by
      have := HRF.out
      unfold faultR at this
      split at this
      · next q =>
        split at this
        · omega
        · next q2 => rw [← this]; exact stepT_node q (by
            by_cases ha : nodeB L a = true
            · refine .inr ⟨rfl, fun hn => q2 ?_⟩
              simp [ha, node_iff.2 hn]
            · exact .inl fun hn => ha (node_iff.2 hn))
      · next q => rw [← this]; exact stepT_no (by simpa using q) _ _ _)
    have q0 : (r != 0) = true := by simp [hr0]
    clear hr0
    go_wp2_with (first
      | (go_at_call 50; refine (HFA.out (W0.alloc _) _ ((Ext.refl _).alloc _) (Sl.litAt W0 _ rfl [a, b] (by simp))).mono ?_; rintro e w1 ⟨rfl, hx⟩; have X1 : Hid (Ext W0 w1) := Lib.hid (Ext.trans ((Ext.refl _).alloc _) hx); clear hx)
      | refine haltst 31 ?_)
    refine .inl ?_
    refine st_l 31 (.tmp 6) (.tmp 20) (w.heap.size + 3) 0 31 _ #[.slice none 0 0, .slice none 0 0] _ rfl rfl (keepU R0.out X1.out) (by kernel_rfl) (by simp) rfl rfl ?_
    intro W9 hW9 o9
    simp only [Act.put]
    go_wp2
    exact bodyPost_ret (v := .tuple #[.agg #[.slice none 0 0, .slice none 0 0], .int .i64 r]) (res_ct 7 rfl rfl hW9 uScene (by kernel_rfl)) rfl (givesS_no HR.out (ext_off (X0.out.trans X1.out) o9 (fun b hb => by omega)))
end Go.Proofs.YtdfleocknaackaaGreat
