/- What is told of edges; whether a graph may be. -/
import Derived.Test.YtalncechmhmdcaaG1
import Derived.Shelf.Abstract
namespace Go.Proofs.Ytalncechmhmdcaa
open Go.RowKit

def Edge.val (e : Edge) : Value := .agg #[.int .i64 e.a, .int .i64 e.b]

/-- What a function value tells of an element. -/
structure Tells {α : Type} (val : α → Value) (w : World) (fv : Value) (p : α → Bool) : Prop where
  any : ∃ g lb, fv = .func (.func g) #[] lb ∧ (∀ args w, (callFunc g args).run Try.prog w = .ok (.enter g args) w) ∧ ∀ W x, Ext w W → Calls Try.prog g (#[val x] ++ lb) W fun e w' => e = .returned (.bool (p x)) ∧ Ext W w'
theorem Tells.ext {α : Type} {val : α → Value} {w w' : World} {fv : Value} {p : α → Bool} (h : Tells val w fv p) (e : Ext w w') : Tells val w' fv p := by
  obtain ⟨g, lb, rfl, h2, h3⟩ := h.any
  exact ⟨g, lb, rfl, h2, fun W x hW => h3 W x (e.trans hW)⟩
theorem Tells.sh {α : Type} {val : α → Value} {w : World} {fv : Value} {p : α → Bool} (h : Tells val w fv p) : ∃ g lb, fv = .func (.func g) #[] lb := by
  obtain ⟨g, lb, rfl, _⟩ := h.any
  exact ⟨g, lb, rfl⟩
theorem any_next {α : Type} {xs : List α} {k : Nat} (p : α → Bool) (h : k < xs.length) (d : α) : (xs.take (k + 1)).any p = ((xs.take k).any p || p (xs.getD k d)) := by
  rw [List.take_succ_eq_append_getElem h, List.any_append]
  simp [h]
theorem any_of_take {α : Type} {xs : List α} {k : Nat} {p : α → Bool} (h : (xs.take k).any p = true) : xs.any p = true := by
  rw [List.any_eq_true] at *
  obtain ⟨x, h1, h2⟩ := h
  exact ⟨x, List.mem_of_mem_take h1, h2⟩
theorem filter_next {α : Type} {xs : List α} {k : Nat} (p : α → Bool) (h : k < xs.length) (d : α) : (xs.take (k + 1)).filter p = (xs.take k).filter p ++ (if p (xs.getD k d) = true then [xs.getD k d] else []) := by
  rw [List.take_succ_eq_append_getElem h, List.filter_append]
  simp [h, List.filter_cons]
theorem take_next {α : Type} {xs : List α} {k : Nat} (h : k < xs.length) (d : α) : xs.take (k + 1) = xs.take k ++ [xs.getD k d] := by
  rw [List.take_succ_eq_append_getElem h]
  simp [h]
theorem take_eq_next {α : Type} {xs ys : List α} {k : Nat} (h1 : k < xs.length) (h2 : k < ys.length) (d : α) : xs.take (k + 1) = ys.take (k + 1) ↔ xs.take k = ys.take k ∧ xs.getD k d = ys.getD k d := by
  rw [take_next h1 d, take_next h2 d]
  constructor
  · intro h
    have := List.append_inj h (by simp; omega)
    exact ⟨this.1, by simpa using this.2⟩
  · rintro ⟨ha, hb⟩
    rw [ha, hb]
theorem cell_at {w : World} {cs : Array Value} {t : TypeId} {i : Nat} {u : Value} (W : World) (h : Ext (w.alloc (.cells cs t (0, 0))) W) (hu : cs[i]? = some u) : W.cell? ⟨w.heap.size, i, none⟩ = some u :=
  blk_cell (box1 (h.mono (by rw [size_alloc]; omega))) i hu

set_option maxHeartbeats 1000000 in
theorem indexFunc_e (w : World) (v fv : Value) (E : List Edge) (p : Edge → Bool) (h : Sl w v E) (ht : Tells Edge.val w fv p) :
    Calls Try.prog 47 #[v, fv] w fun e w' => ∃ r : Int, e = .returned (.int .i64 r) ∧ decide (0 ≤ r) = E.any p ∧ Ext w w' := by
  obtain ⟨g, lb, rfl, eg, hp⟩ := ht.any
  have HP := Lib.hid hp
  clear ht hp
  rcases Sl.edges h with ⟨rfl, ao, c, rfl⟩ | ⟨b, off, c, rfl, hc, hc63, hb, hpos, hcell⟩
  · go_enter Try.func47, Try.ntmps47
    go_wp2
    refine wp_loop_rounds 1 ?_
    rw [rounds_succ]
    go_wp2
    go_ret
    exact ⟨_, rfl, rfl, Ext.refl _⟩
  · have HC := Lib.hid hcell
    clear hcell h
    go_enter Try.func47, Try.ntmps47
    go_wp2
    go_loopw [8] (fun i wr => ∃ k : Nat, k ≤ E.length ∧ i = .int .i64 k ∧ Hid ((E.take k).any p = false) ∧ Hid (Ext w wr)) (fun i _ => E.length - (intOf i).toNat)
    case atStart => exact ⟨0, Nat.zero_le _, rfl, Lib.hid rfl, Lib.hid (Ext.refl _)⟩
    case round =>
      obtain ⟨k, hk, rfl, HT, HX⟩ := hrel
      by_cases hlt : k < E.length
      · 
        have hya := (HX.out.cell (p := ⟨b, off + k * 2, none⟩) hb).trans (HC.out k hlt).1
        have hyb := (HX.out.cell (p := ⟨b, off + k * 2 + 1, none⟩) hb).trans (HC.out k hlt).2
        obtain ⟨⟨ya, yb⟩, hy⟩ : ∃ y, y = E.getD k ⟨0, 0⟩ := ⟨_, rfl⟩
        rw [← hy] at hya hyb
        have HN : Hid ((E.take (k + 1)).any p = ((E.take k).any p || p ⟨ya, yb⟩)) := Lib.hid (by rw [any_next p hlt ⟨0, 0⟩, ← hy])
        clear hy
        have HH : Hid (∀ s, p ⟨ya, yb⟩ = s → Calls Try.prog g (#[.agg #[.int .i64 ya, .int .i64 yb]] ++ lb) wr fun e w' => e = .returned (.bool s) ∧ Ext wr w') := Lib.hid fun s hs => hs ▸ HP.out wr ⟨ya, yb⟩ HX.out
        obtain ⟨s, hs⟩ : ∃ s, p ⟨ya, yb⟩ = s := ⟨_, rfl⟩
        rw [hs] at HN
        have HS := Lib.hid hs
        clear hs
        cases s
        · go_wp2_with (go_at_fn g; refine (HH.out _ HS.out).mono ?_; rintro e w1 ⟨rfl, hx⟩; have HX1 := Lib.hid (HX.out.trans hx); clear hx)
          go_roundw
          case rel => exact ⟨k + 1, by omega, by go_num, Lib.hid (by rw [HN.out, HT.out]; rfl), HX1⟩
          case measure => simp [intOf]; omega
        · go_wp2_with (go_at_fn g; refine (HH.out _ HS.out).mono ?_; rintro e w1 ⟨rfl, hx⟩; have HX1 := Lib.hid (HX.out.trans hx); clear hx)
          go_ret
          exact ⟨_, rfl, by rw [any_of_take (HN.out.trans (by simp))]; simp, HX1.out⟩
      · have hkl : k = E.length := by omega
        go_wp2
        go_ret
        exact ⟨_, rfl, by have := HT.out; rw [hkl, List.take_length] at this; rw [this]; rfl, HX.out⟩

theorem containsFunc_e (w : World) (v fv : Value) (E : List Edge) (p : Edge → Bool) (h : Sl w v E) (ht : Tells Edge.val w fv p) (t : Bool) (hr : E.any p = t) :
    Calls Try.prog 37 #[v, fv] w fun e w' => e = .returned (.bool t) ∧ Ext w w' := by
  subst hr
  have HS := Lib.hid h
  have HT := Lib.hid ht
  clear h ht
  go_enter Try.func37, Try.ntmps37
  go_wp2_with (go_at_call 47; refine (indexFunc_e _ _ _ E p HS.out HT.out).mono ?_; rintro e w1 ⟨r, rfl, hr, hx⟩; have HR := Lib.hid hr; have HX := Lib.hid hx; clear hr hx)
  go_ret
  exact ⟨ret_bool HR.out, HX.out⟩

theorem order_val (w : World) (xa xb ya yb r : Int) (hr : ord ⟨xa, xb⟩ ⟨ya, yb⟩ = r) : Calls Try.prog 48 #[.agg #[.int .i64 xa, .int .i64 xb], .agg #[.int .i64 ya, .int .i64 yb]] w fun e w' => e = .returned (.int .i64 r) ∧ Ext w w' := hr ▸ order_any w xa xb ya yb

theorem rises_next {E : List Edge} {k : Nat} (h1 : 1 ≤ k) (h : k < E.length) : Rises (E.take (k + 1)) ↔ Rises (E.take k) ∧ ahead (E.getD (k - 1) ⟨0, 0⟩) (E.getD k ⟨0, 0⟩) = true := by
  rw [take_next h ⟨0, 0⟩]
  have ht : E.take k = E.take (k - 1) ++ [E.getD (k - 1) ⟨0, 0⟩] := by
    have := take_next (xs := E) (k := k - 1) (by omega) ⟨0, 0⟩
    rwa [show k - 1 + 1 = k from by omega] at this
  constructor
  · intro hr
    have := List.pairwise_append.1 hr
    exact ⟨this.1, this.2.2 _ (by rw [ht]; simp) _ (by simp)⟩
  · rintro ⟨hr, ha⟩
    refine List.pairwise_append.2 ⟨hr, by simp, fun x hx y hy => ?_⟩
    rw [List.mem_singleton] at hy
    subst hy
    rw [ht] at hx hr
    rcases List.mem_append.1 hx with hx | hx
    · exact ahead_trans ((List.pairwise_append.1 hr).2.2 x hx _ (by simp)) ha
    · rw [List.mem_singleton] at hx
      subst hx
      exact ha

theorem rises_one (E : List Edge) : Rises (E.take 1) := by
  match E with
  | [] => exact List.Pairwise.nil
  | x :: l => exact List.pairwise_singleton _ _

set_option maxHeartbeats 1000000 in
theorem rise_any (w : World) (v : Value) (E : List Edge) (h : Sl w v E) : Calls Try.prog 38 #[v] w fun e w' => e = .returned (.bool (rises E)) ∧ Ext w w' := by
  rcases h.edges with ⟨rfl, ao, c, rfl⟩ | ⟨b, off, c, rfl, hc, hc63, hb, hpos, hcell⟩
  · go_enter Try.func38, Try.ntmps38
    go_wp2
    refine wp_loop_rounds 1 ?_
    rw [rounds_succ]
    go_wp2
    go_ret
    exact ⟨rfl, Ext.refl _⟩
  · have hlen : E.length ≤ 9223372036854775807 := by omega
    have HC := Lib.hid hcell
    clear hcell h
    go_enter Try.func38, Try.ntmps38
    go_wp2
    go_loopw [3] (fun i wr => ∃ k : Nat, 1 ≤ k ∧ k ≤ E.length ∧ i = .int .i64 k ∧ Hid (Rises (E.take k)) ∧ Hid (Ext w wr)) (fun i _ => E.length - (intOf i).toNat)
    case atStart => exact ⟨1, Nat.le_refl _, hpos, rfl, Lib.hid (rises_one E), Lib.hid (Ext.refl _)⟩
    case round =>
      obtain ⟨k, hk1, hk, rfl, HT, HX⟩ := hrel
      by_cases hlt : k < E.length
      · have hk' : k - 1 < E.length := by omega
        obtain ⟨⟨ya, yb⟩, hy⟩ : ∃ y, y = E.getD k ⟨0, 0⟩ := ⟨_, rfl⟩
        obtain ⟨⟨za, zb⟩, hz⟩ : ∃ z, z = E.getD (k - 1) ⟨0, 0⟩ := ⟨_, rfl⟩
        have HK : Hid (∀ W, Ext wr W → (W.cell? ⟨b, off + k * 2, none⟩ = some (.int .i64 ya) ∧ W.cell? ⟨b, off + k * 2 + 1, none⟩ = some (.int .i64 yb)) ∧ W.cell? ⟨b, off + (k - 1) * 2, none⟩ = some (.int .i64 za) ∧ W.cell? ⟨b, off + (k - 1) * 2 + 1, none⟩ = some (.int .i64 zb)) := Lib.hid fun W hW => by
          have x := HX.out.trans hW
          have c1 := HC.out k hlt
          have c2 := HC.out (k - 1) hk'
          rw [← hy] at c1
          rw [← hz] at c2
          exact ⟨⟨(x.cell (p := ⟨b, off + k * 2, none⟩) hb).trans c1.1, (x.cell (p := ⟨b, off + k * 2 + 1, none⟩) hb).trans c1.2⟩, (x.cell (p := ⟨b, off + (k - 1) * 2, none⟩) hb).trans c2.1, (x.cell (p := ⟨b, off + (k - 1) * 2 + 1, none⟩) hb).trans c2.2⟩
        have HN : Hid (Rises (E.take (k + 1)) ↔ Rises (E.take k) ∧ ahead ⟨za, zb⟩ ⟨ya, yb⟩ = true) := Lib.hid (by rw [rises_next hk1 hlt, ← hy, ← hz])
        clear hy hz
        obtain ⟨r, hr⟩ : ∃ r, ord ⟨za, zb⟩ ⟨ya, yb⟩ = r := ⟨_, rfl⟩
        have HA : Hid (ahead ⟨za, zb⟩ ⟨ya, yb⟩ = decide (r < 0)) := Lib.hid (by rw [← hr, ord_lt])
        have HR := Lib.hid hr
        clear hr
        have hw1 : IntKind.i64.wrap ((k : Int) - 1) = ((k - 1 : Nat) : Int) := by rw [IntWalk.i64_in _ (by omega)]; omega
        go_wp2_with fail
        go_region_held3 (fun W => (W.cell? ⟨b, off + k * 2, none⟩ = some (.int .i64 ya) ∧ W.cell? ⟨b, off + k * 2 + 1, none⟩ = some (.int .i64 yb)) ∧ W.cell? ⟨b, off + (k - 1) * 2, none⟩ = some (.int .i64 za) ∧ W.cell? ⟨b, off + (k - 1) * 2 + 1, none⟩ = some (.int .i64 zb)) (exact HK.out _ ((by repeat (first | exact Ext.refl _ | assumption | refine Ext.alloc ?_ _ | refine Ext.drew ?_ | refine Ext.drewN ?_ _))))
          (first
          | (go_at_call 48; refine (order_val _ _ _ _ _ r HR.out).mono ?_; rintro e w1 ⟨rfl, hx⟩; have y1 : Ext wr w1 := Ext.trans (by exact (by repeat (first | exact Ext.refl _ | assumption | refine Ext.alloc ?_ _ | refine Ext.drew ?_ | refine Ext.drewN ?_ _))) hx; clear hx))
        all_goals
          by_cases hrl : 0 ≤ r
          · go_wp2
            go_ret
            refine ⟨ret_bool (decide_eq_false (fun e => ?_)).symm, HX.out.trans (by first | exact y1 | exact Ext.drew y1)⟩
            have := (HN.out.1 (List.Pairwise.sublist (List.take_sublist _ _) e)).2
            rw [HA.out] at this
            simp at this
            omega
          · go_wp2
            go_roundw
            case rel => exact ⟨k + 1, by omega, by omega, by go_num, Lib.hid (HN.out.2 ⟨HT.out, by rw [HA.out]; simp; omega⟩), Lib.hid (HX.out.trans (by first | exact y1 | exact Ext.drew y1))⟩
            case measure => simp [intOf]; omega
      · go_wp2
        go_ret
        have hkl : k = E.length := by omega
        have hn := HT.out
        rw [hkl, List.take_length] at hn
        exact ⟨ret_bool (rises_iff.2 hn).symm, HX.out⟩

end Go.Proofs.Ytalncechmhmdcaa
