/- Edges joined; a graph with an edge, and without one; whether two are the same. -/
import Derived.Test.YtanflbjbcncklaaG5
namespace Go.Proofs.Ytanflbjbcncklaa
open Go.RowKit

theorem growI_e (w : World) (m : Int) (h0 : 0 ≤ m) (h1 : m ≤ 2000000) : Calls Try.prog 41 #[.slice none 0 0, .int .i64 m] w (GivesOw w ([] : List Edge)) := by
  have := grow_e w m.toNat (by omega)
  rwa [show ((m.toNat : Nat) : Int) = m from by omega] at this

set_option maxHeartbeats 1000000 in
theorem concat_e (w : World) (B : Nat) (v0 v1 v2 : Value) (xs ys zs : List Edge) (hB : B < w.heap.size) (c0 : w.cell? ⟨B, 0, none⟩ = some v0) (c1 : w.cell? ⟨B, 1, none⟩ = some v1) (c2 : w.cell? ⟨B, 2, none⟩ = some v2)
    (h0 : Sl w v0 xs) (h1 : Sl w v1 ys) (h2 : Sl w v2 zs) (l0 : xs.length ≤ 1000) (l1 : ys.length ≤ 1000) (l2 : zs.length ≤ 1000) :
    Calls Try.prog 24 #[.slice (some ⟨B, 0, none⟩) 3 3] w (GivesOw w (xs ++ (ys ++ zs))) := by
  obtain ⟨a0, k0, rfl⟩ := h0.len
  obtain ⟨a1, k1, rfl⟩ := h1.len
  obtain ⟨a2, k2, rfl⟩ := h2.len
  have H0 := Lib.hid h0
  have H1 := Lib.hid h1
  have H2 := Lib.hid h2
  clear h0 h1 h2
  have HK : Hid (∀ V, Ext w V → V.cell? ⟨B, 0, none⟩ = some (.slice a0 xs.length k0) ∧ V.cell? ⟨B, 1, none⟩ = some (.slice a1 ys.length k1) ∧ V.cell? ⟨B, 2, none⟩ = some (.slice a2 zs.length k2)) := Lib.hid fun V x =>
    ⟨(x.cell (p := ⟨B, 0, none⟩) hB).trans c0, (x.cell (p := ⟨B, 1, none⟩) hB).trans c1, (x.cell (p := ⟨B, 2, none⟩) hB).trans c2⟩
  go_enter Try.func24, Try.ntmps24
  go_wp2
  refine wp_loop_rounds 4 ?_
  rw [rounds_succ]; go_wp2
  rw [rounds_succ]; go_wp2
  rw [rounds_succ]; go_wp2
  rw [rounds_succ]
  clear c0 c1 c2
  go_wp2_with (go_at_call 41; refine (growI_e _ _ (by omega) (by omega)).mono ?_; rintro e w1 ⟨v1, rfl, ho, x1⟩; obtain ⟨ao1, n1, q1, rfl⟩ := ho.sh; have O1 := Lib.hid ho; obtain ⟨c0, c1, c2⟩ := HK.out w1 x1; have hs1 : w.heap.size ≤ w1.heap.size := x1.size; clear ho)
  refine wp_loop_rounds 4 ?_
  rw [rounds_succ]
  go_wp2_with ((at_builtin; refine wpList_append_sl (α := Edge) rfl (.tmp 31) (.tmp 32) rfl w.heap.size _ [] rfl ?_ _ xs rfl ?_ ?_ ?_ ?_; exact O1.out; exact (H0.out.ext x1); (first | omega | (simp; omega)); omega; intro v2 W2 ho2 ha2; obtain ⟨ao2, n2, q2, rfl⟩ := ho2.sh; have O2 := Lib.hid ho2; have x2 : Ext w W2 := Below.trans x1 ha2.below; obtain ⟨d0, d1, d2⟩ := HK.out W2 x2; have hs2 : w.heap.size ≤ W2.heap.size := x2.size; clear ho2 ha2))
  rw [rounds_succ]
  go_wp2_with ((at_builtin; refine wpList_append_sl (α := Edge) rfl (.tmp 31) (.tmp 32) rfl w.heap.size _ ([] ++ xs) rfl ?_ _ ys rfl ?_ ?_ ?_ ?_; exact O2.out; exact (H1.out.ext x2); (first | omega | (simp; omega)); omega; intro v3 W3 ho3 ha3; obtain ⟨ao3, n3, q3, rfl⟩ := ho3.sh; have O3 := Lib.hid ho3; have x3 : Ext w W3 := Below.trans x2 ha3.below; obtain ⟨e0, e1, e2⟩ := HK.out W3 x3; have hs3 : w.heap.size ≤ W3.heap.size := x3.size; clear ho3 ha3))
  rw [rounds_succ]
  go_wp2_with ((at_builtin; refine wpList_append_sl (α := Edge) rfl (.tmp 31) (.tmp 32) rfl w.heap.size _ (([] ++ xs) ++ ys) rfl ?_ _ zs rfl ?_ ?_ ?_ ?_; exact O3.out; exact (H2.out.ext x3); (first | omega | (simp; omega)); omega; intro v4 W4 ho4 ha4; obtain ⟨ao4, n4, q4, rfl⟩ := ho4.sh; have O4 := Lib.hid ho4; have x4 : Ext w W4 := Below.trans x3 ha4.below; clear ho4 ha4))
  rw [rounds_succ]
  go_wp2
  go_ret
  exact ⟨_, rfl, by have := O4.out; simpa using this, x4⟩

theorem other_tells (w : World) (C : Nat) (xa xb : Int) (hC : C < w.heap.size) (h0 : w.cell? ⟨C, 0, none⟩ = some (.int .i64 xa)) (h1 : w.cell? ⟨C, 1, none⟩ = some (.int .i64 xb)) :
    Tells Edge.val w (.func (.func 32) #[] #[.pointer (some ⟨C, 0, none⟩)]) (fun e => e != ⟨xa, xb⟩) :=
  ⟨32, _, rfl, enters_of Try.func32 (by kernel_rfl) rfl, fun W ⟨a, b⟩ hW => by
    have k0 : W.cell? ⟨C, 0, none⟩ = some (.int .i64 xa) := (hW.cell (p := ⟨C, 0, none⟩) hC).trans h0
    have k1 : W.cell? ⟨C, 1, none⟩ = some (.int .i64 xb) := (hW.cell (p := ⟨C, 1, none⟩) hC).trans h1
    have hC' : C < W.heap.size := Nat.lt_of_lt_of_le hC hW.size
    clear h0 h1 hC hW
    change Calls Try.prog _ #[.agg #[.int .i64 a, .int .i64 b], .pointer (some ⟨C, 0, none⟩)] W _
    by_cases e1 : a = xa
    · by_cases e2 : b = xb
      · have g1 : (a != xa) = false := by simp [e1]
        have g2 : (b != xb) = false := by simp [e2]
        have h1 : (a == xa) = true := by simp [e1]
        have h2 : (b == xb) = true := by simp [e2]
        have E1 := Lib.hid e1
        have E2 := Lib.hid e2
        clear e1 e2
        go_enter Try.func32, Try.ntmps32
        go_wp2
        go_ret
        exact ⟨ret_bool (by rw [E1.out, E2.out]; simp), (by repeat (first | exact Ext.refl _ | assumption | refine Ext.alloc ?_ _ | refine Ext.drew ?_ | refine Ext.drewN ?_ _))⟩
      · have g1 : (a != xa) = false := by simp [e1]
        have g2 : (b != xb) = true := by simp [e2]
        have h1 : (a == xa) = true := by simp [e1]
        have h2 : (b == xb) = false := by simp [e2]
        have E1 := Lib.hid e1
        have E2 := Lib.hid e2
        clear e1 e2
        go_enter Try.func32, Try.ntmps32
        go_wp2
        go_ret
        exact ⟨ret_bool (by simp [E1.out, E2.out, bne]), (by repeat (first | exact Ext.refl _ | assumption | refine Ext.alloc ?_ _ | refine Ext.drew ?_ | refine Ext.drewN ?_ _))⟩
    · have g1 : (a != xa) = true := by simp [e1]
      have h1 : (a == xa) = false := by simp [e1]
      have E1 := Lib.hid e1
      clear e1
      go_enter Try.func32, Try.ntmps32
      go_wp2
      go_ret
      exact ⟨ret_bool (by simp [E1.out, bne]), (by repeat (first | exact Ext.refl _ | assumption | refine Ext.alloc ?_ _ | refine Ext.drew ?_ | refine Ext.drewN ?_ _))⟩⟩

end Go.Proofs.Ytanflbjbcncklaa
