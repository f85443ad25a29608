/- Texts of this seat. -/
import Derived.Test.YtfbambemjokmgaaGreatNAL
namespace Go.Proofs.YtfbambemjokmgaaGreat
open Go.RowKit
set_option maxHeartbeats 1000000 in
theorem those_e (w : World) (N : Int) (v fv : Value) (E : List Edge) (p : Edge → Bool) (h : Sl w v E) (ht : Tells Edge.val w fv p) (hlen : E.length ≤ 1000000) :
    Calls Tryz.prog 190 #[.agg #[.int .i64 N, v], fv] w (GivesOw w (E.filter p)) := by
  obtain ⟨g, lb, rfl, eg, hp⟩ := ht.any
  have HP := Lib.hid hp
  clear ht hp
  rcases h.edges with ⟨rfl, ao, c, rfl⟩ | ⟨b, off, c, rfl, hc, hc63, hb, hpos, hcell⟩
  · go_enter Tryz.func190, Tryz.ntmps190
    go_wp2
    refine wp_loop_rounds 1 ?_
    rw [rounds_succ]
    go_wp2
    go_ret
    exact ⟨_, rfl, Ow.nil _ _, (by repeat (first | exact Ext.refl _ | assumption | refine Ext.alloc ?_ _ | refine Ext.drew ?_ | refine Ext.drewN ?_ _))⟩
  · have HC := Lib.hid hcell
    clear hcell h
    go_enter Tryz.func190, Tryz.ntmps190
    go_wp2
    go_loopw [5, 11] (fun q i wr => ∃ k : Nat, k ≤ E.length ∧ i = .int .i64 k ∧ Hid (Ow wr w.heap.size q ((E.take k).filter p)) ∧ Hid (Ext w wr)) (fun _ i _ => E.length - (intOf i).toNat)
    case atStart => exact ⟨0, Nat.zero_le _, rfl, Lib.hid (by simpa using Ow.nil _ _), Lib.hid (by repeat (first | exact Ext.refl _ | assumption | refine Ext.alloc ?_ _ | refine Ext.drew ?_ | refine Ext.drewN ?_ _))⟩
    case round =>
      obtain ⟨k, hk, rfl, HO, HX⟩ := hrel
      by_cases hlt : k < E.length
      · have hya := (HX.out.cell (p := ⟨b, off + k * 2, none⟩) hb).trans (HC.out k hlt).1
        have hyb := (HX.out.cell (p := ⟨b, off + k * 2 + 1, none⟩) hb).trans (HC.out k hlt).2
        obtain ⟨⟨ya, yb⟩, hy⟩ : ∃ y, y = E.getD k ⟨0, 0⟩ := ⟨_, rfl⟩
        rw [← hy] at hya hyb
        have HN : Hid ((E.take (k + 1)).filter p = (E.take k).filter p ++ (if p ⟨ya, yb⟩ = true then [⟨ya, yb⟩] else [])) := Lib.hid (by rw [filter_next p hlt ⟨0, 0⟩, ← hy])
        clear hy
        obtain ⟨L, hL⟩ : ∃ L, L = (E.take k).filter p := ⟨_, rfl⟩
        have hLl : L.length ≤ 1000000 := by
          have := List.length_filter_le p (E.take k)
          rw [← hL] at this
          simp at this
          omega
        rw [← hL] at HO HN
        clear hL
        have hwr : w.heap.size ≤ wr.heap.size := HX.out.size
        obtain ⟨s, hs⟩ : ∃ s, p ⟨ya, yb⟩ = s := ⟨_, rfl⟩
        rw [hs] at HN
        have HH : Hid (∀ W, Ext w W → Calls Tryz.prog g (#[.agg #[.int .i64 ya, .int .i64 yb]] ++ lb) W fun e w' => e = .returned (.bool s) ∧ Ext W w') := Lib.hid fun W hW => hs ▸ HP.out W ⟨ya, yb⟩ hW
        clear hs
        cases s
        all_goals
          go_wp2_with (first
            | (go_at_fn g; refine (HH.out _ (HX.out.trans (by repeat (first | exact Ext.refl _ | assumption | refine Ext.alloc ?_ _ | refine Ext.drew ?_ | refine Ext.drewN ?_ _)))).mono ?_; rintro e w1 ⟨rfl, hx⟩; have z1 : Ext wr w1 := Ext.trans ((Ext.refl wr).alloc _) hx; have gA := box1 (hx.mono (by rw [size_alloc]; omega)); have g0 : w1.cell? ⟨wr.heap.size, 0, none⟩ = some (.int .i64 ya) := blk_cell gA 0 rfl; have g1 : w1.cell? ⟨wr.heap.size, 1, none⟩ = some (.int .i64 yb) := blk_cell gA 1 rfl; have y1 := Lib.hid (HX.out.trans z1); have O1 := Lib.hid (HO.out.ext z1); have hs1 : w.heap.size ≤ w1.heap.size := y1.out.size; clear hx gA)
            | (at_builtin; refine wpList_append_sl (α := Edge) rfl (.tmp 18) (.tmp 20) rfl w.heap.size _ L rfl ?_ (.slice (some ⟨_, 0, none⟩) 1 1) [Edge.mk ya yb] rfl ?_ ?_ ?_ ?_; exact (O1.out.alloc _); exact (Sl.litAt w1 _ rfl [Edge.mk ya yb] (by simp)); (first | omega | (simp; omega)); (simp; omega); intro v2 W2 ho2 ha2; have O2 := Lib.hid ho2; have y2 : Hid (Ext w W2) := Lib.hid (Below.trans (y1.out.alloc _) ha2.below); clear ho2 ha2))
          go_roundw
          case rel => exact ⟨k + 1, by omega, by go_num, Lib.hid (by rw [HN.out]; first | exact O2.out | simpa using O1.out), by first | exact y2 | exact y1⟩
          case measure => simp [intOf]; omega
      · have hkl : k = E.length := by omega
        have ho := HO.out
        rw [hkl, List.take_length] at ho
        have HO' := Lib.hid ho
        clear ho HO hkl
        go_wp2
        go_ret
        exact ⟨_, rfl, HO'.out, HX.out⟩
end Go.Proofs.YtfbambemjokmgaaGreat
namespace Go.Proofs.YtfbambemjokmgaaGreat
open Go.RowKit
theorem refAhead_val (w : World) (xa xb ya yb : Int) (r : Bool) (hr : ahead ⟨xa, xb⟩ ⟨ya, yb⟩ = r) : Calls Tryz.prog 85 #[.agg #[.int .i64 xa, .int .i64 xb], .agg #[.int .i64 ya, .int .i64 yb]] w fun e w' => e = .returned (.bool r) ∧ Ext w w' := by
  have HR := Lib.hid hr
  clear hr
  by_cases h1 : xa < ya
  · go_enter Tryz.func85, Tryz.ntmps85
    go_wp2
    go_ret
    exact ⟨ret_bool (by rw [← HR.out]; simp [ahead, h1]), (by repeat (first | exact Ext.refl _ | assumption | refine Ext.alloc ?_ _ | refine Ext.drew ?_ | refine Ext.drewN ?_ _))⟩
  by_cases h2 : xa = ya
  · have e2 : (xa == ya) = true := by simp [h2]
    have H2 := Lib.hid h2
    clear h2
    by_cases h3 : xb < yb
    all_goals
      go_enter Tryz.func85, Tryz.ntmps85
      go_wp2
      go_ret
      exact ⟨ret_bool (by rw [← HR.out, H2.out]; simp [ahead]; try omega), (by repeat (first | exact Ext.refl _ | assumption | refine Ext.alloc ?_ _ | refine Ext.drew ?_ | refine Ext.drewN ?_ _))⟩
  · have e2 : (xa == ya) = false := by simp [h2]
    have H2 := Lib.hid h2
    clear h2
    go_enter Tryz.func85, Tryz.ntmps85
    go_wp2
    go_ret
    exact ⟨ret_bool (by rw [← HR.out]; simp [ahead, H2.out]; try omega), (by repeat (first | exact Ext.refl _ | assumption | refine Ext.alloc ?_ _ | refine Ext.drew ?_ | refine Ext.drewN ?_ _))⟩
theorem btw_is (e : Edge) (a b : Int) : (e = btw a b) ↔ (e.a = a ∧ e.b = b ∧ a ≤ b) ∨ (e.a = b ∧ e.b = a ∧ b < a) := by
  obtain ⟨x, y⟩ := e
  simp only [btw, Edge.mk.injEq]
  omega
set_option maxHeartbeats 2000000 in
theorem refHas_val (w : World) (N : Int) (v : Value) (E : List Edge) (a b : Int) (h : Sl w v E) (r : Bool) (hr : decide (btw a b ∈ E) = r) :
    Calls Tryz.prog 42 #[.agg #[.int .i64 N, v], .int .i64 a, .int .i64 b] w fun e w' => e = .returned (.bool r) ∧ Ext w w' := by
  rw [← has_iff] at hr
  have hp : ∀ e, (ord e (btw a b) == 0) = decide (e = btw a b) := fun e => by rw [← ord_zero]; rfl
  simp only [hp] at hr
  clear hp
  subst hr
  rcases h.edges with ⟨rfl, ao, c, rfl⟩ | ⟨q, off, c, rfl, hc, hc63, hb, hpos, hcell⟩
  · go_enter Tryz.func42, Tryz.ntmps42
    go_wp2
    refine wp_loop_rounds 1 ?_
    rw [rounds_succ]
    go_wp2
    go_ret
    exact ⟨rfl, (by repeat (first | exact Ext.refl _ | assumption | refine Ext.alloc ?_ _ | refine Ext.drew ?_ | refine Ext.drewN ?_ _))⟩
  · have HC := Lib.hid hcell
    clear hcell h
    have HK : Hid (∀ V, Ext (w.alloc (.cells #[.int .i64 N, .slice (some ⟨q, off, none⟩) E.length c] 53)) V → V.cell? ⟨w.heap.size, 1, none⟩ = some (.slice (some ⟨q, off, none⟩) E.length c)) := Lib.hid fun V hV => cell_at V hV rfl
    go_enter Tryz.func42, Tryz.ntmps42
    go_wp2
    go_loopw [7] (fun i wr => ∃ k : Nat, k ≤ E.length ∧ i = .int .i64 k ∧ Hid ((E.take k).any (fun e => decide (e = btw a b)) = false) ∧ Hid (Ext (w.alloc (.cells #[.int .i64 N, .slice (some ⟨q, off, none⟩) E.length c] 53)) wr)) (fun i _ => E.length - (intOf i).toNat)
    case atStart => exact ⟨0, Nat.zero_le _, rfl, Lib.hid rfl, Lib.hid (Ext.refl _)⟩
    case round =>
      obtain ⟨k, hk, rfl, HT, HX⟩ := hrel
      have g1 := HK.out wr HX.out
      by_cases hlt : k < E.length
      · have X := Ext.trans ((Ext.refl w).alloc _) HX.out
        have hya := (X.cell (p := ⟨q, off + k * 2, none⟩) hb).trans (HC.out k hlt).1
        have hyb := (X.cell (p := ⟨q, off + k * 2 + 1, none⟩) hb).trans (HC.out k hlt).2
        obtain ⟨⟨ya, yb⟩, hy⟩ : ∃ y, y = E.getD k ⟨0, 0⟩ := ⟨_, rfl⟩
        rw [← hy] at hya hyb
        have HN : Hid ((E.take (k + 1)).any (fun e => decide (e = btw a b)) = ((E.take k).any (fun e => decide (e = btw a b)) || decide ((⟨ya, yb⟩ : Edge) = btw a b))) := Lib.hid (by rw [any_next _ hlt ⟨0, 0⟩, ← hy])
        clear hy X
        have HB := Lib.hid (btw_is ⟨ya, yb⟩ a b)
        by_cases h0 : (⟨ya, yb⟩ : Edge) = btw a b
        · have H0 := Lib.hid h0
          rw [btw_is] at h0
          rcases h0 with ⟨h1, h2, h3⟩ | ⟨h1, h2, h3⟩
          · have e1 : (ya == a) = true := by simpa using h1
            have e2 : (yb == b) = true := by simpa using h2
            clear h1 h2
            go_wp2
            go_ret
            exact ⟨ret_bool (by rw [any_of_take (HN.out.trans (by rw [decide_eq_true H0.out]; simp))]), Ext.trans ((Ext.refl w).alloc _) (HX.out.alloc _)⟩
          · have h1 : ya = b := h1
            have h2 : yb = a := h2
            have e1 : (ya == a) = false := by simp; omega
            have e2 : (yb == b) = false := by simp; omega
            have e3 : (ya == b) = true := by simpa using h1
            have e4 : (yb == a) = true := by simpa using h2
            clear h1 h2
            go_wp2
            go_ret
            exact ⟨ret_bool (by rw [any_of_take (HN.out.trans (by rw [decide_eq_true H0.out]; simp))]), Ext.trans ((Ext.refl w).alloc _) (HX.out.alloc _)⟩
        · have H0 := Lib.hid h0
          have hq : ¬ ((ya = a ∧ yb = b ∧ a ≤ b) ∨ (ya = b ∧ yb = a ∧ b < a)) := fun e => h0 ((btw_is ⟨ya, yb⟩ a b).2 e)
          clear h0
          rcases (show ya = a ∨ ya ≠ a by omega) with h1 | h1
          all_goals rcases (show yb = b ∨ yb ≠ b by omega) with h2 | h2
          all_goals rcases (show ya = b ∨ ya ≠ b by omega) with h3 | h3
          all_goals rcases (show yb = a ∨ yb ≠ a by omega) with h4 | h4
          all_goals rcases (show a ≤ b ∨ b < a by omega) with h5 | h5
          all_goals try (exfalso; omega)
          all_goals
            first | (have e1 : (ya == a) = true := by simp [h1]) | (have e1 : (ya == a) = false := by simp [h1])
            first | (have e2 : (yb == b) = true := by simp [h2]) | (have e2 : (yb == b) = false := by simp [h2])
            first | (have e3 : (ya == b) = true := by simp [h3]) | (have e3 : (ya == b) = false := by simp [h3])
            first | (have e4 : (yb == a) = true := by simp [h4]) | (have e4 : (yb == a) = false := by simp [h4])
            have e5 : ¬ (a ≤ b ∧ b < a) := by omega
            clear h1 h2 h3 h4 hq
            go_wp2
            go_roundw
            case rel => exact ⟨k + 1, by omega, by go_num, Lib.hid (by rw [HN.out, HT.out, decide_eq_false H0.out]; rfl), Lib.hid (HX.out.alloc _)⟩
            case measure => simp [intOf]; omega
      · have hkl : k = E.length := by omega
        go_wp2
        go_ret
        exact ⟨ret_bool (by have := HT.out; rw [hkl, List.take_length] at this; rw [this]), Ext.trans ((Ext.refl w).alloc _) HX.out⟩
end Go.Proofs.YtfbambemjokmgaaGreat
namespace Go.Proofs.YtfbambemjokmgaaGreat
open Go.RowKit
theorem okG_not {N : Int} {E : List Edge} (h : ¬ OkG N E) : okG N E = false := by
  cases e : okG N E with
  | false => rfl
  | true => exact absurd (okG_iff.1 e) h
theorem all_next {α : Type} {xs : List α} {k : Nat} (p : α → Bool) (h : k < xs.length) (d : α) : (xs.take (k + 1)).all p = ((xs.take k).all p && p (xs.getD k d)) := by
  rw [take_next h d, List.all_append]
  simp
theorem getD_mem {α : Type} {xs : List α} {k : Nat} (h : k < xs.length) (d : α) : xs.getD k d ∈ xs := by
  rw [List.getD_eq_getElem?_getD, List.getElem?_eq_getElem h]
  simp
set_option maxHeartbeats 2000000 in
theorem refCheck_val (w : World) (N : Int) (v : Value) (E : List Edge) (h : Sl w v E) (r : Bool) (hr : okG N E = r) :
    Calls Tryz.prog 45 #[.agg #[.int .i64 N, v]] w fun e w' => e = .returned (.bool r) ∧ Ext w w' := by
  have HR := Lib.hid hr
  clear hr
  by_cases h1 : N < 0
  · obtain ⟨ao, c, rfl⟩ := h.len
    clear h
    go_enter Tryz.func45, Tryz.ntmps45
    go_wp2
    go_ret
    exact ⟨ret_bool (by rw [← HR.out, okG_not (fun o => by have := o.n0; omega)]), (by repeat (first | exact Ext.refl _ | assumption | refine Ext.alloc ?_ _ | refine Ext.drew ?_ | refine Ext.drewN ?_ _))⟩
  by_cases h2 : 64 < N
  · obtain ⟨ao, c, rfl⟩ := h.len
    clear h
    go_enter Tryz.func45, Tryz.ntmps45
    go_wp2
    go_ret
    exact ⟨ret_bool (by rw [← HR.out, okG_not (fun o => by have := o.n64; omega)]), (by repeat (first | exact Ext.refl _ | assumption | refine Ext.alloc ?_ _ | refine Ext.drew ?_ | refine Ext.drewN ?_ _))⟩
  by_cases h3 : 400 < E.length
  · obtain ⟨ao, c, rfl⟩ := h.len
    clear h
    go_enter Tryz.func45, Tryz.ntmps45
    go_wp2
    go_ret
    exact ⟨ret_bool (by rw [← HR.out, okG_not (fun o => by have := o.few; omega)]), (by repeat (first | exact Ext.refl _ | assumption | refine Ext.alloc ?_ _ | refine Ext.drew ?_ | refine Ext.drewN ?_ _))⟩
  rcases h.edges with ⟨rfl, ao, c, rfl⟩ | ⟨q, off, c, rfl, hc, hc63, hb, hpos, hcell⟩
  · clear h
    go_enter Tryz.func45, Tryz.ntmps45
    go_wp2
    refine wp_loop_rounds 1 ?_
    rw [rounds_succ]
    go_wp2
    go_ret
    exact ⟨ret_bool (by rw [← HR.out, okG_iff.2 ⟨by omega, by omega, by simp, by simp, List.Pairwise.nil⟩]), (by repeat (first | exact Ext.refl _ | assumption | refine Ext.alloc ?_ _ | refine Ext.drew ?_ | refine Ext.drewN ?_ _))⟩
  · have HC := Lib.hid hcell
    have hlen : E.length ≤ 400 := by omega
    clear hcell h h3
    have HK : Hid (∀ V, Ext (w.alloc (.cells #[.int .i64 N, .slice (some ⟨q, off, none⟩) E.length c] 53)) V → V.cell? ⟨w.heap.size, 0, none⟩ = some (.int .i64 N) ∧ V.cell? ⟨w.heap.size, 1, none⟩ = some (.slice (some ⟨q, off, none⟩) E.length c)) := Lib.hid fun V hV => ⟨cell_at V hV rfl, cell_at V hV rfl⟩
    have HW := Lib.hid (Int.not_lt.1 h1)
    have HW2 := Lib.hid (Int.not_lt.1 h2)
    go_enter Tryz.func45, Tryz.ntmps45
    go_wp2
    go_loopw [3] (fun i wr => ∃ k : Nat, k ≤ E.length ∧ i = .int .i64 k ∧ Hid ((E.take k).all (okE N) = true ∧ Rises (E.take k)) ∧ Hid (Ext (w.alloc (.cells #[.int .i64 N, .slice (some ⟨q, off, none⟩) E.length c] 53)) wr)) (fun i _ => E.length - (intOf i).toNat)
    case atStart => exact ⟨0, Nat.zero_le _, rfl, Lib.hid ⟨rfl, List.Pairwise.nil⟩, Lib.hid (Ext.refl _)⟩
    case round =>
      obtain ⟨k, hk, rfl, HT, HX⟩ := hrel
      have g1 := (HK.out wr HX.out).2
      have g0 := (HK.out wr HX.out).1
      by_cases hlt : k < E.length
      · obtain ⟨⟨ya, yb⟩, hy⟩ : ∃ y, y = E.getD k ⟨0, 0⟩ := ⟨_, rfl⟩
        have HY := Lib.hid hy
        have X := Ext.trans ((Ext.refl w).alloc _) HX.out
        have hya := (X.cell (p := ⟨q, off + k * 2, none⟩) hb).trans (HC.out k hlt).1
        have hyb := (X.cell (p := ⟨q, off + k * 2 + 1, none⟩) hb).trans (HC.out k hlt).2
        rw [← hy] at hya hyb
        clear hy
        have HE : Hid (∀ V, Ext (wr.alloc (.cells #[.int .i64 ya, .int .i64 yb] 30)) V → (V.cell? ⟨w.heap.size, 0, none⟩ = some (.int .i64 N) ∧ V.cell? ⟨w.heap.size, 1, none⟩ = some (.slice (some ⟨q, off, none⟩) E.length c)) ∧ V.cell? ⟨wr.heap.size, 0, none⟩ = some (.int .i64 ya) ∧ V.cell? ⟨wr.heap.size, 1, none⟩ = some (.int .i64 yb)) :=
          Lib.hid fun V hV => ⟨HK.out V (HX.out.trans (((Ext.refl wr).alloc _).trans hV)), cell_at V hV rfl, cell_at V hV rfl⟩
        by_cases hok : okE N ⟨ya, yb⟩ = true
        · have hok' : 0 ≤ ya ∧ ya < yb ∧ yb < N := by simpa [okE, and_assoc] using hok
          have o1 : ¬ ya < 0 := by omega
          have o2 : ¬ yb ≤ ya := by omega
          have o3 : ¬ N ≤ yb := by omega
          clear hok'
          have HO := Lib.hid hok
          clear hok
          rcases Nat.eq_zero_or_pos k with rfl | hk0
          · have hya0 : wr.cell? ⟨q, off, none⟩ = some (.int .i64 ya) := by simpa using hya
            have hyb0 : wr.cell? ⟨q, off + 1, none⟩ = some (.int .i64 yb) := by simpa using hyb
            clear hya hyb
            go_wp2
            have b1 : decide (ya < 0) = false := by simp; omega
            have b2 : decide (yb ≤ ya) = false := by simp; omega
            have b3 : decide (N ≤ yb) = false := by simp; omega
            obtain ⟨⟨k0, k1⟩, _, _⟩ := HE.out _ (Ext.refl _)
            go_quiet (fail)
            go_wp2
            go_roundw
            case rel => exact ⟨1, by omega, by go_num, Lib.hid ⟨by rw [show (1 : Nat) = 0 + 1 from rfl, all_next _ hlt ⟨0, 0⟩, ← HY.out, HO.out]; rfl, rises_one E⟩, Lib.hid (HX.out.trans (by repeat (first | exact Ext.refl _ | assumption | refine Ext.alloc ?_ _ | refine Ext.drew ?_ | refine Ext.drewN ?_ _)))⟩
            case measure => simp [intOf]; omega
          · have hk' : k - 1 < E.length := by omega
            obtain ⟨⟨za, zb⟩, hz⟩ : ∃ z, z = E.getD (k - 1) ⟨0, 0⟩ := ⟨_, rfl⟩
            have hza := (X.cell (p := ⟨q, off + (k - 1) * 2, none⟩) hb).trans (HC.out (k - 1) hk').1
            have hzb := (X.cell (p := ⟨q, off + (k - 1) * 2 + 1, none⟩) hb).trans (HC.out (k - 1) hk').2
            rw [← hz] at hza hzb
            have HZ := Lib.hid hz
            clear hz
            have hq : q < wr.heap.size := Nat.lt_of_lt_of_le hb X.size
            have HF : Hid (∀ V, Ext (wr.alloc (.cells #[.int .i64 ya, .int .i64 yb] 30)) V → ((V.cell? ⟨w.heap.size, 0, none⟩ = some (.int .i64 N) ∧ V.cell? ⟨w.heap.size, 1, none⟩ = some (.slice (some ⟨q, off, none⟩) E.length c)) ∧ V.cell? ⟨wr.heap.size, 0, none⟩ = some (.int .i64 ya) ∧ V.cell? ⟨wr.heap.size, 1, none⟩ = some (.int .i64 yb)) ∧ V.cell? ⟨q, off + (k - 1) * 2, none⟩ = some (.int .i64 za) ∧ V.cell? ⟨q, off + (k - 1) * 2 + 1, none⟩ = some (.int .i64 zb)) :=
              Lib.hid fun V hV => ⟨HE.out V hV, (((Ext.refl wr).alloc _).trans hV |>.cell (p := ⟨q, off + (k - 1) * 2, none⟩) hq).trans hza, (((Ext.refl wr).alloc _).trans hV |>.cell (p := ⟨q, off + (k - 1) * 2 + 1, none⟩) hq).trans hzb⟩
            have HN : Hid (Rises (E.take (k + 1)) ↔ Rises (E.take k) ∧ ahead ⟨za, zb⟩ ⟨ya, yb⟩ = true) := Lib.hid (by rw [rises_next hk0 hlt, ← HY.out, ← HZ.out])
            obtain ⟨s, hs⟩ : ∃ s, ahead ⟨za, zb⟩ ⟨ya, yb⟩ = s := ⟨_, rfl⟩
            have HS := Lib.hid hs
            clear hs X hza hzb
            have hw1 : IntKind.i64.wrap ((k : Int) - 1) = ((k - 1 : Nat) : Int) := by rw [IntWalk.i64_in _ (by omega)]; omega
            cases s
            all_goals
              go_wp2
              have b1 : decide (ya < 0) = false := by simp; omega
              have b2 : decide (yb ≤ ya) = false := by simp; omega
              have b3 : decide (N ≤ yb) = false := by simp; omega
              have b4 : decide (0 < (k : Int)) = true := by simp; omega
              go_region_held3 (fun V => ((V.cell? ⟨w.heap.size, 0, none⟩ = some (.int .i64 N) ∧ V.cell? ⟨w.heap.size, 1, none⟩ = some (.slice (some ⟨q, off, none⟩) E.length c)) ∧ V.cell? ⟨wr.heap.size, 0, none⟩ = some (.int .i64 ya) ∧ V.cell? ⟨wr.heap.size, 1, none⟩ = some (.int .i64 yb)) ∧ V.cell? ⟨q, off + (k - 1) * 2, none⟩ = some (.int .i64 za) ∧ V.cell? ⟨q, off + (k - 1) * 2 + 1, none⟩ = some (.int .i64 zb)) (exact HF.out _ ((by repeat (first | exact Ext.refl _ | assumption | refine Ext.alloc ?_ _ | refine Ext.drew ?_ | refine Ext.drewN ?_ _))))
                (first
                | (go_at_call 85; refine (refAhead_val _ _ _ _ _ _ HS.out).mono ?_; rintro e w1 ⟨rfl, hx⟩; have y1 : Ext (wr.alloc (.cells #[.int .i64 ya, .int .i64 yb] 30)) w1 := Ext.trans (by exact (by repeat (first | exact Ext.refl _ | assumption | refine Ext.alloc ?_ _ | refine Ext.drew ?_ | refine Ext.drewN ?_ _))) hx; clear hx))
              go_wp2
            · go_ret
              refine ⟨ret_bool ?_, Ext.trans (Ext.trans ((Ext.refl w).alloc _) HX.out) (Ext.trans ((Ext.refl wr).alloc _) (by first | exact y1 | exact Ext.drew y1))⟩
              rw [← HR.out, okG_not (fun o => ?_)]
              have := (HN.out.1 (List.Pairwise.sublist (List.take_sublist _ _) o.rise)).2
              rw [HS.out] at this
              cases this
            · go_roundw
              case rel => exact ⟨k + 1, by omega, by go_num, Lib.hid ⟨by rw [all_next _ hlt ⟨0, 0⟩, ← HY.out, HO.out, HT.out.1]; rfl, HN.out.2 ⟨HT.out.2, HS.out⟩⟩, Lib.hid (HX.out.trans (Ext.trans ((Ext.refl wr).alloc _) (by first | exact y1 | exact Ext.drew y1)))⟩
              case measure => simp [intOf]; omega
        · have HB : Hid (okG N E = false) := Lib.hid (okG_not fun o => hok (by have := o.each _ (getD_mem hlt ⟨0, 0⟩); rw [← HY.out] at this; have t1 : 0 ≤ ya := this.1; have t2 : ya < yb := this.2.1; have t3 : yb < N := this.2.2; simp [okE, t1, t2, t3]))
          have hbad : ya < 0 ∨ (¬ ya < 0 ∧ yb ≤ ya) ∨ (¬ ya < 0 ∧ ¬ yb ≤ ya ∧ N ≤ yb) := by rw [Bool.not_eq_true] at hok; simp only [okE, Bool.and_eq_false_iff, decide_eq_false_iff_not] at hok; omega
          clear hok X
          rcases hbad with o1 | ⟨o1, o2⟩ | ⟨o1, o2, o3⟩
          all_goals
            go_wp2
            first | (have b1 : decide (ya < 0) = true := by simp; omega) | (have b1 : decide (ya < 0) = false := by simp; omega)
            try first | (have b2 : decide (yb ≤ ya) = true := by simp; omega) | (have b2 : decide (yb ≤ ya) = false := by simp; omega)
            try first | (have b3 : decide (N ≤ yb) = true := by simp; omega) | (have b3 : decide (N ≤ yb) = false := by simp; omega)
            obtain ⟨⟨k0, k1⟩, _, _⟩ := HE.out _ (Ext.refl _)
            go_quiet (fail)
            go_wp2
            go_ret
            exact ⟨ret_bool (by rw [← HR.out, HB.out]), Ext.trans (Ext.trans ((Ext.refl w).alloc _) HX.out) (by repeat (first | exact Ext.refl _ | assumption | refine Ext.alloc ?_ _ | refine Ext.drew ?_ | refine Ext.drewN ?_ _))⟩
      · have hkl : k = E.length := by omega
        go_wp2
        go_ret
        refine ⟨ret_bool ?_, Ext.trans ((Ext.refl w).alloc _) HX.out⟩
        have := HT.out
        rw [hkl, List.take_length, List.all_eq_true] at this
        rw [← HR.out, okG_iff.2 ⟨HW.out, HW2.out, hlen, fun e he => ?_, this.2⟩]
        have := this.1 e he
        simp [okE] at this
        omega
end Go.Proofs.YtfbambemjokmgaaGreat
namespace Go.Proofs.YtfbambemjokmgaaGreat
open Go.RowKit
theorem grownBy_same (w : World) (row : Option Nat) : w.grownBy w row := ⟨rfl, rfl, rfl, Nat.le_refl _, fun _ _ _ => rfl⟩
theorem ow_i {w : World} {B : Nat} {v : Value} {xs : List Int} : Ow w B v xs ↔ w.ownsRow B 3 1 v xs.length (xs.map (Value.int .i64)) := by
  unfold Ow
  rw [cells_i]
  rfl
theorem sort_ow (w : World) (B : Nat) (v : Value) (xs : List Int) (h : Ow w B v xs) (hl : xs.length ≤ 1000000) :
    Calls Tryz.prog 181 #[v] w fun e w' => e = .returned (.tuple #[]) ∧ Hid (Ow w' B v (xs.mergeSort fun x y => decide (x ≤ y))) ∧ Hid (w.grownBy w' v.ownBlock) := by
  by_cases hx : xs = []
  · subst hx
    obtain ⟨ao, c, rfl⟩ := h.sl.len
    refine (Tryz.slices_Sort_int_none ao c w).mono ?_
    rintro e w' ⟨rfl, rfl⟩
    exact ⟨rfl, Lib.hid (by simpa using h), Lib.hid (grownBy_same _ _)⟩
  · rcases (ow_i.1 h).2 with ⟨_, h0⟩ | ⟨g, cap, cur, rfl, hg, hh, h1, h2, h3, h4⟩
    · exact absurd (List.eq_nil_of_length_eq_zero h0) hx
    · have hlm : (xs.mergeSort fun x y => decide (x ≤ y)).length = xs.length := by simp
      refine (Tryz.slices_Sort_int g 0 cap xs w (holds_of_blockI hh (by simpa using h4)) (Array.getElem?_eq_some_iff.1 hh).1 (by omega)).mono ?_
      rintro e w' ⟨rfl, n, os, rfl⟩
      refine ⟨rfl, ?_, grownBy_sortedI _⟩
      have := ownsRow_sortedI (w := w) (n := n) (os := os) hlm hg hh h1 h2 h3
      refine ow_i.2 ?_
      rw [hlm]
      exact this
theorem compact_ow (w : World) (B : Nat) (v : Value) (xs : List Int) (h : Ow w B v xs) (hl : xs.length ≤ 1000000) :
    Calls Tryz.prog 182 #[v] w fun e w' => ∃ v', e = .returned v' ∧ Hid (Ow w' B v' (Lib.compact xs)) ∧ Hid (w.grownBy w' v.ownBlock) := by
  by_cases hx : xs = []
  · subst hx
    obtain ⟨ao, c, rfl⟩ := h.sl.len
    refine (Tryz.slices_Compact_int_empty ao c w).mono ?_
    rintro e w' ⟨rfl, rfl⟩
    exact ⟨_, rfl, h, grownBy_same _ _⟩
  · rcases (ow_i.1 h).2 with ⟨_, h0⟩ | ⟨g, cap, cur, rfl, hg, hh, h1, h2, h3, h4⟩
    · exact absurd (List.eq_nil_of_length_eq_zero h0) hx
    · have hcl := compact_length xs
      refine (Tryz.slices_Compact_int g 0 cap xs w (holds_of_blockI hh (by simpa using h4)) (by omega) h1).mono ?_
      rintro e w' ⟨rfl, q, rfl⟩
      have hsz : (Lib.compact xs ++ List.replicate (xs.length - (Lib.compact xs).length) 0).length = xs.length := by simp; omega
      have e0 : ∀ d : Array Int, Sort.putRow (Value.int .i64) (Sort.ahead w q) g 0 d = Sort.grow (Sort.putRow (Value.int .i64) (Sort.ahead w q) g 0 d) #[] := fun d => by simp
      refine ⟨_, rfl, ?_, by rw [e0]; exact grownBy_sortedI _⟩
      rw [e0]
      refine ow_i.2 ⟨by simp, .inr ⟨g, cap, _, rfl, hg, heap_sortedI _ hh, by omega, h2, by simp [Sort.putCells, h3], ?_⟩⟩
      have ht := take_putCellsI cur (Lib.compact xs ++ List.replicate (xs.length - (Lib.compact xs).length) 0) (by rw [hsz]; omega)
      rw [Nat.mul_one]
      have := congrArg (List.take (Lib.compact xs).length) ht
      rw [List.take_take, Nat.min_eq_left (by rw [hsz]; omega)] at this
      rw [this, ← List.map_take, List.take_left]
def ival (x : Int) : Value := .int .i64 x
theorem tells_other (w : World) (B : Nat) (x : Int) (hB : B < w.heap.size) (hc : w.cell? ⟨B, 0, none⟩ = some (.int .i64 x)) : Tells ival w (.func (.func 206) #[] #[.pointer (some ⟨B, 0, none⟩)]) (fun y => y != x) :=
  ⟨206, _, rfl, enters_of Tryz.func206 (by kernel_rfl) rfl, fun W y hb => by
    have hc' : W.cell? ⟨B, 0, none⟩ = some (.int .i64 x) := (hb.cell (p := ⟨B, 0, none⟩) hB).trans hc
    clear hc
    change Calls Tryz.prog _ #[.int .i64 y, .pointer (some ⟨B, 0, none⟩)] W _
    go_enter Tryz.func206, Tryz.ntmps206
    go_wp2
    go_ret
    exact ⟨rfl, Ext.refl _⟩⟩
set_option maxHeartbeats 1000000 in
theorem those_i (w : World) (v fv : Value) (xs : List Int) (p : Int → Bool) (h : Sl w v xs) (ht : Tells ival w fv p) (hlen : xs.length ≤ 1000000) :
    Calls Tryz.prog 152 #[v, fv] w (GivesOw w (norm (xs.filter p))) := by
  obtain ⟨g, lb, rfl, eg, hp⟩ := ht.any
  have HP := Lib.hid hp
  clear ht hp
  rcases h.ints with ⟨rfl, ao, c, rfl⟩ | ⟨b, off, c, rfl, hc, hc63, hb, hpos, hcell⟩
  · go_enter Tryz.func152, Tryz.ntmps152
    go_wp2
    refine wp_loop_rounds 1 ?_
    rw [rounds_succ]
    go_wp2_with (first
      | (go_at_call 181; refine (sort_ow _ w.heap.size _ [] (Ow.nil _ _) (by simp)).mono ?_; rintro e w1 ⟨rfl, HO1, HG1⟩)
      | (go_at_call 182; refine (compact_ow _ w.heap.size _ _ HO1.out (by simp)).mono ?_; rintro e w2 ⟨v2, rfl, HO2, HG2⟩))
    go_ret
    exact ⟨_, rfl, HO2.out, ((Below.refl _ w).grown HG1.out (Nat.le_refl _) (by simp [Value.ownBlock])).trans ((Below.refl _ w1).grown HG2.out HG1.out.size (by simp [Value.ownBlock]))⟩
  · have HC := Lib.hid hcell
    clear hcell h
    go_enter Tryz.func152, Tryz.ntmps152
    go_wp2
    go_loopw [5, 10] (fun q i wr => ∃ k : Nat, k ≤ xs.length ∧ i = .int .i64 k ∧ Hid (Ow wr w.heap.size q ((xs.take k).filter p)) ∧ Hid (Ext w wr)) (fun _ i _ => xs.length - (intOf i).toNat)
    case atStart => exact ⟨0, Nat.zero_le _, rfl, Lib.hid (by simpa using Ow.nil _ _), Lib.hid (Ext.refl _)⟩
    case round =>
      obtain ⟨k, hk, rfl, HO, HX⟩ := hrel
      by_cases hlt : k < xs.length
      · have hy := (HX.out.cell (p := ⟨b, off + k, none⟩) hb).trans (HC.out k hlt)
        obtain ⟨y, hyy⟩ : ∃ y, y = xs.getD k 0 := ⟨_, rfl⟩
        rw [← hyy] at hy
        have HN : Hid ((xs.take (k + 1)).filter p = (xs.take k).filter p ++ (if p y = true then [y] else [])) := Lib.hid (by rw [filter_next p hlt 0, ← hyy])
        clear hyy
        obtain ⟨L, hL⟩ : ∃ L, L = (xs.take k).filter p := ⟨_, rfl⟩
        have hLl : L.length ≤ 1000000 := by
          have := List.length_filter_le p (xs.take k)
          rw [← hL] at this
          simp at this
          omega
        rw [← hL] at HO HN
        clear hL
        have hwr : w.heap.size ≤ wr.heap.size := HX.out.size
        obtain ⟨s, hs⟩ : ∃ s, p y = s := ⟨_, rfl⟩
        rw [hs] at HN
        have HH : Hid (∀ W, Ext w W → Calls Tryz.prog g (#[.int .i64 y] ++ lb) W fun e w' => e = .returned (.bool s) ∧ Ext W w') := Lib.hid fun W hW => hs ▸ HP.out W y hW
        clear hs
        cases s
        all_goals
          go_wp2_with (first
            | (go_at_fn g; refine (HH.out _ (HX.out.trans (by repeat (first | exact Ext.refl _ | assumption | refine Ext.alloc ?_ _ | refine Ext.drew ?_ | refine Ext.drewN ?_ _)))).mono ?_; rintro e w1 ⟨rfl, hx⟩; have y1 := Lib.hid (HX.out.trans hx); have O1 := Lib.hid (HO.out.ext hx); have hs1 : w.heap.size ≤ w1.heap.size := y1.out.size; clear hx)
            | (at_builtin; refine wpList_append_sl (α := Int) rfl (.tmp 17) (.tmp 19) rfl w.heap.size _ L rfl ?_ (.slice (some ⟨_, 0, none⟩) 1 1) [y] rfl ?_ ?_ ?_ ?_; exact (O1.out.alloc _); exact (Sl.litAt w1 _ rfl [y] (by simp)); (first | omega | (simp; omega)); exact (by first | (simp; done) | (simp; omega)); intro v2 W2 ho2 ha2; have O2 := Lib.hid ho2; have y2 : Hid (Ext w W2) := Lib.hid (Below.trans (y1.out.alloc _) ha2.below); clear ho2 ha2))
          go_roundw
          case rel => exact ⟨k + 1, by omega, by go_num, Lib.hid (by rw [HN.out]; first | exact O2.out | simpa using O1.out), by first | exact y2 | exact y1⟩
          case measure => simp [intOf]; omega
      · have hkl : k = xs.length := by omega
        have ho := HO.out
        rw [hkl, List.take_length] at ho
        have HO' := Lib.hid ho
        clear ho HO
        have HLn := Lib.hid hkl
        clear hkl
        have hfl : (xs.filter p).length ≤ 1000000 := Nat.le_trans (List.length_filter_le _ _) hlen
        obtain ⟨L, hL⟩ : ∃ L, L = xs.filter p := ⟨_, rfl⟩
        rw [← hL] at HO' hfl
        have HL2 := Lib.hid hL
        clear hL
        go_wp2_with (first
          | (go_at_call 181; refine (sort_ow _ w.heap.size _ L HO'.out hfl).mono ?_; rintro e w1 ⟨rfl, HO1, HG1⟩)
          | (go_at_call 182; refine (compact_ow _ w.heap.size _ _ HO1.out (by simpa using hfl)).mono ?_; rintro e w2 ⟨v2, rfl, HO2, HG2⟩))
        go_ret
        exact ⟨_, rfl, by rw [← HL2.out]; exact HO2.out, (HX.out.grown HG1.out HX.out.size fun k hk => (HO'.out.low k hk).1).grown HG2.out (Nat.le_trans HX.out.size HG1.out.size) fun k hk => (HO'.out.low k hk).1⟩
theorem setDel_any (w : World) (v : Value) (xs : List Int) (x : Int) (h : Sl w v xs) (hlen : xs.length ≤ 1000000) : Calls Tryz.prog 192 #[v, .int .i64 x] w (GivesOw w (norm (xs.filter fun y => y != x))) := by
  have HS := Lib.hid (h.alloc (.cells #[.int .i64 x] 3))
  have HT : Hid (Tells ival (w.alloc (.cells #[.int .i64 x] 3)) (.func (.func 206) #[] #[.pointer (some ⟨w.heap.size, 0, none⟩)]) (fun y => y != x)) :=
    Lib.hid (tells_other _ _ _ (by simp) (blk_cell (get_alloc_new _ _) 0 rfl))
  clear h
  have hmf : ∀ (fn : Fn) (first cap : Array Value) (w : World), (Instr.makeFunc fn first cap).run Tryz.prog w = .ok (.func fn first cap) w := fun _ _ _ _ => rfl
  go_enter Tryz.func192, Tryz.ntmps192
  go_wp2_with (go_at_call 152; refine (those_i _ _ _ xs _ HS.out HT.out hlen).mono ?_; rintro e w' ⟨v', rfl, ho, hb⟩; have HO := Lib.hid ho; have HB := Lib.hid hb; clear ho hb)
  go_ret
  exact ⟨_, rfl, HO.out.mono (by simp), ((Ext.refl w).alloc _).trans HB.out⟩
set_option maxHeartbeats 1000000 in
theorem index_i (w : World) (v : Value) (xs : List Int) (x : Int) (h : Sl w v xs) : Calls Tryz.prog 184 #[v, .int .i64 x] w fun e w' => ∃ r : Int, e = .returned (.int .i64 r) ∧ decide (0 ≤ r) = decide (x ∈ xs) ∧ Ext w w' := by
  rcases h.ints with ⟨rfl, ao, c, rfl⟩ | ⟨b, off, c, rfl, hc, hc63, hb, hpos, hcell⟩
  · go_enter Tryz.func184, Tryz.ntmps184
    go_wp2
    refine wp_loop_rounds 1 ?_
    rw [rounds_succ]
    go_wp2
    go_ret
    exact ⟨_, rfl, by simp, Ext.refl _⟩
  · have HC := Lib.hid hcell
    clear hcell h
    go_enter Tryz.func184, Tryz.ntmps184
    go_wp2
    go_loopw [8] (fun i wr => ∃ k : Nat, k ≤ xs.length ∧ i = .int .i64 k ∧ Hid (x ∉ xs.take k) ∧ Hid (Drew w wr)) (fun i _ => xs.length - (intOf i).toNat)
    case atStart => exact ⟨0, Nat.zero_le _, rfl, Lib.hid (by simp), Lib.hid (Drew.refl _)⟩
    case round =>
      obtain ⟨k, hk, rfl, HT, HD⟩ := hrel
      by_cases hlt : k < xs.length
      · have hy := (HD.out.cell ⟨b, off + k, none⟩).trans (HC.out k hlt)
        obtain ⟨y, hyy⟩ : ∃ y, y = xs.getD k 0 := ⟨_, rfl⟩
        rw [← hyy] at hy
        have HN : Hid (xs.take (k + 1) = xs.take k ++ [y]) := Lib.hid (by rw [take_next hlt 0, ← hyy])
        have HM : Hid (y ∈ xs) := Lib.hid (hyy ▸ by rw [List.getD_eq_getElem?_getD, List.getElem?_eq_getElem hlt]; simp)
        clear hyy
        by_cases hq : x = y
        · have e1 : (x == y) = true := by simp [hq]
          have HQ := Lib.hid hq
          clear hq
          go_wp2
          try go_quiet (fail)
          try go_wp2
          go_ret
          exact ⟨_, rfl, by rw [HQ.out, decide_eq_true HM.out]; simp, by first | exact Ext.of_drew HD.out | exact Ext.of_drew (HD.out.more _)⟩
        · have e1 : (x == y) = false := by simp [hq]
          have HQ := Lib.hid hq
          clear hq
          go_wp2
          try go_quiet (fail)
          try go_wp2
          go_roundw
          case rel => exact ⟨k + 1, by omega, by go_num, Lib.hid (by rw [HN.out]; simp only [List.mem_append, List.mem_singleton]; exact fun e => e.elim HT.out HQ.out), by first | exact HD | exact Lib.hid (HD.out.more _)⟩
          case measure => simp [intOf]; omega
      · have hkl : k = xs.length := by omega
        go_wp2
        go_ret
        exact ⟨_, rfl, by have := HT.out; rw [hkl, List.take_length] at this; rw [decide_eq_false this]; rfl, Ext.of_drew HD.out⟩
theorem contains_i (w : World) (v : Value) (xs : List Int) (x : Int) (h : Sl w v xs) (r : Bool) (hr : decide (x ∈ xs) = r) : Calls Tryz.prog 155 #[v, .int .i64 x] w fun e w' => e = .returned (.bool r) ∧ Ext w w' := by
  subst hr
  have HS := Lib.hid h
  clear h
  go_enter Tryz.func155, Tryz.ntmps155
  go_wp2_with (go_at_call 184; refine (index_i _ _ xs x HS.out).mono ?_; rintro e w1 ⟨r, rfl, hr, hx⟩; have HR := Lib.hid hr; have HX := Lib.hid hx; clear hr hx)
  go_ret
  exact ⟨ret_bool HR.out, HX.out⟩
theorem setHas_val (w : World) (v : Value) (xs : List Int) (x : Int) (h : Sl w v xs) (r : Bool) (hr : decide (x ∈ xs) = r) : Calls Tryz.prog 177 #[v, .int .i64 x] w fun e w' => e = .returned (.bool r) ∧ Ext w w' := by
  have HS := Lib.hid h
  have HR := Lib.hid hr
  clear h hr
  go_enter Tryz.func177, Tryz.ntmps177
  go_wp2_with (go_at_call 155; refine (contains_i _ _ xs x HS.out _ HR.out).mono ?_; rintro e w1 ⟨rfl, hx⟩; have HX := Lib.hid hx; clear hx)
  go_ret
  exact ⟨rfl, HX.out⟩
theorem setValid_any (w : World) (v : Value) (xs : List Int) (h : Sl w v xs) : Calls Tryz.prog 100 #[v] w fun e w' => e = .returned (.bool (decide (SS xs))) ∧ Drew w w' := by
  rcases h.ints with ⟨rfl, ao, c, rfl⟩ | ⟨b, off, c, rfl, hc, hc63, hb, hpos, hcell⟩
  · go_enter Tryz.func100, Tryz.ntmps100
    go_wp2
    refine wp_loop_rounds 1 ?_
    rw [rounds_succ]
    go_wp2
    go_ret
    exact ⟨ret_bool (decide_eq_true (SS_one (by simp))).symm, Drew.refl _⟩
  · have hlen : xs.length ≤ 9223372036854775807 := by omega
    have HC := Lib.hid hcell
    clear hcell h
    go_enter Tryz.func100, Tryz.ntmps100
    go_wp2
    go_loopw [3] (fun i wr => ∃ k : Nat, 1 ≤ k ∧ k ≤ xs.length ∧ i = .int .i64 k ∧ Hid (SS (xs.take k)) ∧ Hid (Drew w wr)) (fun i _ => xs.length - (intOf i).toNat)
    case atStart => exact ⟨1, Nat.le_refl _, hpos, rfl, Lib.hid (SS_one (by simp; omega)), Lib.hid (Drew.refl _)⟩
    case round =>
      obtain ⟨k, hk1, hk, rfl, HT, HD⟩ := hrel
      by_cases hlt : k < xs.length
      · have hck := (HD.out.cell ⟨b, off + k, none⟩).trans (HC.out k hlt)
        have hck' := (HD.out.cell ⟨b, off + (k - 1), none⟩).trans (HC.out (k - 1) (by omega))
        obtain ⟨y, hy⟩ : ∃ y, y = xs.getD k 0 := ⟨_, rfl⟩
        obtain ⟨z, hz⟩ : ∃ z, z = xs.getD (k - 1) 0 := ⟨_, rfl⟩
        rw [← hy] at hck
        rw [← hz] at hck'
        have HY := Lib.hid hy
        have HZ := Lib.hid hz
        clear hy hz
        by_cases h1 : y ≤ z
        · go_wp2
          go_quiet (fail)
          go_wp2
          go_ret
          refine ⟨ret_bool (decide_eq_false (fun e => ?_)).symm, HD.out.more _⟩
          have := ((SS_take_succ hk1 hlt).1 (List.Pairwise.sublist (List.take_sublist _ _) e)).2
          rw [← HY.out, ← HZ.out] at this
          omega
        · have hd : decide (y ≤ z) = false := decide_eq_false h1
          go_wp2
          go_quiet (fail)
          go_wp2
          go_roundw
          case rel => exact ⟨k + 1, by omega, by omega, by go_num, Lib.hid ((SS_take_succ hk1 hlt).2 ⟨HT.out, by rw [← HY.out, ← HZ.out]; omega⟩), Lib.hid (HD.out.more _)⟩
          case measure => simp [intOf]; omega
      · go_wp2
        go_ret
        have hkl : k = xs.length := by omega
        have hn := HT.out
        rw [hkl, List.take_length] at hn
        exact ⟨ret_bool (decide_eq_true hn).symm, HD.out⟩
end Go.Proofs.YtfbambemjokmgaaGreat
