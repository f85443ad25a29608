/- The document's answers: whether an edge is ahead; whether two are nodes; whether there is an edge; whether a graph may be; whether two are the same. -/
import Derived.Test.YtdfleocknaackaaGreatMG7
namespace Go.Proofs.YtdfleocknaackaaGreat
open Go.RowKit

theorem refAhead_val (w : World) (xa xb ya yb : Int) (r : Bool) (hr : ahead ⟨xa, xb⟩ ⟨ya, yb⟩ = r) : Calls Tryz.prog 56 #[.agg #[.int .i64 xa, .int .i64 xb], .agg #[.int .i64 ya, .int .i64 yb]] w fun e w' => e = .returned (.bool r) ∧ Ext w w' := by
  have HR := Lib.hid hr
  clear hr
  by_cases h1 : xa < ya
  · go_enter Tryz.func56, Tryz.ntmps56
    go_wp2
    go_ret
    exact ⟨ret_bool (by rw [← HR.out]; simp [ahead, h1]), (by repeat (first | exact Ext.refl _ | assumption | refine Ext.alloc ?_ _ | refine Ext.drew ?_ | refine Ext.drewN ?_ _))⟩
  by_cases h2 : xa = ya
  · have e2 : (xa == ya) = true := by simp [h2]
    have H2 := Lib.hid h2
    clear h2
    by_cases h3 : xb < yb
    all_goals
      go_enter Tryz.func56, Tryz.ntmps56
      go_wp2
      go_ret
      exact ⟨ret_bool (by rw [← HR.out, H2.out]; simp [ahead]; try omega), (by repeat (first | exact Ext.refl _ | assumption | refine Ext.alloc ?_ _ | refine Ext.drew ?_ | refine Ext.drewN ?_ _))⟩
  · have e2 : (xa == ya) = false := by simp [h2]
    have H2 := Lib.hid h2
    clear h2
    go_enter Tryz.func56, Tryz.ntmps56
    go_wp2
    go_ret
    exact ⟨ret_bool (by rw [← HR.out]; simp [ahead, H2.out]; try omega), (by repeat (first | exact Ext.refl _ | assumption | refine Ext.alloc ?_ _ | refine Ext.drew ?_ | refine Ext.drewN ?_ _))⟩

theorem btw_is (e : Edge) (a b : Int) : (e = btw a b) ↔ (e.a = a ∧ e.b = b ∧ a ≤ b) ∨ (e.a = b ∧ e.b = a ∧ b < a) := by
  obtain ⟨x, y⟩ := e
  simp only [btw, Edge.mk.injEq]
  omega

set_option maxHeartbeats 2000000 in
theorem refHas_val (w : World) (N : Int) (v : Value) (E : List Edge) (a b : Int) (h : Sl w v E) (r : Bool) (hr : decide (btw a b ∈ E) = r) :
    Calls Tryz.prog 18 #[.agg #[.int .i64 N, v], .int .i64 a, .int .i64 b] w fun e w' => e = .returned (.bool r) ∧ Ext w w' := by
  rw [← has_iff] at hr
  have hp : ∀ e, (ord e (btw a b) == 0) = decide (e = btw a b) := fun e => by rw [← ord_zero]; rfl
  simp only [hp] at hr
  clear hp
  subst hr
  rcases h.edges with ⟨rfl, ao, c, rfl⟩ | ⟨q, off, c, rfl, hc, hc63, hb, hpos, hcell⟩
  · go_enter Tryz.func18, Tryz.ntmps18
    go_wp2
    refine wp_loop_rounds 1 ?_
    rw [rounds_succ]
    go_wp2
    go_ret
    exact ⟨rfl, (by repeat (first | exact Ext.refl _ | assumption | refine Ext.alloc ?_ _ | refine Ext.drew ?_ | refine Ext.drewN ?_ _))⟩
  · have HC := Lib.hid hcell
    clear hcell h
    have HK : Hid (∀ V, Ext (w.alloc (.cells #[.int .i64 N, .slice (some ⟨q, off, none⟩) E.length c] 24)) V → V.cell? ⟨w.heap.size, 1, none⟩ = some (.slice (some ⟨q, off, none⟩) E.length c)) := Lib.hid fun V hV => cell_at V hV rfl
    go_enter Tryz.func18, Tryz.ntmps18
    go_wp2
    go_loopw [7] (fun i wr => ∃ k : Nat, k ≤ E.length ∧ i = .int .i64 k ∧ Hid ((E.take k).any (fun e => decide (e = btw a b)) = false) ∧ Hid (Ext (w.alloc (.cells #[.int .i64 N, .slice (some ⟨q, off, none⟩) E.length c] 24)) wr)) (fun i _ => E.length - (intOf i).toNat)
    case atStart => exact ⟨0, Nat.zero_le _, rfl, Lib.hid rfl, Lib.hid (Ext.refl _)⟩
    case round =>
      obtain ⟨k, hk, rfl, HT, HX⟩ := hrel
      have g1 := HK.out wr HX.out
      by_cases hlt : k < E.length
      · have X := Ext.trans ((Ext.refl w).alloc _) HX.out
        have hya := (X.cell (p := ⟨q, off + k * 2, none⟩) hb).trans (HC.out k hlt).1
        have hyb := (X.cell (p := ⟨q, off + k * 2 + 1, none⟩) hb).trans (HC.out k hlt).2
        obtain ⟨⟨ya, yb⟩, hy⟩ : ∃ y, y = E.getD k ⟨0, 0⟩ := ⟨_, rfl⟩
        rw [← hy] at hya hyb
        have HN : Hid ((E.take (k + 1)).any (fun e => decide (e = btw a b)) = ((E.take k).any (fun e => decide (e = btw a b)) || decide ((⟨ya, yb⟩ : Edge) = btw a b))) := Lib.hid (by rw [any_next _ hlt ⟨0, 0⟩, ← hy])
        clear hy X
        have HB := Lib.hid (btw_is ⟨ya, yb⟩ a b)
        by_cases h0 : (⟨ya, yb⟩ : Edge) = btw a b
        · have H0 := Lib.hid h0
          rw [btw_is] at h0
          rcases h0 with ⟨h1, h2, h3⟩ | ⟨h1, h2, h3⟩
          · have e1 : (ya == a) = true := by simpa using h1
            have e2 : (yb == b) = true := by simpa using h2
            clear h1 h2
            go_wp2
            go_ret
            exact ⟨ret_bool (by rw [any_of_take (HN.out.trans (by rw [decide_eq_true H0.out]; simp))]), Ext.trans ((Ext.refl w).alloc _) (HX.out.alloc _)⟩
          · have h1 : ya = b := h1
            have h2 : yb = a := h2
            have e1 : (ya == a) = false := by simp; omega
            have e2 : (yb == b) = false := by simp; omega
            have e3 : (ya == b) = true := by simpa using h1
            have e4 : (yb == a) = true := by simpa using h2
            clear h1 h2
            go_wp2
            go_ret
            exact ⟨ret_bool (by rw [any_of_take (HN.out.trans (by rw [decide_eq_true H0.out]; simp))]), Ext.trans ((Ext.refl w).alloc _) (HX.out.alloc _)⟩
        · have H0 := Lib.hid h0
          have hq : ¬ ((ya = a ∧ yb = b ∧ a ≤ b) ∨ (ya = b ∧ yb = a ∧ b < a)) := fun e => h0 ((btw_is ⟨ya, yb⟩ a b).2 e)
          clear h0
          rcases (show ya = a ∨ ya ≠ a by omega) with h1 | h1
          all_goals rcases (show yb = b ∨ yb ≠ b by omega) with h2 | h2
          all_goals rcases (show ya = b ∨ ya ≠ b by omega) with h3 | h3
          all_goals rcases (show yb = a ∨ yb ≠ a by omega) with h4 | h4
          all_goals rcases (show a ≤ b ∨ b < a by omega) with h5 | h5
          all_goals try (exfalso; omega)
          all_goals
            first | (have e1 : (ya == a) = true := by simp [h1]) | (have e1 : (ya == a) = false := by simp [h1])
            first | (have e2 : (yb == b) = true := by simp [h2]) | (have e2 : (yb == b) = false := by simp [h2])
            first | (have e3 : (ya == b) = true := by simp [h3]) | (have e3 : (ya == b) = false := by simp [h3])
            first | (have e4 : (yb == a) = true := by simp [h4]) | (have e4 : (yb == a) = false := by simp [h4])
            have e5 : ¬ (a ≤ b ∧ b < a) := by omega
            clear h1 h2 h3 h4 hq
            go_wp2
            go_roundw
            case rel => exact ⟨k + 1, by omega, by go_num, Lib.hid (by rw [HN.out, HT.out, decide_eq_false H0.out]; rfl), Lib.hid (HX.out.alloc _)⟩
            case measure => simp [intOf]; omega
      · have hkl : k = E.length := by omega
        go_wp2
        go_ret
        exact ⟨ret_bool (by have := HT.out; rw [hkl, List.take_length] at this; rw [this]), Ext.trans ((Ext.refl w).alloc _) HX.out⟩

end Go.Proofs.YtdfleocknaackaaGreat

/- The document's answers: whether a graph may be; whether two are the same. -/
namespace Go.Proofs.YtdfleocknaackaaGreat
open Go.RowKit

theorem okG_not {N : Int} {E : List Edge} (h : ¬ OkG N E) : okG N E = false := by
  cases e : okG N E with
  | false => rfl
  | true => exact absurd (okG_iff.1 e) h

theorem all_next {α : Type} {xs : List α} {k : Nat} (p : α → Bool) (h : k < xs.length) (d : α) : (xs.take (k + 1)).all p = ((xs.take k).all p && p (xs.getD k d)) := by
  rw [take_next h d, List.all_append]
  simp
theorem getD_mem {α : Type} {xs : List α} {k : Nat} (h : k < xs.length) (d : α) : xs.getD k d ∈ xs := by
  rw [List.getD_eq_getElem?_getD, List.getElem?_eq_getElem h]
  simp

set_option maxHeartbeats 2000000 in
theorem refCheck_val (w : World) (N : Int) (v : Value) (E : List Edge) (h : Sl w v E) (r : Bool) (hr : okG N E = r) :
    Calls Tryz.prog 30 #[.agg #[.int .i64 N, v]] w fun e w' => e = .returned (.bool r) ∧ Ext w w' := by
  have HR := Lib.hid hr
  clear hr
  by_cases h1 : N < 0
  · obtain ⟨ao, c, rfl⟩ := h.len
    clear h
    go_enter Tryz.func30, Tryz.ntmps30
    go_wp2
    go_ret
    exact ⟨ret_bool (by rw [← HR.out, okG_not (fun o => by have := o.n0; omega)]), (by repeat (first | exact Ext.refl _ | assumption | refine Ext.alloc ?_ _ | refine Ext.drew ?_ | refine Ext.drewN ?_ _))⟩
  by_cases h2 : 64 < N
  · obtain ⟨ao, c, rfl⟩ := h.len
    clear h
    go_enter Tryz.func30, Tryz.ntmps30
    go_wp2
    go_ret
    exact ⟨ret_bool (by rw [← HR.out, okG_not (fun o => by have := o.n64; omega)]), (by repeat (first | exact Ext.refl _ | assumption | refine Ext.alloc ?_ _ | refine Ext.drew ?_ | refine Ext.drewN ?_ _))⟩
  by_cases h3 : 400 < E.length
  · obtain ⟨ao, c, rfl⟩ := h.len
    clear h
    go_enter Tryz.func30, Tryz.ntmps30
    go_wp2
    go_ret
    exact ⟨ret_bool (by rw [← HR.out, okG_not (fun o => by have := o.few; omega)]), (by repeat (first | exact Ext.refl _ | assumption | refine Ext.alloc ?_ _ | refine Ext.drew ?_ | refine Ext.drewN ?_ _))⟩
  rcases h.edges with ⟨rfl, ao, c, rfl⟩ | ⟨q, off, c, rfl, hc, hc63, hb, hpos, hcell⟩
  · clear h
    go_enter Tryz.func30, Tryz.ntmps30
    go_wp2
    refine wp_loop_rounds 1 ?_
    rw [rounds_succ]
    go_wp2
    go_ret
    exact ⟨ret_bool (by rw [← HR.out, okG_iff.2 ⟨by omega, by omega, by simp, by simp, List.Pairwise.nil⟩]), (by repeat (first | exact Ext.refl _ | assumption | refine Ext.alloc ?_ _ | refine Ext.drew ?_ | refine Ext.drewN ?_ _))⟩
  · have HC := Lib.hid hcell
    have hlen : E.length ≤ 400 := by omega
    clear hcell h h3
    have HK : Hid (∀ V, Ext (w.alloc (.cells #[.int .i64 N, .slice (some ⟨q, off, none⟩) E.length c] 24)) V → V.cell? ⟨w.heap.size, 0, none⟩ = some (.int .i64 N) ∧ V.cell? ⟨w.heap.size, 1, none⟩ = some (.slice (some ⟨q, off, none⟩) E.length c)) := Lib.hid fun V hV => ⟨cell_at V hV rfl, cell_at V hV rfl⟩
    have HW := Lib.hid (Int.not_lt.1 h1)
    have HW2 := Lib.hid (Int.not_lt.1 h2)
    go_enter Tryz.func30, Tryz.ntmps30
    go_wp2
    go_loopw [3] (fun i wr => ∃ k : Nat, k ≤ E.length ∧ i = .int .i64 k ∧ Hid ((E.take k).all (okE N) = true ∧ Rises (E.take k)) ∧ Hid (Ext (w.alloc (.cells #[.int .i64 N, .slice (some ⟨q, off, none⟩) E.length c] 24)) wr)) (fun i _ => E.length - (intOf i).toNat)
    case atStart => exact ⟨0, Nat.zero_le _, rfl, Lib.hid ⟨rfl, List.Pairwise.nil⟩, Lib.hid (Ext.refl _)⟩
    case round =>
      obtain ⟨k, hk, rfl, HT, HX⟩ := hrel
      have g1 := (HK.out wr HX.out).2
      have g0 := (HK.out wr HX.out).1
      by_cases hlt : k < E.length
      · obtain ⟨⟨ya, yb⟩, hy⟩ : ∃ y, y = E.getD k ⟨0, 0⟩ := ⟨_, rfl⟩
        have HY := Lib.hid hy
        have X := Ext.trans ((Ext.refl w).alloc _) HX.out
        have hya := (X.cell (p := ⟨q, off + k * 2, none⟩) hb).trans (HC.out k hlt).1
        have hyb := (X.cell (p := ⟨q, off + k * 2 + 1, none⟩) hb).trans (HC.out k hlt).2
        rw [← hy] at hya hyb
        clear hy
        have HE : Hid (∀ V, Ext (wr.alloc (.cells #[.int .i64 ya, .int .i64 yb] 36)) V → (V.cell? ⟨w.heap.size, 0, none⟩ = some (.int .i64 N) ∧ V.cell? ⟨w.heap.size, 1, none⟩ = some (.slice (some ⟨q, off, none⟩) E.length c)) ∧ V.cell? ⟨wr.heap.size, 0, none⟩ = some (.int .i64 ya) ∧ V.cell? ⟨wr.heap.size, 1, none⟩ = some (.int .i64 yb)) :=
          Lib.hid fun V hV => ⟨HK.out V (HX.out.trans (((Ext.refl wr).alloc _).trans hV)), cell_at V hV rfl, cell_at V hV rfl⟩
        by_cases hok : okE N ⟨ya, yb⟩ = true
        · have hok' : 0 ≤ ya ∧ ya < yb ∧ yb < N := by simpa [okE, and_assoc] using hok
          have o1 : ¬ ya < 0 := by omega
          have o2 : ¬ yb ≤ ya := by omega
          have o3 : ¬ N ≤ yb := by omega
          clear hok'
          have HO := Lib.hid hok
          clear hok
          rcases Nat.eq_zero_or_pos k with rfl | hk0
          · have hya0 : wr.cell? ⟨q, off, none⟩ = some (.int .i64 ya) := by simpa using hya
            have hyb0 : wr.cell? ⟨q, off + 1, none⟩ = some (.int .i64 yb) := by simpa using hyb
            clear hya hyb
            go_wp2
            have b1 : decide (ya < 0) = false := by simp; omega
            have b2 : decide (yb ≤ ya) = false := by simp; omega
            have b3 : decide (N ≤ yb) = false := by simp; omega
            obtain ⟨⟨k0, k1⟩, _, _⟩ := HE.out _ (Ext.refl _)
            go_quiet (fail)
            go_wp2
            go_roundw
            case rel => exact ⟨1, by omega, by go_num, Lib.hid ⟨by rw [show (1 : Nat) = 0 + 1 from rfl, all_next _ hlt ⟨0, 0⟩, ← HY.out, HO.out]; rfl, rises_one E⟩, Lib.hid (HX.out.trans (by repeat (first | exact Ext.refl _ | assumption | refine Ext.alloc ?_ _ | refine Ext.drew ?_ | refine Ext.drewN ?_ _)))⟩
            case measure => simp [intOf]; omega
          · have hk' : k - 1 < E.length := by omega
            obtain ⟨⟨za, zb⟩, hz⟩ : ∃ z, z = E.getD (k - 1) ⟨0, 0⟩ := ⟨_, rfl⟩
            have hza := (X.cell (p := ⟨q, off + (k - 1) * 2, none⟩) hb).trans (HC.out (k - 1) hk').1
            have hzb := (X.cell (p := ⟨q, off + (k - 1) * 2 + 1, none⟩) hb).trans (HC.out (k - 1) hk').2
            rw [← hz] at hza hzb
            have HZ := Lib.hid hz
            clear hz
            have hq : q < wr.heap.size := Nat.lt_of_lt_of_le hb X.size
            have HF : Hid (∀ V, Ext (wr.alloc (.cells #[.int .i64 ya, .int .i64 yb] 36)) V → ((V.cell? ⟨w.heap.size, 0, none⟩ = some (.int .i64 N) ∧ V.cell? ⟨w.heap.size, 1, none⟩ = some (.slice (some ⟨q, off, none⟩) E.length c)) ∧ V.cell? ⟨wr.heap.size, 0, none⟩ = some (.int .i64 ya) ∧ V.cell? ⟨wr.heap.size, 1, none⟩ = some (.int .i64 yb)) ∧ V.cell? ⟨q, off + (k - 1) * 2, none⟩ = some (.int .i64 za) ∧ V.cell? ⟨q, off + (k - 1) * 2 + 1, none⟩ = some (.int .i64 zb)) :=
              Lib.hid fun V hV => ⟨HE.out V hV, (((Ext.refl wr).alloc _).trans hV |>.cell (p := ⟨q, off + (k - 1) * 2, none⟩) hq).trans hza, (((Ext.refl wr).alloc _).trans hV |>.cell (p := ⟨q, off + (k - 1) * 2 + 1, none⟩) hq).trans hzb⟩
            have HN : Hid (Rises (E.take (k + 1)) ↔ Rises (E.take k) ∧ ahead ⟨za, zb⟩ ⟨ya, yb⟩ = true) := Lib.hid (by rw [rises_next hk0 hlt, ← HY.out, ← HZ.out])
            obtain ⟨s, hs⟩ : ∃ s, ahead ⟨za, zb⟩ ⟨ya, yb⟩ = s := ⟨_, rfl⟩
            have HS := Lib.hid hs
            clear hs X hza hzb
            have hw1 : IntKind.i64.wrap ((k : Int) - 1) = ((k - 1 : Nat) : Int) := by rw [IntWalk.i64_in _ (by omega)]; omega
            cases s
            all_goals
              go_wp2
              have b1 : decide (ya < 0) = false := by simp; omega
              have b2 : decide (yb ≤ ya) = false := by simp; omega
              have b3 : decide (N ≤ yb) = false := by simp; omega
              have b4 : decide (0 < (k : Int)) = true := by simp; omega
              go_region_held3 (fun V => ((V.cell? ⟨w.heap.size, 0, none⟩ = some (.int .i64 N) ∧ V.cell? ⟨w.heap.size, 1, none⟩ = some (.slice (some ⟨q, off, none⟩) E.length c)) ∧ V.cell? ⟨wr.heap.size, 0, none⟩ = some (.int .i64 ya) ∧ V.cell? ⟨wr.heap.size, 1, none⟩ = some (.int .i64 yb)) ∧ V.cell? ⟨q, off + (k - 1) * 2, none⟩ = some (.int .i64 za) ∧ V.cell? ⟨q, off + (k - 1) * 2 + 1, none⟩ = some (.int .i64 zb)) (exact HF.out _ ((by repeat (first | exact Ext.refl _ | assumption | refine Ext.alloc ?_ _ | refine Ext.drew ?_ | refine Ext.drewN ?_ _))))
                (first
                | (go_at_call 56; refine (refAhead_val _ _ _ _ _ _ HS.out).mono ?_; rintro e w1 ⟨rfl, hx⟩; have y1 : Ext (wr.alloc (.cells #[.int .i64 ya, .int .i64 yb] 36)) w1 := Ext.trans (by exact (by repeat (first | exact Ext.refl _ | assumption | refine Ext.alloc ?_ _ | refine Ext.drew ?_ | refine Ext.drewN ?_ _))) hx; clear hx))
              go_wp2
            · go_ret
              refine ⟨ret_bool ?_, Ext.trans (Ext.trans ((Ext.refl w).alloc _) HX.out) (Ext.trans ((Ext.refl wr).alloc _) (by first | exact y1 | exact Ext.drew y1))⟩
              rw [← HR.out, okG_not (fun o => ?_)]
              have := (HN.out.1 (List.Pairwise.sublist (List.take_sublist _ _) o.rise)).2
              rw [HS.out] at this
              cases this
            · go_roundw
              case rel => exact ⟨k + 1, by omega, by go_num, Lib.hid ⟨by rw [all_next _ hlt ⟨0, 0⟩, ← HY.out, HO.out, HT.out.1]; rfl, HN.out.2 ⟨HT.out.2, HS.out⟩⟩, Lib.hid (HX.out.trans (Ext.trans ((Ext.refl wr).alloc _) (by first | exact y1 | exact Ext.drew y1)))⟩
              case measure => simp [intOf]; omega
        · have HB : Hid (okG N E = false) := Lib.hid (okG_not fun o => hok (by have := o.each _ (getD_mem hlt ⟨0, 0⟩); rw [← HY.out] at this; have t1 : 0 ≤ ya := this.1; have t2 : ya < yb := this.2.1; have t3 : yb < N := this.2.2; simp [okE, t1, t2, t3]))
          have hbad : ya < 0 ∨ (¬ ya < 0 ∧ yb ≤ ya) ∨ (¬ ya < 0 ∧ ¬ yb ≤ ya ∧ N ≤ yb) := by rw [Bool.not_eq_true] at hok; simp only [okE, Bool.and_eq_false_iff, decide_eq_false_iff_not] at hok; omega
          clear hok X
          rcases hbad with o1 | ⟨o1, o2⟩ | ⟨o1, o2, o3⟩
          all_goals
            go_wp2
            first | (have b1 : decide (ya < 0) = true := by simp; omega) | (have b1 : decide (ya < 0) = false := by simp; omega)
            try first | (have b2 : decide (yb ≤ ya) = true := by simp; omega) | (have b2 : decide (yb ≤ ya) = false := by simp; omega)
            try first | (have b3 : decide (N ≤ yb) = true := by simp; omega) | (have b3 : decide (N ≤ yb) = false := by simp; omega)
            obtain ⟨⟨k0, k1⟩, _, _⟩ := HE.out _ (Ext.refl _)
            go_quiet (fail)
            go_wp2
            go_ret
            exact ⟨ret_bool (by rw [← HR.out, HB.out]), Ext.trans (Ext.trans ((Ext.refl w).alloc _) HX.out) (by repeat (first | exact Ext.refl _ | assumption | refine Ext.alloc ?_ _ | refine Ext.drew ?_ | refine Ext.drewN ?_ _))⟩
      · have hkl : k = E.length := by omega
        go_wp2
        go_ret
        refine ⟨ret_bool ?_, Ext.trans ((Ext.refl w).alloc _) HX.out⟩
        have := HT.out
        rw [hkl, List.take_length, List.all_eq_true] at this
        rw [← HR.out, okG_iff.2 ⟨HW.out, HW2.out, hlen, fun e he => ?_, this.2⟩]
        have := this.1 e he
        simp [okE] at this
        omega

end Go.Proofs.YtdfleocknaackaaGreat
