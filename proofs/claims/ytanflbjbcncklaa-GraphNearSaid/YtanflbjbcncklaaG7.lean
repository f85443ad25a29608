/- A graph with an edge, and without one. -/
import Derived.Test.YtanflbjbcncklaaG6
namespace Go.Proofs.Ytanflbjbcncklaa
open Go.RowKit

/-- A graph and a number come out. -/
def GivesG (w : World) (N : Int) (E : List Edge) (r : Int) (e : Ending) (w' : World) : Prop := ∃ v, e = .returned (.tuple #[.agg #[.int .i64 N, v], .int .i64 r]) ∧ Sl w' v E ∧ Ext w w'

/-- The block of an argument and the one of a result. -/
theorem two_graphs (w : World) (N : Int) (v : Value) (W : World) (h : Ext ((w.alloc (.cells #[.int .i64 N, v] 24)).alloc (.cells #[.int .i64 0, .slice none 0 0] 24)) W) :
    (W.cell? ⟨w.heap.size, 0, none⟩ = some (.int .i64 N) ∧ W.cell? ⟨w.heap.size, 1, none⟩ = some v) ∧ (W.cell? ⟨w.heap.size + 1, 0, none⟩ = some (.int .i64 0) ∧ W.cell? ⟨w.heap.size + 1, 1, none⟩ = some (.slice none 0 0)) ∧
    W.frozen? ⟨w.heap.size + 1, 0, none⟩ = false ∧ W.frozen? ⟨w.heap.size + 1, 1, none⟩ = false := by
  obtain ⟨hA, hB⟩ := box2 (h.mono (by rw [size_alloc, size_alloc]; omega))
  exact ⟨⟨blk_cell hA 0 rfl, blk_cell hA 1 rfl⟩, ⟨blk_cell hB 0 rfl, blk_cell hB 1 rfl⟩, blk_free hB 0, blk_free hB 1⟩
theorem ext_two (w : World) (A B : Obj) : Ext w ((w.alloc A).alloc B) := ((Ext.refl w).alloc _).alloc _
theorem Sl.nilg (w : World) : Sl w (.slice none 0 0) ([] : List Edge) := Sl.empty _ _ _ (by omega) (fun _ => rfl)

set_option maxHeartbeats 1000000 in
set_option maxHeartbeats 1000000 in
theorem low_two {w W : World} {A B : Obj} (h : Ext ((w.alloc A).alloc B) W) : Below (w.heap.size + 1) (w.alloc A) W :=
  Below.trans (below_alloc_at (Below.refl _ _) (by rw [size_alloc]; omega) B) (h.mono (by rw [size_alloc, size_alloc]; omega))
/-- The argument's block, when stores go behind it. -/
theorem one_graph (w : World) (N : Int) (v : Value) (W : World) (h : Below (w.heap.size + 1) (w.alloc (.cells #[.int .i64 N, v] 24)) W) : W.cell? ⟨w.heap.size, 0, none⟩ = some (.int .i64 N) ∧ W.cell? ⟨w.heap.size, 1, none⟩ = some v := by
  have hA := box1 h
  exact ⟨blk_cell hA 0 rfl, blk_cell hA 1 rfl⟩

set_option maxHeartbeats 1000000 in
theorem add_no (w : World) (N : Int) (v : Value) (E : List Edge) (a b : Int) (h : Sl w v E) (r : Int) (hr : addR N E a b = r) (h0 : r ≠ 0) :
    Calls Try.prog 9 #[.agg #[.int .i64 N, v], .int .i64 a, .int .i64 b] w (GivesG w 0 [] r) := by
  obtain ⟨ao, c, rfl⟩ := h.len
  have HS := Lib.hid (h.ext (ext_two w (.cells #[.int .i64 N, .slice ao E.length c] 24) (.cells #[.int .i64 0, .slice none 0 0] 24)))
  clear h
  have HK := Lib.hid (two_graphs w N (.slice ao E.length c))
  have HK1 := Lib.hid (one_graph w N (.slice ao E.length c))
  by_cases he : ends N E a b = 0
  · have hr' : (if btw a b ∈ E then (32 : Int) else if E.length = 400 then 30 else 0) = r := by rw [← hr]; unfold addR; rw [if_pos he]
    clear hr
    have HE := Lib.hid he
    clear he
    by_cases hm : btw a b ∈ E
    · rw [if_pos hm] at hr'
      subst hr'
      clear h0
      have HM := Lib.hid (decide_eq_true hm)
      clear hm
      go_enter Try.func9, Try.ntmps9
      go_wp2_with (first
        | (go_at_call 23; refine (checkEnds_any _ N _ E a b (HS.out.ext (by repeat (first | exact Ext.refl _ | assumption | refine Ext.alloc ?_ _ | refine Ext.drew ?_ | refine Ext.drewN ?_ _))) 0 HE.out).mono ?_; rintro e w1 ⟨rfl, x1⟩; obtain ⟨⟨p0, p1⟩, ⟨q0, q1⟩, f0, f1⟩ := HK.out w1 x1)
        | (go_at_call 16; refine (has_any _ N _ E a b (HS.out.ext (by repeat (first | exact Ext.refl _ | assumption | exact Hid.out (by assumption) | refine Ext.alloc ?_ _ | refine Ext.drew ?_ | refine Ext.drewN ?_ _ | refine Ext.trans ?_ (by assumption)))) true HM.out).mono ?_; rintro e w2 ⟨rfl, x2⟩; have y2 := x1.trans x2; obtain ⟨⟨s0, s1⟩, ⟨t0, t1⟩, g0, g1⟩ := HK.out w2 y2))
      refine bodyPost_ret (v := .tuple #[.agg #[.int .i64 0, .slice none 0 0], .int .i64 32]) (by simp [results, Try.results9, go_sem, t0, t1]) rfl ⟨_, rfl, Sl.nilg _, ?_⟩
      exact below_set (below_set ((ext_two w _ _).trans y2) (by simp) _) (by simp) _
    · rw [if_neg hm] at hr'
      by_cases hl : E.length = 400
      · rw [if_pos hl] at hr'
        subst hr'
        clear h0
        have HM := Lib.hid (decide_eq_false hm)
        clear hm
        have hll : ((E.length : Int) == 400) = true := by simp; omega
        clear hl
        go_enter Try.func9, Try.ntmps9
        go_wp2_with (first
          | (go_at_call 23; refine (checkEnds_any _ N _ E a b (HS.out.ext (by repeat (first | exact Ext.refl _ | assumption | refine Ext.alloc ?_ _ | refine Ext.drew ?_ | refine Ext.drewN ?_ _))) 0 HE.out).mono ?_; rintro e w1 ⟨rfl, x1⟩; obtain ⟨⟨p0, p1⟩, ⟨q0, q1⟩, f0, f1⟩ := HK.out w1 x1)
          | (go_at_call 16; refine (has_any _ N _ E a b (HS.out.ext (by repeat (first | exact Ext.refl _ | assumption | exact Hid.out (by assumption) | refine Ext.alloc ?_ _ | refine Ext.drew ?_ | refine Ext.drewN ?_ _ | refine Ext.trans ?_ (by assumption)))) false HM.out).mono ?_; rintro e w2 ⟨rfl, x2⟩; have y2 := x1.trans x2; obtain ⟨⟨s0, s1⟩, ⟨t0, t1⟩, g0, g1⟩ := HK.out w2 y2))
        refine bodyPost_ret (v := .tuple #[.agg #[.int .i64 0, .slice none 0 0], .int .i64 30]) (by simp [results, Try.results9, go_sem, t0, t1]) rfl ⟨_, rfl, Sl.nilg _, ?_⟩
        exact below_set (below_set ((ext_two w _ _).trans y2) (by simp) _) (by simp) _
      · rw [if_neg hl] at hr'
        exact absurd hr'.symm h0
  · have hr' : ends N E a b = r := by rw [← hr]; unfold addR; rw [if_neg he]
    clear hr he
    have HE := Lib.hid hr'
    clear hr'
    have hb : (r != 0) = true := by simp [h0]
    clear h0
    go_enter Try.func9, Try.ntmps9
    go_wp2_with (first
      | (go_at_call 23; refine (checkEnds_any _ N _ E a b (HS.out.ext (by repeat (first | exact Ext.refl _ | assumption | refine Ext.alloc ?_ _ | refine Ext.drew ?_ | refine Ext.drewN ?_ _))) r HE.out).mono ?_; rintro e w1 ⟨rfl, x1⟩; obtain ⟨⟨p0, p1⟩, ⟨q0, q1⟩, f0, f1⟩ := HK.out w1 x1))
    refine bodyPost_ret (v := .tuple #[.agg #[.int .i64 0, .slice none 0 0], .int .i64 r]) (by simp [results, Try.results9, go_sem, q0, q1]) rfl ⟨_, rfl, Sl.nilg _, ?_⟩
    exact below_set (below_set ((ext_two w _ _).trans x1) (by simp) _) (by simp) _

set_option maxHeartbeats 1000000 in
theorem rem_no (w : World) (N : Int) (v : Value) (E : List Edge) (a b : Int) (h : Sl w v E) (r : Int) (hr : remR N E a b = r) (h0 : r ≠ 0) :
    Calls Try.prog 12 #[.agg #[.int .i64 N, v], .int .i64 a, .int .i64 b] w (GivesG w 0 [] r) := by
  obtain ⟨ao, c, rfl⟩ := h.len
  have HS := Lib.hid (h.ext (ext_two w (.cells #[.int .i64 N, .slice ao E.length c] 24) (.cells #[.int .i64 0, .slice none 0 0] 24)))
  clear h
  have HK := Lib.hid (two_graphs w N (.slice ao E.length c))
  have HK1 := Lib.hid (one_graph w N (.slice ao E.length c))
  by_cases he : ends N E a b = 0
  · have hr' : (if btw a b ∈ E then (0 : Int) else 33) = r := by rw [← hr]; unfold remR; rw [if_pos he]
    clear hr
    have HE := Lib.hid he
    clear he
    by_cases hm : btw a b ∈ E
    · rw [if_pos hm] at hr'
      exact absurd hr'.symm h0
    · rw [if_neg hm] at hr'
      subst hr'
      clear h0
      have HM := Lib.hid (decide_eq_false hm)
      clear hm
      go_enter Try.func12, Try.ntmps12
      go_wp2_with (first
        | (go_at_call 23; refine (checkEnds_any _ N _ E a b (HS.out.ext (by repeat (first | exact Ext.refl _ | assumption | refine Ext.alloc ?_ _ | refine Ext.drew ?_ | refine Ext.drewN ?_ _))) 0 HE.out).mono ?_; rintro e w1 ⟨rfl, x1⟩; obtain ⟨⟨p0, p1⟩, ⟨q0, q1⟩, f0, f1⟩ := HK.out w1 x1)
        | (go_at_call 16; refine (has_any _ N _ E a b (HS.out.ext (by repeat (first | exact Ext.refl _ | assumption | exact Hid.out (by assumption) | refine Ext.alloc ?_ _ | refine Ext.drew ?_ | refine Ext.drewN ?_ _ | refine Ext.trans ?_ (by assumption)))) false HM.out).mono ?_; rintro e w2 ⟨rfl, x2⟩; have y2 := x1.trans x2; obtain ⟨⟨s0, s1⟩, ⟨t0, t1⟩, g0, g1⟩ := HK.out w2 y2))
      refine bodyPost_ret (v := .tuple #[.agg #[.int .i64 0, .slice none 0 0], .int .i64 33]) (by simp [results, Try.results12, go_sem, t0, t1]) rfl ⟨_, rfl, Sl.nilg _, ?_⟩
      exact below_set (below_set ((ext_two w _ _).trans y2) (by simp) _) (by simp) _
  · have hr' : ends N E a b = r := by rw [← hr]; unfold remR; rw [if_neg he]
    clear hr he
    have HE := Lib.hid hr'
    clear hr'
    have hb : (r != 0) = true := by simp [h0]
    clear h0
    go_enter Try.func12, Try.ntmps12
    go_wp2_with (first
      | (go_at_call 23; refine (checkEnds_any _ N _ E a b (HS.out.ext (by repeat (first | exact Ext.refl _ | assumption | refine Ext.alloc ?_ _ | refine Ext.drew ?_ | refine Ext.drewN ?_ _))) r HE.out).mono ?_; rintro e w1 ⟨rfl, x1⟩; obtain ⟨⟨p0, p1⟩, ⟨q0, q1⟩, f0, f1⟩ := HK.out w1 x1))
    refine bodyPost_ret (v := .tuple #[.agg #[.int .i64 0, .slice none 0 0], .int .i64 r]) (by simp [results, Try.results12, go_sem, q0, q1]) rfl ⟨_, rfl, Sl.nilg _, ?_⟩
    exact below_set (below_set ((ext_two w _ _).trans x1) (by simp) _) (by simp) _

set_option maxHeartbeats 2000000 in
theorem rem_yes (w : World) (N : Int) (v : Value) (E : List Edge) (a b : Int) (h : Sl w v E) (hr : remR N E a b = 0) (hlen : E.length ≤ 1000) :
    Calls Try.prog 12 #[.agg #[.int .i64 N, v], .int .i64 a, .int .i64 b] w (GivesG w N (E.filter fun e => e != btw a b) 0) := by
  obtain ⟨ao, c, rfl⟩ := h.len
  have HS := Lib.hid (h.ext (ext_two w (.cells #[.int .i64 N, .slice ao E.length c] 24) (.cells #[.int .i64 0, .slice none 0 0] 24)))
  clear h
  have HK := Lib.hid (two_graphs w N (.slice ao E.length c))
  have HK1 := Lib.hid (one_graph w N (.slice ao E.length c))
  have he : ends N E a b = 0 := by
    rcases Classical.em (ends N E a b = 0) with he | he
    · exact he
    · unfold remR at hr; rwa [if_neg he] at hr
  have hm : btw a b ∈ E := by
    unfold remR at hr
    rw [if_pos he] at hr
    rcases Classical.em (btw a b ∈ E) with hm | hm
    · exact hm
    · rw [if_neg hm] at hr; omega
  have HE := Lib.hid he
  have HM := Lib.hid (decide_eq_true hm)
  clear hr he hm
  have hmf : ∀ (fn : Fn) (first cap : Array Value) (w : World), (Instr.makeFunc fn first cap).run Try.prog w = .ok (.func fn first cap) w := fun _ _ _ _ => rfl
  go_enter Try.func12, Try.ntmps12
  go_wp2_with (first
    | (go_at_call 23; refine (checkEnds_any _ N _ E a b (HS.out.ext (by repeat (first | exact Ext.refl _ | assumption | refine Ext.alloc ?_ _ | refine Ext.drew ?_ | refine Ext.drewN ?_ _))) 0 HE.out).mono ?_; rintro e w1 ⟨rfl, x1⟩; obtain ⟨⟨p0, p1⟩, ⟨q0, q1⟩, f0, f1⟩ := HK.out w1 x1)
    | (go_at_call 16; refine (has_any _ N _ E a b (HS.out.ext (by repeat (first | exact Ext.refl _ | assumption | exact Hid.out (by assumption) | refine Ext.alloc ?_ _ | refine Ext.drew ?_ | refine Ext.drewN ?_ _ | refine Ext.trans ?_ (by assumption)))) true HM.out).mono ?_; rintro e w2 ⟨rfl, x2⟩; have y2 := x1.trans x2; obtain ⟨⟨s0, s1⟩, ⟨t0, t1⟩, g0, g1⟩ := HK.out w2 y2)
    | (go_at_call 27; refine (between_any _ a b).mono ?_; rintro e w3 ⟨rfl, x3⟩; have y3 := y2.trans x3))
  go_region_held3 (fun V => V.cell? ⟨w.heap.size, 0, none⟩ = some (.int .i64 N) ∧ V.cell? ⟨w.heap.size, 1, none⟩ = some (.slice ao E.length c)) (exact HK1.out _ (by first | exact low_two (by repeat (first | exact Ext.refl _ | assumption | exact Hid.out (by assumption) | refine Ext.alloc ?_ _ | refine Ext.drew ?_ | refine Ext.drewN ?_ _ | refine Ext.trans ?_ (by assumption))) | exact below_set (low_two (by repeat (first | exact Ext.refl _ | assumption | exact Hid.out (by assumption) | refine Ext.alloc ?_ _ | refine Ext.drew ?_ | refine Ext.drewN ?_ _ | refine Ext.trans ?_ (by assumption)))) (by simp) _ | exact below_set (below_set (low_two (by repeat (first | exact Ext.refl _ | assumption | exact Hid.out (by assumption) | refine Ext.alloc ?_ _ | refine Ext.drew ?_ | refine Ext.drewN ?_ _ | refine Ext.trans ?_ (by assumption)))) (by simp) _) (by simp) _))
    (first
    | (go_at_call 25; refine (those_e _ N _ _ E _ (HS.out.ext (by repeat (first | exact Ext.refl _ | assumption | exact Hid.out (by assumption) | refine Ext.alloc ?_ _ | refine Ext.drew ?_ | refine Ext.drewN ?_ _ | refine Ext.trans ?_ (by assumption)))) (other_tells _ _ (min a b) (max a b) (by first | (simp; done) | (simp; omega)) (by exact blk_cell (get_alloc_new _ _) 0 rfl) (by exact blk_cell (get_alloc_new _ _) 1 rfl)) (by omega)).mono ?_; rintro e w4 ⟨v4, rfl, ho, x4⟩; have y4 := Ext.trans y3 (Ext.trans (by exact (by repeat (first | exact Ext.refl _ | assumption | refine Ext.alloc ?_ _ | refine Ext.drew ?_ | refine Ext.drewN ?_ _))) x4); obtain ⟨ao4, n4, q4, rfl⟩ := ho.sh; have O4 := Lib.hid ho; obtain ⟨⟨i0, i1⟩, ⟨j0, j1⟩, l0, l1⟩ := HK.out w4 y4; clear ho x4))
  all_goals go_wp2
  all_goals
    have hz := y3.size
    rw [size_alloc, size_alloc] at hz
    exact bodyPost_ret (v := .tuple #[.agg #[.int .i64 N, .slice ao4 n4 q4], .int .i64 0]) (by simp [results, Try.results12, go_sem, j0, j1]) rfl ⟨_, rfl, ((O4.out.set (by simp; omega) _).set (by simp; omega) _).sl, below_set (below_set ((ext_two w _ _).trans y4) (by simp) _) (by simp) _⟩

theorem parts_of {E : List Edge} (x : Edge) (h : Rises E) (hx : x ∉ E) : (E.filter fun e => ord e x == -1) ++ ([x] ++ (E.filter fun e => ord e x == 1)) = insE x E := by
  rw [← insE_parts h hx]
  have h1 : (fun e => ord e x == -1) = (fun e => ahead e x) := funext fun e => by rw [← ord_neg]; rfl
  have h2 : (fun e => ord e x == 1) = (fun e => ahead x e) := funext fun e => by rw [← ord_pos]; rfl
  rw [h1, h2]

theorem cell_new {w : World} {cs : Array Value} {t : TypeId} {i n : Nat} {u : Value} (hn : n = w.heap.size) (hu : cs[i]? = some u) : (w.alloc (.cells cs t (0, 0))).cell? ⟨n, i, none⟩ = some u := by
  subst hn
  exact blk_cell (get_alloc_new _ _) i hu

set_option maxHeartbeats 4000000 in
theorem add_yes (w : World) (N : Int) (v : Value) (E : List Edge) (a b : Int) (h : Sl w v E) (hr : addR N E a b = 0) :
    Calls Try.prog 9 #[.agg #[.int .i64 N, v], .int .i64 a, .int .i64 b] w (GivesG w N (insE (btw a b) E) 0) := by
  have he : ends N E a b = 0 := by
    rcases Classical.em (ends N E a b = 0) with he | he
    · exact he
    · unfold addR at hr; rwa [if_neg he] at hr
  have ok : OkG N E := by
    rcases Classical.em (OkG N E) with o | o
    · exact o
    · rw [ends_bad o] at he; omega
  unfold addR at hr
  rw [if_pos he] at hr
  have hm : btw a b ∉ E := fun hm => by rw [if_pos hm] at hr; omega
  rw [if_neg hm] at hr
  have hl : E.length ≠ 400 := fun hl => by rw [if_pos hl] at hr; omega
  have HP := Lib.hid (parts_of (btw a b) ok.rise hm)
  have hlen : E.length ≤ 1000 := by have := ok.few; omega
  clear hr ok
  obtain ⟨ao, c, rfl⟩ := h.len
  have HS := Lib.hid (h.ext (ext_two w (.cells #[.int .i64 N, .slice ao E.length c] 24) (.cells #[.int .i64 0, .slice none 0 0] 24)))
  clear h
  have HK := Lib.hid (two_graphs w N (.slice ao E.length c))
  have HK1 := Lib.hid (one_graph w N (.slice ao E.length c))
  have HE := Lib.hid he
  have HM := Lib.hid (decide_eq_false hm)
  have hll : ((E.length : Int) == 400) = false := by simp; omega
  have hfl : ∀ p : Edge → Bool, (E.filter p).length ≤ 1000 := fun p => Nat.le_trans (List.length_filter_le _ _) hlen
  have HF := Lib.hid hfl
  clear he hm hl hfl
  go_enter Try.func9, Try.ntmps9
  go_wp2_with (first
    | (go_at_call 23; refine (checkEnds_any _ N _ E a b (HS.out.ext (by repeat (first | exact Ext.refl _ | assumption | refine Ext.alloc ?_ _ | refine Ext.drew ?_ | refine Ext.drewN ?_ _))) 0 HE.out).mono ?_; rintro e w1 ⟨rfl, x1⟩; obtain ⟨⟨p0, p1⟩, ⟨q0, q1⟩, f0, f1⟩ := HK.out w1 x1)
    | (go_at_call 16; refine (has_any _ N _ E a b (HS.out.ext (by repeat (first | exact Ext.refl _ | assumption | exact Hid.out (by assumption) | refine Ext.alloc ?_ _ | refine Ext.drew ?_ | refine Ext.drewN ?_ _ | refine Ext.trans ?_ (by assumption)))) false HM.out).mono ?_; rintro e w2 ⟨rfl, x2⟩; have y2 := x1.trans x2; obtain ⟨⟨s0, s1⟩, ⟨t0, t1⟩, g0, g1⟩ := HK.out w2 y2))
  go_region_held3 (fun V => V.cell? ⟨w.heap.size, 0, none⟩ = some (.int .i64 N) ∧ V.cell? ⟨w.heap.size, 1, none⟩ = some (.slice ao E.length c)) (exact HK1.out _ (low_two (by repeat (first | exact Ext.refl _ | assumption | exact Hid.out (by assumption) | refine Ext.alloc ?_ _ | refine Ext.drew ?_ | refine Ext.drewN ?_ _ | refine Ext.trans ?_ (by assumption)))))
    (first
    | (go_at_call 26; have hgd := HT1; refine (against_any _ a b 1).mono ?_; rintro e w6 ⟨fv2, rfl, ht2, x6⟩; obtain ⟨g2, lb2, rfl⟩ := ht2.sh; have HT2 := Lib.hid ht2; clear ht2 hgd)
    | (go_at_call 26; refine (against_any _ a b (-1)).mono ?_; rintro e w3 ⟨fv1, rfl, ht1, x3⟩; obtain ⟨g1, lb1, rfl⟩ := ht1.sh; have HT1 := Lib.hid ht1; clear ht1)
    | (go_at_call 25; have hgd := HT2; refine (those_e _ N _ _ E _ (HS.out.ext (by repeat (first | exact Ext.refl _ | assumption | exact Hid.out (by assumption) | refine Ext.alloc ?_ _ | refine Ext.drew ?_ | refine Ext.drewN ?_ _ | refine Ext.trans ?_ (by assumption)))) (HT2.out.ext (by repeat (first | exact Ext.refl _ | assumption | exact Hid.out (by assumption) | refine Ext.alloc ?_ _ | refine Ext.drew ?_ | refine Ext.drewN ?_ _ | refine Ext.trans ?_ (by assumption)))) (by omega)).mono ?_; rintro e w7 ⟨v2, rfl, ho2, x7⟩; obtain ⟨a2, n2, q2, rfl⟩ := ho2.sh; have S2 := Lib.hid ho2.sl; clear ho2 hgd)
    | (go_at_call 25; refine (those_e _ N _ _ E _ (HS.out.ext (by repeat (first | exact Ext.refl _ | assumption | exact Hid.out (by assumption) | refine Ext.alloc ?_ _ | refine Ext.drew ?_ | refine Ext.drewN ?_ _ | refine Ext.trans ?_ (by assumption)))) (HT1.out.ext (by repeat (first | exact Ext.refl _ | assumption | exact Hid.out (by assumption) | refine Ext.alloc ?_ _ | refine Ext.drew ?_ | refine Ext.drewN ?_ _ | refine Ext.trans ?_ (by assumption)))) (by omega)).mono ?_; rintro e w4 ⟨v1, rfl, ho1, x4⟩; obtain ⟨a1, n1, q1, rfl⟩ := ho1.sh; have S1 := Lib.hid ho1.sl; clear ho1)
    | (go_at_call 27; refine (between_any _ a b).mono ?_; rintro e w5 ⟨rfl, x5⟩)
    | (go_at_call 24; (first
      | (refine (concat_e _ _ (.slice a1 n1 q1) (.slice (some ⟨w5.heap.size, 0, none⟩) 1 1) (.slice a2 n2 q2) (E.filter fun e => ord e (btw a b) == -1) [btw a b] (E.filter fun e => ord e (btw a b) == 1) ?_ ?_ ?_ ?_ ?_ ?_ ?_ (HF.out _) (by simp) (HF.out _)).mono ?_; exact (by simp); exact cell_new (by simp) rfl; exact cell_new (by simp) rfl; exact cell_new (by simp) rfl; exact S1.out.ext (by repeat (first | exact Ext.refl _ | assumption | exact Hid.out (by assumption) | refine Ext.alloc ?_ _ | refine Ext.drew ?_ | refine Ext.drewN ?_ _ | refine Ext.trans ?_ (by assumption))); exact Sl.ext (Sl.litAt w5 _ rfl [btw a b] (by simp)) (by repeat (first | exact Ext.refl _ | assumption | exact Hid.out (by assumption) | refine Ext.alloc ?_ _ | refine Ext.drew ?_ | refine Ext.drewN ?_ _ | refine Ext.trans ?_ (by assumption))); exact S2.out.ext (by repeat (first | exact Ext.refl _ | assumption | exact Hid.out (by assumption) | refine Ext.alloc ?_ _ | refine Ext.drew ?_ | refine Ext.drewN ?_ _ | refine Ext.trans ?_ (by assumption))))
      | (refine (concat_e _ _ (.slice a1 n1 q1) (.slice (some ⟨w6.heap.size, 0, none⟩) 1 1) (.slice a2 n2 q2) (E.filter fun e => ord e (btw a b) == -1) [btw a b] (E.filter fun e => ord e (btw a b) == 1) ?_ ?_ ?_ ?_ ?_ ?_ ?_ (HF.out _) (by simp) (HF.out _)).mono ?_; exact (by simp); exact cell_new (by simp) rfl; exact cell_new (by simp) rfl; exact cell_new (by simp) rfl; exact S1.out.ext (by repeat (first | exact Ext.refl _ | assumption | exact Hid.out (by assumption) | refine Ext.alloc ?_ _ | refine Ext.drew ?_ | refine Ext.drewN ?_ _ | refine Ext.trans ?_ (by assumption))); exact Sl.ext (Sl.litAt w6 _ rfl [btw a b] (by simp)) (by repeat (first | exact Ext.refl _ | assumption | exact Hid.out (by assumption) | refine Ext.alloc ?_ _ | refine Ext.drew ?_ | refine Ext.drewN ?_ _ | refine Ext.trans ?_ (by assumption))); exact S2.out.ext (by repeat (first | exact Ext.refl _ | assumption | exact Hid.out (by assumption) | refine Ext.alloc ?_ _ | refine Ext.drew ?_ | refine Ext.drewN ?_ _ | refine Ext.trans ?_ (by assumption))))
      | (refine (concat_e _ _ (.slice a1 n1 q1) (.slice (some ⟨w7.heap.size, 0, none⟩) 1 1) (.slice a2 n2 q2) (E.filter fun e => ord e (btw a b) == -1) [btw a b] (E.filter fun e => ord e (btw a b) == 1) ?_ ?_ ?_ ?_ ?_ ?_ ?_ (HF.out _) (by simp) (HF.out _)).mono ?_; exact (by simp); exact cell_new (by simp) rfl; exact cell_new (by simp) rfl; exact cell_new (by simp) rfl; exact S1.out.ext (by repeat (first | exact Ext.refl _ | assumption | exact Hid.out (by assumption) | refine Ext.alloc ?_ _ | refine Ext.drew ?_ | refine Ext.drewN ?_ _ | refine Ext.trans ?_ (by assumption))); exact Sl.ext (Sl.litAt w7 _ rfl [btw a b] (by simp)) (by repeat (first | exact Ext.refl _ | assumption | exact Hid.out (by assumption) | refine Ext.alloc ?_ _ | refine Ext.drew ?_ | refine Ext.drewN ?_ _ | refine Ext.trans ?_ (by assumption))); exact S2.out.ext (by repeat (first | exact Ext.refl _ | assumption | exact Hid.out (by assumption) | refine Ext.alloc ?_ _ | refine Ext.drew ?_ | refine Ext.drewN ?_ _ | refine Ext.trans ?_ (by assumption))))); rintro e w8 ⟨v8, rfl, ho8, x8⟩; obtain ⟨a8, n8, q8, rfl⟩ := ho8.sh; have O8 := Lib.hid ho8; have y8 : Ext ((w.alloc (.cells #[.int .i64 N, .slice ao E.length c] 24)).alloc (.cells #[.int .i64 0, .slice none 0 0] 24)) w8 := (by repeat (first | exact Ext.refl _ | assumption | exact Hid.out (by assumption) | refine Ext.alloc ?_ _ | refine Ext.drew ?_ | refine Ext.drewN ?_ _ | refine Ext.trans ?_ (by assumption))); obtain ⟨⟨i0, i1⟩, ⟨j0, j1⟩, l0, l1⟩ := HK.out w8 y8; clear ho8))
  all_goals go_wp2
  all_goals
    have hz : w.heap.size + 2 ≤ w7.heap.size := by
      have y7 : Ext ((w.alloc (.cells #[.int .i64 N, .slice ao E.length c] 24)).alloc (.cells #[.int .i64 0, .slice none 0 0] 24)) w7 := (by repeat (first | exact Ext.refl _ | assumption | exact Hid.out (by assumption) | refine Ext.alloc ?_ _ | refine Ext.drew ?_ | refine Ext.drewN ?_ _ | refine Ext.trans ?_ (by assumption)))
      have := y7.size
      rw [size_alloc, size_alloc] at this
      exact this
    exact bodyPost_ret (v := .tuple #[.agg #[.int .i64 N, .slice a8 n8 q8], .int .i64 0]) (by simp [results, Try.results9, go_sem, j0, j1]) rfl ⟨_, rfl, by rw [← HP.out]; exact ((O8.out.set (by simp; omega) _).set (by simp; omega) _).sl, below_set (below_set ((ext_two w _ _).trans y8) (by simp) _) (by simp) _⟩

end Go.Proofs.Ytanflbjbcncklaa
