/- Flipped at a node arcs don't lead round, if they didn't; nor with one more arc to it. -/
import Derived.Test.YthofgfdhcndpbaaL4
import Derived.Deep.RegionHeld3
namespace Go.Proofs.Ythofgfdhcndpbaa
open Go.RowKit

def ddS (acc : List Arc) (y : Arc) : List Arc := if y ∈ acc then acc else acc ++ [y]
def dd (L : List Arc) : List Arc := L.foldl ddS []
theorem dd_snoc (L : List Arc) (y : Arc) : dd (L ++ [y]) = ddS (dd L) y := by unfold dd; rw [List.foldl_append]; rfl
theorem dd_spec (L : List Arc) : (dd L).Nodup ∧ (∀ y, y ∈ dd L ↔ y ∈ L) ∧ (dd L).length ≤ L.length := by
  refine snoc_ind (P := fun L => (dd L).Nodup ∧ (∀ y, y ∈ dd L ↔ y ∈ L) ∧ (dd L).length ≤ L.length) ⟨by simp [dd], by simp [dd], by simp [dd]⟩ (fun L x ih => ?_) L
  obtain ⟨h1, h2, h3⟩ := ih
  rw [dd_snoc]
  unfold ddS
  split
  · next hm =>
    refine ⟨h1, fun y => ?_, by simp; omega⟩
    rw [h2, List.mem_append, List.mem_singleton]
    constructor
    · exact .inl
    · rintro (h | rfl)
      · exact h
      · exact (h2 y).1 hm
  · next hm =>
    refine ⟨List.nodup_append.2 ⟨h1, by simp, fun a ha b hb => by rw [List.mem_singleton] at hb; subst hb; exact fun e => hm (e ▸ ha)⟩, fun y => ?_, by simp; omega⟩
    rw [List.mem_append, List.mem_append, h2]
theorem bound_rank (r : Int → Nat) (E : List Arc) : ∃ M, ∀ x ∈ E, r x.a < M ∧ r x.b < M := by
  induction E with
  | nil => exact ⟨0, by simp⟩
  | cons x E ih =>
    obtain ⟨M, hM⟩ := ih
    refine ⟨max M (max (r x.a + 1) (r x.b + 1)), fun y hy => ?_⟩
    rcases List.mem_cons.1 hy with rfl | hy
    · omega
    · have := hM y hy; omega
structure Flipped (N : Int) (E : List Arc) (v u : Int) : Prop where
  ok : OkD N (dd (flipD E v))
  ord : ordB N (dd (flipD E v)) = true
  sink : decide (v ∈ sinksL N (dd (flipD E v))) = true
  few : (dd (flipD E v)).length ≤ E.length
  more : (⟨u, v⟩ : Arc) ∉ dd (flipD E v) → ordB N (dd (flipD E v) ++ [⟨u, v⟩]) = true
theorem flipped_ok {N : Int} {E : List Arc} {v u : Int} (h : ordB N E = true) (hl : E.length ≤ 60) (hv : 0 ≤ v ∧ v < N) (hu : 0 ≤ u ∧ u < N) (hne : u ≠ v) : Flipped N E v u := by
  obtain ⟨ok, he⟩ := ordB_iff.1 h
  obtain ⟨r, hr⟩ := (peeled_iff ok).1 he
  obtain ⟨M0, hM0⟩ := bound_rank r E
  obtain ⟨d1, d2, d3⟩ := dd_spec (flipD E v)
  have hfl : (flipD E v).length = E.length := by unfold flipD; simp
  obtain ⟨X, hX⟩ : ∃ X, X = dd (flipD E v) := ⟨_, rfl⟩
  rw [← hX] at d1 d2 d3
  have mem : ∀ y ∈ X, ∃ x ∈ E, y = flipA v x := fun y hy => by
    have := (d2 y).1 hy
    obtain ⟨x, hx, e⟩ := List.mem_map.1 this
    exact ⟨x, hx, e.symm⟩
  have each : ∀ y ∈ X, 0 ≤ y.a ∧ y.a < N ∧ 0 ≤ y.b ∧ y.b < N ∧ y.a ≠ y.b := fun y hy => by
    obtain ⟨x, hx, rfl⟩ := mem y hy
    have := ok.each x hx
    unfold flipA
    split
    · next e => rw [← e]; exact ⟨this.2.2.1, this.2.2.2.1, this.1, this.2.1, fun c => this.2.2.2.2 c.symm⟩
    · exact this
  have okX : OkD N X := ⟨ok.n0, ok.n64, by have := ok.few; omega, each, d1⟩
  have nofrom : ∀ y ∈ X, y.a ≠ v := fun y hy => by
    obtain ⟨x, hx, rfl⟩ := mem y hy
    have := ok.each x hx
    unfold flipA
    split
    · next e => exact fun c => this.2.2.2.2 (e.trans c.symm)
    · next e => exact e
  have rk : ∀ y ∈ X, (if y.a = v then max M0 (r u + 1) else r y.a) < (if y.b = v then max M0 (r u + 1) else r y.b) := fun y hy => by
    rw [if_neg (nofrom y hy)]
    obtain ⟨x, hx, e⟩ := mem y hy
    have h1 := hM0 x hx
    have h2 := hr x hx
    unfold flipA at e
    split at e
    · subst e
      rw [if_pos rfl]
      show r x.b < _
      omega
    · subst e
      split <;> omega
  have ordX : ordB N X = true := ordB_iff.2 ⟨okX, (peeled_iff okX).2 ⟨fun z => if z = v then max M0 (r u + 1) else r z, rk⟩⟩
  have fl : Flipped N E v u ↔ (OkD N X ∧ ordB N X = true ∧ decide (v ∈ sinksL N X) = true ∧ X.length ≤ E.length ∧ ((⟨u, v⟩ : Arc) ∉ X → ordB N (X ++ [⟨u, v⟩]) = true)) := by
    subst hX
    exact ⟨fun h => ⟨h.1, h.2, h.3, h.4, h.5⟩, fun ⟨a, b, c, d, e⟩ => ⟨a, b, c, d, e⟩⟩
  refine fl.2 ⟨okX, ordX, ?_, by omega, fun hn => ?_⟩
  · rw [decide_eq_true_eq]
    unfold sinksL
    rw [if_pos (okD_iff.2 okX), List.mem_filter, mem_upto]
    refine ⟨by omega, ?_⟩
    unfold isSink
    rw [Bool.not_eq_true']
    refine List.any_eq_false.2 fun y hy => ?_
    rw [decide_eq_true_eq]
    exact nofrom y hy
  · have ok2 : OkD N (X ++ [⟨u, v⟩]) := by
      refine ⟨ok.n0, ok.n64, by rw [List.length_append, List.length_singleton]; omega, fun y hy => ?_, List.nodup_append.2 ⟨d1, by simp, fun a ha b hb => by rw [List.mem_singleton] at hb; subst hb; exact fun e => hn (e ▸ ha)⟩⟩
      rcases List.mem_append.1 hy with hy | hy
      · exact each y hy
      · rw [List.mem_singleton] at hy
        subst hy
        exact ⟨hu.1, hu.2, hv.1, hv.2, hne⟩
    refine ordB_iff.2 ⟨ok2, (peeled_iff ok2).2 ⟨fun z => if z = v then max M0 (r u + 1) else r z, fun y hy => ?_⟩⟩
    rcases List.mem_append.1 hy with hy | hy
    · exact rk y hy
    · rw [List.mem_singleton] at hy
      subst hy
      show (if u = v then _ else r u) < (if v = v then _ else _)
      rw [if_neg hne, if_pos rfl]
      omega

set_option maxHeartbeats 1000000 in
theorem lawHas_val (w : World) (v : Value) (E : List Arc) (xa xb : Int) (h : Sl w v E) (r : Bool) (hr : decide ((⟨xa, xb⟩ : Arc) ∈ E) = r) : Calls Try.prog 31 #[v, .agg #[.int .i64 xa, .int .i64 xb]] w fun e w' => e = .returned (.bool r) ∧ Ext w w' := by
  subst hr
  obtain ⟨ao, c, rfl⟩ := h.len
  have hle := h.length_le
  have HS := Lib.hid h
  clear h
  have HG : Hid (∀ W, Ext (w.alloc (.cells #[.int .i64 xa, .int .i64 xb] 38)) W → W.cell? ⟨w.heap.size, 0, none⟩ = some (.int .i64 xa) ∧ W.cell? ⟨w.heap.size, 1, none⟩ = some (.int .i64 xb)) := Lib.hid fun W hW => ⟨cell_at W hW rfl, cell_at W hW rfl⟩
  go_enter Try.func31, Try.ntmps31
  go_wp2
  go_loopw [5] (fun i wr => ∃ k : Nat, k ≤ E.length ∧ i = .int .i64 k ∧ Hid ((⟨xa, xb⟩ : Arc) ∉ E.take k) ∧ Hid (Ext (w.alloc (.cells #[.int .i64 xa, .int .i64 xb] 38)) wr)) (fun i _ => E.length - (intOf i).toNat)
  case atStart => exact ⟨0, Nat.zero_le _, rfl, Lib.hid (by simp), Lib.hid (Ext.refl _)⟩
  case round =>
    obtain ⟨k, hk, rfl, HT, HX⟩ := hrel
    by_cases hlt : k < E.length
    · obtain ⟨b, off, hao, hq1, hnc, hc63, hb, hya0, hyb0⟩ := HS.out.arcsAt hlt
      subst hao
      obtain ⟨⟨ya, yb⟩, hy⟩ : ∃ y, y = E.getD k ⟨0, 0⟩ := ⟨_, rfl⟩
      rw [← hy] at hya0 hyb0
      have HN : Hid (E.take (k + 1) = E.take k ++ [⟨ya, yb⟩]) := Lib.hid (by rw [take_next hlt ⟨0, 0⟩, ← hy])
      have HM : Hid ((⟨ya, yb⟩ : Arc) ∈ E) := Lib.hid (by rw [hy, getD_at hlt]; exact List.getElem_mem hlt)
      have HK : Hid (∀ W, Ext wr W → (W.cell? ⟨b, off + k * 2, none⟩ = some (.int .i64 ya) ∧ W.cell? ⟨b, off + k * 2 + 1, none⟩ = some (.int .i64 yb)) ∧ W.cell? ⟨w.heap.size, 0, none⟩ = some (.int .i64 xa) ∧ W.cell? ⟨w.heap.size, 1, none⟩ = some (.int .i64 xb)) := Lib.hid fun W hW => by
        have X := Ext.trans ((Ext.refl w).alloc _) (HX.out.trans hW)
        exact ⟨⟨(X.cell (p := ⟨b, off + k * 2, none⟩) hb).trans hya0, (X.cell (p := ⟨b, off + k * 2 + 1, none⟩) hb).trans hyb0⟩, HG.out W (HX.out.trans hW)⟩
      clear hy hya0 hyb0 hq1
      obtain ⟨s, hs⟩ : ∃ s, decide ((⟨ya, yb⟩ : Arc) = ⟨xa, xb⟩) = s := ⟨_, rfl⟩
      have HQ := Lib.hid (eq_a ya yb xa xb s hs)
      have HB := Lib.hid hs
      clear hs
      cases s
      all_goals
        obtain ⟨hq, hq2⟩ := HQ.out
        go_wp2_with fail
        go_region_held3 (fun W => (W.cell? ⟨b, off + k * 2, none⟩ = some (.int .i64 ya) ∧ W.cell? ⟨b, off + k * 2 + 1, none⟩ = some (.int .i64 yb)) ∧ W.cell? ⟨w.heap.size, 0, none⟩ = some (.int .i64 xa) ∧ W.cell? ⟨w.heap.size, 1, none⟩ = some (.int .i64 xb)) (exact HK.out _ (by repeat (first | exact Ext.refl _ | assumption | refine Ext.alloc ?_ _ | refine Ext.drew ?_ | refine Ext.drewN ?_ _))) (fail)
        go_wp2
      · go_roundw
        case rel => exact ⟨k + 1, by omega, by go_num, Lib.hid (by rw [HN.out]; simp only [List.mem_append, List.mem_singleton]; exact fun e => e.elim HT.out (fun e => of_decide_eq_false HB.out e.symm)), Lib.hid (by first | exact HX.out.drew | exact HX.out.drewN _ | exact HX.out)⟩
        case measure => simp [intOf]; omega
      · go_ret
        exact ⟨ret_bool (by rw [← of_decide_eq_true HB.out, decide_eq_true HM.out]), Ext.trans ((Ext.refl w).alloc _) (by first | exact HX.out.drew | exact HX.out.drewN _ | exact HX.out)⟩
    · have hkl : k = E.length := by omega
      go_wp2
      go_ret
      exact ⟨ret_bool (by have := HT.out; rw [hkl, List.take_length] at this; rw [decide_eq_false this]), Ext.trans ((Ext.refl w).alloc _) HX.out⟩

theorem dagSink_long (w : World) (N : Int) (ao : Option Addr) (c : Nat) (E : List Arc) (v u : Int) (h : Sl w (.slice ao E.length c) E) (hf : fewB N E.length = false) :
    Calls Try.prog 7 #[.int .i64 N, .slice ao E.length c, .int .i64 v, .int .i64 u] w (GivesB w (.bool true)) := by
  have n1 := h.length_le
  have HF := Lib.hid hf
  clear h hf
  go_enter Try.func7, Try.ntmps7
  go_wp2_with (first
    | (go_at_call 10; have hgd := x1; refine (awake_any _).mono ?_; rintro e w2 ⟨rfl, x2⟩; clear hgd)
    | (go_at_call 10; refine (awake_any _).mono ?_; rintro e w1 ⟨rfl, x1⟩)
    | (go_at_call 11; refine (few_val _ _ ao E.length c n1 false HF.out).mono ?_; rintro e w9 ⟨rfl, rfl⟩))
  go_ret
  exact ⟨rfl, (by repeat (first | exact Ext.refl _ | assumption | exact Hid.out (by assumption) | refine Ext.alloc ?_ _ | refine Ext.drew ?_ | refine Ext.drewN ?_ _ | refine Ext.trans ?_ (by assumption)))⟩

set_option maxRecDepth 100000 in
set_option maxHeartbeats 8000000 in
theorem dagSink_short (w : World) (N : Int) (ao : Option Addr) (c : Nat) (E : List Arc) (v u : Int) (h : Sl w (.slice ao E.length c) E) (hf : fewB N E.length = true) :
    Calls Try.prog 7 #[.int .i64 N, .slice ao E.length c, .int .i64 v, .int .i64 u] w (GivesB w (.bool true)) := by
  have n1 := h.length_le
  have hl60 : E.length ≤ 60 := by simp only [fewB, Bool.and_eq_true, decide_eq_true_eq] at hf; exact hf.1
  have HF := Lib.hid hf
  have Sg := Lib.hid h
  clear h hf
  by_cases ok : OkD N E
  · have HC := Lib.hid (chkD_of ok)
    have h64 := ok.n64
    by_cases g1 : v < 0
    · clear ok
      go_enter Try.func7, Try.ntmps7
      go_wp2_with (first
        | (go_at_call 10; have hgd := x3; refine (awake_any _).mono ?_; rintro e w4 ⟨rfl, x4⟩; clear hgd)
        | (go_at_call 10; refine (awake_any _).mono ?_; rintro e w1 ⟨rfl, x1⟩)
        | (go_at_call 11; refine (few_val _ _ ao E.length c n1 true HF.out).mono ?_; rintro e w9 ⟨rfl, rfl⟩)
        | (go_at_call 13; refine (own_any _ _ E (Sg.out.ext (by repeat (first | exact Ext.refl _ | assumption | exact Hid.out (by assumption) | refine Ext.alloc ?_ _ | refine Ext.drew ?_ | refine Ext.drewN ?_ _ | refine Ext.trans ?_ (by assumption)))) (by omega)).mono ?_; rintro e w2 ⟨v2, rfl, s2, x2⟩; obtain ⟨ao2, n2, c2, rfl⟩ := s2.sh; have S2 := Lib.hid s2.sl; clear s2)
        | (go_at_call 18; refine (check_any _ N _ E (S2.out.ext (by repeat (first | exact Ext.refl _ | assumption | exact Hid.out (by assumption) | refine Ext.alloc ?_ _ | refine Ext.drew ?_ | refine Ext.drewN ?_ _ | refine Ext.trans ?_ (by assumption)))) 0 HC.out).mono ?_; rintro e w3 ⟨rfl, x3⟩))
      go_ret
      exact ⟨rfl, (by repeat (first | exact Ext.refl _ | assumption | exact Hid.out (by assumption) | refine Ext.alloc ?_ _ | refine Ext.drew ?_ | refine Ext.drewN ?_ _ | refine Ext.trans ?_ (by assumption)))⟩
    by_cases g2 : N ≤ v
    · clear ok
      go_enter Try.func7, Try.ntmps7
      go_wp2_with (first
        | (go_at_call 10; have hgd := x3; refine (awake_any _).mono ?_; rintro e w4 ⟨rfl, x4⟩; clear hgd)
        | (go_at_call 10; refine (awake_any _).mono ?_; rintro e w1 ⟨rfl, x1⟩)
        | (go_at_call 11; refine (few_val _ _ ao E.length c n1 true HF.out).mono ?_; rintro e w9 ⟨rfl, rfl⟩)
        | (go_at_call 13; refine (own_any _ _ E (Sg.out.ext (by repeat (first | exact Ext.refl _ | assumption | exact Hid.out (by assumption) | refine Ext.alloc ?_ _ | refine Ext.drew ?_ | refine Ext.drewN ?_ _ | refine Ext.trans ?_ (by assumption)))) (by omega)).mono ?_; rintro e w2 ⟨v2, rfl, s2, x2⟩; obtain ⟨ao2, n2, c2, rfl⟩ := s2.sh; have S2 := Lib.hid s2.sl; clear s2)
        | (go_at_call 18; refine (check_any _ N _ E (S2.out.ext (by repeat (first | exact Ext.refl _ | assumption | exact Hid.out (by assumption) | refine Ext.alloc ?_ _ | refine Ext.drew ?_ | refine Ext.drewN ?_ _ | refine Ext.trans ?_ (by assumption)))) 0 HC.out).mono ?_; rintro e w3 ⟨rfl, x3⟩))
      go_ret
      exact ⟨rfl, (by repeat (first | exact Ext.refl _ | assumption | exact Hid.out (by assumption) | refine Ext.alloc ?_ _ | refine Ext.drew ?_ | refine Ext.drewN ?_ _ | refine Ext.trans ?_ (by assumption)))⟩
    by_cases g3 : u < 0
    · clear ok
      go_enter Try.func7, Try.ntmps7
      go_wp2_with (first
        | (go_at_call 10; have hgd := x3; refine (awake_any _).mono ?_; rintro e w4 ⟨rfl, x4⟩; clear hgd)
        | (go_at_call 10; refine (awake_any _).mono ?_; rintro e w1 ⟨rfl, x1⟩)
        | (go_at_call 11; refine (few_val _ _ ao E.length c n1 true HF.out).mono ?_; rintro e w9 ⟨rfl, rfl⟩)
        | (go_at_call 13; refine (own_any _ _ E (Sg.out.ext (by repeat (first | exact Ext.refl _ | assumption | exact Hid.out (by assumption) | refine Ext.alloc ?_ _ | refine Ext.drew ?_ | refine Ext.drewN ?_ _ | refine Ext.trans ?_ (by assumption)))) (by omega)).mono ?_; rintro e w2 ⟨v2, rfl, s2, x2⟩; obtain ⟨ao2, n2, c2, rfl⟩ := s2.sh; have S2 := Lib.hid s2.sl; clear s2)
        | (go_at_call 18; refine (check_any _ N _ E (S2.out.ext (by repeat (first | exact Ext.refl _ | assumption | exact Hid.out (by assumption) | refine Ext.alloc ?_ _ | refine Ext.drew ?_ | refine Ext.drewN ?_ _ | refine Ext.trans ?_ (by assumption)))) 0 HC.out).mono ?_; rintro e w3 ⟨rfl, x3⟩))
      go_ret
      exact ⟨rfl, (by repeat (first | exact Ext.refl _ | assumption | exact Hid.out (by assumption) | refine Ext.alloc ?_ _ | refine Ext.drew ?_ | refine Ext.drewN ?_ _ | refine Ext.trans ?_ (by assumption)))⟩
    by_cases g4 : N ≤ u
    · clear ok
      go_enter Try.func7, Try.ntmps7
      go_wp2_with (first
        | (go_at_call 10; have hgd := x3; refine (awake_any _).mono ?_; rintro e w4 ⟨rfl, x4⟩; clear hgd)
        | (go_at_call 10; refine (awake_any _).mono ?_; rintro e w1 ⟨rfl, x1⟩)
        | (go_at_call 11; refine (few_val _ _ ao E.length c n1 true HF.out).mono ?_; rintro e w9 ⟨rfl, rfl⟩)
        | (go_at_call 13; refine (own_any _ _ E (Sg.out.ext (by repeat (first | exact Ext.refl _ | assumption | exact Hid.out (by assumption) | refine Ext.alloc ?_ _ | refine Ext.drew ?_ | refine Ext.drewN ?_ _ | refine Ext.trans ?_ (by assumption)))) (by omega)).mono ?_; rintro e w2 ⟨v2, rfl, s2, x2⟩; obtain ⟨ao2, n2, c2, rfl⟩ := s2.sh; have S2 := Lib.hid s2.sl; clear s2)
        | (go_at_call 18; refine (check_any _ N _ E (S2.out.ext (by repeat (first | exact Ext.refl _ | assumption | exact Hid.out (by assumption) | refine Ext.alloc ?_ _ | refine Ext.drew ?_ | refine Ext.drewN ?_ _ | refine Ext.trans ?_ (by assumption)))) 0 HC.out).mono ?_; rintro e w3 ⟨rfl, x3⟩))
      go_ret
      exact ⟨rfl, (by repeat (first | exact Ext.refl _ | assumption | exact Hid.out (by assumption) | refine Ext.alloc ?_ _ | refine Ext.drew ?_ | refine Ext.drewN ?_ _ | refine Ext.trans ?_ (by assumption)))⟩
    by_cases g5 : u = v
    · have q5 : (u == v) = true := by simp [g5]
      clear ok g5
      go_enter Try.func7, Try.ntmps7
      go_wp2_with (first
        | (go_at_call 10; have hgd := x3; refine (awake_any _).mono ?_; rintro e w4 ⟨rfl, x4⟩; clear hgd)
        | (go_at_call 10; refine (awake_any _).mono ?_; rintro e w1 ⟨rfl, x1⟩)
        | (go_at_call 11; refine (few_val _ _ ao E.length c n1 true HF.out).mono ?_; rintro e w9 ⟨rfl, rfl⟩)
        | (go_at_call 13; refine (own_any _ _ E (Sg.out.ext (by repeat (first | exact Ext.refl _ | assumption | exact Hid.out (by assumption) | refine Ext.alloc ?_ _ | refine Ext.drew ?_ | refine Ext.drewN ?_ _ | refine Ext.trans ?_ (by assumption)))) (by omega)).mono ?_; rintro e w2 ⟨v2, rfl, s2, x2⟩; obtain ⟨ao2, n2, c2, rfl⟩ := s2.sh; have S2 := Lib.hid s2.sl; clear s2)
        | (go_at_call 18; refine (check_any _ N _ E (S2.out.ext (by repeat (first | exact Ext.refl _ | assumption | exact Hid.out (by assumption) | refine Ext.alloc ?_ _ | refine Ext.drew ?_ | refine Ext.drewN ?_ _ | refine Ext.trans ?_ (by assumption)))) 0 HC.out).mono ?_; rintro e w3 ⟨rfl, x3⟩))
      go_ret
      exact ⟨rfl, (by repeat (first | exact Ext.refl _ | assumption | exact Hid.out (by assumption) | refine Ext.alloc ?_ _ | refine Ext.drew ?_ | refine Ext.drewN ?_ _ | refine Ext.trans ?_ (by assumption)))⟩
    have q5 : (u == v) = false := by simp [g5]
    have e1 : decide (v < 0) = false := decide_eq_false g1
    have e2 : decide (N ≤ v) = false := decide_eq_false g2
    have e3 : decide (u < 0) = false := decide_eq_false g3
    have e4 : decide (N ≤ u) = false := decide_eq_false g4
    obtain ⟨b, hb⟩ : ∃ b, ordB N E = b := ⟨_, rfl⟩
    obtain ⟨X, hX⟩ : ∃ X, ordL N E = X := ⟨_, rfl⟩
    have HB := Lib.hid hb
    have HX := Lib.hid hX
    cases b
    · clear hb hX ok g5
      go_enter Try.func7, Try.ntmps7
      go_wp2_with (first
        | (go_at_call 13; have hgd := x3; refine (own_any _ _ E (Sg.out.ext (by repeat (first | exact Ext.refl _ | assumption | exact Hid.out (by assumption) | refine Ext.alloc ?_ _ | refine Ext.drew ?_ | refine Ext.drewN ?_ _ | refine Ext.trans ?_ (by assumption)))) (by omega)).mono ?_; rintro e w4 ⟨v4, rfl, s4, x4⟩; obtain ⟨ao4, n4, c4, rfl⟩ := s4.sh; have S4 := Lib.hid s4.sl; clear s4; clear hgd)
        | (go_at_call 13; refine (own_any _ _ E (Sg.out.ext (by repeat (first | exact Ext.refl _ | assumption | exact Hid.out (by assumption) | refine Ext.alloc ?_ _ | refine Ext.drew ?_ | refine Ext.drewN ?_ _ | refine Ext.trans ?_ (by assumption)))) (by omega)).mono ?_; rintro e w2 ⟨v2, rfl, s2, x2⟩; obtain ⟨ao2, n2, c2, rfl⟩ := s2.sh; have S2 := Lib.hid s2.sl; clear s2)
        | (go_at_call 12; refine (order_any _ N _ E (S4.out.ext (by repeat (first | exact Ext.refl _ | assumption | exact Hid.out (by assumption) | refine Ext.alloc ?_ _ | refine Ext.drew ?_ | refine Ext.drewN ?_ _ | refine Ext.trans ?_ (by assumption)))) X false HX.out HB.out).mono ?_; rintro e w5 ⟨v5, rfl, s5, x5⟩; obtain ⟨ao5, n5, c5, rfl⟩ := s5.sh; have S5 := Lib.hid s5.sl; clear s5)
        | (go_at_call 18; refine (check_any _ N _ E (S2.out.ext (by repeat (first | exact Ext.refl _ | assumption | exact Hid.out (by assumption) | refine Ext.alloc ?_ _ | refine Ext.drew ?_ | refine Ext.drewN ?_ _ | refine Ext.trans ?_ (by assumption)))) 0 HC.out).mono ?_; rintro e w3 ⟨rfl, x3⟩)
        | (go_at_call 10; refine (awake_any _).mono ?_; rintro e w1 ⟨rfl, x1⟩)
        | (go_at_call 11; refine (few_val _ _ ao E.length c n1 true HF.out).mono ?_; rintro e w9 ⟨rfl, rfl⟩))
      go_ret
      exact ⟨rfl, (by repeat (first | exact Ext.refl _ | assumption | exact Hid.out (by assumption) | refine Ext.alloc ?_ _ | refine Ext.drew ?_ | refine Ext.drewN ?_ _ | refine Ext.trans ?_ (by assumption)))⟩
    · have FL := flipped_ok hb hl60 ⟨by omega, by omega⟩ ⟨by omega, by omega⟩ g5
      obtain ⟨F, hF⟩ : ∃ F, F = flipD E v := ⟨_, rfl⟩
      have hFl : F.length = E.length := by rw [hF]; unfold flipD; simp
      obtain ⟨Y, hY⟩ : ∃ Y, Y = dd (flipD E v) := ⟨_, rfl⟩
      have HFL : Hid (OkD N Y ∧ ordB N Y = true ∧ decide (v ∈ sinksL N Y) = true ∧ Y.length ≤ E.length ∧ ((⟨u, v⟩ : Arc) ∉ Y → ordB N (Y ++ [⟨u, v⟩]) = true)) := Lib.hid (by subst hY; exact ⟨FL.1, FL.2, FL.3, FL.4, FL.5⟩)
      have HY : Hid (Y = dd F) := Lib.hid (by rw [hY, hF])
      have HFF := Lib.hid hF
      have hF60 : F.length ≤ 60 := by omega
      have HFL2 := Lib.hid hFl
      clear hb hX ok g5 FL hF hY hFl
      go_enter Try.func7, Try.ntmps7
      go_wp2_with (first
        | (go_at_call 13; have hgd := S5; refine (own_any _ _ E (Sg.out.ext (by repeat (first | exact Ext.refl _ | assumption | exact Hid.out (by assumption) | refine Ext.alloc ?_ _ | refine Ext.drew ?_ | refine Ext.drewN ?_ _ | refine Ext.trans ?_ (by assumption)))) (by omega)).mono ?_; rintro e w6 ⟨v6, rfl, s6, x6⟩; obtain ⟨ao6, n6, c6, rfl⟩ := s6.sh; have S6 := Lib.hid s6.sl; clear s6; clear hgd)
        | (go_at_call 13; have hgd := x3; refine (own_any _ _ E (Sg.out.ext (by repeat (first | exact Ext.refl _ | assumption | exact Hid.out (by assumption) | refine Ext.alloc ?_ _ | refine Ext.drew ?_ | refine Ext.drewN ?_ _ | refine Ext.trans ?_ (by assumption)))) (by omega)).mono ?_; rintro e w4 ⟨v4, rfl, s4, x4⟩; obtain ⟨ao4, n4, c4, rfl⟩ := s4.sh; have S4 := Lib.hid s4.sl; clear s4; clear hgd)
        | (go_at_call 13; refine (own_any _ _ E (Sg.out.ext (by repeat (first | exact Ext.refl _ | assumption | exact Hid.out (by assumption) | refine Ext.alloc ?_ _ | refine Ext.drew ?_ | refine Ext.drewN ?_ _ | refine Ext.trans ?_ (by assumption)))) (by omega)).mono ?_; rintro e w2 ⟨v2, rfl, s2, x2⟩; obtain ⟨ao2, n2, c2, rfl⟩ := s2.sh; have S2 := Lib.hid s2.sl; clear s2)
        | (go_at_call 12; refine (order_any _ N _ E (S4.out.ext (by repeat (first | exact Ext.refl _ | assumption | exact Hid.out (by assumption) | refine Ext.alloc ?_ _ | refine Ext.drew ?_ | refine Ext.drewN ?_ _ | refine Ext.trans ?_ (by assumption)))) X true HX.out HB.out).mono ?_; rintro e w5 ⟨v5, rfl, s5, x5⟩; obtain ⟨ao5, n5, c5, rfl⟩ := s5.sh; have S5 := Lib.hid s5.sl; clear s5)
        | (go_at_call 18; refine (check_any _ N _ E (S2.out.ext (by repeat (first | exact Ext.refl _ | assumption | exact Hid.out (by assumption) | refine Ext.alloc ?_ _ | refine Ext.drew ?_ | refine Ext.drewN ?_ _ | refine Ext.trans ?_ (by assumption)))) 0 HC.out).mono ?_; rintro e w3 ⟨rfl, x3⟩)
        | (go_at_call 10; refine (awake_any _).mono ?_; rintro e w1 ⟨rfl, x1⟩)
        | (go_at_call 11; refine (few_val _ _ ao E.length c n1 true HF.out).mono ?_; rintro e w9 ⟨rfl, rfl⟩)
        | (go_at_call 23; refine (flip_any _ _ E v (S6.out.ext (by repeat (first | exact Ext.refl _ | assumption | exact Hid.out (by assumption) | refine Ext.alloc ?_ _ | refine Ext.drew ?_ | refine Ext.drewN ?_ _ | refine Ext.trans ?_ (by assumption)))) (by omega)).mono ?_; rintro e w7 ⟨v7, rfl, s7, x7⟩; rw [← HFF.out] at s7; obtain ⟨ao7, c7, rfl⟩ := s7.sl.len; have O7 := Lib.hid s7; clear s7))
      have hlit : Ow w7 w5.heap.size (.slice (some ⟨w5.heap.size, 0, none⟩) 0 0) ([] : List Arc) := (Ow.litAt w5 _ _ rfl (Nat.le_refl _) [] (by simp)).ext (Ext.trans x6 x7)
      have hs6 : w5.heap.size + 1 ≤ w6.heap.size := by have := x6.size; rw [size_alloc] at this; exact this
      have TW : Hid (Two w5 w7 (.slice (some ⟨w5.heap.size, 0, none⟩) 0 0) (.slice ao7 F.length c7) [] F) := Lib.hid ⟨hlit, O7.out.mono (by omega), fun k e e' => by
        have h1 := (O7.out.low k e).1
        simp [Value.ownBlock] at e'
        omega, ((Ext.refl w5).alloc _).trans (Ext.trans x6 x7)⟩
      have X5 : Hid (Ext w w5) := Lib.hid (Ext.trans x1 (Ext.trans x2 (Ext.trans x3 (Ext.trans x4 x5))))
      clear hlit hs6
      go_loopw [11, 13] (fun s11 s13 wr => ∃ i : Nat, i ≤ F.length ∧ s13 = .int .i64 i ∧ Hid (Two w5 wr s11 (.slice ao7 F.length c7) (dd (F.take i)) F)) (fun _ s13 _ => F.length - (intOf s13).toNat)
      case atStart => exact ⟨0, Nat.zero_le _, rfl, TW⟩
      case round =>
        obtain ⟨i, hi, rfl, HT⟩ := hrel
        obtain ⟨aoX, nX, cX, rfl⟩ := HT.out.one.sh
        by_cases hil : i < F.length
        · obtain ⟨b, off, hao, hq1, hnc, hc63, hbl, hya, hyb⟩ := HT.out.two.sl.arcsAt hil
          subst hao
          obtain ⟨⟨ya, yb⟩, hy⟩ : ∃ y, y = F.getD i ⟨0, 0⟩ := ⟨_, rfl⟩
          rw [← hy] at hya hyb
          obtain ⟨P, hP⟩ : ∃ P, P = dd (F.take i) := ⟨_, rfl⟩
          have HN : Hid (dd (F.take (i + 1)) = ddS P ⟨ya, yb⟩) := Lib.hid (by rw [take_next hil ⟨0, 0⟩, ← hy, dd_snoc, ← hP])
          have hPl : P.length ≤ 60 := by
            have := (dd_spec (F.take i)).2.2
            rw [← hP, List.length_take] at this
            omega
          rw [← hP] at HT
          have HC5 : Hid (∀ W, Ext wr W → W.cell? ⟨b, off + i * 2, none⟩ = some (.int .i64 ya) ∧ W.cell? ⟨b, off + i * 2 + 1, none⟩ = some (.int .i64 yb)) := Lib.hid fun W hW => ⟨(hW.cell (p := ⟨b, off + i * 2, none⟩) hbl).trans hya, (hW.cell (p := ⟨b, off + i * 2 + 1, none⟩) hbl).trans hyb⟩
          have hw5 : w5.heap.size ≤ wr.heap.size := HT.out.ext.size
          clear hq1 hy hP hya hyb
          by_cases hPe : P = []
          · have HPE : Hid (decide (P = []) = true) := Lib.hid (decide_eq_true hPe)
            have HNX : Hid (ddS P ⟨ya, yb⟩ = P ++ [⟨ya, yb⟩]) := Lib.hid (by rw [hPe]; rfl)
            clear hPe
            go_wp2_with (first
              | (go_at_call 22; refine (refSameA_val _ _ _ P [] HT.out.one.sl (Ow.nil _ 0).sl true HPE.out).mono ?_; rintro e w8 ⟨rfl, x8⟩; have T8 := Lib.hid (HT.out.more x8); obtain ⟨p0, p1⟩ := HC5.out w8 x8; have hw8 : w5.heap.size ≤ w8.heap.size := T8.out.ext.size)
              | (at_builtin; refine wpList_append_sl (α := Arc) rfl (.tmp 88) (.tmp 93) rfl w5.heap.size (.slice aoX nX cX) P rfl ?_ (.slice (some ⟨_, 0, none⟩) 1 1) [Arc.mk ya yb] rfl ?_ ?_ ?_ ?_; exact (T8.out.one.alloc _); exact (Sl.litAt _ _ (by simp) [Arc.mk ya yb] (by simp)); (first | omega | (simp; omega)); exact (by first | (simp; done) | (simp; omega)); intro v9 W9 ho9 ha9; have T9 := Lib.hid (Two.push (T8.out.more ((Ext.refl w8).alloc _)) ho9 ha9); clear ho9 ha9))
            go_roundw
            case rel => exact ⟨i + 1, by omega, by go_num, Lib.hid (by rw [HN.out, HNX.out]; exact T9.out)⟩
            case measure => simp [intOf]; omega
          · have HPE : Hid (decide (P = []) = false) := Lib.hid (decide_eq_false hPe)
            clear hPe
            obtain ⟨t, ht⟩ : ∃ t, decide ((⟨ya, yb⟩ : Arc) ∈ P) = t := ⟨_, rfl⟩
            have HTT := Lib.hid ht
            have HNX : Hid (ddS P ⟨ya, yb⟩ = if t = true then P else P ++ [⟨ya, yb⟩]) := Lib.hid (by unfold ddS; rw [← ht]; simp)
            clear ht
            cases t
            all_goals
              go_wp2_with (first
                | (go_at_call 22; refine (refSameA_val _ _ _ P [] HT.out.one.sl (Ow.nil _ 0).sl false HPE.out).mono ?_; rintro e w8 ⟨rfl, x8⟩; have T8 := Lib.hid (HT.out.more x8); obtain ⟨p0, p1⟩ := HC5.out w8 x8)
                | (go_at_call 31; refine (lawHas_val _ _ P ya yb T8.out.one.sl _ HTT.out).mono ?_; rintro e w9 ⟨rfl, x9⟩; have T9 := Lib.hid (T8.out.more x9); obtain ⟨p2, p3⟩ := HC5.out w9 (Ext.trans x8 x9); have hw9 : w5.heap.size ≤ w9.heap.size := T9.out.ext.size)
                | (at_builtin; refine wpList_append_sl (α := Arc) rfl (.tmp 88) (.tmp 93) rfl w5.heap.size (.slice aoX nX cX) P rfl ?_ (.slice (some ⟨_, 0, none⟩) 1 1) [Arc.mk ya yb] rfl ?_ ?_ ?_ ?_; exact (T9.out.one.alloc _); exact (Sl.litAt _ _ (by simp) [Arc.mk ya yb] (by simp)); (first | omega | (simp; omega)); exact (by first | (simp; done) | (simp; omega)); intro v10 W10 ho10 ha10; have T10 := Lib.hid (Two.push (T9.out.more ((Ext.refl w9).alloc _)) ho10 ha10); clear ho10 ha10))
              go_roundw
              case rel => exact ⟨i + 1, by omega, by go_num, Lib.hid (by rw [HN.out, HNX.out]; first | exact T10.out | exact T9.out)⟩
              case measure => simp [intOf]; omega
        · have hil2 : i = F.length := by omega
          have TY : Hid (Two w5 wr (.slice aoX nX cX) (.slice ao7 F.length c7) Y F) := Lib.hid (by have := HT.out; rwa [hil2, List.take_length, ← HY.out] at this)
          have hY60 : Y.length ≤ 60 := by have := HFL.out.2.2.2.1; omega
          have XW : Hid (Ext w wr) := Lib.hid (X5.out.trans TY.out.ext)
          have SY : Hid (Sl wr (.slice aoX nX cX) Y) := Lib.hid TY.out.one.sl
          obtain ⟨XX, hXX⟩ : ∃ XX, ordL N Y = XX := ⟨_, rfl⟩
          have HXX := Lib.hid hXX
          have HBY := Lib.hid HFL.out.2.1
          have HSY := Lib.hid HFL.out.2.2.1
          obtain ⟨t, ht⟩ : ∃ t, decide ((⟨u, v⟩ : Arc) ∈ Y) = t := ⟨_, rfl⟩
          have HTT := Lib.hid ht
          obtain ⟨YY, hYY⟩ : ∃ YY, ordL N (Y ++ [⟨u, v⟩]) = YY := ⟨_, rfl⟩
          have HYY := Lib.hid hYY
          have HMO : Hid (t = false → ordB N (Y ++ [⟨u, v⟩]) = true) := Lib.hid fun e => HFL.out.2.2.2.2 (of_decide_eq_false (ht.trans e))
          clear hil2 HT hXX ht hYY
          cases t
          · have HB2 := Lib.hid (HMO.out rfl)
            clear HMO
            go_wp2_with (first
              | (go_at_call 12; have hgd := S18; refine (order_any _ N _ (Y ++ [⟨u, v⟩]) S18.out YY true HYY.out HB2.out).mono ?_; rintro e w19 ⟨v19, rfl, s19, x19⟩; obtain ⟨ao19, n19, c19, rfl⟩ := s19.sh; have S19 := Lib.hid s19.sl; clear s19; clear hgd)
              | (go_at_call 13; have hgd := x16; refine (own_any _ _ Y (SY.out.ext (by repeat (first | exact Ext.refl _ | assumption | exact Hid.out (by assumption) | refine Ext.alloc ?_ _ | refine Ext.drew ?_ | refine Ext.drewN ?_ _ | refine Ext.trans ?_ (by assumption)))) (by omega)).mono ?_; rintro e w17 ⟨v17, rfl, s17, x17⟩; obtain ⟨ao17, n17, c17, rfl⟩ := s17.sh; have O17 := Lib.hid s17; have hw17 : w16.heap.size ≤ w17.heap.size := Below.size x17; clear s17 hgd)
              | (at_builtin; refine wpList_append_sl (α := Arc) rfl (.tmp 132) (.tmp 136) rfl w16.heap.size (.slice ao17 n17 c17) Y rfl ?_ (.slice (some ⟨_, 0, none⟩) 1 1) [Arc.mk u v] rfl ?_ ?_ ?_ ?_; exact (O17.out.alloc _); exact (Sl.litAt _ _ (by simp) [Arc.mk u v] (by simp)); (first | omega | (simp; omega)); exact (by first | (simp; done) | (simp; omega)); intro v18 w18 ho18 ha18; have x18 : Ext w16 w18 := Below.trans (Ext.alloc x17 _) ha18.below; obtain ⟨ao18, n18, c18, rfl⟩ := ho18.sh; have S18 := Lib.hid ho18.sl; clear ho18 ha18 x17)
              | (go_at_call 31; have hgd := S14; refine (lawHas_val _ _ Y u v (SY.out.ext (by repeat (first | exact Ext.refl _ | assumption | exact Hid.out (by assumption) | refine Ext.alloc ?_ _ | refine Ext.drew ?_ | refine Ext.drewN ?_ _ | refine Ext.trans ?_ (by assumption)))) false HTT.out).mono ?_; rintro e w16 ⟨rfl, x16⟩; clear hgd)
              | (go_at_call 12; have hgd := S11; refine (order_any _ N _ Y (S11.out.ext (by repeat (first | exact Ext.refl _ | assumption | exact Hid.out (by assumption) | refine Ext.alloc ?_ _ | refine Ext.drew ?_ | refine Ext.drewN ?_ _ | refine Ext.trans ?_ (by assumption)))) XX true HXX.out HBY.out).mono ?_; rintro e w12 ⟨v12, rfl, s12, x12⟩; obtain ⟨ao12, n12, c12, rfl⟩ := s12.sh; have S12 := Lib.hid s12.sl; clear s12; clear hgd)
              | (go_at_call 13; have hgd := S12; refine (own_any _ _ Y (SY.out.ext (by repeat (first | exact Ext.refl _ | assumption | exact Hid.out (by assumption) | refine Ext.alloc ?_ _ | refine Ext.drew ?_ | refine Ext.drewN ?_ _ | refine Ext.trans ?_ (by assumption)))) (by omega)).mono ?_; rintro e w13 ⟨v13, rfl, s13, x13⟩; obtain ⟨ao13, n13, c13, rfl⟩ := s13.sh; have S13 := Lib.hid s13.sl; clear s13; clear hgd)
              | (go_at_call 25; have hgd := S13; refine (sinks_any _ N _ Y (S13.out.ext (by repeat (first | exact Ext.refl _ | assumption | exact Hid.out (by assumption) | refine Ext.alloc ?_ _ | refine Ext.drew ?_ | refine Ext.drewN ?_ _ | refine Ext.trans ?_ (by assumption))))).mono ?_; rintro e w14 ⟨v14, rfl, s14, x14⟩; obtain ⟨ao14, n14, c14, rfl⟩ := s14.sh; have S14 := Lib.hid s14.sl; clear s14; clear hgd)
              | (go_at_call 32; have hgd := S14; refine (setHas_val _ _ (sinksL N Y) v S14.out true HSY.out).mono ?_; rintro e w15 ⟨rfl, rfl⟩; clear hgd)
              | (go_at_call 13; refine (own_any _ _ Y (SY.out.ext (by repeat (first | exact Ext.refl _ | assumption | exact Hid.out (by assumption) | refine Ext.alloc ?_ _ | refine Ext.drew ?_ | refine Ext.drewN ?_ _ | refine Ext.trans ?_ (by assumption)))) (by omega)).mono ?_; rintro e w11 ⟨v11, rfl, s11, x11⟩; obtain ⟨ao11, n11, c11, rfl⟩ := s11.sh; have S11 := Lib.hid s11.sl; clear s11))
            go_ret
            exact ⟨rfl, XW.out.trans (by repeat (first | exact Ext.refl _ | assumption | exact Hid.out (by assumption) | refine Ext.alloc ?_ _ | refine Ext.drew ?_ | refine Ext.drewN ?_ _ | refine Ext.trans ?_ (by assumption)))⟩
          · clear HMO
            go_wp2_with (first
              | (go_at_call 32; have hgd := S19; refine (setHas_val _ _ (sinksL N Y) v S19.out true HSY.out).mono ?_; rintro e w20 ⟨rfl, rfl⟩; clear hgd)
              | (go_at_call 25; have hgd := S18; refine (sinks_any _ N _ Y (S18.out.ext (by repeat (first | exact Ext.refl _ | assumption | exact Hid.out (by assumption) | refine Ext.alloc ?_ _ | refine Ext.drew ?_ | refine Ext.drewN ?_ _ | refine Ext.trans ?_ (by assumption))))).mono ?_; rintro e w19 ⟨v19, rfl, s19, x19⟩; obtain ⟨ao19, n19, c19, rfl⟩ := s19.sh; have S19 := Lib.hid s19.sl; clear s19; clear hgd)
              | (go_at_call 13; have hgd := x16; refine (own_any _ _ Y (SY.out.ext (by repeat (first | exact Ext.refl _ | assumption | exact Hid.out (by assumption) | refine Ext.alloc ?_ _ | refine Ext.drew ?_ | refine Ext.drewN ?_ _ | refine Ext.trans ?_ (by assumption)))) (by omega)).mono ?_; rintro e w18 ⟨v18, rfl, s18, x18⟩; obtain ⟨ao18, n18, c18, rfl⟩ := s18.sh; have S18 := Lib.hid s18.sl; clear s18; clear hgd)
              | (go_at_call 31; have hgd := S14; refine (lawHas_val _ _ Y u v (SY.out.ext (by repeat (first | exact Ext.refl _ | assumption | exact Hid.out (by assumption) | refine Ext.alloc ?_ _ | refine Ext.drew ?_ | refine Ext.drewN ?_ _ | refine Ext.trans ?_ (by assumption)))) true HTT.out).mono ?_; rintro e w16 ⟨rfl, x16⟩; clear hgd)
              | (go_at_call 12; have hgd := S11; refine (order_any _ N _ Y (S11.out.ext (by repeat (first | exact Ext.refl _ | assumption | exact Hid.out (by assumption) | refine Ext.alloc ?_ _ | refine Ext.drew ?_ | refine Ext.drewN ?_ _ | refine Ext.trans ?_ (by assumption)))) XX true HXX.out HBY.out).mono ?_; rintro e w12 ⟨v12, rfl, s12, x12⟩; obtain ⟨ao12, n12, c12, rfl⟩ := s12.sh; have S12 := Lib.hid s12.sl; clear s12; clear hgd)
              | (go_at_call 13; have hgd := S12; refine (own_any _ _ Y (SY.out.ext (by repeat (first | exact Ext.refl _ | assumption | exact Hid.out (by assumption) | refine Ext.alloc ?_ _ | refine Ext.drew ?_ | refine Ext.drewN ?_ _ | refine Ext.trans ?_ (by assumption)))) (by omega)).mono ?_; rintro e w13 ⟨v13, rfl, s13, x13⟩; obtain ⟨ao13, n13, c13, rfl⟩ := s13.sh; have S13 := Lib.hid s13.sl; clear s13; clear hgd)
              | (go_at_call 25; have hgd := S13; refine (sinks_any _ N _ Y (S13.out.ext (by repeat (first | exact Ext.refl _ | assumption | exact Hid.out (by assumption) | refine Ext.alloc ?_ _ | refine Ext.drew ?_ | refine Ext.drewN ?_ _ | refine Ext.trans ?_ (by assumption))))).mono ?_; rintro e w14 ⟨v14, rfl, s14, x14⟩; obtain ⟨ao14, n14, c14, rfl⟩ := s14.sh; have S14 := Lib.hid s14.sl; clear s14; clear hgd)
              | (go_at_call 32; have hgd := S14; refine (setHas_val _ _ (sinksL N Y) v S14.out true HSY.out).mono ?_; rintro e w15 ⟨rfl, rfl⟩; clear hgd)
              | (go_at_call 13; refine (own_any _ _ Y (SY.out.ext (by repeat (first | exact Ext.refl _ | assumption | exact Hid.out (by assumption) | refine Ext.alloc ?_ _ | refine Ext.drew ?_ | refine Ext.drewN ?_ _ | refine Ext.trans ?_ (by assumption)))) (by omega)).mono ?_; rintro e w11 ⟨v11, rfl, s11, x11⟩; obtain ⟨ao11, n11, c11, rfl⟩ := s11.sh; have S11 := Lib.hid s11.sl; clear s11))
            go_ret
            exact ⟨rfl, XW.out.trans (by repeat (first | exact Ext.refl _ | assumption | exact Hid.out (by assumption) | refine Ext.alloc ?_ _ | refine Ext.drew ?_ | refine Ext.drewN ?_ _ | refine Ext.trans ?_ (by assumption)))⟩
  · have HC := Lib.hid (chkD_not ok)
    clear ok
    go_enter Try.func7, Try.ntmps7
    go_wp2_with (first
      | (go_at_call 10; have hgd := x3; refine (awake_any _).mono ?_; rintro e w4 ⟨rfl, x4⟩; clear hgd)
      | (go_at_call 10; refine (awake_any _).mono ?_; rintro e w1 ⟨rfl, x1⟩)
      | (go_at_call 11; refine (few_val _ _ ao E.length c n1 true HF.out).mono ?_; rintro e w9 ⟨rfl, rfl⟩)
      | (go_at_call 13; refine (own_any _ _ E (Sg.out.ext (by repeat (first | exact Ext.refl _ | assumption | exact Hid.out (by assumption) | refine Ext.alloc ?_ _ | refine Ext.drew ?_ | refine Ext.drewN ?_ _ | refine Ext.trans ?_ (by assumption)))) (by omega)).mono ?_; rintro e w2 ⟨v2, rfl, s2, x2⟩; obtain ⟨ao2, n2, c2, rfl⟩ := s2.sh; have S2 := Lib.hid s2.sl; clear s2)
      | (go_at_call 18; refine (check_any _ N _ E (S2.out.ext (by repeat (first | exact Ext.refl _ | assumption | exact Hid.out (by assumption) | refine Ext.alloc ?_ _ | refine Ext.drew ?_ | refine Ext.drewN ?_ _ | refine Ext.trans ?_ (by assumption)))) 40 HC.out).mono ?_; rintro e w3 ⟨rfl, x3⟩))
    go_ret
    exact ⟨rfl, (by repeat (first | exact Ext.refl _ | assumption | exact Hid.out (by assumption) | refine Ext.alloc ?_ _ | refine Ext.drew ?_ | refine Ext.drewN ?_ _ | refine Ext.trans ?_ (by assumption)))⟩

end Go.Proofs.Ythofgfdhcndpbaa
