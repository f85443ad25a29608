/- Layer 12's law PlaceTells, walked. -/
import Derived.Test.YtpnnnbjjoimalaaPA
import Derived.Laws.StructEq
namespace Go.Proofs.Ytpnnnbjjoimalaa
open Go.RowKit

theorem fewB_len {L : List Dn} {m : Nat} (h : fewB L m = true) : L.length ≤ 24 ∧ ∀ d ∈ L, d.sides.length ≤ 24 := by
  simp only [fewB, Bool.and_eq_true, decide_eq_true_eq] at h
  obtain ⟨⟨h1, h2⟩, _⟩ := h
  refine ⟨h2, fun d hd => ?_⟩
  rw [List.take_of_length_le (by omega)] at h1
  simpa using List.all_eq_true.1 h1 d hd
theorem eq_SdS (y : Sd) :
    (∀ w : World, (binOp .eql 49 (.agg #[.int .i64 y.peer, .int .i64 y.epoch, .int .i64 y.state, .bool y.fork, .bool y.dirty, .bool y.token, .bool y.bottle, .bool y.ask]) (.agg #[.int .i64 y.peer, .int .i64 y.epoch, .int .i64 y.state, .bool y.fork, .bool y.dirty, .bool y.token, .bool y.bottle, .bool y.ask])).run Try.prog w = .ok (.bool true) w) ∧ ∀ (a b : Operand) (w : World), (eqGuard .eql 49 a b (.agg #[.int .i64 y.peer, .int .i64 y.epoch, .int .i64 y.state, .bool y.fork, .bool y.dirty, .bool y.token, .bool y.bottle, .bool y.ask]) (.agg #[.int .i64 y.peer, .int .i64 y.epoch, .int .i64 y.state, .bool y.fork, .bool y.dirty, .bool y.token, .bool y.bottle, .bool y.ask])).run Try.prog w = .ok () w := by
  obtain ⟨y0, y1, y2, y3, y4, y5, y6, y7⟩ := y
  refine ⟨fun w => ?_, fun a b w => run_eqGuard_agg w _ _ a b _ _ (by kernel_rfl)⟩
  have u3 := Try.underlying3
  have a3 := Try.isAgg3
  have z3' := Try.sizeOf3
  have u4 := Try.underlying4
  have a4 := Try.isAgg4
  have z4' := Try.sizeOf4
  have uS := Try.underlying47
  have aS := Try.isAgg47
  have zS := Try.sizeOf47
  have hS : Try.prog.underlying 49 = some (.struct (Try.prog.fieldsOf 49)) := by kernel_rfl
  have hp : Try.prog.stoodInHeld 49 = false := by kernel_rfl
  rw [run_eql_struct, show (10000 : Nat) = 9999 + 1 from rfl, run_equalIn_agg w 9999 49 _ _ hS hp]
  simp only [Program.fieldsOf, Try.underlying49]
  go_simp

set_option maxRecDepth 100000 in
set_option maxHeartbeats 8000000 in
theorem placeTells_fewL (w : World) (ao : Option Addr) (k : Nat) (L : List Dn) (mo : Option Addr) (mk : Nat) (M : List Dn) (id ph : Int) (so : Option Addr) (sk : Nat) (S : List Sd) (peer : Int) (h : Ns DV Non w (.slice ao L.length k) L) (hm : Ns DV Non w (.slice mo M.length mk) M) (hd : Sl w (.slice so S.length sk) S) (hf : fewB L 0 = false) :
    Calls Try.prog 4 #[.slice ao L.length k, .slice mo M.length mk, .agg #[.int .i64 id, .int .i64 ph, .slice so S.length sk], .int .i64 peer] w (GivesB w (.bool true)) := by
  have BX : Ext w (w.alloc (.cells #[.int .i64 id, .int .i64 ph, .slice so S.length sk] 39)) := (Ext.refl w).alloc _
  have HD : Hid (∀ V, Ext (w.alloc (.cells #[.int .i64 id, .int .i64 ph, .slice so S.length sk] 39)) V → V.cell? ⟨w.heap.size, 0, none⟩ = some (.int .i64 id) ∧ V.cell? ⟨w.heap.size, 1, none⟩ = some (.int .i64 ph) ∧ V.cell? ⟨w.heap.size, 2, none⟩ = some (.slice so S.length sk)) := Lib.hid fun V hV => ⟨cell_atD V hV rfl, cell_atD V hV rfl, cell_atD V hV rfl⟩
  have HL := Lib.hid h
  have HM := Lib.hid hm
  have HS := Lib.hid hd
  have l1 := h.length_le
  have l2 := hm.length_le
  have l3 := hd.length_le
  have FHL := Lib.hid hf
  clear h hm hd hf
  go_enter Try.func4, Try.ntmps4
  go_wp2_with (first
    | (have hgd := X2; clear hgd; go_at_call 9; refine (awakeP_any _).mono ?_; rintro e w3 ⟨rfl, x3⟩; have X3 : Hid (Ext (w.alloc (.cells #[.int .i64 id, .int .i64 ph, .slice so S.length sk] 39)) w3) := Lib.hid (by repeat (first | exact Ext.refl _ | assumption | exact Hid.out (by assumption) | refine Ext.alloc ?_ _ | refine Ext.drew ?_ | refine Ext.drewN ?_ _ | refine Ext.trans ?_ (by assumption))); have z3 := x3; clear x3; obtain ⟨y30, y31, y32⟩ := HD.out w3 (by repeat (first | exact Ext.refl _ | assumption | exact Hid.out (by assumption) | refine Ext.alloc ?_ _ | refine Ext.drew ?_ | refine Ext.drewN ?_ _ | refine Ext.trans ?_ (by assumption))))
    | (go_at_call 9; refine (awakeP_any _).mono ?_; rintro e w1 ⟨rfl, x1⟩; have X1 : Hid (Ext (w.alloc (.cells #[.int .i64 id, .int .i64 ph, .slice so S.length sk] 39)) w1) := Lib.hid (by repeat (first | exact Ext.refl _ | assumption | exact Hid.out (by assumption) | refine Ext.alloc ?_ _ | refine Ext.drew ?_ | refine Ext.drewN ?_ _ | refine Ext.trans ?_ (by assumption))); have z1 := x1; clear x1; obtain ⟨y10, y11, y12⟩ := HD.out w1 (by repeat (first | exact Ext.refl _ | assumption | exact Hid.out (by assumption) | refine Ext.alloc ?_ _ | refine Ext.drew ?_ | refine Ext.drewN ?_ _ | refine Ext.trans ?_ (by assumption))))
    | (go_at_call 16; refine (refFew_any Non _ _ none 0 0 L (HL.out.ext (BX.trans (by repeat (first | exact Ext.refl _ | assumption | exact Hid.out (by assumption) | refine Ext.alloc ?_ _ | refine Ext.drew ?_ | refine Ext.drewN ?_ _ | refine Ext.trans ?_ (by assumption))))) (by omega) false FHL.out).mono ?_; rintro e w2 ⟨rfl, x2⟩; have X2 : Hid (Ext (w.alloc (.cells #[.int .i64 id, .int .i64 ph, .slice so S.length sk] 39)) w2) := Lib.hid (by repeat (first | exact Ext.refl _ | assumption | exact Hid.out (by assumption) | refine Ext.alloc ?_ _ | refine Ext.drew ?_ | refine Ext.drewN ?_ _ | refine Ext.trans ?_ (by assumption))); have z2 := x2; clear x2; obtain ⟨y20, y21, y22⟩ := HD.out w2 (by repeat (first | exact Ext.refl _ | assumption | exact Hid.out (by assumption) | refine Ext.alloc ?_ _ | refine Ext.drew ?_ | refine Ext.drewN ?_ _ | refine Ext.trans ?_ (by assumption)))))
  go_ret
  exact ⟨rfl, BX.trans (by repeat (first | exact Ext.refl _ | assumption | exact Hid.out (by assumption) | refine Ext.alloc ?_ _ | refine Ext.drew ?_ | refine Ext.drewN ?_ _ | refine Ext.trans ?_ (by assumption)))⟩

set_option maxRecDepth 100000 in
set_option maxHeartbeats 8000000 in
theorem placeTells_fewM (w : World) (ao : Option Addr) (k : Nat) (L : List Dn) (mo : Option Addr) (mk : Nat) (M : List Dn) (id ph : Int) (so : Option Addr) (sk : Nat) (S : List Sd) (peer : Int) (h : Ns DV Non w (.slice ao L.length k) L) (hm : Ns DV Non w (.slice mo M.length mk) M) (hd : Sl w (.slice so S.length sk) S) (hf : fewB L 0 = true) (hg : fewB M 0 = false) :
    Calls Try.prog 4 #[.slice ao L.length k, .slice mo M.length mk, .agg #[.int .i64 id, .int .i64 ph, .slice so S.length sk], .int .i64 peer] w (GivesB w (.bool true)) := by
  have BX : Ext w (w.alloc (.cells #[.int .i64 id, .int .i64 ph, .slice so S.length sk] 39)) := (Ext.refl w).alloc _
  have HD : Hid (∀ V, Ext (w.alloc (.cells #[.int .i64 id, .int .i64 ph, .slice so S.length sk] 39)) V → V.cell? ⟨w.heap.size, 0, none⟩ = some (.int .i64 id) ∧ V.cell? ⟨w.heap.size, 1, none⟩ = some (.int .i64 ph) ∧ V.cell? ⟨w.heap.size, 2, none⟩ = some (.slice so S.length sk)) := Lib.hid fun V hV => ⟨cell_atD V hV rfl, cell_atD V hV rfl, cell_atD V hV rfl⟩
  have HL := Lib.hid h
  have HM := Lib.hid hm
  have HS := Lib.hid hd
  have l1 := h.length_le
  have l2 := hm.length_le
  have l3 := hd.length_le
  have FHL := Lib.hid hf
  have FHM := Lib.hid hg
  clear h hm hd hf hg
  go_enter Try.func4, Try.ntmps4
  go_wp2_with (first
    | (have hgd := X3; clear hgd; go_at_call 9; refine (awakeP_any _).mono ?_; rintro e w4 ⟨rfl, x4⟩; have X4 : Hid (Ext (w.alloc (.cells #[.int .i64 id, .int .i64 ph, .slice so S.length sk] 39)) w4) := Lib.hid (by repeat (first | exact Ext.refl _ | assumption | exact Hid.out (by assumption) | refine Ext.alloc ?_ _ | refine Ext.drew ?_ | refine Ext.drewN ?_ _ | refine Ext.trans ?_ (by assumption))); have z4 := x4; clear x4; obtain ⟨y40, y41, y42⟩ := HD.out w4 (by repeat (first | exact Ext.refl _ | assumption | exact Hid.out (by assumption) | refine Ext.alloc ?_ _ | refine Ext.drew ?_ | refine Ext.drewN ?_ _ | refine Ext.trans ?_ (by assumption))))
    | (go_at_call 9; refine (awakeP_any _).mono ?_; rintro e w1 ⟨rfl, x1⟩; have X1 : Hid (Ext (w.alloc (.cells #[.int .i64 id, .int .i64 ph, .slice so S.length sk] 39)) w1) := Lib.hid (by repeat (first | exact Ext.refl _ | assumption | exact Hid.out (by assumption) | refine Ext.alloc ?_ _ | refine Ext.drew ?_ | refine Ext.drewN ?_ _ | refine Ext.trans ?_ (by assumption))); have z1 := x1; clear x1; obtain ⟨y10, y11, y12⟩ := HD.out w1 (by repeat (first | exact Ext.refl _ | assumption | exact Hid.out (by assumption) | refine Ext.alloc ?_ _ | refine Ext.drew ?_ | refine Ext.drewN ?_ _ | refine Ext.trans ?_ (by assumption))))
    | (have hgd := X2; clear hgd; go_at_call 16; refine (refFew_any Non _ _ none 0 0 M (HM.out.ext (BX.trans (by repeat (first | exact Ext.refl _ | assumption | exact Hid.out (by assumption) | refine Ext.alloc ?_ _ | refine Ext.drew ?_ | refine Ext.drewN ?_ _ | refine Ext.trans ?_ (by assumption))))) (by omega) false FHM.out).mono ?_; rintro e w3 ⟨rfl, x3⟩; have X3 : Hid (Ext (w.alloc (.cells #[.int .i64 id, .int .i64 ph, .slice so S.length sk] 39)) w3) := Lib.hid (by repeat (first | exact Ext.refl _ | assumption | exact Hid.out (by assumption) | refine Ext.alloc ?_ _ | refine Ext.drew ?_ | refine Ext.drewN ?_ _ | refine Ext.trans ?_ (by assumption))); have z3 := x3; clear x3; obtain ⟨y30, y31, y32⟩ := HD.out w3 (by repeat (first | exact Ext.refl _ | assumption | exact Hid.out (by assumption) | refine Ext.alloc ?_ _ | refine Ext.drew ?_ | refine Ext.drewN ?_ _ | refine Ext.trans ?_ (by assumption))))
    | (go_at_call 16; refine (refFew_any Non _ _ none 0 0 L (HL.out.ext (BX.trans (by repeat (first | exact Ext.refl _ | assumption | exact Hid.out (by assumption) | refine Ext.alloc ?_ _ | refine Ext.drew ?_ | refine Ext.drewN ?_ _ | refine Ext.trans ?_ (by assumption))))) (by omega) true FHL.out).mono ?_; rintro e w2 ⟨rfl, x2⟩; have X2 : Hid (Ext (w.alloc (.cells #[.int .i64 id, .int .i64 ph, .slice so S.length sk] 39)) w2) := Lib.hid (by repeat (first | exact Ext.refl _ | assumption | exact Hid.out (by assumption) | refine Ext.alloc ?_ _ | refine Ext.drew ?_ | refine Ext.drewN ?_ _ | refine Ext.trans ?_ (by assumption))); have z2 := x2; clear x2; obtain ⟨y20, y21, y22⟩ := HD.out w2 (by repeat (first | exact Ext.refl _ | assumption | exact Hid.out (by assumption) | refine Ext.alloc ?_ _ | refine Ext.drew ?_ | refine Ext.drewN ?_ _ | refine Ext.trans ?_ (by assumption)))))
  go_ret
  exact ⟨rfl, BX.trans (by repeat (first | exact Ext.refl _ | assumption | exact Hid.out (by assumption) | refine Ext.alloc ?_ _ | refine Ext.drew ?_ | refine Ext.drewN ?_ _ | refine Ext.trans ?_ (by assumption)))⟩

set_option maxRecDepth 100000 in
set_option maxHeartbeats 8000000 in
theorem placeTells_fewS (w : World) (ao : Option Addr) (k : Nat) (L : List Dn) (mo : Option Addr) (mk : Nat) (M : List Dn) (id ph : Int) (so : Option Addr) (sk : Nat) (S : List Sd) (peer : Int) (h : Ns DV Non w (.slice ao L.length k) L) (hm : Ns DV Non w (.slice mo M.length mk) M) (hd : Sl w (.slice so S.length sk) S) (hf : fewB L 0 = true) (hg : fewB M 0 = true) (hs : ¬ (S.length : Int) ≤ 24) :
    Calls Try.prog 4 #[.slice ao L.length k, .slice mo M.length mk, .agg #[.int .i64 id, .int .i64 ph, .slice so S.length sk], .int .i64 peer] w (GivesB w (.bool true)) := by
  have BX : Ext w (w.alloc (.cells #[.int .i64 id, .int .i64 ph, .slice so S.length sk] 39)) := (Ext.refl w).alloc _
  have HD : Hid (∀ V, Ext (w.alloc (.cells #[.int .i64 id, .int .i64 ph, .slice so S.length sk] 39)) V → V.cell? ⟨w.heap.size, 0, none⟩ = some (.int .i64 id) ∧ V.cell? ⟨w.heap.size, 1, none⟩ = some (.int .i64 ph) ∧ V.cell? ⟨w.heap.size, 2, none⟩ = some (.slice so S.length sk)) := Lib.hid fun V hV => ⟨cell_atD V hV rfl, cell_atD V hV rfl, cell_atD V hV rfl⟩
  have HL := Lib.hid h
  have HM := Lib.hid hm
  have HS := Lib.hid hd
  have l1 := h.length_le
  have l2 := hm.length_le
  have l3 := hd.length_le
  have FHL := Lib.hid hf
  have FHM := Lib.hid hg
  clear h hm hd hf hg
  go_enter Try.func4, Try.ntmps4
  go_wp2_with (first
    | (have hgd := X3; clear hgd; go_at_call 9; refine (awakeP_any _).mono ?_; rintro e w4 ⟨rfl, x4⟩; have X4 : Hid (Ext (w.alloc (.cells #[.int .i64 id, .int .i64 ph, .slice so S.length sk] 39)) w4) := Lib.hid (by repeat (first | exact Ext.refl _ | assumption | exact Hid.out (by assumption) | refine Ext.alloc ?_ _ | refine Ext.drew ?_ | refine Ext.drewN ?_ _ | refine Ext.trans ?_ (by assumption))); have z4 := x4; clear x4; obtain ⟨y40, y41, y42⟩ := HD.out w4 (by repeat (first | exact Ext.refl _ | assumption | exact Hid.out (by assumption) | refine Ext.alloc ?_ _ | refine Ext.drew ?_ | refine Ext.drewN ?_ _ | refine Ext.trans ?_ (by assumption))))
    | (go_at_call 9; refine (awakeP_any _).mono ?_; rintro e w1 ⟨rfl, x1⟩; have X1 : Hid (Ext (w.alloc (.cells #[.int .i64 id, .int .i64 ph, .slice so S.length sk] 39)) w1) := Lib.hid (by repeat (first | exact Ext.refl _ | assumption | exact Hid.out (by assumption) | refine Ext.alloc ?_ _ | refine Ext.drew ?_ | refine Ext.drewN ?_ _ | refine Ext.trans ?_ (by assumption))); have z1 := x1; clear x1; obtain ⟨y10, y11, y12⟩ := HD.out w1 (by repeat (first | exact Ext.refl _ | assumption | exact Hid.out (by assumption) | refine Ext.alloc ?_ _ | refine Ext.drew ?_ | refine Ext.drewN ?_ _ | refine Ext.trans ?_ (by assumption))))
    | (have hgd := X2; clear hgd; go_at_call 16; refine (refFew_any Non _ _ none 0 0 M (HM.out.ext (BX.trans (by repeat (first | exact Ext.refl _ | assumption | exact Hid.out (by assumption) | refine Ext.alloc ?_ _ | refine Ext.drew ?_ | refine Ext.drewN ?_ _ | refine Ext.trans ?_ (by assumption))))) (by omega) true FHM.out).mono ?_; rintro e w3 ⟨rfl, x3⟩; have X3 : Hid (Ext (w.alloc (.cells #[.int .i64 id, .int .i64 ph, .slice so S.length sk] 39)) w3) := Lib.hid (by repeat (first | exact Ext.refl _ | assumption | exact Hid.out (by assumption) | refine Ext.alloc ?_ _ | refine Ext.drew ?_ | refine Ext.drewN ?_ _ | refine Ext.trans ?_ (by assumption))); have z3 := x3; clear x3; obtain ⟨y30, y31, y32⟩ := HD.out w3 (by repeat (first | exact Ext.refl _ | assumption | exact Hid.out (by assumption) | refine Ext.alloc ?_ _ | refine Ext.drew ?_ | refine Ext.drewN ?_ _ | refine Ext.trans ?_ (by assumption))))
    | (go_at_call 16; refine (refFew_any Non _ _ none 0 0 L (HL.out.ext (BX.trans (by repeat (first | exact Ext.refl _ | assumption | exact Hid.out (by assumption) | refine Ext.alloc ?_ _ | refine Ext.drew ?_ | refine Ext.drewN ?_ _ | refine Ext.trans ?_ (by assumption))))) (by omega) true FHL.out).mono ?_; rintro e w2 ⟨rfl, x2⟩; have X2 : Hid (Ext (w.alloc (.cells #[.int .i64 id, .int .i64 ph, .slice so S.length sk] 39)) w2) := Lib.hid (by repeat (first | exact Ext.refl _ | assumption | exact Hid.out (by assumption) | refine Ext.alloc ?_ _ | refine Ext.drew ?_ | refine Ext.drewN ?_ _ | refine Ext.trans ?_ (by assumption))); have z2 := x2; clear x2; obtain ⟨y20, y21, y22⟩ := HD.out w2 (by repeat (first | exact Ext.refl _ | assumption | exact Hid.out (by assumption) | refine Ext.alloc ?_ _ | refine Ext.drew ?_ | refine Ext.drewN ?_ _ | refine Ext.trans ?_ (by assumption)))))
  go_ret
  exact ⟨rfl, BX.trans (by repeat (first | exact Ext.refl _ | assumption | exact Hid.out (by assumption) | refine Ext.alloc ?_ _ | refine Ext.drew ?_ | refine Ext.drewN ?_ _ | refine Ext.trans ?_ (by assumption)))⟩

set_option maxRecDepth 100000 in
set_option maxHeartbeats 8000000 in
theorem placeTells_short (w : World) (ao : Option Addr) (k : Nat) (L : List Dn) (mo : Option Addr) (mk : Nat) (M : List Dn) (id ph : Int) (so : Option Addr) (sk : Nat) (S : List Sd) (peer : Int) (h : Ns DV Non w (.slice ao L.length k) L) (hm : Ns DV Non w (.slice mo M.length mk) M) (hd : Sl w (.slice so S.length sk) S) (hf : fewB L 0 = true) (hg : fewB M 0 = true) (hs : (S.length : Int) ≤ 24) :
    Calls Try.prog 4 #[.slice ao L.length k, .slice mo M.length mk, .agg #[.int .i64 id, .int .i64 ph, .slice so S.length sk], .int .i64 peer] w (GivesB w (.bool true)) := by
  have BX : Ext w (w.alloc (.cells #[.int .i64 id, .int .i64 ph, .slice so S.length sk] 39)) := (Ext.refl w).alloc _
  have HD : Hid (∀ V, Ext (w.alloc (.cells #[.int .i64 id, .int .i64 ph, .slice so S.length sk] 39)) V → V.cell? ⟨w.heap.size, 0, none⟩ = some (.int .i64 id) ∧ V.cell? ⟨w.heap.size, 1, none⟩ = some (.int .i64 ph) ∧ V.cell? ⟨w.heap.size, 2, none⟩ = some (.slice so S.length sk)) := Lib.hid fun V hV => ⟨cell_atD V hV rfl, cell_atD V hV rfl, cell_atD V hV rfl⟩
  have HL := Lib.hid h
  have HM := Lib.hid hm
  have HS := Lib.hid hd
  have l1 := h.length_le
  have l2 := hm.length_le
  have l3 := hd.length_le
  obtain ⟨k1, k2⟩ := fewB_len hf
  obtain ⟨k3, k4⟩ := fewB_len hg
  have LHL : Hid (∀ d ∈ L, d.sides.length ≤ 1000) := Lib.hid fun d hd => Nat.le_trans (k2 d hd) (by omega)
  have LHM : Hid (∀ d ∈ M, d.sides.length ≤ 1000) := Lib.hid fun d hd => Nat.le_trans (k4 d hd) (by omega)
  have LG : Hid (∀ d ∈ L, d.sides.length ≤ 100) := Lib.hid fun d hd => Nat.le_trans (k2 d hd) (by omega)
  have FHL := Lib.hid hf
  have FHM := Lib.hid hg
  obtain ⟨N', E', t, hgr⟩ : ∃ N' E' t, graphR L = (N', E', t) := ⟨_, _, _, rfl⟩
  obtain ⟨s, b, hsr⟩ : ∃ s b, sideR S peer = (s, b) := ⟨_, _, rfl⟩
  obtain ⟨q, hq⟩ : ∃ q, decide (L = M) = q := ⟨_, rfl⟩
  have HGR := Lib.hid hgr
  have HSR := Lib.hid hsr
  have HQ := Lib.hid hq
  obtain ⟨q1, q2⟩ := eq_SdS s
  obtain ⟨s0, s1, s2, s3, s4, s5, s6, s7⟩ := s
  dsimp only at q1 q2
  have tt : (t == t) = true := by simp
  have bb : (b == b) = true := by simp
  have qq : (q == q) = true := by simp
  clear h hm hd hf hg hgr hsr hq k2 k4
  go_enter Try.func4, Try.ntmps4
  go_wp2_with (first
    | (go_at_call 9; refine (awakeP_any _).mono ?_; rintro e w1 ⟨rfl, x1⟩; have X1 : Hid (Ext (w.alloc (.cells #[.int .i64 id, .int .i64 ph, .slice so S.length sk] 39)) w1) := Lib.hid (by repeat (first | exact Ext.refl _ | assumption | exact Hid.out (by assumption) | refine Ext.alloc ?_ _ | refine Ext.drew ?_ | refine Ext.drewN ?_ _ | refine Ext.trans ?_ (by assumption))); have z1 := x1; clear x1; obtain ⟨y10, y11, y12⟩ := HD.out w1 (by repeat (first | exact Ext.refl _ | assumption | exact Hid.out (by assumption) | refine Ext.alloc ?_ _ | refine Ext.drew ?_ | refine Ext.drewN ?_ _ | refine Ext.trans ?_ (by assumption))))
    | (have hgd := X2; clear hgd; go_at_call 16; refine (refFew_any Non _ _ none 0 0 M (HM.out.ext (BX.trans (by repeat (first | exact Ext.refl _ | assumption | exact Hid.out (by assumption) | refine Ext.alloc ?_ _ | refine Ext.drew ?_ | refine Ext.drewN ?_ _ | refine Ext.trans ?_ (by assumption))))) (by omega) true FHM.out).mono ?_; rintro e w3 ⟨rfl, x3⟩; have X3 : Hid (Ext (w.alloc (.cells #[.int .i64 id, .int .i64 ph, .slice so S.length sk] 39)) w3) := Lib.hid (by repeat (first | exact Ext.refl _ | assumption | exact Hid.out (by assumption) | refine Ext.alloc ?_ _ | refine Ext.drew ?_ | refine Ext.drewN ?_ _ | refine Ext.trans ?_ (by assumption))); have z3 := x3; clear x3; obtain ⟨y30, y31, y32⟩ := HD.out w3 (by repeat (first | exact Ext.refl _ | assumption | exact Hid.out (by assumption) | refine Ext.alloc ?_ _ | refine Ext.drew ?_ | refine Ext.drewN ?_ _ | refine Ext.trans ?_ (by assumption))))
    | (go_at_call 16; refine (refFew_any Non _ _ none 0 0 L (HL.out.ext (BX.trans (by repeat (first | exact Ext.refl _ | assumption | exact Hid.out (by assumption) | refine Ext.alloc ?_ _ | refine Ext.drew ?_ | refine Ext.drewN ?_ _ | refine Ext.trans ?_ (by assumption))))) (by omega) true FHL.out).mono ?_; rintro e w2 ⟨rfl, x2⟩; have X2 : Hid (Ext (w.alloc (.cells #[.int .i64 id, .int .i64 ph, .slice so S.length sk] 39)) w2) := Lib.hid (by repeat (first | exact Ext.refl _ | assumption | exact Hid.out (by assumption) | refine Ext.alloc ?_ _ | refine Ext.drew ?_ | refine Ext.drewN ?_ _ | refine Ext.trans ?_ (by assumption))); have z2 := x2; clear x2; obtain ⟨y20, y21, y22⟩ := HD.out w2 (by repeat (first | exact Ext.refl _ | assumption | exact Hid.out (by assumption) | refine Ext.alloc ?_ _ | refine Ext.drew ?_ | refine Ext.drewN ?_ _ | refine Ext.trans ?_ (by assumption))))
    | (have hgd := X10; clear hgd; go_at_call 18; refine (ownD_any Non _ _ M (HM.out.ext (BX.trans (by repeat (first | exact Ext.refl _ | assumption | exact Hid.out (by assumption) | refine Ext.alloc ?_ _ | refine Ext.drew ?_ | refine Ext.drewN ?_ _ | refine Ext.trans ?_ (by assumption))))) (by omega) LHM.out).mono ?_; rintro e w11 ⟨v11, rfl, s11, x11⟩; obtain ⟨a11, c11, rfl⟩ := s11.len; have S11 := Lib.hid (s11.ns (G := Non) (fun _ h => h) (fun _ h => False.elim h)); clear s11; have X11 : Hid (Ext (w.alloc (.cells #[.int .i64 id, .int .i64 ph, .slice so S.length sk] 39)) w11) := Lib.hid (by repeat (first | exact Ext.refl _ | assumption | exact Hid.out (by assumption) | refine Ext.alloc ?_ _ | refine Ext.drew ?_ | refine Ext.drewN ?_ _ | refine Ext.trans ?_ (by assumption))); have z11 := x11; clear x11)
    | (have hgd := X9; clear hgd; go_at_call 18; refine (ownD_any Non _ _ L (HL.out.ext (BX.trans (by repeat (first | exact Ext.refl _ | assumption | exact Hid.out (by assumption) | refine Ext.alloc ?_ _ | refine Ext.drew ?_ | refine Ext.drewN ?_ _ | refine Ext.trans ?_ (by assumption))))) (by omega) LHL.out).mono ?_; rintro e w10 ⟨v10, rfl, s10, x10⟩; obtain ⟨a10, c10, rfl⟩ := s10.len; have S10 := Lib.hid (s10.ns (G := Non) (fun _ h => h) (fun _ h => False.elim h)); clear s10; have X10 : Hid (Ext (w.alloc (.cells #[.int .i64 id, .int .i64 ph, .slice so S.length sk] 39)) w10) := Lib.hid (by repeat (first | exact Ext.refl _ | assumption | exact Hid.out (by assumption) | refine Ext.alloc ?_ _ | refine Ext.drew ?_ | refine Ext.drewN ?_ _ | refine Ext.trans ?_ (by assumption))); have z10 := x10; clear x10)
    | (go_at_call 18; refine (ownD_any Non _ _ L (HL.out.ext (BX.trans (by repeat (first | exact Ext.refl _ | assumption | exact Hid.out (by assumption) | refine Ext.alloc ?_ _ | refine Ext.drew ?_ | refine Ext.drewN ?_ _ | refine Ext.trans ?_ (by assumption))))) (by omega) LHL.out).mono ?_; rintro e w4 ⟨v4, rfl, s4, x4⟩; obtain ⟨a4, c4, rfl⟩ := s4.len; have S4 := Lib.hid (s4.ns (G := Non) (fun _ h => h) (fun _ h => False.elim h)); clear s4; have X4 : Hid (Ext (w.alloc (.cells #[.int .i64 id, .int .i64 ph, .slice so S.length sk] 39)) w4) := Lib.hid (by repeat (first | exact Ext.refl _ | assumption | exact Hid.out (by assumption) | refine Ext.alloc ?_ _ | refine Ext.drew ?_ | refine Ext.drewN ?_ _ | refine Ext.trans ?_ (by assumption))); have z4 := x4; clear x4; obtain ⟨y40, y41, y42⟩ := HD.out w4 (by repeat (first | exact Ext.refl _ | assumption | exact Hid.out (by assumption) | refine Ext.alloc ?_ _ | refine Ext.drew ?_ | refine Ext.drewN ?_ _ | refine Ext.trans ?_ (by assumption))))
    | (go_at_call 17; refine (pGraph_any _ _ L (S4.out.ext (by repeat (first | exact Ext.refl _ | assumption | exact Hid.out (by assumption) | refine Ext.alloc ?_ _ | refine Ext.drew ?_ | refine Ext.drewN ?_ _ | refine Ext.trans ?_ (by assumption)))) (by omega) LG.out N' E' t HGR.out).mono ?_; rintro e w5 ⟨gv, rfl, s5, x5⟩; obtain ⟨a5, n5, c5, rfl⟩ := s5.sh; have S5 := Lib.hid s5; have K5 := Lib.hid (graph_at w5 N' (.slice a5 n5 c5)); clear s5; have X5 : Hid (Ext (w.alloc (.cells #[.int .i64 id, .int .i64 ph, .slice so S.length sk] 39)) w5) := Lib.hid (by repeat (first | exact Ext.refl _ | assumption | exact Hid.out (by assumption) | refine Ext.alloc ?_ _ | refine Ext.drew ?_ | refine Ext.drewN ?_ _ | refine Ext.trans ?_ (by assumption))); have z5 := x5; clear x5)
    | (go_at_call 19; refine (refGraph_any Non _ _ L (HL.out.ext (BX.trans (by repeat (first | exact Ext.refl _ | assumption | exact Hid.out (by assumption) | refine Ext.alloc ?_ _ | refine Ext.drew ?_ | refine Ext.drewN ?_ _ | refine Ext.trans ?_ (by assumption))))) (by omega) LG.out N' E' t HGR.out).mono ?_; rintro e w6 ⟨gw, rfl, s6, x6⟩; obtain ⟨a6, n6, c6, rfl⟩ := s6.sh; have S6 := Lib.hid s6; have K6 := Lib.hid (graph_at w6 N' (.slice a6 n6 c6)); clear s6; obtain ⟨y60, y61, y62⟩ := HD.out (w6.alloc (.cells #[.int .i64 N', .slice a6 n6 c6] 24)) (by repeat (first | exact Ext.refl _ | assumption | exact Hid.out (by assumption) | refine Ext.alloc ?_ _ | refine Ext.drew ?_ | refine Ext.drewN ?_ _ | refine Ext.trans ?_ (by assumption))); have X6 : Hid (Ext (w.alloc (.cells #[.int .i64 id, .int .i64 ph, .slice so S.length sk] 39)) w6) := Lib.hid (by repeat (first | exact Ext.refl _ | assumption | exact Hid.out (by assumption) | refine Ext.alloc ?_ _ | refine Ext.drew ?_ | refine Ext.drewN ?_ _ | refine Ext.trans ?_ (by assumption))); have z6 := x6; clear x6)
    | (go_at_call 20; refine (pSide_any _ id ph _ S peer (HS.out.ext (BX.trans (by repeat (first | exact Ext.refl _ | assumption | exact Hid.out (by assumption) | refine Ext.alloc ?_ _ | refine Ext.drew ?_ | refine Ext.drewN ?_ _ | refine Ext.trans ?_ (by assumption))))) ⟨s0, s1, s2, s3, s4, s5, s6, s7⟩ b HSR.out).mono ?_; rintro e w7 ⟨rfl, x7⟩; dsimp only [Sd.cs]; have K7 := Lib.hid (fun (V : World) (hV : Ext (w7.alloc (.cells #[.int .i64 s0, .int .i64 s1, .int .i64 s2, .bool s3, .bool s4, .bool s5, .bool s6, .bool s7] 49)) V) => cells8 (box1 (hV.mono (by rw [size_alloc]; omega)))); obtain ⟨y70, y71, y72⟩ := HD.out (w7.alloc (.cells #[.int .i64 s0, .int .i64 s1, .int .i64 s2, .bool s3, .bool s4, .bool s5, .bool s6, .bool s7] 49)) (by repeat (first | exact Ext.refl _ | assumption | exact Hid.out (by assumption) | refine Ext.alloc ?_ _ | refine Ext.drew ?_ | refine Ext.drewN ?_ _ | refine Ext.trans ?_ (by assumption))); have X7 : Hid (Ext (w.alloc (.cells #[.int .i64 id, .int .i64 ph, .slice so S.length sk] 39)) w7) := Lib.hid (by repeat (first | exact Ext.refl _ | assumption | exact Hid.out (by assumption) | refine Ext.alloc ?_ _ | refine Ext.drew ?_ | refine Ext.drewN ?_ _ | refine Ext.trans ?_ (by assumption))); have z7 := x7; clear x7)
    | (go_at_call 21; refine (refSide_any _ id ph _ S peer (HS.out.ext (BX.trans (by repeat (first | exact Ext.refl _ | assumption | exact Hid.out (by assumption) | refine Ext.alloc ?_ _ | refine Ext.drew ?_ | refine Ext.drewN ?_ _ | refine Ext.trans ?_ (by assumption))))) ⟨s0, s1, s2, s3, s4, s5, s6, s7⟩ b HSR.out).mono ?_; rintro e w8 ⟨rfl, x8⟩; dsimp only [Sd.cs]; have K8 := Lib.hid (fun (V : World) (hV : Ext (w8.alloc (.cells #[.int .i64 s0, .int .i64 s1, .int .i64 s2, .bool s3, .bool s4, .bool s5, .bool s6, .bool s7] 49)) V) => cells8 (box1 (hV.mono (by rw [size_alloc]; omega)))); obtain ⟨g50, g51⟩ := K5.out (w8.alloc (.cells #[.int .i64 s0, .int .i64 s1, .int .i64 s2, .bool s3, .bool s4, .bool s5, .bool s6, .bool s7] 49)) (by repeat (first | exact Ext.refl _ | assumption | exact Hid.out (by assumption) | refine Ext.alloc ?_ _ | refine Ext.drew ?_ | refine Ext.drewN ?_ _ | refine Ext.trans ?_ (by assumption))); obtain ⟨g60, g61⟩ := K6.out (w8.alloc (.cells #[.int .i64 s0, .int .i64 s1, .int .i64 s2, .bool s3, .bool s4, .bool s5, .bool s6, .bool s7] 49)) (by repeat (first | exact Ext.refl _ | assumption | exact Hid.out (by assumption) | refine Ext.alloc ?_ _ | refine Ext.drew ?_ | refine Ext.drewN ?_ _ | refine Ext.trans ?_ (by assumption))); have X8 : Hid (Ext (w.alloc (.cells #[.int .i64 id, .int .i64 ph, .slice so S.length sk] 39)) w8) := Lib.hid (by repeat (first | exact Ext.refl _ | assumption | exact Hid.out (by assumption) | refine Ext.alloc ?_ _ | refine Ext.drew ?_ | refine Ext.drewN ?_ _ | refine Ext.trans ?_ (by assumption))); have z8 := x8; clear x8)
    | (go_at_call 22; refine (refSameG_val _ N' N' _ _ E' E' (S5.out.ext (by repeat (first | exact Ext.refl _ | assumption | exact Hid.out (by assumption) | refine Ext.alloc ?_ _ | refine Ext.drew ?_ | refine Ext.drewN ?_ _ | refine Ext.trans ?_ (by assumption)))) (S6.out.ext (by repeat (first | exact Ext.refl _ | assumption | exact Hid.out (by assumption) | refine Ext.alloc ?_ _ | refine Ext.drew ?_ | refine Ext.drewN ?_ _ | refine Ext.trans ?_ (by assumption)))) true (by simp)).mono ?_; rintro e w9 ⟨rfl, x9⟩; obtain ⟨⟨⟨e0, e1⟩, e2, e3⟩, ⟨e4, e5⟩, e6, e7⟩ := K7.out w9 (by repeat (first | exact Ext.refl _ | assumption | exact Hid.out (by assumption) | refine Ext.alloc ?_ _ | refine Ext.drew ?_ | refine Ext.drewN ?_ _ | refine Ext.trans ?_ (by assumption))); obtain ⟨⟨⟨h0, h1⟩, h2, h3⟩, ⟨h4, h5⟩, h6, h7⟩ := K8.out w9 (by repeat (first | exact Ext.refl _ | assumption | exact Hid.out (by assumption) | refine Ext.alloc ?_ _ | refine Ext.drew ?_ | refine Ext.drewN ?_ _ | refine Ext.trans ?_ (by assumption))); have X9 : Hid (Ext (w.alloc (.cells #[.int .i64 id, .int .i64 ph, .slice so S.length sk] 39)) w9) := Lib.hid (by repeat (first | exact Ext.refl _ | assumption | exact Hid.out (by assumption) | refine Ext.alloc ?_ _ | refine Ext.drew ?_ | refine Ext.drewN ?_ _ | refine Ext.trans ?_ (by assumption))); have z9 := x9; clear x9)
    | (go_at_call 23; refine (pSame_any _ _ _ L M (S10.out.ext (by repeat (first | exact Ext.refl _ | assumption | exact Hid.out (by assumption) | refine Ext.alloc ?_ _ | refine Ext.drew ?_ | refine Ext.drewN ?_ _ | refine Ext.trans ?_ (by assumption)))) (S11.out.ext (by repeat (first | exact Ext.refl _ | assumption | exact Hid.out (by assumption) | refine Ext.alloc ?_ _ | refine Ext.drew ?_ | refine Ext.drewN ?_ _ | refine Ext.trans ?_ (by assumption)))) q HQ.out).mono ?_; rintro e w12 ⟨rfl, x12⟩; have X12 : Hid (Ext (w.alloc (.cells #[.int .i64 id, .int .i64 ph, .slice so S.length sk] 39)) w12) := Lib.hid (by repeat (first | exact Ext.refl _ | assumption | exact Hid.out (by assumption) | refine Ext.alloc ?_ _ | refine Ext.drew ?_ | refine Ext.drewN ?_ _ | refine Ext.trans ?_ (by assumption))); have z12 := x12; clear x12)
    | (go_at_call 14; refine (refSameD_any Non _ _ _ L M (HL.out.ext (BX.trans (by repeat (first | exact Ext.refl _ | assumption | exact Hid.out (by assumption) | refine Ext.alloc ?_ _ | refine Ext.drew ?_ | refine Ext.drewN ?_ _ | refine Ext.trans ?_ (by assumption))))) (HM.out.ext (BX.trans (by repeat (first | exact Ext.refl _ | assumption | exact Hid.out (by assumption) | refine Ext.alloc ?_ _ | refine Ext.drew ?_ | refine Ext.drewN ?_ _ | refine Ext.trans ?_ (by assumption))))) q HQ.out).mono ?_; rintro e w13 ⟨rfl, x13⟩; have X13 : Hid (Ext (w.alloc (.cells #[.int .i64 id, .int .i64 ph, .slice so S.length sk] 39)) w13) := Lib.hid (by repeat (first | exact Ext.refl _ | assumption | exact Hid.out (by assumption) | refine Ext.alloc ?_ _ | refine Ext.drew ?_ | refine Ext.drewN ?_ _ | refine Ext.trans ?_ (by assumption))); have z13 := x13; clear x13))
  go_ret
  exact ⟨rfl, BX.trans (by repeat (first | exact Ext.refl _ | assumption | exact Hid.out (by assumption) | refine Ext.alloc ?_ _ | refine Ext.drew ?_ | refine Ext.drewN ?_ _ | refine Ext.trans ?_ (by assumption)))⟩

theorem placeTells_any (w : World) (ao : Option Addr) (k : Nat) (L : List Dn) (mo : Option Addr) (mk : Nat) (M : List Dn) (id ph : Int) (so : Option Addr) (sk : Nat) (S : List Sd) (peer : Int) (h : Ns DV Non w (.slice ao L.length k) L) (hm : Ns DV Non w (.slice mo M.length mk) M) (hd : Sl w (.slice so S.length sk) S) :
    Calls Try.prog 4 #[.slice ao L.length k, .slice mo M.length mk, .agg #[.int .i64 id, .int .i64 ph, .slice so S.length sk], .int .i64 peer] w (GivesB w (.bool true)) := by
  cases hf : fewB L 0 with
  | false => exact placeTells_fewL w ao k L mo mk M id ph so sk S peer h hm hd hf
  | true =>
    cases hg : fewB M 0 with
    | false => exact placeTells_fewM w ao k L mo mk M id ph so sk S peer h hm hd hf hg
    | true =>
      by_cases hs : (S.length : Int) ≤ 24
      · exact placeTells_short w ao k L mo mk M id ph so sk S peer h hm hd hf hg hs
      · exact placeTells_fewS w ao k L mo mk M id ph so sk S peer h hm hd hf hg hs

end Go.Proofs.Ytpnnnbjjoimalaa
