/- Texts of this seat. -/
import Derived.KernelRfl
import Derived.Test.YtfbambemjokmgaaGreatNAT
namespace Go.Proofs.YtfbambemjokmgaaGreat
open Go.RowKit
set_option maxRecDepth 100000 in
set_option maxHeartbeats 1000000 in
theorem refSmall_any (w : World) (N : Int) (v : Value) (E : List Edge) (h : Sl w v E) (t : Bool) (ht : (decide (N ≤ 10) && okG N E) = t) :
    Calls Tryz.prog 74 #[.agg #[.int .i64 N, v]] w fun e w' => e = .returned (.bool t) ∧ Ext w w' := by
  obtain ⟨vo, vn, vc, rfl⟩ := h.sh
  obtain ⟨W0, hW0⟩ : ∃ W0, W0 = w.alloc (.cells #[.int .i64 N, .slice vo vn vc] 53) := ⟨_, rfl⟩
  have X0 : Hid (Ext w W0) := Lib.hid (hW0 ▸ (Ext.refl w).alloc _)
  have B0 : Hid (W0.heap[w.heap.size]? = some (.cells #[.int .i64 N, .slice vo vn vc] 53 (0, 0))) := Lib.hid (hW0 ▸ at0 w _)
  have HW0 := Lib.hid hW0
  obtain ⟨q, hq⟩ : ∃ q, okG N E = q := ⟨_, rfl⟩
  have HC := Lib.hid (refCheck_val W0 N _ E (h.ext X0.out) q hq)
  rw [hq] at ht
  have HT := Lib.hid ht
  obtain ⟨k0, k1⟩ := cells2S B0.out
  clear h hW0 ht hq
  go_enter Tryz.func74, Tryz.ntmps74
  go_upto_region 1 with (fail)
  rw [← HW0.out]
  by_cases e : N ≤ 10
  · have HE := Lib.hid (decide_eq_true e)
    go_wp2_with (go_at_call 45; refine HC.out.mono ?_; rintro e w1 ⟨rfl, hx⟩; have X1 := Lib.hid (X0.out.trans hx); clear hx)
    go_ret
    exact ⟨ret_bool (by rw [← HT.out, HE.out]; rfl), X1.out⟩
  · have HE := Lib.hid (decide_eq_false e)
    go_wp2
    go_ret
    exact ⟨ret_bool (by rw [← HT.out, HE.out]; rfl), X0.out⟩
end Go.Proofs.YtfbambemjokmgaaGreat
namespace Go.Proofs.YtfbambemjokmgaaGreat
open Go.RowKit
abbrev Akt := Int × Int × Int × List Int
structure AV where
  k : Int
  a : Int
  b : Int
  ao : Option Addr
  n : Nat
  c : Nat
instance : Elem AV where
  e := 28
  t := 54
  k := 4
  bytes := 48
  z := .agg #[.int .i64 0, .int .i64 0, .int .i64 0, .slice none 0 0]
  enc := fun x => [.int .i64 x.k, .int .i64 x.a, .int .i64 x.b, .slice x.ao x.n x.c]
  dflt := ⟨0, 0, 0, none, 0, 0⟩
  len := fun _ => rfl
  pos := by decide
  one := fun x u hu => by simp at hu; rcases hu with rfl | rfl | rfl | rfl <;> rfl
  row := by kernel_rfl
  info := by kernel_rfl
  zsize := rfl
  few := by decide
structure RdA (F : Nat → Prop) (w : World) (x : AV) (d : Akt) : Prop where
  k : x.k = d.1
  a : x.a = d.2.1
  b : x.b = d.2.2.1
  need : Sa F w (.slice x.ao x.n x.c) d.2.2.2
instance : Nest AV Akt where
  rd := RdA
  off := fun h o g => ⟨h.k, h.a, h.b, h.need.off o g⟩
theorem Ns.actAt {F : Nat → Prop} {w : World} {ao : Option Addr} {n c : Nat} {L : List Akt} (h : Ns AV F w (.slice ao n c) L) {k : Nat} (hk : k < L.length) :
    ∃ b off so sc, ∃ y : Akt, L[k]? = some y ∧ ao = some ⟨b, off, none⟩ ∧ n = L.length ∧ n ≤ c ∧ c ≤ 9223372036854775807 ∧ b < w.heap.size ∧ Sa F w (.slice so y.2.2.2.length sc) y.2.2.2 ∧
      ∀ W, Ext w W → (W.cell? ⟨b, off + k * 4, none⟩ = some (.int .i64 y.1) ∧ W.cell? ⟨b, off + k * 4 + 1, none⟩ = some (.int .i64 y.2.1)) ∧ W.cell? ⟨b, off + k * 4 + 2, none⟩ = some (.int .i64 y.2.2.1) ∧ W.cell? ⟨b, off + k * 4 + 3, none⟩ = some (.slice so y.2.2.2.length sc) := by
  obtain ⟨b, off, x, d, h1, h2, h3, h4, h5, h6, h7, h8⟩ := h.at hk
  obtain ⟨e1, e2, e3, e4⟩ : RdA F w x d := h8
  obtain ⟨so, sc, hv⟩ := e4.sl.len
  refine ⟨b, off, so, sc, d, h1, h2, h3, h4, h5, h6, hv ▸ e4, fun W hW => ?_⟩
  have g : ∀ i u, (Elem.enc x)[i]? = some u → W.cell? ⟨b, off + k * 4 + i, none⟩ = some u := fun i u hu => by
    have := h7 i u hu
    rw [show off + (k * Elem.k AV + i) = off + k * 4 + i from by show off + (k * 4 + i) = _; omega] at this
    exact (hW.cell (p := ⟨b, off + k * 4 + i, none⟩) h6).trans this
  have q0 := g 0 _ rfl
  have q1 := g 1 _ rfl
  have q2 := g 2 _ rfl
  have q3 := g 3 _ rfl
  rw [e1] at q0
  rw [e2] at q1
  rw [e3] at q2
  rw [hv] at q3
  exact ⟨⟨q0, q1⟩, q2, q3⟩
def fewR (N : Int) (E : List Edge) (l : List Akt) : Bool := ((l.take 81).all fun x => decide (x.2.2.2.length ≤ 20)) && ((decide (N ≤ 10) && okG N E) && decide (l.length ≤ 80))
theorem fewR_yes {N : Int} {E : List Edge} {l : List Akt} (h : fewR N E l = true) : OkG N E ∧ N ≤ 10 ∧ l.length ≤ 80 ∧ ∀ x ∈ l, x.2.2.2.length ≤ 20 := by
  unfold fewR at h
  simp only [Bool.and_eq_true, decide_eq_true_eq, List.all_eq_true] at h
  obtain ⟨h1, ⟨h2, h3⟩, h4⟩ := h
  refine ⟨okG_iff.1 h3, h2, h4, fun x hx => h1 x ?_⟩
  rw [List.take_of_length_le (by omega)]
  exact hx
theorem all_nextA {p : Akt → Bool} {l : List Akt} {k : Nat} {y : Akt} (h : l[k]? = some y) : (l.take (k + 1)).all p = ((l.take k).all p && p y) := by
  obtain ⟨hk, e⟩ := List.getElem?_eq_some_iff.1 h
  rw [List.take_succ_eq_append_getElem hk, List.all_append, e]
  simp
theorem all_cutA {p : Akt → Bool} {l : List Akt} {k m : Nat} (hk : k ≤ m) (h : (l.take k).all p = false) : (l.take m).all p = false := by
  cases hq : (l.take m).all p
  · rfl
  · rw [List.all_eq_true] at hq
    rw [← h]
    symm
    rw [List.all_eq_true]
    exact fun x hx => hq x ((List.take_subset_take_left l hk) hx)
set_option maxRecDepth 100000 in
set_option maxHeartbeats 4000000 in
theorem fewB_any (w : World) (N : Int) (gv lv : Value) (E : List Edge) (l : List Akt) (h : Sl w gv E) (hl : Ns AV Non w lv l) (t : Bool) (ht : fewR N E l = t) :
    Calls Tryz.prog 28 #[.agg #[.int .i64 N, gv], lv] w fun e w' => e = .returned (.bool t) ∧ Ext w w' := by
  obtain ⟨vo, vc, rfl⟩ := h.len
  obtain ⟨lo, lc, rfl⟩ := hl.len
  have hll := hl.length_le
  obtain ⟨W0, hW0⟩ : ∃ W0, W0 = w.alloc (.cells #[.int .i64 N, .slice vo E.length vc] 53) := ⟨_, rfl⟩
  have X0 : Hid (Ext w W0) := Lib.hid (hW0 ▸ (Ext.refl w).alloc _)
  have B0 : Hid (W0.heap[w.heap.size]? = some (.cells #[.int .i64 N, .slice vo E.length vc] 53 (0, 0))) := Lib.hid (hW0 ▸ at0 w _)
  have HW0 := Lib.hid hW0
  have HG := Lib.hid (h.ext X0.out)
  have HL := Lib.hid (hl.ext X0.out)
  have HT := Lib.hid ht
  obtain ⟨t1, ht1⟩ : ∃ t, (decide (N ≤ 10) && okG N E) = t := ⟨_, rfl⟩
  have HS := Lib.hid ht1
  obtain ⟨k0, k1⟩ := cells2S B0.out
  clear h hl hW0 ht ht1
  go_enter Tryz.func28, Tryz.ntmps28
  go_upto_region 1 with (fail)
  rw [← HW0.out]
  go_wp2
  go_loopw [5] (fun i wr => ∃ k : Nat, k ≤ l.length ∧ k ≤ 81 ∧ i = .int .i64 k ∧ Hid ((l.take k).all (fun x => decide (x.2.2.2.length ≤ 20)) = true) ∧ wr = W0) (fun i _ => l.length - (intOf i).toNat)
  case atStart => exact ⟨0, Nat.zero_le _, by omega, rfl, Lib.hid rfl, rfl⟩
  case round =>
    obtain ⟨k, hk, hk81, rfl, HQ, rfl⟩ := hrel
    by_cases hlt : k < l.length
    · by_cases h81 : k < 81
      · obtain ⟨b, off, so, sc, y, hyk, rfl, hn, hnc, hc63, hb, hsl, hcell⟩ := HL.out.actAt hlt
        obtain ⟨⟨a0, a1⟩, a2, a3⟩ := hcell wr (Ext.refl _)
        have HN := Lib.hid (all_nextA (p := fun x => decide (x.2.2.2.length ≤ 20)) hyk)
        have hki : (k : Int) < (l.length : Int) := by omega
        have hk8 : (k : Int) < 81 := by omega
        clear hcell hyk hn hsl
        obtain ⟨y0, y1, y2, y3⟩ := y
        dsimp only at a0 a1 a2 a3 HN
        by_cases h20 : y3.length ≤ 20
        · have q20 : decide ((20 : Int) < (y3.length : Int)) = false := decide_eq_false (by omega)
          have HF : Hid ((l.take (k + 1)).all (fun x => decide (x.2.2.2.length ≤ 20)) = true) := Lib.hid (by rw [HN.out, HQ.out, decide_eq_true h20]; rfl)
          have h20i : ¬ (20 : Int) < (y3.length : Int) := by omega
          clear h20
          go_wp2
          go_roundw
          case rel => exact ⟨k + 1, by omega, by omega, by go_num, HF, by first | trivial | rfl⟩
          case measure => simp [intOf]; omega
        · have HF : Hid (t = false) := Lib.hid (by
            rw [← HT.out]
            unfold fewR
            rw [all_cutA (k := k + 1) (by omega) (by rw [HN.out, decide_eq_false h20, Bool.and_false])]
            rfl)
          have h20i : (20 : Int) < (y3.length : Int) := by omega
          clear h20
          go_wp2
          go_ret
          exact ⟨ret_bool HF.out.symm, X0.out⟩
      · have hk2 : k = 81 := by omega
        have HF : Hid (t = false) := Lib.hid (by
          rw [← HT.out]
          unfold fewR
          rw [decide_eq_false (show ¬ l.length ≤ 80 by omega)]
          simp)
        have hki : (k : Int) < (l.length : Int) := by omega
        have hk8 : ¬ (k : Int) < 81 := by omega
        have hl80 : ¬ (l.length : Int) ≤ 80 := by omega
        have HSM := Lib.hid (refSmall_any wr N _ E HG.out t1 HS.out)
        clear hk2 h81
        cases t1
        all_goals
          go_wp2_with (go_at_call 74; refine HSM.out.mono ?_; rintro e w2 ⟨rfl, hx⟩; have X2 := Lib.hid hx; clear hx)
          go_ret
          exact ⟨ret_bool (by first | exact HF.out.symm | (rw [HF.out]; exact decide_eq_false (by omega))), X0.out.trans X2.out⟩
    · have hkl : k = l.length := by omega
      have HF : Hid (t = (t1 && decide (l.length ≤ 80))) := Lib.hid (by
        rw [← HT.out]
        unfold fewR
        rw [HS.out]
        have := HQ.out
        rw [hkl, List.take_length] at this
        rw [List.all_eq_true.2 fun x hx => List.all_eq_true.1 this x (List.mem_of_mem_take hx)]
        rfl)
      have hki : ¬ (k : Int) < (l.length : Int) := by omega
      have HSM := Lib.hid (refSmall_any wr N _ E HG.out t1 HS.out)
      clear hkl hlt
      by_cases h80 : l.length ≤ 80
      · have h80i : (l.length : Int) ≤ 80 := by omega
        have HF2 : Hid (t = t1) := Lib.hid (by rw [HF.out, decide_eq_true h80, Bool.and_true])
        clear h80 HF
        cases t1
        all_goals
          go_wp2_with (go_at_call 74; refine HSM.out.mono ?_; rintro e w2 ⟨rfl, hx⟩; have X2 := Lib.hid hx; clear hx)
          go_ret
          exact ⟨ret_bool HF2.out.symm, X0.out.trans X2.out⟩
      · have h80i : ¬ (l.length : Int) ≤ 80 := by omega
        have HF2 : Hid (t = false) := Lib.hid (by rw [HF.out, decide_eq_false h80, Bool.and_false])
        clear h80 HF
        cases t1
        all_goals
          go_wp2_with (go_at_call 74; refine HSM.out.mono ?_; rintro e w2 ⟨rfl, hx⟩; have X2 := Lib.hid hx; clear hx)
          go_ret
          exact ⟨ret_bool (by first | exact HF2.out.symm | (rw [HF2.out]; exact decide_eq_false (by omega))), X0.out.trans X2.out⟩
end Go.Proofs.YtfbambemjokmgaaGreat
