/- The document's answers for colours: who is near, whose turn it is, a round, all rounds, whether they are right. -/
import Derived.Test.YtpnnnbjjoimalaaY7
namespace Go.Proofs.Ytpnnnbjjoimalaa
open Go.RowKit

def rangeI (k : Nat) : List Int := (List.range k).map fun i : Nat => (i : Int)
theorem rangeI_next (k : Nat) : rangeI (k + 1) = rangeI k ++ [(k : Int)] := by unfold rangeI; rw [List.range_succ, List.map_append]; rfl
theorem rnear_range (m : Nat) (E : List Edge) (a : Int) : rnear (m : Int) E a = (rangeI m).filter fun b => decide (btw a b ∈ E) := by unfold rnear rangeI; rw [Int.toNat_natCast]
theorem rnear_length (N : Int) (E : List Edge) (a : Int) : (rnear N E a).length ≤ N.toNat := by
  unfold rnear
  have := List.length_filter_le (fun b => decide (btw a b ∈ E)) ((List.range N.toNat).map fun i : Nat => (i : Int))
  simpa using this

def turnB (c L : List Int) (a : Int) : Bool := (col c a == 0) && !waits c L a
theorem refCheckC_any (w : World) (N : Int) (v cv : Value) (c : List Int) (hv : ∃ ao n k, v = .slice ao n k) (hc : Sl w cv c) (r : Bool) (hr : cForm N c = r) :
    Calls Try.prog 36 #[.agg #[.int .i64 N, v], cv] w fun e w' => e = .returned (.bool r) ∧ Ext w w' := by
  obtain ⟨vo, vn, vc, rfl⟩ := hv
  obtain ⟨co, cc, rfl⟩ := hc.len
  have HC := Lib.hid hc
  have HR := Lib.hid hr
  have hlen := hc.length_le
  have HG := Lib.hid (graph_at w N (.slice vo vn vc))
  clear hc hr
  go_enter Try.func36, Try.ntmps36
  go_wp2
  go_loopw [5] (fun i wr => ∃ k : Nat, k ≤ c.length ∧ i = .int .i64 k ∧ Hid ((c.take k).all (fun x => decide (0 ≤ x)) = true) ∧ Hid (Ext (w.alloc (.cells #[.int .i64 N, .slice vo vn vc] 24)) wr)) (fun i _ => c.length - (intOf i).toNat)
  case atStart => exact ⟨0, Nat.zero_le _, rfl, Lib.hid rfl, Lib.hid (Ext.refl _)⟩
  case round =>
    obtain ⟨k, hk, rfl, HT, HX⟩ := hrel
    obtain ⟨a0, a1⟩ := HG.out wr HX.out
    by_cases hlt : k < c.length
    · obtain ⟨b, off, rfl, hn, hnc, hc63, hb, hcell⟩ := HC.out.intsAt hlt
      have hya := (Below.cell (Ext.trans ((Ext.refl w).alloc _) HX.out) (p := ⟨b, off + k, none⟩) hb).trans hcell
      obtain ⟨y, hy⟩ : ∃ y, y = c.getD k 0 := ⟨_, rfl⟩
      rw [← hy] at hya
      have HN : Hid ((c.take (k + 1)).all (fun x => decide (0 ≤ x)) = ((c.take k).all (fun x => decide (0 ≤ x)) && decide (0 ≤ y))) := Lib.hid (by rw [all_next _ hlt 0, ← hy])
      have HM : Hid (y ∈ c) := Lib.hid (hy ▸ getD_mem hlt 0)
      clear hy hcell
      by_cases h0 : y < 0
      · have HF : Hid (r = false) := Lib.hid (by
          rw [← HR.out]
          cases e : cForm N c with
          | false => rfl
          | true => have := (form_iff.1 e).2 y HM.out; omega)
        go_wp2
        go_ret
        exact ⟨ret_bool HF.out.symm, Ext.trans ((Ext.refl w).alloc _) HX.out⟩
      · have HF : Hid ((c.take (k + 1)).all (fun x => decide (0 ≤ x)) = true) := Lib.hid (HN.out.trans (by rw [HT.out, decide_eq_true (by omega)]; rfl))
        go_wp2
        go_roundw
        case rel => exact ⟨k + 1, by omega, by go_num, HF, HX⟩
        case measure => simp [intOf]; omega
    · have hkl : k = c.length := by omega
      have HF : Hid (((c.length : Int) == N) = r) := Lib.hid (by
        have ht := HT.out
        rw [hkl, List.take_length] at ht
        rw [← HR.out]; unfold cForm; rw [ht, Bool.and_true]; rfl)
      go_wp2
      go_ret
      exact ⟨ret_bool (by first | exact HF.out | (rw [← HF.out]; rfl)), Ext.trans ((Ext.refl w).alloc _) HX.out⟩

end Go.Proofs.Ytpnnnbjjoimalaa
