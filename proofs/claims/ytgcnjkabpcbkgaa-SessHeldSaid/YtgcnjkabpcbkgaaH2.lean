/- Layer 17, the document's answers: the place of a session; whether the first one is granted; whether a book may be. -/
import Derived.Test.YtgcnjkabpcbkgaaH1
namespace Go.Proofs.Ytgcnjkabpcbkgaa
open Go.RowKit

def grantedH : List Se → Bool
  | [] => false
  | s :: _ => decide (s.state = 1)

set_option maxRecDepth 100000 in
set_option maxHeartbeats 4000000 in
theorem refFind_any (F : Nat → Prop) (w : World) (n id : Int) (v : Value) (L : List Se) (h : Ns HV F w v L) (r : Int) (hr : findH L id = r) :
    Calls Try.prog 16 #[.agg #[.int .i64 n, v], .int .i64 id] w fun e w' => e = .returned (.int .i64 r) ∧ Ext w w' := by
  obtain ⟨ao, c, rfl⟩ := h.len
  have hlen := h.length_le
  have HS := Lib.hid h
  have HR := Lib.hid hr
  have HK : Hid (∀ V, Ext (w.alloc (.cells #[.int .i64 n, .slice ao L.length c] 24)) V → V.cell? ⟨w.heap.size, 1, none⟩ = some (.slice ao L.length c)) := Lib.hid fun V hV => cell_atD V hV rfl
  have X0 : Hid (Ext w (w.alloc (.cells #[.int .i64 n, .slice ao L.length c] 24))) := Lib.hid ((Ext.refl w).alloc _)
  clear h hr
  go_enter Try.func16, Try.ntmps16
  go_wp2
  go_loopw [5] (fun i wr => ∃ k : Nat, k ≤ L.length ∧ i = .int .i64 k ∧ Hid (∀ (j : Nat) (u : Se), j < k → L[j]? = some u → u.id ≠ id) ∧ Hid (Ext (w.alloc (.cells #[.int .i64 n, .slice ao L.length c] 24)) wr)) (fun i _ => L.length - (intOf i).toNat)
  case atStart => exact ⟨0, Nat.zero_le _, rfl, Lib.hid (fun j u hj => by omega), Lib.hid (Ext.refl _)⟩
  case round =>
    obtain ⟨k, hk, rfl, HQ, HX⟩ := hrel
    have k1 := HK.out wr HX.out
    by_cases hlt : k < L.length
    · obtain ⟨b1, off, so, sc, s, hsj, rfl, hn, hnc, hc63, hb, hsn, hcs⟩ := HS.out.sessAt hlt
      obtain ⟨⟨x0, x1⟩, x2, x3⟩ := hcs wr (X0.out.trans HX.out)
      have HJ := Lib.hid hsj
      clear hcs hsj hn hsn
      obtain ⟨y0, y1, y2, y3⟩ := s
      dsimp only at x0 x1 x2 x3
      by_cases e : y0 = id
      · have hd : (y0 == id) = true := by simpa using e
        have HE := Lib.hid e
        clear e
        go_wp2
        go_ret
        exact ⟨ret_int (by rw [← HR.out]; unfold findH; rw [findH_some HJ.out HE.out fun j t hj ht => HQ.out j t hj ht]), X0.out.trans HX.out⟩
      · have hd : (y0 == id) = false := by simpa using e
        have HE := Lib.hid e
        clear e
        go_wp2
        go_roundw
        case rel => exact ⟨k + 1, by omega, by go_num, Lib.hid (fun j u hj hu => by
          rcases Nat.lt_or_ge j k with q | q
          · exact HQ.out j u q hu
          · obtain rfl : j = k := by omega
            rw [HJ.out] at hu
            simp only [Option.some.injEq] at hu
            subst hu
            exact HE.out), HX⟩
        case measure => simp [intOf]; omega
    · have hkl : k = L.length := by omega
      go_wp2
      go_ret
      exact ⟨ret_int (by rw [← HR.out]; exact (findH_none fun j s hs => HQ.out j s (by have := (List.getElem?_eq_some_iff.1 hs).1; omega) hs).symm), X0.out.trans HX.out⟩

set_option maxRecDepth 100000 in
set_option maxHeartbeats 4000000 in
theorem refGranted_any (F : Nat → Prop) (w : World) (n : Int) (v : Value) (L : List Se) (h : Ns HV F w v L) (t : Bool) (ht : grantedH L = t) :
    Calls Try.prog 51 #[.agg #[.int .i64 n, v]] w fun e w' => e = .returned (.bool t) ∧ Ext w w' := by
  obtain ⟨ao, c, rfl⟩ := h.len
  have hlen := h.length_le
  have X0 : Hid (Ext w (w.alloc (.cells #[.int .i64 n, .slice ao L.length c] 24))) := Lib.hid ((Ext.refl w).alloc _)
  have HT := Lib.hid ht
  clear ht
  cases L with
  | nil =>
    clear h
    go_enter Try.func51, Try.ntmps51
    go_wp2
    go_ret
    exact ⟨ret_bool (by rw [← HT.out]; rfl), X0.out⟩
  | cons s l =>
    obtain ⟨b1, off, so, sc, d, hsj, rfl, hn, hnc, hc63, hb, hsn, hcs⟩ := h.sessAt (k := 0) (by simp)
    simp only [List.getElem?_cons_zero, Option.some.injEq] at hsj
    subst hsj
    obtain ⟨⟨x0, x1⟩, x2, x3⟩ := hcs _ X0.out
    rw [Nat.zero_mul, Nat.add_zero] at x2
    obtain ⟨m, hm⟩ : ∃ m, m = (s :: l).length := ⟨_, rfl⟩
    have hm0 : (0 : Int) < (m : Int) := by rw [hm]; simp only [List.length_cons]; omega
    rw [← hm] at x2 X0 hn hnc hlen ⊢
    clear hcs hsn x0 x1 x3 hm h hn
    obtain ⟨y0, y1, y2, y3⟩ := s
    dsimp only at x2
    by_cases e : y2 = 1
    · have hd : (y2 == 1) = true := by simpa using e
      have HF : Hid (true = t) := Lib.hid (by rw [← HT.out]; exact (decide_eq_true e).symm)
      clear e
      go_enter Try.func51, Try.ntmps51
      go_wp2
      go_ret
      exact ⟨ret_bool HF.out, X0.out⟩
    · have hd : (y2 == 1) = false := by simpa using e
      have HF : Hid (false = t) := Lib.hid (by rw [← HT.out]; exact (decide_eq_false e).symm)
      clear e
      go_enter Try.func51, Try.ntmps51
      go_wp2
      go_ret
      exact ⟨ret_bool HF.out, X0.out⟩

end Go.Proofs.Ytgcnjkabpcbkgaa
