/- Layer 15, the document's answers: the place of a side. -/
import Derived.Test.YtpjpjchnfllcmaaW3
import Derived.Test.YtpjpjchnfllcmaaElem3
namespace Go.Proofs.Ytpjpjchnfllcmaa
open Go.RowKit

/-- the place of a side; -1 -/
def sideAt (p : Int) : List Sd → Int
  | [] => -1
  | s :: L => if s.peer = p then 0 else if sideAt p L < 0 then -1 else sideAt p L + 1
theorem sideAt_low (p : Int) : ∀ L : List Sd, -1 ≤ sideAt p L
  | [] => Int.le_refl _
  | s :: L => by
    have := sideAt_low p L
    unfold sideAt
    split
    · decide
    · split <;> omega
theorem sideAt_none {p : Int} : ∀ {L : List Sd}, (∀ (k : Nat) (s : Sd), L[k]? = some s → s.peer ≠ p) → sideAt p L = -1
  | [], _ => rfl
  | s :: L, h => by
    have h0 := h 0 s rfl
    have ih := sideAt_none (p := p) (L := L) fun k t hk => h (k + 1) t hk
    unfold sideAt
    rw [if_neg h0, ih]; rfl
theorem sideAt_some {p : Int} : ∀ {L : List Sd} {k : Nat} {s : Sd}, L[k]? = some s → s.peer = p → (∀ (j : Nat) (u : Sd), j < k → L[j]? = some u → u.peer ≠ p) → sideAt p L = k
  | [], _, _, h, _, _ => by simp at h
  | u :: L, 0, s, h, hp, _ => by
    simp only [List.getElem?_cons_zero, Option.some.injEq] at h
    subst h
    unfold sideAt
    rw [if_pos hp]; rfl
  | u :: L, k + 1, s, h, hp, hb => by
    rw [List.getElem?_cons_succ] at h
    have ih := sideAt_some (p := p) h hp fun j t hj ht => hb (j + 1) t (by omega) ht
    have h0 := hb 0 u (by omega) rfl
    unfold sideAt
    rw [if_neg h0, ih, if_neg (by omega)]; omega
theorem sideAt_mem {p : Int} : ∀ {L : List Sd}, (sideAt p L < 0 ↔ ∀ s ∈ L, s.peer ≠ p)
  | [] => by simp [sideAt]
  | s :: L => by
    have ih := sideAt_mem (p := p) (L := L)
    have hl := sideAt_low p L
    unfold sideAt
    by_cases h : s.peer = p
    · rw [if_pos h]; simp [h]
    · rw [if_neg h]
      by_cases h2 : sideAt p L < 0
      · rw [if_pos h2]; simp only [List.mem_cons, forall_eq_or_imp]; exact ⟨fun _ => ⟨h, ih.1 h2⟩, fun _ => by omega⟩
      · rw [if_neg h2]; simp only [List.mem_cons, forall_eq_or_imp]; exact ⟨fun h => by omega, fun hh => (h2 (ih.2 hh.2)).elim⟩

set_option maxRecDepth 100000 in
set_option maxHeartbeats 4000000 in
theorem refDSide_any (w : World) (id ph th p : Int) (v nv : Value) (L : List Sd) (N : List Int) (h : Sl w v L) (hN : Sl w nv N) :
    Calls Try.prog 36 #[.agg #[.int .i64 id, .int .i64 ph, v, .int .i64 th, nv], .int .i64 p] w fun e w' => e = .returned (.int .i64 (sideAt p L)) ∧ Ext w w' := by
  obtain ⟨ao, c, rfl⟩ := h.len
  obtain ⟨na, nc, rfl⟩ := hN.len
  have hlen := h.length_le
  have HS := Lib.hid h
  have HK : Hid (∀ V, Ext (w.alloc (.cells #[.int .i64 id, .int .i64 ph, .slice ao L.length c, .int .i64 th, .slice na N.length nc] 29)) V → V.cell? ⟨w.heap.size, 2, none⟩ = some (.slice ao L.length c)) := Lib.hid fun V hV => cell_atD V hV rfl
  have X0 : Hid (Ext w (w.alloc (.cells #[.int .i64 id, .int .i64 ph, .slice ao L.length c, .int .i64 th, .slice na N.length nc] 29))) := Lib.hid ((Ext.refl w).alloc _)
  clear h hN
  go_enter Try.func36, Try.ntmps36
  go_wp2
  go_loopw [5] (fun i wr => ∃ k : Nat, k ≤ L.length ∧ i = .int .i64 k ∧ Hid (∀ (j : Nat) (u : Sd), j < k → L[j]? = some u → u.peer ≠ p) ∧ Hid (Ext (w.alloc (.cells #[.int .i64 id, .int .i64 ph, .slice ao L.length c, .int .i64 th, .slice na N.length nc] 29)) wr)) (fun i _ => L.length - (intOf i).toNat)
  case atStart => exact ⟨0, Nat.zero_le _, rfl, Lib.hid (fun j u hj => by omega), Lib.hid (Ext.refl _)⟩
  case round =>
    obtain ⟨k, hk, rfl, HQ, HX⟩ := hrel
    have k2 := HK.out wr HX.out
    by_cases hlt : k < L.length
    · obtain ⟨b1, off, s, hsy, hsj, rfl, hn, hnc, hc63, hb, hcs⟩ := HS.out.sidesAt hlt
      obtain ⟨⟨⟨x0, x1⟩, x2, x3⟩, ⟨x4, x5⟩, x6, x7⟩ := hcs wr (X0.out.trans HX.out)
      have HJ := Lib.hid hsj
      clear hcs hsj hsy hn
      obtain ⟨y0, y1, y2, y3, y4, y5, y6, y7⟩ := s
      dsimp only at x0 x1 x2 x3 x4 x5 x6 x7
      by_cases e : y0 = p
      · have hd : (y0 == p) = true := by simpa using e
        have HE := Lib.hid e
        clear e
        go_wp2
        go_ret
        exact ⟨by rw [sideAt_some HJ.out HE.out HQ.out]; rfl, X0.out.trans HX.out⟩
      · have hd : (y0 == p) = false := by simpa using e
        have HE := Lib.hid e
        clear e
        go_wp2
        go_roundw
        case rel => exact ⟨k + 1, by omega, by go_num, Lib.hid (fun j u hj hu => by
          rcases Nat.lt_or_ge j k with h | h
          · exact HQ.out j u h hu
          · obtain rfl : j = k := by omega
            have := HJ.out.symm.trans hu
            simp only [Option.some.injEq] at this
            rw [← this]; exact HE.out), HX⟩
        case measure => simp [intOf]; omega
    · have hkl : k = L.length := by omega
      go_wp2
      go_ret
      exact ⟨by rw [sideAt_none fun j u hu => HQ.out j u (by have := (List.getElem?_eq_some_iff.1 hu).1; omega) hu]; rfl, X0.out.trans HX.out⟩
end Go.Proofs.Ytpjpjchnfllcmaa
