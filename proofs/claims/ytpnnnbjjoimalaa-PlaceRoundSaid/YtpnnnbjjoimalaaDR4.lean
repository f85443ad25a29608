/- Layer 12, the document's answers: whether a fork is on its way; who goes ahead on an edge. -/
import Derived.Test.YtpnnnbjjoimalaaMDR
namespace Go.Proofs.Ytpnnnbjjoimalaa
open Go.RowKit

def hitM (f t e : Int) (y : Ml) : Bool := (y.from_ == f) && (y.to_ == t) && (y.kind == 1) && (y.epoch == e) && (y.num == 0)
def goesB (l : List Ml) (f t e : Int) : Bool := l.any (hitM f t e)

set_option maxHeartbeats 2000000 in
theorem refGoes_any (w : World) (v : Value) (l : List Ml) (f t e : Int) (h : Sl w v l) (r : Bool) (hr : goesB l f t e = r) :
    Calls Try.prog 45 #[v, .int .i64 f, .int .i64 t, .int .i64 e] w fun e w' => e = .returned (.bool r) ∧ Ext w w' := by
  obtain ⟨ao, c, rfl⟩ := h.len
  have HS := Lib.hid h
  have HR := Lib.hid hr
  have hlen := h.length_le
  clear h hr
  go_enter Try.func45, Try.ntmps45
  go_wp2
  go_loopw [9] (fun i wr => ∃ k : Nat, k ≤ l.length ∧ i = .int .i64 k ∧ Hid ((l.take k).any (hitM f t e) = false) ∧ Hid (Ext w wr)) (fun i _ => l.length - (intOf i).toNat)
  case atStart => exact ⟨0, Nat.zero_le _, rfl, Lib.hid rfl, Lib.hid (Ext.refl _)⟩
  case round =>
    obtain ⟨k, hk, rfl, HT, HX⟩ := hrel
    by_cases hlt : k < l.length
    · obtain ⟨b, off, y, _, hyk, rfl, hn, hnc, hc63, hb, hcell⟩ := HS.out.mailAt hlt
      obtain ⟨⟨a0, a1⟩, a2, a3, a4⟩ := hcell wr HX.out
      have HN := Lib.hid (any_nextD (hitM f t e) hyk)
      obtain ⟨y0, y1, y2, y3, y4⟩ := y
      have HY : Hid (hitM f t e ⟨y0, y1, y2, y3, y4⟩ = ((y0 == f) && (y1 == t) && (y2 == 1) && (y3 == e) && (y4 == 0))) := Lib.hid rfl
      have HX1 : Hid (Ext w (wr.alloc (.cells #[.int .i64 y0, .int .i64 y1, .int .i64 y2, .int .i64 y3, .int .i64 y4] 96))) := Lib.hid (HX.out.alloc _)
      dsimp only at a0 a1 a2 a3 a4
      clear hcell hyk hn
      cases q0 : (y0 == f)
      · have HF := Lib.hid (HN.out.trans (by rw [HT.out, HY.out, q0]))
        go_wp2
        go_roundw
        case rel => exact ⟨k + 1, by omega, by go_num, HF, HX1⟩
        case measure => simp [intOf]; omega
      cases q1 : (y1 == t)
      · have HF := Lib.hid (HN.out.trans (by rw [HT.out, HY.out, q0, q1]))
        go_wp2
        go_roundw
        case rel => exact ⟨k + 1, by omega, by go_num, HF, HX1⟩
        case measure => simp [intOf]; omega
      cases q2 : (y2 == 1)
      · have HF := Lib.hid (HN.out.trans (by rw [HT.out, HY.out, q0, q1, q2]))
        go_wp2
        go_roundw
        case rel => exact ⟨k + 1, by omega, by go_num, HF, HX1⟩
        case measure => simp [intOf]; omega
      cases q3 : (y3 == e)
      · have HF := Lib.hid (HN.out.trans (by rw [HT.out, HY.out, q0, q1, q2, q3]))
        go_wp2
        go_roundw
        case rel => exact ⟨k + 1, by omega, by go_num, HF, HX1⟩
        case measure => simp [intOf]; omega
      cases q4 : (y4 == 0)
      · have HF := Lib.hid (HN.out.trans (by rw [HT.out, HY.out, q0, q1, q2, q3, q4]))
        go_wp2
        go_roundw
        case rel => exact ⟨k + 1, by omega, by go_num, HF, HX1⟩
        case measure => simp [intOf]; omega
      · have HF : Hid ((l.take (k + 1)).any (hitM f t e) = true) := Lib.hid (HN.out.trans (by rw [HT.out, HY.out, q0, q1, q2, q3, q4]; rfl))
        go_wp2
        go_ret
        exact ⟨ret_bool (by rw [← HR.out]; obtain ⟨x, h1, h2⟩ := List.any_eq_true.1 HF.out; exact (List.any_eq_true.2 ⟨x, List.mem_of_mem_take h1, h2⟩).symm), HX1.out⟩
    · have hkl : k = l.length := by omega
      have HF : Hid (false = r) := Lib.hid (by have := HT.out; rw [hkl, List.take_length] at this; rw [← HR.out]; exact this.symm)
      go_wp2
      go_ret
      exact ⟨ret_bool HF.out, HX.out⟩

def firstI (xf xd yf yd tf to_ : Bool) : Int :=
  if (xf && !xd) = true then 1 else if (yf && yd && !xf) = true then 1 else if (!xf && !yf && tf) = true then 1
  else if ((yf && !yd) || (xf && xd && !yf) || (!xf && !yf && to_)) = true then 2 else 0

set_option maxRecDepth 100000 in
set_option maxHeartbeats 8000000 in
theorem refFirst_any (w : World) (x y : Sd) (tf to_ : Bool) (r : Int) (hr : firstI x.fork x.dirty y.fork y.dirty tf to_ = r) :
    Calls Try.prog 44 #[.agg x.cs, .agg y.cs, .bool tf, .bool to_] w fun e w' => e = .returned (.int .i64 r) ∧ Ext w w' := by
  subst hr
  obtain ⟨x0, x1, x2, xf, xd, x5, x6, x7⟩ := x
  obtain ⟨y0, y1, y2, yf, yd, y5, y6, y7⟩ := y
  unfold Sd.cs
  dsimp only
  cases xf <;> cases xd <;> cases yf <;> cases yd <;> cases tf <;> cases to_
  all_goals
    go_enter Try.func44, Try.ntmps44
    go_wp2
    go_ret
    exact ⟨rfl, (((Ext.refl w).alloc _).alloc _)⟩

end Go.Proofs.Ytpnnnbjjoimalaa
