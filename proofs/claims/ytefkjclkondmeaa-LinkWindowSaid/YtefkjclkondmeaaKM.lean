/- Links: what the frames that go are; plain mathematics. -/
import Derived.Test.YtefkjclkondmeaaKA
namespace Go.Proofs.Ytefkjclkondmeaa
open Go.RowKit

namespace EndS
theorem datas_getD (S : EndS) (n i k : Nat) (h : k < n) : (S.datas i n).getD k Fr.zero = S.data (i + k) := by
  rw [List.getD_eq_getElem?_getD, datas_get S n i k h]
  rfl

/-- each frame that goes: the next bodies, or one answer -/
theorem frames_getD {S : EndS} (j : Nat) (hj : j < S.frames.length) :
    (S.frames.getD j Fr.zero = S.data (S.out + j) ∧ S.out + j < S.top) ∨ (S.frames.getD j Fr.zero = S.ack ∧ S.frames.length = 1) := by
  unfold frames at *
  split at hj
  · next h0 =>
    split at hj
    · next h1 =>
      right
      rw [if_pos h0, if_pos h1]
      have : j = 0 := by simpa using hj
      subst this
      exact ⟨rfl, rfl⟩
    · simp at hj
  · next h0 =>
    left
    rw [datas_length] at hj
    rw [if_neg h0, datas_getD _ _ _ _ hj]
    exact ⟨rfl, by omega⟩
theorem frames_win {S : EndS} (h : S.Ok) : S.frames.length ≤ S.win := by
  have := h.win1
  unfold frames
  split
  · split
    · exact this
    · exact Nat.zero_le _
  · rw [datas_length]
    unfold top
    omega

theorem send_e (S : EndS) (b : ByteArray) : (S.send b).e = S.e ∧ (S.send b).win = S.win ∧ (S.send b).qn = S.qn ∧ (S.send b).wait = S.wait := by unfold send; split <;> exact ⟨rfl, rfl, rfl, rfl⟩
theorem tick_e (S : EndS) : S.tick.e = S.e ∧ S.tick.win = S.win ∧ S.tick.qn = S.qn ∧ S.tick.wait = S.wait := by
  unfold tick
  split
  · exact ⟨rfl, rfl, rfl, rfl⟩
  · split <;> exact ⟨rfl, rfl, rfl, rfl⟩
theorem drop_e (S : EndS) (k : Nat) : (S.drop k).e = S.e ∧ (S.drop k).win = S.win ∧ (S.drop k).qn = S.qn ∧ (S.drop k).wait = S.wait := by
  unfold drop
  exact ⟨rfl, rfl, rfl, rfl⟩
theorem with_e (T : EndS) (n : Nat) : ({ T with owes := true, want := n } : EndS).e = T.e ∧ ({ T with owes := true, want := n } : EndS).win = T.win ∧ ({ T with owes := true, want := n } : EndS).qn = T.qn ∧ ({ T with owes := true, want := n } : EndS).wait = T.wait := ⟨rfl, rfl, rfl, rfl⟩
theorem take_e (S : EndS) (f : Fr) : (S.take f).e = S.e ∧ (S.take f).win = S.win ∧ (S.take f).qn = S.qn ∧ (S.take f).wait = S.wait := by
  have hd := drop_e S (S.gone f.a)
  unfold take
  by_cases h1 : S.good f = true
  · rw [if_pos h1]
    by_cases h2 : f.k = 2
    · rw [if_pos h2]
      exact hd
    · rw [if_neg h2]
      have hw := with_e (S.drop (S.gone f.a)) (if f.q = S.want then (S.want + 1) % 18446744073709551616 else S.want)
      exact ⟨hw.1.trans hd.1, hw.2.1.trans hd.2.1, hw.2.2.1.trans hd.2.2.1, hw.2.2.2.trans hd.2.2.2⟩
  · rw [if_neg h1]
    exact ⟨rfl, rfl, rfl, rfl⟩
end EndS

/-- what an end keeps -/
def Keeps (S : EndS) (e : Int) (win qn wait : Int) : Prop := S.e = e ∧ S.win = (EndS.new e 0 win qn wait).win ∧ S.qn = (EndS.new e 0 win qn wait).qn ∧ S.wait = (EndS.new e 0 win qn wait).wait
theorem Keeps.new (e : Int) (first : Nat) (win qn wait : Int) : Keeps (EndS.new e first win qn wait) e win qn wait := ⟨rfl, rfl, rfl, rfl⟩
theorem Keeps.send {S : EndS} {e win qn wait : Int} (h : Keeps S e win qn wait) (b : ByteArray) : Keeps (S.send b) e win qn wait := by obtain ⟨h1, h2, h3, h4⟩ := S.send_e b; exact ⟨h1.trans h.1, h2.trans h.2.1, h3.trans h.2.2.1, h4.trans h.2.2.2⟩
theorem Keeps.outS {S : EndS} {e win qn wait : Int} (h : Keeps S e win qn wait) : Keeps S.outS e win qn wait := h
theorem Keeps.tick {S : EndS} {e win qn wait : Int} (h : Keeps S e win qn wait) : Keeps S.tick e win qn wait := by obtain ⟨h1, h2, h3, h4⟩ := S.tick_e; exact ⟨h1.trans h.1, h2.trans h.2.1, h3.trans h.2.2.1, h4.trans h.2.2.2⟩
theorem Keeps.take {S : EndS} {e win qn wait : Int} (h : Keeps S e win qn wait) (f : Fr) : Keeps (S.take f) e win qn wait := by obtain ⟨h1, h2, h3, h4⟩ := S.take_e f; exact ⟨h1.trans h.1, h2.trans h.2.1, h3.trans h.2.2.1, h4.trans h.2.2.2⟩

/-- what a frame that goes is, as LinkWindow asks -/
def WinF (S : EndS) (f : Fr) : Prop := f.e = S.e ∧ f.a = S.want ∧ ((f.k = 1 ∧ ∃ d : Nat, IntKind.u64.wrap ((f.q : Int) - (S.first : Int)) = (d : Int) ∧ d < S.win ∧ d < S.l.length) ∨ (f.k = 2 ∧ S.frames.length = 1))
theorem win_frame {S : EndS} (h : S.Ok) (j : Nat) (hj : j < S.frames.length) : WinF S (S.frames.getD j Fr.zero) := by
  have h1 := h.first
  have h2 := h.win8
  rcases EndS.frames_getD j hj with ⟨h3, h4⟩ | ⟨h3, h4⟩
  · rw [h3]
    unfold EndS.top at h4
    refine ⟨rfl, rfl, .inl ⟨rfl, S.out + j, ?_, by omega, by omega⟩⟩
    show IntKind.u64.wrap ((((S.first + (S.out + j)) % 18446744073709551616 : Nat) : Int) - (S.first : Int)) = _
    rw [wrapM]
    omega
  · rw [h3]
    exact ⟨rfl, rfl, .inr ⟨rfl, h4⟩⟩
end Go.Proofs.Ytefkjclkondmeaa
