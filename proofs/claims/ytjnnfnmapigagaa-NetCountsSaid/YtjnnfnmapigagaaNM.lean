/- What acts make of a net: plain mathematics. -/
import Derived.Test.YtjnnfnmapigagaaNLFlips
namespace Go.Proofs.Ytjnnfnmapigagaa
open Go.RowKit

theorem put_at (S : NetS) (a b : Int) (l : List ByteArray) : (S.put a b l).f a b = l := if_pos ⟨rfl, rfl⟩
theorem put_other (S : NetS) {a b x z : Int} (l : List ByteArray) (h : ¬ (x = a ∧ z = b)) : (S.put a b l).f x z = S.f x z := if_neg h
theorem send_other (S : NetS) {a b x z : Int} (s : ByteArray) (h : ¬ (x = a ∧ z = b)) : (S.send a b s).f x z = S.f x z := by
  unfold NetS.send
  split
  · exact put_other S _ h
  · rfl
theorem act_other (S : NetS) (y : Act8) {x z : Int} (h : ¬ (x = y.a ∧ z = y.b)) : (actS S y).f x z = S.f x z := by
  unfold actS
  split
  · exact send_other S _ h
  · split
    · unfold NetS.deliver
      split
      · exact put_other S _ h
      · rfl
    · split
      · unfold NetS.double
        split
        · exact send_other S _ h
        · rfl
      · unfold NetS.flip
        split
        · exact put_other S _ h
        · rfl
theorem send_room (S : NetS) (a b : Int) (s : ByteArray) : (S.send a b s).room = S.room := by
  unfold NetS.send
  split <;> rfl
theorem act_room (S : NetS) (y : Act8) : (actS S y).room = S.room := by
  unfold actS
  split
  · exact send_room S _ _ _
  · split
    · unfold NetS.deliver
      split <;> rfl
    · split
      · unfold NetS.double
        split
        · exact send_room S _ _ _
        · rfl
      · unfold NetS.flip
        split <;> rfl
/-- how many there are then -/
def wantN (S : NetS) (y : Act8) : Int := ((S.f y.a y.b).length : Int) + (if actB S y = true ∧ (y.k = 0 ∨ y.k = 2) then 1 else 0) - (if actB S y = true ∧ y.k = 1 then 1 else 0)
theorem send_len (S : NetS) (a b : Int) (s : ByteArray) : (((S.send a b s).f a b).length : Int) = ((S.f a b).length : Int) + if S.may a b = true then 1 else 0 := by
  unfold NetS.send
  cases hm : S.may a b
  · rw [if_neg (by decide), if_neg (by decide)]; omega
  · rw [if_pos rfl, if_pos rfl, put_at, List.length_append, List.length_singleton]; omega
theorem act_len (S : NetS) (y : Act8) : (((actS S y).f y.a y.b).length : Int) = wantN S y := by
  unfold wantN actB actS
  by_cases h0 : y.k = 0
  · rw [if_pos h0, if_pos h0, send_len]
    simp [h0]
  · rw [if_neg h0, if_neg h0]
    by_cases h1 : y.k = 1
    · rw [if_pos h1, if_pos h1]
      unfold NetS.deliver
      cases ht : S.there y.a y.b y.n
      · simp [h1]
      · have h2 := there_iff.1 ht
        rw [if_pos rfl, put_at, List.length_eraseIdx]
        simp [h1]
        rw [if_pos (by omega)]
        omega
    · rw [if_neg h1, if_neg h1]
      by_cases h2 : y.k = 2
      · rw [if_pos h2, if_pos h2]
        unfold NetS.double NetS.canD
        cases ht : S.there y.a y.b y.n
        · simp
        · rw [if_pos rfl, send_len]
          simp [h2]
      · rw [if_neg h2, if_neg h2]
        unfold NetS.flip
        split
        · rw [put_at, List.length_set]
          simp [h0, h1, h2]
        · simp [h0, h1, h2]
/-- the other way about nothing changes -/
theorem act_back {S : NetS} {y : Act8} (h : S.Ok) (h' : (actS S y).Ok) : ((actS S y).f y.b y.a).length = (S.f y.b y.a).length := by
  by_cases e : y.a = y.b
  · have h1 : S.two y.b y.a = false := two_no (fun h => h.2.2.2.2 e.symm)
    have h2 : (actS S y).two y.b y.a = false := two_no (fun h => h.2.2.2.2 e.symm)
    rw [h.none _ _ h1, h'.none _ _ h2]
  · rw [act_other S y (fun h => e h.2)]
theorem new_room (n room : Int) : ((NetS.new n room).room : Int) ≤ max room 0 := by
  unfold NetS.new
  dsimp only
  omega
end Go.Proofs.Ytjnnfnmapigagaa
