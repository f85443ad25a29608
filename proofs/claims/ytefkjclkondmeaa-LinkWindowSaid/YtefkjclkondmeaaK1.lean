/- Links: what an end is, and what is done to it; plain mathematics. -/
import Derived.Test.YtefkjclkondmeaaF0
import Derived.Test.YtefkjclkondmeaaBlk
import Derived.Test.YtefkjclkondmeaaTx
import Derived.Test.YtefkjclkondmeaaOff
namespace Go.Proofs.Ytefkjclkondmeaa
open Go.RowKit

structure EndS where
  e : Int
  win : Nat
  qn : Nat
  wait : Nat
  l : List ByteArray
  first : Nat
  out : Nat
  ever : Nat
  want : Nat
  owes : Bool
  age : Nat

namespace EndS
def new (e : Int) (first : Nat) (win qn wait : Int) : EndS := ⟨e, (min (max win 1) 8).toNat, (min (max qn 0) 64).toNat, (min (max wait 1) 100).toNat, [], first, 0, 0, first, false, 0⟩
def sendE (S : EndS) (b : ByteArray) : Nat := if 64 < b.size then 90 else if S.qn ≤ S.l.length then 91 else 0
def send (S : EndS) (b : ByteArray) : EndS := if S.sendE b = 0 then { S with l := S.l ++ [b] } else S
/-- how many may be out -/
def top (S : EndS) : Nat := min S.win S.l.length
def data (S : EndS) (i : Nat) : Fr := ⟨1, S.e, (S.first + i) % 18446744073709551616, S.want, S.l.getD i ⟨#[]⟩⟩
/-- the frames of the bodies from i on, so many -/
def datas (S : EndS) (i : Nat) : Nat → List Fr
  | 0 => []
  | n + 1 => S.data i :: datas S (i + 1) n
def ack (S : EndS) : Fr := ⟨2, S.e, 0, S.want, ⟨#[]⟩⟩
def frames (S : EndS) : List Fr := if S.top ≤ S.out then (if S.owes = true then [S.ack] else []) else S.datas S.out (S.top - S.out)
def outS (S : EndS) : EndS := { S with out := max S.out S.top, ever := max S.ever (max S.out S.top), owes := false }
def tick (S : EndS) : EndS := if S.out = 0 then S else if S.age + 1 = S.wait then { S with age := 0, out := 0 } else { S with age := S.age + 1 }
/-- how many are known to have come by a number -/
def gone (S : EndS) (a : Nat) : Nat := if 1 ≤ (a + 18446744073709551616 - S.first) % 18446744073709551616 ∧ (a + 18446744073709551616 - S.first) % 18446744073709551616 ≤ S.ever then (a + 18446744073709551616 - S.first) % 18446744073709551616 else 0
def drop (S : EndS) (k : Nat) : EndS := { S with l := S.l.drop k, first := (S.first + k) % 18446744073709551616, out := S.out - k, ever := S.ever - k, age := if k = 0 then S.age else 0 }
def good (S : EndS) (f : Fr) : Bool := rightB f && decide (f.e = S.e)
def told (S : EndS) (f : Fr) : Bool := S.good f && decide (f.k ≠ 2) && decide (f.q = S.want)
def body (S : EndS) (f : Fr) : ByteArray := if S.told f = true then f.b else ⟨#[]⟩
def take (S : EndS) (f : Fr) : EndS :=
  if S.good f = true then
    if f.k = 2 then S.drop (S.gone f.a)
    else { S.drop (S.gone f.a) with owes := true, want := if f.q = S.want then (S.want + 1) % 18446744073709551616 else S.want }
  else S

structure Ok (S : EndS) : Prop where
  win1 : 1 ≤ S.win
  win8 : S.win ≤ 8
  qn : S.qn ≤ 64
  wait1 : 1 ≤ S.wait
  wait100 : S.wait ≤ 100
  len : S.l.length ≤ S.qn
  small : ∀ b ∈ S.l, b.size ≤ 64
  first : S.first < 18446744073709551616
  want : S.want < 18446744073709551616
  oe : S.out ≤ S.ever
  ew : S.ever ≤ S.win
  el : S.ever ≤ S.l.length
  age : S.age < S.wait

theorem new_ok {e : Int} {first : Nat} {win qn wait : Int} (h : first < 18446744073709551616) : (new e first win qn wait).Ok where
  win1 := by simp only [new]; omega
  win8 := by simp only [new]; omega
  qn := by simp only [new]; omega
  wait1 := by simp only [new]; omega
  wait100 := by simp only [new]; omega
  len := by simp [new]
  small := by simp [new]
  first := h
  want := h
  oe := by simp [new]
  ew := by simp [new]
  el := by simp [new]
  age := by simp only [new]; omega

theorem sendE_zero {S : EndS} {b : ByteArray} : S.sendE b = 0 ↔ b.size ≤ 64 ∧ S.l.length < S.qn := by
  unfold sendE
  split
  · exact ⟨fun h => (by cases h), fun h => (by omega)⟩
  · split
    · exact ⟨fun h => (by cases h), fun h => (by omega)⟩
    · exact ⟨fun _ => by omega, fun _ => rfl⟩

theorem Ok.send {S : EndS} (h : S.Ok) (b : ByteArray) : (S.send b).Ok := by
  unfold EndS.send
  split
  · next hz =>
    obtain ⟨h1, h2⟩ := sendE_zero.1 hz
    exact { h with
      len := by simp only [List.length_append, List.length_singleton]; omega
      small := fun x hx => by
        rcases List.mem_append.1 hx with hx | hx
        · exact h.small x hx
        · rw [List.mem_singleton] at hx; subst hx; exact h1
      el := by have := h.el; simp only [List.length_append]; omega }
  · exact h

theorem Ok.outS {S : EndS} (h : S.Ok) : S.outS.Ok := by
  have h1 := h.oe
  have h2 := h.ew
  have h3 := h.el
  exact { h with
    oe := by simp only [EndS.outS]; omega
    ew := by simp only [EndS.outS, EndS.top]; omega
    el := by simp only [EndS.outS, EndS.top]; omega }

theorem Ok.tick {S : EndS} (h : S.Ok) : S.tick.Ok := by
  have h4 := h.age
  have h5 := h.wait1
  unfold EndS.tick
  split
  · exact h
  · split
    · exact { h with oe := Nat.zero_le _, age := h5 }
    · exact { h with age := by show S.age + 1 < S.wait; omega }

theorem gone_le (S : EndS) (a : Nat) : S.gone a ≤ S.ever := by
  unfold gone
  split
  · next h => exact h.2
  · exact Nat.zero_le _

theorem Ok.drop {S : EndS} (h : S.Ok) {k : Nat} (hk : k ≤ S.ever) : (S.drop k).Ok := by
  have h1 := h.oe
  have h2 := h.ew
  have h3 := h.el
  have h4 := h.age
  have h5 := h.len
  have h6 := h.wait1
  exact { h with
    len := by simp only [EndS.drop, List.length_drop]; omega
    small := fun x hx => h.small x (List.mem_of_mem_drop hx)
    first := Nat.mod_lt _ (by decide)
    oe := by simp only [EndS.drop]; omega
    ew := by simp only [EndS.drop]; omega
    el := by simp only [EndS.drop, List.length_drop]; omega
    age := by simp only [EndS.drop]; split <;> omega }

theorem Ok.take {S : EndS} (h : S.Ok) (f : Fr) : (S.take f).Ok := by
  have hd := h.drop (S.gone_le f.a)
  unfold EndS.take
  split
  · split
    · exact hd
    · exact { hd with want := by show (if f.q = S.want then (S.want + 1) % 18446744073709551616 else S.want) < 18446744073709551616; split; exact Nat.mod_lt _ (by decide); exact h.want }
  · exact h

theorem drop_zero {S : EndS} (h : S.Ok) : S.drop 0 = S := by
  obtain ⟨e, win, qn, wait, l, first, out, ever, want, owes, age⟩ := S
  simp only [drop, List.drop_zero, Nat.add_zero, Nat.sub_zero, reduceIte, EndS.mk.injEq, true_and]
  exact ⟨Nat.mod_eq_of_lt h.first, trivial⟩

theorem datas_length (S : EndS) : ∀ (n i : Nat), (S.datas i n).length = n
  | 0, _ => rfl
  | n + 1, i => by rw [datas, List.length_cons, datas_length S n]
theorem datas_succ (S : EndS) : ∀ (n i : Nat), S.datas i (n + 1) = S.datas i n ++ [S.data (i + n)]
  | 0, i => rfl
  | n + 1, i => by
    rw [datas, datas_succ S n (i + 1), datas, List.cons_append, show i + 1 + n = i + (n + 1) by omega]
theorem datas_get (S : EndS) : ∀ (n i k : Nat), k < n → (S.datas i n)[k]? = some (S.data (i + k))
  | n + 1, i, 0, _ => rfl
  | n + 1, i, k + 1, h => by
    rw [datas, List.getElem?_cons_succ, datas_get S n (i + 1) k (by omega), show i + 1 + k = i + (k + 1) by omega]
theorem frames_le {S : EndS} (h : S.Ok) : S.frames.length ≤ 8 := by
  have := h.win8
  unfold frames
  split
  · split
    · exact (by decide : (1 : Nat) ≤ 8)
    · exact Nat.zero_le _
  · rw [datas_length]
    unfold top
    omega
theorem data_in {S : EndS} (h : S.Ok) (i : Nat) : (S.data i).b.size ≤ 64 := by
  show (S.l.getD i ⟨#[]⟩).size ≤ 64
  rcases Nat.lt_or_ge i S.l.length with hi | hi
  · rw [show S.l.getD i ⟨#[]⟩ = S.l[i] by simp [hi]]
    exact h.small _ (List.getElem_mem hi)
  · rw [show S.l.getD i ⟨#[]⟩ = ⟨#[]⟩ by simp [hi]]
    decide
end EndS
end Go.Proofs.Ytefkjclkondmeaa
