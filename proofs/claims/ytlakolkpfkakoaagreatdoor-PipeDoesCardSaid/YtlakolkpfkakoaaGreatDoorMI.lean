/- Pipes: plain mathematics. -/
import Derived.Test.YtlakolkpfkakoaaGreatDoorMM
import Derived.Test.YtlakolkpfkakoaaGreatDoorMF
import Derived.Test.YtlakolkpfkakoaaGreatDoorMN2
namespace Go.Proofs.YtlakolkpfkakoaaGreatDoor
open Go.RowKit
structure PipeS where
  e0 : EndS
  e1 : EndS
  g0 : List ByteArray
  g1 : List ByteArray
  net : NetS
def sendF (N : NetS) (a b : Int) (f : Fr) : NetS := if rightB f = true then N.send a b (putF f) else N
def wentF (N : NetS) (a b : Int) (f : Fr) : Nat := if (rightB f && N.may a b) = true then 1 else 0
def goes (N : NetS) (a b : Int) : List Fr → NetS × Nat
  | [] => (N, 0)
  | f :: l => ((goes (sendF N a b f) a b l).1, wentF N a b f + (goes (sendF N a b f) a b l).2)
theorem goes_snoc (a b : Int) (f : Fr) : ∀ (l : List Fr) (N : NetS), goes N a b (l ++ [f]) = (sendF (goes N a b l).1 a b f, (goes N a b l).2 + wentF (goes N a b l).1 a b f)
  | [], N => by simp [goes]
  | g :: l, N => by
    have ih := goes_snoc a b f l (sendF N a b g)
    show ((goes (sendF N a b g) a b (l ++ [f])).1, wentF N a b g + (goes (sendF N a b g) a b (l ++ [f])).2) = _
    rw [ih]
    simp only [goes, Nat.add_assoc]

namespace NetS
theorem Ok.send {N : NetS} (h : N.Ok) (a b : Int) {s : ByteArray} (hs : s.size ≤ 1000) : (N.send a b s).Ok := by
  unfold NetS.send
  split
  · next hm =>
    unfold NetS.may at hm
    simp only [Bool.and_eq_true, decide_eq_true_eq] at hm
    refine h.put hm.1 (by rw [List.length_append, List.length_singleton]; omega) fun x hx => ?_
    rcases List.mem_append.1 hx with hx | hx
    · exact h.short a b x hx
    · rw [List.mem_singleton] at hx; rw [hx]; exact hs
  · exact h
theorem there_two {N : NetS} (h : N.Ok) {a b k : Int} (ht : N.there a b k = true) : N.two a b = true := by
  cases h2 : N.two a b
  · unfold NetS.there at ht
    rw [h.none a b h2] at ht
    simp only [Bool.and_eq_true, decide_eq_true_eq, List.length_nil] at ht
    omega
  · rfl
theorem Ok.deliver {N : NetS} (h : N.Ok) (a b k : Int) : (N.deliver a b k).Ok := by
  unfold NetS.deliver
  split
  · next ht =>
    refine h.put (there_two h ht) (Nat.le_trans (List.length_eraseIdx_le _ _) (h.few a b)) fun x hx => h.short a b x (List.mem_of_mem_eraseIdx hx)
  · exact h
theorem look_short {N : NetS} (h : N.Ok) (a b k : Int) : (N.look a b k).size ≤ 1000 := by
  unfold NetS.look
  split
  · next ht =>
    unfold NetS.there at ht
    simp only [Bool.and_eq_true, decide_eq_true_eq] at ht
    have hk : k.toNat < (N.f a b).length := by omega
    rw [List.getD_eq_getElem?_getD, List.getElem?_eq_getElem hk]
    exact h.short a b _ (List.getElem_mem hk)
  · exact Nat.zero_le _
theorem Ok.double {N : NetS} (h : N.Ok) (a b k : Int) : (N.double a b k).Ok := by
  unfold NetS.double
  split
  · exact h.send a b (look_short h a b k)
  · exact h
theorem turned_size (s : ByteArray) (bit : Int) : (turned s bit).size = s.size := by
  unfold turned
  rw [textN_size, List.length_set, bl_length]
theorem Ok.flip {N : NetS} (h : N.Ok) (a b k bit : Int) : (N.flip a b k bit).Ok := by
  unfold NetS.flip
  split
  · next hc =>
    unfold NetS.canF at hc
    rw [Bool.and_eq_true] at hc
    refine h.put (there_two h hc.1) (by rw [List.length_set]; exact h.few a b) fun x hx => ?_
    rcases List.mem_or_eq_of_mem_set hx with hx | hx
    · exact h.short a b x hx
    · rw [hx, turned_size]; exact look_short h a b k
  · exact h
theorem new_ok (n room : Int) : (NetS.new n room).Ok where
  nodes := by show (min (max n 0) 64).toNat ≤ 64; omega
  rooms := by show (min (max room 0) 1000).toNat ≤ 1000; omega
  few := fun _ _ => Nat.zero_le _
  none := fun _ _ _ => rfl
  short := fun _ _ s hs => by cases hs
theorem send_room (N : NetS) (a b : Int) (s : ByteArray) : (N.send a b s).room = N.room ∧ (N.send a b s).n = N.n := by unfold NetS.send; split <;> exact ⟨rfl, rfl⟩
theorem deliver_room (N : NetS) (a b k : Int) : (N.deliver a b k).room = N.room ∧ (N.deliver a b k).n = N.n := by unfold NetS.deliver; split <;> exact ⟨rfl, rfl⟩
theorem double_room (N : NetS) (a b k : Int) : (N.double a b k).room = N.room ∧ (N.double a b k).n = N.n := by unfold NetS.double; split; exact N.send_room _ _ _; exact ⟨rfl, rfl⟩
theorem flip_room (N : NetS) (a b k bit : Int) : (N.flip a b k bit).room = N.room ∧ (N.flip a b k bit).n = N.n := by unfold NetS.flip; split <;> exact ⟨rfl, rfl⟩
end NetS

theorem putF_short (f : Fr) : (putF f).size ≤ 1000 := by
  cases h : rightB f
  · unfold putF; rw [h, if_neg (by decide)]; exact Nat.zero_le _
  · rw [putF_size h]
    have := (right_spec h).2.2.1
    omega
theorem sendF_ok {N : NetS} (h : N.Ok) (a b : Int) (f : Fr) : (sendF N a b f).Ok := by
  unfold sendF
  split
  · exact h.send a b (putF_short f)
  · exact h
theorem goes_ok (a b : Int) : ∀ (l : List Fr) {N : NetS}, N.Ok → (goes N a b l).1.Ok
  | [], _, h => h
  | f :: l, _, h => goes_ok a b l (sendF_ok h a b f)
namespace PipeS
def new (e : Int) (first : Nat) (win qn wait room : Int) : PipeS := ⟨EndS.new e first win qn wait, EndS.new e first win qn wait, [], [], NetS.new 2 room⟩
def side (s : Int) : Bool := decide (s = 0) || decide (s = 1)
def end' (P : PipeS) (s : Int) : EndS := if s = 0 then P.e0 else P.e1
def got (P : PipeS) (s : Int) : List ByteArray := if s = 0 then P.g0 else if s = 1 then P.g1 else []
def setE (P : PipeS) (s : Int) (E : EndS) : PipeS := if s = 0 then { P with e0 := E } else if s = 1 then { P with e1 := E } else P
def setG (P : PipeS) (s : Int) (g : List ByteArray) : PipeS := if s = 0 then { P with g0 := g } else if s = 1 then { P with g1 := g } else P
def send (P : PipeS) (s : Int) (b : ByteArray) : PipeS := P.setE s ((P.end' s).send b)
def sendE (P : PipeS) (s : Int) (b : ByteArray) : Nat := if side s = true then (P.end' s).sendE b else 100
def go (P : PipeS) (s : Int) : PipeS := if side s = true then { P.setE s (P.end' s).outS with net := (goes P.net s (1 - s) (P.end' s).frames).1 } else P
def goN (P : PipeS) (s : Int) : Nat := if side s = true then (goes P.net s (1 - s) (P.end' s).frames).2 else 0
def tick (P : PipeS) (s : Int) : PipeS := P.setE s (P.end' s).tick
def waiting (P : PipeS) (s : Int) : Nat := if side s = true then (P.end' s).l.length else 0
def there (P : PipeS) (s k : Int) : Bool := P.net.there (1 - s) s k
def look (P : PipeS) (s k : Int) : ByteArray := P.net.look (1 - s) s k
def lose (P : PipeS) (s k : Int) : PipeS := { P with net := P.net.deliver (1 - s) s k }
def double (P : PipeS) (s k : Int) : PipeS := { P with net := P.net.double (1 - s) s k }
def flip (P : PipeS) (s k bit : Int) : PipeS := { P with net := P.net.flip (1 - s) s k bit }
def takeF (P : PipeS) (s : Int) (f : Fr) : PipeS := (P.setE s ((P.end' s).take f)).setG s (if (P.end' s).told f = true then P.got s ++ [f.b] else P.got s)
def isF (P : PipeS) (s k : Int) : Bool := P.there s k && decide (whatN (P.look s k) = 0)
def come (P : PipeS) (s k : Int) : PipeS := if P.isF s k = true then (P.lose s k).takeF s (frOf (P.look s k)) else P.lose s k
def comeY (P : PipeS) (s k : Int) : Bool := P.isF s k && (P.end' s).told (frOf (P.look s k))
def comeB (P : PipeS) (s k : Int) : ByteArray := if P.comeY s k = true then (frOf (P.look s k)).b else ⟨#[]⟩

structure Ok (P : PipeS) : Prop where
  e0 : P.e0.Ok
  e1 : P.e1.Ok
  net : P.net.Ok
  two : P.net.n = 2
end PipeS
end Go.Proofs.YtlakolkpfkakoaaGreatDoor

/- Pipes: what is told is a beginning of what was sent; if all comes, all is told; plain mathematics. -/
namespace Go.Proofs.YtlakolkpfkakoaaGreatDoor
open Go.RowKit
variable {ep : Int} [EpOk ep]
theorem goes_row {a b : Int} : ∀ (l : List Fr) (N : NetS), ∃ m : List Fr, (goes N a b l).1.f a b = N.f a b ++ m.map putF ∧ m.length = (goes N a b l).2 ∧ ∀ f ∈ m, f ∈ l ∧ rightB f = true
  | [], N => ⟨[], by simp [goes], rfl, fun f hf => by cases hf⟩
  | f :: l, N => by
    obtain ⟨m, h1, h2, h3⟩ := goes_row l (sendF N a b f)
    cases hr : rightB f
    · have e : sendF N a b f = N := by unfold sendF; rw [hr, if_neg (by decide)]
      have e2 : wentF N a b f = 0 := by unfold wentF; rw [hr, Bool.false_and, if_neg (by decide)]
      unfold goes
      rw [e] at h1 h2 ⊢
      exact ⟨m, h1, by rw [h2, e2, Nat.zero_add], fun x hx => ⟨List.mem_cons_of_mem _ (h3 x hx).1, (h3 x hx).2⟩⟩
    · have e : sendF N a b f = N.send a b (putF f) := by unfold sendF; rw [hr, if_pos rfl]
      cases hm : N.may a b
      · have e1 : N.send a b (putF f) = N := by unfold NetS.send; rw [hm, if_neg (by decide)]
        have e2 : wentF N a b f = 0 := by unfold wentF; rw [hm, Bool.and_false, if_neg (by decide)]
        unfold goes
        rw [e, e1] at h1 h2 ⊢
        exact ⟨m, h1, by rw [h2, e2, Nat.zero_add], fun x hx => ⟨List.mem_cons_of_mem _ (h3 x hx).1, (h3 x hx).2⟩⟩
      · have e1 : (N.send a b (putF f)).f a b = N.f a b ++ [putF f] := by unfold NetS.send; rw [hm, if_pos rfl]; simp [NetS.put]
        have e2 : wentF N a b f = 1 := by unfold wentF; rw [hr, hm]; rfl
        unfold goes
        rw [e] at h1 h2 ⊢
        rw [e1] at h1
        refine ⟨f :: m, by rw [h1]; simp, by rw [List.length_cons, h2, e2]; omega, fun x hx => ?_⟩
        rcases List.mem_cons.1 hx with rfl | hx
        · exact ⟨List.mem_cons_self .., hr⟩
        · exact ⟨List.mem_cons_of_mem _ (h3 x hx).1, (h3 x hx).2⟩
theorem turned_one (s : ByteArray) (bit : Int) : turned s bit = oneB s (turnAt s bit / 8) (2 ^ (turnAt s bit % 8)) := rfl
theorem turnAt8 {s : ByteArray} (h : 0 < s.size) (bit : Int) : turnAt s bit / 8 < s.size := by
  have : turnAt s bit < 8 * s.size := by unfold turnAt; exact Nat.mod_lt _ (by omega)
  omega
theorem turned_no {f : Fr} (hq : f.q < 18446744073709551616) (ha : f.a < 18446744073709551616) (hr : rightB f = true) (bit : Int) : whatN (turned (putF f) bit) ≠ 0 := by
  have h1 := (put_get hq ha hr).1
  have h2 := putF_size hr
  rw [turned_one]
  have hp : ∀ n, n < 8 → 2 ^ n < 256 ∧ 2 ^ n ≠ 0 := by decide
  have := hp (turnAt (putF f) bit % 8) (Nat.mod_lt _ (by decide))
  exact turned_none h1 (turnAt8 (by omega) bit) this.1 this.2
namespace PipeS
theorem side_no {s : Int} (h : side s = false) : s ≠ 0 ∧ s ≠ 1 := by
  unfold side at h
  simp only [Bool.or_eq_false_iff, decide_eq_false_iff_not] at h
  exact h
theorem setE_no {P : PipeS} {s : Int} (h : side s = false) (E : EndS) : P.setE s E = P := by
  obtain ⟨h0, h1⟩ := side_no h
  unfold setE
  rw [if_neg h0, if_neg h1]
theorem send_no {P : PipeS} {s : Int} (h : side s = false) (b : ByteArray) : P.send s b = P := setE_no h _
theorem tick_no {P : PipeS} {s : Int} (h : side s = false) : P.tick s = P := setE_no h _
theorem go_no {P : PipeS} {s : Int} (h : side s = false) : P.go s = P := by unfold go; rw [h, if_neg (by decide)]
theorem got_no {P : PipeS} {s : Int} (h : side s = false) : P.got s = [] := by
  obtain ⟨h0, h1⟩ := side_no h
  unfold got
  rw [if_neg h0, if_neg h1]
theorem lose_no {P : PipeS} {s k : Int} (h : P.there s k = false) : P.lose s k = P := by
  unfold there at h
  unfold lose NetS.deliver
  rw [h, if_neg (by decide)]
theorem double_no {P : PipeS} {s k : Int} (h : P.there s k = false) : P.double s k = P := by
  unfold there at h
  unfold double NetS.double
  rw [h, if_neg (by decide)]
theorem come_no {P : PipeS} {s k : Int} (h : P.there s k = false) : P.come s k = P ∧ P.comeY s k = false ∧ P.comeB s k = ⟨#[]⟩ := by
  have hi : P.isF s k = false := by unfold isF; rw [h, Bool.false_and]
  have hy : P.comeY s k = false := by unfold comeY; rw [hi, Bool.false_and]
  refine ⟨?_, hy, by unfold comeB; rw [hy, if_neg (by decide)]⟩
  unfold come
  rw [hi, if_neg (by decide), lose_no h]
theorem there_no {P : PipeS} (ok : P.Ok) {s : Int} (h : side s = false) (k : Int) : P.there s k = false := by
  obtain ⟨h0, h1⟩ := side_no h
  cases ht : P.there s k
  · rfl
  · unfold there at ht
    have h2 := NetS.there_two ok.net ht
    rw [two_iff, ok.two] at h2
    omega
end PipeS
end Go.Proofs.YtlakolkpfkakoaaGreatDoor
