/- One end, and two, in a call's own memory. -/
import Derived.Test.YtlakolkpfkakoaaGreatDoorML
namespace Go.Proofs.YtlakolkpfkakoaaGreatDoor
open Go.RowKit
def U (F G : Nat → Prop) : Nat → Prop := fun k => F k ∨ G k
theorem Sa.left {α : Type} [Elem α] {F F' G : Nat → Prop} {w w' : World} {v : Value} {xs : List α} (h : Sa (U F G) w v xs) (o : Off F w w') (g : Grows F F' w) : Sa (U F' G) w' v xs :=
  h.off (o.mono fun _ h1 => .inl h1) fun k hk => by
    rcases hk with h1 | h1
    · exact (g k h1).imp .inl id
    · exact .inl (.inr h1)
theorem Sa.right {α : Type} [Elem α] {F G G' : Nat → Prop} {w w' : World} {v : Value} {xs : List α} (h : Sa (U F G) w v xs) (o : Off G w w') (g : Grows G G' w) : Sa (U F G') w' v xs :=
  h.off (o.mono fun _ h1 => .inr h1) fun k hk => by
    rcases hk with h1 | h1
    · exact .inl (.inl h1)
    · exact (g k h1).imp .inr id
theorem Sa.turn {α : Type} [Elem α] {F G : Nat → Prop} {w : World} {v : Value} {xs : List α} (h : Sa (U F G) w v xs) : Sa (U G F) w v xs := h.mono fun _ h1 => h1.symm

theorem Sl.frs_some {w : World} {ao : Option Addr} {n c : Nat} {xs : List Fr} (h : Sl w (.slice ao n c) xs) (hx : 0 < xs.length) :
    ∃ b off, ao = some ⟨b, off, none⟩ ∧ n = xs.length ∧ xs.length ≤ c ∧ b < w.heap.size ∧ ∀ j, j < xs.length → FrAt w b (off + j * 5) (xs.getD j Fr.zero) := by
  rcases h.frs with ⟨h0, _⟩ | ⟨b, off, c', hv, q1, q2, q3, q4, q5⟩
  · rw [h0] at hx; simp at hx
  · simp only [Value.slice.injEq] at hv
    obtain ⟨rfl, rfl, rfl⟩ := hv
    exact ⟨b, off, rfl, rfl, q1, q3, q5⟩
def End1 (w0 w : World) (p : Nat) (S : EndS) (F : Nat → Prop) : Prop := EAt w p S F ∧ (∀ k, F k → w0.heap.size ≤ k) ∧ Ext w0 w
theorem End1.step {w0 w w' : World} {p : Nat} {S S' : EndS} {F F' : Nat → Prop} (h : End1 w0 w p S F) (n : EAt w' p S' F') (o : Off F w w') (g : Grows F F' w) : End1 w0 w' p S' F' := by
  refine ⟨n, fun k hk => ?_, Below.trans h.2.2 (o.below h.2.1 h.2.2.size)⟩
  rcases g k hk with h1 | h1
  · exact h.2.1 k h1
  · exact Nat.le_trans h.2.2.size h1
theorem End1.ext {w0 w w' : World} {p : Nat} {S : EndS} {F : Nat → Prop} (h : End1 w0 w p S F) (x : Ext w w') : End1 w0 w' p S F :=
  ⟨h.1.off (Off.of_ext (F := fun _ => False) x) (fun _ _ hf => hf), h.2.1, Ext.trans h.2.2 x⟩
def End2 (w0 w : World) (p : Nat) (S : EndS) (F : Nat → Prop) (q : Nat) (T : EndS) (G : Nat → Prop) : Prop := EAt w p S F ∧ EAt w q T G ∧ (∀ k, F k → w0.heap.size ≤ k) ∧ (∀ k, G k → w0.heap.size ≤ k) ∧ (∀ k, F k → ¬ G k) ∧ Ext w0 w
section
variable {w0 w w' : World} {p q : Nat} {S S' T T' : EndS} {F F' G G' : Nat → Prop}
theorem End2.one (h : End2 w0 w p S F q T G) : EAt w p S F := h.1
theorem End2.two (h : End2 w0 w p S F q T G) : EAt w q T G := h.2.1
theorem End2.step (h : End2 w0 w p S F q T G) (n : EAt w' p S' F') (o : Off F w w') (g : Grows F F' w) : End2 w0 w' p S' F' q T G := by
  obtain ⟨h1, h2, h3, h4, h5, h6⟩ := h
  refine ⟨n, h2.off o (fun k hg hf => h5 k hf hg), fun k hk => ?_, h4, fun k hk hg => ?_, Below.trans h6 (o.below h3 h6.size)⟩
  · rcases g k hk with h9 | h9
    · exact h3 k h9
    · exact Nat.le_trans h6.size h9
  · rcases g k hk with h9 | h9
    · exact h5 k h9 hg
    · have := h2.low k hg; omega
theorem End2.ext (h : End2 w0 w p S F q T G) (x : Ext w w') : End2 w0 w' p S F q T G := by
  obtain ⟨h1, h2, h3, h4, h5, h6⟩ := h
  exact ⟨h1.off (Off.of_ext (F := fun _ => False) x) (fun _ _ hf => hf), h2.off (Off.of_ext (F := fun _ => False) x) (fun _ _ hf => hf), h3, h4, h5, Ext.trans h6 x⟩
theorem End2.new (h : End1 w0 w p S F) (n : EAt w' q T G) (hg : ∀ k, G k → w.heap.size ≤ k) (x : Ext w w') : End2 w0 w' p S F q T G :=
  ⟨(h.ext x).1, n, h.2.1, fun k hk => Nat.le_trans h.2.2.size (hg k hk), fun k hf hgk => by have := h.1.low k hf; have := hg k hgk; omega, Ext.trans h.2.2 x⟩
end
end Go.Proofs.YtlakolkpfkakoaaGreatDoor

/- Links: what the frames that go are; plain mathematics. -/
namespace Go.Proofs.YtlakolkpfkakoaaGreatDoor
open Go.RowKit

namespace EndS
theorem datas_getD (S : EndS) (n i k : Nat) (h : k < n) : (S.datas i n).getD k Fr.zero = S.data (i + k) := by
  rw [List.getD_eq_getElem?_getD, datas_get S n i k h]
  rfl
theorem frames_getD {S : EndS} (j : Nat) (hj : j < S.frames.length) :
    (S.frames.getD j Fr.zero = S.data (S.out + j) ∧ S.out + j < S.top) ∨ (S.frames.getD j Fr.zero = S.ack ∧ S.frames.length = 1) := by
  unfold frames at *
  split at hj
  · next h0 =>
    split at hj
    · next h1 =>
      right
      rw [if_pos h0, if_pos h1]
      have : j = 0 := by simpa using hj
      subst this
      exact ⟨rfl, rfl⟩
    · simp at hj
  · next h0 =>
    left
    rw [datas_length] at hj
    rw [if_neg h0, datas_getD _ _ _ _ hj]
    exact ⟨rfl, by omega⟩
theorem send_e (S : EndS) (b : ByteArray) : (S.send b).e = S.e ∧ (S.send b).win = S.win ∧ (S.send b).qn = S.qn ∧ (S.send b).wait = S.wait := by unfold send; split <;> exact ⟨rfl, rfl, rfl, rfl⟩
theorem tick_e (S : EndS) : S.tick.e = S.e ∧ S.tick.win = S.win ∧ S.tick.qn = S.qn ∧ S.tick.wait = S.wait := by
  unfold tick
  split
  · exact ⟨rfl, rfl, rfl, rfl⟩
  · split <;> exact ⟨rfl, rfl, rfl, rfl⟩
theorem drop_e (S : EndS) (k : Nat) : (S.drop k).e = S.e ∧ (S.drop k).win = S.win ∧ (S.drop k).qn = S.qn ∧ (S.drop k).wait = S.wait := by
  unfold drop
  exact ⟨rfl, rfl, rfl, rfl⟩
theorem with_e (T : EndS) (n : Nat) : ({ T with owes := true, want := n } : EndS).e = T.e ∧ ({ T with owes := true, want := n } : EndS).win = T.win ∧ ({ T with owes := true, want := n } : EndS).qn = T.qn ∧ ({ T with owes := true, want := n } : EndS).wait = T.wait := ⟨rfl, rfl, rfl, rfl⟩
theorem take_e (S : EndS) (f : Fr) : (S.take f).e = S.e ∧ (S.take f).win = S.win ∧ (S.take f).qn = S.qn ∧ (S.take f).wait = S.wait := by
  have hd := drop_e S (S.gone f.a)
  unfold take
  by_cases h1 : S.good f = true
  · rw [if_pos h1]
    by_cases h2 : f.k = 2
    · rw [if_pos h2]
      exact hd
    · rw [if_neg h2]
      have hw := with_e (S.drop (S.gone f.a)) (if f.q = S.want then (S.want + 1) % 18446744073709551616 else S.want)
      exact ⟨hw.1.trans hd.1, hw.2.1.trans hd.2.1, hw.2.2.1.trans hd.2.2.1, hw.2.2.2.trans hd.2.2.2⟩
  · rw [if_neg h1]
    exact ⟨rfl, rfl, rfl, rfl⟩
end EndS
def Keeps (S : EndS) (e : Int) (win qn wait : Int) : Prop := S.e = e ∧ S.win = (EndS.new e 0 win qn wait).win ∧ S.qn = (EndS.new e 0 win qn wait).qn ∧ S.wait = (EndS.new e 0 win qn wait).wait
theorem Keeps.new (e : Int) (first : Nat) (win qn wait : Int) : Keeps (EndS.new e first win qn wait) e win qn wait := ⟨rfl, rfl, rfl, rfl⟩
theorem Keeps.send {S : EndS} {e win qn wait : Int} (h : Keeps S e win qn wait) (b : ByteArray) : Keeps (S.send b) e win qn wait := by obtain ⟨h1, h2, h3, h4⟩ := S.send_e b; exact ⟨h1.trans h.1, h2.trans h.2.1, h3.trans h.2.2.1, h4.trans h.2.2.2⟩
theorem Keeps.outS {S : EndS} {e win qn wait : Int} (h : Keeps S e win qn wait) : Keeps S.outS e win qn wait := h
theorem Keeps.tick {S : EndS} {e win qn wait : Int} (h : Keeps S e win qn wait) : Keeps S.tick e win qn wait := by obtain ⟨h1, h2, h3, h4⟩ := S.tick_e; exact ⟨h1.trans h.1, h2.trans h.2.1, h3.trans h.2.2.1, h4.trans h.2.2.2⟩
theorem Keeps.take {S : EndS} {e win qn wait : Int} (h : Keeps S e win qn wait) (f : Fr) : Keeps (S.take f) e win qn wait := by obtain ⟨h1, h2, h3, h4⟩ := S.take_e f; exact ⟨h1.trans h.1, h2.trans h.2.1, h3.trans h.2.2.1, h4.trans h.2.2.2⟩

end Go.Proofs.YtlakolkpfkakoaaGreatDoor

/- Two ends: whatever comes, how often and in whatever order, each is told once, in order; plain mathematics. -/
namespace Go.Proofs.YtlakolkpfkakoaaGreatDoor
open Go.RowKit

set_option linter.unusedVariables false
structure Half (fn : Nat) (X Y : EndS) (s g : List ByteArray) (O : List Fr) (h : Nat) : Prop where
  l : X.l = s.drop (s.length - X.l.length)
  le : X.l.length ≤ s.length
  few : s.length ≤ 1000
  nr : X.first = (fn + (s.length - X.l.length)) % 18446744073709551616
  wa : Y.want = (fn + g.length) % 18446744073709551616
  pre : g = s.take g.length
  gle : g.length ≤ s.length
  low : s.length - X.l.length ≤ g.length
  high : g.length ≤ s.length - X.l.length + X.ever
  fr : ∀ f ∈ O, (∃ a, a ≤ h ∧ f.a = (fn + a) % 18446744073709551616) ∧ (f.k = 2 ∨ (f.k = 1 ∧ ∃ i, i < s.length - X.l.length + X.ever ∧ i < s.length ∧ f.q = (fn + i) % 18446744073709551616 ∧ f.b = s.getD i ⟨#[]⟩))

namespace Half
variable {fn : Nat} {X X' Y Y' : EndS} {s g : List ByteArray} {O : List Fr} {h : Nat}

theorem new (fn : Nat) (hf : fn < 18446744073709551616) (e : Int) (win qn wait : Int) : Half fn (EndS.new e fn win qn wait) (EndS.new e fn win qn wait) [] [] [] 0 where
  l := rfl
  le := Nat.le_refl _
  few := Nat.zero_le _
  nr := by show fn = (fn + 0) % 18446744073709551616; omega
  wa := by show fn = (fn + 0) % 18446744073709551616; omega
  pre := rfl
  gle := Nat.le_refl _
  low := Nat.le_refl _
  high := Nat.zero_le _
  fr := fun f hf => by cases hf
theorem other (H : Half fn X Y s g O h) (e : Y'.want = Y.want) : Half fn X Y' s g O h := { H with wa := e.trans H.wa }
theorem more (H : Half fn X Y s g O h) {h' : Nat} (e : h ≤ h') : Half fn X Y s g O h' := by
  refine { H with fr := fun f hf => ?_ }
  obtain ⟨⟨a, h1, h2⟩, h3⟩ := H.fr f hf
  exact ⟨⟨a, Nat.le_trans h1 e, h2⟩, h3⟩
theorem send (H : Half fn X Y s g O h) (b : ByteArray) (hb : X.sendE b = 0) (hs : s.length < 1000) : Half fn (X.send b) Y (s ++ [b]) g O h := by
  have e : X.send b = { X with l := X.l ++ [b] } := by unfold EndS.send; rw [if_pos hb]
  rw [e]
  have h1 := H.le
  have h2 := H.gle
  have h3 : (s ++ [b]).length - (X.l ++ [b]).length = s.length - X.l.length := by simp
  refine { l := ?_, le := ?_, few := ?_, nr := ?_, wa := H.wa, pre := ?_, gle := ?_, low := ?_, high := ?_, fr := fun f hf => ?_ }
  · show X.l ++ [b] = (s ++ [b]).drop ((s ++ [b]).length - (X.l ++ [b]).length)
    rw [h3, List.drop_append_of_le_length (by omega), ← H.l]
  · simp; omega
  · simp; omega
  · rw [h3]; exact H.nr
  · rw [List.take_append_of_le_length (by omega)]; exact H.pre
  · simp; omega
  · rw [h3]; exact H.low
  · rw [h3]; exact H.high
  · obtain ⟨h4, h5⟩ := H.fr f hf
    refine ⟨h4, h5.imp id fun h6 => ?_⟩
    obtain ⟨h7, i, h8, h9, h10, h11⟩ := h6
    refine ⟨h7, i, by rw [h3]; exact h8, by simp; omega, h10, ?_⟩
    rw [h11]
    simp [List.getElem?_append_left h9]

theorem tick (H : Half fn X Y s g O h) : Half fn X.tick Y s g O h := by
  unfold EndS.tick
  split
  · exact H
  · split <;> exact { H with }
theorem out (H : Half fn X Y s g O h) (ok : X.Ok) (hw : X.want = (fn + h) % 18446744073709551616) : Half fn X.outS Y s g (O ++ X.frames) h := by
  have h1 := H.le
  have he : X.ever ≤ X.outS.ever := by unfold EndS.outS; exact Nat.le_max_left _ _
  have hl : X.outS.l = X.l := rfl
  have hfi : X.outS.first = X.first := rfl
  refine { l := H.l, le := H.le, few := H.few, nr := H.nr, wa := H.wa, pre := H.pre, gle := H.gle, low := H.low, high := by rw [hl]; have := H.high; omega, fr := fun f hf => ?_ }
  rw [hl]
  rcases List.mem_append.1 hf with hf | hf
  · obtain ⟨h4, h5⟩ := H.fr f hf
    refine ⟨h4, h5.imp id fun h6 => ?_⟩
    obtain ⟨h7, i, h8, h9⟩ := h6
    exact ⟨h7, i, by omega, h9⟩
  · obtain ⟨j, hj, rfl⟩ : ∃ j, j < X.frames.length ∧ f = X.frames.getD j Fr.zero := by
      obtain ⟨j, hj, e⟩ := List.getElem_of_mem hf
      exact ⟨j, hj, by simp [hj, e]⟩
    rcases EndS.frames_getD j hj with ⟨h3, h4⟩ | ⟨h3, h4⟩
    · rw [h3]
      unfold EndS.top at h4
      refine ⟨⟨h, Nat.le_refl _, hw⟩, .inr ⟨rfl, s.length - X.l.length + (X.out + j), ?_, ?_, ?_, ?_⟩⟩
      · have : X.out + j < X.outS.ever := by
          unfold EndS.outS EndS.top
          simp only
          omega
        omega
      · omega
      · show (X.first + (X.out + j)) % 18446744073709551616 = _
        rw [H.nr]
        omega
      · show X.l.getD (X.out + j) ⟨#[]⟩ = _
        have := H.l
        simp only [List.getD_eq_getElem?_getD]
        conv => lhs; rw [this]
        rw [List.getElem?_drop]
    · rw [h3]
      exact ⟨⟨h, Nat.le_refl _, hw⟩, .inl rfl⟩
end Half

theorem gone_of {Y : EndS} (ok : Y.Ok) {fn a c fa : Nat} (h1 : Y.first = (fn + c) % 18446744073709551616) (h2 : fa = (fn + a) % 18446744073709551616) (hc : c ≤ 1000) (ha : a ≤ c + Y.ever) : Y.gone fa = a - c := by
  have hw := ok.win8
  have he := ok.ew
  unfold EndS.gone
  rw [h1, h2]
  by_cases h : c < a
  · have e : ((fn + a) % 18446744073709551616 + 18446744073709551616 - (fn + c) % 18446744073709551616) % 18446744073709551616 = a - c := by omega
    rw [e, if_pos (by omega)]
  · have e : ¬ (1 ≤ ((fn + a) % 18446744073709551616 + 18446744073709551616 - (fn + c) % 18446744073709551616) % 18446744073709551616 ∧ ((fn + a) % 18446744073709551616 + 18446744073709551616 - (fn + c) % 18446744073709551616) % 18446744073709551616 ≤ Y.ever) := by
      rintro ⟨e1, e2⟩
      omega
    rw [if_neg e]
    omega
structure Pair (fn : Nat) (X Y : EndS) (s g : List ByteArray) (O : List Fr) (s' g' : List ByteArray) (O' : List Fr) : Prop where
  one : Half fn X Y s g O g'.length
  two : Half fn Y X s' g' O' g.length
  okX : X.Ok
  okY : Y.Ok

namespace Pair
variable {fn : Nat} {X Y : EndS} {s g s' g' : List ByteArray} {O O' : List Fr}
theorem send (H : Pair fn X Y s g O s' g' O') (b : ByteArray) (hb : X.sendE b = 0) (hs : s.length < 1000) : Pair fn (X.send b) Y (s ++ [b]) g O s' g' O' :=
  ⟨H.one.send b hb hs, H.two.other (by unfold EndS.send; rw [if_pos hb]), H.okX.send b, H.okY⟩
theorem tick (H : Pair fn X Y s g O s' g' O') : Pair fn X.tick Y s g O s' g' O' :=
  ⟨H.one.tick, H.two.other (by unfold EndS.tick; split; rfl; split <;> rfl), H.okX.tick, H.okY⟩
theorem out (H : Pair fn X Y s g O s' g' O') : Pair fn X.outS Y s g (O ++ X.frames) s' g' O' :=
  ⟨H.one.out H.okX H.two.wa, H.two.other rfl, H.okX.outS, H.okY⟩

theorem drop_want (S : EndS) (k : Nat) : (S.drop k).want = S.want := by unfold EndS.drop; rfl
theorem acked (H : Pair fn X Y s g O s' g' O') {f : Fr} (hf : f ∈ O) : Half fn (Y.drop (Y.gone f.a)) X s' g' O' g.length ∧ Y.gone f.a ≤ Y.ever := by
  obtain ⟨⟨a, ha, hfa⟩, _⟩ := H.one.fr f hf
  have h2 := H.two
  have hle := h2.le
  have hfew := h2.few
  have hhigh := h2.high
  have hel := H.okY.el
  have hg := gone_of H.okY (c := s'.length - Y.l.length) h2.nr hfa (by omega) (by omega)
  have hk := Y.gone_le f.a
  refine ⟨?_, hk⟩
  rw [hg] at hk ⊢
  obtain ⟨k, hkk⟩ : ∃ k, k = a - (s'.length - Y.l.length) := ⟨_, rfl⟩
  rw [← hkk] at hk ⊢
  have hlen : s'.length - (Y.l.drop k).length = s'.length - Y.l.length + k := by rw [List.length_drop]; omega
  have hk2 : k ≤ Y.l.length := by omega
  have dl : (Y.drop k).l = Y.l.drop k := by unfold EndS.drop; rfl
  have df : (Y.drop k).first = (Y.first + k) % 18446744073709551616 := by unfold EndS.drop; rfl
  have de : (Y.drop k).ever = Y.ever - k := by unfold EndS.drop; rfl
  refine { l := ?_, le := ?_, few := hfew, nr := ?_, wa := h2.wa, pre := h2.pre, gle := h2.gle, low := ?_, high := ?_, fr := fun f9 hf9 => ?_ }
  · rw [dl, hlen]
    conv => lhs; rw [h2.l]
    rw [List.drop_drop]
  · rw [dl, List.length_drop]; omega
  · rw [dl, df, hlen, h2.nr]; omega
  · rw [dl, hlen]
    have := h2.low
    omega
  · rw [dl, hlen, de]; omega
  · obtain ⟨h3, h4⟩ := h2.fr f9 hf9
    refine ⟨h3, h4.imp id fun h5 => ?_⟩
    obtain ⟨h6, i, h7, h8⟩ := h5
    exact ⟨h6, i, by rw [dl, hlen, de]; omega, h8⟩
theorem take (H : Pair fn X Y s g O s' g' O') {f : Fr} (hf : f ∈ O) : Pair fn X (Y.take f) s (if Y.told f = true then g ++ [f.b] else g) O s' g' O' := by
  obtain ⟨hA, hk⟩ := H.acked hf
  have hok := H.okY.take f
  cases hg : Y.good f
  · have ht : Y.told f = false := by unfold EndS.told; rw [hg]; rfl
    have e : Y.take f = Y := by unfold EndS.take; rw [if_neg (by rw [hg]; decide)]
    rw [e, if_neg (by rw [ht]; decide)]
    exact H
  · have hdw := drop_want Y (Y.gone f.a)
    by_cases h2 : f.k = 2
    · have ht : Y.told f = false := by unfold EndS.told; rw [decide_eq_false (show ¬ f.k ≠ 2 from fun h => h h2)]; simp
      have e : Y.take f = Y.drop (Y.gone f.a) := by unfold EndS.take; rw [if_pos hg, if_pos h2]
      rw [if_neg (by rw [ht]; decide)]
      rw [e] at hok ⊢
      exact ⟨H.one.other hdw, hA, H.okX, hok⟩
    · have hmore := (H.one.fr f hf).2.resolve_left h2
      obtain ⟨_, i, hi1, hi2, hiq, hib⟩ := hmore
      have hw := H.one.wa
      have hfew := H.one.few
      have hgle := H.one.gle
      by_cases hq : f.q = Y.want
      · have ht : Y.told f = true := by unfold EndS.told; rw [hg, decide_eq_true (show f.k ≠ 2 from h2), decide_eq_true hq]; rfl
        have hig : i = g.length := by rw [hiq, hw] at hq; omega
        have e : Y.take f = { Y.drop (Y.gone f.a) with owes := true, want := (Y.want + 1) % 18446744073709551616 } := by unfold EndS.take; rw [if_pos hg, if_neg h2, if_pos hq]
        rw [if_pos ht]
        rw [e] at hok ⊢
        have h9 : s.take (g.length + 1) = s.take g.length ++ [f.b] := by
          rw [hib, hig, List.take_succ_eq_append_getElem (by omega)]
          simp [show g.length < s.length by omega]
        refine ⟨?_, ?_, H.okX, hok⟩
        · refine { H.one with wa := ?_, pre := ?_, gle := ?_, low := ?_, high := ?_ }
          · show (Y.want + 1) % 18446744073709551616 = (fn + (g ++ [f.b]).length) % 18446744073709551616
            rw [hw, List.length_append, List.length_singleton]
            omega
          · rw [List.length_append, List.length_singleton, h9, ← H.one.pre]
          · rw [List.length_append, List.length_singleton]; omega
          · rw [List.length_append, List.length_singleton]; have := H.one.low; omega
          · rw [List.length_append, List.length_singleton]; omega
        · have hA2 := hA.more (h' := (g ++ [f.b]).length) (by rw [List.length_append]; omega)
          exact { hA2 with }
      · have ht : Y.told f = false := by unfold EndS.told; rw [decide_eq_false hq]; simp
        have e : Y.take f = { Y.drop (Y.gone f.a) with owes := true, want := Y.want } := by unfold EndS.take; rw [if_pos hg, if_neg h2, if_neg hq]
        rw [if_neg (by rw [ht]; decide)]
        rw [e] at hok ⊢
        exact ⟨H.one.other rfl, { hA with }, H.okX, hok⟩
theorem asks (H : Pair fn X Y s g O s' g' O') : (g.length ≤ s.length ∧ g = s.take g.length) ∧ X.l.length ≤ s.length ∧ s.length - X.l.length ≤ g.length := ⟨⟨H.one.gle, H.one.pre⟩, H.one.le, H.one.low⟩
end Pair
end Go.Proofs.YtlakolkpfkakoaaGreatDoor

/- Two ends: if all that goes out comes, in order, and time passes, all comes; plain mathematics. -/
namespace Go.Proofs.YtlakolkpfkakoaaGreatDoor
open Go.RowKit

set_option linter.unusedVariables false
class EpOk (ep : Int) : Prop where
  h : 0 ≤ ep ∧ ep ≤ 65535
variable {ep : Int} [EpOk ep]

end Go.Proofs.YtlakolkpfkakoaaGreatDoor

/- Two ends and six slices of the call's own, none of which has a part in another one. -/
namespace Go.Proofs.YtlakolkpfkakoaaGreatDoor
open Go.RowKit
structure SV where
  ao : Option Addr
  n : Nat
  c : Nat
def SV.v (x : SV) : Value := .slice x.ao x.n x.c
def SV.nil : SV := ⟨none, 0, 0⟩
structure TV where
  p : Nat
  p' : Nat
  o : SV
  o' : SV
  s : SV
  s' : SV
  g : SV
  g' : SV
def As {α : Type} [Elem α] (w0 w : World) (F : Nat → Prop) (x : SV) (xs : List α) : Prop := Ow w w0.heap.size x.v xs ∧ ∀ b, x.v.ownBlock = some b → F b
def Dis (F : Nat → Nat → Prop) : Prop := ∀ i j k, F i k → F j k → i = j
def upd (F : Nat → Nat → Prop) (i : Nat) (G : Nat → Prop) : Nat → Nat → Prop := fun j => if j = i then G else F j
theorem upd_same (F : Nat → Nat → Prop) (i : Nat) (G : Nat → Prop) : upd F i G i = G := if_pos rfl
theorem upd_ne (F : Nat → Nat → Prop) {i j : Nat} (G : Nat → Prop) (h : j ≠ i) : upd F i G j = F j := if_neg h
def ob (x : SV) : Nat → Prop := fun b => x.v.ownBlock = some b

theorem ow_keep {α : Type} [Elem α] {w w' : World} {B : Nat} {v : Value} {xs : List α} (h : Ow w B v xs) (hq : ∀ b, v.ownBlock = some b → w'.heap[b]? = w.heap[b]?) : Ow w' B v xs := by
  refine ⟨h.1, ?_⟩
  rcases h.2 with h2 | ⟨g, cap, cur, rfl, hg, hh, r⟩
  · exact .inl h2
  · exact .inr ⟨g, cap, cur, rfl, hg, (hq g rfl).trans hh, r⟩
theorem As.off {α : Type} [Elem α] {w0 w w' : World} {F : Nat → Nat → Prop} {i j : Nat} {x : SV} {xs : List α} (h : As w0 w (F j) x xs) (hd : Dis F) (o : Off (F i) w w') (hij : i ≠ j) : As w0 w' (F j) x xs :=
  ⟨ow_keep h.1 fun b hb => o.block b (h.1.low b hb).2 fun hi => hij (hd i j b hi (h.2 b hb)), h.2⟩
theorem As.ext {α : Type} [Elem α] {w0 w w' : World} {F : Nat → Prop} {x : SV} {xs : List α} (h : As w0 w F x xs) (e : Ext w w') : As w0 w' F x xs := ⟨h.1.ext e, h.2⟩
theorem Dis.upd {F : Nat → Nat → Prop} {G : Nat → Prop} {w : World} {i : Nat} (hd : Dis F) (hl : ∀ i k, F i k → k < w.heap.size) (g : Grows (F i) G w) : Dis (upd F i G) := by
  intro a b k ha hb
  by_cases h1 : a = i
  · subst h1
    by_cases h2 : b = a
    · exact h2.symm
    · rw [upd_same] at ha
      rw [upd_ne F G h2] at hb
      rcases g k ha with h3 | h3
      · exact hd _ _ k h3 hb
      · have := hl b k hb; omega
  · rw [upd_ne F G h1] at ha
    by_cases h2 : b = i
    · subst h2
      rw [upd_same] at hb
      rcases g k hb with h3 | h3
      · exact hd _ _ k ha h3
      · have := hl a k ha; omega
    · rw [upd_ne F G h2] at hb
      exact hd _ _ k ha hb

structure St (w0 w : World) (T : TV) (X Y : EndS) (s g : List ByteArray) (O : List Fr) (s' g' : List ByteArray) (O' : List Fr) (F : Nat → Nat → Prop) : Prop where
  e : EAt w T.p X (F 0)
  e' : EAt w T.p' Y (F 1)
  co : As w0 w (F 2) T.o O
  co' : As w0 w (F 3) T.o' O'
  cs : As w0 w (F 4) T.s s
  cs' : As w0 w (F 5) T.s' s'
  cg : As w0 w (F 6) T.g g'
  cg' : As w0 w (F 7) T.g' g
  dis : Dis F
  low : ∀ i k, F i k → w0.heap.size ≤ k ∧ k < w.heap.size
  ext : Ext w0 w

section
variable {w0 w w' : World} {T : TV} {X Y X' : EndS} {s g s' g' : List ByteArray} {O O' : List Fr} {F : Nat → Nat → Prop}
theorem St.more (h : St w0 w T X Y s g O s' g' O' F) (x : Ext w w') : St w0 w' T X Y s g O s' g' O' F := by
  have hE : ∀ {p S G}, EAt w p S G → EAt w' p S G := fun h => h.off (Off.of_ext (F := fun _ => False) x) (fun _ _ hf => hf)
  exact ⟨hE h.e, hE h.e', h.co.ext x, h.co'.ext x, h.cs.ext x, h.cs'.ext x, h.cg.ext x, h.cg'.ext x, h.dis, fun i k hk => ⟨(h.low i k hk).1, Nat.lt_of_lt_of_le (h.low i k hk).2 x.size⟩, Below.trans h.ext (x.mono h.ext.size)⟩
theorem low_upd {i : Nat} {G : Nat → Prop} (hl : ∀ i k, F i k → w0.heap.size ≤ k ∧ k < w.heap.size) (hx : w0.heap.size ≤ w.heap.size) (hs : w.heap.size ≤ w'.heap.size) (g : Grows (F i) G w) (hG : ∀ k, G k → k < w'.heap.size) : ∀ j k, upd F i G j k → w0.heap.size ≤ k ∧ k < w'.heap.size := by
  intro j k hk
  by_cases h : j = i
  · subst h
    rw [upd_same] at hk
    refine ⟨?_, hG k hk⟩
    rcases g k hk with h1 | h1
    · exact (hl j k h1).1
    · omega
  · rw [upd_ne F G h] at hk
    have := hl j k hk
    omega
theorem ext_upd {i : Nat} (h : Ext w0 w) (o : Off (F i) w w') (hl : ∀ k, F i k → w0.heap.size ≤ k) : Ext w0 w' := Below.trans h (o.below hl h.size)
theorem St.moves (h : St w0 w T X Y s g O s' g' O' F) {G : Nat → Prop} (n : EAt w' T.p X' G) (o : Off (F 0) w w') (gr : Grows (F 0) G w) : St w0 w' T X' Y s g O s' g' O' (upd F 0 G) := by
  have hl := fun i k hk => (h.low i k hk).2
  exact ⟨n, h.e'.off o (fun k h1 h0 => by have := h.dis 0 1 k h0 h1; omega), h.co.off h.dis o (by decide), h.co'.off h.dis o (by decide), h.cs.off h.dis o (by decide), h.cs'.off h.dis o (by decide), h.cg.off h.dis o (by decide), h.cg'.off h.dis o (by decide),
    h.dis.upd hl gr, low_upd h.low h.ext.size o.size gr n.low, ext_upd h.ext o (fun k hk => (h.low 0 k hk).1)⟩
theorem off_apd {B : Nat} {x : SV} {v' : Value} {G : Nat → Prop} (a : Apd B x.v v' w w') (hx : ∀ b, x.v.ownBlock = some b → G b) : Off G w w' :=
  ⟨a.grown.os, a.grown.tape, a.grown.output, a.grown.size, fun k hk hf => a.grown.block k hk (fun e => hf (hx k e.symm))⟩
theorem grows_apd {B : Nat} {x y : SV} {G : Nat → Prop} (a : Apd B x.v y.v w w') (hx : ∀ b, x.v.ownBlock = some b → G b) : Grows G (ob y) w := fun k hk => by
  rcases a.block with h | h
  · exact .inl (hx k (h ▸ hk))
  · exact .inr (h k hk)
theorem St.put (h : St w0 w T X Y s g O s' g' O' F) {y : SV} {l : List Fr} (ho : Ow w' w0.heap.size y.v l) (a : Apd w0.heap.size T.o.v y.v w w') : St w0 w' { T with o := y } X Y s g l s' g' O' (upd F 2 (ob y)) := by
  have hl := fun i k hk => (h.low i k hk).2
  have o := off_apd (G := F 2) a h.co.2
  have gr := grows_apd (G := F 2) a h.co.2
  exact ⟨h.e.off o (fun k h1 h0 => by have := h.dis 2 0 k h0 h1; omega), h.e'.off o (fun k h1 h0 => by have := h.dis 2 1 k h0 h1; omega), ⟨ho, fun _ hb => hb⟩, h.co'.off h.dis o (by decide), h.cs.off h.dis o (by decide), h.cs'.off h.dis o (by decide), h.cg.off h.dis o (by decide), h.cg'.off h.dis o (by decide),
    h.dis.upd hl gr, low_upd h.low h.ext.size o.size gr (fun k hk => (ho.low k hk).2), ext_upd h.ext o (fun k hk => (h.low 2 k hk).1)⟩
theorem St.sent (h : St w0 w T X Y s g O s' g' O' F) {y : SV} {l : List ByteArray} (ho : Ow w' w0.heap.size y.v l) (a : Apd w0.heap.size T.s.v y.v w w') : St w0 w' { T with s := y } X Y l g O s' g' O' (upd F 4 (ob y)) := by
  have hl := fun i k hk => (h.low i k hk).2
  have o := off_apd (G := F 4) a h.cs.2
  have gr := grows_apd (G := F 4) a h.cs.2
  exact ⟨h.e.off o (fun k h1 h0 => by have := h.dis 4 0 k h0 h1; omega), h.e'.off o (fun k h1 h0 => by have := h.dis 4 1 k h0 h1; omega), h.co.off h.dis o (by decide), h.co'.off h.dis o (by decide), ⟨ho, fun _ hb => hb⟩, h.cs'.off h.dis o (by decide), h.cg.off h.dis o (by decide), h.cg'.off h.dis o (by decide),
    h.dis.upd hl gr, low_upd h.low h.ext.size o.size gr (fun k hk => (ho.low k hk).2), ext_upd h.ext o (fun k hk => (h.low 4 k hk).1)⟩
theorem St.got (h : St w0 w T X Y s g O s' g' O' F) {y : SV} {l : List ByteArray} (ho : Ow w' w0.heap.size y.v l) (a : Apd w0.heap.size T.g.v y.v w w') : St w0 w' { T with g := y } X Y s g O s' l O' (upd F 6 (ob y)) := by
  have hl := fun i k hk => (h.low i k hk).2
  have o := off_apd (G := F 6) a h.cg.2
  have gr := grows_apd (G := F 6) a h.cg.2
  exact ⟨h.e.off o (fun k h1 h0 => by have := h.dis 6 0 k h0 h1; omega), h.e'.off o (fun k h1 h0 => by have := h.dis 6 1 k h0 h1; omega), h.co.off h.dis o (by decide), h.co'.off h.dis o (by decide), h.cs.off h.dis o (by decide), h.cs'.off h.dis o (by decide), ⟨ho, fun _ hb => hb⟩, h.cg'.off h.dis o (by decide),
    h.dis.upd hl gr, low_upd h.low h.ext.size o.size gr (fun k hk => (ho.low k hk).2), ext_upd h.ext o (fun k hk => (h.low 6 k hk).1)⟩
theorem St.box (h : St w0 w T X Y s g O s' g' O' F) {W : World} {b : Nat} (x : Off (fun k => k = b) w W) (hb : ∀ i, ¬ F i b) (hb0 : w0.heap.size ≤ b) : St w0 W T X Y s g O s' g' O' F := by
  have hE : ∀ {p S i}, EAt w p S (F i) → EAt W p S (F i) := fun {p S i} h => h.off x (fun k hk e => hb i (e ▸ hk))
  have hA : ∀ {α : Type} [Elem α] {i : Nat} {x9 : SV} {xs : List α}, As w0 w (F i) x9 xs → As w0 W (F i) x9 xs := fun {α _ i x9 xs} h9 => ⟨ow_keep h9.1 fun c hc => x.block c (h9.1.low c hc).2 (fun e => hb i (e ▸ h9.2 c hc)), h9.2⟩
  exact ⟨hE h.e, hE h.e', hA h.co, hA h.co', hA h.cs, hA h.cs', hA h.cg, hA h.cg', h.dis, fun i k hk => ⟨(h.low i k hk).1, Nat.lt_of_lt_of_le (h.low i k hk).2 x.size⟩, Below.trans h.ext (x.below (fun k hk => by rw [hk]; exact hb0) h.ext.size)⟩
end
def FitO (O : List Fr) : Prop := ∀ f ∈ O, f.a < 18446744073709551616 ∧ f.q < 18446744073709551616 ∧ f.b.size ≤ 1000
theorem FitO.frames {X : EndS} (ok : X.Ok) : FitO X.frames := by
  intro f hf
  obtain ⟨j, hj, rfl⟩ : ∃ j, j < X.frames.length ∧ f = X.frames.getD j Fr.zero := by
    obtain ⟨j, hj, e⟩ := List.getElem_of_mem hf
    exact ⟨j, hj, by simp [hj, e]⟩
  have hw := ok.want
  rcases EndS.frames_getD j hj with ⟨h3, _⟩ | ⟨h3, _⟩
  · rw [h3]
    have := EndS.data_in ok (X.out + j)
    exact ⟨hw, Nat.mod_lt _ (by decide), by omega⟩
  · rw [h3]
    exact ⟨hw, by show (0 : Nat) < _; decide, by show (⟨#[]⟩ : ByteArray).size ≤ 1000; decide⟩
end Go.Proofs.YtlakolkpfkakoaaGreatDoor
