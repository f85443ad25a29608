/- Two ends: whatever comes, how often and in whatever order, each is told once, in order; plain mathematics. -/
import Derived.Test.YtefkjclkondmeaaKM
namespace Go.Proofs.Ytefkjclkondmeaa
open Go.RowKit

set_option linter.unusedVariables false

/-- what one end X, that was sent the bodies s, and let out the frames O, has to do with what the other one, Y, was told (g) -/
structure Half (fn : Nat) (X Y : EndS) (s g : List ByteArray) (O : List Fr) (h : Nat) : Prop where
  l : X.l = s.drop (s.length - X.l.length)
  le : X.l.length ≤ s.length
  few : s.length ≤ 1000
  nr : X.first = (fn + (s.length - X.l.length)) % 18446744073709551616
  wa : Y.want = (fn + g.length) % 18446744073709551616
  pre : g = s.take g.length
  gle : g.length ≤ s.length
  low : s.length - X.l.length ≤ g.length
  high : g.length ≤ s.length - X.l.length + X.ever
  /-- each frame that went: its answer is a number that X waited for once, its body the one of its number, and was out ever -/
  fr : ∀ f ∈ O, (∃ a, a ≤ h ∧ f.a = (fn + a) % 18446744073709551616) ∧ (f.k = 2 ∨ (f.k = 1 ∧ ∃ i, i < s.length - X.l.length + X.ever ∧ i < s.length ∧ f.q = (fn + i) % 18446744073709551616 ∧ f.b = s.getD i ⟨#[]⟩))

namespace Half
variable {fn : Nat} {X X' Y Y' : EndS} {s g : List ByteArray} {O : List Fr} {h : Nat}

theorem new (fn : Nat) (hf : fn < 18446744073709551616) (e : Int) (win qn wait : Int) : Half fn (EndS.new e fn win qn wait) (EndS.new e fn win qn wait) [] [] [] 0 where
  l := rfl
  le := Nat.le_refl _
  few := Nat.zero_le _
  nr := by show fn = (fn + 0) % 18446744073709551616; omega
  wa := by show fn = (fn + 0) % 18446744073709551616; omega
  pre := rfl
  gle := Nat.le_refl _
  low := Nat.le_refl _
  high := Nat.zero_le _
  fr := fun f hf => by cases hf

/-- Y changes, but not what it waits for -/
theorem other (H : Half fn X Y s g O h) (e : Y'.want = Y.want) : Half fn X Y' s g O h := { H with wa := e.trans H.wa }
/-- the other one was told more: answers may be greater -/
theorem more (H : Half fn X Y s g O h) {h' : Nat} (e : h ≤ h') : Half fn X Y s g O h' := by
  refine { H with fr := fun f hf => ?_ }
  obtain ⟨⟨a, h1, h2⟩, h3⟩ := H.fr f hf
  exact ⟨⟨a, Nat.le_trans h1 e, h2⟩, h3⟩

/-- one more body is sent -/
theorem send (H : Half fn X Y s g O h) (b : ByteArray) (hb : X.sendE b = 0) (hs : s.length < 1000) : Half fn (X.send b) Y (s ++ [b]) g O h := by
  have e : X.send b = { X with l := X.l ++ [b] } := by unfold EndS.send; rw [if_pos hb]
  rw [e]
  have h1 := H.le
  have h2 := H.gle
  have h3 : (s ++ [b]).length - (X.l ++ [b]).length = s.length - X.l.length := by simp
  refine { l := ?_, le := ?_, few := ?_, nr := ?_, wa := H.wa, pre := ?_, gle := ?_, low := ?_, high := ?_, fr := fun f hf => ?_ }
  · show X.l ++ [b] = (s ++ [b]).drop ((s ++ [b]).length - (X.l ++ [b]).length)
    rw [h3, List.drop_append_of_le_length (by omega), ← H.l]
  · simp; omega
  · simp; omega
  · rw [h3]; exact H.nr
  · rw [List.take_append_of_le_length (by omega)]; exact H.pre
  · simp; omega
  · rw [h3]; exact H.low
  · rw [h3]; exact H.high
  · obtain ⟨h4, h5⟩ := H.fr f hf
    refine ⟨h4, h5.imp id fun h6 => ?_⟩
    obtain ⟨h7, i, h8, h9, h10, h11⟩ := h6
    refine ⟨h7, i, by rw [h3]; exact h8, by simp; omega, h10, ?_⟩
    rw [h11]
    simp [List.getElem?_append_left h9]

theorem refused (H : Half fn X Y s g O h) (b : ByteArray) (hb : X.sendE b ≠ 0) : Half fn (X.send b) Y s g O h := by
  have e : X.send b = X := by unfold EndS.send; rw [if_neg hb]
  rw [e]
  exact H

theorem tick (H : Half fn X Y s g O h) : Half fn X.tick Y s g O h := by
  unfold EndS.tick
  split
  · exact H
  · split <;> exact { H with }

/-- what goes out goes -/
theorem out (H : Half fn X Y s g O h) (ok : X.Ok) (hw : X.want = (fn + h) % 18446744073709551616) : Half fn X.outS Y s g (O ++ X.frames) h := by
  have h1 := H.le
  have he : X.ever ≤ X.outS.ever := by unfold EndS.outS; exact Nat.le_max_left _ _
  have hl : X.outS.l = X.l := rfl
  have hfi : X.outS.first = X.first := rfl
  refine { l := H.l, le := H.le, few := H.few, nr := H.nr, wa := H.wa, pre := H.pre, gle := H.gle, low := H.low, high := by rw [hl]; have := H.high; omega, fr := fun f hf => ?_ }
  rw [hl]
  rcases List.mem_append.1 hf with hf | hf
  · obtain ⟨h4, h5⟩ := H.fr f hf
    refine ⟨h4, h5.imp id fun h6 => ?_⟩
    obtain ⟨h7, i, h8, h9⟩ := h6
    exact ⟨h7, i, by omega, h9⟩
  · obtain ⟨j, hj, rfl⟩ : ∃ j, j < X.frames.length ∧ f = X.frames.getD j Fr.zero := by
      obtain ⟨j, hj, e⟩ := List.getElem_of_mem hf
      exact ⟨j, hj, by simp [hj, e]⟩
    rcases EndS.frames_getD j hj with ⟨h3, h4⟩ | ⟨h3, h4⟩
    · rw [h3]
      unfold EndS.top at h4
      refine ⟨⟨h, Nat.le_refl _, hw⟩, .inr ⟨rfl, s.length - X.l.length + (X.out + j), ?_, ?_, ?_, ?_⟩⟩
      · have : X.out + j < X.outS.ever := by
          unfold EndS.outS EndS.top
          simp only
          omega
        omega
      · omega
      · show (X.first + (X.out + j)) % 18446744073709551616 = _
        rw [H.nr]
        omega
      · show X.l.getD (X.out + j) ⟨#[]⟩ = _
        have := H.l
        simp only [List.getD_eq_getElem?_getD]
        conv => lhs; rw [this]
        rw [List.getElem?_drop]
    · rw [h3]
      exact ⟨⟨h, Nat.le_refl _, hw⟩, .inl rfl⟩
end Half

theorem gone_of {Y : EndS} (ok : Y.Ok) {fn a c fa : Nat} (h1 : Y.first = (fn + c) % 18446744073709551616) (h2 : fa = (fn + a) % 18446744073709551616) (hc : c ≤ 1000) (ha : a ≤ c + Y.ever) : Y.gone fa = a - c := by
  have hw := ok.win8
  have he := ok.ew
  unfold EndS.gone
  rw [h1, h2]
  by_cases h : c < a
  · have e : ((fn + a) % 18446744073709551616 + 18446744073709551616 - (fn + c) % 18446744073709551616) % 18446744073709551616 = a - c := by omega
    rw [e, if_pos (by omega)]
  · have e : ¬ (1 ≤ ((fn + a) % 18446744073709551616 + 18446744073709551616 - (fn + c) % 18446744073709551616) % 18446744073709551616 ∧ ((fn + a) % 18446744073709551616 + 18446744073709551616 - (fn + c) % 18446744073709551616) % 18446744073709551616 ≤ Y.ever) := by
      rintro ⟨e1, e2⟩
      omega
    rw [if_neg e]
    omega

/-- both ways -/
structure Pair (fn : Nat) (X Y : EndS) (s g : List ByteArray) (O : List Fr) (s' g' : List ByteArray) (O' : List Fr) : Prop where
  one : Half fn X Y s g O g'.length
  two : Half fn Y X s' g' O' g.length
  okX : X.Ok
  okY : Y.Ok

namespace Pair
variable {fn : Nat} {X Y : EndS} {s g s' g' : List ByteArray} {O O' : List Fr}
theorem swap (H : Pair fn X Y s g O s' g' O') : Pair fn Y X s' g' O' s g O := ⟨H.two, H.one, H.okY, H.okX⟩
theorem send (H : Pair fn X Y s g O s' g' O') (b : ByteArray) (hb : X.sendE b = 0) (hs : s.length < 1000) : Pair fn (X.send b) Y (s ++ [b]) g O s' g' O' :=
  ⟨H.one.send b hb hs, H.two.other (by unfold EndS.send; rw [if_pos hb]), H.okX.send b, H.okY⟩
theorem refused (H : Pair fn X Y s g O s' g' O') (b : ByteArray) (hb : X.sendE b ≠ 0) : Pair fn (X.send b) Y s g O s' g' O' := by
  have e : X.send b = X := by unfold EndS.send; rw [if_neg hb]
  rw [e]
  exact H
theorem tick (H : Pair fn X Y s g O s' g' O') : Pair fn X.tick Y s g O s' g' O' :=
  ⟨H.one.tick, H.two.other (by unfold EndS.tick; split; rfl; split <;> rfl), H.okX.tick, H.okY⟩
theorem out (H : Pair fn X Y s g O s' g' O') : Pair fn X.outS Y s g (O ++ X.frames) s' g' O' :=
  ⟨H.one.out H.okX H.two.wa, H.two.other rfl, H.okX.outS, H.okY⟩

theorem drop_want (S : EndS) (k : Nat) : (S.drop k).want = S.want := by unfold EndS.drop; rfl

/-- what the answer in a frame of X does to Y -/
theorem acked (H : Pair fn X Y s g O s' g' O') {f : Fr} (hf : f ∈ O) : Half fn (Y.drop (Y.gone f.a)) X s' g' O' g.length ∧ Y.gone f.a ≤ Y.ever := by
  obtain ⟨⟨a, ha, hfa⟩, _⟩ := H.one.fr f hf
  have h2 := H.two
  have hle := h2.le
  have hfew := h2.few
  have hhigh := h2.high
  have hel := H.okY.el
  have hg := gone_of H.okY (c := s'.length - Y.l.length) h2.nr hfa (by omega) (by omega)
  have hk := Y.gone_le f.a
  refine ⟨?_, hk⟩
  rw [hg] at hk ⊢
  obtain ⟨k, hkk⟩ : ∃ k, k = a - (s'.length - Y.l.length) := ⟨_, rfl⟩
  rw [← hkk] at hk ⊢
  have hlen : s'.length - (Y.l.drop k).length = s'.length - Y.l.length + k := by rw [List.length_drop]; omega
  have hk2 : k ≤ Y.l.length := by omega
  have dl : (Y.drop k).l = Y.l.drop k := by unfold EndS.drop; rfl
  have df : (Y.drop k).first = (Y.first + k) % 18446744073709551616 := by unfold EndS.drop; rfl
  have de : (Y.drop k).ever = Y.ever - k := by unfold EndS.drop; rfl
  refine { l := ?_, le := ?_, few := hfew, nr := ?_, wa := h2.wa, pre := h2.pre, gle := h2.gle, low := ?_, high := ?_, fr := fun f9 hf9 => ?_ }
  · rw [dl, hlen]
    conv => lhs; rw [h2.l]
    rw [List.drop_drop]
  · rw [dl, List.length_drop]; omega
  · rw [dl, df, hlen, h2.nr]; omega
  · rw [dl, hlen]
    have := h2.low
    omega
  · rw [dl, hlen, de]; omega
  · obtain ⟨h3, h4⟩ := h2.fr f9 hf9
    refine ⟨h3, h4.imp id fun h5 => ?_⟩
    obtain ⟨h6, i, h7, h8⟩ := h5
    exact ⟨h6, i, by rw [dl, hlen, de]; omega, h8⟩

/-- a frame of X comes to Y -/
theorem take (H : Pair fn X Y s g O s' g' O') {f : Fr} (hf : f ∈ O) : Pair fn X (Y.take f) s (if Y.told f = true then g ++ [f.b] else g) O s' g' O' := by
  obtain ⟨hA, hk⟩ := H.acked hf
  have hok := H.okY.take f
  cases hg : Y.good f
  · have ht : Y.told f = false := by unfold EndS.told; rw [hg]; rfl
    have e : Y.take f = Y := by unfold EndS.take; rw [if_neg (by rw [hg]; decide)]
    rw [e, if_neg (by rw [ht]; decide)]
    exact H
  · have hdw := drop_want Y (Y.gone f.a)
    by_cases h2 : f.k = 2
    · have ht : Y.told f = false := by unfold EndS.told; rw [decide_eq_false (show ¬ f.k ≠ 2 from fun h => h h2)]; simp
      have e : Y.take f = Y.drop (Y.gone f.a) := by unfold EndS.take; rw [if_pos hg, if_pos h2]
      rw [if_neg (by rw [ht]; decide)]
      rw [e] at hok ⊢
      exact ⟨H.one.other hdw, hA, H.okX, hok⟩
    · have hmore := (H.one.fr f hf).2.resolve_left h2
      obtain ⟨_, i, hi1, hi2, hiq, hib⟩ := hmore
      have hw := H.one.wa
      have hfew := H.one.few
      have hgle := H.one.gle
      by_cases hq : f.q = Y.want
      · have ht : Y.told f = true := by unfold EndS.told; rw [hg, decide_eq_true (show f.k ≠ 2 from h2), decide_eq_true hq]; rfl
        have hig : i = g.length := by rw [hiq, hw] at hq; omega
        have e : Y.take f = { Y.drop (Y.gone f.a) with owes := true, want := (Y.want + 1) % 18446744073709551616 } := by unfold EndS.take; rw [if_pos hg, if_neg h2, if_pos hq]
        rw [if_pos ht]
        rw [e] at hok ⊢
        have h9 : s.take (g.length + 1) = s.take g.length ++ [f.b] := by
          rw [hib, hig, List.take_succ_eq_append_getElem (by omega)]
          simp [show g.length < s.length by omega]
        refine ⟨?_, ?_, H.okX, hok⟩
        · refine { H.one with wa := ?_, pre := ?_, gle := ?_, low := ?_, high := ?_ }
          · show (Y.want + 1) % 18446744073709551616 = (fn + (g ++ [f.b]).length) % 18446744073709551616
            rw [hw, List.length_append, List.length_singleton]
            omega
          · rw [List.length_append, List.length_singleton, h9, ← H.one.pre]
          · rw [List.length_append, List.length_singleton]; omega
          · rw [List.length_append, List.length_singleton]; have := H.one.low; omega
          · rw [List.length_append, List.length_singleton]; omega
        · have hA2 := hA.more (h' := (g ++ [f.b]).length) (by rw [List.length_append]; omega)
          exact { hA2 with }
      · have ht : Y.told f = false := by unfold EndS.told; rw [decide_eq_false hq]; simp
        have e : Y.take f = { Y.drop (Y.gone f.a) with owes := true, want := Y.want } := by unfold EndS.take; rw [if_pos hg, if_neg h2, if_neg hq]
        rw [if_neg (by rw [ht]; decide)]
        rw [e] at hok ⊢
        exact ⟨H.one.other rfl, { hA with }, H.okX, hok⟩

/-- what LinkOnce asks, one way -/
theorem asks (H : Pair fn X Y s g O s' g' O') : (g.length ≤ s.length ∧ g = s.take g.length) ∧ X.l.length ≤ s.length ∧ s.length - X.l.length ≤ g.length := ⟨⟨H.one.gle, H.one.pre⟩, H.one.le, H.one.low⟩
end Pair
end Go.Proofs.Ytefkjclkondmeaa
