/- PipeAll: the rounds of a pipe; plain mathematics, and the game without what went. -/
import Derived.Test.YtcjoemkplghonaaDoorMS
namespace Go.Proofs.YtcjoemkplghonaaDoor
open Go.RowKit

set_option linter.unusedVariables false
section
variable {ep : Int} [EpOk ep]
theorem frames_right {X : EndS} (hx : X.e = ep) (ok : X.Ok) : ∀ f ∈ X.frames, rightB f = true := by
  intro f hf
  obtain ⟨j, hj, rfl⟩ : ∃ j, j < X.frames.length ∧ f = X.frames.getD j Fr.zero := by
    obtain ⟨j, hj, e⟩ := List.getElem_of_mem hf
    exact ⟨j, hj, by simp [hj, e]⟩
  have key : ∀ f, X.good f = true → rightB f = true := fun f h => by
    unfold EndS.good at h
    rw [Bool.and_eq_true] at h
    exact h.1
  rcases EndS.frames_getD j hj with ⟨h3, h4⟩ | ⟨h3, h4⟩
  · rw [h3]; exact key _ (good_data hx hx ok _)
  · rw [h3]; exact key _ (good_ack hx hx)
end
theorem feed_len : ∀ (l : List Fr) (Y : EndS) (g : List ByteArray), (feed Y g l).2.length ≤ g.length + l.length
  | [], _, _ => Nat.le_refl _
  | f :: l, Y, g => by
    have h := feed_len l (Y.take f) (if Y.told f = true then g ++ [f.b] else g)
    have h2 : (if Y.told f = true then g ++ [f.b] else g).length ≤ g.length + 1 := by
      split
      · rw [List.length_append]; exact Nat.le_refl _
      · exact Nat.le_succ _
    show (feed (Y.take f) _ l).2.length ≤ _
    rw [List.length_cons]
    omega
theorem feed_snoc (l : List Fr) (f : Fr) (Y : EndS) (g : List ByteArray) : feed Y g (l ++ [f]) = ((feed Y g l).1.take f, if (feed Y g l).1.told f = true then (feed Y g l).2 ++ [f.b] else (feed Y g l).2) := by
  rw [feed_append]
  rfl

/-- a round's begin -/
def RdP (fn : Nat) (E : Int) (s0 s1 : List ByteArray) (i : Nat) (X Y : EndS) (g g' : List ByteArray) : Prop := ∃ O O', Pair fn X Y s0 g O s1 g' O' ∧ X.e = E ∧ Y.e = E ∧ Far i X Y s1 g' ∧ True
def Empty2 (P : PipeS) : Prop := P.net.f 0 1 = [] ∧ P.net.f 1 0 = []
/-- what is on its way is lost -/
def JL (fn : Nat) (E : Int) (R : Nat) (s0 s1 : List ByteArray) (m k : Nat) (P : PipeS) : Prop := P.net.room = R ∧ RdP fn E s0 s1 0 P.e0 P.e1 P.g1 P.g0 ∧ ((m = 0 ∧ (P.net.f 1 0).length ≤ 1000 - k) ∨ (m = 1 ∧ P.net.f 1 0 = [] ∧ (P.net.f 0 1).length ≤ 1000 - k) ∨ (2 ≤ m ∧ Empty2 P))
def JR (fn : Nat) (E : Int) (R : Nat) (s0 s1 : List ByteArray) (i : Nat) (P : PipeS) : Prop := P.net.room = R ∧ RdP fn E s0 s1 i P.e0 P.e1 P.g1 P.g0 ∧ Empty2 P
def JA (fn : Nat) (E : Int) (R : Nat) (s0 s1 : List ByteArray) (i k : Nat) (P : PipeS) : Prop := P.net.room = R ∧ Empty2 P ∧ ∃ X0, RdP fn E s0 s1 i X0 P.e1 P.g1 P.g0 ∧ P.e0 = tickN k X0
def JB (fn : Nat) (E : Int) (R : Nat) (s0 s1 : List ByteArray) (i k : Nat) (P : PipeS) : Prop := P.net.room = R ∧ ∃ X0 Y0 g, RdP fn E s0 s1 i X0 Y0 g P.g0 ∧ P.e0 = (tickN 100 X0).outS ∧ feed Y0 g ((tickN 100 X0).frames.take k) = (P.e1, P.g1) ∧ P.net.f 0 1 = ((tickN 100 X0).frames.drop k).map putF ∧ P.net.f 1 0 = []
def JC (fn : Nat) (E : Int) (R : Nat) (s0 s1 : List ByteArray) (i k : Nat) (P : PipeS) : Prop := P.net.room = R ∧ Empty2 P ∧ ∃ X0 Y0 g Y1, RdP fn E s0 s1 i X0 Y0 g P.g0 ∧ P.e0 = (tickN 100 X0).outS ∧ feed Y0 g (tickN 100 X0).frames = (Y1, P.g1) ∧ P.e1 = tickN k Y1
def JD (fn : Nat) (E : Int) (R : Nat) (s0 s1 : List ByteArray) (i k : Nat) (P : PipeS) : Prop := P.net.room = R ∧ ∃ X0 Y0 g Y1 g', RdP fn E s0 s1 i X0 Y0 g g' ∧ feed Y0 g (tickN 100 X0).frames = (Y1, P.g1) ∧ P.e1 = (tickN 100 Y1).outS ∧ feed (tickN 100 X0).outS g' ((tickN 100 Y1).frames.take k) = (P.e0, P.g0) ∧ P.net.f 1 0 = ((tickN 100 Y1).frames.drop k).map putF ∧ P.net.f 0 1 = []

section
variable {fn R : Nat} {E : Int} {s0 s1 : List ByteArray} {i k : Nat} {P : PipeS}
theorem lose_len (N : NetS) (a b : Int) : ((N.deliver a b 0).f a b).length ≤ (N.f a b).length - 1 := by
  unfold NetS.deliver
  cases ht : N.there a b 0
  · rw [if_neg (by decide)]
    unfold NetS.there at ht
    simp at ht
    rw [ht]
    exact Nat.le_refl _
  · rw [if_pos rfl]
    unfold NetS.there at ht
    simp only [Bool.and_eq_true, decide_eq_true_eq] at ht
    have hl : 0 < (N.f a b).length := by omega
    have e : (N.put a b ((N.f a b).eraseIdx (0 : Int).toNat)).f a b = (N.f a b).eraseIdx 0 := by simp [NetS.put]
    rw [e, List.length_eraseIdx, if_pos hl]
    exact Nat.le_refl _
theorem lose_other (N : NetS) {a b x y : Int} (h : ¬ (x = a ∧ y = b)) : (N.deliver a b 0).f x y = N.f x y := by
  unfold NetS.deliver
  split
  · simp [NetS.put, h]
  · rfl
theorem JL.lose0 (h : JL fn E R s0 s1 0 k P) : JL fn E R s0 s1 0 (k + 1) (P.lose 0 0) := by
  obtain ⟨h1, h2, h3⟩ := h
  refine ⟨((P.net.deliver_room _ _ _).1).trans h1, h2, .inl ⟨rfl, ?_⟩⟩
  have h4 := lose_len P.net 1 0
  have h5 : (P.net.f 1 0).length ≤ 1000 - k := by
    rcases h3 with h | h | h
    · exact h.2
    · omega
    · omega
  show ((P.net.deliver 1 0 0).f 1 0).length ≤ _
  omega
theorem JL.lose1 (h : JL fn E R s0 s1 1 k P) : JL fn E R s0 s1 1 (k + 1) (P.lose 1 0) := by
  obtain ⟨h1, h2, h3⟩ := h
  refine ⟨((P.net.deliver_room _ _ _).1).trans h1, h2, .inr (.inl ⟨rfl, ?_, ?_⟩)⟩
  · show (P.net.deliver 0 1 0).f 1 0 = []
    rw [lose_other _ (by decide)]
    rcases h3 with h | h | h
    · omega
    · exact h.2.1
    · omega
  · have h4 := lose_len P.net 0 1
    have h5 : (P.net.f 0 1).length ≤ 1000 - k := by
      rcases h3 with h | h | h
      · omega
      · exact h.2.2
      · omega
    show ((P.net.deliver 0 1 0).f 0 1).length ≤ _
    omega
theorem JL.next0 (h : JL fn E R s0 s1 0 1000 P) (ok : P.net.Ok) : JL fn E R s0 s1 1 0 P := by
  obtain ⟨h1, h2, h3⟩ := h
  refine ⟨h1, h2, .inr (.inl ⟨rfl, ?_, by have := ok.few 0 1; have := ok.rooms; omega⟩)⟩
  rcases h3 with h | h | h
  · exact List.eq_nil_of_length_eq_zero (by omega)
  · omega
  · omega
theorem JL.next1 (h : JL fn E R s0 s1 1 1000 P) : JR fn E R s0 s1 0 P := by
  obtain ⟨h1, h2, h3⟩ := h
  refine ⟨h1, h2, ?_⟩
  rcases h3 with h | h | h
  · omega
  · exact ⟨List.eq_nil_of_length_eq_zero (by omega), h.2.1⟩
  · exact h.2
theorem JL.to2 (h : JR fn E R s0 s1 0 P) : JL fn E R s0 s1 2 0 P := ⟨h.1, h.2.1, .inr (.inr ⟨Nat.le_refl _, h.2.2⟩)⟩
theorem JL.of2 (h : JL fn E R s0 s1 2 k P) : JR fn E R s0 s1 0 P := by
  obtain ⟨h1, h2, h3⟩ := h
  refine ⟨h1, h2, ?_⟩
  rcases h3 with h | h | h
  · omega
  · omega
  · exact h.2

theorem JR.a (h : JR fn E R s0 s1 i P) : JA fn E R s0 s1 i 0 P := ⟨h.1, h.2.2, P.e0, h.2.1, rfl⟩
theorem JA.tick (h : JA fn E R s0 s1 i k P) : JA fn E R s0 s1 i (k + 1) (P.tick 0) := by
  obtain ⟨h1, h2, X0, h3, h4⟩ := h
  refine ⟨h1, h2, X0, h3, ?_⟩
  show P.e0.tick = _
  rw [tickN_succ, h4]
variable {X Y : EndS} {g g' : List ByteArray}
/-- a frame is the next one on its way -/
theorem come_head {P : PipeS} {s : Int} {f : Fr} {l : List ByteArray} (hr : P.net.f (1 - s) s = putF f :: l) (hq : f.q < 18446744073709551616) (ha : f.a < 18446744073709551616) (hf : rightB f = true) : P.come s 0 = (P.lose s 0).takeF s f ∧ (P.lose s 0).net.f (1 - s) s = l := by
  have ht : P.net.there (1 - s) s 0 = true := by unfold NetS.there; rw [hr]; simp
  have hk : P.look s 0 = putF f := by
    unfold PipeS.look NetS.look
    rw [ht, if_pos rfl, hr]
    rfl
  obtain ⟨h1, h2⟩ := frOf_put hq ha hf
  have hi : P.isF s 0 = true := by
    unfold PipeS.isF PipeS.there
    rw [ht, hk, decide_eq_true h1]
    rfl
  refine ⟨?_, ?_⟩
  · unfold PipeS.come
    rw [hi, if_pos rfl, hk, h2]
  · show (P.net.deliver (1 - s) s 0).f (1 - s) s = l
    unfold NetS.deliver
    rw [ht, if_pos rfl, hr]
    simp [NetS.put]
theorem come_none {P : PipeS} {s : Int} (hr : P.net.f (1 - s) s = []) : P.come s 0 = P := (PipeS.come_no (by unfold PipeS.there NetS.there; rw [hr]; simp)).1

theorem JB.c (h : JB fn E R s0 s1 i 8 P) : JC fn E R s0 s1 i 0 P := by
  obtain ⟨h1, X0, Y0, g, h3, h4, h5, h6, h7⟩ := h
  have h3' := h3
  obtain ⟨O, O', hp, hx, hy, hf, hT0⟩ := h3
  have hle := EndS.frames_le (hp.tickX 100).okX
  rw [List.take_of_length_le hle] at h5
  rw [List.drop_of_length_le hle] at h6
  exact ⟨h1, ⟨h6, h7⟩, X0, Y0, g, P.e1, h3', h4, h5, rfl⟩
theorem JB.few (h : JB fn E R s0 s1 i k P) : (P.got 1).length ≤ 1000000 := by
  obtain ⟨h1, X0, Y0, g, ⟨O, O', hp, _⟩, h4, h5, h6, h7⟩ := h
  have hle := EndS.frames_le (hp.tickX 100).okX
  have hl := feed_len ((tickN 100 X0).frames.take k) Y0 g
  have h8 : (feed Y0 g ((tickN 100 X0).frames.take k)).2 = P.g1 := by rw [h5]
  rw [h8, List.length_take] at hl
  have := hp.one.gle
  have := hp.one.few
  show P.g1.length ≤ 1000000
  omega
theorem JC.tick (h : JC fn E R s0 s1 i k P) : JC fn E R s0 s1 i (k + 1) (P.tick 1) := by
  obtain ⟨h1, h2, X0, Y0, g, Y1, h3, h4, h5, h6⟩ := h
  refine ⟨h1, h2, X0, Y0, g, Y1, h3, h4, h5, ?_⟩
  show P.e1.tick = _
  rw [tickN_succ, h6]
section
variable [EpOk E]
theorem JA.go (h : JA fn E R s0 s1 i 100 P) (ok : P.Ok) (hR : 8 ≤ R) : JB fn E R s0 s1 i 0 (P.go 0) := by
  obtain ⟨h1, h2, X0, h3, h4⟩ := h
  obtain ⟨O, O', hp, hx, hy, hf, hT0⟩ := h3
  have hT := hp.tickX 100
  have hte := (tickN_keeps 100 X0).2.2.1
  obtain ⟨A, hA⟩ : ∃ A, A = tickN 100 X0 := ⟨_, rfl⟩
  have hfr := frames_right (ep := E) (X := A) (by rw [hA, hte]; exact hx) (by rw [hA]; exact hT.okX)
  have hle := EndS.frames_le (S := A) (by rw [hA]; exact hT.okX)
  rw [← hA] at h4
  have hg : P.go 0 = { P with e0 := A.outS, net := (goes P.net 0 1 A.frames).1 } := by
    have : P.go 0 = { P with e0 := P.e0.outS, net := (goes P.net 0 1 P.e0.frames).1 } := rfl
    rw [this, h4]
  have hrow := goes_all (a := 0) (b := 1) A.frames P.net (two_yes (by decide) (by have := ok.two; omega) (by decide) (by have := ok.two; omega) (by decide)) (by rw [h2.1]; show 0 + A.frames.length ≤ P.net.room; omega) hfr
  rw [hg]
  refine ⟨((goes_room 0 1 A.frames P.net).1).trans h1, X0, P.e1, P.g1, ⟨O, O', hp, hx, hy, hf, hT0⟩, ?_⟩
  rw [← hA]
  refine ⟨rfl, by rw [List.take_zero]; rfl, ?_, ?_⟩
  · show (goes P.net 0 1 A.frames).1.f 0 1 = _
    rw [hrow, h2.1, List.nil_append, List.drop_zero]
  · show (goes P.net 0 1 A.frames).1.f 1 0 = []
    rw [goes_other (by decide)]
    exact h2.2
theorem JB.come (h : JB fn E R s0 s1 i k P) : JB fn E R s0 s1 i (k + 1) (P.come 1 0) := by
  obtain ⟨h1, X0, Y0, g, h3, h4, h5, h6, h7⟩ := h
  have h3' := h3
  obtain ⟨O, O', hp, hx, hy, hf, hT0⟩ := h3
  have hT := hp.tickX 100
  have hte := (tickN_keeps 100 X0).2.2.1
  obtain ⟨A, hA⟩ : ∃ A, A = tickN 100 X0 := ⟨_, rfl⟩
  have hfr := frames_right (ep := E) (X := A) (by rw [hA, hte]; exact hx) (by rw [hA]; exact hT.okX)
  have hfit := FitO.frames (X := A) (by rw [hA]; exact hT.okX)
  rw [← hA] at h4 h5 h6
  by_cases hk : k < A.frames.length
  · obtain ⟨f, hfe⟩ : ∃ f, f = A.frames[k] := ⟨_, rfl⟩
    have hmem : f ∈ A.frames := by rw [hfe]; exact List.getElem_mem hk
    have hd : A.frames.drop k = f :: A.frames.drop (k + 1) := by rw [List.drop_eq_getElem_cons hk, hfe]
    rw [hd, List.map_cons] at h6
    obtain ⟨q1, q2, _⟩ := hfit f hmem
    obtain ⟨e1, e2⟩ := come_head (P := P) (s := 1) h6 q2 q1 (hfr f hmem)
    have htk : A.frames.take (k + 1) = A.frames.take k ++ [f] := by rw [List.take_succ_eq_append_getElem hk, hfe]
    rw [e1]
    refine ⟨((P.net.deliver_room _ _ _).1).trans h1, X0, Y0, g, h3', ?_⟩
    rw [← hA]
    refine ⟨h4, ?_, e2, ?_⟩
    · rw [htk, feed_snoc, h5]
      rfl
    · show (P.net.deliver 0 1 0).f 1 0 = []
      rw [lose_other _ (by decide)]
      exact h7
  · have hd : A.frames.drop k = [] := List.drop_of_length_le (by omega)
    have hd2 : A.frames.drop (k + 1) = [] := List.drop_of_length_le (by omega)
    rw [hd] at h6
    rw [come_none (s := 1) h6]
    refine ⟨h1, X0, Y0, g, h3', ?_⟩
    rw [← hA]
    refine ⟨h4, ?_, by rw [hd2]; exact h6, h7⟩
    rw [List.take_of_length_le (by omega)] at h5
    rw [List.take_of_length_le (by omega)]
    exact h5
theorem RdP.halfway (h : RdP fn E s0 s1 i X Y g g') {Y1 : EndS} {g1 : List ByteArray} (hf : feed Y g (tickN 100 X).frames = (Y1, g1)) : (tickN 100 Y1).Ok ∧ (tickN 100 Y1).e = E := by
  obtain ⟨O, O', hp, hx, hy, hfar, _⟩ := h
  obtain ⟨Y1', g1', X2, g2, O1, O2, e1, _, hp2, _⟩ := round_pipe hp hx hy hfar
  rw [hf] at e1
  simp only [Prod.mk.injEq] at e1
  obtain ⟨rfl, rfl⟩ := e1
  have hT := hp.tickX 100
  obtain ⟨Y3, g3, e3, _, he3, _⟩ := half_step (ep := E) hT ((tickN_keeps 100 X).2.2.1.trans hx) hy (tick100 X hp.okX)
  rw [hf] at e3
  simp only [Prod.mk.injEq] at e3
  obtain ⟨rfl, rfl⟩ := e3
  exact ⟨(hp2.swap.tickX 100).okX, ((tickN_keeps 100 Y1).2.2.1).trans he3⟩
theorem JC.go (h : JC fn E R s0 s1 i 100 P) (ok : P.Ok) (hR : 8 ≤ R) : JD fn E R s0 s1 i 0 (P.go 1) := by
  obtain ⟨h1, h2, X0, Y0, g, Y1, h3, h4, h5, h6⟩ := h
  obtain ⟨hB, hBe⟩ := h3.halfway h5
  obtain ⟨B, hBB⟩ : ∃ B, B = tickN 100 Y1 := ⟨_, rfl⟩
  rw [← hBB] at hB hBe h6
  have hfr := frames_right (ep := E) (X := B) hBe hB
  have hle := EndS.frames_le hB
  have hg : P.go 1 = { P with e1 := B.outS, net := (goes P.net 1 0 B.frames).1 } := by
    have : P.go 1 = { P with e1 := P.e1.outS, net := (goes P.net 1 0 P.e1.frames).1 } := rfl
    rw [this, h6]
  have hrow := goes_all (a := 1) (b := 0) B.frames P.net (two_yes (by decide) (by have := ok.two; omega) (by decide) (by have := ok.two; omega) (by decide)) (by rw [h2.2]; show 0 + B.frames.length ≤ P.net.room; omega) hfr
  rw [hg]
  refine ⟨((goes_room 1 0 B.frames P.net).1).trans h1, X0, Y0, g, Y1, P.g0, h3, h5, ?_⟩
  rw [← hBB]
  refine ⟨rfl, ?_, ?_, ?_⟩
  · rw [List.take_zero]
    show ((tickN 100 X0).outS, P.g0) = _
    rw [← h4]
  · show (goes P.net 1 0 B.frames).1.f 1 0 = _
    rw [hrow, h2.2, List.nil_append, List.drop_zero]
  · show (goes P.net 1 0 B.frames).1.f 0 1 = []
    rw [goes_other (by decide)]
    exact h2.1
theorem JD.come (h : JD fn E R s0 s1 i k P) : JD fn E R s0 s1 i (k + 1) (P.come 0 0) := by
  obtain ⟨h1, X0, Y0, g, Y1, g', h3, h5, h4, h8, h6, h7⟩ := h
  obtain ⟨hB, hBe⟩ := h3.halfway h5
  obtain ⟨B, hBB⟩ : ∃ B, B = tickN 100 Y1 := ⟨_, rfl⟩
  rw [← hBB] at hB hBe h4 h8 h6
  have hfr := frames_right (ep := E) (X := B) hBe hB
  have hfit := FitO.frames hB
  by_cases hk : k < B.frames.length
  · obtain ⟨f, hfe⟩ : ∃ f, f = B.frames[k] := ⟨_, rfl⟩
    have hmem : f ∈ B.frames := by rw [hfe]; exact List.getElem_mem hk
    have hd : B.frames.drop k = f :: B.frames.drop (k + 1) := by rw [List.drop_eq_getElem_cons hk, hfe]
    rw [hd, List.map_cons] at h6
    obtain ⟨q1, q2, _⟩ := hfit f hmem
    obtain ⟨e1, e2⟩ := come_head (P := P) (s := 0) h6 q2 q1 (hfr f hmem)
    have htk : B.frames.take (k + 1) = B.frames.take k ++ [f] := by rw [List.take_succ_eq_append_getElem hk, hfe]
    rw [e1]
    refine ⟨((P.net.deliver_room _ _ _).1).trans h1, X0, Y0, g, Y1, g', h3, h5, ?_⟩
    rw [← hBB]
    refine ⟨h4, ?_, e2, ?_⟩
    · rw [htk, feed_snoc, h8]
      rfl
    · show (P.net.deliver 1 0 0).f 0 1 = []
      rw [lose_other _ (by decide)]
      exact h7
  · have hd : B.frames.drop k = [] := List.drop_of_length_le (by omega)
    have hd2 : B.frames.drop (k + 1) = [] := List.drop_of_length_le (by omega)
    rw [hd] at h6
    rw [come_none (s := 0) h6]
    refine ⟨h1, X0, Y0, g, Y1, g', h3, h5, ?_⟩
    rw [← hBB]
    refine ⟨h4, ?_, by rw [hd2]; exact h6, h7⟩
    rw [List.take_of_length_le (by omega)] at h8
    rw [List.take_of_length_le (by omega)]
    exact h8
theorem JD.few (h : JD fn E R s0 s1 i k P) : (P.got 0).length ≤ 1000000 := by
  obtain ⟨h1, X0, Y0, g, Y1, g', h3, h5, h4, h8, h6, h7⟩ := h
  obtain ⟨hB, hBe⟩ := h3.halfway h5
  obtain ⟨O, O', hp, _⟩ := h3
  have hle := EndS.frames_le hB
  have hl := feed_len ((tickN 100 Y1).frames.take k) (tickN 100 X0).outS g'
  have h9 : (feed (tickN 100 X0).outS g' ((tickN 100 Y1).frames.take k)).2 = P.g0 := by rw [h8]
  rw [h9, List.length_take] at hl
  have := hp.two.gle
  have := hp.two.few
  show P.g0.length ≤ 1000000
  omega
theorem JD.next (h : JD fn E R s0 s1 i 8 P) : JR fn E R s0 s1 (i + 1) P := by
  obtain ⟨h1, X0, Y0, g, Y1, g', h3, h5, h4, h8, h6, h7⟩ := h
  obtain ⟨hB, hBe⟩ := h3.halfway h5
  have hle := EndS.frames_le hB
  rw [List.take_of_length_le hle] at h8
  rw [List.drop_of_length_le hle] at h6
  obtain ⟨O, O', hp, hx, hy, hfar, hT0⟩ := h3
  obtain ⟨Y1', g1', X2, g2, O1, O2, e1, e2, hp2, hp3, he2, he3, hfar2⟩ := round_pipe hp hx hy hfar
  rw [h5] at e1
  simp only [Prod.mk.injEq] at e1
  obtain ⟨rfl, rfl⟩ := e1
  rw [h8] at e2
  simp only [Prod.mk.injEq] at e2
  obtain ⟨e4, e5⟩ := e2
  rw [← e4, ← e5] at hp3 hfar2
  rw [← e4] at he2
  rw [← h4] at hp3 he3 hfar2
  exact ⟨h1, ⟨_, _, hp3, he2, he3, hfar2, trivial⟩, ⟨h7, h6⟩⟩
end
theorem JR.done (h : JR fn E R s0 s1 66 P) : P.g1 = s0 ∧ P.g0 = s1 ∧ P.e0.l.length = 0 ∧ P.e1.l.length = 0 := by
  obtain ⟨_, ⟨O, O', hp, _, _, hf, _⟩, _⟩ := h
  exact all_came hp hf
end
end Go.Proofs.YtcjoemkplghonaaDoor

/- PipeAll: the game behind its acts. -/
namespace Go.Proofs.YtcjoemkplghonaaDoor
open Go.RowKit

set_option linter.unusedVariables false
structure GmB (w wr : World) (n p : Nat) (s0 s1 : List ByteArray) (P : PipeS) (x : Nat → SV) (L : Nat → List ByteArray) (F : Nat → Nat → Prop) : Prop where
  wt : Wt w wr (Bx2 n) wr p P x L F
  b0 : wr.heap[n]? = some (.cells (two2 x 0) 29 (0, 0))
  b1 : wr.heap[n + 1]? = some (.cells (two2 x 2) 29 (0, 0))
  l2 : L 2 = s0
  l3 : L 3 = s1
def GmW (w wr : World) (n p : Nat) (s0 s1 : List ByteArray) (J : PipeS → Prop) : Prop := ∃ P x L F, GmB w wr n p s0 s1 P x L F ∧ J P
section
variable {w wr wr' : World} {n p : Nat} {s0 s1 : List ByteArray} {P : PipeS} {x : Nat → SV} {L : Nat → List ByteArray} {F : Nat → Nat → Prop}
theorem GmB.two (h : GmB w wr n p s0 s1 P x L F) : ∀ k, Bx2 n k → k < wr.heap.size := fun k hk => by
  have := blk_lt h.b1
  rcases hk with rfl | rfl <;> omega
theorem GmB.more (h : GmB w wr n p s0 s1 P x L F) (e : Ext wr wr') : GmB w wr' n p s0 s1 P x L F :=
  ⟨(h.wt.more e).base (Bx2 n) (fun k hk => Nat.lt_of_lt_of_le (h.two k hk) e.size) h.wt.nk, blk_later h.b0 e, blk_later h.b1 e, h.l2, h.l3⟩
theorem GmB.moves (h : GmB w wr n p s0 s1 P x L F) {P' : PipeS} {G : Nat → Prop} (m : PAt wr' p P' G) (o : Off (F 0) wr wr') (g : Grows (F 0) G wr) : GmB w wr' n p s0 s1 P' x L (upd F 0 G) := by
  have h1 := h.wt.moves m o g
  have hb : ∀ k, Bx2 n k → ¬ F 0 k := fun k hk hf => h.wt.nk 0 k hf hk
  exact ⟨h1.base (Bx2 n) (fun k hk => Nat.lt_of_lt_of_le (h.two k hk) o.size) h1.nk, o.blk h.b0 (hb n (.inl rfl)), o.blk h.b1 (hb (n + 1) (.inr rfl)), h.l2, h.l3⟩
theorem GmW.map {J J' : PipeS → Prop} (h : GmW w wr n p s0 s1 J) (f : ∀ P : PipeS, P.Ok → J P → J' P) : GmW w wr n p s0 s1 J' := by
  obtain ⟨P, x, L, F, h, j⟩ := h
  exact ⟨P, x, L, F, h, f P h.wt.e.ok j⟩
theorem GmW.ext {J : PipeS → Prop} (h : GmW w wr n p s0 s1 J) : Ext w wr := by
  obtain ⟨P, x, L, F, h, j⟩ := h
  exact h.wt.ext
end
/-- the game behind its acts -/
theorem Gm.behind {w wr : World} {n p fn R K : Nat} {E : Int} (h : Gm w wr n p fn E R K) : ∃ s0 s1, GmW w wr n p s0 s1 (JL fn E R s0 s1 0 0) := by
  obtain ⟨P, x, L, F, O0, O1, h⟩ := h
  have ok := h.wt.e.ok
  refine ⟨L 2, L 3, P, x, L, F, ⟨h.wt, h.b0, h.b1, rfl, rfl⟩, h.inv.rm, ⟨O0, O1, h.inv.pair, h.inv.ep0, h.inv.ep1, ⟨?_, .inl ⟨rfl, ?_⟩, fun h => by omega⟩, trivial⟩, .inl ⟨rfl, ?_⟩⟩
  · have h1 := ok.e0.len; have h2 := ok.e0.qn; omega
  · have h1 := ok.e1.len; have h2 := ok.e1.qn; omega
  · have h1 := ok.net.few 1 0; have h2 := ok.net.rooms; omega
/-- within a round: side 0's half, side 1's half, the end -/
def JS (fn : Nat) (E : Int) (R : Nat) (s0 s1 : List ByteArray) (i m : Nat) (P : PipeS) : Prop := (m = 0 ∧ JR fn E R s0 s1 i P) ∨ (m = 1 ∧ JC fn E R s0 s1 i 0 P) ∨ (m = 2 ∧ JR fn E R s0 s1 (i + 1) P)
end Go.Proofs.YtcjoemkplghonaaDoor
