/- Two ends: if all that goes out comes, in order, and time passes, all comes; plain mathematics. -/
import Derived.Test.YtefkjclkondmeaaKO
namespace Go.Proofs.Ytefkjclkondmeaa
open Go.RowKit

set_option linter.unusedVariables false

/-- an end takes frames, one after the other; what it was told -/
def feed (Y : EndS) (g : List ByteArray) : List Fr → EndS × List ByteArray
  | [] => (Y, g)
  | f :: l => feed (Y.take f) (if Y.told f = true then g ++ [f.b] else g) l
theorem feed_append (l m : List Fr) : ∀ (Y : EndS) (g : List ByteArray), feed Y g (l ++ m) = feed (feed Y g l).1 (feed Y g l).2 m := by
  induction l with
  | nil => intros; rfl
  | cons f l ih => intro Y g; exact ih _ _

/-- what is the end's own, and stays -/
def Own (X : EndS) : Prop := X.e = 1

theorem good_data {X Y : EndS} (hx : X.e = 1) (hy : Y.e = 1) (ok : X.Ok) (i : Nat) : Y.good (X.data i) = true := by
  have hs := EndS.data_in ok i
  unfold EndS.good
  have h1 : rightB (X.data i) = true := by
    unfold rightB
    have e1 : (X.data i).e = 1 := hx
    have e2 : (X.data i).k = 1 := rfl
    rw [e1, e2, decide_eq_true hs]
    rfl
  have h2 : (X.data i).e = Y.e := by rw [hy]; exact hx
  rw [h1, decide_eq_true h2]
  rfl
theorem good_ack {X Y : EndS} (hx : X.e = 1) (hy : Y.e = 1) : Y.good X.ack = true := by
  unfold EndS.good
  have h1 : rightB X.ack = true := by
    unfold rightB
    have e1 : X.ack.e = 1 := hx
    have e2 : X.ack.k = 2 := rfl
    rw [e1, e2]
    rfl
  have h2 : X.ack.e = Y.e := by rw [hy]; exact hx
  rw [h1, decide_eq_true h2]
  rfl

/-- what a good frame's answer does to how many wait -/
theorem take_l {Y : EndS} {f : Fr} (hg : Y.good f = true) : (Y.take f).l = Y.l.drop (Y.gone f.a) ∧ (Y.take f).out = Y.out - Y.gone f.a ∧ (Y.take f).owes = (if f.k = 2 then Y.owes else true) := by
  unfold EndS.take
  rw [if_pos hg]
  by_cases h2 : f.k = 2
  · rw [if_pos h2, if_pos h2]
    unfold EndS.drop
    exact ⟨rfl, rfl, rfl⟩
  · rw [if_neg h2, if_neg h2]
    unfold EndS.drop
    exact ⟨rfl, rfl, rfl⟩

/-- what a row of frames, each with the answer h, leaves -/
structure Fed (fn h c n : Nat) (X Y : EndS) (s g : List ByteArray) (O : List Fr) (s' g' : List ByteArray) (O' : List Fr) : Prop where
  pair : Pair fn X Y s g O s' g' O'
  e : Y.e = 1
  lo : c ≤ g.length
  hi : g.length ≤ n

theorem gone_h {fn : Nat} {X Y : EndS} {s g s' g' : List ByteArray} {O O' : List Fr} (H : Pair fn X Y s g O s' g' O') {fa : Nat} (hfa : fa = (fn + g'.length) % 18446744073709551616) : Y.gone fa = g'.length - (s'.length - Y.l.length) := by
  have h2 := H.two
  have hle := h2.le
  have hfew := h2.few
  exact gone_of H.okY h2.nr hfa (by omega) h2.high

/-- all bodies from the i-th on come -/
theorem feed_datas {fn : Nat} {X0 X : EndS} {s s' g' : List ByteArray} {O O' : List Fr} (hx : X0.e = 1) (ok0 : X0.Ok) (c : Nat) (hc : c = s.length - X0.l.length) (hcs : X0.l.length ≤ s.length)
    (hfirst : X0.first = (fn + c) % 18446744073709551616) (hl : X0.l = s.drop c) (hwant : X0.want = (fn + g'.length) % 18446744073709551616) :
    ∀ (n i : Nat) (Y : EndS) (g : List ByteArray), i + n ≤ X0.l.length → (∀ j, i ≤ j → j < i + n → X0.data j ∈ O) → Pair fn X Y s g O s' g' O' → Y.e = 1 → c + i ≤ g.length → g.length ≤ c + i + n →
      ∃ Y2 g2, feed Y g (X0.datas i n) = (Y2, g2) ∧ Pair fn X Y2 s g2 O s' g' O' ∧ Y2.e = 1 ∧ g2.length = c + i + n ∧ (n = 0 ∨ (Y2.l.length = s'.length - g'.length ∧ Y2.owes = true)) ∧ (n = 0 → Y2 = Y) ∧ (Y.out = 0 → Y2.out = 0)
  | 0, i, Y, g, _, _, H, he, h1, h2 => ⟨Y, g, rfl, H, he, by omega, .inl rfl, fun _ => rfl, id⟩
  | n + 1, i, Y, g, hn, hO, H, he, h1, h2 => by
    have hf := hO i (Nat.le_refl _) (by omega)
    have hg := good_data hx he ok0 i
    have hT := H.take hf
    have hfew := H.one.few
    have hwa := H.one.wa
    have hq : (X0.data i).q = (fn + (c + i)) % 18446744073709551616 := by
      show (X0.first + i) % 18446744073709551616 = _
      rw [hfirst]
      omega
    have hgle := H.one.gle
    obtain ⟨tl, to, tow⟩ := take_l hg
    have hgone : Y.gone (X0.data i).a = g'.length - (s'.length - Y.l.length) := gone_h H hwant
    have hle2 := H.two.le
    have hlow2 := H.two.low
    have hhigh2 := H.two.high
    have hgle2 := H.two.gle
    have hel := H.okY.el
    have htlen : (Y.take (X0.data i)).l.length = s'.length - g'.length := by
      rw [tl, hgone, List.length_drop]
      omega
    have hte : (Y.take (X0.data i)).e = 1 := ((EndS.take_e Y (X0.data i)).1).trans he
    have htold : Y.told (X0.data i) = decide (c + i = g.length) := by
      unfold EndS.told
      rw [hg, show decide ((X0.data i).k ≠ 2) = true from rfl]
      simp only [Bool.true_and]
      refine decide_eq_decide.2 ?_
      rw [hq, hwa]
      omega
    have hlen : c + (i + 1) ≤ (if Y.told (X0.data i) = true then g ++ [(X0.data i).b] else g).length ∧ (if Y.told (X0.data i) = true then g ++ [(X0.data i).b] else g).length ≤ c + (i + 1) + n := by
      by_cases h9 : c + i = g.length
      · rw [htold, decide_eq_true h9, if_pos rfl, List.length_append, List.length_singleton]
        omega
      · rw [htold, decide_eq_false h9, if_neg (by decide)]
        omega
    obtain ⟨Y2, g2, e2, H2, he2, hl2, hr2, hz2, ho2⟩ := feed_datas hx ok0 c hc hcs hfirst hl hwant n (i + 1) (Y.take (X0.data i)) _ (by omega) (fun j j1 j2 => hO j (by omega) (by omega)) hT hte hlen.1 hlen.2
    have hout : Y.out = 0 → (Y.take (X0.data i)).out = 0 := fun h0 => by rw [to]; omega
    refine ⟨Y2, g2, e2, H2, he2, by omega, .inr ?_, fun h => (by omega), fun h0 => ho2 (hout h0)⟩
    rcases hr2 with h0 | h0
    · rw [hz2 h0, htlen, tow]
      exact ⟨rfl, rfl⟩
    · exact h0

/-- what goes out of one end comes to the other one -/
theorem half_step {fn : Nat} {X Y : EndS} {s g s' g' : List ByteArray} {O O' : List Fr} (H : Pair fn X Y s g O s' g' O') (hx : X.e = 1) (hy : Y.e = 1) (h0 : X.out = 0) :
    ∃ Y2 g2, feed Y g X.frames = (Y2, g2) ∧ Pair fn X.outS Y2 s g2 (O ++ X.frames) s' g' O' ∧ Y2.e = 1 ∧ g2.length = s.length - X.l.length + min X.win X.l.length ∧
      ((X.l = [] ∧ X.owes = false ∧ Y2 = Y) ∨ (Y2.l.length = s'.length - g'.length ∧ Y2.owes = (Y.owes || !decide (X.l = [])))) ∧ (Y.out = 0 → Y2.out = 0) := by
  have ok := H.okX
  have hw1 := ok.win1
  have h1 := H.one
  have hle := h1.le
  have hlow := h1.low
  have hhigh := h1.high
  have hew := ok.ew
  have hel := ok.el
  have HO := H.out
  have hnil : X.l = [] ↔ X.l.length = 0 := ⟨fun h => by rw [h]; rfl, List.eq_nil_of_length_eq_zero⟩
  by_cases hz : X.l.length = 0
  · have hl0 := hnil.2 hz
    have htop : X.top ≤ X.out := by unfold EndS.top; omega
    cases how : X.owes
    · have hfr : X.frames = [] := by unfold EndS.frames; rw [if_pos htop, how]; rfl
      rw [hfr] at HO ⊢
      exact ⟨Y, g, rfl, HO, hy, by omega, .inl ⟨hl0, rfl, rfl⟩, id⟩
    · have hfr : X.frames = [X.ack] := by unfold EndS.frames; rw [if_pos htop, how]; rfl
      have hg := good_ack (X := X) (Y := Y) hx hy
      have hT := HO.take (f := X.ack) (by rw [hfr]; simp)
      have ht : Y.told X.ack = false := by unfold EndS.told; rw [show decide (X.ack.k ≠ 2) = false from rfl]; simp
      rw [ht, if_neg (by decide)] at hT
      obtain ⟨tl, to, tow⟩ := take_l hg
      have hgone : Y.gone X.ack.a = g'.length - (s'.length - Y.l.length) := gone_h H H.two.wa
      have hle2 := H.two.le
      have hlow2 := H.two.low
      have hgle2 := H.two.gle
      refine ⟨Y.take X.ack, g, ?_, hT, ((EndS.take_e Y X.ack).1).trans hy, by omega, .inr ⟨?_, ?_⟩, fun h9 => by rw [to]; omega⟩
      · rw [hfr]
        show feed (Y.take X.ack) (if Y.told X.ack = true then g ++ [X.ack.b] else g) [] = _
        rw [ht, if_neg (by decide)]
        rfl
      · rw [tl, hgone, List.length_drop]
        omega
      · rw [tow, if_pos (show X.ack.k = 2 from rfl), decide_eq_true hl0]
        simp
  · have hne : ¬ X.l = [] := fun h => hz (hnil.1 h)
    have htop : ¬ X.top ≤ X.out := by unfold EndS.top; omega
    have hfr : X.frames = X.datas 0 X.top := by unfold EndS.frames; rw [if_neg htop, h0, Nat.sub_zero]
    obtain ⟨n, hn⟩ : ∃ n, n = X.top := ⟨_, rfl⟩
    have hn2 : n = min X.win X.l.length := hn
    rw [← hn] at hfr
    have hmem : ∀ j, 0 ≤ j → j < 0 + n → X.data j ∈ O ++ X.frames := fun j _ hj => by
      rw [hfr]
      refine List.mem_append_right _ ?_
      have := EndS.datas_get X n 0 j (by omega)
      rw [Nat.zero_add] at this
      exact List.mem_of_getElem? this
    obtain ⟨Y2, g2, e2, H2, he2, hl2, hr2, hz2, ho2⟩ := feed_datas (X0 := X) (X := X.outS) hx ok (s.length - X.l.length) rfl hle h1.nr h1.l H.two.wa n 0 Y g (by omega) hmem HO hy (by omega) (by omega)
    rw [← hfr] at e2
    refine ⟨Y2, g2, e2, H2, he2, by omega, .inr ?_, ho2⟩
    rcases hr2 with h9 | h9
    · omega
    · refine ⟨h9.1, ?_⟩
      rw [h9.2, decide_eq_false hne]
      simp

/-- ticks -/
def tickN : Nat → EndS → EndS
  | 0, S => S
  | n + 1, S => tickN n S.tick
theorem tickN_succ : ∀ (n : Nat) (S : EndS), tickN (n + 1) S = (tickN n S).tick
  | 0, _ => rfl
  | n + 1, S => by rw [tickN, tickN_succ n S.tick]; rfl
theorem tick_keeps (S : EndS) : S.tick.l = S.l ∧ S.tick.owes = S.owes ∧ S.tick.e = S.e ∧ S.tick.win = S.win ∧ S.tick.wait = S.wait := by
  unfold EndS.tick
  split
  · exact ⟨rfl, rfl, rfl, rfl, rfl⟩
  · split <;> exact ⟨rfl, rfl, rfl, rfl, rfl⟩
theorem tickN_keeps : ∀ (n : Nat) (S : EndS), (tickN n S).l = S.l ∧ (tickN n S).owes = S.owes ∧ (tickN n S).e = S.e ∧ (tickN n S).win = S.win
  | 0, _ => ⟨rfl, rfl, rfl, rfl⟩
  | n + 1, S => by
    obtain ⟨h1, h2, h3, h4⟩ := tickN_keeps n S.tick
    obtain ⟨k1, k2, k3, k4, _⟩ := tick_keeps S
    exact ⟨h1.trans k1, h2.trans k2, h3.trans k3, h4.trans k4⟩
/-- behind as many ticks as it waits for, nothing is out -/
theorem tickN_out : ∀ (n : Nat) (S : EndS), S.Ok → S.wait ≤ S.age + n → (tickN n S).out = 0 ∨ S.out = 0
  | 0, S, ok, h => by have := ok.age; omega
  | n + 1, S, ok, h => by
    by_cases h0 : S.out = 0
    · exact .inr h0
    · left
      by_cases h1 : S.age + 1 = S.wait
      · have ht : S.tick = { S with age := 0, out := 0 } := by unfold EndS.tick; rw [if_neg h0, if_pos h1]
        show (tickN n S.tick).out = 0
        have stay : ∀ (m : Nat) (T : EndS), T.out = 0 → (tickN m T).out = 0 := by
          intro m
          induction m with
          | zero => intro T hT; exact hT
          | succ m ih =>
            intro T hT
            have : T.tick = T := by unfold EndS.tick; rw [if_pos hT]
            show (tickN m T.tick).out = 0
            rw [this]
            exact ih T hT
        exact stay n _ (by rw [ht])
      · have ht : S.tick = { S with age := S.age + 1 } := by unfold EndS.tick; rw [if_neg h0, if_neg h1]
        have := tickN_out n S.tick ok.tick (by rw [ht]; show S.wait ≤ S.age + 1 + n; omega)
        rcases this with h9 | h9
        · exact h9
        · rw [ht] at h9
          exact absurd h9 h0
theorem tickN_zero (n : Nat) (S : EndS) (h : S.out = 0) : (tickN n S).out = 0 := by
  induction n generalizing S with
  | zero => exact h
  | succ n ih =>
    have : S.tick = S := by unfold EndS.tick; rw [if_pos h]
    show (tickN n S.tick).out = 0
    rw [this]
    exact ih S h
theorem tick100 (S : EndS) (ok : S.Ok) : (tickN 100 S).out = 0 := by
  rcases tickN_out 100 S ok (by have := ok.wait100; omega) with h | h
  · exact h
  · exact tickN_zero 100 S h
theorem Pair.ticks {fn : Nat} {X Y : EndS} {s g s' g' : List ByteArray} {O O' : List Fr} (H : Pair fn X Y s g O s' g' O') : ∀ n : Nat, Pair fn (tickN n X) (tickN n Y) s g O s' g' O'
  | 0 => H
  | n + 1 => (H.tick.swap.tick.swap).ticks n

/-- how far they are behind so many rounds -/
def Far (i : Nat) (X Y : EndS) (s' g' : List ByteArray) : Prop :=
  X.l.length ≤ 64 - i ∧ (i = 0 ∧ Y.l.length ≤ 64 ∨ (s'.length - g'.length ≤ 64 - i ∧ (Y.l = [] ∨ X.owes = true))) ∧ (66 ≤ i → Y.l = [])

/-- a round: ticks, what goes one way, what goes the other one -/
theorem round_far {fn : Nat} {X Y : EndS} {s g s' g' : List ByteArray} {O O' : List Fr} {i : Nat} (H : Pair fn X Y s g O s' g' O') (hx : X.e = 1) (hy : Y.e = 1) (hf : Far i X Y s' g') :
    ∃ Y1 g1 X2 g2 O1 O2, feed (tickN 100 Y) g (tickN 100 X).frames = (Y1, g1) ∧ feed (tickN 100 X).outS g' Y1.frames = (X2, g2) ∧ Pair fn X2 Y1.outS s g1 O1 s' g2 O2 ∧ X2.e = 1 ∧ Y1.outS.e = 1 ∧ Far (i + 1) X2 Y1.outS s' g2 := by
  have HT := H.ticks 100
  have ox := tick100 X H.okX
  have oy := tick100 Y H.okY
  obtain ⟨tx1, tx2, tx3, tx4⟩ := tickN_keeps 100 X
  obtain ⟨ty1, ty2, ty3, ty4⟩ := tickN_keeps 100 Y
  obtain ⟨f1, f2, f3⟩ := hf
  rw [← tx1] at f1
  rw [← ty1] at f2 f3
  rw [← tx2] at f2
  have hx' := tx3.trans hx
  have hy' := ty3.trans hy
  generalize tickN 100 X = A at *
  generalize tickN 100 Y = B at *
  clear H hx hy tx1 tx2 tx3 tx4 ty1 ty2 ty3 ty4
  obtain ⟨Y1, g1, e1, H1, he1, hl1, hr1, ho1⟩ := half_step HT hx' hy' ox
  obtain ⟨X2, g2, e2, H2, he2, hl2, hr2, _⟩ := half_step H1.swap he1 hx' (ho1 oy)
  have aw := HT.okX.win1
  have yw := H1.okY.win1
  have hA := HT.one.le
  have hB := HT.two.le
  have hBl := HT.two.low
  have hBg := HT.two.gle
  have hY1 := H1.two.le
  have nilA : A.l = [] ↔ A.l.length = 0 := ⟨fun h => by rw [h]; rfl, List.eq_nil_of_length_eq_zero⟩
  have nilB : B.l = [] ↔ B.l.length = 0 := ⟨fun h => by rw [h]; rfl, List.eq_nil_of_length_eq_zero⟩
  have nilY : Y1.l = [] ↔ Y1.l.length = 0 := ⟨fun h => by rw [h]; rfl, List.eq_nil_of_length_eq_zero⟩
  have outl : A.outS.l = A.l := rfl
  have outo : A.outS.owes = false := rfl
  have outY : Y1.outS.l = Y1.l := rfl
  -- how many of the other one's wait between the halves
  have hmid : (Y1.l.length = B.l.length ∧ A.l = [] ∧ A.owes = false) ∨ Y1.l.length = s'.length - g'.length := by
    rcases hr1 with ⟨h1, h2, h3⟩ | ⟨h1, _⟩
    · exact .inl ⟨by rw [h3], h1, h2⟩
    · exact .inr h1
  have hlen : Y1.l.length ≤ 64 - i := by
    rcases f2 with ⟨h0, h9⟩ | ⟨h9, h8⟩
    · rcases hmid with ⟨h1, _⟩ | h1 <;> omega
    · rcases hmid with ⟨h1, _, h2⟩ | h1
      · rcases h8 with h8 | h8
        · rw [nilB] at h8; omega
        · rw [h8] at h2; cases h2
      · omega
  have hX2 : X2.l.length = A.l.length - min A.win A.l.length := by
    rcases hr2 with ⟨h1, h2, h3⟩ | ⟨h1, _⟩
    · rw [h3, outl]
      rcases hr1 with ⟨k1, _, _⟩ | ⟨_, k2⟩
      · rw [nilA] at k1; omega
      · rw [h2] at k2
        have : A.l = [] := by
          by_cases h9 : A.l = []
          · exact h9
          · rw [decide_eq_false h9] at k2; simp at k2
        rw [nilA] at this
        omega
    · rw [h1, hl1]; omega
  refine ⟨Y1, g1, X2, g2, _, _, e1, e2, H2.swap, he2, he1, ⟨by omega, .inr ⟨?_, ?_⟩, fun h66 => ?_⟩⟩
  · rw [hl2]; omega
  · rw [outY]
    rcases hr2 with ⟨h1, _, _⟩ | ⟨_, h2⟩
    · exact .inl h1
    · by_cases h9 : Y1.l = []
      · exact .inl h9
      · right
        rw [h2, decide_eq_false h9]
        simp
  · rw [outY, nilY]
    have : 64 - i = 0 := by omega
    omega

/-- behind all rounds all came -/
theorem all_came {fn : Nat} {X Y : EndS} {s g s' g' : List ByteArray} {O O' : List Fr} (H : Pair fn X Y s g O s' g' O') (hf : Far 66 X Y s' g') : g = s ∧ g' = s' ∧ X.l.length = 0 ∧ Y.l.length = 0 := by
  obtain ⟨h1, h2, h3⟩ := hf
  have hY := h3 (Nat.le_refl _)
  rcases h2 with ⟨h0, _⟩ | ⟨h4, _⟩
  · omega
  have a1 := H.one.low
  have a2 := H.one.gle
  have a3 := H.one.le
  have b2 := H.two.gle
  have e1 : g.length = s.length := by omega
  have e2 : g'.length = s'.length := by omega
  refine ⟨?_, ?_, by omega, by rw [hY]; rfl⟩
  · rw [H.one.pre, e1, List.take_length]
  · rw [H.two.pre, e2, List.take_length]
end Go.Proofs.Ytefkjclkondmeaa
