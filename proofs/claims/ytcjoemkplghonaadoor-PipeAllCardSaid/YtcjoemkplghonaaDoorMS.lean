/- An act on a pipe, whatever it is. -/
import Derived.Test.YtcjoemkplghonaaDoorI8
import Derived.Test.YtcjoemkplghonaaDoorI9
import Derived.Test.YtcjoemkplghonaaDoorIA
import Derived.Test.YtcjoemkplghonaaDoorIB
namespace Go.Proofs.YtcjoemkplghonaaDoor
open Go.RowKit

/-- what an act does: the pipe, what went to each side (0, 1), what each side sent (2, 3); false: bytes come that are a frame, and never went -/
def playM (P : PipeS) (L : Nat → List ByteArray) (y : Act10) : PipeS × (Nat → List ByteArray) × Bool :=
  if PipeS.side y.sd = false then (P, L, true)
  else if y.k = 0 then (P.send y.sd y.s, if P.sendE y.sd y.s = 0 then updA L (2 + y.sd.toNat) (L (2 + y.sd.toNat) ++ [y.s]) else L, true)
  else if y.k = 1 then (P.go y.sd, updA L (1 - y.sd.toNat) (L (1 - y.sd.toNat) ++ ((P.go y.sd).net.f y.sd (1 - y.sd)).drop (((P.go y.sd).net.f y.sd (1 - y.sd)).length - P.goN y.sd)), true)
  else if y.k = 2 then (P.tick y.sd, L, true)
  else if y.k = 3 then (if (P.isF y.sd y.n && !mem (L y.sd.toNat) (P.look y.sd y.n)) = true then (P, L, false) else (P.come y.sd y.n, L, true))
  else if y.k = 4 then (P.lose y.sd y.n, L, true)
  else if y.k = 5 then (P.double y.sd y.n, L, true)
  else (P.flip y.sd y.n y.x, L, true)

/-- no more than so many went -/
theorem goN_le {P : PipeS} (s o : Int) (h : PipeS.side s = true) (ho : 1 - s = o) : P.goN s ≤ ((P.go s).net.f s o).length := by
  subst ho
  unfold PipeS.goN PipeS.go
  rw [if_pos h, if_pos h]
  obtain ⟨m, h1, h2, _⟩ := goes_row (a := s) (b := 1 - s) (P.end' s).frames P.net
  show _ ≤ ((goes P.net s (1 - s) (P.end' s).frames).1.f s (1 - s)).length
  rw [h1, ← h2, List.length_append, List.length_map]
  exact Nat.le_add_left _ _

theorem play_any (w0 wB w : World) (Kp : Nat → Prop) (hs : Std w0) (p : Nat) (P : PipeS) (L : Nat → List ByteArray) (x : Nat → SV) (F : Nat → Nat → Prop) (h : Wt w0 wB Kp w p P x L F) (y : Act10)
    (hb : y.s.size ≤ 1000) (hx : -9223372036854775808 ≤ y.x ∧ y.x ≤ 9223372036854775807) (hL : ∀ i, i < 4 → (L i).length ≤ 100000) (hg : ∀ s, (P.got s).length ≤ 1000000) :
    Calls Tryd.prog 11 #[.pointer (some ⟨p, 0, none⟩), y.v, .agg (two2 x 0), .agg (two2 x 2)] w (PlayTo w0 wB Kp p (playM P L y).1 (playM P L y).2.1 (playM P L y).2.2) := by
  obtain ⟨k, sd, n, ax, ab⟩ := y
  unfold Act10.v playM
  dsimp only at hb hx ⊢
  have hsz : ∀ s, (P.look s n).size ≤ 1000 := fun s => NetS.look_short h.e.ok.net (1 - s) s n
  by_cases h0 : sd = 0
  · subst h0
    rw [if_neg (show ¬ PipeS.side 0 = false by decide)]
    by_cases k0 : k = 0
    · subst k0
      rw [if_pos rfl]
      by_cases hE : P.sendE 0 ab = 0
      · rw [if_pos hE]
        exact iplay_sent0 w0 wB w Kp hs p P L x F h n ax ab hb hE hL
      · rw [if_neg hE]
        exact iplay_full0 w0 wB w Kp hs p P L x F h n ax ab hb hE
    rw [if_neg k0]
    by_cases k1 : k = 1
    · subst k1
      rw [if_pos rfl]
      exact iplay_go0 w0 wB w Kp hs p P L x F h n ax ab _ rfl _ rfl _ rfl (goN_le 0 1 (by decide) rfl) (hL 1 (by decide))
    rw [if_neg k1]
    by_cases k2 : k = 2
    · subst k2
      rw [if_pos rfl]
      exact iplay_tick0 w0 wB w Kp hs p P L x F h n ax ab
    rw [if_neg k2]
    by_cases k3 : k = 3
    · subst k3
      rw [if_pos rfl]
      cases ht : P.there 0 n
      · have hf : P.isF 0 n = false := by unfold PipeS.isF; rw [ht, Bool.false_and]
        rw [hf, Bool.false_and, if_neg (by decide)]
        exact iplay_none0 w0 wB w Kp hs p P L x F h n ax ab (hsz 0) (hg 0) ht
      · by_cases hw : whatN (P.look 0 n) = 0
        · have hf : P.isF 0 n = true := by unfold PipeS.isF; rw [ht, decide_eq_true hw]; rfl
          rw [hf, Bool.true_and]
          cases hm : mem (L (0 : Int).toNat) (P.look 0 n)
          · rw [if_pos (by decide)]
            exact iplay_bad0 w0 wB w Kp hs p P L x F h n ax ab (hsz 0) (hg 0) ht hw hm
          · rw [if_neg (by decide)]
            exact iplay_in0 w0 wB w Kp hs p P L x F h n ax ab (hsz 0) (hg 0) ht hw hm
        · have hf : P.isF 0 n = false := by unfold PipeS.isF; rw [decide_eq_false hw, Bool.and_false]
          rw [hf, Bool.false_and, if_neg (by decide)]
          exact iplay_err0 w0 wB w Kp hs p P L x F h n ax ab (hsz 0) (hg 0) ht hw
    rw [if_neg k3]
    by_cases k4 : k = 4
    · subst k4
      rw [if_pos rfl]
      exact iplay_lose0 w0 wB w Kp hs p P L x F h n ax ab
    rw [if_neg k4]
    by_cases k5 : k = 5
    · subst k5
      rw [if_pos rfl]
      exact iplay_double0 w0 wB w Kp hs p P L x F h n ax ab
    rw [if_neg k5]
    exact iplay_flip0 w0 wB w Kp hs p P L x F h n ax ab k ⟨k0, k1, k2, k3, k4, k5⟩ hx
  by_cases h1 : sd = 1
  · subst h1
    rw [if_neg (show ¬ PipeS.side 1 = false by decide)]
    by_cases k0 : k = 0
    · subst k0
      rw [if_pos rfl]
      by_cases hE : P.sendE 1 ab = 0
      · rw [if_pos hE]
        exact iplay_sent1 w0 wB w Kp hs p P L x F h n ax ab hb hE hL
      · rw [if_neg hE]
        exact iplay_full1 w0 wB w Kp hs p P L x F h n ax ab hb hE
    rw [if_neg k0]
    by_cases k1 : k = 1
    · subst k1
      rw [if_pos rfl]
      exact iplay_go1 w0 wB w Kp hs p P L x F h n ax ab _ rfl _ rfl _ rfl (goN_le 1 0 (by decide) rfl) (hL 0 (by decide))
    rw [if_neg k1]
    by_cases k2 : k = 2
    · subst k2
      rw [if_pos rfl]
      exact iplay_tick1 w0 wB w Kp hs p P L x F h n ax ab
    rw [if_neg k2]
    by_cases k3 : k = 3
    · subst k3
      rw [if_pos rfl]
      cases ht : P.there 1 n
      · have hf : P.isF 1 n = false := by unfold PipeS.isF; rw [ht, Bool.false_and]
        rw [hf, Bool.false_and, if_neg (by decide)]
        exact iplay_none1 w0 wB w Kp hs p P L x F h n ax ab (hsz 1) (hg 1) ht
      · by_cases hw : whatN (P.look 1 n) = 0
        · have hf : P.isF 1 n = true := by unfold PipeS.isF; rw [ht, decide_eq_true hw]; rfl
          rw [hf, Bool.true_and]
          cases hm : mem (L (1 : Int).toNat) (P.look 1 n)
          · rw [if_pos (by decide)]
            exact iplay_bad1 w0 wB w Kp hs p P L x F h n ax ab (hsz 1) (hg 1) ht hw hm
          · rw [if_neg (by decide)]
            exact iplay_in1 w0 wB w Kp hs p P L x F h n ax ab (hsz 1) (hg 1) ht hw hm
        · have hf : P.isF 1 n = false := by unfold PipeS.isF; rw [decide_eq_false hw, Bool.and_false]
          rw [hf, Bool.false_and, if_neg (by decide)]
          exact iplay_err1 w0 wB w Kp hs p P L x F h n ax ab (hsz 1) (hg 1) ht hw
    rw [if_neg k3]
    by_cases k4 : k = 4
    · subst k4
      rw [if_pos rfl]
      exact iplay_lose1 w0 wB w Kp hs p P L x F h n ax ab
    rw [if_neg k4]
    by_cases k5 : k = 5
    · subst k5
      rw [if_pos rfl]
      exact iplay_double1 w0 wB w Kp hs p P L x F h n ax ab
    rw [if_neg k5]
    exact iplay_flip1 w0 wB w Kp hs p P L x F h n ax ab k ⟨k0, k1, k2, k3, k4, k5⟩ hx
  have hsd : PipeS.side sd = false := by unfold PipeS.side; rw [decide_eq_false h0, decide_eq_false h1]; rfl
  rw [if_pos hsd]
  exact iplay_out w0 wB w Kp hs p P L x F h n ax ab k sd h0 h1
end Go.Proofs.YtcjoemkplghonaaDoor

/- Whatever is done with a pipe: what is told is a beginning of what was sent; plain mathematics. -/
namespace Go.Proofs.YtcjoemkplghonaaDoor
open Go.RowKit

set_option linter.unusedVariables false
/-- what went are frames that were let out -/
def Went (O : List Fr) (w : List ByteArray) : Prop := ∀ b ∈ w, ∃ f ∈ O, rightB f = true ∧ b = putF f
theorem Went.mono {O O' : List Fr} {w : List ByteArray} (h : Went O w) (ho : ∀ f ∈ O, f ∈ O') : Went O' w := fun b hb => by
  obtain ⟨f, h1, h2⟩ := h b hb
  exact ⟨f, ho f h1, h2⟩

structure Inv (fn : Nat) (E : Int) (R K : Nat) (P : PipeS) (L : Nat → List ByteArray) (O0 O1 : List Fr) : Prop where
  pair : Pair fn P.e0 P.e1 (L 2) P.g1 O0 (L 3) P.g0 O1
  f0 : FitO O0
  f1 : FitO O1
  w1 : Went O0 (L 1)
  w0 : Went O1 (L 0)
  s0 : (L 2).length ≤ K
  s1 : (L 3).length ≤ K
  n0 : (L 0).length ≤ 8 * K
  n1 : (L 1).length ≤ 8 * K
  ep0 : P.e0.e = E
  ep1 : P.e1.e = E
  rm : P.net.room = R

theorem goes_le {a b : Int} : ∀ (l : List Fr) (N : NetS), (goes N a b l).2 ≤ l.length
  | [], _ => Nat.le_refl _
  | f :: l, N => by
    have h := goes_le (a := a) (b := b) l (sendF N a b f)
    have h2 : wentF N a b f ≤ 1 := by unfold wentF; split <;> decide
    show wentF N a b f + (goes (sendF N a b f) a b l).2 ≤ (f :: l).length
    rw [List.length_cons]
    omega
/-- what went at last -/
theorem went_last {a b : Int} (N : NetS) (l : List Fr) (hl : l.length ≤ 8) : Went l (((goes N a b l).1.f a b).drop (((goes N a b l).1.f a b).length - (goes N a b l).2)) ∧ (((goes N a b l).1.f a b).drop (((goes N a b l).1.f a b).length - (goes N a b l).2)).length ≤ 8 := by
  obtain ⟨m, h1, h2, h3⟩ := goes_row (a := a) (b := b) l N
  have h4 := goes_le (a := a) (b := b) l N
  have e : ((goes N a b l).1.f a b).drop (((goes N a b l).1.f a b).length - (goes N a b l).2) = m.map putF := by
    rw [h1, ← h2, List.length_append, List.length_map, Nat.add_sub_cancel]
    exact List.drop_left
  rw [e]
  refine ⟨fun x hx => ?_, by rw [List.length_map]; omega⟩
  obtain ⟨f, hf, rfl⟩ := List.mem_map.1 hx
  exact ⟨f, (h3 f hf).1, (h3 f hf).2, rfl⟩

section
variable {fn R K : Nat} {E : Int} {P : PipeS} {L : Nat → List ByteArray} {O0 O1 : List Fr}
theorem Inv.more (h : Inv fn E R K P L O0 O1) {K' : Nat} (hK : K ≤ K') : Inv fn E R K' P L O0 O1 :=
  { h with s0 := Nat.le_trans h.s0 hK, s1 := Nat.le_trans h.s1 hK, n0 := Nat.le_trans h.n0 (Nat.mul_le_mul_left 8 hK), n1 := Nat.le_trans h.n1 (Nat.mul_le_mul_left 8 hK) }
theorem Inv.net (h : Inv fn E R K P L O0 O1) (N : NetS) (hN : N.room = P.net.room) : Inv fn E R K { P with net := N } L O0 O1 := { h with rm := hN.trans h.rm }
theorem Inv.new (fn : Nat) (hf : fn < 18446744073709551616) (e : Int) (win qn wait room : Int) : Inv fn e (NetS.new 2 room).room 0 (PipeS.new e fn win qn wait room) (fun _ => []) [] [] where
  pair := ⟨Half.new fn hf e win qn wait, Half.new fn hf e win qn wait, EndS.new_ok hf, EndS.new_ok hf⟩
  f0 := fun f hf => by cases hf
  f1 := fun f hf => by cases hf
  w1 := fun f hf => by cases hf
  w0 := fun f hf => by cases hf
  s0 := Nat.le_refl _
  s1 := Nat.le_refl _
  n0 := Nat.le_refl _
  n1 := Nat.le_refl _
  ep0 := rfl
  ep1 := rfl
  rm := rfl
theorem FitO.append {O O' : List Fr} (h : FitO O) (h' : FitO O') : FitO (O ++ O') := fun f hf => by
  rcases List.mem_append.1 hf with hf | hf
  · exact h f hf
  · exact h' f hf
theorem frOf_of {O : List Fr} (h : FitO O) {b : ByteArray} {w : List ByteArray} (hw : Went O w) (hb : b ∈ w) : ∃ f ∈ O, frOf b = f := by
  obtain ⟨f, h1, h2, rfl⟩ := hw b hb
  obtain ⟨h3, h4, _⟩ := h f h1
  exact ⟨f, h1, (frOf_put h4 h3 h2).2⟩

theorem Inv.come0 (h : Inv fn E R K P L O0 O1) (n : Int) (hp : (P.isF 0 n && !mem (L 0) (P.look 0 n)) = false) : Inv fn E R K (P.come 0 n) L O0 O1 := by
  unfold PipeS.come
  cases hf : P.isF 0 n
  · rw [if_neg (by decide)]
    exact h.net _ (P.net.deliver_room _ _ _).1
  · rw [hf, Bool.true_and, Bool.not_eq_false'] at hp
    rw [if_pos rfl]
    obtain ⟨f, hfo, hfe⟩ := frOf_of h.f1 h.w0 (mem_iff.1 hp)
    rw [hfe]
    have ht := (h.pair.swap.take hfo).swap
    exact { pair := ht, f0 := h.f0, f1 := h.f1, w1 := h.w1, w0 := h.w0, s0 := h.s0, s1 := h.s1, n0 := h.n0, n1 := h.n1, ep0 := ((EndS.take_e P.e0 f).1).trans h.ep0, ep1 := h.ep1, rm := ((P.net.deliver_room _ _ _).1).trans h.rm }
theorem Inv.come1 (h : Inv fn E R K P L O0 O1) (n : Int) (hp : (P.isF 1 n && !mem (L 1) (P.look 1 n)) = false) : Inv fn E R K (P.come 1 n) L O0 O1 := by
  unfold PipeS.come
  cases hf : P.isF 1 n
  · rw [if_neg (by decide)]
    exact h.net _ (P.net.deliver_room _ _ _).1
  · rw [hf, Bool.true_and, Bool.not_eq_false'] at hp
    rw [if_pos rfl]
    obtain ⟨f, hfo, hfe⟩ := frOf_of h.f0 h.w1 (mem_iff.1 hp)
    rw [hfe]
    have ht := h.pair.take hfo
    exact { pair := ht, f0 := h.f0, f1 := h.f1, w1 := h.w1, w0 := h.w0, s0 := h.s0, s1 := h.s1, n0 := h.n0, n1 := h.n1, ep1 := ((EndS.take_e P.e1 f).1).trans h.ep1, ep0 := h.ep0, rm := ((P.net.deliver_room _ _ _).1).trans h.rm }

theorem Inv.step (h : Inv fn E R K P L O0 O1) (hK : K ≤ 900) (y : Act10) (hr : (playM P L y).2.2 = true) : ∃ O0' O1', Inv fn E R (K + 1) (playM P L y).1 (playM P L y).2.1 O0' O1' := by
  obtain ⟨k, sd, n, ax, ab⟩ := y
  unfold playM at *
  dsimp only at *
  by_cases h0 : sd = 0
  · subst h0
    rw [if_neg (show ¬ PipeS.side 0 = false by decide)] at *
    by_cases k0 : k = 0
    · subst k0
      rw [if_pos rfl]
      by_cases hE : P.sendE 0 ab = 0
      · rw [if_pos hE]
        refine ⟨O0, O1, ?_⟩
        exact { pair := h.pair.send ab hE (by have := h.s0; omega), f0 := h.f0, f1 := h.f1, w1 := h.w1, w0 := h.w0, s0 := by show (L 2 ++ [ab]).length ≤ _; rw [List.length_append, List.length_singleton]; have := h.s0; omega, s1 := Nat.le_succ_of_le h.s1, n0 := Nat.le_trans h.n0 (by omega), n1 := Nat.le_trans h.n1 (by omega), ep0 := ((EndS.send_e P.e0 ab).1).trans h.ep0, ep1 := h.ep1, rm := h.rm }
      · rw [if_neg hE]
        refine ⟨O0, O1, ?_⟩
        have h1 := h.more (Nat.le_succ K)
        exact { h1 with pair := h.pair.refused ab hE, ep0 := ((EndS.send_e P.e0 ab).1).trans h.ep0 }
    rw [if_neg k0] at *
    by_cases k1 : k = 1
    · subst k1
      rw [if_pos rfl]
      obtain ⟨hw, hl⟩ := went_last (a := 0) (b := 1) P.net P.e0.frames (EndS.frames_le h.pair.okX)
      refine ⟨O0 ++ P.e0.frames, O1, ?_⟩
      have hw2 : Went (O0 ++ P.e0.frames) (L 1 ++ ((P.go 0).net.f 0 (1 - 0)).drop (((P.go 0).net.f 0 (1 - 0)).length - P.goN 0)) := fun b hb => by
        rcases List.mem_append.1 hb with hb | hb
        · exact (h.w1.mono fun f hf => List.mem_append_left _ hf) b hb
        · exact (hw.mono fun f hf => List.mem_append_right _ hf) b hb
      have hl2 : (L 1 ++ ((P.go 0).net.f 0 (1 - 0)).drop (((P.go 0).net.f 0 (1 - 0)).length - P.goN 0)).length ≤ 8 * (K + 1) := by
        rw [List.length_append]
        have h1 : (((P.go 0).net.f 0 (1 - 0)).drop (((P.go 0).net.f 0 (1 - 0)).length - P.goN 0)).length ≤ 8 := hl
        have := h.n1
        omega
      exact { pair := h.pair.out, f0 := h.f0.append (FitO.frames h.pair.okX), f1 := h.f1, w1 := hw2, w0 := h.w0, s0 := Nat.le_succ_of_le h.s0, s1 := Nat.le_succ_of_le h.s1, n0 := Nat.le_trans h.n0 (by omega), n1 := hl2, ep0 := h.ep0, ep1 := h.ep1, rm := ((goes_room 0 1 P.e0.frames P.net).1).trans h.rm }
    rw [if_neg k1] at *
    by_cases k2 : k = 2
    · subst k2
      rw [if_pos rfl]
      have h1 := h.more (Nat.le_succ K)
      exact ⟨O0, O1, { h1 with pair := h.pair.tick, ep0 := ((EndS.tick_e P.e0).1).trans h.ep0 }⟩
    rw [if_neg k2] at *
    by_cases k3 : k = 3
    · subst k3
      rw [if_pos rfl] at *
      cases hp : (P.isF 0 n && !mem (L (0 : Int).toNat) (P.look 0 n))
      · rw [if_neg (by decide)]
        exact ⟨O0, O1, (h.come0 n hp).more (Nat.le_succ K)⟩
      · rw [hp, if_pos rfl] at hr
        cases hr
    rw [if_neg k3] at *
    have h1 := h.more (Nat.le_succ K)
    by_cases k4 : k = 4
    · subst k4
      rw [if_pos rfl]
      exact ⟨O0, O1, h1.net _ (P.net.deliver_room _ _ _).1⟩
    rw [if_neg k4] at *
    by_cases k5 : k = 5
    · subst k5
      rw [if_pos rfl]
      exact ⟨O0, O1, h1.net _ (P.net.double_room _ _ _).1⟩
    rw [if_neg k5] at *
    exact ⟨O0, O1, h1.net _ (P.net.flip_room _ _ _ _).1⟩
  by_cases h1 : sd = 1
  · subst h1
    rw [if_neg (show ¬ PipeS.side 1 = false by decide)] at *
    by_cases k0 : k = 0
    · subst k0
      rw [if_pos rfl]
      by_cases hE : P.sendE 1 ab = 0
      · rw [if_pos hE]
        refine ⟨O0, O1, ?_⟩
        exact { pair := (h.pair.swap.send ab hE (by have := h.s1; omega)).swap, f0 := h.f0, f1 := h.f1, w1 := h.w1, w0 := h.w0, s1 := by show (L 3 ++ [ab]).length ≤ _; rw [List.length_append, List.length_singleton]; have := h.s1; omega, s0 := Nat.le_succ_of_le h.s0, n0 := Nat.le_trans h.n0 (by omega), n1 := Nat.le_trans h.n1 (by omega), ep1 := ((EndS.send_e P.e1 ab).1).trans h.ep1, ep0 := h.ep0, rm := h.rm }
      · rw [if_neg hE]
        refine ⟨O0, O1, ?_⟩
        have h1 := h.more (Nat.le_succ K)
        exact { h1 with pair := (h.pair.swap.refused ab hE).swap, ep1 := ((EndS.send_e P.e1 ab).1).trans h.ep1 }
    rw [if_neg k0] at *
    by_cases k1 : k = 1
    · subst k1
      rw [if_pos rfl]
      obtain ⟨hw, hl⟩ := went_last (a := 1) (b := 0) P.net P.e1.frames (EndS.frames_le h.pair.okY)
      refine ⟨O0, O1 ++ P.e1.frames, ?_⟩
      have hw2 : Went (O1 ++ P.e1.frames) (L 0 ++ ((P.go 1).net.f 1 (1 - 1)).drop (((P.go 1).net.f 1 (1 - 1)).length - P.goN 1)) := fun b hb => by
        rcases List.mem_append.1 hb with hb | hb
        · exact (h.w0.mono fun f hf => List.mem_append_left _ hf) b hb
        · exact (hw.mono fun f hf => List.mem_append_right _ hf) b hb
      have hl2 : (L 0 ++ ((P.go 1).net.f 1 (1 - 1)).drop (((P.go 1).net.f 1 (1 - 1)).length - P.goN 1)).length ≤ 8 * (K + 1) := by
        rw [List.length_append]
        have h1 : (((P.go 1).net.f 1 (1 - 1)).drop (((P.go 1).net.f 1 (1 - 1)).length - P.goN 1)).length ≤ 8 := hl
        have := h.n0
        omega
      exact { pair := h.pair.swap.out.swap, f0 := h.f0, f1 := h.f1.append (FitO.frames h.pair.okY), w1 := h.w1, w0 := hw2, s0 := Nat.le_succ_of_le h.s0, s1 := Nat.le_succ_of_le h.s1, n0 := hl2, n1 := Nat.le_trans h.n1 (by omega), ep0 := h.ep0, ep1 := h.ep1, rm := ((goes_room 1 0 P.e1.frames P.net).1).trans h.rm }
    rw [if_neg k1] at *
    by_cases k2 : k = 2
    · subst k2
      rw [if_pos rfl]
      have h1 := h.more (Nat.le_succ K)
      exact ⟨O0, O1, { h1 with pair := h.pair.swap.tick.swap, ep1 := ((EndS.tick_e P.e1).1).trans h.ep1 }⟩
    rw [if_neg k2] at *
    by_cases k3 : k = 3
    · subst k3
      rw [if_pos rfl] at *
      cases hp : (P.isF 1 n && !mem (L (1 : Int).toNat) (P.look 1 n))
      · rw [if_neg (by decide)]
        exact ⟨O0, O1, (h.come1 n hp).more (Nat.le_succ K)⟩
      · rw [hp, if_pos rfl] at hr
        cases hr
    rw [if_neg k3] at *
    have h1 := h.more (Nat.le_succ K)
    by_cases k4 : k = 4
    · subst k4
      rw [if_pos rfl]
      exact ⟨O0, O1, h1.net _ (P.net.deliver_room _ _ _).1⟩
    rw [if_neg k4] at *
    by_cases k5 : k = 5
    · subst k5
      rw [if_pos rfl]
      exact ⟨O0, O1, h1.net _ (P.net.double_room _ _ _).1⟩
    rw [if_neg k5] at *
    exact ⟨O0, O1, h1.net _ (P.net.flip_room _ _ _ _).1⟩
  have hsd : PipeS.side sd = false := by unfold PipeS.side; rw [decide_eq_false h0, decide_eq_false h1]; rfl
  rw [if_pos hsd]
  exact ⟨O0, O1, h.more (Nat.le_succ K)⟩
end
end Go.Proofs.YtcjoemkplghonaaDoor

/- A game over a pipe: the pipe, its two boxes (what went, what was sent), and what is known of them. -/
namespace Go.Proofs.YtcjoemkplghonaaDoor
open Go.RowKit

set_option linter.unusedVariables false
/-- the boxes' blocks -/
def Bx2 (n : Nat) : Nat → Prop := fun k => k = n ∨ k = n + 1

structure GmA (w wr : World) (n p fn : Nat) (E : Int) (R K : Nat) (P : PipeS) (x : Nat → SV) (L : Nat → List ByteArray) (F : Nat → Nat → Prop) (O0 O1 : List Fr) : Prop where
  wt : Wt w wr (Bx2 n) wr p P x L F
  inv : Inv fn E R K P L O0 O1
  b0 : wr.heap[n]? = some (.cells (two2 x 0) 29 (0, 0))
  b1 : wr.heap[n + 1]? = some (.cells (two2 x 2) 29 (0, 0))
  low : w.heap.size ≤ n
def Gm (w wr : World) (n p fn : Nat) (E : Int) (R K : Nat) : Prop := ∃ P x L F O0 O1, GmA w wr n p fn E R K P x L F O0 O1
section
variable {w wr wr' : World} {n p fn R K : Nat} {E : Int} {P : PipeS} {x : Nat → SV} {L : Nat → List ByteArray} {F : Nat → Nat → Prop} {O0 O1 : List Fr}
theorem GmA.two (h : GmA w wr n p fn E R K P x L F O0 O1) : ∀ k, Bx2 n k → k < wr.heap.size := fun k hk => by
  have := blk_lt h.b1
  rcases hk with rfl | rfl <;> omega
theorem GmA.more (h : GmA w wr n p fn E R K P x L F O0 O1) (e : Ext wr wr') : GmA w wr' n p fn E R K P x L F O0 O1 :=
  ⟨(h.wt.more e).base (Bx2 n) (fun k hk => Nat.lt_of_lt_of_le (h.two k hk) e.size) h.wt.nk, h.inv, blk_later h.b0 e, blk_later h.b1 e, h.low⟩
theorem Gm.more (h : Gm w wr n p fn E R K) (e : Ext wr wr') : Gm w wr' n p fn E R K := by
  obtain ⟨P, x, L, F, O0, O1, h⟩ := h
  exact ⟨P, x, L, F, O0, O1, h.more e⟩
/-- the pipe is asked -/
theorem GmA.moves (h : GmA w wr n p fn E R K P x L F O0 O1) {P' : PipeS} {G : Nat → Prop} (m : PAt wr' p P' G) (o : Off (F 0) wr wr') (g : Grows (F 0) G wr) (hi : Inv fn E R K P' L O0 O1) : GmA w wr' n p fn E R K P' x L (upd F 0 G) O0 O1 := by
  have h1 := h.wt.moves m o g
  have hb : ∀ k, Bx2 n k → ¬ F 0 k := fun k hk hf => h.wt.nk 0 k hf hk
  exact ⟨h1.base (Bx2 n) (fun k hk => Nat.lt_of_lt_of_le (h.two k hk) o.size) h1.nk, hi, o.blk h.b0 (hb n (.inl rfl)), o.blk h.b1 (hb (n + 1) (.inr rfl)), h.low⟩
/-- behind an act: the boxes are stored to -/
theorem Gm.of {w1 w3 W4 : World} (h : Wt w w1 (Bx2 n) w3 p P x L F) (hi : Inv fn E R K P L O0 O1) (hn : w.heap.size ≤ n) (o : Off (Bx2 n) w3 W4)
    (b0 : W4.heap[n]? = some (.cells (two2 x 0) 29 (0, 0))) (b1 : W4.heap[n + 1]? = some (.cells (two2 x 2) 29 (0, 0))) : Gm w W4 n p fn E R K := by
  have h1 := h.base (fun _ => False) (fun _ hf => hf.elim) (fun _ _ _ hf => hf)
  have h2 := h1.box o (fun i k hk hf => h.nk i k hf hk) (fun _ _ hf => hf) (fun k hk => by rcases hk with rfl | rfl <;> omega)
  have hl : ∀ k, Bx2 n k → k < W4.heap.size := fun k hk => by
    have := blk_lt b1
    rcases hk with rfl | rfl <;> omega
  exact ⟨P, x, L, F, O0, O1, h2.base (Bx2 n) hl h.nk, hi, b0, b1, hn⟩
theorem Gm.ext (h : Gm w wr n p fn E R K) : Ext w wr := by
  obtain ⟨P, x, L, F, O0, O1, h⟩ := h
  exact h.wt.ext
end
theorem Inv.few {fn R K : Nat} {E : Int} {P : PipeS} {L : Nat → List ByteArray} {O0 O1 : List Fr} (h : Inv fn E R K P L O0 O1) (hK : K ≤ 900) : ∀ i, i < 4 → (L i).length ≤ 100000 := by
  intro i hi
  obtain rfl | rfl | rfl | rfl : i = 0 ∨ i = 1 ∨ i = 2 ∨ i = 3 := by omega
  · have := h.n0; omega
  · have := h.n1; omega
  · have := h.s0; omega
  · have := h.s1; omega
theorem Inv.got {fn R K : Nat} {E : Int} {P : PipeS} {L : Nat → List ByteArray} {O0 O1 : List Fr} (h : Inv fn E R K P L O0 O1) (hK : K ≤ 900) : ∀ s, (P.got s).length ≤ 1000000 := by
  intro s
  have h1 := h.pair.one.gle
  have h2 := h.pair.two.gle
  have h3 := h.s0
  have h4 := h.s1
  unfold PipeS.got
  split
  · omega
  · split
    · omega
    · exact Nat.zero_le _
theorem below_set2 {w W : World} {g : Nat} (x : Ext w W) (hg : w.heap.size ≤ g) (u0 u1 : Value) : Ext w (set2 W g u0 u1) := Below.trans x ((off_set2 W g u0 u1).below (fun k hk => by rw [hk]; exact hg) x.size)
/-- two boxes are stored to -/
theorem off_two2 (W : World) (n : Nat) (u0 u1 u2 u3 : Value) : Off (Bx2 n) W (set2 (set2 W n u0 u1) (n + 1) u2 u3) :=
  ((off_set2 W n u0 u1).mono fun k hk => .inl hk).trans ((off_set2 (set2 W n u0 u1) (n + 1) u2 u3).mono fun k hk => .inr hk) (Grows.refl _ _)
theorem two2_blks {W : World} {n : Nat} {v0 v1 v2 v3 : Value} {t : TypeId} (h0 : W.heap[n]? = some (.cells #[v0, v1] t (0, 0))) (h1 : W.heap[n + 1]? = some (.cells #[v2, v3] t (0, 0))) (u0 u1 u2 u3 : Value) :
    (set2 (set2 W n u0 u1) (n + 1) u2 u3).heap[n]? = some (.cells #[u0, u1] t (0, 0)) ∧ (set2 (set2 W n u0 u1) (n + 1) u2 u3).heap[n + 1]? = some (.cells #[u2, u3] t (0, 0)) := by
  have o := off_set2 (set2 W n u0 u1) (n + 1) u2 u3
  refine ⟨o.blk (set2_blk h0 u0 u1) (by omega), set2_blk ((off_set2 W n u0 u1).blk h1 (by omega)) u2 u3⟩

/-- what begins a row of texts, cut out of it -/
theorem sl_begin {w : World} {vb : Value} {xs ys : List ByteArray} (hy : Sl w vb ys) (h1 : xs.length ≤ ys.length) (h2 : xs = ys.take xs.length) : ∃ ao c, vb = .slice ao ys.length c ∧ xs.length ≤ c ∧ Sl w (.slice ao xs.length c) xs := by
  rcases hy.parts with ⟨h0, ao, c, hv⟩ | ⟨b, off, c, hv, q1, q2, q3, q4, q5⟩
  · obtain ⟨ao', c', hv'⟩ := hy.len
    have hx0 : xs.length = 0 := by rw [h0] at h1; simpa using h1
    refine ⟨ao', c', hv', by omega, ?_⟩
    have : xs = [] := List.eq_nil_of_length_eq_zero hx0
    rw [h0] at hv'
    rw [hv', h0] at hy
    rw [this]
    exact hy
  · refine ⟨some ⟨b, off, none⟩, c, hv, by omega, ?_⟩
    rw [hv] at hy
    have := hy.cut 0 xs.length (by omega) (by omega)
    rw [Nat.zero_mul, Nat.add_zero, Nat.sub_zero, List.drop_zero, ← h2] at this
    exact this
/-- a game begins -/
theorem Gm.new {w w1 w2 : World} {n p fn : Nat} {e : Int} {win qn wait room : Int} {F : Nat → Prop} (hf : fn < 18446744073709551616) (h : Pipe1 w w1 p (PipeS.new e fn win qn wait room) F) (x : Ext w1 w2) (hn : w1.heap.size ≤ n)
    (b0 : w2.heap[n]? = some (.cells zz 29 (0, 0))) (b1 : w2.heap[n + 1]? = some (.cells zz 29 (0, 0))) : Gm w w2 n p fn e (NetS.new 2 room).room 0 := by
  have hF := h.1.low
  have hs := x.size
  have hb := blk_lt b1
  have ow : ∀ i, i < 4 → As w w2 (fun _ => False) SV.nil ([] : List ByteArray) := fun i _ => ⟨Ow.nil _ _, fun b hb => by cases hb⟩
  refine ⟨_, fun _ => SV.nil, fun _ => [], fun i => if i = 0 then F else fun _ => False, [], [], ⟨⟨?_, ?_, ?_, ?_, ?_, Nat.le_refl _, ?_, ?_⟩, Inv.new fn hf e win qn wait room, b0, b1, Nat.le_trans h.2.2.size hn⟩⟩
  · exact (h.ext x).1
  · exact fun i hi => ow i hi
  · intro i j k h1 h2
    by_cases hi : i = 0
    · by_cases hj : j = 0
      · rw [hi, hj]
      · rw [if_neg hj] at h2; exact h2.elim
    · rw [if_neg hi] at h1; exact h1.elim
  · intro i k hk
    by_cases hi : i = 0
    · rw [if_pos hi] at hk
      exact ⟨h.2.1 k hk, Nat.lt_of_lt_of_le (hF k hk) hs⟩
    · rw [if_neg hi] at hk; exact hk.elim
  · exact Ext.trans h.2.2 x
  · exact fun k hk => ⟨by rcases hk with rfl | rfl <;> omega, rfl⟩
  · intro i k hk
    by_cases hi : i = 0
    · rw [if_pos hi] at hk
      have := hF k hk
      intro hb
      rcases hb with rfl | rfl <;> omega
    · rw [if_neg hi] at hk; exact hk.elim
end Go.Proofs.YtcjoemkplghonaaDoor
