/- A pipe in a call's own memory; what the chapter's example fixes. -/
import Derived.Test.YtcjoemkplghonaaDoorMP
import Derived.BigGuard
namespace Go.Proofs.YtcjoemkplghonaaDoor
open Go.RowKit

/-- the program's pipe in a call's own memory -/
def Pipe1 (w0 w : World) (p : Nat) (P : PipeS) (F : Nat → Prop) : Prop := PAt w p P F ∧ (∀ k, F k → w0.heap.size ≤ k) ∧ Ext w0 w
section
variable {w0 w w' : World} {p : Nat} {P P' : PipeS} {F F' : Nat → Prop}
theorem Pipe1.step (h : Pipe1 w0 w p P F) (n : PAt w' p P' F') (o : Off F w w') (g : Grows F F' w) : Pipe1 w0 w' p P' F' := by
  refine ⟨n, fun k hk => ?_, Below.trans h.2.2 (o.below h.2.1 h.2.2.size)⟩
  rcases g k hk with h1 | h1
  · exact h.2.1 k h1
  · exact Nat.le_trans h.2.2.size h1
theorem Pipe1.ext (h : Pipe1 w0 w p P F) (x : Ext w w') : Pipe1 w0 w' p P F :=
  ⟨h.1.off (Off.of_ext (F := fun _ => False) x) (fun _ _ hf => hf), h.2.1, Ext.trans h.2.2 x⟩
end


def bA : ByteArray := ⟨#[97]⟩
def q0 : PipeS := PipeS.new 1 0 4 9 2 9
def q1 : PipeS := q0.send 0 bA
def q2 : PipeS := q1.go 0
def q3 : PipeS := q2.flip 1 0 50
def q4 : PipeS := q3.come 1 0
theorem q1e : q0.sendE 0 bA = 0 := by kernel_rfl
theorem q2n : q1.goN 0 = 1 := by kernel_rfl
theorem q3f : q2.net.canF (1 - 1) 1 0 = true := by kernel_rfl
def fA : Fr := ⟨1, 1, 0, 0, bA⟩
theorem q3look : q3.look 1 0 = turned (putF fA) 50 := by kernel_rfl
theorem q4y : q3.comeY 1 0 = false := by
  unfold PipeS.comeY PipeS.isF
  rw [q3look, decide_eq_false (turned_no (by decide) (by decide) (by decide) 50), Bool.and_false, Bool.false_and]
theorem q4b : q3.comeB 1 0 = ⟨#[]⟩ := by unfold PipeS.comeB; rw [q4y, if_neg (by decide)]
def q5 : PipeS := q4.tick 0
def q6 : PipeS := q5.tick 0
def q7 : PipeS := q6.go 0
def q8 : PipeS := q7.come 1 0
theorem q7n : q6.goN 0 = 1 := by decide +kernel
theorem q8y : q7.comeY 1 0 = true := by decide +kernel
theorem q8b : q7.comeB 1 0 = bA := by decide +kernel
theorem q8t : q8.there 1 0 = false := by kernel_rfl
theorem q8g : q8.got 1 = [bA] := by kernel_rfl
theorem q8w : q8.waiting 0 = 1 := by kernel_rfl
theorem q8s : q8.sendE 2 bA = 100 := by kernel_rfl
theorem q9s : q8.send 2 bA = q8 := PipeS.send_no (by decide) _
theorem q8l : q8.lose 1 0 = q8 := PipeS.lose_no q8t
theorem q8d : q8.double 1 0 = q8 := PipeS.double_no q8t
theorem q8c : q8.net.canD (1 - 1) 1 0 = false := by kernel_rfl

set_option maxRecDepth 100000 in
set_option maxHeartbeats 8000000 in
theorem awake_any (w : World) (hs : Std w) : Calls Tryd.prog 9 #[] w (GivesB w (.bool true)) := by
  have HS := Lib.hid hs
  clear hs
  go_enter Tryd.func9, Tryd.ntmps9
  try dsimp only [List.append]
  go_wp2_with fail
  refine (iNew (w := w) HS.out 1 0 4 9 2 9 (by decide)).mono ?_
  rintro e w0 ⟨p, F0, rfl, n, o, g⟩
  have N0 : Hid (Pipe1 w w0 p q0 F0) := Lib.hid ⟨n, o, g⟩
  clear n o g
  go_wp2_with fail
  refine (iSend N0.out.1 0 bA (by decide)).mono ?_
  rintro e w1 ⟨F1, rfl, n, o, g⟩
  have N1 : Hid (Pipe1 w w1 p q1 F1) := Lib.hid (N0.out.step n o g)
  rw [q1e]
  clear n o g N0
  go_wp2_with fail
  refine (iGo (HS.out.ext N1.out.2.2) N1.out.1 0).mono ?_
  rintro e w2 ⟨F2, rfl, n, o, g⟩
  have N2 : Hid (Pipe1 w w2 p q2 F2) := Lib.hid (N1.out.step n o g)
  rw [q2n]
  clear n o g N1
  go_wp2_with fail
  refine (iFlip N2.out.1 1 0 50 (by decide) (by decide)).mono ?_
  rintro e w3 ⟨F3, rfl, n, o, g⟩
  have N3 : Hid (Pipe1 w w3 p q3 F3) := Lib.hid (N2.out.step n o g)
  rw [q3f]
  clear n o g N2
  go_wp2_with fail
  refine (iCome (HS.out.ext N3.out.2.2) N3.out.1 1 0 (by decide)).mono ?_
  rintro e w4 ⟨F4, rfl, n, o, g⟩
  have N4 : Hid (Pipe1 w w4 p q4 F4) := Lib.hid (N3.out.step n o g)
  rw [q4b, q4y]
  clear n o g N3
  go_wp2_with fail
  refine (iTick N4.out.1 0).mono ?_
  rintro e w5 ⟨F5, rfl, n, o, g⟩
  have N5 : Hid (Pipe1 w w5 p q5 F5) := Lib.hid (N4.out.step n o g)
  clear n o g N4
  go_wp2_with fail
  refine (iTick N5.out.1 0).mono ?_
  rintro e w6 ⟨F6, rfl, n, o, g⟩
  have N6 : Hid (Pipe1 w w6 p q6 F6) := Lib.hid (N5.out.step n o g)
  clear n o g N5
  go_wp2_with fail
  refine (iGo (HS.out.ext N6.out.2.2) N6.out.1 0).mono ?_
  rintro e w7 ⟨F7, rfl, n, o, g⟩
  have N7 : Hid (Pipe1 w w7 p q7 F7) := Lib.hid (N6.out.step n o g)
  rw [q7n]
  clear n o g N6
  go_wp2_with fail
  refine (iCome (HS.out.ext N7.out.2.2) N7.out.1 1 0 (by decide)).mono ?_
  rintro e w8 ⟨F8, rfl, n, o, g⟩
  have N8 : Hid (Pipe1 w w8 p q8 F8) := Lib.hid (N7.out.step n o g)
  rw [q8b, q8y]
  clear n o g N7
  go_wp2_with fail
  refine (iLook N8.out.1 1 0).mono ?_
  rintro e w9 ⟨F9, rfl, n, o, g⟩
  have N9 : Hid (Pipe1 w w9 p q8 F9) := Lib.hid (N8.out.step n o g)
  rw [q8t]
  clear n o g N8
  go_wp2_with fail
  refine (iGot N9.out.1 1 (by decide)).mono ?_
  rintro e w10 ⟨ao, nn, c, F10, rfl, hl, hb, n, o, g⟩
  have N10 : Hid (Pipe1 w w10 p q8 F10) := Lib.hid (N9.out.step n o g)
  rw [q8g] at hl hb
  clear n o g N9
  obtain ⟨lb, lo, lc, hv, hlc, _, hlb, _, hla⟩ := (hl.texts).resolve_left (by rintro ⟨h0, _⟩; cases h0)
  simp only [Value.slice.injEq] at hv
  obtain ⟨rfl, rfl, rfl⟩ := hv
  have hlc2 : (1 : Int) ≤ (c : Int) := by simp at hlc; omega
  have L10 : Hid (Sa F10 w10 (.slice (some ⟨lb, lo, none⟩) [bA].length c) [bA]) := Lib.hid ⟨hl, hb.imp id fun h1 b e => (h1 b e).2⟩
  have k0 := hla 0 (by decide)
  clear hl hb hla hlc hlb
  rw [Nat.add_zero] at k0
  have hA : bA.toList = [97] := by rw [ByteArray.toList_eq]; rfl
  go_wp2_with fail
  refine (iWaiting N10.out.1 0).mono ?_
  rintro e w11 ⟨F11, rfl, n, o, g⟩
  have N11 : Hid (Pipe1 w w11 p q8 F11) := Lib.hid (N10.out.step n o g)
  rw [q8w]
  clear n o g N10
  go_wp2_with fail
  refine (iSend N11.out.1 2 bA (by decide)).mono ?_
  rintro e w12 ⟨F12, rfl, n, o, g⟩
  rw [q9s] at n
  have N12 : Hid (Pipe1 w w12 p q8 F12) := Lib.hid (N11.out.step n o g)
  rw [q8s]
  clear n o g N11
  go_wp2_with fail
  refine (iLose N12.out.1 1 0).mono ?_
  rintro e w13 ⟨F13, rfl, n, o, g⟩
  rw [q8l] at n
  have N13 : Hid (Pipe1 w w13 p q8 F13) := Lib.hid (N12.out.step n o g)
  rw [q8t]
  clear n o g N12
  go_wp2_with fail
  refine (iDouble N13.out.1 1 0).mono ?_
  rintro e w14 ⟨F14, rfl, n, o, g⟩
  rw [q8d] at n
  have N14 : Hid (Pipe1 w w14 p q8 F14) := Lib.hid (N13.out.step n o g)
  rw [q8c]
  clear n o g N13
  go_wp2
  go_ret
  exact ⟨rfl, N14.out.2.2⟩
end Go.Proofs.YtcjoemkplghonaaDoor

/- PipeSides: of a side that isn't there nothing is told, and nothing happens. -/
namespace Go.Proofs.YtcjoemkplghonaaDoor
open Go.RowKit

namespace PipeS
theorem got_setE (P : PipeS) (s t : Int) (E : EndS) : (P.setE s E).got t = P.got t := by
  unfold setE
  split
  · rfl
  · split <;> rfl
theorem got_send (P : PipeS) (s t : Int) (b : ByteArray) : (P.send s b).got t = P.got t := got_setE _ _ _ _
theorem got_tick (P : PipeS) (s t : Int) : (P.tick s).got t = P.got t := got_setE _ _ _ _
theorem got_go (P : PipeS) (s t : Int) : (P.go s).got t = P.got t := by
  unfold go
  split
  · exact got_setE P s t _
  · rfl
theorem got_net (P : PipeS) (N : NetS) (t : Int) : ({ P with net := N } : PipeS).got t = P.got t := rfl
end PipeS

/-- nothing is told: an empty slice -/
theorem gots_nil {w' : World} {ao : Option Addr} {n c : Nat} (h : Sl w' (.slice ao n c) ([] : List ByteArray)) : n = 0 := by
  obtain ⟨ao', c', hv⟩ := h.len
  simp only [Value.slice.injEq] at hv
  exact hv.2.1

set_option maxRecDepth 100000 in
set_option maxHeartbeats 8000000 in
theorem sides_any (w : World) (hs : Std w) (e : Int) (first : Nat) (hf : first < 18446744073709551616) (win qn wait room s k : Int) (hk : -9223372036854775808 ≤ k ∧ k ≤ 9223372036854775807) (b : ByteArray) :
    Calls Tryd.prog 6 #[.int .i64 e, .int .u64 (first : Int), .int .i64 win, .int .i64 qn, .int .i64 wait, .int .i64 room, .int .i64 s, .int .i64 k, .string b] w (GivesB w (.bool true)) := by
  have HS := Lib.hid hs
  have HK := Lib.hid hk
  clear hs hk
  go_enter Tryd.func6, Tryd.ntmps6
  try dsimp only [List.append]
  go_wp2_with fail
  refine (iNew (w := w) HS.out e first win qn wait room hf).mono ?_
  rintro ev w0 ⟨p, F0, rfl, n, o, g⟩
  have N0 : Hid (Pipe1 w w0 p (PipeS.new e first win qn wait room) F0) := Lib.hid ⟨n, o, g⟩
  clear n o g
  go_wp2_with fail
  refine (awake_any w0 (HS.out.ext N0.out.2.2)).mono ?_
  rintro ev w1 ⟨rfl, x1⟩
  have N1 := Lib.hid (N0.out.ext x1)
  have X1 := Lib.hid x1
  clear x1 N0
  have early : ∀ W, Ext w1 W → Calls Tryd.prog 9 #[] W (GivesB W (.bool true)) := fun W x => awake_any W (HS.out.ext (Ext.trans N1.out.2.2 x))
  have EARLY := Lib.hid early
  clear early
  by_cases h0 : s = 0
  · have t0 : (s == 0) = true := beq_iff_eq.2 h0
    clear h0
    go_wp2_with fail
    refine (EARLY.out _ (Ext.refl _)).mono ?_
    rintro ev w2 ⟨rfl, x2⟩
    have X2 := Lib.hid (Ext.trans N1.out.2.2 x2)
    clear x2
    go_wp2
    go_ret
    exact ⟨rfl, X2.out⟩
  have t0 : (s == 0) = false := beq_eq_false_iff_ne.2 h0
  by_cases h1 : s = 1
  · have t1 : (s == 1) = true := beq_iff_eq.2 h1
    clear h0 h1
    go_wp2_with fail
    refine (EARLY.out _ (Ext.refl _)).mono ?_
    rintro ev w2 ⟨rfl, x2⟩
    have X2 := Lib.hid (Ext.trans N1.out.2.2 x2)
    clear x2
    go_wp2
    go_ret
    exact ⟨rfl, X2.out⟩
  have t1 : (s == 1) = false := beq_eq_false_iff_ne.2 h1
  by_cases h2 : (70 : Int) < (b.size : Int)
  · clear h0 h1
    go_wp2_with fail
    refine (EARLY.out _ (Ext.refl _)).mono ?_
    rintro ev w2 ⟨rfl, x2⟩
    have X2 := Lib.hid (Ext.trans N1.out.2.2 x2)
    clear x2
    go_wp2
    go_ret
    exact ⟨rfl, X2.out⟩
  have hside : PipeS.side s = false := by unfold PipeS.side; rw [decide_eq_false h0, decide_eq_false h1]; rfl
  have HB := Lib.hid (show b.size ≤ 1000 by omega)
  clear h0 h1
  obtain ⟨P1, hP1⟩ : ∃ P1, P1 = (PipeS.new e first win qn wait room).send 0 bA := ⟨_, rfl⟩
  obtain ⟨P2, hP2⟩ : ∃ P2, P2 = P1.go 0 := ⟨_, rfl⟩
  have hg0 : P2.got 0 = [] := by rw [hP2, PipeS.got_go, hP1, PipeS.got_send]; rfl
  have cA : Hid (∃ r, Calls Tryd.prog 19 #[.pointer (some ⟨p, 0, none⟩), .int .i64 0, .string bA] w1 (MovesP p P1 F0 (.int .i64 r) w1)) := Lib.hid (by rw [hP1]; exact ⟨_, iSend N1.out.1 0 bA (by decide)⟩)
  have cB : Hid (∀ W F, Std W → PAt W p P1 F → ∃ r, Calls Tryd.prog 16 #[.pointer (some ⟨p, 0, none⟩), .int .i64 0] W (MovesP p P2 F (.int .i64 r) W)) := Lib.hid (by rw [hP2]; exact fun W F h1 h2 => ⟨_, iGo h1 h2 0⟩)
  clear hP1 hP2
  obtain ⟨r1, cA⟩ := cA.out
  replace cA := Lib.hid cA
  have e6 := PipeS.got_no (P := P2) hside
  have e7 : P2.sendE s b = 100 := by unfold PipeS.sendE; rw [hside, if_neg (by decide)]
  have e8 : P2.goN s = 0 := by unfold PipeS.goN; rw [hside, if_neg (by decide)]
  have e9 : P2.waiting s = 0 := by unfold PipeS.waiting; rw [hside, if_neg (by decide)]
  have m1 := PipeS.send_no (P := P2) hside b
  have m2 := PipeS.go_no (P := P2) hside
  have m3 := PipeS.tick_no (P := P2) hside
  replace e6 := Lib.hid e6; replace e7 := Lib.hid e7; replace e8 := Lib.hid e8; replace e9 := Lib.hid e9; replace m1 := Lib.hid m1; replace m2 := Lib.hid m2; replace m3 := Lib.hid m3; replace hside := Lib.hid hside; replace hg0 := Lib.hid hg0
  go_wp2_with fail
  refine cA.out.mono ?_
  rintro ev w2 ⟨F2, rfl, n, o, g⟩
  have N2 := Lib.hid (N1.out.step n o g)
  clear n o g cA
  go_wp2_with fail
  obtain ⟨r2, cB⟩ := cB.out _ _ (HS.out.ext N2.out.2.2) N2.out.1
  refine cB.mono ?_
  rintro ev w3 ⟨F3, rfl, n, o, g⟩
  have N3 := Lib.hid (N2.out.step n o g)
  have OK := N3.out.1.ok
  have th := Lib.hid (PipeS.there_no OK hside.out k)
  have HOK := Lib.hid OK
  clear n o g cB N2 OK
  go_wp2_with fail
  refine (iLook N3.out.1 1 0).mono ?_
  rintro ev w4 ⟨F4, rfl, n, o, g⟩
  have N4 := Lib.hid (N3.out.step n o g)
  clear n o g N3
  obtain ⟨B, hB⟩ : ∃ B, B = P2.look 1 0 := ⟨_, rfl⟩
  obtain ⟨Y, hY⟩ : ∃ Y, Y = P2.there 1 0 := ⟨_, rfl⟩
  rw [← hB, ← hY]
  have HBB := Lib.hid hB
  have HYY := Lib.hid hY
  clear hB hY
  go_wp2_with fail
  refine (iSend N4.out.1 s b HB.out).mono ?_
  rintro ev w5 ⟨F5, rfl, n, o, g⟩
  rw [m1.out] at n
  have N5 := Lib.hid (N4.out.step n o g)
  rw [e7.out]
  clear n o g N4
  go_wp2_with fail
  refine (iGo (HS.out.ext N5.out.2.2) N5.out.1 s).mono ?_
  rintro ev w6 ⟨F6, rfl, n, o, g⟩
  rw [m2.out] at n
  have N6 := Lib.hid (N5.out.step n o g)
  rw [e8.out]
  clear n o g N5
  go_wp2_with fail
  refine (iTick N6.out.1 s).mono ?_
  rintro ev w7 ⟨F7, rfl, n, o, g⟩
  rw [m3.out] at n
  have N7 := Lib.hid (N6.out.step n o g)
  clear n o g N6
  go_wp2_with fail
  refine (iCome (HS.out.ext N7.out.2.2) N7.out.1 s k (by rw [e6.out]; decide)).mono ?_
  rintro ev w8 ⟨F8, rfl, n, o, g⟩
  obtain ⟨u1, u2, u3⟩ := PipeS.come_no th.out
  rw [u1] at n
  rw [u2, u3]
  have N8 := Lib.hid (N7.out.step n o g)
  clear n o g N7 u1 u2 u3
  go_wp2_with fail
  refine (iLook N8.out.1 s k).mono ?_
  rintro ev w9 ⟨F9, rfl, n, o, g⟩
  have N9 := Lib.hid (N8.out.step n o g)
  rw [th.out]
  clear n o g N8
  go_wp2_with fail
  refine (iLose N9.out.1 s k).mono ?_
  rintro ev w10 ⟨F10, rfl, n, o, g⟩
  rw [PipeS.lose_no th.out] at n
  have N10 := Lib.hid (N9.out.step n o g)
  rw [th.out]
  clear n o g N9
  go_wp2_with fail
  refine (iDouble N10.out.1 s k).mono ?_
  rintro ev w11 ⟨F11, rfl, n, o, g⟩
  rw [PipeS.double_no th.out] at n
  have N11 := Lib.hid (N10.out.step n o g)
  rw [show P2.net.canD (1 - s) s k = false from by unfold NetS.canD; rw [show P2.net.there (1 - s) s k = false from th.out, Bool.false_and]]
  clear n o g N10
  go_wp2_with fail
  refine (iFlip N11.out.1 s k k HK.out.1 HK.out.2).mono ?_
  rintro ev w12 ⟨F12, rfl, n, o, g⟩
  rw [PipeS.flip_no th.out] at n
  have N12 := Lib.hid (N11.out.step n o g)
  rw [show P2.net.canF (1 - s) s k = false from by unfold NetS.canF; rw [show P2.net.there (1 - s) s k = false from th.out, Bool.false_and]]
  clear n o g N11
  go_wp2_with fail
  refine (iLook N12.out.1 1 0).mono ?_
  rintro ev w13 ⟨F13, rfl, n, o, g⟩
  have N13 := Lib.hid (N12.out.step n o g)
  rw [← HBB.out, ← HYY.out]
  clear n o g N12
  have hl0 : P2.got s = [] := e6.out
  have cG := iGot N13.out.1 s (by rw [hl0]; decide)
  rw [hl0] at cG
  clear hl0
  replace cG := Lib.hid cG
  go_wp2_with fail
  refine cG.out.mono ?_
  rintro ev w14 ⟨ao, nn, c, F14, rfl, hl, _, n, o, g⟩
  have hn := gots_nil hl
  subst hn
  have N14 := Lib.hid (N13.out.step n o g)
  clear n o g N13 hl cG
  go_wp2_with fail
  refine (iWaiting N14.out.1 s).mono ?_
  rintro ev w15 ⟨F15, rfl, n, o, g⟩
  have N15 := Lib.hid (N14.out.step n o g)
  rw [e9.out]
  clear n o g N14
  have hl0 : P2.got 0 = [] := hg0.out
  have cG := iGot N15.out.1 0 (by rw [hl0]; decide)
  rw [hl0] at cG
  clear hl0
  replace cG := Lib.hid cG
  go_wp2_with fail
  refine cG.out.mono ?_
  rintro ev w16 ⟨ao2, nn2, c2, F16, rfl, hl, _, n, o, g⟩
  have hn := gots_nil hl
  subst hn
  have N16 := Lib.hid (N15.out.step n o g)
  clear n o g N15 hl cG
  go_wp2
  go_ret
  exact ⟨rfl, N16.out.2.2⟩
end Go.Proofs.YtcjoemkplghonaaDoor

/- PipeTurned: a frame of which one bit is turned comes to nothing; sent again it is told. -/
namespace Go.Proofs.YtcjoemkplghonaaDoor
open Go.RowKit

namespace NetS
theorem row_one {N : NetS} {a b : Int} {x : ByteArray} (h : N.f a b = [x]) : N.there a b 0 = true ∧ N.look a b 0 = x := by
  have ht : N.there a b 0 = true := by unfold NetS.there; rw [h]; rfl
  refine ⟨ht, ?_⟩
  unfold NetS.look
  rw [ht, if_pos rfl, h]
  rfl
theorem deliver_one {N : NetS} {a b : Int} {x : ByteArray} (h : N.f a b = [x]) : (N.deliver a b 0).f a b = [] := by
  unfold NetS.deliver
  rw [(row_one h).1, if_pos rfl, h]
  simp [NetS.put]
theorem flip_one {N : NetS} {a b : Int} {x : ByteArray} (h : N.f a b = [x]) (hx : x.size ≠ 0) (bit : Int) : N.canF a b 0 = true ∧ (N.flip a b 0 bit).f a b = [turned x bit] := by
  have hc : N.canF a b 0 = true := by unfold NetS.canF; rw [(row_one h).1, (row_one h).2, decide_eq_false hx]; rfl
  refine ⟨hc, ?_⟩
  unfold NetS.flip
  rw [hc, if_pos rfl, (row_one h).2, h]
  simp [NetS.put]
end NetS
theorem goes_count {a b : Int} (l : List Fr) (N : NetS) (h2 : N.two a b = true) (hr : (N.f a b).length + l.length ≤ N.room) (hf : ∀ f ∈ l, rightB f = true) : (goes N a b l).2 = l.length := by
  obtain ⟨m, h1, h3, _⟩ := goes_row (a := a) (b := b) l N
  rw [goes_all l N h2 hr hf] at h1
  have := congrArg List.length h1
  simp only [List.length_append, List.length_map] at this
  omega

/-- the states of PipeTurned, one after the other -/
structure TurnedS (first : Nat) (b : ByteArray) (bit : Int) (T1 T2 T3 T4 T5 T6 T7 : PipeS) : Prop where
  s1 : (PipeS.new 3 first 1 1 1 1).send 1 b = T1
  r1 : (PipeS.new 3 first 1 1 1 1).sendE 1 b = 0
  s2 : T1.go 1 = T2
  r2 : T1.goN 1 = 1
  s3 : T2.flip 0 0 bit = T3
  r3 : T2.net.canF (1 - 0) 0 0 = true
  s4 : T3.come 0 0 = T4
  r4 : T3.comeY 0 0 = false
  s5 : T4.tick 1 = T5
  s6 : T5.go 1 = T6
  r6 : T5.goN 1 = 1
  s7 : T6.come 0 0 = T7
  r7 : T6.comeY 0 0 = true
  b7 : T6.comeB 0 0 = b
  g0 : T7.got 0 = [b]
  g1 : T7.got 1 = []
  h3 : T3.got 0 = []
  h6 : T6.got 0 = []

theorem turned_states (first : Nat) (hf : first < 18446744073709551616) (b : ByteArray) (hb : b.size ≤ 64) (bit : Int) : ∃ T1 T2 T3 T4 T5 T6 T7, TurnedS first b bit T1 T2 T3 T4 T5 T6 T7 := by
  obtain ⟨f, hfd⟩ : ∃ f : Fr, f = ⟨1, 3, (first + 0) % 18446744073709551616, first, b⟩ := ⟨_, rfl⟩
  have hq : f.q = first := by rw [hfd]; show (first + 0) % 18446744073709551616 = first; omega
  have ha : f.a = first := by rw [hfd]
  have hr : rightB f = true := by
    rw [hfd]
    unfold rightB
    dsimp only
    rw [decide_eq_true hb]
    rfl
  have hbb : f.b = b := by rw [hfd]
  obtain ⟨hw, hfo⟩ := frOf_put (f := f) (by omega) (by omega) hr
  have hno := turned_no (f := f) (by omega) (by omega) hr bit
  have hsz : (putF f).size ≠ 0 := by rw [putF_size hr]; omega
  have hall : ∀ g ∈ [f], rightB g = true := fun g hg => by rw [List.mem_singleton] at hg; rw [hg]; exact hr
  obtain ⟨N0, hN0⟩ : ∃ N0, N0 = NetS.new 2 1 := ⟨_, rfl⟩
  have n0 : N0.f 1 0 = [] := by rw [hN0]; rfl
  have m0 : N0.room = 1 ∧ N0.n = 2 := by rw [hN0]; exact ⟨rfl, rfl⟩
  have two : ∀ N : NetS, N.n = 2 → N.two 1 0 = true := fun N h => two_yes (by decide) (by omega) (by decide) (by omega) (by decide)
  let E0 : EndS := ⟨3, 1, 1, 1, [], first, 0, 0, first, false, 0⟩
  let A1 : EndS := ⟨3, 1, 1, 1, [b], first, 0, 0, first, false, 0⟩
  let A2 : EndS := ⟨3, 1, 1, 1, [b], first, 1, 1, first, false, 0⟩
  let A3 : EndS := ⟨3, 1, 1, 1, [b], first, 0, 1, first, false, 0⟩
  have hE : EndS.new 3 first 1 1 1 = E0 := rfl
  have hs0 : E0.sendE b = 0 := by unfold EndS.sendE; rw [if_neg (by omega), if_neg (show ¬ E0.qn ≤ E0.l.length from (show ¬ (1 : Nat) ≤ 0 by decide))]
  have hs1 : E0.send b = A1 := by unfold EndS.send; rw [if_pos hs0]; rfl
  have f1 : A1.frames = [f] := by rw [hfd]; rfl
  have o1 : A1.outS = A2 := rfl
  have t1 : A2.tick = A3 := rfl
  have f3 : A3.frames = [f] := by rw [hfd]; rfl
  have hg : E0.told f = true := by
    unfold EndS.told EndS.good
    rw [hr, decide_eq_true (show f.e = E0.e by rw [hfd]), decide_eq_true (show f.k ≠ 2 by rw [hfd]; exact (show (1 : Int) ≠ 2 by decide)), decide_eq_true (show f.q = E0.want from hq)]
    rfl
  obtain ⟨N1, hN1⟩ : ∃ N1, N1 = (goes N0 1 0 [f]).1 := ⟨_, rfl⟩
  have n1 : N1.f 1 0 = [putF f] := by rw [hN1, goes_all [f] N0 (two _ m0.2) (by rw [n0, m0.1]; exact Nat.le_refl 1) hall, n0]; rfl
  have m1 : N1.room = 1 ∧ N1.n = 2 := by rw [hN1]; have := goes_room 1 0 [f] N0; exact ⟨this.1.trans m0.1, this.2.trans m0.2⟩
  have c1 : (goes N0 1 0 [f]).2 = 1 := goes_count [f] N0 (two _ m0.2) (by rw [n0, m0.1]; exact Nat.le_refl 1) hall
  obtain ⟨hc, n2⟩ := NetS.flip_one n1 hsz bit
  have m2 := N1.flip_room 1 0 0 bit
  obtain ⟨N2, hN2⟩ : ∃ N2, N2 = N1.flip 1 0 0 bit := ⟨_, rfl⟩
  rw [← hN2] at n2 m2
  have l2 := NetS.row_one n2
  have n3 := NetS.deliver_one n2
  have m3 := N2.deliver_room 1 0 0
  obtain ⟨N3, hN3⟩ : ∃ N3, N3 = N2.deliver 1 0 0 := ⟨_, rfl⟩
  rw [← hN3] at n3 m3
  have k3 : N3.room = 1 ∧ N3.n = 2 := ⟨m3.1.trans (m2.1.trans m1.1), m3.2.trans (m2.2.trans m1.2)⟩
  obtain ⟨N4, hN4⟩ : ∃ N4, N4 = (goes N3 1 0 [f]).1 := ⟨_, rfl⟩
  have n4 : N4.f 1 0 = [putF f] := by rw [hN4, goes_all [f] N3 (two _ k3.2) (by rw [n3, k3.1]; exact Nat.le_refl 1) hall, n3]; rfl
  have c4 : (goes N3 1 0 [f]).2 = 1 := goes_count [f] N3 (two _ k3.2) (by rw [n3, k3.1]; exact Nat.le_refl 1) hall
  have l4 := NetS.row_one n4
  have i3 : (⟨E0, A2, [], [], N2⟩ : PipeS).isF 0 0 = false := by
    unfold PipeS.isF PipeS.look PipeS.there
    rw [show (1 - 0 : Int) = 1 from rfl]
    rw [show (⟨E0, A2, [], [], N2⟩ : PipeS).net = N2 from rfl, l2.2, decide_eq_false hno, Bool.and_false]
  have i6 : (⟨E0, A3.outS, [], [], N4⟩ : PipeS).isF 0 0 = true := by
    unfold PipeS.isF PipeS.look PipeS.there
    rw [show (1 - 0 : Int) = 1 from rfl]
    rw [show (⟨E0, A3.outS, [], [], N4⟩ : PipeS).net = N4 from rfl, l4.1, l4.2, decide_eq_true hw]
    rfl
  have lk6 : (⟨E0, A3.outS, [], [], N4⟩ : PipeS).look 0 0 = putF f := l4.2
  have y6 : (⟨E0, A3.outS, [], [], N4⟩ : PipeS).comeY 0 0 = true := by
    unfold PipeS.comeY
    rw [i6, lk6, hfo, Bool.true_and]
    exact hg
  refine ⟨⟨E0, A1, [], [], N0⟩, ⟨E0, A2, [], [], N1⟩, ⟨E0, A2, [], [], N2⟩, ⟨E0, A2, [], [], N3⟩, ⟨E0, A3, [], [], N3⟩, ⟨E0, A3.outS, [], [], N4⟩, (⟨E0, A3.outS, [], [], N4⟩ : PipeS).come 0 0, ?_⟩
  refine { s1 := ?_, r1 := hs0, s2 := ?_, r2 := ?_, s3 := ?_, r3 := hc, s4 := ?_, r4 := ?_, s5 := rfl, s6 := ?_, r6 := ?_, s7 := rfl, r7 := y6, b7 := ?_, g0 := ?_, g1 := ?_, h3 := rfl, h6 := rfl }
  · show (⟨E0, E0.send b, [], [], NetS.new 2 1⟩ : PipeS) = _
    rw [hs1, ← hN0]
  · show (⟨E0, A1.outS, [], [], (goes N0 1 0 A1.frames).1⟩ : PipeS) = _
    rw [f1, ← hN1, o1]
  · show (goes N0 1 0 A1.frames).2 = 1
    rw [f1, c1]
  · show (⟨E0, A2, [], [], N1.flip 1 0 0 bit⟩ : PipeS) = _
    rw [← hN2]
  · unfold PipeS.come
    rw [i3, if_neg (by decide)]
    show (⟨E0, A2, [], [], N2.deliver 1 0 0⟩ : PipeS) = _
    rw [← hN3]
  · unfold PipeS.comeY
    rw [i3, Bool.false_and]
  · show (⟨E0, A3.outS, [], [], (goes N3 1 0 A3.frames).1⟩ : PipeS) = _
    rw [f3, ← hN4]
  · show (goes N3 1 0 A3.frames).2 = 1
    rw [f3, c4]
  · unfold PipeS.comeB
    rw [y6, if_pos rfl, lk6, hfo, hbb]
  · unfold PipeS.come
    rw [i6, if_pos rfl, lk6, hfo]
    show (if E0.told f = true then [] ++ [f.b] else []) = [b]
    rw [hg, if_pos rfl, hbb]
    rfl
  · unfold PipeS.come
    rw [i6, if_pos rfl]
    rfl
/-- one text is told: a slice of one -/
theorem gots_len {w' : World} {ao : Option Addr} {n c : Nat} {l : List ByteArray} (h : Sl w' (.slice ao n c) l) : n = l.length := by
  obtain ⟨ao', c', hv⟩ := h.len
  simp only [Value.slice.injEq] at hv
  exact hv.2.1

set_option maxRecDepth 100000 in
set_option maxHeartbeats 8000000 in
theorem turned_any (w : World) (hs : Std w) (first : Nat) (hf : first < 18446744073709551616) (b : ByteArray) (bit : Int) (hk : -9223372036854775808 ≤ bit ∧ bit ≤ 9223372036854775807) :
    Calls Tryd.prog 5 #[.int .u64 (first : Int), .string b, .int .i64 bit] w (GivesB w (.bool true)) := by
  have HS := Lib.hid hs
  have HK := Lib.hid hk
  clear hs hk
  go_enter Tryd.func5, Tryd.ntmps5
  try dsimp only [List.append]
  go_wp2_with fail
  refine (iNew (w := w) HS.out 3 first 1 1 1 1 hf).mono ?_
  rintro ev w0 ⟨p, F0, rfl, n, o, g⟩
  have N0 : Hid (Pipe1 w w0 p (PipeS.new 3 first 1 1 1 1) F0) := Lib.hid ⟨n, o, g⟩
  clear n o g
  go_wp2_with fail
  refine (awake_any w0 (HS.out.ext N0.out.2.2)).mono ?_
  rintro ev w1 ⟨rfl, x1⟩
  have N1 := Lib.hid (N0.out.ext x1)
  clear x1 N0
  by_cases h2 : (64 : Int) < (b.size : Int)
  · go_wp2_with fail
    refine (awake_any w1 (HS.out.ext N1.out.2.2)).mono ?_
    rintro ev w2 ⟨rfl, x2⟩
    have X2 := Lib.hid (Ext.trans N1.out.2.2 x2)
    clear x2
    go_wp2
    go_ret
    exact ⟨rfl, X2.out⟩
  have hb : b.size ≤ 64 := by omega
  obtain ⟨T1, T2, T3, T4, T5, T6, T7, H⟩ := turned_states first hf b hb bit
  obtain ⟨s1, r1, s2, r2, s3, r3, s4, r4, s5, s6, r6, s7, r7, b7, g0, g1, h3, h6⟩ := H
  have cA := iSend N1.out.1 1 b (by omega)
  rw [s1, r1] at cA
  replace cA := Lib.hid cA
  have H3 := Lib.hid (And.intro h3 h6)
  replace s2 := Lib.hid s2; replace r2 := Lib.hid r2; replace s3 := Lib.hid s3; replace r3 := Lib.hid r3; replace s4 := Lib.hid s4; replace r4 := Lib.hid r4; replace s5 := Lib.hid s5
  replace s6 := Lib.hid s6; replace r6 := Lib.hid r6; replace s7 := Lib.hid s7; replace r7 := Lib.hid r7; replace b7 := Lib.hid b7; replace g0 := Lib.hid g0; replace g1 := Lib.hid g1
  clear s1 r1 h3 h6 hb
  go_wp2_with fail
  refine cA.out.mono ?_
  rintro ev w2 ⟨F2, rfl, n, o, g⟩
  have N2 := Lib.hid (N1.out.step n o g)
  clear n o g N1 cA
  go_wp2_with fail
  refine (iGo (HS.out.ext N2.out.2.2) N2.out.1 1).mono ?_
  rintro ev w3 ⟨F3, rfl, n, o, g⟩
  rw [s2.out] at n
  rw [r2.out]
  have N3 := Lib.hid (N2.out.step n o g)
  clear n o g N2
  go_wp2_with fail
  refine (iFlip N3.out.1 0 0 bit HK.out.1 HK.out.2).mono ?_
  rintro ev w4 ⟨F4, rfl, n, o, g⟩
  rw [s3.out] at n
  rw [r3.out]
  have N4 := Lib.hid (N3.out.step n o g)
  clear n o g N3
  go_wp2_with fail
  refine (iCome (HS.out.ext N4.out.2.2) N4.out.1 0 0 (by rw [H3.out.1]; decide)).mono ?_
  rintro ev w5 ⟨F5, rfl, n, o, g⟩
  rw [s4.out] at n
  rw [r4.out]
  have N5 := Lib.hid (N4.out.step n o g)
  clear n o g N4
  go_wp2_with fail
  refine (iTick N5.out.1 1).mono ?_
  rintro ev w6 ⟨F6, rfl, n, o, g⟩
  rw [s5.out] at n
  have N6 := Lib.hid (N5.out.step n o g)
  clear n o g N5
  go_wp2_with fail
  refine (iGo (HS.out.ext N6.out.2.2) N6.out.1 1).mono ?_
  rintro ev w7 ⟨F7, rfl, n, o, g⟩
  rw [s6.out] at n
  rw [r6.out]
  have N7 := Lib.hid (N6.out.step n o g)
  clear n o g N6
  go_wp2_with fail
  refine (iCome (HS.out.ext N7.out.2.2) N7.out.1 0 0 (by rw [H3.out.2]; decide)).mono ?_
  rintro ev w8 ⟨F8, rfl, n, o, g⟩
  rw [s7.out] at n
  rw [r7.out, b7.out]
  have N8 := Lib.hid (N7.out.step n o g)
  clear n o g N7
  have l0 : (T7.got 0).length = 1 := by rw [g0.out]; rfl
  have l1 : (T7.got 1).length = 0 := by rw [g1.out]; rfl
  have cG := Lib.hid (iGot N8.out.1 0 (by omega))
  replace l0 := Lib.hid l0
  replace l1 := Lib.hid l1
  go_wp2_with fail
  refine cG.out.mono ?_
  rintro ev w9 ⟨ao, nn, c, F9, rfl, hl, _, n, o, g⟩
  have hn := (gots_len hl).trans l0.out
  subst hn
  have N9 := Lib.hid (N8.out.step n o g)
  clear n o g N8 hl cG
  have cG := Lib.hid (iGot N9.out.1 1 (by have := l1.out; omega))
  go_wp2_with fail
  refine cG.out.mono ?_
  rintro ev w10 ⟨ao2, nn2, c2, F10, rfl, hl, _, n, o, g⟩
  have hn := (gots_len hl).trans l1.out
  subst hn
  have N10 := Lib.hid (N9.out.step n o g)
  clear n o g N9 hl cG
  go_wp2
  go_ret
  exact ⟨rfl, N10.out.2.2⟩
end Go.Proofs.YtcjoemkplghonaaDoor
