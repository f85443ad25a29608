/- What the chapter's example fixes. -/
import Derived.Test.YtjnnfnmapigagaaN7
namespace Go.Proofs.Ytjnnfnmapigagaa
open Go.RowKit

/-- the program's net in a call's own memory -/
def Net1 (w0 w : World) (p : Nat) (S : NetS) (F : Nat → Prop) : Prop := NAt w p S F ∧ (∀ k, F k → w0.heap.size ≤ k) ∧ Ext w0 w
theorem Net1.step {w0 w w' : World} {p : Nat} {S S' : NetS} {F F' : Nat → Prop} (h : Net1 w0 w p S F) (n : NAt w' p S' F') (o : Off F w w') (g : Grows F F' w) : Net1 w0 w' p S' F' := by
  refine ⟨n, fun k hk => ?_, Below.trans h.2.2 (o.below h.2.1 h.2.2.size)⟩
  rcases g k hk with h1 | h1
  · exact h.2.1 k h1
  · exact Nat.le_trans h.2.2.size h1
theorem Net1.ext {w0 w w' : World} {p : Nat} {S : NetS} {F : Nat → Prop} (h : Net1 w0 w p S F) (x : Ext w w') : Net1 w0 w' p S F :=
  ⟨h.1.off (Off.of_ext (F := fun _ => False) x) (fun _ _ hf => hf), h.2.1, Ext.trans h.2.2 x⟩

def e0 : NetS := NetS.new 2 2
def e1 : NetS := e0.send 0 1 ⟨#[97]⟩
def e2 : NetS := e1.send 0 1 ⟨#[98]⟩
def e3 : NetS := e2.send 0 1 ⟨#[99]⟩
def e4 : NetS := e3.double 0 1 0
def e5 : NetS := e4.deliver 0 1 0
def e6 : NetS := e5.double 0 1 0
def e7 : NetS := e6.flip 0 1 0 1
def e8 : NetS := e7.send 0 0 ⟨#[97]⟩

set_option maxHeartbeats 4000000 in
theorem awake_any (w : World) : Calls Try.prog 10 #[] w (GivesB w (.bool true)) := by
  go_enter Try.func10, Try.ntmps10
  go_wp2_with fail
  refine (pNew w 2 2).mono ?_
  rintro e w0 ⟨p, F0, rfl, n0, hf0, x0⟩
  have N0 : Hid (Net1 w w0 p e0 F0) := Lib.hid ⟨n0, hf0, x0⟩
  clear n0 hf0 x0
  go_wp2_with fail
  refine (pQuiet N0.out.1).mono ?_
  rintro e w0b ⟨q0, hq0, F0b, rfl, n, o, g⟩
  obtain rfl : q0 = true := hq0.2 fun _ _ => rfl
  have N0b := Lib.hid (N0.out.step n o g)
  clear n o g N0 hq0
  go_wp2_with fail
  refine (pSend N0b.out.1 0 1 ⟨#[97]⟩ (by decide)).mono ?_
  rintro e w1 ⟨F1, rfl, n, o, g⟩
  have N1 : Hid (Net1 w w1 p e1 F1) := Lib.hid (N0b.out.step n o g)
  rw [show e0.may 0 1 = true from by decide]
  clear n o g N0b
  go_wp2_with fail
  refine (pSend N1.out.1 0 1 ⟨#[98]⟩ (by decide)).mono ?_
  rintro e w2 ⟨F2, rfl, n, o, g⟩
  have N2 : Hid (Net1 w w2 p e2 F2) := Lib.hid (N1.out.step n o g)
  rw [show e1.may 0 1 = true from by decide]
  clear n o g N1
  go_wp2_with fail
  refine (pSend N2.out.1 0 1 ⟨#[99]⟩ (by decide)).mono ?_
  rintro e w3 ⟨F3, rfl, n, o, g⟩
  have N3 : Hid (Net1 w w3 p e3 F3) := Lib.hid (N2.out.step n o g)
  rw [show e2.may 0 1 = false from by decide]
  clear n o g N2
  go_wp2_with fail
  refine (pLook N3.out.1 0 1 1).mono ?_
  rintro e w4 ⟨F4, rfl, n, o, g⟩
  have N4 : Hid (Net1 w w4 p e3 F4) := Lib.hid (N3.out.step n o g)
  rw [show e3.look 0 1 1 = (⟨#[98]⟩ : ByteArray) from by decide]
  rw [show e3.there 0 1 1 = true from by decide]
  clear n o g N3
  go_wp2_with fail
  refine (pDouble N4.out.1 0 1 0).mono ?_
  rintro e w5 ⟨F5, rfl, n, o, g⟩
  have N5 : Hid (Net1 w w5 p e4 F5) := Lib.hid (N4.out.step n o g)
  rw [show e3.canD 0 1 0 = false from by decide]
  clear n o g N4
  go_wp2_with fail
  refine (pDeliver N5.out.1 0 1 0).mono ?_
  rintro e w6 ⟨F6, rfl, n, o, g⟩
  have N6 : Hid (Net1 w w6 p e5 F6) := Lib.hid (N5.out.step n o g)
  rw [show e4.look 0 1 0 = (⟨#[97]⟩ : ByteArray) from by decide]
  rw [show e4.there 0 1 0 = true from by decide]
  clear n o g N5
  go_wp2_with fail
  refine (pDouble N6.out.1 0 1 0).mono ?_
  rintro e w7 ⟨F7, rfl, n, o, g⟩
  have N7 : Hid (Net1 w w7 p e6 F7) := Lib.hid (N6.out.step n o g)
  rw [show e5.canD 0 1 0 = true from by decide]
  clear n o g N6
  go_wp2_with fail
  refine (pFlip N7.out.1 0 1 0 1 (by decide) (by decide)).mono ?_
  rintro e w8 ⟨F8, rfl, n, o, g⟩
  have N8 : Hid (Net1 w w8 p e7 F8) := Lib.hid (N7.out.step n o g)
  rw [show e6.canF 0 1 0 = true from by decide]
  clear n o g N7
  go_wp2_with fail
  refine (pLook N8.out.1 0 1 0).mono ?_
  rintro e w9 ⟨F9, rfl, n, o, g⟩
  have N9 : Hid (Net1 w w9 p e7 F9) := Lib.hid (N8.out.step n o g)
  rw [show e7.look 0 1 0 = (⟨#[96]⟩ : ByteArray) from by decide]
  rw [show e7.there 0 1 0 = true from by decide]
  clear n o g N8
  go_wp2_with fail
  refine (pCount N9.out.1 0 1).mono ?_
  rintro e w10 ⟨F10, rfl, n, o, g⟩
  have N10 : Hid (Net1 w w10 p e7 F10) := Lib.hid (N9.out.step n o g)
  rw [show ((e7.f 0 1).length : Int) = 2 from by decide]
  clear n o g N9
  go_wp2_with fail
  refine (pCount N10.out.1 1 0).mono ?_
  rintro e w11 ⟨F11, rfl, n, o, g⟩
  have N11 : Hid (Net1 w w11 p e7 F11) := Lib.hid (N10.out.step n o g)
  rw [show ((e7.f 1 0).length : Int) = 0 from by decide]
  clear n o g N10
  go_wp2_with fail
  refine (pQuiet N11.out.1).mono ?_
  rintro e w12 ⟨q12, hq, F12, rfl, n, o, g⟩
  obtain rfl : q12 = false := by
    cases q12
    · rfl
    · exact absurd (hq.1 rfl 0 1) (by decide)
  have N12 : Hid (Net1 w w12 p e7 F12) := Lib.hid (N11.out.step n o g)
  clear n o g N11 hq
  go_wp2_with fail
  refine (pSend N12.out.1 0 0 ⟨#[97]⟩ (by decide)).mono ?_
  rintro e w13 ⟨F13, rfl, n, o, g⟩
  have N13 : Hid (Net1 w w13 p e8 F13) := Lib.hid (N12.out.step n o g)
  rw [show e7.may 0 0 = false from by decide]
  clear n o g N12
  go_wp2
  go_ret
  exact ⟨rfl, N13.out.2.2⟩
end Go.Proofs.Ytjnnfnmapigagaa
