/- What the chapter's example fixes. -/
import Derived.Test.YtefkjclkondmeaaK9
namespace Go.Proofs.Ytefkjclkondmeaa
open Go.RowKit

/-- the blocks of one or of the other -/
def U (F G : Nat → Prop) : Nat → Prop := fun k => F k ∨ G k
theorem Sa.left {α : Type} [Elem α] {F F' G : Nat → Prop} {w w' : World} {v : Value} {xs : List α} (h : Sa (U F G) w v xs) (o : Off F w w') (g : Grows F F' w) : Sa (U F' G) w' v xs :=
  h.off (o.mono fun _ h1 => .inl h1) fun k hk => by
    rcases hk with h1 | h1
    · exact (g k h1).imp .inl id
    · exact .inl (.inr h1)
theorem Sa.right {α : Type} [Elem α] {F G G' : Nat → Prop} {w w' : World} {v : Value} {xs : List α} (h : Sa (U F G) w v xs) (o : Off G w w') (g : Grows G G' w) : Sa (U F G') w' v xs :=
  h.off (o.mono fun _ h1 => .inr h1) fun k hk => by
    rcases hk with h1 | h1
    · exact .inl (.inl h1)
    · exact (g k h1).imp .inr id
/-- new frames lie apart from both -/
theorem Sa.fresh {α : Type} [Elem α] {F' G : Nat → Prop} {w w' : World} {v : Value} {xs : List α} (h : Sl w' v xs) (hb : xs = [] ∨ ∀ b, v.ownBlock = some b → w.heap.size ≤ b ∧ ¬ F' b) (hG : ∀ k, G k → k < w.heap.size) : Sa (U F' G) w' v xs :=
  ⟨h, hb.imp id fun h1 b e hu => by
    rcases hu with h2 | h2
    · exact (h1 b e).2 h2
    · have := hG b h2; have := (h1 b e).1; omega⟩
theorem Sa.turn {α : Type} [Elem α] {F G : Nat → Prop} {w : World} {v : Value} {xs : List α} (h : Sa (U F G) w v xs) : Sa (U G F) w v xs := h.mono fun _ h1 => h1.symm

theorem Sl.frs_some {w : World} {ao : Option Addr} {n c : Nat} {xs : List Fr} (h : Sl w (.slice ao n c) xs) (hx : 0 < xs.length) :
    ∃ b off, ao = some ⟨b, off, none⟩ ∧ n = xs.length ∧ xs.length ≤ c ∧ b < w.heap.size ∧ ∀ j, j < xs.length → FrAt w b (off + j * 5) (xs.getD j Fr.zero) := by
  rcases h.frs with ⟨h0, _⟩ | ⟨b, off, c', hv, q1, q2, q3, q4, q5⟩
  · rw [h0] at hx; simp at hx
  · simp only [Value.slice.injEq] at hv
    obtain ⟨rfl, rfl, rfl⟩ := hv
    exact ⟨b, off, rfl, rfl, q1, q3, q5⟩

def fA : Fr := ⟨1, 1, 5, 5, ⟨#[97]⟩⟩
def fB : Fr := ⟨1, 1, 6, 5, ⟨#[98]⟩⟩
def e0 : EndS := EndS.new 1 5 4 9 3
def x1 : EndS := e0.send ⟨#[97]⟩
def x2 : EndS := x1.send ⟨#[98]⟩
def x3 : EndS := x2.outS
def y1 : EndS := e0.take fB
def y2 : EndS := y1.outS
def y3 : EndS := y2.take fA
def y4 : EndS := y3.take fB
def y5 : EndS := y4.outS
def x4 : EndS := x3.take ⟨2, 1, 0, 7, ⟨#[]⟩⟩

set_option maxRecDepth 100000 in
set_option maxHeartbeats 8000000 in
theorem awake_any (w : World) (hs : Std w) : Calls Try.prog 10 #[] w (GivesB w (.bool true)) := by
  have HS := Lib.hid hs
  clear hs
  go_enter Try.func10, Try.ntmps10
  go_wp2_with fail
  refine (pNew w 1 5 4 9 3 (by decide)).mono ?_
  rintro e w0 ⟨p, F0, rfl, n0, hf0, z0⟩
  have M0 : Hid (End1 w w0 p e0 F0) := Lib.hid ⟨n0, hf0, z0⟩
  clear n0 hf0 z0
  go_wp2_with fail
  refine (pNew w0 1 5 4 9 3 (by decide)).mono ?_
  rintro e w1 ⟨q, G0, rfl, n0, hf0, z0⟩
  have N0 : Hid (End2 w w1 p e0 F0 q e0 G0) := Lib.hid (End2.new M0.out n0 hf0 z0)
  clear n0 hf0 z0 M0
  go_wp2_with fail
  refine (pSend N0.out.one ⟨#[97]⟩ (by decide)).mono ?_
  rintro e w2 ⟨F1, rfl, n, o, g⟩
  have N1 : Hid (End2 w w2 p x1 F1 q e0 G0) := Lib.hid (N0.out.step n o g)
  rw [show e0.sendE ⟨#[97]⟩ = 0 from by decide]
  clear n o g N0
  go_wp2_with fail
  refine (pSend N1.out.one ⟨#[98]⟩ (by decide)).mono ?_
  rintro e w3 ⟨F2, rfl, n, o, g⟩
  have N2 : Hid (End2 w w3 p x2 F2 q e0 G0) := Lib.hid (N1.out.step n o g)
  rw [show x1.sendE ⟨#[98]⟩ = 0 from by decide]
  clear n o g N1
  go_wp2_with fail
  refine (pOut N2.out.one).mono ?_
  rintro e w4 ⟨ao, nn, c, F3, rfl, hl, hb, n, o, g⟩
  rw [show x2.frames = [fA, fB] from by decide] at hl hb
  have N3 : Hid (End2 w w4 p x3 F3 q e0 G0) := Lib.hid (N2.out.step n o g)
  have L3 := Lib.hid (Sa.fresh hl hb N2.out.two.low)
  clear n o g N2 hb
  obtain ⟨lb, lo, rfl, rfl, hlc, hlb, hla⟩ := hl.frs_some (by decide)
  obtain ⟨k0, k1, k2, k3, k4⟩ := hla 1 (by decide)
  clear hl hla
  have hc2 : (2 : Int) ≤ (c : Int) := by simp at hlc; omega
  go_wp2_with fail
  refine (pTake (HS.out.ext N3.out.ex) N3.out.two fB (by decide) (by decide) (by decide)).mono ?_
  rintro e w5 ⟨G1, rfl, n, o, g⟩
  have N4 : Hid (End2 w w5 p x3 F3 q y1 G1) := Lib.hid (N3.out.swap.step n o g).swap
  rw [show e0.body fB = ⟨#[]⟩ from by decide, show e0.told fB = false from by decide]
  have L4 := Lib.hid (L3.out.right o g)
  clear n o g N3 L3 k0 k1 k2 k3 k4
  go_wp2_with fail
  refine (pOut N4.out.two).mono ?_
  rintro e w6 ⟨mo, mn, mc, G2, rfl, hl, hb, n, o, g⟩
  rw [show y1.frames = [⟨2, 1, 0, 5, ⟨#[]⟩⟩] from by decide] at hl hb
  have N5 : Hid (End2 w w6 p x3 F3 q y2 G2) := Lib.hid (N4.out.swap.step n o g).swap
  have M5 := Lib.hid ((Sa.fresh hl hb N4.out.one.low).turn)
  have L5 := Lib.hid (L4.out.right o g)
  clear n o g N4 L4 hb
  obtain ⟨mb, mf, rfl, rfl, hmc, hmb, hma⟩ := hl.frs_some (by decide)
  clear hl hma
  have hmc2 : (1 : Int) ≤ (mc : Int) := by simp at hmc; omega
  obtain ⟨lb2, lo2, hv, _, hlc2, hlb2, hla⟩ := L5.out.1.frs_some (by decide)
  obtain ⟨rfl, rfl⟩ : lb = lb2 ∧ lo = lo2 := by simpa using hv
  obtain ⟨k0, k1, k2, k3, k4⟩ := (show FrAt w6 lb lo fA by have h9 := hla 0 (by decide); rw [Nat.zero_mul, Nat.add_zero] at h9; exact h9)
  clear hv hla hlc2
  go_wp2_with fail
  refine (pTake (HS.out.ext N5.out.ex) N5.out.two fA (by decide) (by decide) (by decide)).mono ?_
  rintro e w7 ⟨G3, rfl, n, o, g⟩
  have N6 : Hid (End2 w w7 p x3 F3 q y3 G3) := Lib.hid (N5.out.swap.step n o g).swap
  rw [show y2.body fA = ⟨#[97]⟩ from by decide, show y2.told fA = true from by decide]
  have L6 := Lib.hid (L5.out.right o g)
  have M6 := Lib.hid (M5.out.right o g)
  clear n o g N5 L5 M5 k0 k1 k2 k3 k4
  obtain ⟨lb2, lo2, hv, _, hlc2, hlb2, hla⟩ := L6.out.1.frs_some (by decide)
  obtain ⟨rfl, rfl⟩ : lb = lb2 ∧ lo = lo2 := by simpa using hv
  obtain ⟨k0, k1, k2, k3, k4⟩ := hla 1 (by decide)
  clear hv hla hlc2
  go_wp2_with fail
  refine (pTake (HS.out.ext N6.out.ex) N6.out.two fB (by decide) (by decide) (by decide)).mono ?_
  rintro e w8 ⟨G4, rfl, n, o, g⟩
  have N7 : Hid (End2 w w8 p x3 F3 q y4 G4) := Lib.hid (N6.out.swap.step n o g).swap
  rw [show y3.body fB = ⟨#[98]⟩ from by decide, show y3.told fB = true from by decide]
  have M7 := Lib.hid (M6.out.right o g)
  clear n o g N6 L6 M6 k0 k1 k2 k3 k4
  go_wp2_with fail
  refine (pOut N7.out.two).mono ?_
  rintro e w9 ⟨ro, rn, rc, G5, rfl, hl, hb, n, o, g⟩
  rw [show y4.frames = [⟨2, 1, 0, 7, ⟨#[]⟩⟩] from by decide] at hl hb
  have N8 : Hid (End2 w w9 p x3 F3 q y5 G5) := Lib.hid (N7.out.swap.step n o g).swap
  have M8 := Lib.hid (M7.out.right o g)
  clear n o g N7 M7 hb
  obtain ⟨rb, rf, rfl, rfl, hrc, hrb, hra⟩ := hl.frs_some (by decide)
  obtain ⟨k0, k1, k2, k3, k4⟩ := (show FrAt w9 rb rf ⟨2, 1, 0, 7, ⟨#[]⟩⟩ by have h9 := hra 0 (by decide); rw [Nat.zero_mul, Nat.add_zero] at h9; exact h9)
  have hrc2 : (1 : Int) ≤ (rc : Int) := by simp at hrc; omega
  clear hl hra
  go_wp2_with fail
  refine (pTake (HS.out.ext N8.out.ex) N8.out.one ⟨2, 1, 0, 7, ⟨#[]⟩⟩ (by decide) (by decide) (by decide)).mono ?_
  rintro e w10 ⟨F4, rfl, n, o, g⟩
  have N9 : Hid (End2 w w10 p x4 F4 q y5 G5) := Lib.hid (N8.out.step n o g)
  have M9 := Lib.hid (M8.out.left o g)
  clear n o g N8 M8 k0 k1 k2 k3 k4
  go_wp2_with fail
  refine (pNumbers N9.out.two).mono ?_
  rintro e w11 ⟨G6, rfl, n, o, g⟩
  have N10 : Hid (End2 w w11 p x4 F4 q y5 G6) := Lib.hid (N9.out.swap.step n o g).swap
  rw [show y5.first = 5 from by decide, show y5.want = 7 from by decide]
  have M10 := Lib.hid (M9.out.right o g)
  clear n o g N9 M9
  obtain ⟨mb2, mf2, hv, _, hmc3, hmb2, hma⟩ := M10.out.1.frs_some (by decide)
  obtain ⟨rfl, rfl⟩ : mb = mb2 ∧ mf = mf2 := by simpa using hv
  obtain ⟨k0, k1, k2, k3, k4⟩ := (show FrAt w11 mb mf ⟨2, 1, 0, 5, ⟨#[]⟩⟩ by have h9 := hma 0 (by decide); rw [Nat.zero_mul, Nat.add_zero] at h9; exact h9)
  clear hv hma hmc3
  go_wp2_with fail
  refine (pWaiting N10.out.one).mono ?_
  rintro e w12 ⟨F5, rfl, n, o, g⟩
  have N11 : Hid (End2 w w12 p x4 F5 q y5 G6) := Lib.hid (N10.out.step n o g)
  rw [show ((x4.l.length : Nat) : Int) = 0 from by decide]
  clear n o g N10 k0 k1 k2 k3 k4
  go_wp2
  go_ret
  exact ⟨rfl, N11.out.ex⟩
end Go.Proofs.Ytefkjclkondmeaa
