/- A pipe in a call's own memory; what the chapter's example fixes. -/
import Derived.Test.YtlakolkpfkakoaaGreatDoorMP
import Derived.BigGuard
import Derived.Test.YtlakolkpfkakoaaGreatDoorMM
namespace Go.Proofs.YtlakolkpfkakoaaGreatDoor
open Go.RowKit
def Pipe1 (w0 w : World) (p : Nat) (P : PipeS) (F : Nat → Prop) : Prop := PAt w p P F ∧ (∀ k, F k → w0.heap.size ≤ k) ∧ Ext w0 w
section
variable {w0 w w' : World} {p : Nat} {P P' : PipeS} {F F' : Nat → Prop}
theorem Pipe1.step (h : Pipe1 w0 w p P F) (n : PAt w' p P' F') (o : Off F w w') (g : Grows F F' w) : Pipe1 w0 w' p P' F' := by
  refine ⟨n, fun k hk => ?_, Below.trans h.2.2 (o.below h.2.1 h.2.2.size)⟩
  rcases g k hk with h1 | h1
  · exact h.2.1 k h1
  · exact Nat.le_trans h.2.2.size h1
theorem Pipe1.ext (h : Pipe1 w0 w p P F) (x : Ext w w') : Pipe1 w0 w' p P F :=
  ⟨h.1.off (Off.of_ext (F := fun _ => False) x) (fun _ _ hf => hf), h.2.1, Ext.trans h.2.2 x⟩
end

def bA : ByteArray := ⟨#[97]⟩
def q0 : PipeS := PipeS.new 1 0 4 9 2 9
def q1 : PipeS := q0.send 0 bA
def q2 : PipeS := q1.go 0
def q3 : PipeS := q2.flip 1 0 50
def q4 : PipeS := q3.come 1 0
theorem q1e : q0.sendE 0 bA = 0 := by kernel_rfl
theorem q2n : q1.goN 0 = 1 := by kernel_rfl
theorem q3f : q2.net.canF (1 - 1) 1 0 = true := by kernel_rfl
def fA : Fr := ⟨1, 1, 0, 0, bA⟩
theorem q3look : q3.look 1 0 = turned (putF fA) 50 := by kernel_rfl
theorem q4y : q3.comeY 1 0 = false := by
  unfold PipeS.comeY PipeS.isF
  rw [q3look, decide_eq_false (turned_no (by decide) (by decide) (by decide) 50), Bool.and_false, Bool.false_and]
theorem q4b : q3.comeB 1 0 = ⟨#[]⟩ := by unfold PipeS.comeB; rw [q4y, if_neg (by decide)]
def q5 : PipeS := q4.tick 0
def q6 : PipeS := q5.tick 0
def q7 : PipeS := q6.go 0
def q8 : PipeS := q7.come 1 0
theorem q7n : q6.goN 0 = 1 := by decide +kernel
theorem q8y : q7.comeY 1 0 = true := by decide +kernel
theorem q8b : q7.comeB 1 0 = bA := by decide +kernel
theorem q8t : q8.there 1 0 = false := by kernel_rfl
theorem q8g : q8.got 1 = [bA] := by kernel_rfl
theorem q8w : q8.waiting 0 = 1 := by kernel_rfl
theorem q8s : q8.sendE 2 bA = 100 := by kernel_rfl
theorem q9s : q8.send 2 bA = q8 := PipeS.send_no (by decide) _
theorem q8l : q8.lose 1 0 = q8 := PipeS.lose_no q8t
theorem q8d : q8.double 1 0 = q8 := PipeS.double_no q8t
theorem q8c : q8.net.canD (1 - 1) 1 0 = false := by kernel_rfl

set_option maxRecDepth 100000 in
set_option maxHeartbeats 8000000 in
theorem awake_any (w : World) (hs : Std w) : Calls Tryz.prog 5 #[] w (GivesB w (.bool true)) := by
  have HS := Lib.hid hs
  clear hs
  go_enter Tryz.func5, Tryz.ntmps5
  try dsimp only [List.append]
  go_wp2_with fail
  refine (iNew (w := w) HS.out 1 0 4 9 2 9 (by decide)).mono ?_
  rintro e w0 ⟨p, F0, rfl, n, o, g⟩
  have N0 : Hid (Pipe1 w w0 p q0 F0) := Lib.hid ⟨n, o, g⟩
  clear n o g
  go_wp2_with fail
  refine (iSend N0.out.1 0 bA (by decide)).mono ?_
  rintro e w1 ⟨F1, rfl, n, o, g⟩
  have N1 : Hid (Pipe1 w w1 p q1 F1) := Lib.hid (N0.out.step n o g)
  rw [q1e]
  clear n o g N0
  go_wp2_with fail
  refine (iGo (HS.out.ext N1.out.2.2) N1.out.1 0).mono ?_
  rintro e w2 ⟨F2, rfl, n, o, g⟩
  have N2 : Hid (Pipe1 w w2 p q2 F2) := Lib.hid (N1.out.step n o g)
  rw [q2n]
  clear n o g N1
  go_wp2_with fail
  refine (iFlip N2.out.1 1 0 50 (by decide) (by decide)).mono ?_
  rintro e w3 ⟨F3, rfl, n, o, g⟩
  have N3 : Hid (Pipe1 w w3 p q3 F3) := Lib.hid (N2.out.step n o g)
  rw [q3f]
  clear n o g N2
  go_wp2_with fail
  refine (iCome (HS.out.ext N3.out.2.2) N3.out.1 1 0 (by decide)).mono ?_
  rintro e w4 ⟨F4, rfl, n, o, g⟩
  have N4 : Hid (Pipe1 w w4 p q4 F4) := Lib.hid (N3.out.step n o g)
  rw [q4b, q4y]
  clear n o g N3
  go_wp2_with fail
  refine (iTick N4.out.1 0).mono ?_
  rintro e w5 ⟨F5, rfl, n, o, g⟩
  have N5 : Hid (Pipe1 w w5 p q5 F5) := Lib.hid (N4.out.step n o g)
  clear n o g N4
  go_wp2_with fail
  refine (iTick N5.out.1 0).mono ?_
  rintro e w6 ⟨F6, rfl, n, o, g⟩
  have N6 : Hid (Pipe1 w w6 p q6 F6) := Lib.hid (N5.out.step n o g)
  clear n o g N5
  go_wp2_with fail
  refine (iGo (HS.out.ext N6.out.2.2) N6.out.1 0).mono ?_
  rintro e w7 ⟨F7, rfl, n, o, g⟩
  have N7 : Hid (Pipe1 w w7 p q7 F7) := Lib.hid (N6.out.step n o g)
  rw [q7n]
  clear n o g N6
  go_wp2_with fail
  refine (iCome (HS.out.ext N7.out.2.2) N7.out.1 1 0 (by decide)).mono ?_
  rintro e w8 ⟨F8, rfl, n, o, g⟩
  have N8 : Hid (Pipe1 w w8 p q8 F8) := Lib.hid (N7.out.step n o g)
  rw [q8b, q8y]
  clear n o g N7
  go_wp2_with fail
  refine (iLook N8.out.1 1 0).mono ?_
  rintro e w9 ⟨F9, rfl, n, o, g⟩
  have N9 : Hid (Pipe1 w w9 p q8 F9) := Lib.hid (N8.out.step n o g)
  rw [q8t]
  clear n o g N8
  go_wp2_with fail
  refine (iGot N9.out.1 1 (by decide)).mono ?_
  rintro e w10 ⟨ao, nn, c, F10, rfl, hl, hb, n, o, g⟩
  have N10 : Hid (Pipe1 w w10 p q8 F10) := Lib.hid (N9.out.step n o g)
  rw [q8g] at hl hb
  clear n o g N9
  obtain ⟨lb, lo, lc, hv, hlc, _, hlb, _, hla⟩ := (hl.texts).resolve_left (by rintro ⟨h0, _⟩; cases h0)
  simp only [Value.slice.injEq] at hv
  obtain ⟨rfl, rfl, rfl⟩ := hv
  have hlc2 : (1 : Int) ≤ (c : Int) := by simp at hlc; omega
  have L10 : Hid (Sa F10 w10 (.slice (some ⟨lb, lo, none⟩) [bA].length c) [bA]) := Lib.hid ⟨hl, hb.imp id fun h1 b e => (h1 b e).2⟩
  have k0 := hla 0 (by decide)
  clear hl hb hla hlc hlb
  rw [Nat.add_zero] at k0
  have hA : bA.toList = [97] := by rw [ByteArray.toList_eq]; rfl
  go_wp2_with fail
  refine (iWaiting N10.out.1 0).mono ?_
  rintro e w11 ⟨F11, rfl, n, o, g⟩
  have N11 : Hid (Pipe1 w w11 p q8 F11) := Lib.hid (N10.out.step n o g)
  rw [q8w]
  clear n o g N10
  go_wp2_with fail
  refine (iSend N11.out.1 2 bA (by decide)).mono ?_
  rintro e w12 ⟨F12, rfl, n, o, g⟩
  rw [q9s] at n
  have N12 : Hid (Pipe1 w w12 p q8 F12) := Lib.hid (N11.out.step n o g)
  rw [q8s]
  clear n o g N11
  go_wp2_with fail
  refine (iLose N12.out.1 1 0).mono ?_
  rintro e w13 ⟨F13, rfl, n, o, g⟩
  rw [q8l] at n
  have N13 : Hid (Pipe1 w w13 p q8 F13) := Lib.hid (N12.out.step n o g)
  rw [q8t]
  clear n o g N12
  go_wp2_with fail
  refine (iDouble N13.out.1 1 0).mono ?_
  rintro e w14 ⟨F14, rfl, n, o, g⟩
  rw [q8d] at n
  have N14 : Hid (Pipe1 w w14 p q8 F14) := Lib.hid (N13.out.step n o g)
  rw [q8c]
  clear n o g N13
  go_wp2
  go_ret
  exact ⟨rfl, N14.out.2.2⟩
end Go.Proofs.YtlakolkpfkakoaaGreatDoor

/- PipeSides: of a side that isn't there nothing is told, and nothing happens. -/
namespace Go.Proofs.YtlakolkpfkakoaaGreatDoor
open Go.RowKit

namespace PipeS
end PipeS

end Go.Proofs.YtlakolkpfkakoaaGreatDoor

/- PipeTurned: a frame of which one bit is turned comes to nothing; sent again it is told. -/
namespace Go.Proofs.YtlakolkpfkakoaaGreatDoor
open Go.RowKit

namespace NetS
end NetS
end Go.Proofs.YtlakolkpfkakoaaGreatDoor

/- Acts on pipes; few of them; is a text among others. -/
namespace Go.Proofs.YtlakolkpfkakoaaGreatDoor
open Go.RowKit

structure Act10 where
  k : Int
  sd : Int
  n : Int
  x : Int
  s : ByteArray
def dA : Act10 := ⟨0, 0, 0, 0, ⟨#[]⟩⟩
def Act10.v (y : Act10) : Value := .agg #[.int .i64 y.k, .int .i64 y.sd, .int .i64 y.n, .int .i64 y.x, .string y.s]

instance : Elem Act10 where
  e := 38
  t := 23
  k := 5
  bytes := 48
  z := .agg #[.int .i64 0, .int .i64 0, .int .i64 0, .int .i64 0, .string ⟨#[]⟩]
  enc := fun y => [.int .i64 y.k, .int .i64 y.sd, .int .i64 y.n, .int .i64 y.x, .string y.s]
  dflt := dA
  len := fun _ => rfl
  pos := by decide
  one := fun x u hu => by simp at hu; rcases hu with rfl | rfl | rfl | rfl | rfl <;> rfl
  row := by kernel_rfl
  info := by kernel_rfl
  zsize := rfl
  few := by decide
def ActAt (w : World) (b off : Nat) (y : Act10) : Prop :=
  w.cell? ⟨b, off, none⟩ = some (.int .i64 y.k) ∧ w.cell? ⟨b, off + 1, none⟩ = some (.int .i64 y.sd) ∧ w.cell? ⟨b, off + 2, none⟩ = some (.int .i64 y.n) ∧ w.cell? ⟨b, off + 3, none⟩ = some (.int .i64 y.x) ∧ w.cell? ⟨b, off + 4, none⟩ = some (.string y.s)
theorem ActAt.ext {w w' : World} {b off : Nat} {y : Act10} (h : ActAt w b off y) (x : Below (b + 1) w w') : ActAt w' b off y := by
  obtain ⟨h0, h1, h2, h3, h4⟩ := h
  exact ⟨(x.cell (Nat.lt_succ_self _)).trans h0, (x.cell (Nat.lt_succ_self _)).trans h1, (x.cell (Nat.lt_succ_self _)).trans h2, (x.cell (Nat.lt_succ_self _)).trans h3, (x.cell (Nat.lt_succ_self _)).trans h4⟩

theorem Sl.acts {w : World} {v : Value} {xs : List Act10} (h : Sl w v xs) :
    (xs = [] ∧ ∃ ao c, v = .slice ao 0 c) ∨
    (∃ b off c, v = .slice (some ⟨b, off, none⟩) xs.length c ∧ xs.length ≤ c ∧ c ≤ 9223372036854775807 ∧ b < w.heap.size ∧ 0 < xs.length ∧ ∀ j, j < xs.length → ActAt w b (off + j * 5) (xs.getD j dA)) := by
  rcases h.parts with h | ⟨b, off, c, h1, h2, h3, h4, h5, h6⟩
  · exact .inl h
  · refine .inr ⟨b, off, c, h1, h2, h3, h4, h5, fun j hj => ?_⟩
    have e : xs[j]? = some (xs.getD j dA) := by simp [hj]
    have key : ∀ i u, (Elem.enc (xs.getD j dA))[i]? = some u → w.cell? ⟨b, off + j * 5 + i, none⟩ = some u := fun i u hu => by
      have := h6 j _ e i u hu
      rwa [show off + (j * Elem.k Act10 + i) = off + j * 5 + i from by show off + (j * 5 + i) = _; omega] at this
    exact ⟨key 0 _ rfl, key 1 _ rfl, key 2 _ rfl, key 3 _ rfl, key 4 _ rfl⟩
theorem act_here {w wr : World} {l : List Act10} {ao : Option Addr} {n c k : Nat} (h : Sl w (.slice ao n c) l) (x : Ext w wr) (hk : k < l.length) :
    ∃ b off, ao = some ⟨b, off, none⟩ ∧ n = l.length ∧ l.length ≤ c ∧ b < w.heap.size ∧ ActAt wr b (off + k * 5) (l.getD k dA) := by
  rcases h.acts with ⟨h0, _⟩ | ⟨b, off, c', hv, hq1, hq2, hbl, hpos, hat⟩
  · rw [h0] at hk; simp at hk
  · simp only [Value.slice.injEq] at hv
    obtain ⟨rfl, rfl, rfl⟩ := hv
    exact ⟨b, off, rfl, rfl, hq1, hbl, (hat k hk).ext (x.mono hbl)⟩

def FewR (l : List Act10) (w : World) (e : Ending) (w' : World) : Prop := ∃ r : Bool, e = .returned (.bool r) ∧ (r = true → l.length ≤ 80 ∧ ∀ y ∈ l, y.s.size ≤ 70) ∧ w = w'

set_option maxHeartbeats 1600000 in
theorem few_any (w : World) (v : Value) (l : List Act10) (h : Sl w v l) :
    Calls Tryz.prog 6 #[v] w (FewR l w) := by
  have hlen := h.length_le
  rcases h.acts with ⟨rfl, ao, c, rfl⟩ | ⟨b, off, c, rfl, hq1, hq2, hbl, hpos, hat⟩
  · clear h hlen
    go_enter Tryz.func6, Tryz.ntmps6
    go_wp2
    refine wp_loop_rounds 1 ?_
    rw [rounds_succ]
    go_wp2
    go_ret
    exact ⟨true, rfl, fun _ => ⟨by simp, fun y hy => by cases hy⟩, rfl⟩
  · have HAT := Lib.hid hat
    clear h hat
    go_enter Tryz.func6, Tryz.ntmps6
    go_wp2
    go_loop [3] (fun i => ∃ k : Nat, k ≤ l.length ∧ i = .int .i64 k ∧ Hid (∀ y ∈ l.take k, y.s.size ≤ 70)) (fun i => l.length - (intOf i).toNat)
    case atStart => exact ⟨0, Nat.zero_le _, rfl, Lib.hid (fun y hy => by simp at hy)⟩
    case round =>
      obtain ⟨k, hk, rfl, HR⟩ := hrel
      by_cases hlt : k < l.length
      · by_cases h81 : k < 81
        · obtain ⟨_, _, _, _, c4⟩ := HAT.out k hlt
          have ht : l.take (k + 1) = l.take k ++ [l.getD k dA] := by rw [List.take_succ_eq_append_getElem hlt]; simp [hlt]
          obtain ⟨Y, hY⟩ : ∃ Y, Y = l.getD k dA := ⟨_, rfl⟩
          rw [← hY] at c4 ht
          have HT := Lib.hid ht
          clear ht hY
          have hkc : (k : Int) ≤ (c : Int) := by omega
          have hk81 : (k : Int) < 81 := by omega
          by_cases hz : Y.s.size ≤ 70
          · have hz2 : ¬ (70 : Int) < (Y.s.size : Int) := by omega
            have HR2 : Hid (∀ y ∈ l.take (k + 1), y.s.size ≤ 70) := Lib.hid (fun y hy9 => by
              rw [HT.out] at hy9
              rcases List.mem_append.1 hy9 with hy9 | hy9
              · exact HR.out y hy9
              · rw [List.mem_singleton] at hy9
                subst hy9
                exact hz)
            replace hz := Lib.hid hz
            go_wp2
            exact ⟨⟨k + 1, hlt, by go_num, HR2⟩, by simp [intOf]; omega⟩
          · have hz2 : (70 : Int) < (Y.s.size : Int) := by omega
            replace hz := Lib.hid hz
            go_wp2
            go_ret
            exact ⟨false, rfl, fun h => (by cases h), rfl⟩
        · have hk81 : ¬ (k : Int) < 81 := by omega
          have hl80 : ¬ (l.length : Int) ≤ 80 := by omega
          go_wp2
          go_ret
          exact ⟨false, rfl, fun h => (by cases h), rfl⟩
      · have hkk : k = l.length := by omega
        have HA : Hid (∀ y ∈ l, y.s.size ≤ 70) := Lib.hid (by have := HR.out; rw [hkk, List.take_length] at this; exact this)
        by_cases h80 : l.length ≤ 80
        · have hl80 : (l.length : Int) ≤ 80 := by omega
          replace h80 := Lib.hid h80
          go_wp2
          go_ret
          exact ⟨true, rfl, fun _ => ⟨h80.out, HA.out⟩, rfl⟩
        · have hl80 : ¬ (l.length : Int) ≤ 80 := by omega
          replace h80 := Lib.hid h80
          go_wp2
          go_ret
          exact ⟨false, rfl, fun h => (by cases h), rfl⟩
def mem (l : List ByteArray) (s : ByteArray) : Bool := l.any fun x => decide (x = s)
end Go.Proofs.YtlakolkpfkakoaaGreatDoor
