/- All that is on its way to a side. -/
import Derived.Test.YtcjoemkplghonaaDoorMS
import Derived.BigGuard
namespace Go.Proofs.YtcjoemkplghonaaDoor
open Go.RowKit

set_option linter.unusedVariables false
/-- a row's places -/
theorem row_there {P : PipeS} {s : Int} {R : List ByteArray} (hR : P.net.f (1 - s) s = R) (k : Nat) : P.there s (k : Int) = decide (k < R.length) := by
  unfold PipeS.there NetS.there
  rw [hR]
  simp
theorem row_look {P : PipeS} {s : Int} {R : List ByteArray} (hR : P.net.f (1 - s) s = R) (k : Nat) (hk : k < R.length) : P.look s (k : Int) = R.getD k ⟨#[]⟩ := by
  have ht : P.net.there (1 - s) s (k : Int) = true := (row_there hR k).trans (decide_eq_true hk)
  unfold PipeS.look NetS.look
  rw [ht, if_pos rfl, hR, Int.toNat_natCast]
/-- a slice of one's own, apart from the pipe -/
def OwA (w : World) (F : Nat → Prop) (B : Nat) (v : Value) (xs : List ByteArray) : Prop := Ow w B v xs ∧ ∀ b, v.ownBlock = some b → ¬ F b
theorem OwA.off {w w' : World} {F F' : Nat → Prop} {B : Nat} {v : Value} {xs : List ByteArray} (h : OwA w F B v xs) (o : Off F w w') (g : Grows F F' w) : OwA w' F' B v xs :=
  ⟨ow_keep h.1 fun b hb => o.block b (h.1.low b hb).2 (h.2 b hb), fun b hb hf => by
    rcases g b hf with h1 | h1
    · exact h.2 b hb h1
    · have := (h.1.low b hb).2; omega⟩
/-- another slice grows -/
theorem PAt.apd {w w' : World} {p : Nat} {P : PipeS} {F : Nat → Prop} {B : Nat} {v v' : Value} {xs : List ByteArray} (h : PAt w p P F) (hv : OwA w F B v xs) (a : Apd B v v' w w') : PAt w' p P F ∧ ∀ b, v'.ownBlock = some b → ¬ F b := by
  have o : Off (fun b => v.ownBlock = some b) w w' := ⟨a.grown.os, a.grown.tape, a.grown.output, a.grown.size, fun k hk hf => a.grown.block k hk (fun e => hf e.symm)⟩
  refine ⟨h.off o (fun k hk e => hv.2 k e hk), fun b hb hf => ?_⟩
  rcases a.block with h1 | h1
  · exact hv.2 b (h1 ▸ hb) hf
  · have := h1 b hb; have := h.low b hf; omega

set_option maxRecDepth 50000 in
set_option maxHeartbeats 8000000 in
theorem row_any (w : World) (p : Nat) (P : PipeS) (F : Nat → Prop) (h : PAt w p P F) (s : Int) (R : List ByteArray) (hR : P.net.f (1 - s) s = R) :
    Calls Tryd.prog 23 #[.pointer (some ⟨p, 0, none⟩), .int .i64 s] w (GotsP p P F R w) := by
  have hlow := h.low
  have hRl : R.length ≤ 1000 := by have h1 := h.ok.net.few (1 - s) s; have h2 := h.ok.net.rooms; rw [hR] at h1; omega
  have HP := Lib.hid h
  have HR := Lib.hid hR
  have HL := Lib.hid hlow
  clear h hR hlow
  go_enter Tryd.func23, Tryd.ntmps23
  have O0 : Hid (OwA (w.alloc (.cells #[] 9)) F w.heap.size (.slice (some ⟨w.heap.size, 0, none⟩) 0 0) []) := Lib.hid ⟨Ow.lit w w.heap.size (Nat.le_refl _) [] (by decide), fun b hb hf => by
    have := HL.out b hf
    simp only [Value.ownBlock, Option.some.injEq] at hb
    omega⟩
  have P0 : Hid (PAt (w.alloc (.cells #[] 9)) p P F) := Lib.hid (HP.out.off (Off.of_ext (F := fun _ => False) ((Ext.refl w).alloc _)) (fun _ _ hf => hf))
  have F0 : Hid (Off F w (w.alloc (.cells #[] 9))) := Lib.hid (Off.of_ext ((Ext.refl w).alloc _))
  have G0 : Hid (Grows F F w) := Lib.hid (Grows.refl _ _)
  go_wp2
  go_loopw [5, 6] (fun q i wr => ∃ (k : Nat) (F' : Nat → Prop), k ≤ R.length ∧ i = .int .i64 (k : Int) ∧ Hid (PAt wr p P F') ∧ Hid (OwA wr F' w.heap.size q (R.take k)) ∧ Hid (Off F w wr) ∧ Hid (Grows F F' w)) (fun _ i _ => R.length + 1 - (intOf i).toNat)
  case atStart => exact ⟨0, F, Nat.zero_le _, rfl, P0, O0, F0, G0⟩
  case round =>
    obtain ⟨k, F', hk, rfl, HPA, HO, HOF, HGR⟩ := hrel
    clear P0 O0 F0 G0
    obtain ⟨ao, n, c, rfl⟩ := HO.out.1.sh
    have hki : (k : Int) < 1001 := by omega
    have hn2 : IntKind.i64.wrap ((k : Int) + 1) = (k : Int) + 1 := wrapN _ (by omega) (by omega)
    have cL := iLook HPA.out s (k : Int)
    rw [row_there HR.out k] at cL
    by_cases hlt : k < R.length
    · rw [decide_eq_true hlt, row_look HR.out k hlt] at cL
      have ht : R.take (k + 1) = R.take k ++ [R.getD k ⟨#[]⟩] := by rw [List.take_succ_eq_append_getElem hlt]; simp [hlt]
      obtain ⟨b, hb⟩ : ∃ b, b = R.getD k ⟨#[]⟩ := ⟨_, rfl⟩
      rw [← hb] at cL ht
      have HT := Lib.hid ht
      replace cL := Lib.hid cL
      clear hb ht
      go_wp2_with fail
      refine cL.out.mono ?_
      rintro ev w5 ⟨F5, rfl, n5, o5, g5⟩
      have A5 := Lib.hid (HO.out.off o5 g5)
      have N5 := Lib.hid n5
      have O5 := Lib.hid (HOF.out.trans o5 HGR.out)
      have G5 := Lib.hid (HGR.out.trans g5 HOF.out.size)
      have hlen : (R.take k).length ≤ 1000 := Nat.le_trans (by rw [List.length_take]; exact Nat.min_le_right _ _) hRl
      clear n5 o5 g5 cL HPA HO HOF HGR
      dsimp only
      go_wp2_with (
        ((at_builtin; refine wpList_append_sl (α := ByteArray) rfl (.tmp 24) (.tmp 26) rfl w.heap.size (.slice ao n c) (R.take k) rfl ?_ (.slice (some ⟨w5.heap.size, 0, none⟩) 1 1) [b] rfl ?_ ?_ ?_ ?_; exact (A5.out.1.alloc _); exact (Sl.litAt w5 _ rfl [b] (show (1 : Nat) ≤ 1000000 by decide)); (first | omega | (simp; omega)); (have := O5.out.size; rw [size_alloc]; omega); intro v2 W2 ho2 ha2))
        have hp5 := N5.out.off (Off.of_ext (F := fun _ => False) ((Ext.refl w5).alloc (.cells #[.string b] 9))) (fun _ _ hf => hf)
        have ha5 : OwA (w5.alloc (.cells #[.string b] 9)) F5 w.heap.size (.slice ao n c) (R.take k) := ⟨A5.out.1.alloc _, A5.out.2⟩
        have hq := hp5.apd ha5 ha2
        have P6 := Lib.hid hq.1
        have A6 : Hid (OwA W2 F5 w.heap.size v2 (R.take (k + 1))) := Lib.hid ⟨by rw [HT.out]; exact ho2, hq.2⟩
        have O6 : Hid (Off F w W2) := Lib.hid (Off.trans (O5.out.ext ((Ext.refl w5).alloc (.cells #[.string b] 9))) (Off.mono (F := fun b => (Value.slice ao n c).ownBlock = some b) ⟨ha2.grown.os, ha2.grown.tape, ha2.grown.output, ha2.grown.size, fun k hk hf => ha2.grown.block k hk (fun e => hf e.symm)⟩ (G := fun b => w.heap.size ≤ b) (fun b hb => (ha5.1.low b hb).1)) (fun k hk => .inr hk))
        clear hp5 ha5 hq ho2 ha2 A5 N5 O5)
      exact ⟨⟨k + 1, F5, hlt, by go_num, P6, A6, O6, G5⟩, by simp [intOf]; omega⟩
    · rw [decide_eq_false hlt] at cL
      have hke : k = R.length := by omega
      have hT : R.take k = R := by rw [hke, List.take_length]
      rw [hT] at HO
      replace cL := Lib.hid cL
      clear hT hke
      go_wp2_with fail
      refine cL.out.mono ?_
      rintro ev w5 ⟨F5, rfl, n5, o5, g5⟩
      have A5 := Lib.hid (HO.out.off o5 g5)
      have N5 := Lib.hid n5
      have O5 := Lib.hid (HOF.out.trans o5 HGR.out)
      have G5 := Lib.hid (HGR.out.trans g5 HOF.out.size)
      clear n5 o5 g5 cL HPA HO HOF HGR
      dsimp only
      go_wp2
      go_ret
      exact ⟨ao, n, c, F5, rfl, A5.out.1.sl, .inr fun b hb => ⟨(A5.out.1.low b hb).1, A5.out.2 b hb⟩, N5.out, O5.out, G5.out⟩
end Go.Proofs.YtcjoemkplghonaaDoor

/- PipeGoes: what a pipe keeps, whatever is done; what goes, goes behind all else; plain mathematics. -/
namespace Go.Proofs.YtcjoemkplghonaaDoor
open Go.RowKit

set_option linter.unusedVariables false
structure InvG (V R K : Nat) (P : PipeS) (L : Nat → List ByteArray) : Prop where
  v0 : P.e0.win = V
  v1 : P.e1.win = V
  rm : P.net.room = R
  few : (L 0).length ≤ 8 * K ∧ (L 1).length ≤ 8 * K ∧ (L 2).length ≤ K ∧ (L 3).length ≤ K
  g0 : P.g0.length ≤ K
  g1 : P.g1.length ≤ K
section
variable {V R K : Nat} {P : PipeS} {L : Nat → List ByteArray}
theorem InvG.more (h : InvG V R K P L) : InvG V R (K + 1) P L :=
  { h with few := by have := h.few; omega, g0 := Nat.le_succ_of_le h.g0, g1 := Nat.le_succ_of_le h.g1 }
theorem InvG.net (h : InvG V R K P L) (N : NetS) (hN : N.room = P.net.room) : InvG V R K { P with net := N } L := { h with rm := hN.trans h.rm }
theorem InvG.setE (h : InvG V R K P L) (s : Int) (E : EndS) (hE : E.win = (P.end' s).win) : InvG V R K (P.setE s E) L := by
  unfold PipeS.setE
  by_cases h0 : s = 0
  · rw [if_pos h0]
    have e : P.end' s = P.e0 := by unfold PipeS.end'; rw [if_pos h0]
    rw [e] at hE
    exact { h with v0 := hE.trans h.v0 }
  · rw [if_neg h0]
    by_cases h1 : s = 1
    · rw [if_pos h1]
      have e : P.end' s = P.e1 := by unfold PipeS.end'; rw [if_neg h0]
      rw [e] at hE
      exact { h with v1 := hE.trans h.v1 }
    · rw [if_neg h1]
      exact h
theorem InvG.setG (h : InvG V R K P L) (s : Int) (g : List ByteArray) (hg : g.length ≤ (P.got s).length + 1) : InvG V R (K + 1) (P.setG s g) L := by
  have hm := h.more
  unfold PipeS.setG
  by_cases h0 : s = 0
  · rw [if_pos h0]
    have e : P.got s = P.g0 := by unfold PipeS.got; rw [if_pos h0]
    rw [e] at hg
    exact { hm with g0 := by have := h.g0; show g.length ≤ K + 1; omega }
  · rw [if_neg h0]
    by_cases h1 : s = 1
    · rw [if_pos h1]
      have e : P.got s = P.g1 := by unfold PipeS.got; rw [if_neg h0, if_pos h1]
      rw [e] at hg
      exact { hm with g1 := by have := h.g1; show g.length ≤ K + 1; omega }
    · rw [if_neg h1]
      exact hm
theorem InvG.go (h : InvG V R K P L) (s : Int) : InvG V R K (P.go s) L := by
  unfold PipeS.go
  split
  · exact (h.setE s (P.end' s).outS rfl).net _ (by
      have h1 := (goes_room s (1 - s) (P.end' s).frames P.net).1
      have h2 : (P.setE s (P.end' s).outS).net = P.net := by unfold PipeS.setE; split; rfl; split <;> rfl
      rw [h2]
      exact h1)
  · exact h
theorem InvG.come (h : InvG V R K P L) (s k : Int) : InvG V R (K + 1) (P.come s k) L := by
  have hl : InvG V R K (P.lose s k) L := h.net _ (P.net.deliver_room _ _ _).1
  unfold PipeS.come
  split
  · unfold PipeS.takeF
    have h1 := hl.setE s (((P.lose s k).end' s).take (frOf (P.look s k))) ((EndS.take_e _ _).2.1)
    refine h1.setG s _ ?_
    rw [PipeS.got_setE]
    split
    · rw [List.length_append]; exact Nat.le_refl _
    · exact Nat.le_succ _
  · exact hl.more
theorem went_few {a b : Int} (N : NetS) (l : List Fr) (hl : l.length ≤ 8) : (((goes N a b l).1.f a b).drop (((goes N a b l).1.f a b).length - (goes N a b l).2)).length ≤ 8 := (went_last N l hl).2
theorem InvG.step (h : InvG V R K P L) (ok : P.Ok) (y : Act10) : InvG V R (K + 1) (playM P L y).1 (playM P L y).2.1 := by
  obtain ⟨k, sd, n, ax, ab⟩ := y
  have hf := h.few
  unfold playM
  dsimp only
  by_cases hs : PipeS.side sd = false
  · rw [if_pos hs]
    exact h.more
  rw [if_neg hs]
  have hsd : sd = 0 ∨ sd = 1 := by
    unfold PipeS.side at hs
    simp only [Bool.or_eq_false_iff, decide_eq_false_iff_not] at hs
    omega
  by_cases k0 : k = 0
  · rw [if_pos k0]
    have h1 := (h.setE sd ((P.end' sd).send ab) ((EndS.send_e _ _).2.1)).more
    show InvG V R (K + 1) (P.setE sd ((P.end' sd).send ab)) _
    split
    · refine { h1 with few := ?_ }
      rcases hsd with rfl | rfl
      · show (L 0).length ≤ _ ∧ (L 1).length ≤ _ ∧ (L 2 ++ [ab]).length ≤ _ ∧ (L 3).length ≤ _
        rw [List.length_append, List.length_singleton]
        omega
      · show (L 0).length ≤ _ ∧ (L 1).length ≤ _ ∧ (L 2).length ≤ _ ∧ (L 3 ++ [ab]).length ≤ _
        rw [List.length_append, List.length_singleton]
        omega
    · exact h1
  rw [if_neg k0]
  by_cases k1 : k = 1
  · rw [if_pos k1]
    have h1 := (h.go sd).more
    refine { h1 with few := ?_ }
    rcases hsd with rfl | rfl
    · have hw : (((P.go 0).net.f 0 (1 - 0)).drop (((P.go 0).net.f 0 (1 - 0)).length - P.goN 0)).length ≤ 8 := went_few (a := 0) (b := 1) P.net P.e0.frames (EndS.frames_le ok.e0)
      show (L 0).length ≤ _ ∧ (L 1 ++ ((P.go 0).net.f 0 (1 - 0)).drop (((P.go 0).net.f 0 (1 - 0)).length - P.goN 0)).length ≤ _ ∧ (L 2).length ≤ _ ∧ (L 3).length ≤ _
      rw [List.length_append]
      omega
    · have hw : (((P.go 1).net.f 1 (1 - 1)).drop (((P.go 1).net.f 1 (1 - 1)).length - P.goN 1)).length ≤ 8 := went_few (a := 1) (b := 0) P.net P.e1.frames (EndS.frames_le ok.e1)
      show (L 0 ++ ((P.go 1).net.f 1 (1 - 1)).drop (((P.go 1).net.f 1 (1 - 1)).length - P.goN 1)).length ≤ _ ∧ (L 1).length ≤ _ ∧ (L 2).length ≤ _ ∧ (L 3).length ≤ _
      rw [List.length_append]
      omega
  rw [if_neg k1]
  by_cases k2 : k = 2
  · rw [if_pos k2]
    exact (h.setE sd ((P.end' sd).tick) ((EndS.tick_e _).2.1)).more
  rw [if_neg k2]
  by_cases k3 : k = 3
  · rw [if_pos k3]
    split
    · exact h.more
    · exact h.come sd n
  rw [if_neg k3]
  by_cases k4 : k = 4
  · rw [if_pos k4]
    exact (h.net _ (P.net.deliver_room _ _ _).1).more
  rw [if_neg k4]
  by_cases k5 : k = 5
  · rw [if_pos k5]
    exact (h.net _ (P.net.double_room _ _ _).1).more
  rw [if_neg k5]
  exact (h.net _ (P.net.flip_room _ _ _ _).1).more
theorem InvG.few4 (h : InvG V R K P L) (hK : K ≤ 900) : ∀ i, i < 4 → (L i).length ≤ 100000 := by
  intro i hi
  have := h.few
  obtain rfl | rfl | rfl | rfl : i = 0 ∨ i = 1 ∨ i = 2 ∨ i = 3 := by omega
  all_goals omega
theorem InvG.got (h : InvG V R K P L) (hK : K ≤ 900) : ∀ s, (P.got s).length ≤ 1000000 := by
  intro s
  have h1 := h.g0
  have h2 := h.g1
  unfold PipeS.got
  split
  · omega
  · split
    · omega
    · exact Nat.zero_le _
theorem InvG.new (e : Int) (first : Nat) (win qn wait room : Int) : InvG (EndS.new e first win qn wait).win (NetS.new 2 room).room 0 (PipeS.new e first win qn wait room) (fun _ => []) :=
  ⟨rfl, rfl, rfl, ⟨Nat.le_refl _, Nat.le_refl _, Nat.le_refl _, Nat.le_refl _⟩, Nat.le_refl _, Nat.le_refl _⟩
/-- what goes, goes behind all else, as far as there is room -/
theorem InvG.goes (h : InvG V R K P L) (ok : P.Ok) (sd o : Int) (ho : (PipeS.side sd = true ∧ o = 1 - sd) ∨ (PipeS.side sd = false ∧ PipeS.side o = false)) :
    P.goN sd ≤ V ∧ ((P.go sd).net.f (1 - o) o).length = (P.net.f (1 - o) o).length + P.goN sd ∧ P.net.f (1 - o) o = ((P.go sd).net.f (1 - o) o).take (P.net.f (1 - o) o).length ∧ ((P.go sd).net.f (1 - o) o).length ≤ R := by
  rcases ho with ⟨hs, rfl⟩ | ⟨hs, ho⟩
  · have e1 : (1 : Int) - (1 - sd) = sd := by omega
    rw [e1]
    obtain ⟨m, h1, h2, h3⟩ := goes_row (a := sd) (b := 1 - sd) (P.end' sd).frames P.net
    have hg : (P.go sd).net = (Go.Proofs.YtcjoemkplghonaaDoor.goes P.net sd (1 - sd) (P.end' sd).frames).1 := by unfold PipeS.go; rw [if_pos hs]
    have hn : P.goN sd = (Go.Proofs.YtcjoemkplghonaaDoor.goes P.net sd (1 - sd) (P.end' sd).frames).2 := by unfold PipeS.goN; rw [if_pos hs]
    have hok := goes_ok sd (1 - sd) (P.end' sd).frames ok.net
    have hrm := (goes_room sd (1 - sd) (P.end' sd).frames P.net).1
    have hle := goes_le (a := sd) (b := 1 - sd) (P.end' sd).frames P.net
    have hwin : (P.end' sd).frames.length ≤ V := by
      unfold PipeS.end'
      split
      · exact Nat.le_trans (EndS.frames_win ok.e0) (Nat.le_of_eq h.v0)
      · exact Nat.le_trans (EndS.frames_win ok.e1) (Nat.le_of_eq h.v1)
    have hfew := hok.few sd (1 - sd)
    rw [hrm, h.rm] at hfew
    rw [hg, hn]
    refine ⟨by omega, ?_, ?_, hfew⟩
    · rw [h1, List.length_append, List.length_map, h2]
    · rw [h1, List.take_left']
      rfl
  · have hg : P.go sd = P := PipeS.go_no hs
    have hn : P.goN sd = 0 := by unfold PipeS.goN; rw [hs, if_neg (by decide)]
    have h2 : P.net.two (1 - o) o = false := by
      cases h9 : P.net.two (1 - o) o
      · rfl
      · rw [two_iff, ok.two] at h9
        obtain ⟨n0, n1⟩ := PipeS.side_no ho
        omega
    have hr := ok.net.none (1 - o) o h2
    rw [hg, hn, hr]
    exact ⟨Nat.zero_le _, rfl, rfl, Nat.zero_le _⟩
end
end Go.Proofs.YtcjoemkplghonaaDoor

/- PipeGoes: the game whatever comes. -/
namespace Go.Proofs.YtcjoemkplghonaaDoor
open Go.RowKit

set_option linter.unusedVariables false
structure GgA (w wr : World) (n p V R K : Nat) (P : PipeS) (x : Nat → SV) (L : Nat → List ByteArray) (F : Nat → Nat → Prop) : Prop where
  wt : Wt w wr (Bx2 n) wr p P x L F
  inv : InvG V R K P L
  b0 : wr.heap[n]? = some (.cells (two2 x 0) 29 (0, 0))
  b1 : wr.heap[n + 1]? = some (.cells (two2 x 2) 29 (0, 0))
  low : w.heap.size ≤ n
def Gg (w wr : World) (n p V R K : Nat) : Prop := ∃ P x L F, GgA w wr n p V R K P x L F
section
variable {w wr wr' : World} {n p V R K : Nat} {P : PipeS} {x : Nat → SV} {L : Nat → List ByteArray} {F : Nat → Nat → Prop}
theorem GgA.two (h : GgA w wr n p V R K P x L F) : ∀ k, Bx2 n k → k < wr.heap.size := fun k hk => by
  have := blk_lt h.b1
  rcases hk with rfl | rfl <;> omega
theorem GgA.more (h : GgA w wr n p V R K P x L F) (e : Ext wr wr') : GgA w wr' n p V R K P x L F :=
  ⟨(h.wt.more e).base (Bx2 n) (fun k hk => Nat.lt_of_lt_of_le (h.two k hk) e.size) h.wt.nk, h.inv, blk_later h.b0 e, blk_later h.b1 e, h.low⟩
theorem Gg.more (h : Gg w wr n p V R K) (e : Ext wr wr') : Gg w wr' n p V R K := by
  obtain ⟨P, x, L, F, h⟩ := h
  exact ⟨P, x, L, F, h.more e⟩
theorem Gg.up (h : Gg w wr n p V R K) : Gg w wr n p V R (K + 1) := by
  obtain ⟨P, x, L, F, h⟩ := h
  exact ⟨P, x, L, F, { h with inv := h.inv.more }⟩
theorem GgA.moves (h : GgA w wr n p V R K P x L F) {P' : PipeS} {K' : Nat} {G : Nat → Prop} (m : PAt wr' p P' G) (o : Off (F 0) wr wr') (g : Grows (F 0) G wr) (hi : InvG V R K' P' L) : GgA w wr' n p V R K' P' x L (upd F 0 G) := by
  have h1 := h.wt.moves m o g
  have hb : ∀ k, Bx2 n k → ¬ F 0 k := fun k hk hf => h.wt.nk 0 k hf hk
  exact ⟨h1.base (Bx2 n) (fun k hk => Nat.lt_of_lt_of_le (h.two k hk) o.size) h1.nk, hi, o.blk h.b0 (hb n (.inl rfl)), o.blk h.b1 (hb (n + 1) (.inr rfl)), h.low⟩
theorem Gg.of {w1 w3 W4 : World} (h : Wt w w1 (Bx2 n) w3 p P x L F) (hi : InvG V R K P L) (hn : w.heap.size ≤ n) (o : Off (Bx2 n) w3 W4)
    (b0 : W4.heap[n]? = some (.cells (two2 x 0) 29 (0, 0))) (b1 : W4.heap[n + 1]? = some (.cells (two2 x 2) 29 (0, 0))) : Gg w W4 n p V R K := by
  have h1 := h.base (fun _ => False) (fun _ hf => hf.elim) (fun _ _ _ hf => hf)
  have h2 := h1.box o (fun i k hk hf => h.nk i k hf hk) (fun _ _ hf => hf) (fun k hk => by rcases hk with rfl | rfl <;> omega)
  have hl : ∀ k, Bx2 n k → k < W4.heap.size := fun k hk => by
    have := blk_lt b1
    rcases hk with rfl | rfl <;> omega
  exact ⟨P, x, L, F, h2.base (Bx2 n) hl h.nk, hi, b0, b1, hn⟩
theorem Gg.ext (h : Gg w wr n p V R K) : Ext w wr := by
  obtain ⟨P, x, L, F, h⟩ := h
  exact h.wt.ext
end
/-- a game begins -/
theorem Gg.new {w w1 w2 : World} {n p fn : Nat} {e : Int} {win qn wait room : Int} {F : Nat → Prop} (hf : fn < 18446744073709551616) (h : Pipe1 w w1 p (PipeS.new e fn win qn wait room) F) (x : Ext w1 w2) (hn : w1.heap.size ≤ n)
    (b0 : w2.heap[n]? = some (.cells zz 29 (0, 0))) (b1 : w2.heap[n + 1]? = some (.cells zz 29 (0, 0))) : Gg w w2 n p (EndS.new e fn win qn wait).win (NetS.new 2 room).room 0 := by
  have hF := h.1.low
  have hs := x.size
  have hb := blk_lt b1
  have ow : ∀ i, i < 4 → As w w2 (fun _ => False) SV.nil ([] : List ByteArray) := fun i _ => ⟨Ow.nil _ _, fun b hb => by cases hb⟩
  refine ⟨_, fun _ => SV.nil, fun _ => [], fun i => if i = 0 then F else fun _ => False, ⟨⟨?_, ?_, ?_, ?_, ?_, Nat.le_refl _, ?_, ?_⟩, InvG.new e fn win qn wait room, b0, b1, Nat.le_trans h.2.2.size hn⟩⟩
  · exact (h.ext x).1
  · exact fun i hi => ow i hi
  · intro i j k h1 h2
    by_cases hi : i = 0
    · by_cases hj : j = 0
      · rw [hi, hj]
      · rw [if_neg hj] at h2; exact h2.elim
    · rw [if_neg hi] at h1; exact h1.elim
  · intro i k hk
    by_cases hi : i = 0
    · rw [if_pos hi] at hk
      exact ⟨h.2.1 k hk, Nat.lt_of_lt_of_le (hF k hk) hs⟩
    · rw [if_neg hi] at hk; exact hk.elim
  · exact Ext.trans h.2.2 x
  · exact fun k hk => ⟨by rcases hk with rfl | rfl <;> omega, rfl⟩
  · intro i k hk
    by_cases hi : i = 0
    · rw [if_pos hi] at hk
      have := hF k hk
      intro hb
      rcases hb with rfl | rfl <;> omega
    · rw [if_neg hi] at hk; exact hk.elim
/-- the other side, as numbers go round -/
theorem other_side {sd o : Int} (h : IntKind.i64.wrap (1 - sd) = o) (h1 : -9223372036854775808 ≤ sd) (h2 : sd ≤ 9223372036854775807) : (PipeS.side sd = true ∧ o = 1 - sd) ∨ (PipeS.side sd = false ∧ PipeS.side o = false) := by
  by_cases h9 : sd = -9223372036854775808 ∨ sd = -9223372036854775807
  · right
    rcases h9 with rfl | rfl
    · have : o = -9223372036854775807 := by rw [← h]; decide
      subst this
      exact ⟨by decide, by decide⟩
    · have : o = -9223372036854775808 := by rw [← h]; decide
      subst this
      exact ⟨by decide, by decide⟩
  · have hw : IntKind.i64.wrap (1 - sd) = 1 - sd := wrapN _ (by omega) (by omega)
    rw [hw] at h
    subst h
    by_cases h3 : sd = 0 ∨ sd = 1
    · left
      refine ⟨?_, rfl⟩
      rcases h3 with rfl | rfl <;> decide
    · right
      unfold PipeS.side
      rw [decide_eq_false (by omega), decide_eq_false (by omega), decide_eq_false (by omega), decide_eq_false (by omega)]
      exact ⟨rfl, rfl⟩
end Go.Proofs.YtcjoemkplghonaaDoor
