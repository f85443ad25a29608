/- The program's pipes in memory (the struct's fields in the order ends, got, net). -/
import Derived.Test.YtlakolkpfkakoaaGreatDoorMI
import Derived.Test.YtlakolkpfkakoaaGreatDoorMM
import Derived.Test.YtlakolkpfkakoaaGreatDoorMN2
import Derived.BigGuard
namespace Go.Proofs.YtlakolkpfkakoaaGreatDoor
open Go.RowKit

set_option linter.unusedVariables false
def Past (k : Nat) : Prop := 0 < k ∧ 1 < k
theorem Past.le {a b : Nat} (h : Past a) (hb : a ≤ b) : Past b := ⟨Nat.lt_of_lt_of_le h.1 hb, Nat.lt_of_lt_of_le h.2 hb⟩
theorem Std.past {w : World} (h : Std w) : Past w.heap.size := ⟨World.block_lt_of_cell? _ _ h.2, World.block_lt_of_cell? _ _ (h.1 0 (by decide))⟩
theorem Std.off {w w' : World} {F : Nat → Prop} (h : Std w) (o : Off F w w') (hF : ∀ k, F k → Past k) : Std w' :=
  ⟨fun i hi => (World.cell?_of_block (o.block _ h.past.2 (fun hf => Nat.lt_irrefl _ (hF _ hf).2))).trans (h.1 i hi), (World.cell?_of_block (o.block _ h.past.1 (fun hf => Nat.lt_irrefl _ (hF _ hf).1))).trans h.2⟩
structure PD where
  p0 : Nat
  p1 : Nat
  q : Nat
  a : SV
  b : SV
structure PA (w : World) (p : Nat) (P : PipeS) (D : PD) (F : Nat → Nat → Prop) : Prop where
  blk : w.heap[p]? = some (.cells #[.pointer (some ⟨D.p0, 0, none⟩), .pointer (some ⟨D.p1, 0, none⟩), .slice D.a.ao D.a.n D.a.c, .slice D.b.ao D.b.n D.b.c, .pointer (some ⟨D.q, 0, none⟩)] 70 (0, 0))
  e0 : EAt w D.p0 P.e0 (F 0)
  e1 : EAt w D.p1 P.e1 (F 1)
  net : NAt w D.q P.net (F 2)
  g0 : Ow w 0 D.a.v P.g0 ∧ ∀ b, D.a.v.ownBlock = some b → F 3 b
  g1 : Ow w 0 D.b.v P.g1 ∧ ∀ b, D.b.v.ownBlock = some b → F 4 b
  own : F 5 p
  dis : Dis F
  low : ∀ i k, F i k → k < w.heap.size
  two : P.net.n = 2
  short : (∀ b ∈ P.g0, b.size ≤ 1000) ∧ ∀ b ∈ P.g1, b.size ≤ 1000
  var : ∀ i k, F i k → Past k
def UF (F : Nat → Nat → Prop) : Nat → Prop := fun k => ∃ i, F i k
def PAt (w : World) (p : Nat) (P : PipeS) (G : Nat → Prop) : Prop := ∃ D F, PA w p P D F ∧ ∀ k, G k ↔ UF F k
section
variable {w w' : World} {p : Nat} {P : PipeS} {D : PD} {F : Nat → Nat → Prop} {G : Nat → Prop}
theorem PA.ok (h : PA w p P D F) : P.Ok := ⟨h.e0.ok, h.e1.ok, h.net.ok, h.two⟩
theorem PAt.ok (h : PAt w p P G) : P.Ok := by obtain ⟨D, F, h, _⟩ := h; exact h.ok
theorem PAt.low (h : PAt w p P G) : ∀ k, G k → k < w.heap.size := fun k hk => by
  obtain ⟨D, F, h, hg⟩ := h
  obtain ⟨i, hi⟩ := (hg k).1 hk
  exact h.low i k hi
theorem PA.off {H : Nat → Prop} (h : PA w p P D F) (o : Off H w w') (hn : ∀ i k, F i k → ¬ H k) : PA w' p P D F :=
  ⟨o.blk h.blk (hn 5 p h.own), h.e0.off o (hn 0), h.e1.off o (hn 1), h.net.off o (hn 2), ⟨ow_keep h.g0.1 fun b hb => o.block b (h.g0.1.low b hb).2 (hn 3 b (h.g0.2 b hb)), h.g0.2⟩, ⟨ow_keep h.g1.1 fun b hb => o.block b (h.g1.1.low b hb).2 (hn 4 b (h.g1.2 b hb)), h.g1.2⟩, h.own, h.dis, fun i k hk => Nat.lt_of_lt_of_le (h.low i k hk) o.size, h.two, h.short, h.var⟩
theorem PAt.off {H : Nat → Prop} (h : PAt w p P G) (o : Off H w w') (hn : ∀ k, G k → ¬ H k) : PAt w' p P G := by
  obtain ⟨D, F, h, hg⟩ := h
  exact ⟨D, F, h.off o (fun i k hk => hn k ((hg k).2 ⟨i, hk⟩)), hg⟩
def MovesP (p : Nat) (P' : PipeS) (F : Nat → Prop) (r : Value) (w : World) (e : Ending) (w' : World) : Prop := ∃ F', e = .returned r ∧ PAt w' p P' F' ∧ Off F w w' ∧ Grows F F' w
theorem uf_grows {i : Nat} {H : Nat → Prop} (g : Grows (F i) H w) : Grows (UF F) (UF (upd F i H)) w := by
  rintro k ⟨j, hj⟩
  by_cases e : j = i
  · subst e
    rw [upd_same] at hj
    exact (g k hj).imp (fun h => ⟨j, h⟩) id
  · rw [upd_ne F H e] at hj
    exact .inl ⟨j, hj⟩
theorem low_upd1 {i : Nat} {H : Nat → Prop} (hl : ∀ i k, F i k → k < w.heap.size) (hs : w.heap.size ≤ w'.heap.size) (hH : ∀ k, H k → k < w'.heap.size) : ∀ j k, upd F i H j k → k < w'.heap.size := by
  intro j k hk
  by_cases e : j = i
  · subst e
    rw [upd_same] at hk
    exact hH k hk
  · rw [upd_ne F H e] at hk
    exact Nat.lt_of_lt_of_le (hl j k hk) hs
theorem PA.past (h : PA w p P D F) {i : Nat} {H : Nat → Prop} (g : Grows (F i) H w) : ∀ j k, upd F i H j k → Past k := fun j k hk => by
  by_cases e : j = i
  · subst e
    rw [upd_same] at hk
    rcases g k hk with h1 | h1
    · exact h.var j k h1
    · exact (h.var 5 p h.own).le (Nat.le_trans (Nat.le_of_lt (blk_lt h.blk)) h1)
  · rw [upd_ne F H e] at hk
    exact h.var j k hk
theorem PAt.past (h : PAt w p P G) : ∀ k, G k → Past k := fun k hk => by
  obtain ⟨D, F, h, hg⟩ := h
  obtain ⟨i, hi⟩ := (hg k).1 hk
  exact h.var i k hi
theorem PA.moved0 (h : PA w p P D F) {S : EndS} {H : Nat → Prop} (n : EAt w' D.p0 S H) (o : Off (F 0) w w') (g : Grows (F 0) H w) : PA w' p { P with e0 := S } D (upd F 0 H) := by
  have hd : ∀ j, j ≠ 0 → ∀ k, F j k → ¬ F 0 k := fun j hj k h1 h2 => hj (h.dis j 0 k h1 h2)
  have hk : ∀ {α : Type} [Elem α] {j : Nat} {v : SV} {xs : List α}, j ≠ 0 → (Ow w 0 v.v xs ∧ ∀ b, v.v.ownBlock = some b → F j b) → (Ow w' 0 v.v xs ∧ ∀ b, v.v.ownBlock = some b → upd F 0 H j b) := fun {α _ j v xs} hj h9 => ⟨ow_keep h9.1 fun b hb => o.block b (h9.1.low b hb).2 (hd j hj b (h9.2 b hb)), by rw [upd_ne F H hj]; exact h9.2⟩
  exact ⟨o.blk h.blk (hd 5 (by decide) p h.own), n, h.e1.off o (hd 1 (by decide)), h.net.off o (hd 2 (by decide)), hk (by decide) h.g0, hk (by decide) h.g1, h.own, h.dis.upd h.low g, low_upd1 h.low o.size n.low, h.two, h.short, h.past g⟩
theorem PA.moved1 (h : PA w p P D F) {S : EndS} {H : Nat → Prop} (n : EAt w' D.p1 S H) (o : Off (F 1) w w') (g : Grows (F 1) H w) : PA w' p { P with e1 := S } D (upd F 1 H) := by
  have hd : ∀ j, j ≠ 1 → ∀ k, F j k → ¬ F 1 k := fun j hj k h1 h2 => hj (h.dis j 1 k h1 h2)
  have hk : ∀ {α : Type} [Elem α] {j : Nat} {v : SV} {xs : List α}, j ≠ 1 → (Ow w 0 v.v xs ∧ ∀ b, v.v.ownBlock = some b → F j b) → (Ow w' 0 v.v xs ∧ ∀ b, v.v.ownBlock = some b → upd F 1 H j b) := fun {α _ j v xs} hj h9 => ⟨ow_keep h9.1 fun b hb => o.block b (h9.1.low b hb).2 (hd j hj b (h9.2 b hb)), by rw [upd_ne F H hj]; exact h9.2⟩
  exact ⟨o.blk h.blk (hd 5 (by decide) p h.own), h.e0.off o (hd 0 (by decide)), n, h.net.off o (hd 2 (by decide)), hk (by decide) h.g0, hk (by decide) h.g1, h.own, h.dis.upd h.low g, low_upd1 h.low o.size n.low, h.two, h.short, h.past g⟩
theorem PA.moved2 (h : PA w p P D F) {S : NetS} {H : Nat → Prop} (n : NAt w' D.q S H) (o : Off (F 2) w w') (g : Grows (F 2) H w) (hS : S.n = 2) : PA w' p { P with net := S } D (upd F 2 H) := by
  have hd : ∀ j, j ≠ 2 → ∀ k, F j k → ¬ F 2 k := fun j hj k h1 h2 => hj (h.dis j 2 k h1 h2)
  have hk : ∀ {α : Type} [Elem α] {j : Nat} {v : SV} {xs : List α}, j ≠ 2 → (Ow w 0 v.v xs ∧ ∀ b, v.v.ownBlock = some b → F j b) → (Ow w' 0 v.v xs ∧ ∀ b, v.v.ownBlock = some b → upd F 2 H j b) := fun {α _ j v xs} hj h9 => ⟨ow_keep h9.1 fun b hb => o.block b (h9.1.low b hb).2 (hd j hj b (h9.2 b hb)), by rw [upd_ne F H hj]; exact h9.2⟩
  exact ⟨o.blk h.blk (hd 5 (by decide) p h.own), h.e0.off o (hd 0 (by decide)), h.e1.off o (hd 1 (by decide)), n, hk (by decide) h.g0, hk (by decide) h.g1, h.own, h.dis.upd h.low g, low_upd1 h.low o.size n.low, hS, h.short, h.past g⟩
theorem off_uf {i : Nat} (o : Off (F i) w w') : Off (UF F) w w' := o.mono fun k hk => ⟨i, hk⟩
end
end Go.Proofs.YtlakolkpfkakoaaGreatDoor

/- What the program's pipes answer: isSide, Send, Tick, Waiting. -/
namespace Go.Proofs.YtlakolkpfkakoaaGreatDoor
open Go.RowKit

set_option linter.unusedVariables false
theorem isSide_any (w : World) (s : Int) : Calls Tryz.prog 34 #[.int .i64 s] w fun e w' => e = .returned (.bool (PipeS.side s)) ∧ w = w' := by
  by_cases h0 : 0 ≤ s
  · by_cases h2 : s < 2
    · have hs : PipeS.side s = true := by
        unfold PipeS.side
        rcases (show s = 0 ∨ s = 1 by omega) with rfl | rfl <;> decide
      rw [hs]
      clear hs
      go_enter Tryz.func34, Tryz.ntmps34
      go_wp2
      go_ret
      exact ⟨rfl, rfl⟩
    · have hs : PipeS.side s = false := by
        unfold PipeS.side
        rw [decide_eq_false (by omega), decide_eq_false (by omega)]
        rfl
      rw [hs]
      clear hs
      go_enter Tryz.func34, Tryz.ntmps34
      go_wp2
      go_ret
      exact ⟨rfl, rfl⟩
  · have hs : PipeS.side s = false := by
      unfold PipeS.side
      rw [decide_eq_false (by omega), decide_eq_false (by omega)]
      rfl
    rw [hs]
    clear hs
    go_enter Tryz.func34, Tryz.ntmps34
    go_wp2
    go_ret
    exact ⟨rfl, rfl⟩

section
variable {w : World} {p : Nat} {P : PipeS} {F : Nat → Prop}
theorem same_movesP (h : PAt w p P F) (r : Value) {w' : World} (x : Ext w w') : MovesP p P F r w (.returned r) w' :=
  ⟨F, rfl, h.off (Off.of_ext (F := fun _ => False) x) (fun _ _ hf => hf), Off.of_ext x, Grows.refl _ _⟩
theorem end0_moves {D : PD} {I : Nat → Nat → Prop} (h : PA w p P D I) (hg : ∀ k, F k ↔ UF I k) {S : EndS} {H : Nat → Prop} {w' : World} (r : Value) (n : EAt w' D.p0 S H) (o : Off (I 0) w w') (g : Grows (I 0) H w) : MovesP p { P with e0 := S } F r w (.returned r) w' := by
  have e : F = UF I := funext fun k => propext (hg k)
  subst e
  exact ⟨UF (upd I 0 H), rfl, ⟨D, _, h.moved0 n o g, fun _ => Iff.rfl⟩, off_uf o, uf_grows g⟩
theorem end1_moves {D : PD} {I : Nat → Nat → Prop} (h : PA w p P D I) (hg : ∀ k, F k ↔ UF I k) {S : EndS} {H : Nat → Prop} {w' : World} (r : Value) (n : EAt w' D.p1 S H) (o : Off (I 1) w w') (g : Grows (I 1) H w) : MovesP p { P with e1 := S } F r w (.returned r) w' := by
  have e : F = UF I := funext fun k => propext (hg k)
  subst e
  exact ⟨UF (upd I 1 H), rfl, ⟨D, _, h.moved1 n o g, fun _ => Iff.rfl⟩, off_uf o, uf_grows g⟩
theorem net_moves {D : PD} {I : Nat → Nat → Prop} (h : PA w p P D I) (hg : ∀ k, F k ↔ UF I k) {S : NetS} {H : Nat → Prop} {w' : World} (r : Value) (n : NAt w' D.q S H) (o : Off (I 2) w w') (g : Grows (I 2) H w) (hS : S.n = P.net.n) : MovesP p { P with net := S } F r w (.returned r) w' := by
  have e : F = UF I := funext fun k => propext (hg k)
  subst e
  exact ⟨UF (upd I 2 H), rfl, ⟨D, _, h.moved2 n o g (hS.trans h.two), fun _ => Iff.rfl⟩, off_uf o, uf_grows g⟩

set_option maxRecDepth 50000 in
set_option maxHeartbeats 1600000 in
theorem iTick (h : PAt w p P F) (s : Int) :
    Calls Tryz.prog 12 #[.pointer (some ⟨p, 0, none⟩), .int .i64 s] w (MovesP p (P.tick s) F (.tuple #[]) w) := by
  have HP := Lib.hid h
  obtain ⟨D, I, hA, hg⟩ := h
  have HA := Lib.hid hA
  have HG := Lib.hid hg
  obtain ⟨p0, p1, q, ⟨ga, gn, gc⟩, ⟨ha, hn, hc⟩⟩ := D
  have hb := hA.blk
  dsimp only at hb
  obtain ⟨c0, c1, c2, c3, c4⟩ := cells5 hb
  clear hA hg hb
  by_cases h0 : s = 0
  · subst h0
    go_enter Tryz.func12, Tryz.ntmps12
    go_wp2_with fail
    refine (isSide_any w 0).mono ?_
    rintro ev w1 ⟨rfl, rfl⟩
    rw [show PipeS.side 0 = true by decide]
    go_wp2_with fail
    refine (pTick HA.out.e0).mono ?_
    rintro ev w2 ⟨H, rfl, n, o, g⟩
    have HM := Lib.hid (end0_moves HA.out HG.out (.tuple #[]) n o g)
    clear n o g
    go_wp2
    all_goals refine bodyPost_ret (v := .tuple #[]) (by simp [results, Tryz.results12, go_sem]) rfl ?_
    all_goals exact HM.out
  · by_cases h1 : s = 1
    · subst h1
      go_enter Tryz.func12, Tryz.ntmps12
      go_wp2_with fail
      refine (isSide_any w 1).mono ?_
      rintro ev w1 ⟨rfl, rfl⟩
      rw [show PipeS.side 1 = true by decide]
      go_wp2_with fail
      refine (pTick HA.out.e1).mono ?_
      rintro ev w2 ⟨H, rfl, n, o, g⟩
      have HM := Lib.hid (end1_moves HA.out HG.out (.tuple #[]) n o g)
      clear n o g
      go_wp2
      all_goals refine bodyPost_ret (v := .tuple #[]) (by simp [results, Tryz.results12, go_sem]) rfl ?_
      all_goals exact HM.out
    · have hs : PipeS.side s = false := by unfold PipeS.side; rw [decide_eq_false h0, decide_eq_false h1]; rfl
      rw [PipeS.tick_no hs]
      have HM := Lib.hid (fun (W : World) (x : Ext w W) => same_movesP HP.out (.tuple #[]) x)
      have cS := isSide_any w s
      rw [hs] at cS
      replace cS := Lib.hid cS
      clear h0 h1 hs
      go_enter Tryz.func12, Tryz.ntmps12
      go_wp2_with fail
      refine cS.out.mono ?_
      rintro ev w1 ⟨rfl, rfl⟩
      go_wp2
      all_goals refine bodyPost_ret (v := .tuple #[]) (by simp [results, Tryz.results12, go_sem]) rfl ?_
      all_goals exact HM.out _ (Ext.refl _)

set_option maxRecDepth 50000 in
set_option maxHeartbeats 1600000 in
theorem iSend (h : PAt w p P F) (s : Int) (b : ByteArray) (hb9 : b.size ≤ 1000) :
    Calls Tryz.prog 8 #[.pointer (some ⟨p, 0, none⟩), .int .i64 s, .string b] w (MovesP p (P.send s b) F (.int .i64 (P.sendE s b : Nat)) w) := by
  have HP := Lib.hid h
  obtain ⟨D, I, hA, hg⟩ := h
  have HA := Lib.hid hA
  have HG := Lib.hid hg
  obtain ⟨p0, p1, q, ⟨ga, gn, gc⟩, ⟨ha, hn, hc⟩⟩ := D
  have hb := hA.blk
  dsimp only at hb
  obtain ⟨c0, c1, c2, c3, c4⟩ := cells5 hb
  clear hA hg hb
  by_cases h0 : s = 0
  · subst h0
    go_enter Tryz.func8, Tryz.ntmps8
    go_wp2_with fail
    refine (isSide_any w 0).mono ?_
    rintro ev w1 ⟨rfl, rfl⟩
    rw [show PipeS.side 0 = true by decide]
    go_wp2_with fail
    refine (pSendE HA.out.e0 b hb9).mono ?_
    rintro ev w2 ⟨H, rfl, n, o, g⟩
    have HM := Lib.hid (end0_moves HA.out HG.out (.int .i64 ((P.e0.sendE b : Nat) : Int)) n o g)
    clear n o g
    go_wp2
    all_goals refine bodyPost_ret (v := .int .i64 ((P.e0.sendE b : Nat) : Int)) (by simp [results, Tryz.results8, go_sem]) rfl ?_
    all_goals exact HM.out
  · by_cases h1 : s = 1
    · subst h1
      go_enter Tryz.func8, Tryz.ntmps8
      go_wp2_with fail
      refine (isSide_any w 1).mono ?_
      rintro ev w1 ⟨rfl, rfl⟩
      rw [show PipeS.side 1 = true by decide]
      go_wp2_with fail
      refine (pSendE HA.out.e1 b hb9).mono ?_
      rintro ev w2 ⟨H, rfl, n, o, g⟩
      have HM := Lib.hid (end1_moves HA.out HG.out (.int .i64 ((P.e1.sendE b : Nat) : Int)) n o g)
      clear n o g
      go_wp2
      all_goals refine bodyPost_ret (v := .int .i64 ((P.e1.sendE b : Nat) : Int)) (by simp [results, Tryz.results8, go_sem]) rfl ?_
      all_goals exact HM.out
    · have hs : PipeS.side s = false := by unfold PipeS.side; rw [decide_eq_false h0, decide_eq_false h1]; rfl
      rw [PipeS.send_no hs, show P.sendE s b = 100 from by unfold PipeS.sendE; rw [hs, if_neg (by decide)]]
      have HM := Lib.hid (fun (W : World) (x : Ext w W) => same_movesP HP.out (.int .i64 100) x)
      have cS := isSide_any w s
      rw [hs] at cS
      replace cS := Lib.hid cS
      clear h0 h1 hs
      go_enter Tryz.func8, Tryz.ntmps8
      go_wp2_with fail
      refine cS.out.mono ?_
      rintro ev w1 ⟨rfl, rfl⟩
      go_wp2
      all_goals refine bodyPost_ret (v := .int .i64 100) (by simp [results, Tryz.results8, go_sem]) rfl ?_
      all_goals exact HM.out _ (Ext.refl _)

set_option maxRecDepth 50000 in
set_option maxHeartbeats 1600000 in
theorem iWaiting (h : PAt w p P F) (s : Int) :
    Calls Tryz.prog 25 #[.pointer (some ⟨p, 0, none⟩), .int .i64 s] w (MovesP p (P) F (.int .i64 (P.waiting s : Nat)) w) := by
  have HP := Lib.hid h
  obtain ⟨D, I, hA, hg⟩ := h
  have HA := Lib.hid hA
  have HG := Lib.hid hg
  obtain ⟨p0, p1, q, ⟨ga, gn, gc⟩, ⟨ha, hn, hc⟩⟩ := D
  have hb := hA.blk
  dsimp only at hb
  obtain ⟨c0, c1, c2, c3, c4⟩ := cells5 hb
  clear hA hg hb
  by_cases h0 : s = 0
  · subst h0
    go_enter Tryz.func25, Tryz.ntmps25
    go_wp2_with fail
    refine (isSide_any w 0).mono ?_
    rintro ev w1 ⟨rfl, rfl⟩
    rw [show PipeS.side 0 = true by decide]
    go_wp2_with fail
    refine (pWaiting HA.out.e0).mono ?_
    rintro ev w2 ⟨H, rfl, n, o, g⟩
    have HM := Lib.hid (end0_moves HA.out HG.out (.int .i64 ((P.e0.l.length : Nat) : Int)) n o g)
    clear n o g
    go_wp2
    all_goals refine bodyPost_ret (v := .int .i64 ((P.e0.l.length : Nat) : Int)) (by simp [results, Tryz.results25, go_sem]) rfl ?_
    all_goals exact HM.out
  · by_cases h1 : s = 1
    · subst h1
      go_enter Tryz.func25, Tryz.ntmps25
      go_wp2_with fail
      refine (isSide_any w 1).mono ?_
      rintro ev w1 ⟨rfl, rfl⟩
      rw [show PipeS.side 1 = true by decide]
      go_wp2_with fail
      refine (pWaiting HA.out.e1).mono ?_
      rintro ev w2 ⟨H, rfl, n, o, g⟩
      have HM := Lib.hid (end1_moves HA.out HG.out (.int .i64 ((P.e1.l.length : Nat) : Int)) n o g)
      clear n o g
      go_wp2
      all_goals refine bodyPost_ret (v := .int .i64 ((P.e1.l.length : Nat) : Int)) (by simp [results, Tryz.results25, go_sem]) rfl ?_
      all_goals exact HM.out
    · have hs : PipeS.side s = false := by unfold PipeS.side; rw [decide_eq_false h0, decide_eq_false h1]; rfl
      rw [show P.waiting s = 0 from by unfold PipeS.waiting; rw [hs, if_neg (by decide)]]
      have HM := Lib.hid (fun (W : World) (x : Ext w W) => same_movesP HP.out (.int .i64 0) x)
      have cS := isSide_any w s
      rw [hs] at cS
      replace cS := Lib.hid cS
      clear h0 h1 hs
      go_enter Tryz.func25, Tryz.ntmps25
      go_wp2_with fail
      refine cS.out.mono ?_
      rintro ev w1 ⟨rfl, rfl⟩
      go_wp2
      all_goals refine bodyPost_ret (v := .int .i64 0) (by simp [results, Tryz.results25, go_sem]) rfl ?_
      all_goals exact HM.out _ (Ext.refl _)
end
end Go.Proofs.YtlakolkpfkakoaaGreatDoor

/- The other side, as numbers go round: what a net answers between it and a side. -/
namespace Go.Proofs.YtlakolkpfkakoaaGreatDoor
open Go.RowKit

set_option linter.unusedVariables false
theorem other_any (w : World) (s : Int) : Calls Tryz.prog 41 #[.int .i64 s] w fun e w' => e = .returned (.int .i64 (IntKind.i64.wrap (1 - s))) ∧ w = w' := by
  obtain ⟨a, ha⟩ : ∃ a, IntKind.i64.wrap (1 - s) = a := ⟨_, rfl⟩
  rw [ha]
  go_enter Tryz.func41, Tryz.ntmps41
  go_wp2
  go_ret
  exact ⟨rfl, rfl⟩
theorem net_out {N : NetS} (ok : N.Ok) {a b : Int} (h : N.two a b = false) (k bit : Int) : N.there a b k = false ∧ N.look a b k = ⟨#[]⟩ ∧ N.deliver a b k = N ∧ N.canD a b k = false ∧ N.double a b k = N ∧ N.canF a b k = false ∧ N.flip a b k bit = N := by
  have hf := ok.none a b h
  have ht : N.there a b k = false := by unfold NetS.there; rw [hf]; simp
  have hF : N.canF a b k = false := by unfold NetS.canF; rw [ht, Bool.false_and]
  refine ⟨ht, ?_, ?_, ?_, ?_, hF, ?_⟩
  · unfold NetS.look; rw [ht, if_neg (by decide)]
  · unfold NetS.deliver; rw [ht, if_neg (by decide)]
  · unfold NetS.canD; rw [ht, Bool.false_and]
  · unfold NetS.double; rw [ht, if_neg (by decide)]
  · unfold NetS.flip; rw [hF, if_neg (by decide)]
theorem net_wrap {N : NetS} (ok : N.Ok) (h2 : N.n = 2) (s k bit : Int) :
    N.there (IntKind.i64.wrap (1 - s)) s k = N.there (1 - s) s k ∧ N.look (IntKind.i64.wrap (1 - s)) s k = N.look (1 - s) s k ∧ N.deliver (IntKind.i64.wrap (1 - s)) s k = N.deliver (1 - s) s k ∧
    N.canD (IntKind.i64.wrap (1 - s)) s k = N.canD (1 - s) s k ∧ N.double (IntKind.i64.wrap (1 - s)) s k = N.double (1 - s) s k ∧ N.canF (IntKind.i64.wrap (1 - s)) s k = N.canF (1 - s) s k ∧ N.flip (IntKind.i64.wrap (1 - s)) s k bit = N.flip (1 - s) s k bit := by
  by_cases hs : s = 0 ∨ s = 1
  · have hw : IntKind.i64.wrap (1 - s) = 1 - s := wrapN _ (by omega) (by omega)
    rw [hw]
    exact ⟨rfl, rfl, rfl, rfl, rfl, rfl, rfl⟩
  · have h9 : ∀ a, N.two a s = false := fun a => two_no (by rw [h2]; omega)
    obtain ⟨a1, a2, a3, a4, a5, a6, a7⟩ := net_out ok (h9 (IntKind.i64.wrap (1 - s))) k bit
    obtain ⟨b1, b2, b3, b4, b5, b6, b7⟩ := net_out ok (h9 (1 - s)) k bit
    exact ⟨a1.trans b1.symm, a2.trans b2.symm, a3.trans b3.symm, a4.trans b4.symm, a5.trans b5.symm, a6.trans b6.symm, a7.trans b7.symm⟩
end Go.Proofs.YtlakolkpfkakoaaGreatDoor

/- What the program's pipes answer: Look, Lose, Double, Flip. -/
namespace Go.Proofs.YtlakolkpfkakoaaGreatDoor
open Go.RowKit

set_option linter.unusedVariables false
section
variable {w : World} {p : Nat} {P : PipeS} {F : Nat → Prop}
theorem MovesP.from {P' : PipeS} {w1 w2 : World} {r : Value} {e : Ending} (x : Ext w w1) (h : MovesP p P' F r w1 e w2) : MovesP p P' F r w e w2 := by
  obtain ⟨F', h1, h2, o, g⟩ := h
  have hx := x.size
  exact ⟨F', h1, h2, (Off.of_ext (F := F) x).trans o (Grows.refl _ _), fun k hk => (g k hk).imp id (fun h => Nat.le_trans hx h)⟩
theorem PA.ext {D : PD} {I : Nat → Nat → Prop} {w1 : World} (h : PA w p P D I) (x : Ext w w1) : PA w1 p P D I := h.off (Off.of_ext (F := fun _ => False) x) (fun _ _ _ hf => hf)
theorem net_call {D : PD} {I : Nat → Nat → Prop} (hA : PA w p P D I) (hg : ∀ k, F k ↔ UF I k) {w1 w2 : World} (x : Ext w w1) {S : NetS} {H : Nat → Prop} (r : Value) (n : NAt w2 D.q S H) (o : Off (I 2) w1 w2) (g : Grows (I 2) H w1) (hS : S.n = P.net.n) : MovesP p { P with net := S } F r w (.returned r) w2 :=
  (net_moves (hA.ext x) hg r n o g hS).from x
theorem PA.net_blk {D : PD} {I : Nat → Nat → Prop} (hA : PA w p P D I) {w1 w2 : World} (x : Ext w w1) (o : Off (I 2) w1 w2) : w2.heap[p]? = some (.cells #[.pointer (some ⟨D.p0, 0, none⟩), .pointer (some ⟨D.p1, 0, none⟩), .slice D.a.ao D.a.n D.a.c, .slice D.b.ao D.b.n D.b.c, .pointer (some ⟨D.q, 0, none⟩)] 70 (0, 0)) :=
  o.blk (hA.ext x).blk (fun h => absurd (hA.dis 5 2 p hA.own h) (by decide))

set_option maxRecDepth 50000 in
set_option maxHeartbeats 1600000 in
theorem iLook (h : PAt w p P F) (s k : Int) :
    Calls Tryz.prog 28 #[.pointer (some ⟨p, 0, none⟩), .int .i64 s, .int .i64 k] w (MovesP p P F (.tuple #[.string (P.look s k), .bool (P.there s k)]) w) := by
  have ok := h.ok
  obtain ⟨D, I, hA, hg⟩ := h
  have HA := Lib.hid hA
  have HG := Lib.hid hg
  obtain ⟨p0, p1, q, ⟨ga, gn, gc⟩, ⟨ha, hn, hc⟩⟩ := D
  have hS := Lib.hid (And.intro (Eq.refl P.net.room) (Eq.refl P.net.n))
  obtain ⟨O, hO⟩ : ∃ O, O = IntKind.i64.wrap (1 - s) := ⟨_, rfl⟩
  have HOt : Hid (∀ W, Calls Tryz.prog 41 #[.int .i64 s] W fun e w' => e = .returned (.int .i64 O) ∧ W = w') := Lib.hid (fun W => by rw [hO]; exact other_any W s)
  have HC : Hid (∀ W G, NAt W q P.net G → Calls Tryz.prog 60 #[.pointer (some ⟨q, 0, none⟩), .int .i64 O, .int .i64 s, .int .i64 k] W (Moves q (P.net) G (.tuple #[.string (P.look s k), .bool (P.there s k)]) W)) := Lib.hid (fun W G n => by
    have h9 := net_wrap ok.net ok.two s k 0
    rw [← hO] at h9
    have h8 := pLook n O s k
    rw [h9.1, h9.2.1] at h8
    exact h8)
  obtain ⟨LK, hLK⟩ : ∃ z, z = P.look s k := ⟨_, rfl⟩
  rw [← hLK] at HC ⊢
  clear hLK
  obtain ⟨TH, hTH⟩ : ∃ z, z = P.there s k := ⟨_, rfl⟩
  rw [← hTH] at HC ⊢
  clear hTH

  clear hA hg ok hO
  go_enter Tryz.func28, Tryz.ntmps28
  go_wp2_with fail
  (refine wp_region_X_lit (K := fun W => W.cell? ⟨p, 4, none⟩ = some (.pointer (some ⟨q, 0, none⟩))) (by kernel_rfl) (fun w1 hw1 => ?_))
  have HX := Lib.hid hw1
  have HA1 := Lib.hid (HA.out.ext hw1)
  have k1 : w1.cell? ⟨p, 4, none⟩ = some (.pointer (some ⟨q, 0, none⟩)) := (cells5 HA1.out.blk).1.2.2.2.2
  clear hw1
  refine xtv 0 (h := ?_)
  refine xtv 1 (h := ?_)
  refine xtv 2 (h := ?_)
  refine xtv 3 (hv := by intro w' hw'; have hc := hw'; go_simp; first | done | with_reducible rfl) (h := ?_)
  refine xtv 4 (h := ?_)
  refine xtv 6 (h := ?_)
  refine xtv 7 (h := ?_)
  refine xone 5 (hk := k1) (h := RunX.of 5 (h := ?_))
  go_simp
  refine (HOt.out _).mono ?_
  rintro ev w2 ⟨rfl, rfl⟩
  dsimp only
  (try (simp only [Act.put, List.setIfInBounds_toArray, List.set]))
  refine xone 8 (hk := k1) (h := RunX.of 8 (h := ?_))
  go_simp
  refine (HC.out _ _ HA1.out.net).mono ?_
  rintro ev w2 ⟨H, rfl, n, o, g⟩
  dsimp only
  (try (simp only [Act.put, List.setIfInBounds_toArray, List.set]))
  have k2 : w2.cell? ⟨p, 4, none⟩ = some (.pointer (some ⟨q, 0, none⟩)) := (cells5 (HA.out.net_blk HX.out o)).1.2.2.2.2
  have HM := Lib.hid (net_call HA.out HG.out HX.out (.tuple #[.string LK, .bool TH]) n o g rfl)
  clear n o g k1
  refine xtv 9 (h := ?_)
  refine xtv 10 (h := ?_)
  refine xtv 11 (h := ?_)
  refine xtv 12 (h := ?_)
  (refine xdone (by kernel_rfl) (k2) ?_)
  go_wp2
  go_ret2
  exact HM.out

set_option maxRecDepth 50000 in
set_option maxHeartbeats 1600000 in
theorem iLose (h : PAt w p P F) (s k : Int) :
    Calls Tryz.prog 16 #[.pointer (some ⟨p, 0, none⟩), .int .i64 s, .int .i64 k] w (MovesP p (P.lose s k) F (.bool (P.there s k)) w) := by
  have ok := h.ok
  obtain ⟨D, I, hA, hg⟩ := h
  have HA := Lib.hid hA
  have HG := Lib.hid hg
  obtain ⟨p0, p1, q, ⟨ga, gn, gc⟩, ⟨ha, hn, hc⟩⟩ := D
  have hS := Lib.hid (P.net.deliver_room (1 - s) s k)
  obtain ⟨O, hO⟩ : ∃ O, O = IntKind.i64.wrap (1 - s) := ⟨_, rfl⟩
  have HOt : Hid (∀ W, Calls Tryz.prog 41 #[.int .i64 s] W fun e w' => e = .returned (.int .i64 O) ∧ W = w') := Lib.hid (fun W => by rw [hO]; exact other_any W s)
  have HC : Hid (∀ W G, NAt W q P.net G → Calls Tryz.prog 48 #[.pointer (some ⟨q, 0, none⟩), .int .i64 O, .int .i64 s, .int .i64 k] W (Moves q ((P.lose s k).net) G (.tuple #[.string (P.look s k), .bool (P.there s k)]) W)) := Lib.hid (fun W G n => by
    have h9 := net_wrap ok.net ok.two s k 0
    rw [← hO] at h9
    have h8 := pDeliver n O s k
    rw [h9.1, h9.2.1, h9.2.2.1] at h8
    exact h8)
  obtain ⟨LK, hLK⟩ : ∃ z, z = P.look s k := ⟨_, rfl⟩
  rw [← hLK] at HC
  clear hLK
  obtain ⟨TH, hTH⟩ : ∃ z, z = P.there s k := ⟨_, rfl⟩
  rw [← hTH] at HC ⊢
  clear hTH

  clear hA hg ok hO
  go_enter Tryz.func16, Tryz.ntmps16
  go_wp2_with fail
  (refine wp_region_X_lit (K := fun W => W.cell? ⟨p, 4, none⟩ = some (.pointer (some ⟨q, 0, none⟩))) (by kernel_rfl) (fun w1 hw1 => ?_))
  have HX := Lib.hid hw1
  have HA1 := Lib.hid (HA.out.ext hw1)
  have k1 : w1.cell? ⟨p, 4, none⟩ = some (.pointer (some ⟨q, 0, none⟩)) := (cells5 HA1.out.blk).1.2.2.2.2
  clear hw1
  refine xtv 0 (h := ?_)
  refine xtv 1 (h := ?_)
  refine xtv 2 (h := ?_)
  refine xtv 3 (hv := by intro w' hw'; have hc := hw'; go_simp; first | done | with_reducible rfl) (h := ?_)
  refine xtv 4 (h := ?_)
  refine xtv 6 (h := ?_)
  refine xtv 7 (h := ?_)
  refine xone 5 (hk := k1) (h := RunX.of 5 (h := ?_))
  go_simp
  refine (HOt.out _).mono ?_
  rintro ev w2 ⟨rfl, rfl⟩
  dsimp only
  (try (simp only [Act.put, List.setIfInBounds_toArray, List.set]))
  refine xone 8 (hk := k1) (h := RunX.of 8 (h := ?_))
  go_simp
  refine (HC.out _ _ HA1.out.net).mono ?_
  rintro ev w2 ⟨H, rfl, n, o, g⟩
  dsimp only
  (try (simp only [Act.put, List.setIfInBounds_toArray, List.set]))
  have k2 : w2.cell? ⟨p, 4, none⟩ = some (.pointer (some ⟨q, 0, none⟩)) := (cells5 (HA.out.net_blk HX.out o)).1.2.2.2.2
  have HM := Lib.hid (net_call HA.out HG.out HX.out (.bool TH) n o g hS.out.2)
  clear n o g k1
  refine xtv 9 (h := ?_)
  refine xtv 10 (h := ?_)
  refine xtv 11 (h := ?_)
  refine xtv 12 (h := ?_)
  refine xtv 13 (h := ?_)
  (refine xdone (by kernel_rfl) (k2) ?_)
  go_wp2
  go_ret
  exact HM.out

set_option maxRecDepth 50000 in
set_option maxHeartbeats 1600000 in
theorem iDouble (h : PAt w p P F) (s k : Int) :
    Calls Tryz.prog 18 #[.pointer (some ⟨p, 0, none⟩), .int .i64 s, .int .i64 k] w (MovesP p (P.double s k) F (.bool (P.net.canD (1 - s) s k)) w) := by
  have ok := h.ok
  obtain ⟨D, I, hA, hg⟩ := h
  have HA := Lib.hid hA
  have HG := Lib.hid hg
  obtain ⟨p0, p1, q, ⟨ga, gn, gc⟩, ⟨ha, hn, hc⟩⟩ := D
  have hS := Lib.hid (P.net.double_room (1 - s) s k)
  obtain ⟨O, hO⟩ : ∃ O, O = IntKind.i64.wrap (1 - s) := ⟨_, rfl⟩
  have HOt : Hid (∀ W, Calls Tryz.prog 41 #[.int .i64 s] W fun e w' => e = .returned (.int .i64 O) ∧ W = w') := Lib.hid (fun W => by rw [hO]; exact other_any W s)
  have HC : Hid (∀ W G, NAt W q P.net G → Calls Tryz.prog 55 #[.pointer (some ⟨q, 0, none⟩), .int .i64 O, .int .i64 s, .int .i64 k] W (Moves q ((P.double s k).net) G (.bool (P.net.canD (1 - s) s k)) W)) := Lib.hid (fun W G n => by
    have h9 := net_wrap ok.net ok.two s k 0
    rw [← hO] at h9
    have h8 := pDouble n O s k
    rw [h9.2.2.2.1, h9.2.2.2.2.1] at h8
    exact h8)
  obtain ⟨TH, hTH⟩ : ∃ z, z = P.net.canD (1 - s) s k := ⟨_, rfl⟩
  rw [← hTH] at HC ⊢
  clear hTH

  clear hA hg ok hO
  go_enter Tryz.func18, Tryz.ntmps18
  go_wp2_with fail
  (refine wp_region_X_lit (K := fun W => W.cell? ⟨p, 4, none⟩ = some (.pointer (some ⟨q, 0, none⟩))) (by kernel_rfl) (fun w1 hw1 => ?_))
  have HX := Lib.hid hw1
  have HA1 := Lib.hid (HA.out.ext hw1)
  have k1 : w1.cell? ⟨p, 4, none⟩ = some (.pointer (some ⟨q, 0, none⟩)) := (cells5 HA1.out.blk).1.2.2.2.2
  clear hw1
  refine xtv 0 (h := ?_)
  refine xtv 1 (h := ?_)
  refine xtv 2 (h := ?_)
  refine xtv 3 (hv := by intro w' hw'; have hc := hw'; go_simp; first | done | with_reducible rfl) (h := ?_)
  refine xtv 4 (h := ?_)
  refine xtv 6 (h := ?_)
  refine xtv 7 (h := ?_)
  refine xone 5 (hk := k1) (h := RunX.of 5 (h := ?_))
  go_simp
  refine (HOt.out _).mono ?_
  rintro ev w2 ⟨rfl, rfl⟩
  dsimp only
  (try (simp only [Act.put, List.setIfInBounds_toArray, List.set]))
  refine xone 8 (hk := k1) (h := RunX.of 8 (h := ?_))
  go_simp
  refine (HC.out _ _ HA1.out.net).mono ?_
  rintro ev w2 ⟨H, rfl, n, o, g⟩
  dsimp only
  (try (simp only [Act.put, List.setIfInBounds_toArray, List.set]))
  have k2 : w2.cell? ⟨p, 4, none⟩ = some (.pointer (some ⟨q, 0, none⟩)) := (cells5 (HA.out.net_blk HX.out o)).1.2.2.2.2
  have HM := Lib.hid (net_call HA.out HG.out HX.out (.bool TH) n o g hS.out.2)
  clear n o g k1
  refine xtv 9 (h := ?_)
  (refine xdone (by kernel_rfl) (k2) ?_)
  go_wp2
  go_ret
  exact HM.out

set_option maxRecDepth 50000 in
set_option maxHeartbeats 1600000 in
theorem iFlip (h : PAt w p P F) (s k bit : Int) (hb : -9223372036854775808 ≤ bit) (hb2 : bit ≤ 9223372036854775807) :
    Calls Tryz.prog 20 #[.pointer (some ⟨p, 0, none⟩), .int .i64 s, .int .i64 k, .int .i64 bit] w (MovesP p (P.flip s k bit) F (.bool (P.net.canF (1 - s) s k)) w) := by
  have ok := h.ok
  obtain ⟨D, I, hA, hg⟩ := h
  have HA := Lib.hid hA
  have HG := Lib.hid hg
  obtain ⟨p0, p1, q, ⟨ga, gn, gc⟩, ⟨ha, hn, hc⟩⟩ := D
  have hS := Lib.hid (P.net.flip_room (1 - s) s k bit)
  obtain ⟨O, hO⟩ : ∃ O, O = IntKind.i64.wrap (1 - s) := ⟨_, rfl⟩
  have HOt : Hid (∀ W, Calls Tryz.prog 41 #[.int .i64 s] W fun e w' => e = .returned (.int .i64 O) ∧ W = w') := Lib.hid (fun W => by rw [hO]; exact other_any W s)
  have HC : Hid (∀ W G, NAt W q P.net G → Calls Tryz.prog 57 #[.pointer (some ⟨q, 0, none⟩), .int .i64 O, .int .i64 s, .int .i64 k, .int .i64 bit] W (Moves q ((P.flip s k bit).net) G (.bool (P.net.canF (1 - s) s k)) W)) := Lib.hid (fun W G n => by
    have h9 := net_wrap ok.net ok.two s k bit
    rw [← hO] at h9
    have h8 := pFlip n O s k bit hb hb2
    rw [h9.2.2.2.2.2.1, h9.2.2.2.2.2.2] at h8
    exact h8)
  obtain ⟨TH, hTH⟩ : ∃ z, z = P.net.canF (1 - s) s k := ⟨_, rfl⟩
  rw [← hTH] at HC ⊢
  clear hTH
  clear hb hb2

  clear hA hg ok hO
  go_enter Tryz.func20, Tryz.ntmps20
  go_wp2_with fail
  (refine wp_region_X_lit (K := fun W => W.cell? ⟨p, 4, none⟩ = some (.pointer (some ⟨q, 0, none⟩))) (by kernel_rfl) (fun w1 hw1 => ?_))
  have HX := Lib.hid hw1
  have HA1 := Lib.hid (HA.out.ext hw1)
  have k1 : w1.cell? ⟨p, 4, none⟩ = some (.pointer (some ⟨q, 0, none⟩)) := (cells5 HA1.out.blk).1.2.2.2.2
  clear hw1
  refine xtv 0 (h := ?_)
  refine xtv 1 (h := ?_)
  refine xtv 2 (h := ?_)
  refine xtv 3 (hv := by intro w' hw'; have hc := hw'; go_simp; first | done | with_reducible rfl) (h := ?_)
  refine xtv 4 (h := ?_)
  refine xtv 6 (h := ?_)
  refine xtv 7 (h := ?_)
  refine xtv 8 (h := ?_)
  refine xone 5 (hk := k1) (h := RunX.of 5 (h := ?_))
  go_simp
  refine (HOt.out _).mono ?_
  rintro ev w2 ⟨rfl, rfl⟩
  dsimp only
  (try (simp only [Act.put, List.setIfInBounds_toArray, List.set]))
  refine xone 9 (hk := k1) (h := RunX.of 9 (h := ?_))
  go_simp
  refine (HC.out _ _ HA1.out.net).mono ?_
  rintro ev w2 ⟨H, rfl, n, o, g⟩
  dsimp only
  (try (simp only [Act.put, List.setIfInBounds_toArray, List.set]))
  have k2 : w2.cell? ⟨p, 4, none⟩ = some (.pointer (some ⟨q, 0, none⟩)) := (cells5 (HA.out.net_blk HX.out o)).1.2.2.2.2
  have HM := Lib.hid (net_call HA.out HG.out HX.out (.bool TH) n o g hS.out.2)
  clear n o g k1
  refine xtv 10 (h := ?_)
  (refine xdone (by kernel_rfl) (k2) ?_)
  go_wp2
  go_ret
  exact HM.out
end
end Go.Proofs.YtlakolkpfkakoaaGreatDoor

/- What the program's pipes answer: New, Got. -/
namespace Go.Proofs.YtlakolkpfkakoaaGreatDoor
open Go.RowKit

set_option linter.unusedVariables false
def GotsP (p : Nat) (P' : PipeS) (F : Nat → Prop) (l : List ByteArray) (w : World) (e : Ending) (w' : World) : Prop := ∃ ao n c F', e = .returned (.slice ao n c) ∧ Sl w' (.slice ao n c) l ∧ (l = [] ∨ ∀ b, (Value.slice ao n c).ownBlock = some b → w.heap.size ≤ b ∧ ¬ F' b) ∧ PAt w' p P' F' ∧ Off F w w' ∧ Grows F F' w

section
variable {w : World} {p : Nat} {P : PipeS} {F : Nat → Prop}
theorem gotsP_of (h : PAt w p P F) {w' : World} (x : Ext w w') {ao : Option Addr} {n c : Nat} {l : List ByteArray} (ho : Ow w' w.heap.size (.slice ao n c) l) : GotsP p P F l w (.returned (.slice ao n c)) w' :=
  ⟨ao, n, c, F, rfl, ho.sl, .inr fun b hb => ⟨(ho.low b hb).1, fun hf => by have := h.low b hf; have := (ho.low b hb).1; omega⟩, h.off (Off.of_ext (F := fun _ => False) x) (fun _ _ hf => hf), Off.of_ext x, Grows.refl _ _⟩
theorem PA.got_at {D : PD} {I : Nat → Nat → Prop} (h : PA w p P D I) {s : Int} (hs : PipeS.side s = true) : ∃ (v : Value) (l : List ByteArray) (j : Nat), j = 2 + s.toNat ∧ s = (s.toNat : Int) ∧ s.toNat < 2 ∧ w.cell? ⟨p, j, none⟩ = some v ∧ Sl w v l ∧ P.got s = l ∧ ∀ b ∈ l, b.size ≤ 1000 := by
  unfold PipeS.side at hs
  simp only [Bool.or_eq_true, decide_eq_true_eq] at hs
  have c := (cells5 h.blk).1
  rcases hs with rfl | rfl
  · exact ⟨D.a.v, P.g0, 2, rfl, rfl, by decide, c.2.2.1, h.g0.1.sl, rfl, h.short.1⟩
  · exact ⟨D.b.v, P.g1, 3, rfl, rfl, by decide, c.2.2.2.1, h.g1.1.sl, rfl, h.short.2⟩

set_option maxRecDepth 50000 in
set_option maxHeartbeats 1600000 in
theorem iGot (h : PAt w p P F) (s : Int) (hg : (P.got s).length ≤ 1000000) :
    Calls Tryz.prog 23 #[.pointer (some ⟨p, 0, none⟩), .int .i64 s] w (GotsP p P F (P.got s) w) := by
  have HP := Lib.hid h
  obtain ⟨D, I, hA, hG⟩ := h
  cases hs : PipeS.side s
  · rw [PipeS.got_no hs]
    have cS := isSide_any w s
    rw [hs] at cS
    replace cS := Lib.hid cS
    clear hA hG hs hg
    go_enter Tryz.func23, Tryz.ntmps23
    go_wp2_with fail
    refine cS.out.mono ?_
    rintro ev w1 ⟨rfl, rfl⟩
    go_wp2
    go_ret
    exact gotsP_of HP.out (Ext.refl _) (Ow.nil _ _)
  · obtain ⟨v, l, j, hj, hsi, hs2, hc, hl, hgl, hsh⟩ := hA.got_at hs
    rw [hgl] at hg ⊢
    have cS := isSide_any w s
    rw [hs] at cS
    replace cS := Lib.hid cS
    obtain ⟨m, hm⟩ : ∃ m, m = s.toNat := ⟨_, rfl⟩
    rw [← hm] at hsi hs2 hj
    subst hj
    have hs2i : (m : Int) < 2 := by omega
    have HS := Lib.hid hsh
    rcases hl.texts with ⟨rfl, ao, c, rfl⟩ | ⟨b, off, c, rfl, hcl, hc63, hb, hpos, hcell⟩
    · clear hA hG hs hgl hl hsh hm
      subst hsi
      go_enter Tryz.func23, Tryz.ntmps23
      go_wp2_with fail
      refine cS.out.mono ?_
      rintro ev w1 ⟨rfl, rfl⟩
      go_wp2
      refine wp_loop_rounds 1 ?_
      rw [rounds_succ]
      go_wp2
      go_ret
      exact gotsP_of HP.out (Ext.refl _) (Ow.nil _ _)
    · have HC := Lib.hid hcell
      have HW : Hid (∀ W, Ext w W → b < W.heap.size) := Lib.hid (fun W x => Nat.lt_of_lt_of_le hb x.size)
      clear hA hG hs hgl hl hsh hm hcell hb hpos hcl hc63
      subst hsi
      go_enter Tryz.func23, Tryz.ntmps23
      go_wp2_with fail
      refine cS.out.mono ?_
      rintro ev w1 ⟨rfl, rfl⟩
      go_wp2
      go_loopw [5, 18] (fun q i wr => ∃ k : Nat, k ≤ l.length ∧ i = .int .i64 k ∧ Hid (Ow wr w.heap.size q (l.take k)) ∧ Hid (Ext w wr)) (fun _ i _ => l.length - (intOf i).toNat)
      case atStart => exact ⟨0, Nat.zero_le _, rfl, Lib.hid (Ow.nil _ _), Lib.hid (Ext.refl _)⟩
      case round =>
        obtain ⟨k, hk, rfl, HO, HX⟩ := hrel
        obtain ⟨ao, n, c2, rfl⟩ := HO.out.sh
        by_cases hlt : k < l.length
        · have hn2 : IntKind.i64.wrap ((k : Int) + 1) = (k : Int) + 1 := wrapN _ (by omega) (by omega)
          have ht : l.take (k + 1) = l.take k ++ [l.getD k ⟨#[]⟩] := by rw [List.take_succ_eq_append_getElem hlt]; simp [hlt]
          have hy := (HX.out.cell (p := ⟨b, off + k, none⟩) (HW.out w (Ext.refl _))).trans (HC.out k hlt)
          have hz : (l.getD k ⟨#[]⟩).size ≤ 281474976710656 := Nat.le_trans (HS.out _ (by simp [hlt])) (by decide)
          obtain ⟨y, hyy⟩ : ∃ y, y = l.getD k ⟨#[]⟩ := ⟨_, rfl⟩
          rw [← hyy] at ht hy hz
          have HT := Lib.hid ht
          have HCL := Lib.hid (fun W => clone_any W y hz)
          have hlen : (l.take k).length ≤ 1000000 := Nat.le_trans (by rw [List.length_take]; exact Nat.min_le_right _ _) hg
          clear ht hyy hz
          go_wp2_with fail
          refine (HCL.out _).mono ?_
          rintro ev w5 ⟨rfl, hx⟩
          have y5 := Lib.hid (HX.out.trans hx)
          have O5 := Lib.hid (HO.out.ext hx)
          clear hx
          dsimp only
          go_wp2_with (
            ((at_builtin; refine wpList_append_sl (α := ByteArray) rfl (.tmp 22) (.tmp 25) rfl w.heap.size (.slice ao n c2) (l.take k) rfl ?_ (.slice (some ⟨w5.heap.size, 0, none⟩) 1 1) [y] rfl ?_ ?_ ?_ ?_; exact (O5.out.alloc _); exact (Sl.litAt w5 _ rfl [y] (show (1 : Nat) ≤ 1000000 by decide)); (first | omega | (simp; omega)); (have := y5.out.size; rw [size_alloc]; omega); intro v2 W2 ho2 ha2))
            have O6 : Hid (Ow W2 w.heap.size v2 (l.take (k + 1))) := Lib.hid (by rw [HT.out]; exact ho2)
            have y6 : Hid (Ext w W2) := Lib.hid (Below.trans (y5.out.alloc _) ha2.below)
            clear ho2 ha2 O5 y5)
          exact ⟨⟨k + 1, hlt, by go_num, O6, y6⟩, by simp [intOf]; omega⟩
        · have hke : k = l.length := by omega
          have hT : l.take k = l := by rw [hke, List.take_length]
          rw [hT] at HO
          clear hT hke
          go_wp2
          go_ret
          exact gotsP_of HP.out HX.out HO.out
end
end Go.Proofs.YtlakolkpfkakoaaGreatDoor

/- What the program's pipes answer: New. -/
namespace Go.Proofs.YtlakolkpfkakoaaGreatDoor
open Go.RowKit

set_option linter.unusedVariables false
theorem new_pipe {w w1 a0 b0 a1 b1 : World} {q p0 p1 : Nat} {N : NetS} {E0 E1 : EndS} {F0 F1 F2 : Nat → Prop} {g : Nat} (hv : Past w.heap.size) (hg : g = w1.heap.size) (x : Ext w w1) (n : NAt w1 q N F2) (f2 : ∀ k, F2 k → w.heap.size ≤ k) (h2 : N.n = 2)
    (xa : Ext (w1.alloc (.cells #[.pointer none, .pointer none, .slice none 0 0, .slice none 0 0, .pointer (some ⟨q, 0, none⟩)] 70)) a0) (e0 : EAt b0 p0 E0 F0) (f0 : ∀ k, F0 k → a0.heap.size ≤ k) (y0 : Ext a0 b0)
    (xb : Ext (b0.setCell ⟨g, 0, none⟩ (.pointer (some ⟨p0, 0, none⟩))) a1) (e1 : EAt b1 p1 E1 F1) (f1 : ∀ k, F1 k → a1.heap.size ≤ k) (y1 : Ext a1 b1) :
    ∃ F, PAt (b1.setCell ⟨g, 1, none⟩ (.pointer (some ⟨p1, 0, none⟩))) g ⟨E0, E1, [], [], N⟩ F ∧ (∀ k, F k → w.heap.size ≤ k) ∧ Ext w (b1.setCell ⟨g, 1, none⟩ (.pointer (some ⟨p1, 0, none⟩))) := by
  have s1 := x.size
  have sa := xa.size
  rw [size_alloc] at sa
  have s0 := y0.size
  have sb := xb.size
  rw [set_size] at sb
  have sy := y1.size
  have l2 := n.low
  have l0 := e0.low
  have l1 := e1.low
  have k0 : a0.heap[g]? = some (.cells #[.pointer none, .pointer none, .slice none 0 0, .slice none 0 0, .pointer (some ⟨q, 0, none⟩)] 70 (0, 0)) := by
    rw [xa.block g (by rw [size_alloc]; omega)]; subst hg; exact get_alloc_new w1 _
  have k1 := blk_set ((y0.block g (by omega)).trans k0) 0 (.pointer (some ⟨p0, 0, none⟩))
  have k2 : b1.heap[g]? = _ := ((y1.block g (by omega)).trans (xb.block g (by rw [set_size]; omega))).trans k1
  have k3 := blk_set k2 1 (.pointer (some ⟨p1, 0, none⟩))
  have oS : Off (fun k => k = g) b0 (b0.setCell ⟨g, 0, none⟩ (.pointer (some ⟨p0, 0, none⟩))) := off_set b0 ⟨g, 0, none⟩ _
  have oT : Off (fun k => k = g) b1 (b1.setCell ⟨g, 1, none⟩ (.pointer (some ⟨p1, 0, none⟩))) := off_set b1 ⟨g, 1, none⟩ _
  have oA : Off (fun k => k = g) b0 (b1.setCell ⟨g, 1, none⟩ (.pointer (some ⟨p1, 0, none⟩))) := ((oS.ext xb).ext y1).trans oT (Grows.refl _ _)
  have oB : Off (fun k => k = g) w1 (b1.setCell ⟨g, 1, none⟩ (.pointer (some ⟨p1, 0, none⟩))) := (Off.of_ext (F := fun k => k = g) (Ext.trans (Ext.trans ((Ext.refl w1).alloc _) xa) y0)).trans oA (Grows.refl _ _)
  have oW : Ext w (b1.setCell ⟨g, 1, none⟩ (.pointer (some ⟨p1, 0, none⟩))) := Below.trans x (oB.below (B := w1.heap.size) (fun k hk => by rw [hk]; omega) (Nat.le_refl _) |>.mono (by omega))
  let I : Nat → Nat → Prop := fun i => if i = 0 then F0 else if i = 1 then F1 else if i = 2 then F2 else if i = 5 then (fun k => k = g) else fun _ => False
  have hI : ∀ i k, I i k → (i = 0 ∧ a0.heap.size ≤ k ∧ k < b0.heap.size) ∨ (i = 1 ∧ a1.heap.size ≤ k ∧ k < b1.heap.size) ∨ (i = 2 ∧ w.heap.size ≤ k ∧ k < g) ∨ (i = 5 ∧ k = g) := by
    intro i k hk
    dsimp only [I] at hk
    split at hk
    · next h => exact .inl ⟨h, f0 k hk, l0 k hk⟩
    · split at hk
      · next h => exact .inr (.inl ⟨h, f1 k hk, l1 k hk⟩)
      · split at hk
        · next h => exact .inr (.inr (.inl ⟨h, f2 k hk, by have := l2 k hk; omega⟩))
        · split at hk
          · next h => exact .inr (.inr (.inr ⟨h, hk⟩))
          · exact absurd hk id
  refine ⟨UF I, ⟨⟨p0, p1, q, ⟨none, 0, 0⟩, ⟨none, 0, 0⟩⟩, I, ⟨k3, e0.off oA fun k hk e => ?_, e1.off oT fun k hk e => ?_, n.off oB fun k hk e => ?_, ⟨Ow.nil _ _, fun b hb => by simp [SV.v, Value.ownBlock] at hb⟩, ⟨Ow.nil _ _, fun b hb => by simp [SV.v, Value.ownBlock] at hb⟩, rfl, fun i j k h1 h2 => ?_, fun i k hk => ?_, h2, ⟨fun b hb => (by cases hb), fun b hb => (by cases hb)⟩, fun i k hk => hv.le (by have := hI i k hk; omega)⟩, fun _ => Iff.rfl⟩, ?_, oW⟩
  · have := f0 k hk; omega
  · have := f1 k hk; omega
  · have := l2 k hk; omega
  · have := hI i k h1; have := hI j k h2; omega
  · rw [set_size]; have := hI i k hk; omega
  · rintro k ⟨i, hk⟩
    have := hI i k hk; omega

set_option maxRecDepth 50000 in
set_option maxHeartbeats 1600000 in
theorem iNew {w : World} (hs : Std w) (e : Int) (first : Nat) (win qn wait room : Int) (h : first < 18446744073709551616) :
    Calls Tryz.prog 4 #[.int .i64 e, .int .u64 first, .int .i64 win, .int .i64 qn, .int .i64 wait, .int .i64 room] w fun ev w' => ∃ p F, ev = .returned (.pointer (some ⟨p, 0, none⟩)) ∧ PAt w' p (PipeS.new e first win qn wait room) F ∧ (∀ k, F k → w.heap.size ≤ k) ∧ Ext w w' := by
  have HE := Lib.hid (fun W => pNewE W e first win qn wait h)
  have HN := Lib.hid (fun W => pNew W 2 room)
  have h2 : (NetS.new 2 room).n = 2 := rfl
  unfold PipeS.new
  obtain ⟨N, hN⟩ : ∃ N, N = NetS.new 2 room := ⟨_, rfl⟩
  obtain ⟨E, hE⟩ : ∃ E, E = EndS.new e first win qn wait := ⟨_, rfl⟩
  rw [← hN] at HN h2 ⊢
  rw [← hE] at HE ⊢
  have H2 := Lib.hid h2
  have HV := Lib.hid hs.past
  clear hN hE h h2 hs
  go_enter Tryz.func4, Tryz.ntmps4
  go_wp2_with fail
  refine (HN.out _).mono ?_
  rintro ev wN ⟨q, F2, rfl, n, f2, x⟩
  have HQ := Lib.hid n
  have HF2 := Lib.hid f2
  have HX := Lib.hid x
  clear n f2 x
  dsimp only
  go_wp2
  refine wp_loop_rounds 3 ?_
  rw [rounds_succ]
  go_wp2
  (refine wp_region_X_lit (K := fun _ => True) (by kernel_rfl) (fun w1 hw1 => ?_))
  have HA0 := Lib.hid hw1
  clear hw1
  refine xtv 0 (h := ?_)
  refine xtv 1 (h := ?_)
  refine xtv 2 (h := ?_)
  refine xtv 3 (h := ?_)
  refine xtv 4 (h := ?_)
  refine xtv 5 (h := ?_)
  refine xtv 6 (h := ?_)
  refine xtv 8 (h := ?_)
  refine xtv 9 (h := ?_)
  refine xone 7 (hk := trivial) (h := RunX.of 7 (h := ?_))
  go_simp
  refine (HE.out _).mono ?_
  rintro ev b0 ⟨p0, F0, rfl, n0, f0, x0⟩
  have HN0 := Lib.hid n0
  have HF0 := Lib.hid f0
  have HX0 := Lib.hid x0
  clear n0 f0 x0
  dsimp only
  (try (simp only [Act.put, List.setIfInBounds_toArray, List.set]))
  refine xone 10 (hk := trivial) (h := RunX.of 10 (h := ?_))
  go_simp
  (try (simp only [Act.put, List.setIfInBounds_toArray, List.set]))
  have k0 : b0.heap[wN.heap.size]? = some (.cells #[.pointer none, .pointer none, .slice none 0 0, .slice none 0 0, .pointer (some ⟨q, 0, none⟩)] 70 (0, 0)) := by
    have s1 := HA0.out.size
    rw [size_alloc] at s1
    exact (HX0.out.block _ (by omega)).trans ((HA0.out.block _ (by rw [size_alloc]; omega)).trans (get_alloc_new wN _))
  obtain ⟨⟨z0, z1, z2, z3, z4⟩, y0, y1, y2, y3, y4⟩ := cells5 k0
  have K1 := Lib.hid (blk_set k0 0 (.pointer (some ⟨p0, 0, none⟩)))
  clear k0
  refine xone 11 (hk := trivial) (h := RunX.of 11 (h := ?_))
  go_simp
  (try (simp only [Act.put, List.setIfInBounds_toArray, List.set]))
  (refine xdone (by kernel_rfl) (trivial) ?_)
  clear z0 z1 z2 z3 z4 y0 y1 y2 y3 y4
  go_wp2
  rw [rounds_succ]
  go_wp2
  (refine wp_region_X_lit (K := fun _ => True) (by kernel_rfl) (fun w1 hw1 => ?_))
  have HA1 := Lib.hid hw1
  clear hw1
  refine xtv 0 (h := ?_)
  refine xtv 1 (h := ?_)
  refine xtv 2 (h := ?_)
  refine xtv 3 (h := ?_)
  refine xtv 4 (h := ?_)
  refine xtv 5 (h := ?_)
  refine xtv 6 (h := ?_)
  refine xtv 8 (h := ?_)
  refine xtv 9 (h := ?_)
  refine xone 7 (hk := trivial) (h := RunX.of 7 (h := ?_))
  go_simp
  refine (HE.out _).mono ?_
  rintro ev b1 ⟨p1, F1, rfl, n1, f1, x1⟩
  have HN1 := Lib.hid n1
  have HF1 := Lib.hid f1
  have HX1 := Lib.hid x1
  clear n1 f1 x1
  dsimp only
  (try (simp only [Act.put, List.setIfInBounds_toArray, List.set]))
  refine xone 10 (hk := trivial) (h := RunX.of 10 (h := ?_))
  go_simp
  (try (simp only [Act.put, List.setIfInBounds_toArray, List.set]))
  have k1 : b1.heap[wN.heap.size]? = some (.cells #[.pointer (some ⟨p0, 0, none⟩), .pointer none, .slice none 0 0, .slice none 0 0, .pointer (some ⟨q, 0, none⟩)] 70 (0, 0)) :=
    (HX1.out.block _ (Nat.lt_of_lt_of_le (blk_lt K1.out) HA1.out.size)).trans ((HA1.out.block _ (blk_lt K1.out)).trans K1.out)
  obtain ⟨⟨z0, z1, z2, z3, z4⟩, y0, y1, y2, y3, y4⟩ := cells5 k1
  clear k1
  refine xone 11 (hk := trivial) (h := RunX.of 11 (h := ?_))
  go_simp
  (try (simp only [Act.put, List.setIfInBounds_toArray, List.set]))
  (refine xdone (by kernel_rfl) (trivial) ?_)
  clear z0 z1 z2 z3 z4 y0 y1 y2 y3 y4
  go_wp2
  rw [rounds_succ]
  go_wp2
  go_ret
  obtain ⟨F, h1, h2, h3⟩ := new_pipe HV.out rfl HX.out HQ.out HF2.out H2.out HA0.out HN0.out HF0.out HX0.out HA1.out HN1.out HF1.out HX1.out
  exact ⟨_, F, rfl, h1, h2, h3⟩
end Go.Proofs.YtlakolkpfkakoaaGreatDoor

/- What the program's pipes answer: Go. -/
namespace Go.Proofs.YtlakolkpfkakoaaGreatDoor
open Go.RowKit

set_option linter.unusedVariables false
theorem put_all (w : World) (h : Std w) (f : Fr) :
    Calls Tryz.prog 39 #[.agg #[.int .i64 f.k, .int .i64 f.e, .int .u64 f.q, .int .u64 f.a, .string f.b]] w fun ev w' => ev = .returned (.tuple #[.string (putF f), .int .i64 (if rightB f = true then 0 else 60)]) ∧ Ext w w' := by
  obtain ⟨k, e, q, a, b⟩ := f
  unfold putF
  by_cases hr : rightB ⟨k, e, q, a, b⟩ = true
  · rw [if_pos hr, if_pos hr]
    obtain ⟨h1, h2, h3, h4⟩ := (right_iff _ _ _ _ _).1 hr
    obtain ⟨K, rfl⟩ : ∃ K : Nat, k = (K : Int) := ⟨k.toNat, by omega⟩
    obtain ⟨E, rfl⟩ : ∃ E : Nat, e = (E : Int) := ⟨e.toNat, by omega⟩
    exact put_good w h K E q a b (by omega) (by omega) h3 hr
  · rw [if_neg hr, if_neg hr]
    exact put_bad w h k e q a b (by simpa using hr)
def PipeS.part (P : PipeS) (s : Int) (FR : List Fr) (k : Nat) : PipeS := { P.setE s (P.end' s).outS with net := (goes P.net s (1 - s) (FR.take k)).1 }
def PipeS.partN (P : PipeS) (s : Int) (FR : List Fr) (k : Nat) : Nat := (goes P.net s (1 - s) (FR.take k)).2
section
variable {w : World} {p : Nat} {P : PipeS} {F : Nat → Prop}
theorem part_next {s : Int} {FR : List Fr} {k : Nat} (h : k < FR.length) : P.part s FR (k + 1) = { P.part s FR k with net := sendF (P.part s FR k).net s (1 - s) (FR.getD k Fr.zero) } ∧ P.partN s FR (k + 1) = P.partN s FR k + wentF (P.part s FR k).net s (1 - s) (FR.getD k Fr.zero) := by
  have ht : FR.take (k + 1) = FR.take k ++ [FR.getD k Fr.zero] := by rw [List.take_succ_eq_append_getElem h]; simp [h]
  unfold PipeS.part PipeS.partN
  rw [ht, goes_snoc]
  exact ⟨rfl, rfl⟩
theorem partN_le (P : PipeS) (s : Int) (FR : List Fr) (k : Nat) : P.partN s FR k ≤ FR.length := by
  unfold PipeS.partN
  obtain ⟨m, h1, h2, h3⟩ := goes_row (a := s) (b := 1 - s) (FR.take k) P.net
  have hl : ∀ (l : List Fr) (N : NetS), (goes N s (1 - s) l).2 ≤ l.length := by
    intro l
    induction l with
    | nil => intro N; exact Nat.le_refl _
    | cons f l ih =>
      intro N
      have h9 := ih (sendF N s (1 - s) f)
      have h8 : wentF N s (1 - s) f ≤ 1 := by unfold wentF; split <;> omega
      show wentF N s (1 - s) f + (goes (sendF N s (1 - s) f) s (1 - s) l).2 ≤ l.length + 1
      omega
  have := hl (FR.take k) P.net
  rw [List.length_take] at this
  omega
structure GoL (w wr : World) (p : Nat) (P : PipeS) (s : Int) (F : Nat → Prop) (v : Value) (FR : List Fr) (k : Nat) (F' : Nat → Prop) : Prop where
  at' : PAt wr p (P.part s FR k) F'
  sl : Sl wr v FR
  av : Av F' v FR
  off : Off F w wr
  gr : Grows F F' w
theorem GoL.ext {wr w2 : World} {s : Int} {v : Value} {FR : List Fr} {k : Nat} {F' : Nat → Prop} (h : GoL w wr p P s F v FR k F') (x : Ext wr w2) : GoL w w2 p P s F v FR k F' :=
  ⟨h.at'.off (Off.of_ext (F := fun _ => False) x) (fun _ _ hf => hf), h.sl.ext x, h.av, h.off.ext x, h.gr⟩
theorem GoL.skip {wr : World} {s : Int} {v : Value} {FR : List Fr} {k : Nat} {F' : Nat → Prop} (h : GoL w wr p P s F v FR k F') (hk : k < FR.length) (hr : rightB (FR.getD k Fr.zero) = false) : GoL w wr p P s F v FR (k + 1) F' ∧ P.partN s FR (k + 1) = P.partN s FR k := by
  have e := part_next (P := P) (s := s) hk
  have e1 : sendF (P.part s FR k).net s (1 - s) (FR.getD k Fr.zero) = (P.part s FR k).net := by unfold sendF; rw [hr, if_neg (by decide)]
  have e2 : wentF (P.part s FR k).net s (1 - s) (FR.getD k Fr.zero) = 0 := by unfold wentF; rw [hr, Bool.false_and, if_neg (by decide)]
  rw [e1] at e
  rw [e2] at e
  exact ⟨⟨e.1 ▸ h.at', h.sl, h.av, h.off, h.gr⟩, e.2⟩
theorem GoL.went {wr w2 : World} {s : Int} {v : Value} {FR : List Fr} {k : Nat} {F' : Nat → Prop} (h : GoL w wr p P s F v FR k F') (hk : k < FR.length) (hr : rightB (FR.getD k Fr.zero) = true) {r : Value} {e : Ending}
    (m : MovesP p { P.part s FR k with net := (P.part s FR k).net.send s (1 - s) (putF (FR.getD k Fr.zero)) } F' r wr e w2) : (∃ F2, GoL w w2 p P s F v FR (k + 1) F2) ∧ P.partN s FR (k + 1) = P.partN s FR k + (if (P.part s FR k).net.may s (1 - s) = true then 1 else 0) := by
  have e := part_next (P := P) (s := s) hk
  have e1 : sendF (P.part s FR k).net s (1 - s) (FR.getD k Fr.zero) = (P.part s FR k).net.send s (1 - s) (putF (FR.getD k Fr.zero)) := by unfold sendF; rw [hr, if_pos rfl]
  have e2 : wentF (P.part s FR k).net s (1 - s) (FR.getD k Fr.zero) = if (P.part s FR k).net.may s (1 - s) = true then 1 else 0 := by unfold wentF; rw [hr, Bool.true_and]
  rw [e1] at e
  rw [e2] at e
  obtain ⟨F2, _, h1, o, g⟩ := m
  exact ⟨⟨F2, e.1 ▸ h1, h.sl.off h.av o, h.av.grow h.sl g, h.off.trans o h.gr, h.gr.trans g h.off.size⟩, e.2⟩
theorem go_start0 {D : PD} {I : Nat → Nat → Prop} (hA : PA w p P D I) (hg : ∀ k, F k ↔ UF I k) {H : Nat → Prop} {w2 : World} {ao : Option Addr} {n c : Nat} {FR : List Fr} (sl : Sl w2 (.slice ao n c) FR) (av : FR = [] ∨ ∀ b, (Value.slice ao n c).ownBlock = some b → w.heap.size ≤ b ∧ ¬ H b) (nn : EAt w2 D.p0 P.e0.outS H) (o : Off (I 0) w w2) (g : Grows (I 0) H w) : GoL w w2 p P 0 F (.slice ao n c) FR 0 (UF (upd I 0 H)) := by
  have e : F = UF I := funext fun k => propext (hg k)
  subst e
  refine ⟨⟨D, _, hA.moved0 nn o g, fun _ => Iff.rfl⟩, sl, av.imp id fun h b hb hf => ?_, off_uf o, uf_grows g⟩
  obtain ⟨j, hj⟩ := hf
  have h1 := h b hb
  by_cases hz : j = 0
  · subst hz
    rw [upd_same] at hj
    exact h1.2 hj
  · rw [upd_ne I H hz] at hj
    have := hA.low j b hj
    omega
theorem go_start1 {D : PD} {I : Nat → Nat → Prop} (hA : PA w p P D I) (hg : ∀ k, F k ↔ UF I k) {H : Nat → Prop} {w2 : World} {ao : Option Addr} {n c : Nat} {FR : List Fr} (sl : Sl w2 (.slice ao n c) FR) (av : FR = [] ∨ ∀ b, (Value.slice ao n c).ownBlock = some b → w.heap.size ≤ b ∧ ¬ H b) (nn : EAt w2 D.p1 P.e1.outS H) (o : Off (I 1) w w2) (g : Grows (I 1) H w) : GoL w w2 p P 1 F (.slice ao n c) FR 0 (UF (upd I 1 H)) := by
  have e : F = UF I := funext fun k => propext (hg k)
  subst e
  refine ⟨⟨D, _, hA.moved1 nn o g, fun _ => Iff.rfl⟩, sl, av.imp id fun h b hb hf => ?_, off_uf o, uf_grows g⟩
  obtain ⟨j, hj⟩ := hf
  have h1 := h b hb
  by_cases hz : j = 1
  · subst hz
    rw [upd_same] at hj
    exact h1.2 hj
  · rw [upd_ne I H hz] at hj
    have := hA.low j b hj
    omega

set_option maxRecDepth 50000 in
set_option maxHeartbeats 3200000 in
theorem iGo0 (hs : Std w) (h : PAt w p P F) :
    Calls Tryz.prog 10 #[.pointer (some ⟨p, 0, none⟩), .int .i64 0] w (MovesP p (P.go 0) F (.int .i64 (P.goN 0 : Nat)) w) := by
  obtain ⟨FR, hFR⟩ : ∃ FR, FR = P.e0.frames := ⟨_, rfl⟩
  have hgo : P.go 0 = P.part 0 FR FR.length := by unfold PipeS.part; rw [List.take_length, hFR]; rfl
  have hgn : P.goN 0 = P.partN 0 FR FR.length := by unfold PipeS.partN; rw [List.take_length, hFR]; rfl
  have hlen : FR.length ≤ 8 := by rw [hFR]; exact EndS.frames_le h.ok.e0
  have hN := partN_le P 0 FR
  rw [hgo, hgn]
  obtain ⟨D, I, hA, hg⟩ := h
  have HST := Lib.hid hs
  have HA := Lib.hid hA
  have HG := Lib.hid hg
  have HPS := Lib.hid (PAt.past ⟨D, I, hA, hg⟩)
  have HN : Hid (∀ k, P.partN 0 FR k ≤ 8) := Lib.hid (fun k => Nat.le_trans (hN k) hlen)
  obtain ⟨p0, p1, q, ⟨ga, gn, gc⟩, ⟨ha, hn, hc⟩⟩ := D
  have hb := hA.blk
  dsimp only at hb
  obtain ⟨⟨c0, c1, c2, c3, c4⟩, _⟩ := cells5 hb
  have cO := pOut hA.e0
  dsimp only at cO
  rw [← hFR] at cO
  replace cO := Lib.hid cO
  have HOt : Hid (∀ W, Calls Tryz.prog 41 #[.int .i64 0] W fun e w' => e = .returned (.int .i64 1) ∧ W = w') := Lib.hid (fun W => by
    have h9 := other_any W 0
    rwa [show IntKind.i64.wrap (1 - 0) = 1 from by decide] at h9)
  clear hs hA hg hb hFR hgo hgn hN
  go_enter Tryz.func10, Tryz.ntmps10
  go_wp2_with fail
  refine (isSide_any w 0).mono ?_
  rintro ev w1 ⟨rfl, rfl⟩
  rw [show PipeS.side 0 = true by decide]
  go_wp2_with fail
  refine cO.out.mono ?_
  rintro ev w2 ⟨ao, n, c, H, rfl, sl, av, nn, o, g⟩
  have hsl := sl
  obtain ⟨ao', c', hv⟩ := sl.len
  simp only [Value.slice.injEq] at hv
  obtain ⟨rfl, rfl, rfl⟩ := hv
  have HL0 : Hid (GoL w w2 p P 0 F (.slice ao FR.length c) FR 0 (UF (upd I 0 H))) := Lib.hid (go_start0 HA.out HG.out sl av nn o g)
  clear av nn o g sl hsl HA HG cO c0 c1 c2 c3 c4
  dsimp only
  go_wp2
  go_loopw [5, 21] (fun a i wr => ∃ (k : Nat) (F' : Nat → Prop), k ≤ FR.length ∧ i = .int .i64 k ∧ a = .int .i64 ((P.partN 0 FR k : Nat) : Int) ∧ Hid (GoL w wr p P 0 F (.slice ao FR.length c) FR k F')) (fun _ i _ => FR.length - (intOf i).toNat)
  case atStart => exact ⟨0, _, Nat.zero_le _, rfl, rfl, HL0⟩
  case round =>
    obtain ⟨k, F', hk, rfl, rfl, HL⟩ := hrel
    clear HL0
    by_cases hlt : k < FR.length
    · have hn2 : IntKind.i64.wrap ((k : Int) + 1) = (k : Int) + 1 := wrapN _ (by omega) (by omega)
      have hN8 := HN.out k
      obtain ⟨M, hM⟩ : ∃ M, M = P.partN 0 FR k := ⟨_, rfl⟩
      rw [← hM] at hN8 ⊢
      have hm1 : IntKind.i64.wrap ((M : Int) + 1) = (M : Int) + 1 := wrapN _ (by omega) (by omega)
      obtain ⟨b9, off9, hoa, _, hoc, hb9, hfr⟩ := Sl.frs_some (ao := ao) (n := FR.length) (c := c) HL.out.sl (by omega)
      subst hoa
      have hfr2 := hfr k hlt
      obtain ⟨f, hf⟩ : ∃ f, f = FR.getD k Fr.zero := ⟨_, rfl⟩
      rw [← hf] at hfr2
      obtain ⟨q0, q1, q2, q3, q4⟩ := hfr2
      have cP := Lib.hid (fun W (x : Ext wr W) => put_all W ((HST.out.off HL.out.off HPS.out).ext x) f)
      cases hr : rightB f
      · rw [hr, if_neg (by decide)] at cP
        have HS := Lib.hid (HL.out.skip hlt (by rw [← hf]; exact hr))
        have HMM := Lib.hid hM
        clear hM hfr hf hr hb9 hoc
        go_wp2_with fail
        refine (cP.out _ ((Ext.refl wr).alloc _)).mono ?_
        rintro ev w5 ⟨rfl, x5⟩
        have HX5 := Lib.hid (Ext.trans ((Ext.refl wr).alloc _) x5)
        clear x5 cP q0 q1 q2 q3 q4
        dsimp only
        go_wp2_with fail
        (refine wp_region_X_lit (K := fun _ => True) (by kernel_rfl) (fun w1 hw1 => ?_))
        have HX6 := Lib.hid (Ext.trans HX5.out hw1)
        clear hw1
        refine xtv 0 (h := ?_)
        refine xtv 1 (h := ?_)
        refine xtv 2 (h := ?_)
        (refine xtakeU 3 (h := ?_); (simp only [Act.put, List.setIfInBounds_toArray, List.set]))
        (refine xtakeU 4 (h := ?_); (simp only [Act.put, List.setIfInBounds_toArray, List.set]))
        (refine xtakeU 5 (h := ?_); (simp only [Act.put, List.setIfInBounds_toArray, List.set]))
        (refine xtakeU 6 (h := ?_); (simp only [Act.put, List.setIfInBounds_toArray, List.set]))
        (refine xtakeU 7 (h := ?_); (simp only [Act.put, List.setIfInBounds_toArray, List.set]))
        (refine xtakeU 8 (h := ?_); (simp only [Act.put, List.setIfInBounds_toArray, List.set]))
        (refine xtakeU 9 (h := ?_); (simp only [Act.put, List.setIfInBounds_toArray, List.set]))
        (refine xtakeU 10 (h := ?_); (simp only [Act.put, List.setIfInBounds_toArray, List.set]))
        (refine xtakeU 11 (h := ?_); (simp only [Act.put, List.setIfInBounds_toArray, List.set]))
        refine xtv 12 (h := ?_)
        (refine xdone (by kernel_rfl) (trivial) ?_)
        have HL6 := Lib.hid (HS.out.1.ext HX6.out)
        go_wp2
        exact ⟨⟨k + 1, F', hlt, by go_num, by rw [HS.out.2, HMM.out], HL6⟩, by simp [intOf]; omega⟩
      · rw [hr, if_pos rfl] at cP
        have hWent := fun (w2 : World) (r : Value) (e : Ending) => HL.out.went (w2 := w2) (r := r) (e := e) hlt (by rw [← hf]; exact hr)
        obtain ⟨N, hNN⟩ : ∃ N, N = (P.part 0 FR k).net := ⟨_, rfl⟩
        obtain ⟨D2, I2, hA2, hG2⟩ := HL.out.at'
        have HA2 := Lib.hid hA2
        have HG2 := Lib.hid hG2
        obtain ⟨p02, p12, q2', ⟨ga2, gn2, gc2⟩, ⟨ha2, hn2', hc2⟩⟩ := D2
        obtain ⟨pb, hpb⟩ : ∃ pb, pb = putF f := ⟨_, rfl⟩
        have hsz : pb.size ≤ 1000 := by rw [hpb]; exact putF_short f
        rw [← hf, ← hNN] at hWent
        rw [← hpb] at cP hWent
        have HMM := Lib.hid hM
        have hcS := fun (W : World) (F3 : Nat → Prop) (n : NAt W q2' N F3) => pSend n 0 (1 - 0) pb hsz
        have hnn2 : (N.send 0 (1 - 0) pb).n = N.n := (N.send_room 0 (1 - 0) pb).2
        have hn9 : ∀ W, Ext wr W → NAt W q2' N (I2 2) := fun W x => by rw [hNN]; exact (HA2.out.ext x).net
        have hcall := fun (W1 W2 : World) (x : Ext wr W1) (S : NetS) (H9 : Nat → Prop) (r : Value) => net_call HA2.out HG2.out (w1 := W1) (w2 := W2) x (S := S) (H := H9) r
        rw [← hNN] at hcall
        obtain ⟨N', hN'⟩ : ∃ N', N' = N.send 0 (1 - 0) pb := ⟨_, rfl⟩
        obtain ⟨Y, hY⟩ : ∃ Y, Y = N.may 0 (1 - 0) := ⟨_, rfl⟩
        rw [← hN'] at hcS hWent hnn2
        rw [← hY] at hcS hWent
        have HCS : Hid (∀ W F3, NAt W q2' N F3 → Calls Tryz.prog 40 #[.pointer (some ⟨q2', 0, none⟩), .int .i64 0, .int .i64 1, .string pb] W (Moves q2' N' F3 (.bool Y) W)) := Lib.hid (by simpa using hcS)
        have HN9 := Lib.hid hn9
        have HNN2 := Lib.hid hnn2
        have HCL := Lib.hid hcall
        have HWW := Lib.hid hWent
        have HNN := Lib.hid hNN
        clear hM hfr hr hb9 hoc hA2 hG2 hWent hNN hpb hf hcS hn9 hnn2 hcall hN' hY hsz
        go_wp2_with fail
        refine (cP.out _ ((Ext.refl wr).alloc _)).mono ?_
        rintro ev w5 ⟨rfl, x5⟩
        have HX5 := Lib.hid (Ext.trans ((Ext.refl wr).alloc _) x5)
        clear x5 cP q0 q1 q2 q3 q4
        dsimp only
        go_wp2_with fail
        (refine wp_region_X_lit (K := fun W => W.cell? ⟨p, 4, none⟩ = some (.pointer (some ⟨q2', 0, none⟩))) (by kernel_rfl) (fun w1 hw1 => ?_))
        have HX6 := Lib.hid (Ext.trans HX5.out hw1)
        have k1 : w1.cell? ⟨p, 4, none⟩ = some (.pointer (some ⟨q2', 0, none⟩)) := (cells5 (HA2.out.ext HX6.out).blk).1.2.2.2.2
        clear hw1
        refine xtv 0 (h := ?_)
        refine xtv 1 (h := ?_)
        refine xtv 2 (h := ?_)
        refine xtv 3 (h := ?_)
        refine xtv 4 (h := ?_)
        refine xtv 5 (h := ?_)
        refine xtv 6 (hv := by intro w' hw'; have hc9 := hw'; go_simp; first | done | with_reducible rfl) (h := ?_)
        refine xtv 7 (h := ?_)
        refine xtv 8 (h := ?_)
        refine xtv 10 (h := ?_)
        refine xone 9 (hk := k1) (h := RunX.of 9 (h := ?_))
        go_simp
        refine (HOt.out _).mono ?_
        rintro ev w6 ⟨rfl, rfl⟩
        dsimp only
        (try (simp only [Act.put, List.setIfInBounds_toArray, List.set]))
        refine xone 11 (hk := k1) (h := RunX.of 11 (h := ?_))
        go_simp
        refine (HCS.out _ _ (HN9.out _ HX6.out)).mono ?_
        rintro ev w7 ⟨H7, rfl, n7, o7, g7⟩
        dsimp only
        (try (simp only [Act.put, List.setIfInBounds_toArray, List.set]))
        have k2 : w7.cell? ⟨p, 4, none⟩ = some (.pointer (some ⟨q2', 0, none⟩)) := (cells5 (HA2.out.net_blk HX6.out o7)).1.2.2.2.2
        have hm := HCL.out w1 w7 HX6.out N' H7 (.bool Y) n7 o7 g7 HNN2.out
        obtain ⟨⟨F9, h9⟩, hp9⟩ := HWW.out w7 _ _ hm
        have H9 := Lib.hid h9
        have HP9 := Lib.hid hp9
        clear hm h9 hp9 n7 o7 g7 k1
        refine xtv 12 (h := ?_)
        (refine xdone (by kernel_rfl) (k2) ?_)
        clear k2
        cases Y
        · go_wp2
          exact ⟨⟨k + 1, F9, hlt, by go_num, by rw [HP9.out, HMM.out]; rfl, H9⟩, by simp [intOf]; omega⟩
        · go_wp2
          exact ⟨⟨k + 1, F9, hlt, by go_num, by rw [HP9.out, HMM.out]; rfl, H9⟩, by simp [intOf]; omega⟩
    · have hke : k = FR.length := by omega
      subst hke
      have HZ : Hid (MovesP p (P.part 0 FR FR.length) F (.int .i64 ((P.partN 0 FR FR.length : Nat) : Int)) w (.returned (.int .i64 ((P.partN 0 FR FR.length : Nat) : Int))) wr) := Lib.hid ⟨F', rfl, HL.out.at', HL.out.off, HL.out.gr⟩
      clear HL
      go_wp2
      go_ret
      exact HZ.out

set_option maxRecDepth 50000 in
set_option maxHeartbeats 3200000 in
theorem iGo1 (hs : Std w) (h : PAt w p P F) :
    Calls Tryz.prog 10 #[.pointer (some ⟨p, 0, none⟩), .int .i64 1] w (MovesP p (P.go 1) F (.int .i64 (P.goN 1 : Nat)) w) := by
  obtain ⟨FR, hFR⟩ : ∃ FR, FR = P.e1.frames := ⟨_, rfl⟩
  have hgo : P.go 1 = P.part 1 FR FR.length := by unfold PipeS.part; rw [List.take_length, hFR]; rfl
  have hgn : P.goN 1 = P.partN 1 FR FR.length := by unfold PipeS.partN; rw [List.take_length, hFR]; rfl
  have hlen : FR.length ≤ 8 := by rw [hFR]; exact EndS.frames_le h.ok.e1
  have hN := partN_le P 1 FR
  rw [hgo, hgn]
  obtain ⟨D, I, hA, hg⟩ := h
  have HST := Lib.hid hs
  have HA := Lib.hid hA
  have HG := Lib.hid hg
  have HPS := Lib.hid (PAt.past ⟨D, I, hA, hg⟩)
  have HN : Hid (∀ k, P.partN 1 FR k ≤ 8) := Lib.hid (fun k => Nat.le_trans (hN k) hlen)
  obtain ⟨p0, p1, q, ⟨ga, gn, gc⟩, ⟨ha, hn, hc⟩⟩ := D
  have hb := hA.blk
  dsimp only at hb
  obtain ⟨⟨c0, c1, c2, c3, c4⟩, _⟩ := cells5 hb
  have cO := pOut hA.e1
  dsimp only at cO
  rw [← hFR] at cO
  replace cO := Lib.hid cO
  have HOt : Hid (∀ W, Calls Tryz.prog 41 #[.int .i64 1] W fun e w' => e = .returned (.int .i64 0) ∧ W = w') := Lib.hid (fun W => by
    have h9 := other_any W 1
    rwa [show IntKind.i64.wrap (1 - 1) = 0 from by decide] at h9)
  clear hs hA hg hb hFR hgo hgn hN
  go_enter Tryz.func10, Tryz.ntmps10
  go_wp2_with fail
  refine (isSide_any w 1).mono ?_
  rintro ev w1 ⟨rfl, rfl⟩
  rw [show PipeS.side 1 = true by decide]
  go_wp2_with fail
  refine cO.out.mono ?_
  rintro ev w2 ⟨ao, n, c, H, rfl, sl, av, nn, o, g⟩
  have hsl := sl
  obtain ⟨ao', c', hv⟩ := sl.len
  simp only [Value.slice.injEq] at hv
  obtain ⟨rfl, rfl, rfl⟩ := hv
  have HL0 : Hid (GoL w w2 p P 1 F (.slice ao FR.length c) FR 0 (UF (upd I 1 H))) := Lib.hid (go_start1 HA.out HG.out sl av nn o g)
  clear av nn o g sl hsl HA HG cO c0 c1 c2 c3 c4
  dsimp only
  go_wp2
  go_loopw [5, 21] (fun a i wr => ∃ (k : Nat) (F' : Nat → Prop), k ≤ FR.length ∧ i = .int .i64 k ∧ a = .int .i64 ((P.partN 1 FR k : Nat) : Int) ∧ Hid (GoL w wr p P 1 F (.slice ao FR.length c) FR k F')) (fun _ i _ => FR.length - (intOf i).toNat)
  case atStart => exact ⟨0, _, Nat.zero_le _, rfl, rfl, HL0⟩
  case round =>
    obtain ⟨k, F', hk, rfl, rfl, HL⟩ := hrel
    clear HL0
    by_cases hlt : k < FR.length
    · have hn2 : IntKind.i64.wrap ((k : Int) + 1) = (k : Int) + 1 := wrapN _ (by omega) (by omega)
      have hN8 := HN.out k
      obtain ⟨M, hM⟩ : ∃ M, M = P.partN 1 FR k := ⟨_, rfl⟩
      rw [← hM] at hN8 ⊢
      have hm1 : IntKind.i64.wrap ((M : Int) + 1) = (M : Int) + 1 := wrapN _ (by omega) (by omega)
      obtain ⟨b9, off9, hoa, _, hoc, hb9, hfr⟩ := Sl.frs_some (ao := ao) (n := FR.length) (c := c) HL.out.sl (by omega)
      subst hoa
      have hfr2 := hfr k hlt
      obtain ⟨f, hf⟩ : ∃ f, f = FR.getD k Fr.zero := ⟨_, rfl⟩
      rw [← hf] at hfr2
      obtain ⟨q0, q1, q2, q3, q4⟩ := hfr2
      have cP := Lib.hid (fun W (x : Ext wr W) => put_all W ((HST.out.off HL.out.off HPS.out).ext x) f)
      cases hr : rightB f
      · rw [hr, if_neg (by decide)] at cP
        have HS := Lib.hid (HL.out.skip hlt (by rw [← hf]; exact hr))
        have HMM := Lib.hid hM
        clear hM hfr hf hr hb9 hoc
        go_wp2_with fail
        refine (cP.out _ ((Ext.refl wr).alloc _)).mono ?_
        rintro ev w5 ⟨rfl, x5⟩
        have HX5 := Lib.hid (Ext.trans ((Ext.refl wr).alloc _) x5)
        clear x5 cP q0 q1 q2 q3 q4
        dsimp only
        go_wp2_with fail
        (refine wp_region_X_lit (K := fun _ => True) (by kernel_rfl) (fun w1 hw1 => ?_))
        have HX6 := Lib.hid (Ext.trans HX5.out hw1)
        clear hw1
        refine xtv 0 (h := ?_)
        refine xtv 1 (h := ?_)
        refine xtv 2 (h := ?_)
        (refine xtakeU 3 (h := ?_); (simp only [Act.put, List.setIfInBounds_toArray, List.set]))
        (refine xtakeU 4 (h := ?_); (simp only [Act.put, List.setIfInBounds_toArray, List.set]))
        (refine xtakeU 5 (h := ?_); (simp only [Act.put, List.setIfInBounds_toArray, List.set]))
        (refine xtakeU 6 (h := ?_); (simp only [Act.put, List.setIfInBounds_toArray, List.set]))
        (refine xtakeU 7 (h := ?_); (simp only [Act.put, List.setIfInBounds_toArray, List.set]))
        (refine xtakeU 8 (h := ?_); (simp only [Act.put, List.setIfInBounds_toArray, List.set]))
        (refine xtakeU 9 (h := ?_); (simp only [Act.put, List.setIfInBounds_toArray, List.set]))
        (refine xtakeU 10 (h := ?_); (simp only [Act.put, List.setIfInBounds_toArray, List.set]))
        (refine xtakeU 11 (h := ?_); (simp only [Act.put, List.setIfInBounds_toArray, List.set]))
        refine xtv 12 (h := ?_)
        (refine xdone (by kernel_rfl) (trivial) ?_)
        have HL6 := Lib.hid (HS.out.1.ext HX6.out)
        go_wp2
        exact ⟨⟨k + 1, F', hlt, by go_num, by rw [HS.out.2, HMM.out], HL6⟩, by simp [intOf]; omega⟩
      · rw [hr, if_pos rfl] at cP
        have hWent := fun (w2 : World) (r : Value) (e : Ending) => HL.out.went (w2 := w2) (r := r) (e := e) hlt (by rw [← hf]; exact hr)
        obtain ⟨N, hNN⟩ : ∃ N, N = (P.part 1 FR k).net := ⟨_, rfl⟩
        obtain ⟨D2, I2, hA2, hG2⟩ := HL.out.at'
        have HA2 := Lib.hid hA2
        have HG2 := Lib.hid hG2
        obtain ⟨p02, p12, q2', ⟨ga2, gn2, gc2⟩, ⟨ha2, hn2', hc2⟩⟩ := D2
        obtain ⟨pb, hpb⟩ : ∃ pb, pb = putF f := ⟨_, rfl⟩
        have hsz : pb.size ≤ 1000 := by rw [hpb]; exact putF_short f
        rw [← hf, ← hNN] at hWent
        rw [← hpb] at cP hWent
        have HMM := Lib.hid hM
        have hcS := fun (W : World) (F3 : Nat → Prop) (n : NAt W q2' N F3) => pSend n 1 (1 - 1) pb hsz
        have hnn2 : (N.send 1 (1 - 1) pb).n = N.n := (N.send_room 1 (1 - 1) pb).2
        have hn9 : ∀ W, Ext wr W → NAt W q2' N (I2 2) := fun W x => by rw [hNN]; exact (HA2.out.ext x).net
        have hcall := fun (W1 W2 : World) (x : Ext wr W1) (S : NetS) (H9 : Nat → Prop) (r : Value) => net_call HA2.out HG2.out (w1 := W1) (w2 := W2) x (S := S) (H := H9) r
        rw [← hNN] at hcall
        obtain ⟨N', hN'⟩ : ∃ N', N' = N.send 1 (1 - 1) pb := ⟨_, rfl⟩
        obtain ⟨Y, hY⟩ : ∃ Y, Y = N.may 1 (1 - 1) := ⟨_, rfl⟩
        rw [← hN'] at hcS hWent hnn2
        rw [← hY] at hcS hWent
        have HCS : Hid (∀ W F3, NAt W q2' N F3 → Calls Tryz.prog 40 #[.pointer (some ⟨q2', 0, none⟩), .int .i64 1, .int .i64 0, .string pb] W (Moves q2' N' F3 (.bool Y) W)) := Lib.hid (by simpa using hcS)
        have HN9 := Lib.hid hn9
        have HNN2 := Lib.hid hnn2
        have HCL := Lib.hid hcall
        have HWW := Lib.hid hWent
        have HNN := Lib.hid hNN
        clear hM hfr hr hb9 hoc hA2 hG2 hWent hNN hpb hf hcS hn9 hnn2 hcall hN' hY hsz
        go_wp2_with fail
        refine (cP.out _ ((Ext.refl wr).alloc _)).mono ?_
        rintro ev w5 ⟨rfl, x5⟩
        have HX5 := Lib.hid (Ext.trans ((Ext.refl wr).alloc _) x5)
        clear x5 cP q0 q1 q2 q3 q4
        dsimp only
        go_wp2_with fail
        (refine wp_region_X_lit (K := fun W => W.cell? ⟨p, 4, none⟩ = some (.pointer (some ⟨q2', 0, none⟩))) (by kernel_rfl) (fun w1 hw1 => ?_))
        have HX6 := Lib.hid (Ext.trans HX5.out hw1)
        have k1 : w1.cell? ⟨p, 4, none⟩ = some (.pointer (some ⟨q2', 0, none⟩)) := (cells5 (HA2.out.ext HX6.out).blk).1.2.2.2.2
        clear hw1
        refine xtv 0 (h := ?_)
        refine xtv 1 (h := ?_)
        refine xtv 2 (h := ?_)
        refine xtv 3 (h := ?_)
        refine xtv 4 (h := ?_)
        refine xtv 5 (h := ?_)
        refine xtv 6 (hv := by intro w' hw'; have hc9 := hw'; go_simp; first | done | with_reducible rfl) (h := ?_)
        refine xtv 7 (h := ?_)
        refine xtv 8 (h := ?_)
        refine xtv 10 (h := ?_)
        refine xone 9 (hk := k1) (h := RunX.of 9 (h := ?_))
        go_simp
        refine (HOt.out _).mono ?_
        rintro ev w6 ⟨rfl, rfl⟩
        dsimp only
        (try (simp only [Act.put, List.setIfInBounds_toArray, List.set]))
        refine xone 11 (hk := k1) (h := RunX.of 11 (h := ?_))
        go_simp
        refine (HCS.out _ _ (HN9.out _ HX6.out)).mono ?_
        rintro ev w7 ⟨H7, rfl, n7, o7, g7⟩
        dsimp only
        (try (simp only [Act.put, List.setIfInBounds_toArray, List.set]))
        have k2 : w7.cell? ⟨p, 4, none⟩ = some (.pointer (some ⟨q2', 0, none⟩)) := (cells5 (HA2.out.net_blk HX6.out o7)).1.2.2.2.2
        have hm := HCL.out w1 w7 HX6.out N' H7 (.bool Y) n7 o7 g7 HNN2.out
        obtain ⟨⟨F9, h9⟩, hp9⟩ := HWW.out w7 _ _ hm
        have H9 := Lib.hid h9
        have HP9 := Lib.hid hp9
        clear hm h9 hp9 n7 o7 g7 k1
        refine xtv 12 (h := ?_)
        (refine xdone (by kernel_rfl) (k2) ?_)
        clear k2
        cases Y
        · go_wp2
          exact ⟨⟨k + 1, F9, hlt, by go_num, by rw [HP9.out, HMM.out]; rfl, H9⟩, by simp [intOf]; omega⟩
        · go_wp2
          exact ⟨⟨k + 1, F9, hlt, by go_num, by rw [HP9.out, HMM.out]; rfl, H9⟩, by simp [intOf]; omega⟩
    · have hke : k = FR.length := by omega
      subst hke
      have HZ : Hid (MovesP p (P.part 1 FR FR.length) F (.int .i64 ((P.partN 1 FR FR.length : Nat) : Int)) w (.returned (.int .i64 ((P.partN 1 FR FR.length : Nat) : Int))) wr) := Lib.hid ⟨F', rfl, HL.out.at', HL.out.off, HL.out.gr⟩
      clear HL
      go_wp2
      go_ret
      exact HZ.out

set_option maxRecDepth 50000 in
theorem iGo (hs : Std w) (h : PAt w p P F) (s : Int) :
    Calls Tryz.prog 10 #[.pointer (some ⟨p, 0, none⟩), .int .i64 s] w (MovesP p (P.go s) F (.int .i64 (P.goN s : Nat)) w) := by
  by_cases h0 : s = 0
  · subst h0; exact iGo0 hs h
  · by_cases h1 : s = 1
    · subst h1; exact iGo1 hs h
    · have hsd : PipeS.side s = false := by unfold PipeS.side; rw [decide_eq_false h0, decide_eq_false h1]; rfl
      rw [PipeS.go_no hsd, show P.goN s = 0 from by unfold PipeS.goN; rw [hsd, if_neg (by decide)]]
      have HM := Lib.hid (fun (W : World) (x : Ext w W) => same_movesP h (.int .i64 0) x)
      have cS := isSide_any w s
      rw [hsd] at cS
      replace cS := Lib.hid cS
      clear h0 h1 hsd h hs
      go_enter Tryz.func10, Tryz.ntmps10
      go_wp2_with fail
      refine cS.out.mono ?_
      rintro ev w1 ⟨rfl, rfl⟩
      go_wp2
      all_goals refine bodyPost_ret (v := .int .i64 0) (by simp [results, Tryz.results10, go_sem]) rfl ?_
      all_goals exact HM.out _ (Ext.refl _)
end
end Go.Proofs.YtlakolkpfkakoaaGreatDoor

/- What the program's pipes answer: Come. -/
namespace Go.Proofs.YtlakolkpfkakoaaGreatDoor
open Go.RowKit

set_option linter.unusedVariables false
structure ST (w : World) (I : Nat → Nat → Prop) (w' : World) (I' : Nat → Nat → Prop) : Prop where
  off : Off (UF I) w w'
  gr : Grows (UF I) (UF I') w
theorem ST.trans {a b c : World} {I J K : Nat → Nat → Prop} (h : ST a I b J) (k : ST b J c K) : ST a I c K := ⟨h.off.trans k.off h.gr, h.gr.trans k.gr h.off.size⟩
theorem ST.ext {a b : World} (I : Nat → Nat → Prop) (x : Ext a b) : ST a I b I := ⟨Off.of_ext x, Grows.refl _ _⟩
theorem ST.part {a b : World} {I : Nat → Nat → Prop} {i : Nat} {H : Nat → Prop} (o : Off (I i) a b) (g : Grows (I i) H a) : ST a I b (upd I i H) := ⟨off_uf o, uf_grows g⟩
section
variable {w : World} {p : Nat} {P : PipeS} {F : Nat → Prop}
theorem ST.moves {D D' : PD} {I I' : Nat → Nat → Prop} {w' : World} {P' : PipeS} (hg : ∀ k, F k ↔ UF I k) (s : ST w I w' I') (h : PA w' p P' D' I') (r : Value) : MovesP p P' F r w (.returned r) w' := by
  have e : F = UF I := funext fun k => propext (hg k)
  subst e
  exact ⟨UF I', rfl, ⟨D', I', h, fun _ => Iff.rfl⟩, s.off, s.gr⟩
theorem frOf_in9 {s : ByteArray} (hs : s.size ≤ 1000) : (frOf s).q < 18446744073709551616 ∧ (frOf s).a < 18446744073709551616 ∧ (frOf s).b.size ≤ 1000 := by
  have hx : ∀ i j, ∀ b ∈ ((bl s).drop i).take j, b < 256 := fun i j b hb => bl_lt s b (List.mem_of_mem_drop (List.mem_of_mem_take hb))
  have hn : ∀ i j, j ≤ 8 → numN (((bl s).drop i).take j) < 18446744073709551616 := fun i j hj => by
    have := numN_take_lt (l := ((bl s).drop i).take j) (hx i j) (by rw [List.length_take]; omega) j
    rwa [List.take_take, Nat.min_self] at this
  refine ⟨hn 5 8 (by decide), hn 13 8 (by decide), ?_⟩
  show (s.extract 23 (s.size - 4)).size ≤ _
  rw [ByteArray.size_extract]
  omega
theorem PA.got0 {D : PD} {I : Nat → Nat → Prop} (h : PA w p P D I) {W W2 : World} (x : Ext w W) {a2 : Option Addr} {n2 c2 : Nat} {b : ByteArray} (hb : b.size ≤ 1000) (ho : Ow W2 0 (.slice a2 n2 c2) (P.g0 ++ [b])) (ha : Apd 0 D.a.v (.slice a2 n2 c2) W W2) :
    PA (W2.setCell ⟨p, 2, none⟩ (.slice a2 n2 c2)) p { P with g0 := P.g0 ++ [b] } { D with a := ⟨a2, n2, c2⟩ } (upd I 3 fun k => (Value.slice a2 n2 c2).ownBlock = some k) ∧ ST w I (W2.setCell ⟨p, 2, none⟩ (.slice a2 n2 c2)) (upd I 3 fun k => (Value.slice a2 n2 c2).ownBlock = some k) := by
  have hx := x.size
  have oA : Off (fun k => D.a.v.ownBlock = some k) W W2 := ⟨ha.grown.os, ha.grown.tape, ha.grown.output, ha.grown.size, fun k hk hf => ha.grown.block k hk (fun e => hf e.symm)⟩
  have oW : Off (I 3) w W2 := (Off.of_ext (F := I 3) x).trans (oA.mono fun k hk => h.g0.2 k hk) (Grows.refl _ _)
  have oV : Off (fun k => I 3 k ∨ k = p) w (W2.setCell ⟨p, 2, none⟩ (.slice a2 n2 c2)) := (oW.mono fun k hk => .inl hk).trans ((off_set W2 ⟨p, 2, none⟩ _).mono fun k hk => .inr hk) (Grows.refl _ _)
  have hp : p < w.heap.size := blk_lt h.blk
  have hnew : ∀ k, (Value.slice a2 n2 c2).ownBlock = some k → I 3 k ∨ w.heap.size ≤ k := fun k hk => by
    rcases ha.block with h1 | h1
    · exact .inl (h.g0.2 k (h1 ▸ hk))
    · exact .inr (Nat.le_trans hx (h1 k hk))
  have hd : ∀ j, j ≠ 3 → j ≠ 5 → ∀ k, I j k → ¬ (I 3 k ∨ k = p) := fun j h1 h2 k hk e => by
    rcases e with e | e
    · exact h1 (h.dis j 3 k hk e)
    · subst e; exact h2 (h.dis j 5 k hk h.own)
  have g : Grows (I 3) (fun k => (Value.slice a2 n2 c2).ownBlock = some k) w := hnew
  have hne : ∀ k, (Value.slice a2 n2 c2).ownBlock = some k → k ≠ p := fun k hk e => by
    subst e
    rcases hnew k hk with h1 | h1
    · exact absurd (h.dis 3 5 k h1 h.own) (by decide)
    · omega
  have hpi : ¬ I 3 p := fun h1 => absurd (h.dis 3 5 p h1 h.own) (by decide)
  have hkeep : ∀ {v : SV} {xs : List ByteArray} {j : Nat}, j ≠ 3 → j ≠ 5 → (Ow w 0 v.v xs ∧ ∀ b, v.v.ownBlock = some b → I j b) → Ow (W2.setCell ⟨p, 2, none⟩ (.slice a2 n2 c2)) 0 v.v xs ∧ ∀ b, v.v.ownBlock = some b → upd I 3 (fun k => (Value.slice a2 n2 c2).ownBlock = some k) j b := fun {v xs j} h1 h2 h9 =>
    ⟨ow_keep h9.1 fun b hb => oV.block b (h9.1.low b hb).2 (hd j h1 h2 b (h9.2 b hb)), by rw [upd_ne I _ h1]; exact h9.2⟩
  refine ⟨⟨?_, h.e0.off oV (hd 0 (by decide) (by decide)), h.e1.off oV (hd 1 (by decide) (by decide)), h.net.off oV (hd 2 (by decide) (by decide)), ⟨ow_keep ho fun k hk => set_other _ _ _ _ (hne k hk), fun b hb => by rw [upd_same]; exact hb⟩, hkeep (by decide) (by decide) h.g1, h.own, h.dis.upd h.low g, low_upd1 h.low oV.size (fun k hk => by rw [set_size]; exact (ho.low k hk).2), h.two, ⟨fun x hx => (List.mem_append.1 hx).elim (h.short.1 x) (fun h1 => by rw [List.mem_singleton] at h1; rw [h1]; exact hb), h.short.2⟩, h.past g⟩, ⟨oV.mono fun k hk => ?_, uf_grows g⟩⟩
  · exact blk_set (oW.blk h.blk hpi) 2 _
  · rcases hk with hk | hk
    · exact ⟨3, hk⟩
    · exact ⟨5, by rw [hk]; exact h.own⟩
theorem PA.got1 {D : PD} {I : Nat → Nat → Prop} (h : PA w p P D I) {W W2 : World} (x : Ext w W) {a2 : Option Addr} {n2 c2 : Nat} {b : ByteArray} (hb : b.size ≤ 1000) (ho : Ow W2 0 (.slice a2 n2 c2) (P.g1 ++ [b])) (ha : Apd 0 D.b.v (.slice a2 n2 c2) W W2) :
    PA (W2.setCell ⟨p, 3, none⟩ (.slice a2 n2 c2)) p { P with g1 := P.g1 ++ [b] } { D with b := ⟨a2, n2, c2⟩ } (upd I 4 fun k => (Value.slice a2 n2 c2).ownBlock = some k) ∧ ST w I (W2.setCell ⟨p, 3, none⟩ (.slice a2 n2 c2)) (upd I 4 fun k => (Value.slice a2 n2 c2).ownBlock = some k) := by
  have hx := x.size
  have oA : Off (fun k => D.b.v.ownBlock = some k) W W2 := ⟨ha.grown.os, ha.grown.tape, ha.grown.output, ha.grown.size, fun k hk hf => ha.grown.block k hk (fun e => hf e.symm)⟩
  have oW : Off (I 4) w W2 := (Off.of_ext (F := I 4) x).trans (oA.mono fun k hk => h.g1.2 k hk) (Grows.refl _ _)
  have oV : Off (fun k => I 4 k ∨ k = p) w (W2.setCell ⟨p, 3, none⟩ (.slice a2 n2 c2)) := (oW.mono fun k hk => .inl hk).trans ((off_set W2 ⟨p, 3, none⟩ _).mono fun k hk => .inr hk) (Grows.refl _ _)
  have hp : p < w.heap.size := blk_lt h.blk
  have hnew : ∀ k, (Value.slice a2 n2 c2).ownBlock = some k → I 4 k ∨ w.heap.size ≤ k := fun k hk => by
    rcases ha.block with h1 | h1
    · exact .inl (h.g1.2 k (h1 ▸ hk))
    · exact .inr (Nat.le_trans hx (h1 k hk))
  have hd : ∀ j, j ≠ 4 → j ≠ 5 → ∀ k, I j k → ¬ (I 4 k ∨ k = p) := fun j h1 h2 k hk e => by
    rcases e with e | e
    · exact h1 (h.dis j 4 k hk e)
    · subst e; exact h2 (h.dis j 5 k hk h.own)
  have g : Grows (I 4) (fun k => (Value.slice a2 n2 c2).ownBlock = some k) w := hnew
  have hne : ∀ k, (Value.slice a2 n2 c2).ownBlock = some k → k ≠ p := fun k hk e => by
    subst e
    rcases hnew k hk with h1 | h1
    · exact absurd (h.dis 4 5 k h1 h.own) (by decide)
    · omega
  have hpi : ¬ I 4 p := fun h1 => absurd (h.dis 4 5 p h1 h.own) (by decide)
  have hkeep : ∀ {v : SV} {xs : List ByteArray} {j : Nat}, j ≠ 4 → j ≠ 5 → (Ow w 0 v.v xs ∧ ∀ b, v.v.ownBlock = some b → I j b) → Ow (W2.setCell ⟨p, 3, none⟩ (.slice a2 n2 c2)) 0 v.v xs ∧ ∀ b, v.v.ownBlock = some b → upd I 4 (fun k => (Value.slice a2 n2 c2).ownBlock = some k) j b := fun {v xs j} h1 h2 h9 =>
    ⟨ow_keep h9.1 fun b hb => oV.block b (h9.1.low b hb).2 (hd j h1 h2 b (h9.2 b hb)), by rw [upd_ne I _ h1]; exact h9.2⟩
  refine ⟨⟨?_, h.e0.off oV (hd 0 (by decide) (by decide)), h.e1.off oV (hd 1 (by decide) (by decide)), h.net.off oV (hd 2 (by decide) (by decide)), hkeep (by decide) (by decide) h.g0, ⟨ow_keep ho fun k hk => set_other _ _ _ _ (hne k hk), fun b hb => by rw [upd_same]; exact hb⟩, h.own, h.dis.upd h.low g, low_upd1 h.low oV.size (fun k hk => by rw [set_size]; exact (ho.low k hk).2), h.two, ⟨h.short.1, fun x hx => (List.mem_append.1 hx).elim (h.short.2 x) (fun h1 => by rw [List.mem_singleton] at h1; rw [h1]; exact hb)⟩, h.past g⟩, ⟨oV.mono fun k hk => ?_, uf_grows g⟩⟩
  · exact blk_set (oW.blk h.blk hpi) 3 _
  · rcases hk with hk | hk
    · exact ⟨4, hk⟩
    · exact ⟨5, by rw [hk]; exact h.own⟩

set_option maxRecDepth 50000 in
set_option maxHeartbeats 1600000 in
theorem iComeNo (h : PAt w p P F) (s k : Int) (ht : P.there s k = false) :
    Calls Tryz.prog 14 #[.pointer (some ⟨p, 0, none⟩), .int .i64 s, .int .i64 k] w (MovesP p (P.come s k) F (.tuple #[.string (P.comeB s k), .bool (P.comeY s k)]) w) := by
  have ok := h.ok
  obtain ⟨c1, c2, c3⟩ := PipeS.come_no ht
  rw [c1, c2, c3]
  have hl := PipeS.lose_no ht
  obtain ⟨D, I, hA, hg⟩ := h
  have HA := Lib.hid hA
  have HG := Lib.hid hg
  obtain ⟨p0, p1, q, ⟨ga, gn, gc⟩, ⟨ha, hn, hc⟩⟩ := D
  obtain ⟨O, hO⟩ : ∃ O, O = IntKind.i64.wrap (1 - s) := ⟨_, rfl⟩
  have HOt : Hid (∀ W, Calls Tryz.prog 41 #[.int .i64 s] W fun e w' => e = .returned (.int .i64 O) ∧ W = w') := Lib.hid (fun W => by rw [hO]; exact other_any W s)
  have HC : Hid (∀ W G, NAt W q P.net G → Calls Tryz.prog 48 #[.pointer (some ⟨q, 0, none⟩), .int .i64 O, .int .i64 s, .int .i64 k] W (Moves q P.net G (.tuple #[.string (P.look s k), .bool false]) W)) := Lib.hid (fun W G n => by
    have h9 := net_wrap ok.net ok.two s k 0
    rw [← hO] at h9
    have h8 := pDeliver n O s k
    rw [h9.1, h9.2.1, h9.2.2.1] at h8
    have h7 : P.net.deliver (1 - s) s k = P.net := congrArg PipeS.net hl
    have h6 : P.net.there (1 - s) s k = false := ht
    rw [h7, h6] at h8
    exact h8)
  obtain ⟨LK, hLK⟩ : ∃ z, z = P.look s k := ⟨_, rfl⟩
  rw [← hLK] at HC
  clear hLK hA hg ok hO hl ht c1 c2 c3
  go_enter Tryz.func14, Tryz.ntmps14
  go_wp2_with fail
  (refine wp_region_X_lit (K := fun W => W.cell? ⟨p, 4, none⟩ = some (.pointer (some ⟨q, 0, none⟩))) (by kernel_rfl) (fun w1 hw1 => ?_))
  have HX := Lib.hid hw1
  have HA1 := Lib.hid (HA.out.ext hw1)
  have k1 : w1.cell? ⟨p, 4, none⟩ = some (.pointer (some ⟨q, 0, none⟩)) := (cells5 HA1.out.blk).1.2.2.2.2
  clear hw1
  refine xtv 0 (h := ?_)
  refine xtv 1 (h := ?_)
  refine xtv 2 (h := ?_)
  refine xtv 3 (hv := by intro w' hw'; have hc := hw'; go_simp; first | done | with_reducible rfl) (h := ?_)
  refine xtv 4 (h := ?_)
  refine xtv 6 (h := ?_)
  refine xtv 7 (h := ?_)
  refine xone 5 (hk := k1) (h := RunX.of 5 (h := ?_))
  go_simp
  refine (HOt.out _).mono ?_
  rintro ev w2 ⟨rfl, rfl⟩
  dsimp only
  (try (simp only [Act.put, List.setIfInBounds_toArray, List.set]))
  refine xone 8 (hk := k1) (h := RunX.of 8 (h := ?_))
  go_simp
  refine (HC.out _ _ HA1.out.net).mono ?_
  rintro ev w2 ⟨H, rfl, n, o, g⟩
  dsimp only
  (try (simp only [Act.put, List.setIfInBounds_toArray, List.set]))
  have k2 : w2.cell? ⟨p, 4, none⟩ = some (.pointer (some ⟨q, 0, none⟩)) := (cells5 (HA.out.net_blk HX.out o)).1.2.2.2.2
  have HM := Lib.hid (net_call HA.out HG.out HX.out (.tuple #[.string ⟨#[]⟩, .bool false]) n o g rfl)
  clear n o g k1
  refine xtv 9 (h := ?_)
  refine xtv 10 (h := ?_)
  refine xtv 11 (h := ?_)
  refine xtv 12 (h := ?_)
  refine xtv 13 (h := ?_)
  (refine xdone (by kernel_rfl) (k2) ?_)
  go_wp2
  go_ret2
  exact HM.out

set_option maxRecDepth 50000 in
set_option maxHeartbeats 6400000 in
theorem iCome0 (hs : Std w) (h : PAt w p P F) (k : Int) (ht : P.there 0 k = true) (hg : P.g0.length ≤ 1000000) :
    Calls Tryz.prog 14 #[.pointer (some ⟨p, 0, none⟩), .int .i64 0, .int .i64 k] w (MovesP p (P.come 0 k) F (.tuple #[.string (P.comeB 0 k), .bool (P.comeY 0 k)]) w) := by
  have ok := h.ok
  have hpast := h.past
  have hrm := (P.net.deliver_room (1 - 0) 0 k).2
  obtain ⟨D, I, hA, hGG⟩ := h
  have HA := Lib.hid hA
  have HG := Lib.hid hGG
  obtain ⟨p0, p1, q, ⟨ga, gn, gc⟩, ⟨ha, hn, hc⟩⟩ := D
  have HOt : Hid (∀ W, Calls Tryz.prog 41 #[.int .i64 0] W fun e w' => e = .returned (.int .i64 1) ∧ W = w') := Lib.hid (fun W => by
    have h9 := other_any W 0
    rwa [show IntKind.i64.wrap (1 - 0) = 1 from by decide] at h9)
  have hbs : (P.look 0 k).size ≤ 1000 := NetS.look_short ok.net _ _ _
  obtain ⟨B, hB⟩ : ∃ B, B = P.look 0 k := ⟨_, rfl⟩
  obtain ⟨N', hN'⟩ : ∃ N', N' = P.net.deliver (1 - 0) 0 k := ⟨_, rfl⟩
  have HC : Hid (∀ W G, NAt W q P.net G → Calls Tryz.prog 48 #[.pointer (some ⟨q, 0, none⟩), .int .i64 1, .int .i64 0, .int .i64 k] W (Moves q N' G (.tuple #[.string B, .bool true]) W)) := Lib.hid (fun W G n => by
    have h8 := pDeliver n (1 - 0) 0 k
    have h6 : P.net.there (1 - 0) 0 k = true := ht
    have h5 : P.net.look (1 - 0) 0 k = B := hB.symm
    rw [h6, h5, ← hN'] at h8
    exact h8)
  have hlose : P.lose 0 k = { P with net := N' } := by rw [hN']; rfl
  have hisF : P.isF 0 k = decide (whatN B = 0) := by unfold PipeS.isF; rw [ht, ← hB, Bool.true_and]
  have hcome : P.come 0 k = if whatN B = 0 then ({ P with net := N' } : PipeS).takeF 0 (frOf B) else { P with net := N' } := by
    unfold PipeS.come
    rw [hisF, hlose, ← hB]
    by_cases h0 : whatN B = 0
    · rw [if_pos (decide_eq_true h0), if_pos h0]
    · rw [if_neg (by simpa using h0), if_neg h0]
  have hcY : P.comeY 0 k = (decide (whatN B = 0) && P.e0.told (frOf B)) := by unfold PipeS.comeY; rw [hisF, ← hB]; rfl
  have hcB : P.comeB 0 k = if P.comeY 0 k = true then (frOf B).b else ⟨#[]⟩ := by unfold PipeS.comeB; rw [← hB]
  rw [hcB, hcY, hcome]
  rw [← hB] at hbs
  rw [← hN'] at hrm
  have hfi := frOf_in9 hbs
  have HRM := Lib.hid (hrm.trans hA.two)
  have cG := fun W (h : Std W) => get_any W h B (Nat.le_trans hbs (by decide))
  have HST : Hid (∀ W, Off (UF I) w W → Std W) := Lib.hid (fun W o => hs.off o (fun k hk => hpast k ((hGG k).2 hk)))
  obtain ⟨wn, hwn⟩ : ∃ wn, wn = whatN B := ⟨_, rfl⟩
  rw [← hwn] at cG ⊢
  by_cases hz : wn = 0
  · rw [if_pos hz, decide_eq_true hz, Bool.true_and]
    obtain ⟨f, hf⟩ : ∃ f, f = frOf B := ⟨_, rfl⟩
    have hgf : getF B = f := by unfold getF; rw [← hwn, if_pos hz, hf]
    rw [← hf] at hfi ⊢
    rw [hgf, hz] at cG
    unfold frV at cG
    have HFI := Lib.hid hfi
    have HGL := Lib.hid hg
    have hE : ({ P with net := N' } : PipeS).takeF 0 f = if P.e0.told f = true then { P with net := N', e0 := P.e0.take f, g0 := P.g0 ++ [f.b] } else { P with net := N', e0 := P.e0.take f } := by
      unfold PipeS.takeF
      show PipeS.setG (PipeS.setE _ 0 (P.e0.take f)) 0 (if P.e0.told f = true then P.g0 ++ [f.b] else P.g0) = _
      cases P.e0.told f
      · rfl
      · rfl
    rw [hE]
    have hcT := fun (W : World) (F' : Nat → Prop) (h1 : Std W) (h2 : EAt W p0 P.e0 F') => pTake h1 h2 f hfi.2.1 hfi.1 hfi.2.2
    unfold EndS.body at hcT
    obtain ⟨E', hE'⟩ : ∃ E', E' = P.e0.take f := ⟨_, rfl⟩
    rw [← hE'] at hcT ⊢
    cases hT : P.e0.told f
    · rw [if_neg (by decide), if_neg (by decide)]
      rw [hT, if_neg (by decide)] at hcT
      have HCG := Lib.hid cG
      have HCT := Lib.hid hcT
      obtain ⟨fk, fe, fq, fa, fb⟩ := f
      dsimp only at HFI HCG HCT ⊢
      have hfb : Hid (fb.size ≤ 1000) := Lib.hid HFI.out.2.2
      clear hA hGG ok hB hN' hlose hisF hcome hcY hcB hbs hrm cG hs hpast hwn hf hgf hfi ht hz hg hE hcT hE' hT
      go_enter Tryz.func14, Tryz.ntmps14
      go_wp2_with fail
      (refine wp_region_X_lit (K := fun W => W.cell? ⟨p, 4, none⟩ = some (.pointer (some ⟨q, 0, none⟩))) (by kernel_rfl) (fun w1 hw1 => ?_))
      have HX := Lib.hid hw1
      have HA1 := Lib.hid (HA.out.ext hw1)
      have k1 : w1.cell? ⟨p, 4, none⟩ = some (.pointer (some ⟨q, 0, none⟩)) := (cells5 HA1.out.blk).1.2.2.2.2
      clear hw1
      refine xtv 0 (h := ?_)
      refine xtv 1 (h := ?_)
      refine xtv 2 (h := ?_)
      refine xtv 3 (hv := by intro w' hw'; have hc := hw'; go_simp; first | done | with_reducible rfl) (h := ?_)
      refine xtv 4 (h := ?_)
      refine xtv 6 (h := ?_)
      refine xtv 7 (h := ?_)
      refine xone 5 (hk := k1) (h := RunX.of 5 (h := ?_))
      go_simp
      refine (HOt.out _).mono ?_
      rintro ev w2 ⟨rfl, rfl⟩
      dsimp only
      (try (simp only [Act.put, List.setIfInBounds_toArray, List.set]))
      refine xone 8 (hk := k1) (h := RunX.of 8 (h := ?_))
      go_simp
      refine (HC.out _ _ HA1.out.net).mono ?_
      rintro ev w3 ⟨H, rfl, n, o, g⟩
      dsimp only
      (try (simp only [Act.put, List.setIfInBounds_toArray, List.set]))
      have k2 : w3.cell? ⟨p, 4, none⟩ = some (.pointer (some ⟨q, 0, none⟩)) := (cells5 (HA.out.net_blk HX.out o)).1.2.2.2.2
      have HA3 := Lib.hid (HA1.out.moved2 n o g HRM.out)
      have HT3 := Lib.hid ((ST.ext I HX.out).trans (ST.part o g))
      clear n o g k1
      refine xtv 9 (h := ?_)
      refine xtv 10 (h := ?_)
      refine xtv 11 (h := ?_)
      refine xtv 12 (h := ?_)
      refine xtv 13 (h := ?_)
      (refine xdone (by kernel_rfl) (k2) ?_)
      clear k2
      go_wp2_with fail
      refine (HCG.out _ (HST.out _ HT3.out.off)).mono ?_
      rintro ev w5 ⟨rfl, x5⟩
      have HA5 := Lib.hid (HA3.out.ext x5)
      have HT5 := Lib.hid (HT3.out.trans (ST.ext _ x5))
      clear x5 HA3 HT3
      dsimp only
      go_wp2_with fail
      (refine wp_region_X_lit (K := fun W => W.cell? ⟨p, 0, none⟩ = some (.pointer (some ⟨p0, 0, none⟩)) ∧ W.heap[w5.heap.size]? = some (.cells #[.int .i64 fk, .int .i64 fe, .int .u64 fq, .int .u64 fa, .string fb] 83 (0, 0))) (by kernel_rfl) (fun w1 hw1 => ?_))
      have HX6 : Hid (Ext w5 w1) := Lib.hid (Ext.trans ((Ext.refl w5).alloc _) hw1)
      have HA6 := Lib.hid (HA5.out.ext HX6.out)
      have HT6 := Lib.hid (HT5.out.trans (ST.ext _ HX6.out))
      have kb : w1.heap[w5.heap.size]? = some (.cells #[.int .i64 fk, .int .i64 fe, .int .u64 fq, .int .u64 fa, .string fb] 83 (0, 0)) := (hw1.block _ (by rw [size_alloc]; omega)).trans (get_alloc_new w5 _)
      have k6 : w1.cell? ⟨p, 0, none⟩ = some (.pointer (some ⟨p0, 0, none⟩)) ∧ w1.heap[w5.heap.size]? = some (.cells #[.int .i64 fk, .int .i64 fe, .int .u64 fq, .int .u64 fa, .string fb] 83 (0, 0)) := ⟨(cells5 HA6.out.blk).1.1, kb⟩
      clear hw1
      refine xtv 0 (h := ?_)
      refine xtv 1 (h := ?_)
      refine xtv 2 (h := ?_)
      refine xtv 3 (h := ?_)
      refine xtv 4 (h := ?_)
      refine xtv 5 (hv := by intro w' hw'; have hc := hw'.1; go_simp; first | done | with_reducible rfl) (h := ?_)
      refine xtv 6 (hv := by intro w' hw'; obtain ⟨⟨q0, q1, q2, q3, q4⟩, _⟩ := cells5 hw'.2; go_simp; first | done | with_reducible rfl) (h := ?_)
      refine xone 7 (hk := k6) (h := RunX.of 7 (h := ?_))
      go_simp
      refine (HCT.out _ _ (HST.out _ HT6.out.off) HA6.out.e0).mono ?_
      rintro ev w8 ⟨H8, rfl, n8, o8, g8⟩
      dsimp only
      (try (simp only [Act.put, List.setIfInBounds_toArray, List.set]))
      have HA8 := Lib.hid (HA6.out.moved0 n8 o8 g8)
      have HT8 := Lib.hid (HT6.out.trans (ST.part o8 g8))
      have k8 : w8.cell? ⟨p, 0, none⟩ = some (.pointer (some ⟨p0, 0, none⟩)) ∧ w8.heap[w5.heap.size]? = some (.cells #[.int .i64 fk, .int .i64 fe, .int .u64 fq, .int .u64 fa, .string fb] 83 (0, 0)) := ⟨(cells5 HA8.out.blk).1.1, o8.blk kb (fun h9 => Nat.lt_irrefl _ (HA5.out.low 0 _ h9))⟩
      clear n8 o8 g8 k6 kb HA6 HT6 HA5 HT5
      refine xtv 8 (h := ?_)
      refine xtv 9 (h := ?_)
      refine xtv 10 (h := ?_)
      refine xtv 11 (h := ?_)
      refine xtv 12 (h := ?_)
      (refine xdone (by kernel_rfl) (k8) ?_)
      clear k8
      go_wp2
      go_ret2
      exact ST.moves (D := ⟨p0, p1, q, ⟨ga, gn, gc⟩, ⟨ha, hn, hc⟩⟩) HG.out HT8.out HA8.out (.tuple #[.string ⟨#[]⟩, .bool false])
    · rw [if_pos rfl, if_pos rfl]
      rw [hT, if_pos rfl] at hcT
      have HCG := Lib.hid cG
      have HCT := Lib.hid hcT
      obtain ⟨fk, fe, fq, fa, fb⟩ := f
      dsimp only at HFI HCG HCT ⊢
      have hfb : Hid (fb.size ≤ 1000) := Lib.hid HFI.out.2.2
      clear hA hGG ok hB hN' hlose hisF hcome hcY hcB hbs hrm cG hs hpast hwn hf hgf hfi ht hz hg hE hcT hE' hT
      go_enter Tryz.func14, Tryz.ntmps14
      go_wp2_with fail
      (refine wp_region_X_lit (K := fun W => W.cell? ⟨p, 4, none⟩ = some (.pointer (some ⟨q, 0, none⟩))) (by kernel_rfl) (fun w1 hw1 => ?_))
      have HX := Lib.hid hw1
      have HA1 := Lib.hid (HA.out.ext hw1)
      have k1 : w1.cell? ⟨p, 4, none⟩ = some (.pointer (some ⟨q, 0, none⟩)) := (cells5 HA1.out.blk).1.2.2.2.2
      clear hw1
      refine xtv 0 (h := ?_)
      refine xtv 1 (h := ?_)
      refine xtv 2 (h := ?_)
      refine xtv 3 (hv := by intro w' hw'; have hc := hw'; go_simp; first | done | with_reducible rfl) (h := ?_)
      refine xtv 4 (h := ?_)
      refine xtv 6 (h := ?_)
      refine xtv 7 (h := ?_)
      refine xone 5 (hk := k1) (h := RunX.of 5 (h := ?_))
      go_simp
      refine (HOt.out _).mono ?_
      rintro ev w2 ⟨rfl, rfl⟩
      dsimp only
      (try (simp only [Act.put, List.setIfInBounds_toArray, List.set]))
      refine xone 8 (hk := k1) (h := RunX.of 8 (h := ?_))
      go_simp
      refine (HC.out _ _ HA1.out.net).mono ?_
      rintro ev w3 ⟨H, rfl, n, o, g⟩
      dsimp only
      (try (simp only [Act.put, List.setIfInBounds_toArray, List.set]))
      have k2 : w3.cell? ⟨p, 4, none⟩ = some (.pointer (some ⟨q, 0, none⟩)) := (cells5 (HA.out.net_blk HX.out o)).1.2.2.2.2
      have HA3 := Lib.hid (HA1.out.moved2 n o g HRM.out)
      have HT3 := Lib.hid ((ST.ext I HX.out).trans (ST.part o g))
      clear n o g k1
      refine xtv 9 (h := ?_)
      refine xtv 10 (h := ?_)
      refine xtv 11 (h := ?_)
      refine xtv 12 (h := ?_)
      refine xtv 13 (h := ?_)
      (refine xdone (by kernel_rfl) (k2) ?_)
      clear k2
      go_wp2_with fail
      refine (HCG.out _ (HST.out _ HT3.out.off)).mono ?_
      rintro ev w5 ⟨rfl, x5⟩
      have HA5 := Lib.hid (HA3.out.ext x5)
      have HT5 := Lib.hid (HT3.out.trans (ST.ext _ x5))
      clear x5 HA3 HT3
      dsimp only
      go_wp2_with fail
      (refine wp_region_X_lit (K := fun W => W.cell? ⟨p, 0, none⟩ = some (.pointer (some ⟨p0, 0, none⟩)) ∧ W.heap[w5.heap.size]? = some (.cells #[.int .i64 fk, .int .i64 fe, .int .u64 fq, .int .u64 fa, .string fb] 83 (0, 0))) (by kernel_rfl) (fun w1 hw1 => ?_))
      have HX6 : Hid (Ext w5 w1) := Lib.hid (Ext.trans ((Ext.refl w5).alloc _) hw1)
      have HA6 := Lib.hid (HA5.out.ext HX6.out)
      have HT6 := Lib.hid (HT5.out.trans (ST.ext _ HX6.out))
      have kb : w1.heap[w5.heap.size]? = some (.cells #[.int .i64 fk, .int .i64 fe, .int .u64 fq, .int .u64 fa, .string fb] 83 (0, 0)) := (hw1.block _ (by rw [size_alloc]; omega)).trans (get_alloc_new w5 _)
      have k6 : w1.cell? ⟨p, 0, none⟩ = some (.pointer (some ⟨p0, 0, none⟩)) ∧ w1.heap[w5.heap.size]? = some (.cells #[.int .i64 fk, .int .i64 fe, .int .u64 fq, .int .u64 fa, .string fb] 83 (0, 0)) := ⟨(cells5 HA6.out.blk).1.1, kb⟩
      clear hw1
      refine xtv 0 (h := ?_)
      refine xtv 1 (h := ?_)
      refine xtv 2 (h := ?_)
      refine xtv 3 (h := ?_)
      refine xtv 4 (h := ?_)
      refine xtv 5 (hv := by intro w' hw'; have hc := hw'.1; go_simp; first | done | with_reducible rfl) (h := ?_)
      refine xtv 6 (hv := by intro w' hw'; obtain ⟨⟨q0, q1, q2, q3, q4⟩, _⟩ := cells5 hw'.2; go_simp; first | done | with_reducible rfl) (h := ?_)
      refine xone 7 (hk := k6) (h := RunX.of 7 (h := ?_))
      go_simp
      refine (HCT.out _ _ (HST.out _ HT6.out.off) HA6.out.e0).mono ?_
      rintro ev w8 ⟨H8, rfl, n8, o8, g8⟩
      dsimp only
      (try (simp only [Act.put, List.setIfInBounds_toArray, List.set]))
      have HA8 := Lib.hid (HA6.out.moved0 n8 o8 g8)
      have HT8 := Lib.hid (HT6.out.trans (ST.part o8 g8))
      have k8 : w8.cell? ⟨p, 0, none⟩ = some (.pointer (some ⟨p0, 0, none⟩)) ∧ w8.heap[w5.heap.size]? = some (.cells #[.int .i64 fk, .int .i64 fe, .int .u64 fq, .int .u64 fa, .string fb] 83 (0, 0)) := ⟨(cells5 HA8.out.blk).1.1, o8.blk kb (fun h9 => Nat.lt_irrefl _ (HA5.out.low 0 _ h9))⟩
      clear n8 o8 g8 k6 kb HA6 HT6 HA5 HT5
      refine xtv 8 (h := ?_)
      refine xtv 9 (h := ?_)
      refine xtv 10 (h := ?_)
      refine xtv 11 (h := ?_)
      refine xtv 12 (h := ?_)
      (refine xdone (by kernel_rfl) (k8) ?_)
      clear k8
      have HCLO := Lib.hid (fun W => clone_any W fb (Nat.le_trans hfb.out (by decide)))
      have hgl := HGL.out
      go_wp2_with fail
      (refine wp_region_X_lit (K := fun _ => True) (by kernel_rfl) (fun w1 hw1 => ?_))
      have HXB := Lib.hid hw1
      obtain ⟨⟨_, _, d2, d3, _⟩, _⟩ := cells5 (HA8.out.ext hw1).blk
      clear hw1
      refine xtv 0 (h := ?_)
      refine xtv 1 (h := ?_)
      refine xtv 2 (h := ?_)
      refine xtv 3 (h := ?_)
      refine xtv 4 (h := ?_)
      refine xtv 5 (h := ?_)
      refine xtv 6 (h := ?_)
      refine xtv 8 (h := ?_)
      refine xtv 12 (h := ?_)
      refine xtv 13 (h := ?_)
      refine xtwo 7 9 (hk := trivial) (h := RunX.of 7 (h := ?_)) (h' := RunX.of 9 (h := ?_))
      · go_simp
        (try (simp only [Act.put, List.setIfInBounds_toArray, List.set]))
        refine xone 9 (hk := trivial) (h := RunX.of 9 (h := ?_))
        go_simp
        refine (HCLO.out _).mono ?_
        rintro e9 w9 ⟨rfl, hx9⟩
        have HX9 := Lib.hid (Ext.trans HXB.out hx9)
        clear hx9
        dsimp only
        (try (simp only [Act.put, List.setIfInBounds_toArray, List.set]))
        refine xone 10 (hk := trivial) (h := RunX.of 10 (h := ?_))
        go_simp
        (try (simp only [Act.put, List.setIfInBounds_toArray, List.set]))
        refine xone 11 (hk := trivial) (h := RunX.of 11 (h := ?_))
        (refine wp_append_sl (α := ByteArray) (.tmp 54) (.tmp 57) rfl 0 (.slice ga gn gc) P.g0 rfl ?_ (.slice (some ⟨_, 0, none⟩) 1 1) [fb] rfl ?_ ?_ ?_ ?_; exact ((HA8.out.ext (HX9.out.alloc (.cells #[.string fb] 9))).g0.1); exact (Sl.litAt w9 _ rfl [fb] (show (1 : Nat) ≤ 1000000 by decide)); (first | omega | (simp; omega)); (exact Nat.zero_le _); intro v2 W2 ho2 ha2)
        obtain ⟨a2, n2, c2, rfl⟩ := ho2.sh
        obtain ⟨hend, hst⟩ := HA8.out.got0 (HX9.out.alloc (.cells #[.string fb] 9)) hfb.out ho2 ha2
        have HEND := Lib.hid (ST.moves (D := ⟨p0, p1, q, ⟨ga, gn, gc⟩, ⟨ha, hn, hc⟩⟩) HG.out (HT8.out.trans hst) hend (.tuple #[.string fb, .bool true]))
        have kb2 : W2.heap[p]? = w8.heap[p]? := by have hx := Below.size (HX9.out.alloc (.cells #[.string fb] 9)); have hp := blk_lt HA8.out.blk; exact (ha2.grown.block p (by omega) (fun e => absurd (HA8.out.dis 3 5 p (HA8.out.g0.2 p e.symm) HA8.out.own) (by decide))).trans ((HX9.out.alloc (.cells #[.string fb] 9)).block p hp)
        obtain ⟨⟨z0, z1, z2, z3, z4⟩, y0, y1, y2, y3, y4⟩ := cells5 (kb2.trans HA8.out.blk)
        clear ho2 ha2 hend hst kb2
        dsimp only
        (try (simp only [Act.put, List.setIfInBounds_toArray, List.set]))
        refine xone 14 (hk := trivial) (h := RunX.of 14 (h := ?_))
        go_simp
        (try (simp only [Act.put, List.setIfInBounds_toArray, List.set]))
        refine xone 15 (hk := trivial) (h := RunX.of 15 (h := ?_))
        go_simp
        (try (simp only [Act.put, List.setIfInBounds_toArray, List.set]))
        (refine xdone (by kernel_rfl) (trivial) ?_)
        clear z0 z1 z2 z3 z4 y0 y1 y2 y3 y4
        go_wp2
        go_ret2
        exact HEND.out
      · go_simp
        refine (HCLO.out _).mono ?_
        rintro e9 w9 ⟨rfl, hx9⟩
        have HX9 := Lib.hid (Ext.trans HXB.out hx9)
        clear hx9
        dsimp only
        (try (simp only [Act.put, List.setIfInBounds_toArray, List.set]))
        refine xtwo 7 10 (hk := trivial) (h := RunX.of 7 (h := ?_)) (h' := RunX.of 10 (h := ?_))
        · obtain ⟨⟨_, _, d2, d3, _⟩, _⟩ := cells5 (HA8.out.ext HX9.out).blk
          go_simp
          (try (simp only [Act.put, List.setIfInBounds_toArray, List.set]))
          refine xone 10 (hk := trivial) (h := RunX.of 10 (h := ?_))
          go_simp
          (try (simp only [Act.put, List.setIfInBounds_toArray, List.set]))
          refine xone 11 (hk := trivial) (h := RunX.of 11 (h := ?_))
          (refine wp_append_sl (α := ByteArray) (.tmp 54) (.tmp 57) rfl 0 (.slice ga gn gc) P.g0 rfl ?_ (.slice (some ⟨_, 0, none⟩) 1 1) [fb] rfl ?_ ?_ ?_ ?_; exact ((HA8.out.ext (HX9.out.alloc (.cells #[.string fb] 9))).g0.1); exact (Sl.litAt w9 _ rfl [fb] (show (1 : Nat) ≤ 1000000 by decide)); (first | omega | (simp; omega)); (exact Nat.zero_le _); intro v2 W2 ho2 ha2)
          obtain ⟨a2, n2, c2, rfl⟩ := ho2.sh
          obtain ⟨hend, hst⟩ := HA8.out.got0 (HX9.out.alloc (.cells #[.string fb] 9)) hfb.out ho2 ha2
          have HEND := Lib.hid (ST.moves (D := ⟨p0, p1, q, ⟨ga, gn, gc⟩, ⟨ha, hn, hc⟩⟩) HG.out (HT8.out.trans hst) hend (.tuple #[.string fb, .bool true]))
          have kb2 : W2.heap[p]? = w8.heap[p]? := by have hx := Below.size (HX9.out.alloc (.cells #[.string fb] 9)); have hp := blk_lt HA8.out.blk; exact (ha2.grown.block p (by omega) (fun e => absurd (HA8.out.dis 3 5 p (HA8.out.g0.2 p e.symm) HA8.out.own) (by decide))).trans ((HX9.out.alloc (.cells #[.string fb] 9)).block p hp)
          obtain ⟨⟨z0, z1, z2, z3, z4⟩, y0, y1, y2, y3, y4⟩ := cells5 (kb2.trans HA8.out.blk)
          clear ho2 ha2 hend hst kb2
          dsimp only
          (try (simp only [Act.put, List.setIfInBounds_toArray, List.set]))
          refine xone 14 (hk := trivial) (h := RunX.of 14 (h := ?_))
          go_simp
          (try (simp only [Act.put, List.setIfInBounds_toArray, List.set]))
          refine xone 15 (hk := trivial) (h := RunX.of 15 (h := ?_))
          go_simp
          (try (simp only [Act.put, List.setIfInBounds_toArray, List.set]))
          (refine xdone (by kernel_rfl) (trivial) ?_)
          clear z0 z1 z2 z3 z4 y0 y1 y2 y3 y4
          go_wp2
          go_ret2
          exact HEND.out
        · go_simp
          (try (simp only [Act.put, List.setIfInBounds_toArray, List.set]))
          obtain ⟨⟨_, _, d2, d3, _⟩, _⟩ := cells5 (HA8.out.ext (HX9.out.alloc (.cells #[.string fb] 9))).blk
          refine xone 7 (hk := trivial) (h := RunX.of 7 (h := ?_))
          go_simp
          (try (simp only [Act.put, List.setIfInBounds_toArray, List.set]))
          refine xone 11 (hk := trivial) (h := RunX.of 11 (h := ?_))
          (refine wp_append_sl (α := ByteArray) (.tmp 54) (.tmp 57) rfl 0 (.slice ga gn gc) P.g0 rfl ?_ (.slice (some ⟨_, 0, none⟩) 1 1) [fb] rfl ?_ ?_ ?_ ?_; exact ((HA8.out.ext (HX9.out.alloc (.cells #[.string fb] 9))).g0.1); exact (Sl.litAt w9 _ rfl [fb] (show (1 : Nat) ≤ 1000000 by decide)); (first | omega | (simp; omega)); (exact Nat.zero_le _); intro v2 W2 ho2 ha2)
          obtain ⟨a2, n2, c2, rfl⟩ := ho2.sh
          obtain ⟨hend, hst⟩ := HA8.out.got0 (HX9.out.alloc (.cells #[.string fb] 9)) hfb.out ho2 ha2
          have HEND := Lib.hid (ST.moves (D := ⟨p0, p1, q, ⟨ga, gn, gc⟩, ⟨ha, hn, hc⟩⟩) HG.out (HT8.out.trans hst) hend (.tuple #[.string fb, .bool true]))
          have kb2 : W2.heap[p]? = w8.heap[p]? := by have hx := Below.size (HX9.out.alloc (.cells #[.string fb] 9)); have hp := blk_lt HA8.out.blk; exact (ha2.grown.block p (by omega) (fun e => absurd (HA8.out.dis 3 5 p (HA8.out.g0.2 p e.symm) HA8.out.own) (by decide))).trans ((HX9.out.alloc (.cells #[.string fb] 9)).block p hp)
          obtain ⟨⟨z0, z1, z2, z3, z4⟩, y0, y1, y2, y3, y4⟩ := cells5 (kb2.trans HA8.out.blk)
          clear ho2 ha2 hend hst kb2
          dsimp only
          (try (simp only [Act.put, List.setIfInBounds_toArray, List.set]))
          refine xone 14 (hk := trivial) (h := RunX.of 14 (h := ?_))
          go_simp
          (try (simp only [Act.put, List.setIfInBounds_toArray, List.set]))
          refine xone 15 (hk := trivial) (h := RunX.of 15 (h := ?_))
          go_simp
          (try (simp only [Act.put, List.setIfInBounds_toArray, List.set]))
          (refine xdone (by kernel_rfl) (trivial) ?_)
          clear z0 z1 z2 z3 z4 y0 y1 y2 y3 y4
          go_wp2
          go_ret2
          exact HEND.out
  · rw [if_neg hz, decide_eq_false hz, Bool.false_and]
    rw [if_neg (by decide)]
    have hze : ((wn : Int) == 0) = false := beq_eq_false_iff_ne.2 (by omega)
    have hze2 : ¬ (wn : Int) = 0 := by omega
    obtain ⟨f, hf⟩ : ∃ f, f = getF B := ⟨_, rfl⟩
    rw [← hf] at cG
    unfold frV at cG
    have HCG := Lib.hid cG
    clear hA hGG ok hB hN' hlose hisF hcome hcY hcB hbs hrm cG hs hpast hwn hf hfi ht hz hg
    go_enter Tryz.func14, Tryz.ntmps14
    go_wp2_with fail
    (refine wp_region_X_lit (K := fun W => W.cell? ⟨p, 4, none⟩ = some (.pointer (some ⟨q, 0, none⟩))) (by kernel_rfl) (fun w1 hw1 => ?_))
    have HX := Lib.hid hw1
    have HA1 := Lib.hid (HA.out.ext hw1)
    have k1 : w1.cell? ⟨p, 4, none⟩ = some (.pointer (some ⟨q, 0, none⟩)) := (cells5 HA1.out.blk).1.2.2.2.2
    clear hw1
    refine xtv 0 (h := ?_)
    refine xtv 1 (h := ?_)
    refine xtv 2 (h := ?_)
    refine xtv 3 (hv := by intro w' hw'; have hc := hw'; go_simp; first | done | with_reducible rfl) (h := ?_)
    refine xtv 4 (h := ?_)
    refine xtv 6 (h := ?_)
    refine xtv 7 (h := ?_)
    refine xone 5 (hk := k1) (h := RunX.of 5 (h := ?_))
    go_simp
    refine (HOt.out _).mono ?_
    rintro ev w2 ⟨rfl, rfl⟩
    dsimp only
    (try (simp only [Act.put, List.setIfInBounds_toArray, List.set]))
    refine xone 8 (hk := k1) (h := RunX.of 8 (h := ?_))
    go_simp
    refine (HC.out _ _ HA1.out.net).mono ?_
    rintro ev w3 ⟨H, rfl, n, o, g⟩
    dsimp only
    (try (simp only [Act.put, List.setIfInBounds_toArray, List.set]))
    have k2 : w3.cell? ⟨p, 4, none⟩ = some (.pointer (some ⟨q, 0, none⟩)) := (cells5 (HA.out.net_blk HX.out o)).1.2.2.2.2
    have HA3 := Lib.hid (HA1.out.moved2 n o g HRM.out)
    have HT3 := Lib.hid ((ST.ext I HX.out).trans (ST.part o g))
    clear n o g k1
    refine xtv 9 (h := ?_)
    refine xtv 10 (h := ?_)
    refine xtv 11 (h := ?_)
    refine xtv 12 (h := ?_)
    refine xtv 13 (h := ?_)
    (refine xdone (by kernel_rfl) (k2) ?_)
    clear k2
    go_wp2_with fail
    refine (HCG.out _ (HST.out _ HT3.out.off)).mono ?_
    rintro ev w5 ⟨rfl, x5⟩
    have HM := Lib.hid (fun (W : World) (x : Ext w5 W) => ST.moves (D := ⟨p0, p1, q, ⟨ga, gn, gc⟩, ⟨ha, hn, hc⟩⟩) HG.out (HT3.out.trans (ST.ext _ (Ext.trans x5 x))) (HA3.out.ext (Ext.trans x5 x)) (.tuple #[.string ⟨#[]⟩, .bool false]))
    clear x5 HA3 HT3
    dsimp only
    go_wp2
    go_ret2
    exact HM.out _ ((Ext.refl w5).alloc _)

set_option maxRecDepth 50000 in
set_option maxHeartbeats 6400000 in
theorem iCome1 (hs : Std w) (h : PAt w p P F) (k : Int) (ht : P.there 1 k = true) (hg : P.g1.length ≤ 1000000) :
    Calls Tryz.prog 14 #[.pointer (some ⟨p, 0, none⟩), .int .i64 1, .int .i64 k] w (MovesP p (P.come 1 k) F (.tuple #[.string (P.comeB 1 k), .bool (P.comeY 1 k)]) w) := by
  have ok := h.ok
  have hpast := h.past
  have hrm := (P.net.deliver_room (1 - 1) 1 k).2
  obtain ⟨D, I, hA, hGG⟩ := h
  have HA := Lib.hid hA
  have HG := Lib.hid hGG
  obtain ⟨p0, p1, q, ⟨ga, gn, gc⟩, ⟨ha, hn, hc⟩⟩ := D
  have HOt : Hid (∀ W, Calls Tryz.prog 41 #[.int .i64 1] W fun e w' => e = .returned (.int .i64 0) ∧ W = w') := Lib.hid (fun W => by
    have h9 := other_any W 1
    rwa [show IntKind.i64.wrap (1 - 1) = 0 from by decide] at h9)
  have hbs : (P.look 1 k).size ≤ 1000 := NetS.look_short ok.net _ _ _
  obtain ⟨B, hB⟩ : ∃ B, B = P.look 1 k := ⟨_, rfl⟩
  obtain ⟨N', hN'⟩ : ∃ N', N' = P.net.deliver (1 - 1) 1 k := ⟨_, rfl⟩
  have HC : Hid (∀ W G, NAt W q P.net G → Calls Tryz.prog 48 #[.pointer (some ⟨q, 0, none⟩), .int .i64 0, .int .i64 1, .int .i64 k] W (Moves q N' G (.tuple #[.string B, .bool true]) W)) := Lib.hid (fun W G n => by
    have h8 := pDeliver n (1 - 1) 1 k
    have h6 : P.net.there (1 - 1) 1 k = true := ht
    have h5 : P.net.look (1 - 1) 1 k = B := hB.symm
    rw [h6, h5, ← hN'] at h8
    exact h8)
  have hlose : P.lose 1 k = { P with net := N' } := by rw [hN']; rfl
  have hisF : P.isF 1 k = decide (whatN B = 0) := by unfold PipeS.isF; rw [ht, ← hB, Bool.true_and]
  have hcome : P.come 1 k = if whatN B = 0 then ({ P with net := N' } : PipeS).takeF 1 (frOf B) else { P with net := N' } := by
    unfold PipeS.come
    rw [hisF, hlose, ← hB]
    by_cases h0 : whatN B = 0
    · rw [if_pos (decide_eq_true h0), if_pos h0]
    · rw [if_neg (by simpa using h0), if_neg h0]
  have hcY : P.comeY 1 k = (decide (whatN B = 0) && P.e1.told (frOf B)) := by unfold PipeS.comeY; rw [hisF, ← hB]; rfl
  have hcB : P.comeB 1 k = if P.comeY 1 k = true then (frOf B).b else ⟨#[]⟩ := by unfold PipeS.comeB; rw [← hB]
  rw [hcB, hcY, hcome]
  rw [← hB] at hbs
  rw [← hN'] at hrm
  have hfi := frOf_in9 hbs
  have HRM := Lib.hid (hrm.trans hA.two)
  have cG := fun W (h : Std W) => get_any W h B (Nat.le_trans hbs (by decide))
  have HST : Hid (∀ W, Off (UF I) w W → Std W) := Lib.hid (fun W o => hs.off o (fun k hk => hpast k ((hGG k).2 hk)))
  obtain ⟨wn, hwn⟩ : ∃ wn, wn = whatN B := ⟨_, rfl⟩
  rw [← hwn] at cG ⊢
  by_cases hz : wn = 0
  · rw [if_pos hz, decide_eq_true hz, Bool.true_and]
    obtain ⟨f, hf⟩ : ∃ f, f = frOf B := ⟨_, rfl⟩
    have hgf : getF B = f := by unfold getF; rw [← hwn, if_pos hz, hf]
    rw [← hf] at hfi ⊢
    rw [hgf, hz] at cG
    unfold frV at cG
    have HFI := Lib.hid hfi
    have HGL := Lib.hid hg
    have hE : ({ P with net := N' } : PipeS).takeF 1 f = if P.e1.told f = true then { P with net := N', e1 := P.e1.take f, g1 := P.g1 ++ [f.b] } else { P with net := N', e1 := P.e1.take f } := by
      unfold PipeS.takeF
      show PipeS.setG (PipeS.setE _ 1 (P.e1.take f)) 1 (if P.e1.told f = true then P.g1 ++ [f.b] else P.g1) = _
      cases P.e1.told f
      · rfl
      · rfl
    rw [hE]
    have hcT := fun (W : World) (F' : Nat → Prop) (h1 : Std W) (h2 : EAt W p1 P.e1 F') => pTake h1 h2 f hfi.2.1 hfi.1 hfi.2.2
    unfold EndS.body at hcT
    obtain ⟨E', hE'⟩ : ∃ E', E' = P.e1.take f := ⟨_, rfl⟩
    rw [← hE'] at hcT ⊢
    cases hT : P.e1.told f
    · rw [if_neg (by decide), if_neg (by decide)]
      rw [hT, if_neg (by decide)] at hcT
      have HCG := Lib.hid cG
      have HCT := Lib.hid hcT
      obtain ⟨fk, fe, fq, fa, fb⟩ := f
      dsimp only at HFI HCG HCT ⊢
      have hfb : Hid (fb.size ≤ 1000) := Lib.hid HFI.out.2.2
      clear hA hGG ok hB hN' hlose hisF hcome hcY hcB hbs hrm cG hs hpast hwn hf hgf hfi ht hz hg hE hcT hE' hT
      go_enter Tryz.func14, Tryz.ntmps14
      go_wp2_with fail
      (refine wp_region_X_lit (K := fun W => W.cell? ⟨p, 4, none⟩ = some (.pointer (some ⟨q, 0, none⟩))) (by kernel_rfl) (fun w1 hw1 => ?_))
      have HX := Lib.hid hw1
      have HA1 := Lib.hid (HA.out.ext hw1)
      have k1 : w1.cell? ⟨p, 4, none⟩ = some (.pointer (some ⟨q, 0, none⟩)) := (cells5 HA1.out.blk).1.2.2.2.2
      clear hw1
      refine xtv 0 (h := ?_)
      refine xtv 1 (h := ?_)
      refine xtv 2 (h := ?_)
      refine xtv 3 (hv := by intro w' hw'; have hc := hw'; go_simp; first | done | with_reducible rfl) (h := ?_)
      refine xtv 4 (h := ?_)
      refine xtv 6 (h := ?_)
      refine xtv 7 (h := ?_)
      refine xone 5 (hk := k1) (h := RunX.of 5 (h := ?_))
      go_simp
      refine (HOt.out _).mono ?_
      rintro ev w2 ⟨rfl, rfl⟩
      dsimp only
      (try (simp only [Act.put, List.setIfInBounds_toArray, List.set]))
      refine xone 8 (hk := k1) (h := RunX.of 8 (h := ?_))
      go_simp
      refine (HC.out _ _ HA1.out.net).mono ?_
      rintro ev w3 ⟨H, rfl, n, o, g⟩
      dsimp only
      (try (simp only [Act.put, List.setIfInBounds_toArray, List.set]))
      have k2 : w3.cell? ⟨p, 4, none⟩ = some (.pointer (some ⟨q, 0, none⟩)) := (cells5 (HA.out.net_blk HX.out o)).1.2.2.2.2
      have HA3 := Lib.hid (HA1.out.moved2 n o g HRM.out)
      have HT3 := Lib.hid ((ST.ext I HX.out).trans (ST.part o g))
      clear n o g k1
      refine xtv 9 (h := ?_)
      refine xtv 10 (h := ?_)
      refine xtv 11 (h := ?_)
      refine xtv 12 (h := ?_)
      refine xtv 13 (h := ?_)
      (refine xdone (by kernel_rfl) (k2) ?_)
      clear k2
      go_wp2_with fail
      refine (HCG.out _ (HST.out _ HT3.out.off)).mono ?_
      rintro ev w5 ⟨rfl, x5⟩
      have HA5 := Lib.hid (HA3.out.ext x5)
      have HT5 := Lib.hid (HT3.out.trans (ST.ext _ x5))
      clear x5 HA3 HT3
      dsimp only
      go_wp2_with fail
      (refine wp_region_X_lit (K := fun W => W.cell? ⟨p, 1, none⟩ = some (.pointer (some ⟨p1, 0, none⟩)) ∧ W.heap[w5.heap.size]? = some (.cells #[.int .i64 fk, .int .i64 fe, .int .u64 fq, .int .u64 fa, .string fb] 83 (0, 0))) (by kernel_rfl) (fun w1 hw1 => ?_))
      have HX6 : Hid (Ext w5 w1) := Lib.hid (Ext.trans ((Ext.refl w5).alloc _) hw1)
      have HA6 := Lib.hid (HA5.out.ext HX6.out)
      have HT6 := Lib.hid (HT5.out.trans (ST.ext _ HX6.out))
      have kb : w1.heap[w5.heap.size]? = some (.cells #[.int .i64 fk, .int .i64 fe, .int .u64 fq, .int .u64 fa, .string fb] 83 (0, 0)) := (hw1.block _ (by rw [size_alloc]; omega)).trans (get_alloc_new w5 _)
      have k6 : w1.cell? ⟨p, 1, none⟩ = some (.pointer (some ⟨p1, 0, none⟩)) ∧ w1.heap[w5.heap.size]? = some (.cells #[.int .i64 fk, .int .i64 fe, .int .u64 fq, .int .u64 fa, .string fb] 83 (0, 0)) := ⟨(cells5 HA6.out.blk).1.2.1, kb⟩
      clear hw1
      refine xtv 0 (h := ?_)
      refine xtv 1 (h := ?_)
      refine xtv 2 (h := ?_)
      refine xtv 3 (h := ?_)
      refine xtv 4 (h := ?_)
      refine xtv 5 (hv := by intro w' hw'; have hc := hw'.1; go_simp; first | done | with_reducible rfl) (h := ?_)
      refine xtv 6 (hv := by intro w' hw'; obtain ⟨⟨q0, q1, q2, q3, q4⟩, _⟩ := cells5 hw'.2; go_simp; first | done | with_reducible rfl) (h := ?_)
      refine xone 7 (hk := k6) (h := RunX.of 7 (h := ?_))
      go_simp
      refine (HCT.out _ _ (HST.out _ HT6.out.off) HA6.out.e1).mono ?_
      rintro ev w8 ⟨H8, rfl, n8, o8, g8⟩
      dsimp only
      (try (simp only [Act.put, List.setIfInBounds_toArray, List.set]))
      have HA8 := Lib.hid (HA6.out.moved1 n8 o8 g8)
      have HT8 := Lib.hid (HT6.out.trans (ST.part o8 g8))
      have k8 : w8.cell? ⟨p, 1, none⟩ = some (.pointer (some ⟨p1, 0, none⟩)) ∧ w8.heap[w5.heap.size]? = some (.cells #[.int .i64 fk, .int .i64 fe, .int .u64 fq, .int .u64 fa, .string fb] 83 (0, 0)) := ⟨(cells5 HA8.out.blk).1.2.1, o8.blk kb (fun h9 => Nat.lt_irrefl _ (HA5.out.low 1 _ h9))⟩
      clear n8 o8 g8 k6 kb HA6 HT6 HA5 HT5
      refine xtv 8 (h := ?_)
      refine xtv 9 (h := ?_)
      refine xtv 10 (h := ?_)
      refine xtv 11 (h := ?_)
      refine xtv 12 (h := ?_)
      (refine xdone (by kernel_rfl) (k8) ?_)
      clear k8
      go_wp2
      go_ret2
      exact ST.moves (D := ⟨p0, p1, q, ⟨ga, gn, gc⟩, ⟨ha, hn, hc⟩⟩) HG.out HT8.out HA8.out (.tuple #[.string ⟨#[]⟩, .bool false])
    · rw [if_pos rfl, if_pos rfl]
      rw [hT, if_pos rfl] at hcT
      have HCG := Lib.hid cG
      have HCT := Lib.hid hcT
      obtain ⟨fk, fe, fq, fa, fb⟩ := f
      dsimp only at HFI HCG HCT ⊢
      have hfb : Hid (fb.size ≤ 1000) := Lib.hid HFI.out.2.2
      clear hA hGG ok hB hN' hlose hisF hcome hcY hcB hbs hrm cG hs hpast hwn hf hgf hfi ht hz hg hE hcT hE' hT
      go_enter Tryz.func14, Tryz.ntmps14
      go_wp2_with fail
      (refine wp_region_X_lit (K := fun W => W.cell? ⟨p, 4, none⟩ = some (.pointer (some ⟨q, 0, none⟩))) (by kernel_rfl) (fun w1 hw1 => ?_))
      have HX := Lib.hid hw1
      have HA1 := Lib.hid (HA.out.ext hw1)
      have k1 : w1.cell? ⟨p, 4, none⟩ = some (.pointer (some ⟨q, 0, none⟩)) := (cells5 HA1.out.blk).1.2.2.2.2
      clear hw1
      refine xtv 0 (h := ?_)
      refine xtv 1 (h := ?_)
      refine xtv 2 (h := ?_)
      refine xtv 3 (hv := by intro w' hw'; have hc := hw'; go_simp; first | done | with_reducible rfl) (h := ?_)
      refine xtv 4 (h := ?_)
      refine xtv 6 (h := ?_)
      refine xtv 7 (h := ?_)
      refine xone 5 (hk := k1) (h := RunX.of 5 (h := ?_))
      go_simp
      refine (HOt.out _).mono ?_
      rintro ev w2 ⟨rfl, rfl⟩
      dsimp only
      (try (simp only [Act.put, List.setIfInBounds_toArray, List.set]))
      refine xone 8 (hk := k1) (h := RunX.of 8 (h := ?_))
      go_simp
      refine (HC.out _ _ HA1.out.net).mono ?_
      rintro ev w3 ⟨H, rfl, n, o, g⟩
      dsimp only
      (try (simp only [Act.put, List.setIfInBounds_toArray, List.set]))
      have k2 : w3.cell? ⟨p, 4, none⟩ = some (.pointer (some ⟨q, 0, none⟩)) := (cells5 (HA.out.net_blk HX.out o)).1.2.2.2.2
      have HA3 := Lib.hid (HA1.out.moved2 n o g HRM.out)
      have HT3 := Lib.hid ((ST.ext I HX.out).trans (ST.part o g))
      clear n o g k1
      refine xtv 9 (h := ?_)
      refine xtv 10 (h := ?_)
      refine xtv 11 (h := ?_)
      refine xtv 12 (h := ?_)
      refine xtv 13 (h := ?_)
      (refine xdone (by kernel_rfl) (k2) ?_)
      clear k2
      go_wp2_with fail
      refine (HCG.out _ (HST.out _ HT3.out.off)).mono ?_
      rintro ev w5 ⟨rfl, x5⟩
      have HA5 := Lib.hid (HA3.out.ext x5)
      have HT5 := Lib.hid (HT3.out.trans (ST.ext _ x5))
      clear x5 HA3 HT3
      dsimp only
      go_wp2_with fail
      (refine wp_region_X_lit (K := fun W => W.cell? ⟨p, 1, none⟩ = some (.pointer (some ⟨p1, 0, none⟩)) ∧ W.heap[w5.heap.size]? = some (.cells #[.int .i64 fk, .int .i64 fe, .int .u64 fq, .int .u64 fa, .string fb] 83 (0, 0))) (by kernel_rfl) (fun w1 hw1 => ?_))
      have HX6 : Hid (Ext w5 w1) := Lib.hid (Ext.trans ((Ext.refl w5).alloc _) hw1)
      have HA6 := Lib.hid (HA5.out.ext HX6.out)
      have HT6 := Lib.hid (HT5.out.trans (ST.ext _ HX6.out))
      have kb : w1.heap[w5.heap.size]? = some (.cells #[.int .i64 fk, .int .i64 fe, .int .u64 fq, .int .u64 fa, .string fb] 83 (0, 0)) := (hw1.block _ (by rw [size_alloc]; omega)).trans (get_alloc_new w5 _)
      have k6 : w1.cell? ⟨p, 1, none⟩ = some (.pointer (some ⟨p1, 0, none⟩)) ∧ w1.heap[w5.heap.size]? = some (.cells #[.int .i64 fk, .int .i64 fe, .int .u64 fq, .int .u64 fa, .string fb] 83 (0, 0)) := ⟨(cells5 HA6.out.blk).1.2.1, kb⟩
      clear hw1
      refine xtv 0 (h := ?_)
      refine xtv 1 (h := ?_)
      refine xtv 2 (h := ?_)
      refine xtv 3 (h := ?_)
      refine xtv 4 (h := ?_)
      refine xtv 5 (hv := by intro w' hw'; have hc := hw'.1; go_simp; first | done | with_reducible rfl) (h := ?_)
      refine xtv 6 (hv := by intro w' hw'; obtain ⟨⟨q0, q1, q2, q3, q4⟩, _⟩ := cells5 hw'.2; go_simp; first | done | with_reducible rfl) (h := ?_)
      refine xone 7 (hk := k6) (h := RunX.of 7 (h := ?_))
      go_simp
      refine (HCT.out _ _ (HST.out _ HT6.out.off) HA6.out.e1).mono ?_
      rintro ev w8 ⟨H8, rfl, n8, o8, g8⟩
      dsimp only
      (try (simp only [Act.put, List.setIfInBounds_toArray, List.set]))
      have HA8 := Lib.hid (HA6.out.moved1 n8 o8 g8)
      have HT8 := Lib.hid (HT6.out.trans (ST.part o8 g8))
      have k8 : w8.cell? ⟨p, 1, none⟩ = some (.pointer (some ⟨p1, 0, none⟩)) ∧ w8.heap[w5.heap.size]? = some (.cells #[.int .i64 fk, .int .i64 fe, .int .u64 fq, .int .u64 fa, .string fb] 83 (0, 0)) := ⟨(cells5 HA8.out.blk).1.2.1, o8.blk kb (fun h9 => Nat.lt_irrefl _ (HA5.out.low 1 _ h9))⟩
      clear n8 o8 g8 k6 kb HA6 HT6 HA5 HT5
      refine xtv 8 (h := ?_)
      refine xtv 9 (h := ?_)
      refine xtv 10 (h := ?_)
      refine xtv 11 (h := ?_)
      refine xtv 12 (h := ?_)
      (refine xdone (by kernel_rfl) (k8) ?_)
      clear k8
      have HCLO := Lib.hid (fun W => clone_any W fb (Nat.le_trans hfb.out (by decide)))
      have hgl := HGL.out
      go_wp2_with fail
      (refine wp_region_X_lit (K := fun _ => True) (by kernel_rfl) (fun w1 hw1 => ?_))
      have HXB := Lib.hid hw1
      obtain ⟨⟨_, _, d2, d3, _⟩, _⟩ := cells5 (HA8.out.ext hw1).blk
      clear hw1
      refine xtv 0 (h := ?_)
      refine xtv 1 (h := ?_)
      refine xtv 2 (h := ?_)
      refine xtv 3 (h := ?_)
      refine xtv 4 (h := ?_)
      refine xtv 5 (h := ?_)
      refine xtv 6 (h := ?_)
      refine xtv 8 (h := ?_)
      refine xtv 12 (h := ?_)
      refine xtv 13 (h := ?_)
      refine xtwo 7 9 (hk := trivial) (h := RunX.of 7 (h := ?_)) (h' := RunX.of 9 (h := ?_))
      · go_simp
        (try (simp only [Act.put, List.setIfInBounds_toArray, List.set]))
        refine xone 9 (hk := trivial) (h := RunX.of 9 (h := ?_))
        go_simp
        refine (HCLO.out _).mono ?_
        rintro e9 w9 ⟨rfl, hx9⟩
        have HX9 := Lib.hid (Ext.trans HXB.out hx9)
        clear hx9
        dsimp only
        (try (simp only [Act.put, List.setIfInBounds_toArray, List.set]))
        refine xone 10 (hk := trivial) (h := RunX.of 10 (h := ?_))
        go_simp
        (try (simp only [Act.put, List.setIfInBounds_toArray, List.set]))
        refine xone 11 (hk := trivial) (h := RunX.of 11 (h := ?_))
        (refine wp_append_sl (α := ByteArray) (.tmp 54) (.tmp 57) rfl 0 (.slice ha hn hc) P.g1 rfl ?_ (.slice (some ⟨_, 0, none⟩) 1 1) [fb] rfl ?_ ?_ ?_ ?_; exact ((HA8.out.ext (HX9.out.alloc (.cells #[.string fb] 9))).g1.1); exact (Sl.litAt w9 _ rfl [fb] (show (1 : Nat) ≤ 1000000 by decide)); (first | omega | (simp; omega)); (exact Nat.zero_le _); intro v2 W2 ho2 ha2)
        obtain ⟨a2, n2, c2, rfl⟩ := ho2.sh
        obtain ⟨hend, hst⟩ := HA8.out.got1 (HX9.out.alloc (.cells #[.string fb] 9)) hfb.out ho2 ha2
        have HEND := Lib.hid (ST.moves (D := ⟨p0, p1, q, ⟨ga, gn, gc⟩, ⟨ha, hn, hc⟩⟩) HG.out (HT8.out.trans hst) hend (.tuple #[.string fb, .bool true]))
        have kb2 : W2.heap[p]? = w8.heap[p]? := by have hx := Below.size (HX9.out.alloc (.cells #[.string fb] 9)); have hp := blk_lt HA8.out.blk; exact (ha2.grown.block p (by omega) (fun e => absurd (HA8.out.dis 4 5 p (HA8.out.g1.2 p e.symm) HA8.out.own) (by decide))).trans ((HX9.out.alloc (.cells #[.string fb] 9)).block p hp)
        obtain ⟨⟨z0, z1, z2, z3, z4⟩, y0, y1, y2, y3, y4⟩ := cells5 (kb2.trans HA8.out.blk)
        clear ho2 ha2 hend hst kb2
        dsimp only
        (try (simp only [Act.put, List.setIfInBounds_toArray, List.set]))
        refine xone 14 (hk := trivial) (h := RunX.of 14 (h := ?_))
        go_simp
        (try (simp only [Act.put, List.setIfInBounds_toArray, List.set]))
        refine xone 15 (hk := trivial) (h := RunX.of 15 (h := ?_))
        go_simp
        (try (simp only [Act.put, List.setIfInBounds_toArray, List.set]))
        (refine xdone (by kernel_rfl) (trivial) ?_)
        clear z0 z1 z2 z3 z4 y0 y1 y2 y3 y4
        go_wp2
        go_ret2
        exact HEND.out
      · go_simp
        refine (HCLO.out _).mono ?_
        rintro e9 w9 ⟨rfl, hx9⟩
        have HX9 := Lib.hid (Ext.trans HXB.out hx9)
        clear hx9
        dsimp only
        (try (simp only [Act.put, List.setIfInBounds_toArray, List.set]))
        refine xtwo 7 10 (hk := trivial) (h := RunX.of 7 (h := ?_)) (h' := RunX.of 10 (h := ?_))
        · obtain ⟨⟨_, _, d2, d3, _⟩, _⟩ := cells5 (HA8.out.ext HX9.out).blk
          go_simp
          (try (simp only [Act.put, List.setIfInBounds_toArray, List.set]))
          refine xone 10 (hk := trivial) (h := RunX.of 10 (h := ?_))
          go_simp
          (try (simp only [Act.put, List.setIfInBounds_toArray, List.set]))
          refine xone 11 (hk := trivial) (h := RunX.of 11 (h := ?_))
          (refine wp_append_sl (α := ByteArray) (.tmp 54) (.tmp 57) rfl 0 (.slice ha hn hc) P.g1 rfl ?_ (.slice (some ⟨_, 0, none⟩) 1 1) [fb] rfl ?_ ?_ ?_ ?_; exact ((HA8.out.ext (HX9.out.alloc (.cells #[.string fb] 9))).g1.1); exact (Sl.litAt w9 _ rfl [fb] (show (1 : Nat) ≤ 1000000 by decide)); (first | omega | (simp; omega)); (exact Nat.zero_le _); intro v2 W2 ho2 ha2)
          obtain ⟨a2, n2, c2, rfl⟩ := ho2.sh
          obtain ⟨hend, hst⟩ := HA8.out.got1 (HX9.out.alloc (.cells #[.string fb] 9)) hfb.out ho2 ha2
          have HEND := Lib.hid (ST.moves (D := ⟨p0, p1, q, ⟨ga, gn, gc⟩, ⟨ha, hn, hc⟩⟩) HG.out (HT8.out.trans hst) hend (.tuple #[.string fb, .bool true]))
          have kb2 : W2.heap[p]? = w8.heap[p]? := by have hx := Below.size (HX9.out.alloc (.cells #[.string fb] 9)); have hp := blk_lt HA8.out.blk; exact (ha2.grown.block p (by omega) (fun e => absurd (HA8.out.dis 4 5 p (HA8.out.g1.2 p e.symm) HA8.out.own) (by decide))).trans ((HX9.out.alloc (.cells #[.string fb] 9)).block p hp)
          obtain ⟨⟨z0, z1, z2, z3, z4⟩, y0, y1, y2, y3, y4⟩ := cells5 (kb2.trans HA8.out.blk)
          clear ho2 ha2 hend hst kb2
          dsimp only
          (try (simp only [Act.put, List.setIfInBounds_toArray, List.set]))
          refine xone 14 (hk := trivial) (h := RunX.of 14 (h := ?_))
          go_simp
          (try (simp only [Act.put, List.setIfInBounds_toArray, List.set]))
          refine xone 15 (hk := trivial) (h := RunX.of 15 (h := ?_))
          go_simp
          (try (simp only [Act.put, List.setIfInBounds_toArray, List.set]))
          (refine xdone (by kernel_rfl) (trivial) ?_)
          clear z0 z1 z2 z3 z4 y0 y1 y2 y3 y4
          go_wp2
          go_ret2
          exact HEND.out
        · go_simp
          (try (simp only [Act.put, List.setIfInBounds_toArray, List.set]))
          obtain ⟨⟨_, _, d2, d3, _⟩, _⟩ := cells5 (HA8.out.ext (HX9.out.alloc (.cells #[.string fb] 9))).blk
          refine xone 7 (hk := trivial) (h := RunX.of 7 (h := ?_))
          go_simp
          (try (simp only [Act.put, List.setIfInBounds_toArray, List.set]))
          refine xone 11 (hk := trivial) (h := RunX.of 11 (h := ?_))
          (refine wp_append_sl (α := ByteArray) (.tmp 54) (.tmp 57) rfl 0 (.slice ha hn hc) P.g1 rfl ?_ (.slice (some ⟨_, 0, none⟩) 1 1) [fb] rfl ?_ ?_ ?_ ?_; exact ((HA8.out.ext (HX9.out.alloc (.cells #[.string fb] 9))).g1.1); exact (Sl.litAt w9 _ rfl [fb] (show (1 : Nat) ≤ 1000000 by decide)); (first | omega | (simp; omega)); (exact Nat.zero_le _); intro v2 W2 ho2 ha2)
          obtain ⟨a2, n2, c2, rfl⟩ := ho2.sh
          obtain ⟨hend, hst⟩ := HA8.out.got1 (HX9.out.alloc (.cells #[.string fb] 9)) hfb.out ho2 ha2
          have HEND := Lib.hid (ST.moves (D := ⟨p0, p1, q, ⟨ga, gn, gc⟩, ⟨ha, hn, hc⟩⟩) HG.out (HT8.out.trans hst) hend (.tuple #[.string fb, .bool true]))
          have kb2 : W2.heap[p]? = w8.heap[p]? := by have hx := Below.size (HX9.out.alloc (.cells #[.string fb] 9)); have hp := blk_lt HA8.out.blk; exact (ha2.grown.block p (by omega) (fun e => absurd (HA8.out.dis 4 5 p (HA8.out.g1.2 p e.symm) HA8.out.own) (by decide))).trans ((HX9.out.alloc (.cells #[.string fb] 9)).block p hp)
          obtain ⟨⟨z0, z1, z2, z3, z4⟩, y0, y1, y2, y3, y4⟩ := cells5 (kb2.trans HA8.out.blk)
          clear ho2 ha2 hend hst kb2
          dsimp only
          (try (simp only [Act.put, List.setIfInBounds_toArray, List.set]))
          refine xone 14 (hk := trivial) (h := RunX.of 14 (h := ?_))
          go_simp
          (try (simp only [Act.put, List.setIfInBounds_toArray, List.set]))
          refine xone 15 (hk := trivial) (h := RunX.of 15 (h := ?_))
          go_simp
          (try (simp only [Act.put, List.setIfInBounds_toArray, List.set]))
          (refine xdone (by kernel_rfl) (trivial) ?_)
          clear z0 z1 z2 z3 z4 y0 y1 y2 y3 y4
          go_wp2
          go_ret2
          exact HEND.out
  · rw [if_neg hz, decide_eq_false hz, Bool.false_and]
    rw [if_neg (by decide)]
    have hze : ((wn : Int) == 0) = false := beq_eq_false_iff_ne.2 (by omega)
    have hze2 : ¬ (wn : Int) = 0 := by omega
    obtain ⟨f, hf⟩ : ∃ f, f = getF B := ⟨_, rfl⟩
    rw [← hf] at cG
    unfold frV at cG
    have HCG := Lib.hid cG
    clear hA hGG ok hB hN' hlose hisF hcome hcY hcB hbs hrm cG hs hpast hwn hf hfi ht hz hg
    go_enter Tryz.func14, Tryz.ntmps14
    go_wp2_with fail
    (refine wp_region_X_lit (K := fun W => W.cell? ⟨p, 4, none⟩ = some (.pointer (some ⟨q, 0, none⟩))) (by kernel_rfl) (fun w1 hw1 => ?_))
    have HX := Lib.hid hw1
    have HA1 := Lib.hid (HA.out.ext hw1)
    have k1 : w1.cell? ⟨p, 4, none⟩ = some (.pointer (some ⟨q, 0, none⟩)) := (cells5 HA1.out.blk).1.2.2.2.2
    clear hw1
    refine xtv 0 (h := ?_)
    refine xtv 1 (h := ?_)
    refine xtv 2 (h := ?_)
    refine xtv 3 (hv := by intro w' hw'; have hc := hw'; go_simp; first | done | with_reducible rfl) (h := ?_)
    refine xtv 4 (h := ?_)
    refine xtv 6 (h := ?_)
    refine xtv 7 (h := ?_)
    refine xone 5 (hk := k1) (h := RunX.of 5 (h := ?_))
    go_simp
    refine (HOt.out _).mono ?_
    rintro ev w2 ⟨rfl, rfl⟩
    dsimp only
    (try (simp only [Act.put, List.setIfInBounds_toArray, List.set]))
    refine xone 8 (hk := k1) (h := RunX.of 8 (h := ?_))
    go_simp
    refine (HC.out _ _ HA1.out.net).mono ?_
    rintro ev w3 ⟨H, rfl, n, o, g⟩
    dsimp only
    (try (simp only [Act.put, List.setIfInBounds_toArray, List.set]))
    have k2 : w3.cell? ⟨p, 4, none⟩ = some (.pointer (some ⟨q, 0, none⟩)) := (cells5 (HA.out.net_blk HX.out o)).1.2.2.2.2
    have HA3 := Lib.hid (HA1.out.moved2 n o g HRM.out)
    have HT3 := Lib.hid ((ST.ext I HX.out).trans (ST.part o g))
    clear n o g k1
    refine xtv 9 (h := ?_)
    refine xtv 10 (h := ?_)
    refine xtv 11 (h := ?_)
    refine xtv 12 (h := ?_)
    refine xtv 13 (h := ?_)
    (refine xdone (by kernel_rfl) (k2) ?_)
    clear k2
    go_wp2_with fail
    refine (HCG.out _ (HST.out _ HT3.out.off)).mono ?_
    rintro ev w5 ⟨rfl, x5⟩
    have HM := Lib.hid (fun (W : World) (x : Ext w5 W) => ST.moves (D := ⟨p0, p1, q, ⟨ga, gn, gc⟩, ⟨ha, hn, hc⟩⟩) HG.out (HT3.out.trans (ST.ext _ (Ext.trans x5 x))) (HA3.out.ext (Ext.trans x5 x)) (.tuple #[.string ⟨#[]⟩, .bool false]))
    clear x5 HA3 HT3
    dsimp only
    go_wp2
    go_ret2
    exact HM.out _ ((Ext.refl w5).alloc _)

theorem iCome (hs : Std w) (h : PAt w p P F) (s k : Int) (hg : (P.got s).length ≤ 1000000) :
    Calls Tryz.prog 14 #[.pointer (some ⟨p, 0, none⟩), .int .i64 s, .int .i64 k] w (MovesP p (P.come s k) F (.tuple #[.string (P.comeB s k), .bool (P.comeY s k)]) w) := by
  by_cases ht : P.there s k = true
  · cases hsd : PipeS.side s
    · rw [PipeS.there_no h.ok hsd k] at ht
      cases ht
    · unfold PipeS.side at hsd
      simp only [Bool.or_eq_true, decide_eq_true_eq] at hsd
      rcases hsd with rfl | rfl
      · exact iCome0 hs h k ht hg
      · exact iCome1 hs h k ht hg
  · exact iComeNo h s k (by simpa using ht)
end
end Go.Proofs.YtlakolkpfkakoaaGreatDoor

/- What the program's pipes answer. -/

