/- Links: what an end is, and what is done to it; plain mathematics. -/
import Derived.Test.YtlakolkpfkakoaaGreatDoorMA
namespace Go.Proofs.YtlakolkpfkakoaaGreatDoor
open Go.RowKit

structure EndS where
  e : Int
  win : Nat
  qn : Nat
  wait : Nat
  l : List ByteArray
  first : Nat
  out : Nat
  ever : Nat
  want : Nat
  owes : Bool
  age : Nat

namespace EndS
def new (e : Int) (first : Nat) (win qn wait : Int) : EndS := ⟨e, (min (max win 1) 8).toNat, (min (max qn 0) 64).toNat, (min (max wait 1) 100).toNat, [], first, 0, 0, first, false, 0⟩
def sendE (S : EndS) (b : ByteArray) : Nat := if 64 < b.size then 90 else if S.qn ≤ S.l.length then 91 else 0
def send (S : EndS) (b : ByteArray) : EndS := if S.sendE b = 0 then { S with l := S.l ++ [b] } else S
def top (S : EndS) : Nat := min S.win S.l.length
def data (S : EndS) (i : Nat) : Fr := ⟨1, S.e, (S.first + i) % 18446744073709551616, S.want, S.l.getD i ⟨#[]⟩⟩
def datas (S : EndS) (i : Nat) : Nat → List Fr
  | 0 => []
  | n + 1 => S.data i :: datas S (i + 1) n
def ack (S : EndS) : Fr := ⟨2, S.e, 0, S.want, ⟨#[]⟩⟩
def frames (S : EndS) : List Fr := if S.top ≤ S.out then (if S.owes = true then [S.ack] else []) else S.datas S.out (S.top - S.out)
def outS (S : EndS) : EndS := { S with out := max S.out S.top, ever := max S.ever (max S.out S.top), owes := false }
def tick (S : EndS) : EndS := if S.out = 0 then S else if S.age + 1 = S.wait then { S with age := 0, out := 0 } else { S with age := S.age + 1 }
def gone (S : EndS) (a : Nat) : Nat := if 1 ≤ (a + 18446744073709551616 - S.first) % 18446744073709551616 ∧ (a + 18446744073709551616 - S.first) % 18446744073709551616 ≤ S.ever then (a + 18446744073709551616 - S.first) % 18446744073709551616 else 0
def drop (S : EndS) (k : Nat) : EndS := { S with l := S.l.drop k, first := (S.first + k) % 18446744073709551616, out := S.out - k, ever := S.ever - k, age := if k = 0 then S.age else 0 }
def good (S : EndS) (f : Fr) : Bool := rightB f && decide (f.e = S.e)
def told (S : EndS) (f : Fr) : Bool := S.good f && decide (f.k ≠ 2) && decide (f.q = S.want)
def body (S : EndS) (f : Fr) : ByteArray := if S.told f = true then f.b else ⟨#[]⟩
def take (S : EndS) (f : Fr) : EndS :=
  if S.good f = true then
    if f.k = 2 then S.drop (S.gone f.a)
    else { S.drop (S.gone f.a) with owes := true, want := if f.q = S.want then (S.want + 1) % 18446744073709551616 else S.want }
  else S

structure Ok (S : EndS) : Prop where
  win1 : 1 ≤ S.win
  win8 : S.win ≤ 8
  qn : S.qn ≤ 64
  wait1 : 1 ≤ S.wait
  wait100 : S.wait ≤ 100
  len : S.l.length ≤ S.qn
  small : ∀ b ∈ S.l, b.size ≤ 64
  first : S.first < 18446744073709551616
  want : S.want < 18446744073709551616
  oe : S.out ≤ S.ever
  ew : S.ever ≤ S.win
  el : S.ever ≤ S.l.length
  age : S.age < S.wait

theorem new_ok {e : Int} {first : Nat} {win qn wait : Int} (h : first < 18446744073709551616) : (new e first win qn wait).Ok where
  win1 := by simp only [new]; omega
  win8 := by simp only [new]; omega
  qn := by simp only [new]; omega
  wait1 := by simp only [new]; omega
  wait100 := by simp only [new]; omega
  len := by simp [new]
  small := by simp [new]
  first := h
  want := h
  oe := by simp [new]
  ew := by simp [new]
  el := by simp [new]
  age := by simp only [new]; omega

theorem sendE_zero {S : EndS} {b : ByteArray} : S.sendE b = 0 ↔ b.size ≤ 64 ∧ S.l.length < S.qn := by
  unfold sendE
  split
  · exact ⟨fun h => (by cases h), fun h => (by omega)⟩
  · split
    · exact ⟨fun h => (by cases h), fun h => (by omega)⟩
    · exact ⟨fun _ => by omega, fun _ => rfl⟩

theorem Ok.send {S : EndS} (h : S.Ok) (b : ByteArray) : (S.send b).Ok := by
  unfold EndS.send
  split
  · next hz =>
    obtain ⟨h1, h2⟩ := sendE_zero.1 hz
    exact { h with
      len := by simp only [List.length_append, List.length_singleton]; omega
      small := fun x hx => by
        rcases List.mem_append.1 hx with hx | hx
        · exact h.small x hx
        · rw [List.mem_singleton] at hx; subst hx; exact h1
      el := by have := h.el; simp only [List.length_append]; omega }
  · exact h

theorem Ok.outS {S : EndS} (h : S.Ok) : S.outS.Ok := by
  have h1 := h.oe
  have h2 := h.ew
  have h3 := h.el
  exact { h with
    oe := by simp only [EndS.outS]; omega
    ew := by simp only [EndS.outS, EndS.top]; omega
    el := by simp only [EndS.outS, EndS.top]; omega }

theorem Ok.tick {S : EndS} (h : S.Ok) : S.tick.Ok := by
  have h4 := h.age
  have h5 := h.wait1
  unfold EndS.tick
  split
  · exact h
  · split
    · exact { h with oe := Nat.zero_le _, age := h5 }
    · exact { h with age := by show S.age + 1 < S.wait; omega }

theorem gone_le (S : EndS) (a : Nat) : S.gone a ≤ S.ever := by
  unfold gone
  split
  · next h => exact h.2
  · exact Nat.zero_le _

theorem Ok.drop {S : EndS} (h : S.Ok) {k : Nat} (hk : k ≤ S.ever) : (S.drop k).Ok := by
  have h1 := h.oe
  have h2 := h.ew
  have h3 := h.el
  have h4 := h.age
  have h5 := h.len
  have h6 := h.wait1
  exact { h with
    len := by simp only [EndS.drop, List.length_drop]; omega
    small := fun x hx => h.small x (List.mem_of_mem_drop hx)
    first := Nat.mod_lt _ (by decide)
    oe := by simp only [EndS.drop]; omega
    ew := by simp only [EndS.drop]; omega
    el := by simp only [EndS.drop, List.length_drop]; omega
    age := by simp only [EndS.drop]; split <;> omega }

theorem Ok.take {S : EndS} (h : S.Ok) (f : Fr) : (S.take f).Ok := by
  have hd := h.drop (S.gone_le f.a)
  unfold EndS.take
  split
  · split
    · exact hd
    · exact { hd with want := by show (if f.q = S.want then (S.want + 1) % 18446744073709551616 else S.want) < 18446744073709551616; split; exact Nat.mod_lt _ (by decide); exact h.want }
  · exact h

theorem drop_zero {S : EndS} (h : S.Ok) : S.drop 0 = S := by
  obtain ⟨e, win, qn, wait, l, first, out, ever, want, owes, age⟩ := S
  simp only [drop, List.drop_zero, Nat.add_zero, Nat.sub_zero, reduceIte, EndS.mk.injEq, true_and]
  exact ⟨Nat.mod_eq_of_lt h.first, trivial⟩

theorem datas_length (S : EndS) : ∀ (n i : Nat), (S.datas i n).length = n
  | 0, _ => rfl
  | n + 1, i => by rw [datas, List.length_cons, datas_length S n]
theorem datas_succ (S : EndS) : ∀ (n i : Nat), S.datas i (n + 1) = S.datas i n ++ [S.data (i + n)]
  | 0, i => rfl
  | n + 1, i => by
    rw [datas, datas_succ S n (i + 1), datas, List.cons_append, show i + 1 + n = i + (n + 1) by omega]
theorem datas_get (S : EndS) : ∀ (n i k : Nat), k < n → (S.datas i n)[k]? = some (S.data (i + k))
  | n + 1, i, 0, _ => rfl
  | n + 1, i, k + 1, h => by
    rw [datas, List.getElem?_cons_succ, datas_get S n (i + 1) k (by omega), show i + 1 + k = i + (k + 1) by omega]
theorem frames_le {S : EndS} (h : S.Ok) : S.frames.length ≤ 8 := by
  have := h.win8
  unfold frames
  split
  · split
    · exact (by decide : (1 : Nat) ≤ 8)
    · exact Nat.zero_le _
  · rw [datas_length]
    unfold top
    omega
theorem data_in {S : EndS} (h : S.Ok) (i : Nat) : (S.data i).b.size ≤ 64 := by
  show (S.l.getD i ⟨#[]⟩).size ≤ 64
  rcases Nat.lt_or_ge i S.l.length with hi | hi
  · rw [show S.l.getD i ⟨#[]⟩ = S.l[i] by simp [hi]]
    exact h.small _ (List.getElem_mem hi)
  · rw [show S.l.getD i ⟨#[]⟩ = ⟨#[]⟩ by simp [hi]]
    decide
end EndS
end Go.Proofs.YtlakolkpfkakoaaGreatDoor

/- Links: the document's ends; New, Tick, Send. -/
namespace Go.Proofs.YtlakolkpfkakoaaGreatDoor
open Go.RowKit
def rCells (S : EndS) (lv : Value) : Array Value := #[.int .i64 S.e, .int .i64 S.win, .int .i64 S.qn, .int .i64 S.wait, lv, .int .u64 S.first, .int .i64 S.out, .int .i64 S.ever, .int .u64 S.want, .bool S.owes, .int .i64 S.age]
def REnd (F : Nat → Prop) (w : World) (v : Value) (S : EndS) : Prop := ∃ ao n c, v = .agg (rCells S (.slice ao n c)) ∧ Sa F w (.slice ao n c) S.l
theorem REnd.ext {F : Nat → Prop} {w w' : World} {v : Value} {S : EndS} (h : REnd F w v S) (e : Ext w w') : REnd F w' v S := by
  obtain ⟨ao, n, c, h1, h2⟩ := h
  exact ⟨ao, n, c, h1, h2.ext e⟩
theorem REnd.off {F G : Nat → Prop} {w w' : World} {v : Value} {S : EndS} (h : REnd F w v S) (o : Off F w w') (g : Grows F G w) : REnd G w' v S := by
  obtain ⟨ao, n, c, h1, h2⟩ := h
  exact ⟨ao, n, c, h1, h2.off o g⟩
theorem REnd.wide {F G : Nat → Prop} {w : World} {v : Value} {S : EndS} (h : REnd F w v S) (hG : ∀ k, k < w.heap.size → G k → F k) : REnd G w v S := by
  obtain ⟨ao, n, c, h1, h2⟩ := h
  exact ⟨ao, n, c, h1, h2.wide hG⟩

theorem cells11 {W : World} {g : Nat} {v0 v1 v2 v3 v4 v5 v6 v7 v8 v9 v10 : Value} {t : TypeId} (h : W.heap[g]? = some (.cells #[v0, v1, v2, v3, v4, v5, v6, v7, v8, v9, v10] t (0, 0))) :
    (W.cell? ⟨g, 0, none⟩ = some v0 ∧ W.cell? ⟨g, 1, none⟩ = some v1 ∧ W.cell? ⟨g, 2, none⟩ = some v2 ∧ W.cell? ⟨g, 3, none⟩ = some v3 ∧ W.cell? ⟨g, 4, none⟩ = some v4 ∧ W.cell? ⟨g, 5, none⟩ = some v5 ∧
      W.cell? ⟨g, 6, none⟩ = some v6 ∧ W.cell? ⟨g, 7, none⟩ = some v7 ∧ W.cell? ⟨g, 8, none⟩ = some v8 ∧ W.cell? ⟨g, 9, none⟩ = some v9 ∧ W.cell? ⟨g, 10, none⟩ = some v10) ∧
    (W.frozen? ⟨g, 0, none⟩ = false ∧ W.frozen? ⟨g, 1, none⟩ = false ∧ W.frozen? ⟨g, 2, none⟩ = false ∧ W.frozen? ⟨g, 3, none⟩ = false ∧ W.frozen? ⟨g, 4, none⟩ = false ∧ W.frozen? ⟨g, 5, none⟩ = false ∧
      W.frozen? ⟨g, 6, none⟩ = false ∧ W.frozen? ⟨g, 7, none⟩ = false ∧ W.frozen? ⟨g, 8, none⟩ = false ∧ W.frozen? ⟨g, 9, none⟩ = false ∧ W.frozen? ⟨g, 10, none⟩ = false) :=
  ⟨⟨blk_cell h 0 rfl, blk_cell h 1 rfl, blk_cell h 2 rfl, blk_cell h 3 rfl, blk_cell h 4 rfl, blk_cell h 5 rfl, blk_cell h 6 rfl, blk_cell h 7 rfl, blk_cell h 8 rfl, blk_cell h 9 rfl, blk_cell h 10 rfl⟩,
   blk_free h 0, blk_free h 1, blk_free h 2, blk_free h 3, blk_free h 4, blk_free h 5, blk_free h 6, blk_free h 7, blk_free h 8, blk_free h 9, blk_free h 10⟩

theorem rend_new (F : Nat → Prop) (w : World) (e : Int) (first : Nat) (win qn wait : Int) : REnd F w (.agg #[.int .i64 e, .int .i64 (min (max win 1) 8), .int .i64 (min (max qn 0) 64), .int .i64 (min (max wait 1) 100), .slice none 0 0, .int .u64 first, .int .i64 0, .int .i64 0, .int .u64 first, .bool false, .int .i64 0]) (EndS.new e first win qn wait) := by
  refine ⟨none, 0, 0, ?_, Sa.nil F w⟩
  unfold rCells EndS.new
  dsimp only
  rw [Int.toNat_of_nonneg (by omega), Int.toNat_of_nonneg (by omega), Int.toNat_of_nonneg (by omega)]
  rfl

set_option maxHeartbeats 1600000 in
theorem refNewE_any (F : Nat → Prop) (w : World) (e : Int) (first : Nat) (win qn wait : Int) :
    Calls Tryz.prog 32 #[.int .i64 e, .int .u64 first, .int .i64 win, .int .i64 qn, .int .i64 wait] w fun ev w' => ∃ v, ev = .returned v ∧ REnd F w' v (EndS.new e first win qn wait) ∧ Ext w w' := by
  go_enter Tryz.func32, Tryz.ntmps32
  go_wp2_with fail
  all_goals refine bodyPost_ret (v := .agg #[.int .i64 e, .int .i64 (min (max win 1) 8), .int .i64 (min (max qn 0) 64), .int .i64 (min (max wait 1) 100), .slice none 0 0, .int .u64 first, .int .i64 0, .int .i64 0, .int .u64 first, .bool false, .int .i64 0]) ?_ rfl ⟨_, rfl, rend_new F _ e first win qn wait, (by repeat (first | exact Ext.refl _ | assumption | refine Ext.alloc ?_ _ | refine Ext.drew ?_ | refine Ext.drewN ?_ _))⟩
  all_goals simp [results, Tryz.results32, go_sem]
  all_goals omega

set_option maxHeartbeats 1600000 in
theorem refTick_any (F : Nat → Prop) (w : World) (v : Value) (S : EndS) (ok : S.Ok) (h : REnd F w v S) :
    Calls Tryz.prog 47 #[v] w fun ev w' => ∃ v', ev = .returned v' ∧ REnd F w' v' S.tick ∧ Ext w w' := by
  obtain ⟨ao, n, c, rfl, hs⟩ := h
  have HS := Lib.hid hs
  have h1 := ok.age
  have h2 := ok.wait100
  clear hs ok
  obtain ⟨e, win, qn, wait, l, first, out, ever, want, owes, age⟩ := S
  unfold EndS.tick rCells
  dsimp only at h1 h2 HS ⊢
  have e1 : IntKind.i64.wrap ((age : Int) + 1) = (age : Int) + 1 := wrapN _ (by omega) (by omega)
  by_cases h0 : out = 0
  · subst h0
    rw [if_pos rfl]
    go_enter Tryz.func47, Tryz.ntmps47
    go_wp2
    refine bodyPost_ret (v := .agg #[.int .i64 e, .int .i64 win, .int .i64 qn, .int .i64 wait, .slice ao n c, .int .u64 first, .int .i64 0, .int .i64 ever, .int .u64 want, .bool owes, .int .i64 age]) (by simp [results, Tryz.results47, go_sem]) rfl ⟨_, rfl, ⟨ao, n, c, rfl, ?_⟩, (by first | (repeat (first | exact Ext.refl _ | assumption | refine Ext.alloc ?_ _ | refine Ext.drew ?_ | refine below_set ?_ (by simp) _)))⟩
    exact HS.out.ext (by first | (repeat (first | exact Ext.refl _ | assumption | refine Ext.alloc ?_ _ | refine Ext.drew ?_ | refine below_set ?_ (by simp) _)))
  · rw [if_neg h0]
    have t0 : (0 : Int) < (out : Int) := by omega
    by_cases h9 : age + 1 = wait
    · rw [if_pos h9]
      have t1 : ((age : Int) + 1 == (wait : Int)) = true := beq_iff_eq.2 (by omega)
      clear h0 h9 h1 h2
      go_enter Tryz.func47, Tryz.ntmps47
      go_wp2
      refine bodyPost_ret (v := .agg #[.int .i64 e, .int .i64 win, .int .i64 qn, .int .i64 wait, .slice ao n c, .int .u64 first, .int .i64 0, .int .i64 ever, .int .u64 want, .bool owes, .int .i64 0]) (by simp [results, Tryz.results47, go_sem]) rfl ⟨_, rfl, ⟨ao, n, c, rfl, ?_⟩, (by first | (repeat (first | exact Ext.refl _ | assumption | refine Ext.alloc ?_ _ | refine Ext.drew ?_ | refine below_set ?_ (by simp) _)))⟩
      exact HS.out.ext (by first | (repeat (first | exact Ext.refl _ | assumption | refine Ext.alloc ?_ _ | refine Ext.drew ?_ | refine below_set ?_ (by simp) _)))
    · rw [if_neg h9]
      have t1 : ((age : Int) + 1 == (wait : Int)) = false := beq_eq_false_iff_ne.2 (by omega)
      clear h0 h9 h1 h2
      go_enter Tryz.func47, Tryz.ntmps47
      go_wp2
      refine bodyPost_ret (v := .agg #[.int .i64 e, .int .i64 win, .int .i64 qn, .int .i64 wait, .slice ao n c, .int .u64 first, .int .i64 out, .int .i64 ever, .int .u64 want, .bool owes, .int .i64 (((age + 1 : Nat)) : Int)]) (by simp [results, Tryz.results47, go_sem]) rfl ⟨_, rfl, ⟨ao, n, c, rfl, ?_⟩, (by first | (repeat (first | exact Ext.refl _ | assumption | refine Ext.alloc ?_ _ | refine Ext.drew ?_ | refine below_set ?_ (by simp) _)))⟩
      exact HS.out.ext (by first | (repeat (first | exact Ext.refl _ | assumption | refine Ext.alloc ?_ _ | refine Ext.drew ?_ | refine below_set ?_ (by simp) _)))
end Go.Proofs.YtlakolkpfkakoaaGreatDoor

/- Links: the document's Send. -/
namespace Go.Proofs.YtlakolkpfkakoaaGreatDoor
open Go.RowKit
def set11 (W : World) (g : Nat) (u0 u1 u2 u3 u4 u5 u6 u7 u8 u9 u10 : Value) : World :=
  ((((((((((W.setCell ⟨g, 0, none⟩ u0).setCell ⟨g, 1, none⟩ u1).setCell ⟨g, 2, none⟩ u2).setCell ⟨g, 3, none⟩ u3).setCell ⟨g, 4, none⟩ u4).setCell ⟨g, 5, none⟩ u5).setCell ⟨g, 6, none⟩ u6).setCell ⟨g, 7, none⟩ u7).setCell ⟨g, 8, none⟩ u8).setCell ⟨g, 9, none⟩ u9).setCell ⟨g, 10, none⟩ u10
theorem set11_blk {W : World} {g : Nat} {v0 v1 v2 v3 v4 v5 v6 v7 v8 v9 v10 : Value} {t : TypeId} (h : W.heap[g]? = some (.cells #[v0, v1, v2, v3, v4, v5, v6, v7, v8, v9, v10] t (0, 0))) (u0 u1 u2 u3 u4 u5 u6 u7 u8 u9 u10 : Value) :
    (set11 W g u0 u1 u2 u3 u4 u5 u6 u7 u8 u9 u10).heap[g]? = some (.cells #[u0, u1, u2, u3, u4, u5, u6, u7, u8, u9, u10] t (0, 0)) := by
  have h2 := blk_set (blk_set (blk_set (blk_set (blk_set (blk_set (blk_set (blk_set (blk_set (blk_set (blk_set h 0 u0) 1 u1) 2 u2) 3 u3) 4 u4) 5 u5) 6 u6) 7 u7) 8 u8) 9 u9) 10 u10
  simpa [set11] using h2
theorem set11_below {B : Nat} {w W : World} {g : Nat} (x : Below B w W) (hg : B ≤ g) (u0 u1 u2 u3 u4 u5 u6 u7 u8 u9 u10 : Value) : Below B w (set11 W g u0 u1 u2 u3 u4 u5 u6 u7 u8 u9 u10) :=
  below_set (below_set (below_set (below_set (below_set (below_set (below_set (below_set (below_set (below_set (below_set x hg _) hg _) hg _) hg _) hg _) hg _) hg _) hg _) hg _) hg _) hg _

theorem Ow.set11 {α : Type} [Elem α] {W : World} {B g : Nat} {v : Value} {xs : List α} (h : Ow W B v xs) (hg : g < B) (u0 u1 u2 u3 u4 u5 u6 u7 u8 u9 u10 : Value) : Ow (set11 W g u0 u1 u2 u3 u4 u5 u6 u7 u8 u9 u10) B v xs :=
  (((((((((((h.set (d := ⟨g, 0, none⟩) hg u0).set (d := ⟨g, 1, none⟩) hg u1).set (d := ⟨g, 2, none⟩) hg u2).set (d := ⟨g, 3, none⟩) hg u3).set (d := ⟨g, 4, none⟩) hg u4).set (d := ⟨g, 5, none⟩) hg u5).set (d := ⟨g, 6, none⟩) hg u6).set (d := ⟨g, 7, none⟩) hg u7).set (d := ⟨g, 8, none⟩) hg u8).set (d := ⟨g, 9, none⟩) hg u9).set (d := ⟨g, 10, none⟩) hg u10)

set_option maxHeartbeats 1600000 in
theorem refSendE_any (F : Nat → Prop) (w : World) (hF : ∀ k, F k → k < w.heap.size) (v : Value) (S : EndS) (ok : S.Ok) (h : REnd F w v S) (b : ByteArray) :
    Calls Tryz.prog 36 #[v, .string b] w fun ev w' => ∃ v', ev = .returned (.tuple #[v', .int .i64 (S.sendE b : Nat)]) ∧ REnd F w' v' (S.send b) ∧ Ext w w' := by
  obtain ⟨ao, n, c, rfl, hs⟩ := h
  obtain ⟨ao', c', hv⟩ := hs.1.len
  simp only [Value.slice.injEq] at hv
  obtain ⟨rfl, rfl, rfl⟩ := hv
  have HS := Lib.hid hs
  have h1 := ok.len
  have h2 := ok.qn
  clear hs ok
  obtain ⟨e, win, qn, wait, l, first, out, ever, want, owes, age⟩ := S
  unfold EndS.send rCells
  dsimp only at h1 h2 HS ⊢
  by_cases h64 : 64 < b.size
  · rw [show EndS.sendE ⟨e, win, qn, wait, l, first, out, ever, want, owes, age⟩ b = 90 from if_pos h64, if_neg (by decide)]
    have t1 : (64 : Int) < (b.size : Int) := by omega
    clear h64 h1 h2
    go_enter Tryz.func36, Tryz.ntmps36
    go_wp2
    refine bodyPost_ret (v := .tuple #[.agg #[.int .i64 e, .int .i64 win, .int .i64 qn, .int .i64 wait, .slice ao l.length c, .int .u64 first, .int .i64 out, .int .i64 ever, .int .u64 want, .bool owes, .int .i64 age], .int .i64 90]) (by simp [results, Tryz.results36, go_sem]) rfl ⟨_, rfl, ⟨ao, _, c, rfl, ?_⟩, (by first | (repeat (first | exact Ext.refl _ | assumption | refine Ext.alloc ?_ _ | refine Ext.drew ?_ | refine below_set ?_ (by simp) _)))⟩
    exact HS.out.ext (by first | (repeat (first | exact Ext.refl _ | assumption | refine Ext.alloc ?_ _ | refine Ext.drew ?_ | refine below_set ?_ (by simp) _)))
  · have t1 : ¬ (64 : Int) < (b.size : Int) := by omega
    by_cases hf : qn ≤ l.length
    · rw [show EndS.sendE ⟨e, win, qn, wait, l, first, out, ever, want, owes, age⟩ b = 91 from (if_neg h64).trans (if_pos hf), if_neg (by decide)]
      have t2 : (qn : Int) ≤ (l.length : Int) := by omega
      clear h64 h1 h2 hf
      go_enter Tryz.func36, Tryz.ntmps36
      go_wp2
      refine bodyPost_ret (v := .tuple #[.agg #[.int .i64 e, .int .i64 win, .int .i64 qn, .int .i64 wait, .slice ao l.length c, .int .u64 first, .int .i64 out, .int .i64 ever, .int .u64 want, .bool owes, .int .i64 age], .int .i64 91]) (by simp [results, Tryz.results36, go_sem]) rfl ⟨_, rfl, ⟨ao, _, c, rfl, ?_⟩, (by first | (repeat (first | exact Ext.refl _ | assumption | refine Ext.alloc ?_ _ | refine Ext.drew ?_ | refine below_set ?_ (by simp) _)))⟩
      exact HS.out.ext (by first | (repeat (first | exact Ext.refl _ | assumption | refine Ext.alloc ?_ _ | refine Ext.drew ?_ | refine below_set ?_ (by simp) _)))
    · rw [show EndS.sendE ⟨e, win, qn, wait, l, first, out, ever, want, owes, age⟩ b = 0 from (if_neg h64).trans (if_neg hf), if_pos rfl]
      have t2 : ¬ (qn : Int) ≤ (l.length : Int) := by omega
      have hz : l.length ≤ 64 := by omega
      have HF := Lib.hid hF
      clear h64 h1 h2 hf hF
      have HB : Hid (∀ W, Below (w.heap.size + 2) ((w.alloc (.cells #[.int .i64 e, .int .i64 win, .int .i64 qn, .int .i64 wait, .slice ao l.length c, .int .u64 first, .int .i64 out, .int .i64 ever, .int .u64 want, .bool owes, .int .i64 age] 30)).alloc (.cells #[.int .i64 0, .int .i64 0, .int .i64 0, .int .i64 0, .slice none 0 0, .int .u64 0, .int .i64 0, .int .i64 0, .int .u64 0, .bool false, .int .i64 0] 30)) W → W.heap[w.heap.size]? = some (.cells #[.int .i64 e, .int .i64 win, .int .i64 qn, .int .i64 wait, .slice ao l.length c, .int .u64 first, .int .i64 out, .int .i64 ever, .int .u64 want, .bool owes, .int .i64 age] 30 (0, 0)) ∧ W.heap[w.heap.size + 1]? = some (.cells #[.int .i64 0, .int .i64 0, .int .i64 0, .int .i64 0, .slice none 0 0, .int .u64 0, .int .i64 0, .int .i64 0, .int .u64 0, .bool false, .int .i64 0] 30 (0, 0))) := Lib.hid (fun W x => box2 x)
      go_enter Tryz.func36, Tryz.ntmps36
      go_wp2_with (first
        | (at_builtin; refine wpList_append_sl (α := ByteArray) rfl (.tmp 20) (.tmp 22) rfl (w.heap.size + 2) _ l rfl ?_ (.slice (some ⟨_, 0, none⟩) 1 1) [b] rfl ?_ ?_ ?_ ?_; exact (O1.out.alloc _); exact (Sl.litAt W1 _ rfl [b] (show (1 : Nat) ≤ 1000000 by decide)); (first | omega | (simp; omega)); (rw [size_alloc]; omega); intro v2 W2 ho2 ha2; have O2 := Lib.hid ho2; have y2 : Below (w.heap.size + 2) _ W2 := Below.trans (Below.alloc Y1.out hy1 _) ha2.below; have Y2 := Lib.hid y2; have B2 := Lib.hid (HB.out _ y2); obtain ⟨p1, p2⟩ := cells11 B2.out.1; obtain ⟨p3, p4⟩ := cells11 B2.out.2; obtain ⟨a2, n2, c2, rfl⟩ := ho2.sh; clear ho2 ha2 y2)
        | (at_builtin; refine wpList_append_sl (α := ByteArray) rfl (.tmp 17) (.tmp 19) rfl (w.heap.size + 2) _ ([] : List ByteArray) rfl ?_ (.slice ao l.length c) l rfl ?_ ?_ ?_ ?_; exact (Ow.litAt _ _ _ (by rw [size_alloc, size_alloc]) (by rw [size_alloc, size_alloc]; exact Nat.le_refl _) ([] : List ByteArray) (by decide)); exact (HS.out.1.ext (Ext.alloc (Ext.alloc (Ext.alloc (Ext.refl _) _) _) _)); (first | omega | (simp; omega)); (rw [size_alloc, size_alloc, size_alloc]; omega); intro v1 W1 ho1 ha1; rw [List.nil_append] at ho1; have O1 := Lib.hid ho1; have y1 : Below (w.heap.size + 2) _ W1 := Below.trans (Below.alloc (Below.refl _ _) (by rw [size_alloc, size_alloc]; exact Nat.le_refl _) _) ha1.below; have Y1 := Lib.hid y1; have hy1 : w.heap.size + 2 ≤ W1.heap.size := (by have := y1.size; rw [size_alloc, size_alloc] at this; exact this); obtain ⟨q1, q2⟩ := cells11 (HB.out _ y1).1; obtain ⟨a1, n1, c1, rfl⟩ := ho1.sh; clear ho1 ha1 y1))
      have z := set11_blk ((set_other W2 ⟨w.heap.size, 4, none⟩ (.slice a2 n2 c2) (w.heap.size + 1) (by show w.heap.size + 1 ≠ w.heap.size; omega)).trans B2.out.2) (.int .i64 e) (.int .i64 win) (.int .i64 qn) (.int .i64 wait) (.slice a2 n2 c2) (.int .u64 first) (.int .i64 out) (.int .i64 ever) (.int .u64 want) (.bool owes) (.int .i64 age)
      have y5 := set11_below (g := w.heap.size + 1) (below_set (d := ⟨w.heap.size, 4, none⟩) (Below.trans (((Ext.refl w).alloc _).alloc _) (Y2.out.mono (by omega))) (Nat.le_refl _) (.slice a2 n2 c2)) (by omega) (.int .i64 e) (.int .i64 win) (.int .i64 qn) (.int .i64 wait) (.slice a2 n2 c2) (.int .u64 first) (.int .i64 out) (.int .i64 ever) (.int .u64 want) (.bool owes) (.int .i64 age)
      have o5 := (O2.out.set (d := ⟨w.heap.size, 4, none⟩) (by show w.heap.size < _; omega) (.slice a2 n2 c2)).set11 (g := w.heap.size + 1) (by omega) (.int .i64 e) (.int .i64 win) (.int .i64 qn) (.int .i64 wait) (.slice a2 n2 c2) (.int .u64 first) (.int .i64 out) (.int .i64 ever) (.int .u64 want) (.bool owes) (.int .i64 age)
      obtain ⟨z0, z1, z2, z3, z4, z5, z6, z7, z8, z9, z10⟩ := (cells11 z).1
      simp only [set11] at z0 z1 z2 z3 z4 z5 z6 z7 z8 z9 z10
      refine bodyPost_ret (v := .tuple #[.agg #[.int .i64 e, .int .i64 win, .int .i64 qn, .int .i64 wait, .slice a2 n2 c2, .int .u64 first, .int .i64 out, .int .i64 ever, .int .u64 want, .bool owes, .int .i64 age], .int .i64 0]) (by simp [results, Tryz.results36, go_sem, z0, z1, z2, z3, z4, z5, z6, z7, z8, z9, z10]) rfl ⟨_, rfl, ⟨a2, n2, c2, rfl, ?_⟩, y5⟩
      exact Sa.new o5 (fun k hk => by have := HF.out k hk; omega)
end Go.Proofs.YtlakolkpfkakoaaGreatDoor

/- Links: the document's Out. -/
namespace Go.Proofs.YtlakolkpfkakoaaGreatDoor
open Go.RowKit

instance : Elem Fr where
  e := 83
  t := 79
  k := 5
  bytes := 48
  z := .agg #[.int .i64 0, .int .i64 0, .int .u64 0, .int .u64 0, .string ⟨#[]⟩]
  enc := fun f => [.int .i64 f.k, .int .i64 f.e, .int .u64 f.q, .int .u64 f.a, .string f.b]
  dflt := Fr.zero
  len := fun _ => rfl
  pos := by decide
  one := fun x u hu => by simp at hu; rcases hu with rfl | rfl | rfl | rfl | rfl <;> rfl
  row := by kernel_rfl
  info := by kernel_rfl
  zsize := rfl
  few := by decide
def FrAt (w : World) (b off : Nat) (f : Fr) : Prop :=
  w.cell? ⟨b, off, none⟩ = some (.int .i64 f.k) ∧ w.cell? ⟨b, off + 1, none⟩ = some (.int .i64 f.e) ∧ w.cell? ⟨b, off + 2, none⟩ = some (.int .u64 f.q) ∧ w.cell? ⟨b, off + 3, none⟩ = some (.int .u64 f.a) ∧ w.cell? ⟨b, off + 4, none⟩ = some (.string f.b)

theorem Sl.frs {w : World} {v : Value} {xs : List Fr} (h : Sl w v xs) :
    (xs = [] ∧ ∃ ao c, v = .slice ao 0 c) ∨
    (∃ b off c, v = .slice (some ⟨b, off, none⟩) xs.length c ∧ xs.length ≤ c ∧ c ≤ 9223372036854775807 ∧ b < w.heap.size ∧ 0 < xs.length ∧ ∀ j, j < xs.length → FrAt w b (off + j * 5) (xs.getD j Fr.zero)) := by
  rcases h.parts with h | ⟨b, off, c, h1, h2, h3, h4, h5, h6⟩
  · exact .inl h
  · refine .inr ⟨b, off, c, h1, h2, h3, h4, h5, fun j hj => ?_⟩
    have e : xs[j]? = some (xs.getD j Fr.zero) := by simp [hj]
    have key : ∀ i u, (Elem.enc (xs.getD j Fr.zero))[i]? = some u → w.cell? ⟨b, off + j * 5 + i, none⟩ = some u := fun i u hu => by
      have := h6 j _ e i u hu
      rwa [show off + (j * Elem.k Fr + i) = off + j * 5 + i from by show off + (j * 5 + i) = _; omega] at this
    exact ⟨key 0 _ rfl, key 1 _ rfl, key 2 _ rfl, key 3 _ rfl, key 4 _ rfl⟩

def lenV : Value → Nat | .slice _ n _ => n | _ => 0

theorem seq_wrap (first i : Nat) : IntKind.u64.wrap ((first : Int) + (i : Int)) = (((first + i) % 18446744073709551616 : Nat) : Int) := by
  rw [wrapM]
  omega

set_option maxRecDepth 100000 in
set_option maxHeartbeats 40000000 in
theorem refOut_any (F : Nat → Prop) (w : World) (hF : ∀ k, F k → k < w.heap.size) (v : Value) (S : EndS) (ok : S.Ok) (h : REnd F w v S) :
    Calls Tryz.prog 42 #[v] w fun ev w' => ∃ v' ao n c, ev = .returned (.tuple #[v', .slice ao n c]) ∧ REnd F w' v' S.outS ∧ Sa F w' (.slice ao n c) S.frames ∧ Ext w w' := by
  obtain ⟨ao, n, c, rfl, hs⟩ := h
  obtain ⟨ao', c', hv⟩ := hs.1.len
  simp only [Value.slice.injEq] at hv
  obtain ⟨rfl, rfl, rfl⟩ := hv
  have HS := Lib.hid hs
  have HOK := Lib.hid ok
  have h1 := ok.len
  have h2 := ok.qn
  have h3 := ok.win8
  have h4 := ok.ew
  have h5 := ok.oe
  have HF := Lib.hid hF
  clear hs hF ok
  obtain ⟨e, win, qn, wait, l, first, out, ever, want, owes, age⟩ := S
  unfold rCells
  dsimp only at h1 h2 h3 h4 h5 HS ⊢
  obtain ⟨S, hS⟩ : ∃ S : EndS, S = ⟨e, win, qn, wait, l, first, out, ever, want, owes, age⟩ := ⟨_, rfl⟩
  rw [← hS] at HOK ⊢
  have HSS := Lib.hid hS
  have HTOP := Lib.hid (show S.top = min win l.length by rw [hS]; rfl)
  have HDATA := Lib.hid (show ∀ i, S.data i = ⟨1, e, (first + i) % 18446744073709551616, want, l.getD i ⟨#[]⟩⟩ by intro i; rw [hS]; rfl)
  clear hS
  obtain ⟨top, htop⟩ : ∃ top, top = min win l.length := ⟨_, rfl⟩
  have HTT := Lib.hid htop
  have ht1 : top ≤ win := by omega
  have ht2 : top ≤ l.length := by omega
  have ht3 : ∀ i, i < top ↔ i < win ∧ i < l.length := fun i => by omega
  have HT3 := Lib.hid ht3
  clear htop ht3
  have HB : Hid (∀ W, Below (w.heap.size + 2) ((w.alloc (.cells #[.int .i64 e, .int .i64 win, .int .i64 qn, .int .i64 wait, .slice ao l.length c, .int .u64 first, .int .i64 out, .int .i64 ever, .int .u64 want, .bool owes, .int .i64 age] 30)).alloc (.cells #[.int .i64 0, .int .i64 0, .int .i64 0, .int .i64 0, .slice none 0 0, .int .u64 0, .int .i64 0, .int .i64 0, .int .u64 0, .bool false, .int .i64 0] 30)) W → W.heap[w.heap.size]? = some (.cells #[.int .i64 e, .int .i64 win, .int .i64 qn, .int .i64 wait, .slice ao l.length c, .int .u64 first, .int .i64 out, .int .i64 ever, .int .u64 want, .bool owes, .int .i64 age] 30 (0, 0)) ∧ W.heap[w.heap.size + 1]? = some (.cells #[.int .i64 0, .int .i64 0, .int .i64 0, .int .i64 0, .slice none 0 0, .int .u64 0, .int .i64 0, .int .i64 0, .int .u64 0, .bool false, .int .i64 0] 30 (0, 0))) := Lib.hid (fun W x => box2 x)
  go_enter Tryz.func42, Tryz.ntmps42
  go_wp2
  have B0 := Lib.hid (HB.out _ (Below.alloc (Below.refl _ _) (by rw [size_alloc, size_alloc]; exact Nat.le_refl _) (.cells #[] 83)))
  have O0 : Hid (Ow (((w.alloc (.cells #[.int .i64 e, .int .i64 win, .int .i64 qn, .int .i64 wait, .slice ao l.length c, .int .u64 first, .int .i64 out, .int .i64 ever, .int .u64 want, .bool owes, .int .i64 age] 30)).alloc (.cells #[.int .i64 0, .int .i64 0, .int .i64 0, .int .i64 0, .slice none 0 0, .int .u64 0, .int .i64 0, .int .i64 0, .int .u64 0, .bool false, .int .i64 0] 30)).alloc (.cells #[] 83)) (w.heap.size + 2) (.slice (some ⟨w.heap.size + 1 + 1, 0, none⟩) 0 0) ([] : List Fr)) := Lib.hid (Ow.litAt _ _ _ (by rw [size_alloc, size_alloc]) (by rw [size_alloc, size_alloc]; exact Nat.le_refl _) ([] : List Fr) (by decide))
  go_loopw [4] (fun q wr => ∃ (i : Nat) (ao' : Option Addr) (n' c' : Nat), q = .slice ao' n' c' ∧ out ≤ i ∧ i ≤ max out top ∧ Hid (Ow wr (w.heap.size + 2) (.slice ao' n' c') (S.datas out (i - out))) ∧ Hid (wr.heap[w.heap.size]? = some (.cells #[.int .i64 e, .int .i64 win, .int .i64 qn, .int .i64 wait, .slice ao l.length c, .int .u64 first, .int .i64 i, .int .i64 ever, .int .u64 want, .bool owes, .int .i64 age] 30 (0, 0)) ∧ wr.heap[w.heap.size + 1]? = some (.cells #[.int .i64 0, .int .i64 0, .int .i64 0, .int .i64 0, .slice none 0 0, .int .u64 0, .int .i64 0, .int .i64 0, .int .u64 0, .bool false, .int .i64 0] 30 (0, 0)) ∧ Below w.heap.size w wr)) (fun q _ => top + 1 - (lenV q + out))
  case atStart => exact ⟨out, _, _, _, rfl, Nat.le_refl _, by omega, by rw [Nat.sub_self]; exact O0, Lib.hid ⟨B0.out.1, B0.out.2, (by first | (repeat (first | exact Ext.refl _ | assumption | refine Ext.alloc ?_ _ | refine Ext.drew ?_ | refine below_set ?_ (by simp) _)))⟩⟩
  case round =>
    obtain ⟨i, ao', n', c', rfl, hi1, hi2, HO, HW⟩ := hrel
    obtain ⟨ks, kf⟩ := cells11 HW.out.1
    have hlen : n' = i - out := by
      obtain ⟨ao2, c2, hv2⟩ := HO.out.sl.len
      rw [EndS.datas_length] at hv2
      simp only [Value.slice.injEq] at hv2
      exact hv2.2.1
    subst hlen
    have hsz : w.heap.size + 2 ≤ wr.heap.size := by have := blk_lt HW.out.2.1; omega
    by_cases hlt : i < top
    · obtain ⟨g1, g2⟩ := (HT3.out i).1 hlt
      have q1 : (i : Int) < (win : Int) := by omega
      have q2 : (i : Int) < (l.length : Int) := by omega
      rcases HS.out.1.texts with ⟨h0, _⟩ | ⟨b, off, c2, hv, hq1, hq2, hbl, hpos, hat⟩
      · rw [h0] at g2; simp at g2
      simp only [Value.slice.injEq] at hv
      obtain ⟨rfl, _, rfl⟩ := hv
      have kb := (HW.out.2.2.cell (p := ⟨b, off + i, none⟩) hbl).trans (hat i g2)
      have hcc : (i : Int) ≤ (c : Int) := by omega
      obtain ⟨Y, hY⟩ : ∃ Y, Y = l.getD i ⟨#[]⟩ := ⟨_, rfl⟩
      rw [← hY] at kb
      have hdata : S.data i = ⟨1, e, (first + i) % 18446744073709551616, want, Y⟩ := by rw [HDATA.out, hY]
      have hsq := seq_wrap first i
      obtain ⟨Q, hQ⟩ : ∃ Q, Q = (first + i) % 18446744073709551616 := ⟨_, rfl⟩
      rw [← hQ] at hdata hsq
      have hu : IntKind.u64.wrap (i : Int) = (i : Int) := wrapU _ (by omega) (by omega)
      have hn1 : IntKind.i64.wrap ((i : Int) + 1) = (i : Int) + 1 := wrapN _ (by omega) (by omega)
      have HD := Lib.hid hdata
      have hdl : (S.datas out (i - out)).length = i - out := EndS.datas_length _ _ _
      have HDL := Lib.hid hdl
      have hdl2 : (S.datas out (i - out)).length ≤ 8 := by omega
      have HKB := Lib.hid kb
      have hbw : b < wr.heap.size := by omega
      clear hY hQ hat hdata hdl
      go_wp2_with fail
      (refine wp_region_X_lit (K := fun W => W.heap[w.heap.size]? = some (.cells #[.int .i64 e, .int .i64 win, .int .i64 qn, .int .i64 wait, .slice (some ⟨b, off, none⟩) l.length c, .int .u64 first, .int .i64 i, .int .i64 ever, .int .u64 want, .bool owes, .int .i64 age] 30 (0, 0)) ∧ W.cell? ⟨b, off + i, none⟩ = some (.string Y)) (by kernel_rfl) (fun w1 hw1 => ?_))
      have HB1 := Lib.hid ((hw1.block _ (blk_lt HW.out.1)).trans HW.out.1)
      have HC1 := Lib.hid ((hw1.cell (p := ⟨b, off + i, none⟩) hbw).trans HKB.out)
      have HZ1 := Lib.hid ((hw1.block _ (blk_lt HW.out.2.1)).trans HW.out.2.1)
      have HO1 := Lib.hid (HO.out.ext hw1)
      have HX1 := Lib.hid (Below.trans HW.out.2.2 (hw1.mono (by omega)))
      have hs1 : w.heap.size + 2 ≤ w1.heap.size := by have := hw1.size; omega
      clear hw1
      refine xtv 0 (h := ?_)
      refine xtv 1 (h := ?_)
      refine xtv 2 (hv := by intro w' hw'; have hc := (cells11 hw'.1).1; go_simp; first | done | with_reducible rfl) (h := ?_)
      refine xtv 3 (h := ?_)
      refine xtv 4 (hv := by intro w' hw'; have hc := (cells11 hw'.1).1; go_simp; first | done | with_reducible rfl) (h := ?_)
      refine xtv 5 (h := ?_)
      refine xtv 6 (hv := by intro w' hw'; have hc := (cells11 hw'.1).1; go_simp; first | done | with_reducible rfl) (h := ?_)
      refine xtv 7 (h := ?_)
      refine xtv 8 (h := ?_)
      refine xtv 9 (h := ?_)
      refine xtv 10 (hv := by intro w' hw'; have hc := (cells11 hw'.1).1; go_simp; first | done | with_reducible rfl) (h := ?_)
      refine xtv 11 (h := ?_)
      refine xtv 12 (hv := by intro w' hw'; have hc := (cells11 hw'.1).1; go_simp; first | done | with_reducible rfl) (h := ?_)
      refine xtv 13 (h := ?_)
      refine xtv 14 (hv := by intro w' hw'; have hc := (cells11 hw'.1).1; go_simp; first | done | with_reducible rfl) (h := ?_)
      refine xtv 15 (h := ?_)
      refine xtv 16 (hv := by intro w' hw'; have hc := hw'.2; go_simp; first | done | with_reducible rfl) (h := ?_)
      refine xtv 17 (h := ?_)
      refine xone 18 (hk := ⟨HB1.out, HC1.out⟩) (h := RunX.of 18 (h := ?_))
      go_simp
      (try (simp only [Act.put, List.setIfInBounds_toArray, List.set]))
      have HB2 := Lib.hid (blk_alloc HB1.out (.cells #[.int .i64 1, .int .i64 e, .int .u64 Q, .int .u64 want, .string Y] 83))
      have HC2 := Lib.hid ((World.cell?_of_block (w := w1) (a := ⟨b, off + i, none⟩) (get_alloc_old (o := .cells #[.int .i64 1, .int .i64 e, .int .u64 Q, .int .u64 want, .string Y] 83) (by show b < w1.heap.size; omega))).trans HC1.out)
      refine xone 19 (hk := ⟨HB2.out, HC2.out⟩) (h := RunX.of 19 (h := ?_))
      (refine wp_append_sl (α := Fr) (.tmp 19) (.tmp 37) rfl (w.heap.size + 2) (.slice ao' (i - out) c') (S.datas out (i - out)) rfl ?_ (.slice (some ⟨w1.heap.size, 0, none⟩) 1 1) [(⟨1, e, Q, want, Y⟩ : Fr)] rfl ?_ ?_ ?_ ?_; exact (HO1.out.alloc _); exact (Sl.litAt w1 _ rfl [(⟨1, e, Q, want, Y⟩ : Fr)] (show (1 : Nat) ≤ 1000000 by decide)); (first | omega | (simp; omega)); (rw [size_alloc]; omega); intro v2 W2 ho2 ha2; have O2 := Lib.hid ho2; have HB3 := Lib.hid ((ha2.below.block _ (by omega)).trans HB2.out); have HZ3 := Lib.hid ((ha2.below.block _ (by omega)).trans (blk_alloc HZ1.out (.cells #[.int .i64 1, .int .i64 e, .int .u64 Q, .int .u64 want, .string Y] 83))); have HC3 := Lib.hid ((ha2.below.cell (p := ⟨b, off + i, none⟩) (by show b < _; omega)).trans HC2.out); have HX3 := Lib.hid (Below.trans (HX1.out.alloc (by omega) _) (ha2.below.mono (Nat.le_add_right _ _))); obtain ⟨a2, n2, c2, rfl⟩ := ho2.sh; clear ho2 ha2)
      (try (simp only [Act.put, List.setIfInBounds_toArray, List.set]))
      refine xtv 20 (h := ?_)
      (refine xdone (by kernel_rfl) (⟨HB3.out, HC3.out⟩) ?_)
      obtain ⟨k3, k4⟩ := cells11 HB3.out
      go_wp2
      have hdd : S.datas out (i + 1 - out) = S.datas out (i - out) ++ [⟨1, e, Q, want, Y⟩] := by
        rw [show i + 1 - out = (i - out) + 1 by omega, EndS.datas_succ, show out + (i - out) = i by omega, HD.out]
      have ho3 := O2.out
      rw [← hdd] at ho3
      have hn2 : n2 = i + 1 - out := by
        obtain ⟨ao3, c3, hv3⟩ := ho3.sl.len
        rw [EndS.datas_length] at hv3
        simp only [Value.slice.injEq] at hv3
        exact hv3.2.1
      refine ⟨⟨i + 1, a2, n2, c2, rfl, by omega, by omega, Lib.hid (ho3.set (d := ⟨w.heap.size, 6, none⟩) (by show w.heap.size < _; omega) _), Lib.hid ⟨?_, (set_other _ _ _ _ (by show w.heap.size + 1 ≠ w.heap.size; omega)).trans HZ3.out, below_set HX3.out (Nat.le_refl _) _⟩⟩, ?_⟩
      · have hb6 := blk_set HB3.out 6 (.int .i64 ((i + 1 : Nat) : Int))
        simpa using hb6
      · show top + 1 - (n2 + out) < top + 1 - (i - out + out)
        omega
    · have hi : i = max out top := by omega
      have hmax : max S.out S.top = i := by rw [HTOP.out, ← HTT.out, HSS.out]; exact hi.symm
      obtain ⟨L, hL⟩ : ∃ L, L = S.datas out (i - out) := ⟨_, rfl⟩
      rw [← hL] at HO
      have hLn : L.length = i - out := by rw [hL]; exact EndS.datas_length _ _ _
      have hL8 : L.length ≤ 8 := by omega
      obtain ⟨n', hn'⟩ : ∃ n', n' = i - out := ⟨_, rfl⟩
      rw [← hn'] at HO ⊢
      have hfr : S.frames = if top ≤ out then (if owes = true then [S.ack] else []) else L := by
        unfold EndS.frames
        rw [HTOP.out, ← HTT.out, HSS.out, hL]
        dsimp only
        by_cases h0 : top ≤ out
        · rw [if_pos h0, if_pos h0]
        · rw [if_neg h0, if_neg h0, HSS.out, show i - out = top - out by omega]
      have hack : S.ack = ⟨2, e, 0, want, ⟨#[]⟩⟩ := by rw [HSS.out]; rfl
      rw [hack] at hfr
      have hL0 : top ≤ out → L = [] := fun h0 => List.eq_nil_of_length_eq_zero (by omega)
      have hout : S.outS = ⟨e, win, qn, wait, l, first, i, max ever i, want, false, age⟩ := by
        unfold EndS.outS
        rw [hmax, HSS.out]
      have hcond : (¬ (i : Int) < (win : Int)) ∨ ((i : Int) < (win : Int) ∧ ¬ (i : Int) < (l.length : Int)) := by
        have := (HT3.out i)
        by_cases h0 : i < win
        · exact .inr ⟨by omega, fun h9 => hlt (this.2 ⟨h0, by omega⟩)⟩
        · exact .inl (by omega)
      have hever : ((ever : Int) < (i : Int) ∧ max ever i = i) ∨ (¬ (ever : Int) < (i : Int) ∧ max ever i = ever) := by omega
      have hcase : (((n' : Int) == 0) = false ∧ S.frames = L) ∨ (((n' : Int) == 0) = true ∧ owes = true ∧ S.frames = L ++ [⟨2, e, 0, want, ⟨#[]⟩⟩]) ∨ (((n' : Int) == 0) = true ∧ owes = false ∧ S.frames = L) := by
        by_cases h0 : top ≤ out
        · right
          have hz : ((n' : Int) == 0) = true := beq_iff_eq.2 (by omega)
          rw [if_pos h0] at hfr
          cases owes
          · exact .inr ⟨hz, rfl, by rw [hfr, hL0 h0]; rfl⟩
          · exact .inl ⟨hz, rfl, by rw [hfr, hL0 h0]; rfl⟩
        · left
          exact ⟨beq_eq_false_iff_ne.2 (by omega), by rw [hfr, if_neg h0]⟩
      obtain ⟨kz, kzf⟩ := cells11 HW.out.2.1
      have hwz : wr.heap.size = wr.heap.size := rfl
      clear hi hmax hL hLn hn' hfr hack hL0 hi1 hi2 hlt h1 h2 h3 h4 h5 ht1 ht2 hwz
      have HEV : (¬ (ever : Int) < (i : Int) ∧ Hid (S.outS = ⟨e, win, qn, wait, l, first, i, ever, want, false, age⟩) ∧ Hid (wr.heap[w.heap.size]? = some (.cells #[.int .i64 e, .int .i64 win, .int .i64 qn, .int .i64 wait, .slice ao l.length c, .int .u64 first, .int .i64 i, .int .i64 ever, .int .u64 want, .bool owes, .int .i64 age] 30 (0, 0)))) ∨ ((ever : Int) < (i : Int) ∧ Hid (S.outS = ⟨e, win, qn, wait, l, first, i, i, want, false, age⟩) ∧ Hid ((wr.setCell ⟨w.heap.size, 7, none⟩ (.int .i64 i)).heap[w.heap.size]? = some (.cells #[.int .i64 e, .int .i64 win, .int .i64 qn, .int .i64 wait, .slice ao l.length c, .int .u64 first, .int .i64 i, .int .i64 i, .int .u64 want, .bool owes, .int .i64 age] 30 (0, 0))) ∧ Hid ((wr.setCell ⟨w.heap.size, 7, none⟩ (.int .i64 i)).heap[w.heap.size + 1]? = some (.cells #[.int .i64 0, .int .i64 0, .int .i64 0, .int .i64 0, .slice none 0 0, .int .u64 0, .int .i64 0, .int .i64 0, .int .u64 0, .bool false, .int .i64 0] 30 (0, 0))) ∧ Hid (Ow (wr.setCell ⟨w.heap.size, 7, none⟩ (.int .i64 i)) (w.heap.size + 2) (.slice ao' n' c') L) ∧ Hid (Below w.heap.size w (wr.setCell ⟨w.heap.size, 7, none⟩ (.int .i64 i))) ∧ (wr.setCell ⟨w.heap.size, 7, none⟩ (.int .i64 i)).heap.size = wr.heap.size) := by
        rcases hever with ⟨hv1, hv2⟩ | ⟨hv1, hv2⟩ <;> rw [hv2] at hout
        · right
          refine ⟨hv1, Lib.hid hout, Lib.hid ?_, Lib.hid ((set_other _ _ _ _ (by show w.heap.size + 1 ≠ w.heap.size; omega)).trans HW.out.2.1), Lib.hid (HO.out.set (d := ⟨w.heap.size, 7, none⟩) (by show w.heap.size < _; omega) _), Lib.hid (below_set HW.out.2.2 (Nat.le_refl _) _), set_size _ _ _⟩
          have hb7 := blk_set HW.out.1 7 (.int .i64 i)
          simpa using hb7
        · exact .inl ⟨hv1, Lib.hid hout, Lib.hid HW.out.1⟩
      clear hever hout
      have HZ := Lib.hid HW.out.2.1
      have HOE := HO
      have HXE := Lib.hid HW.out.2.2
      have hsE : w.heap.size + 2 ≤ wr.heap.size := hsz
      rcases HEV with ⟨hv1, HOUT, HG⟩ | ⟨hv1, HOUT, HG, HZ, HOE, HXE, hsE⟩
      · rcases hcase with ⟨hz, hfr⟩ | ⟨hz, rfl, hfr⟩ | ⟨hz, rfl, hfr⟩ <;> replace hfr := Lib.hid hfr
        · rcases hcond with hc1 | ⟨hc1, hc2⟩
          all_goals
            go_wp2
            have z := set11_blk ((set_other _ ⟨w.heap.size, 9, none⟩ (.bool false) (w.heap.size + 1) (by show w.heap.size + 1 ≠ w.heap.size; omega)).trans HZ.out) (.int .i64 e) (.int .i64 win) (.int .i64 qn) (.int .i64 wait) (.slice ao l.length c) (.int .u64 first) (.int .i64 i) (.int .i64 ever) (.int .u64 want) (.bool false) (.int .i64 age)
            have y5 := set11_below (g := w.heap.size + 1) (below_set (d := ⟨w.heap.size, 9, none⟩) HXE.out (Nat.le_refl _) (.bool false)) (by omega) (.int .i64 e) (.int .i64 win) (.int .i64 qn) (.int .i64 wait) (.slice ao l.length c) (.int .u64 first) (.int .i64 i) (.int .i64 ever) (.int .u64 want) (.bool false) (.int .i64 age)
            have o5 := (HOE.out.set (d := ⟨w.heap.size, 9, none⟩) (by show w.heap.size < _; omega) (.bool false)).set11 (g := w.heap.size + 1) (by omega) (.int .i64 e) (.int .i64 win) (.int .i64 qn) (.int .i64 wait) (.slice ao l.length c) (.int .u64 first) (.int .i64 i) (.int .i64 ever) (.int .u64 want) (.bool false) (.int .i64 age)
            obtain ⟨z0, z1, z2, z3, z4, z5, z6, z7, z8, z9, z10⟩ := (cells11 z).1
            simp only [set11] at z0 z1 z2 z3 z4 z5 z6 z7 z8 z9 z10
            refine bodyPost_ret (v := .tuple #[.agg #[.int .i64 e, .int .i64 win, .int .i64 qn, .int .i64 wait, .slice ao l.length c, .int .u64 first, .int .i64 i, .int .i64 ever, .int .u64 want, .bool false, .int .i64 age], .slice ao' n' c']) (by simp [results, Tryz.results42, go_sem, z0, z1, z2, z3, z4, z5, z6, z7, z8, z9, z10]; done) rfl ⟨_, _, _, _, rfl, ⟨ao, l.length, c, ?_, ?_⟩, ?_, y5⟩
            · rw [HOUT.out]; rfl
            · rw [HOUT.out]; exact HS.out.ext y5
            · rw [hfr.out]; exact Sa.new o5 (fun k hk => by have := HF.out k hk; omega)
        · rcases hcond with hc1 | ⟨hc1, hc2⟩
          all_goals
            go_wp2_with (first
              | (at_builtin; refine wpList_append_sl (α := Fr) rfl (.tmp 58) (.tmp 64) rfl (w.heap.size + 2) (.slice ao' n' c') L rfl ?_ (.slice (some ⟨_, 0, none⟩) 1 1) [(⟨2, e, 0, want, ⟨#[]⟩⟩ : Fr)] rfl ?_ ?_ ?_ ?_; exact (HOE.out.alloc _); exact (Sl.litAt _ _ (by first | rfl | exact (set_size _ _ _).symm) [(⟨2, e, 0, want, ⟨#[]⟩⟩ : Fr)] (show (1 : Nat) ≤ 1000000 by decide)); (first | omega | (simp; omega)); (first | (rw [size_alloc]; omega) | (rw [size_alloc, set_size]; omega)); intro v2 W2 ho2 ha2; have O2 := Lib.hid ho2; have G2 := Lib.hid ((ha2.below.block _ (by omega)).trans (blk_alloc HG.out (.cells #[.int .i64 2, .int .i64 e, .int .u64 0, .int .u64 want, .string ⟨#[]⟩] 83))); have Z2 := Lib.hid ((ha2.below.block _ (by omega)).trans (blk_alloc HZ.out (.cells #[.int .i64 2, .int .i64 e, .int .u64 0, .int .u64 want, .string ⟨#[]⟩] 83))); have X2 := Lib.hid (Below.trans (HXE.out.alloc (by first | omega | (rw [set_size]; omega)) _) (ha2.below.mono (Nat.le_add_right _ _))); obtain ⟨k3, k4⟩ := cells11 G2.out; obtain ⟨k5, k6⟩ := cells11 Z2.out; obtain ⟨a2, n2, c2, rfl⟩ := ho2.sh; clear ho2 ha2))
            have z := set11_blk ((set_other W2 ⟨w.heap.size, 9, none⟩ (.bool false) (w.heap.size + 1) (by show w.heap.size + 1 ≠ w.heap.size; omega)).trans Z2.out) (.int .i64 e) (.int .i64 win) (.int .i64 qn) (.int .i64 wait) (.slice ao l.length c) (.int .u64 first) (.int .i64 i) (.int .i64 ever) (.int .u64 want) (.bool false) (.int .i64 age)
            have y5 := set11_below (g := w.heap.size + 1) (below_set (d := ⟨w.heap.size, 9, none⟩) X2.out (Nat.le_refl _) (.bool false)) (by omega) (.int .i64 e) (.int .i64 win) (.int .i64 qn) (.int .i64 wait) (.slice ao l.length c) (.int .u64 first) (.int .i64 i) (.int .i64 ever) (.int .u64 want) (.bool false) (.int .i64 age)
            have o5 := (O2.out.set (d := ⟨w.heap.size, 9, none⟩) (by show w.heap.size < _; omega) (.bool false)).set11 (g := w.heap.size + 1) (by omega) (.int .i64 e) (.int .i64 win) (.int .i64 qn) (.int .i64 wait) (.slice ao l.length c) (.int .u64 first) (.int .i64 i) (.int .i64 ever) (.int .u64 want) (.bool false) (.int .i64 age)
            obtain ⟨z0, z1, z2, z3, z4, z5, z6, z7, z8, z9, z10⟩ := (cells11 z).1
            simp only [set11] at z0 z1 z2 z3 z4 z5 z6 z7 z8 z9 z10
            refine bodyPost_ret (v := .tuple #[.agg #[.int .i64 e, .int .i64 win, .int .i64 qn, .int .i64 wait, .slice ao l.length c, .int .u64 first, .int .i64 i, .int .i64 ever, .int .u64 want, .bool false, .int .i64 age], .slice a2 n2 c2]) (by simp [results, Tryz.results42, go_sem, z0, z1, z2, z3, z4, z5, z6, z7, z8, z9, z10]; done) rfl ⟨_, _, _, _, rfl, ⟨ao, l.length, c, ?_, ?_⟩, ?_, y5⟩
            · rw [HOUT.out]; rfl
            · rw [HOUT.out]; exact HS.out.ext y5
            · rw [hfr.out]; exact Sa.new o5 (fun k hk => by have := HF.out k hk; omega)
        · rcases hcond with hc1 | ⟨hc1, hc2⟩
          all_goals
            go_wp2
            have z := set11_blk ((set_other _ ⟨w.heap.size, 9, none⟩ (.bool false) (w.heap.size + 1) (by show w.heap.size + 1 ≠ w.heap.size; omega)).trans HZ.out) (.int .i64 e) (.int .i64 win) (.int .i64 qn) (.int .i64 wait) (.slice ao l.length c) (.int .u64 first) (.int .i64 i) (.int .i64 ever) (.int .u64 want) (.bool false) (.int .i64 age)
            have y5 := set11_below (g := w.heap.size + 1) (below_set (d := ⟨w.heap.size, 9, none⟩) HXE.out (Nat.le_refl _) (.bool false)) (by omega) (.int .i64 e) (.int .i64 win) (.int .i64 qn) (.int .i64 wait) (.slice ao l.length c) (.int .u64 first) (.int .i64 i) (.int .i64 ever) (.int .u64 want) (.bool false) (.int .i64 age)
            have o5 := (HOE.out.set (d := ⟨w.heap.size, 9, none⟩) (by show w.heap.size < _; omega) (.bool false)).set11 (g := w.heap.size + 1) (by omega) (.int .i64 e) (.int .i64 win) (.int .i64 qn) (.int .i64 wait) (.slice ao l.length c) (.int .u64 first) (.int .i64 i) (.int .i64 ever) (.int .u64 want) (.bool false) (.int .i64 age)
            obtain ⟨z0, z1, z2, z3, z4, z5, z6, z7, z8, z9, z10⟩ := (cells11 z).1
            simp only [set11] at z0 z1 z2 z3 z4 z5 z6 z7 z8 z9 z10
            refine bodyPost_ret (v := .tuple #[.agg #[.int .i64 e, .int .i64 win, .int .i64 qn, .int .i64 wait, .slice ao l.length c, .int .u64 first, .int .i64 i, .int .i64 ever, .int .u64 want, .bool false, .int .i64 age], .slice ao' n' c']) (by simp [results, Tryz.results42, go_sem, z0, z1, z2, z3, z4, z5, z6, z7, z8, z9, z10]; done) rfl ⟨_, _, _, _, rfl, ⟨ao, l.length, c, ?_, ?_⟩, ?_, y5⟩
            · rw [HOUT.out]; rfl
            · rw [HOUT.out]; exact HS.out.ext y5
            · rw [hfr.out]; exact Sa.new o5 (fun k hk => by have := HF.out k hk; omega)
      · rcases hcase with ⟨hz, hfr⟩ | ⟨hz, rfl, hfr⟩ | ⟨hz, rfl, hfr⟩ <;> replace hfr := Lib.hid hfr
        · rcases hcond with hc1 | ⟨hc1, hc2⟩
          all_goals
            go_wp2
            have z := set11_blk ((set_other _ ⟨w.heap.size, 9, none⟩ (.bool false) (w.heap.size + 1) (by show w.heap.size + 1 ≠ w.heap.size; omega)).trans HZ.out) (.int .i64 e) (.int .i64 win) (.int .i64 qn) (.int .i64 wait) (.slice ao l.length c) (.int .u64 first) (.int .i64 i) (.int .i64 i) (.int .u64 want) (.bool false) (.int .i64 age)
            have y5 := set11_below (g := w.heap.size + 1) (below_set (d := ⟨w.heap.size, 9, none⟩) HXE.out (Nat.le_refl _) (.bool false)) (by omega) (.int .i64 e) (.int .i64 win) (.int .i64 qn) (.int .i64 wait) (.slice ao l.length c) (.int .u64 first) (.int .i64 i) (.int .i64 i) (.int .u64 want) (.bool false) (.int .i64 age)
            have o5 := (HOE.out.set (d := ⟨w.heap.size, 9, none⟩) (by show w.heap.size < _; omega) (.bool false)).set11 (g := w.heap.size + 1) (by omega) (.int .i64 e) (.int .i64 win) (.int .i64 qn) (.int .i64 wait) (.slice ao l.length c) (.int .u64 first) (.int .i64 i) (.int .i64 i) (.int .u64 want) (.bool false) (.int .i64 age)
            obtain ⟨z0, z1, z2, z3, z4, z5, z6, z7, z8, z9, z10⟩ := (cells11 z).1
            simp only [set11] at z0 z1 z2 z3 z4 z5 z6 z7 z8 z9 z10
            refine bodyPost_ret (v := .tuple #[.agg #[.int .i64 e, .int .i64 win, .int .i64 qn, .int .i64 wait, .slice ao l.length c, .int .u64 first, .int .i64 i, .int .i64 i, .int .u64 want, .bool false, .int .i64 age], .slice ao' n' c']) (by simp [results, Tryz.results42, go_sem, z0, z1, z2, z3, z4, z5, z6, z7, z8, z9, z10]; done) rfl ⟨_, _, _, _, rfl, ⟨ao, l.length, c, ?_, ?_⟩, ?_, y5⟩
            · rw [HOUT.out]; rfl
            · rw [HOUT.out]; exact HS.out.ext y5
            · rw [hfr.out]; exact Sa.new o5 (fun k hk => by have := HF.out k hk; omega)
        · rcases hcond with hc1 | ⟨hc1, hc2⟩
          all_goals
            go_wp2_with (first
              | (at_builtin; refine wpList_append_sl (α := Fr) rfl (.tmp 58) (.tmp 64) rfl (w.heap.size + 2) (.slice ao' n' c') L rfl ?_ (.slice (some ⟨_, 0, none⟩) 1 1) [(⟨2, e, 0, want, ⟨#[]⟩⟩ : Fr)] rfl ?_ ?_ ?_ ?_; exact (HOE.out.alloc _); exact (Sl.litAt _ _ (by first | rfl | exact (set_size _ _ _).symm) [(⟨2, e, 0, want, ⟨#[]⟩⟩ : Fr)] (show (1 : Nat) ≤ 1000000 by decide)); (first | omega | (simp; omega)); (first | (rw [size_alloc]; omega) | (rw [size_alloc, set_size]; omega)); intro v2 W2 ho2 ha2; have O2 := Lib.hid ho2; have G2 := Lib.hid ((ha2.below.block _ (by omega)).trans (blk_alloc HG.out (.cells #[.int .i64 2, .int .i64 e, .int .u64 0, .int .u64 want, .string ⟨#[]⟩] 83))); have Z2 := Lib.hid ((ha2.below.block _ (by omega)).trans (blk_alloc HZ.out (.cells #[.int .i64 2, .int .i64 e, .int .u64 0, .int .u64 want, .string ⟨#[]⟩] 83))); have X2 := Lib.hid (Below.trans (HXE.out.alloc (by first | omega | (rw [set_size]; omega)) _) (ha2.below.mono (Nat.le_add_right _ _))); obtain ⟨k3, k4⟩ := cells11 G2.out; obtain ⟨k5, k6⟩ := cells11 Z2.out; obtain ⟨a2, n2, c2, rfl⟩ := ho2.sh; clear ho2 ha2))
            have z := set11_blk ((set_other W2 ⟨w.heap.size, 9, none⟩ (.bool false) (w.heap.size + 1) (by show w.heap.size + 1 ≠ w.heap.size; omega)).trans Z2.out) (.int .i64 e) (.int .i64 win) (.int .i64 qn) (.int .i64 wait) (.slice ao l.length c) (.int .u64 first) (.int .i64 i) (.int .i64 i) (.int .u64 want) (.bool false) (.int .i64 age)
            have y5 := set11_below (g := w.heap.size + 1) (below_set (d := ⟨w.heap.size, 9, none⟩) X2.out (Nat.le_refl _) (.bool false)) (by omega) (.int .i64 e) (.int .i64 win) (.int .i64 qn) (.int .i64 wait) (.slice ao l.length c) (.int .u64 first) (.int .i64 i) (.int .i64 i) (.int .u64 want) (.bool false) (.int .i64 age)
            have o5 := (O2.out.set (d := ⟨w.heap.size, 9, none⟩) (by show w.heap.size < _; omega) (.bool false)).set11 (g := w.heap.size + 1) (by omega) (.int .i64 e) (.int .i64 win) (.int .i64 qn) (.int .i64 wait) (.slice ao l.length c) (.int .u64 first) (.int .i64 i) (.int .i64 i) (.int .u64 want) (.bool false) (.int .i64 age)
            obtain ⟨z0, z1, z2, z3, z4, z5, z6, z7, z8, z9, z10⟩ := (cells11 z).1
            simp only [set11] at z0 z1 z2 z3 z4 z5 z6 z7 z8 z9 z10
            refine bodyPost_ret (v := .tuple #[.agg #[.int .i64 e, .int .i64 win, .int .i64 qn, .int .i64 wait, .slice ao l.length c, .int .u64 first, .int .i64 i, .int .i64 i, .int .u64 want, .bool false, .int .i64 age], .slice a2 n2 c2]) (by simp [results, Tryz.results42, go_sem, z0, z1, z2, z3, z4, z5, z6, z7, z8, z9, z10]; done) rfl ⟨_, _, _, _, rfl, ⟨ao, l.length, c, ?_, ?_⟩, ?_, y5⟩
            · rw [HOUT.out]; rfl
            · rw [HOUT.out]; exact HS.out.ext y5
            · rw [hfr.out]; exact Sa.new o5 (fun k hk => by have := HF.out k hk; omega)
        · rcases hcond with hc1 | ⟨hc1, hc2⟩
          all_goals
            go_wp2
            have z := set11_blk ((set_other _ ⟨w.heap.size, 9, none⟩ (.bool false) (w.heap.size + 1) (by show w.heap.size + 1 ≠ w.heap.size; omega)).trans HZ.out) (.int .i64 e) (.int .i64 win) (.int .i64 qn) (.int .i64 wait) (.slice ao l.length c) (.int .u64 first) (.int .i64 i) (.int .i64 i) (.int .u64 want) (.bool false) (.int .i64 age)
            have y5 := set11_below (g := w.heap.size + 1) (below_set (d := ⟨w.heap.size, 9, none⟩) HXE.out (Nat.le_refl _) (.bool false)) (by omega) (.int .i64 e) (.int .i64 win) (.int .i64 qn) (.int .i64 wait) (.slice ao l.length c) (.int .u64 first) (.int .i64 i) (.int .i64 i) (.int .u64 want) (.bool false) (.int .i64 age)
            have o5 := (HOE.out.set (d := ⟨w.heap.size, 9, none⟩) (by show w.heap.size < _; omega) (.bool false)).set11 (g := w.heap.size + 1) (by omega) (.int .i64 e) (.int .i64 win) (.int .i64 qn) (.int .i64 wait) (.slice ao l.length c) (.int .u64 first) (.int .i64 i) (.int .i64 i) (.int .u64 want) (.bool false) (.int .i64 age)
            obtain ⟨z0, z1, z2, z3, z4, z5, z6, z7, z8, z9, z10⟩ := (cells11 z).1
            simp only [set11] at z0 z1 z2 z3 z4 z5 z6 z7 z8 z9 z10
            refine bodyPost_ret (v := .tuple #[.agg #[.int .i64 e, .int .i64 win, .int .i64 qn, .int .i64 wait, .slice ao l.length c, .int .u64 first, .int .i64 i, .int .i64 i, .int .u64 want, .bool false, .int .i64 age], .slice ao' n' c']) (by simp [results, Tryz.results42, go_sem, z0, z1, z2, z3, z4, z5, z6, z7, z8, z9, z10]; done) rfl ⟨_, _, _, _, rfl, ⟨ao, l.length, c, ?_, ?_⟩, ?_, y5⟩
            · rw [HOUT.out]; rfl
            · rw [HOUT.out]; exact HS.out.ext y5
            · rw [hfr.out]; exact Sa.new o5 (fun k hk => by have := HF.out k hk; omega)
end Go.Proofs.YtlakolkpfkakoaaGreatDoor

/- Links: the document's Take. -/
namespace Go.Proofs.YtlakolkpfkakoaaGreatDoor
open Go.RowKit

theorem gone_some {S : EndS} (h : S.Ok) {a k : Nat} (ha : a < 18446744073709551616) (hk : S.gone a = k) (h1 : 1 ≤ k) : k ≤ S.ever ∧ a = (S.first + k) % 18446744073709551616 ∧ ∀ j, 1 ≤ j → j < k → a ≠ (S.first + j) % 18446744073709551616 := by
  have hf := h.first
  have he := h.ew
  have hw := h.win8
  unfold EndS.gone at hk
  split at hk
  · next hc =>
    refine ⟨by omega, by omega, fun j j1 j2 => by omega⟩
  · omega

theorem gone_none {S : EndS} (h : S.Ok) {a : Nat} (ha : a < 18446744073709551616) (hk : S.gone a = 0) : ∀ j, 1 ≤ j → j ≤ S.ever → a ≠ (S.first + j) % 18446744073709551616 := by
  have hf := h.first
  have he := h.ew
  have hw := h.win8
  unfold EndS.gone at hk
  split at hk
  · next hc => omega
  · next hc =>
    intro j j1 j2 e
    apply hc
    omega

theorem cells5 {W : World} {g : Nat} {v0 v1 v2 v3 v4 : Value} {t : TypeId} (h : W.heap[g]? = some (.cells #[v0, v1, v2, v3, v4] t (0, 0))) :
    (W.cell? ⟨g, 0, none⟩ = some v0 ∧ W.cell? ⟨g, 1, none⟩ = some v1 ∧ W.cell? ⟨g, 2, none⟩ = some v2 ∧ W.cell? ⟨g, 3, none⟩ = some v3 ∧ W.cell? ⟨g, 4, none⟩ = some v4) ∧
    (W.frozen? ⟨g, 0, none⟩ = false ∧ W.frozen? ⟨g, 1, none⟩ = false ∧ W.frozen? ⟨g, 2, none⟩ = false ∧ W.frozen? ⟨g, 3, none⟩ = false ∧ W.frozen? ⟨g, 4, none⟩ = false) :=
  ⟨⟨blk_cell h 0 rfl, blk_cell h 1 rfl, blk_cell h 2 rfl, blk_cell h 3 rfl, blk_cell h 4 rfl⟩, blk_free h 0, blk_free h 1, blk_free h 2, blk_free h 3, blk_free h 4⟩

theorem box3 {w W : World} {A B C : Obj} (x : Ext (((w.alloc A).alloc B).alloc C) W) : W.heap[w.heap.size]? = some A ∧ W.heap[w.heap.size + 1]? = some B ∧ W.heap[w.heap.size + 1 + 1]? = some C := by
  have h1 := (x.block w.heap.size (by simp only [size_alloc]; omega)).trans (blk_alloc (blk_alloc (get_alloc_new w A) B) C)
  have h2 := (x.block (w.alloc A).heap.size (by simp only [size_alloc]; omega)).trans (blk_alloc (get_alloc_new (w.alloc A) B) C)
  have h3 := (x.block ((w.alloc A).alloc B).heap.size (by simp only [size_alloc]; omega)).trans (get_alloc_new ((w.alloc A).alloc B) C)
  rw [size_alloc] at h2
  rw [size_alloc, size_alloc] at h3
  exact ⟨h1, h2, h3⟩
theorem set11_other {W : World} {g b : Nat} (h : b ≠ g) (u0 u1 u2 u3 u4 u5 u6 u7 u8 u9 u10 : Value) : (set11 W g u0 u1 u2 u3 u4 u5 u6 u7 u8 u9 u10).heap[b]? = W.heap[b]? := by
  unfold set11
  rw [set_other _ _ _ _ h, set_other _ _ _ _ h, set_other _ _ _ _ h, set_other _ _ _ _ h, set_other _ _ _ _ h, set_other _ _ _ _ h, set_other _ _ _ _ h, set_other _ _ _ _ h, set_other _ _ _ _ h, set_other _ _ _ _ h, set_other _ _ _ _ h]
theorem Sa.tailT {F : Nat → Prop} {w : World} {b off c : Nat} {l : List ByteArray} (h : Sa F w (.slice (some ⟨b, off, none⟩) l.length c) l) (k : Nat) (hk : k ≤ l.length) (hc : l.length ≤ c) :
    (k = c → Sa F w (.slice (some ⟨b, off, none⟩) 0 0) (l.drop k)) ∧ (¬ k = c → Sa F w (.slice (some ⟨b, off + k, none⟩) (l.length - k) (c - k)) (l.drop k)) := by
  have ht := h.1.tail k hk
  have hv : Av F (.slice (some ⟨b, off, none⟩) l.length c) l := h.2
  have ha : ∀ o n d, Av F (.slice (some ⟨b, o, none⟩) n d) (l.drop k) := fun o n d => by
    rcases hv with h0 | h0
    · exact .inl (by rw [h0]; simp)
    · exact .inr fun b' e => h0 b' (by cases e; rfl)
  constructor
  · intro e
    subst e
    rw [if_pos rfl, show l.length - k = 0 by omega, show k - k = 0 by omega] at ht
    exact ⟨ht, ha _ _ _⟩
  · intro e
    rw [if_neg (fun h9 => e h9.symm)] at ht
    rw [show off + k * Elem.k ByteArray = off + k by show off + k * 1 = _; omega] at ht
    exact ⟨ht, ha _ _ _⟩
end Go.Proofs.YtlakolkpfkakoaaGreatDoor
