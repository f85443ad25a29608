/- Links: what an end is, and what is done to it; plain mathematics. -/
import Derived.Test.YtcjoemkplghonaaDoorMB
import Derived.Test.YtcjoemkplghonaaDoorMA
namespace Go.Proofs.YtcjoemkplghonaaDoor
open Go.RowKit

structure EndS where
  e : Int
  win : Nat
  qn : Nat
  wait : Nat
  l : List ByteArray
  first : Nat
  out : Nat
  ever : Nat
  want : Nat
  owes : Bool
  age : Nat

namespace EndS
def new (e : Int) (first : Nat) (win qn wait : Int) : EndS := ⟨e, (min (max win 1) 8).toNat, (min (max qn 0) 64).toNat, (min (max wait 1) 100).toNat, [], first, 0, 0, first, false, 0⟩
def sendE (S : EndS) (b : ByteArray) : Nat := if 64 < b.size then 90 else if S.qn ≤ S.l.length then 91 else 0
def send (S : EndS) (b : ByteArray) : EndS := if S.sendE b = 0 then { S with l := S.l ++ [b] } else S
/-- how many may be out -/
def top (S : EndS) : Nat := min S.win S.l.length
def data (S : EndS) (i : Nat) : Fr := ⟨1, S.e, (S.first + i) % 18446744073709551616, S.want, S.l.getD i ⟨#[]⟩⟩
/-- the frames of the bodies from i on, so many -/
def datas (S : EndS) (i : Nat) : Nat → List Fr
  | 0 => []
  | n + 1 => S.data i :: datas S (i + 1) n
def ack (S : EndS) : Fr := ⟨2, S.e, 0, S.want, ⟨#[]⟩⟩
def frames (S : EndS) : List Fr := if S.top ≤ S.out then (if S.owes = true then [S.ack] else []) else S.datas S.out (S.top - S.out)
def outS (S : EndS) : EndS := { S with out := max S.out S.top, ever := max S.ever (max S.out S.top), owes := false }
def tick (S : EndS) : EndS := if S.out = 0 then S else if S.age + 1 = S.wait then { S with age := 0, out := 0 } else { S with age := S.age + 1 }
/-- how many are known to have come by a number -/
def gone (S : EndS) (a : Nat) : Nat := if 1 ≤ (a + 18446744073709551616 - S.first) % 18446744073709551616 ∧ (a + 18446744073709551616 - S.first) % 18446744073709551616 ≤ S.ever then (a + 18446744073709551616 - S.first) % 18446744073709551616 else 0
def drop (S : EndS) (k : Nat) : EndS := { S with l := S.l.drop k, first := (S.first + k) % 18446744073709551616, out := S.out - k, ever := S.ever - k, age := if k = 0 then S.age else 0 }
def good (S : EndS) (f : Fr) : Bool := rightB f && decide (f.e = S.e)
def told (S : EndS) (f : Fr) : Bool := S.good f && decide (f.k ≠ 2) && decide (f.q = S.want)
def body (S : EndS) (f : Fr) : ByteArray := if S.told f = true then f.b else ⟨#[]⟩
def take (S : EndS) (f : Fr) : EndS :=
  if S.good f = true then
    if f.k = 2 then S.drop (S.gone f.a)
    else { S.drop (S.gone f.a) with owes := true, want := if f.q = S.want then (S.want + 1) % 18446744073709551616 else S.want }
  else S

structure Ok (S : EndS) : Prop where
  win1 : 1 ≤ S.win
  win8 : S.win ≤ 8
  qn : S.qn ≤ 64
  wait1 : 1 ≤ S.wait
  wait100 : S.wait ≤ 100
  len : S.l.length ≤ S.qn
  small : ∀ b ∈ S.l, b.size ≤ 64
  first : S.first < 18446744073709551616
  want : S.want < 18446744073709551616
  oe : S.out ≤ S.ever
  ew : S.ever ≤ S.win
  el : S.ever ≤ S.l.length
  age : S.age < S.wait

theorem new_ok {e : Int} {first : Nat} {win qn wait : Int} (h : first < 18446744073709551616) : (new e first win qn wait).Ok where
  win1 := by simp only [new]; omega
  win8 := by simp only [new]; omega
  qn := by simp only [new]; omega
  wait1 := by simp only [new]; omega
  wait100 := by simp only [new]; omega
  len := by simp [new]
  small := by simp [new]
  first := h
  want := h
  oe := by simp [new]
  ew := by simp [new]
  el := by simp [new]
  age := by simp only [new]; omega

theorem sendE_zero {S : EndS} {b : ByteArray} : S.sendE b = 0 ↔ b.size ≤ 64 ∧ S.l.length < S.qn := by
  unfold sendE
  split
  · exact ⟨fun h => (by cases h), fun h => (by omega)⟩
  · split
    · exact ⟨fun h => (by cases h), fun h => (by omega)⟩
    · exact ⟨fun _ => by omega, fun _ => rfl⟩

theorem Ok.send {S : EndS} (h : S.Ok) (b : ByteArray) : (S.send b).Ok := by
  unfold EndS.send
  split
  · next hz =>
    obtain ⟨h1, h2⟩ := sendE_zero.1 hz
    exact { h with
      len := by simp only [List.length_append, List.length_singleton]; omega
      small := fun x hx => by
        rcases List.mem_append.1 hx with hx | hx
        · exact h.small x hx
        · rw [List.mem_singleton] at hx; subst hx; exact h1
      el := by have := h.el; simp only [List.length_append]; omega }
  · exact h

theorem Ok.outS {S : EndS} (h : S.Ok) : S.outS.Ok := by
  have h1 := h.oe
  have h2 := h.ew
  have h3 := h.el
  exact { h with
    oe := by simp only [EndS.outS]; omega
    ew := by simp only [EndS.outS, EndS.top]; omega
    el := by simp only [EndS.outS, EndS.top]; omega }

theorem Ok.tick {S : EndS} (h : S.Ok) : S.tick.Ok := by
  have h4 := h.age
  have h5 := h.wait1
  unfold EndS.tick
  split
  · exact h
  · split
    · exact { h with oe := Nat.zero_le _, age := h5 }
    · exact { h with age := by show S.age + 1 < S.wait; omega }

theorem gone_le (S : EndS) (a : Nat) : S.gone a ≤ S.ever := by
  unfold gone
  split
  · next h => exact h.2
  · exact Nat.zero_le _

theorem Ok.drop {S : EndS} (h : S.Ok) {k : Nat} (hk : k ≤ S.ever) : (S.drop k).Ok := by
  have h1 := h.oe
  have h2 := h.ew
  have h3 := h.el
  have h4 := h.age
  have h5 := h.len
  have h6 := h.wait1
  exact { h with
    len := by simp only [EndS.drop, List.length_drop]; omega
    small := fun x hx => h.small x (List.mem_of_mem_drop hx)
    first := Nat.mod_lt _ (by decide)
    oe := by simp only [EndS.drop]; omega
    ew := by simp only [EndS.drop]; omega
    el := by simp only [EndS.drop, List.length_drop]; omega
    age := by simp only [EndS.drop]; split <;> omega }

theorem Ok.take {S : EndS} (h : S.Ok) (f : Fr) : (S.take f).Ok := by
  have hd := h.drop (S.gone_le f.a)
  unfold EndS.take
  split
  · split
    · exact hd
    · exact { hd with want := by show (if f.q = S.want then (S.want + 1) % 18446744073709551616 else S.want) < 18446744073709551616; split; exact Nat.mod_lt _ (by decide); exact h.want }
  · exact h

theorem drop_zero {S : EndS} (h : S.Ok) : S.drop 0 = S := by
  obtain ⟨e, win, qn, wait, l, first, out, ever, want, owes, age⟩ := S
  simp only [drop, List.drop_zero, Nat.add_zero, Nat.sub_zero, reduceIte, EndS.mk.injEq, true_and]
  exact ⟨Nat.mod_eq_of_lt h.first, trivial⟩

theorem datas_length (S : EndS) : ∀ (n i : Nat), (S.datas i n).length = n
  | 0, _ => rfl
  | n + 1, i => by rw [datas, List.length_cons, datas_length S n]
theorem datas_succ (S : EndS) : ∀ (n i : Nat), S.datas i (n + 1) = S.datas i n ++ [S.data (i + n)]
  | 0, i => rfl
  | n + 1, i => by
    rw [datas, datas_succ S n (i + 1), datas, List.cons_append, show i + 1 + n = i + (n + 1) by omega]
theorem datas_get (S : EndS) : ∀ (n i k : Nat), k < n → (S.datas i n)[k]? = some (S.data (i + k))
  | n + 1, i, 0, _ => rfl
  | n + 1, i, k + 1, h => by
    rw [datas, List.getElem?_cons_succ, datas_get S n (i + 1) k (by omega), show i + 1 + k = i + (k + 1) by omega]
theorem frames_le {S : EndS} (h : S.Ok) : S.frames.length ≤ 8 := by
  have := h.win8
  unfold frames
  split
  · split
    · exact (by decide : (1 : Nat) ≤ 8)
    · exact Nat.zero_le _
  · rw [datas_length]
    unfold top
    omega
theorem data_in {S : EndS} (h : S.Ok) (i : Nat) : (S.data i).b.size ≤ 64 := by
  show (S.l.getD i ⟨#[]⟩).size ≤ 64
  rcases Nat.lt_or_ge i S.l.length with hi | hi
  · rw [show S.l.getD i ⟨#[]⟩ = S.l[i] by simp [hi]]
    exact h.small _ (List.getElem_mem hi)
  · rw [show S.l.getD i ⟨#[]⟩ = ⟨#[]⟩ by simp [hi]]
    decide
end EndS
end Go.Proofs.YtcjoemkplghonaaDoor

/- Links: the document's ends; New, Tick, Send. -/
namespace Go.Proofs.YtcjoemkplghonaaDoor
open Go.RowKit

/-- the document's end: its cells -/
def rCells (S : EndS) (lv : Value) : Array Value := #[.int .i64 S.e, .int .i64 (S.win : Int), .int .i64 (S.qn : Int), .int .i64 (S.wait : Int), lv, .int .u64 (S.first : Int), .int .i64 (S.out : Int), .int .i64 (S.ever : Int), .int .u64 (S.want : Int), .bool S.owes, .int .i64 (S.age : Int)]
/-- the document's end, apart from F -/
def REnd (F : Nat → Prop) (w : World) (v : Value) (S : EndS) : Prop := ∃ ao n c, v = .agg (rCells S (.slice ao n c)) ∧ Sa F w (.slice ao n c) S.l
theorem REnd.ext {F : Nat → Prop} {w w' : World} {v : Value} {S : EndS} (h : REnd F w v S) (e : Ext w w') : REnd F w' v S := by
  obtain ⟨ao, n, c, h1, h2⟩ := h
  exact ⟨ao, n, c, h1, h2.ext e⟩
theorem REnd.off {F G : Nat → Prop} {w w' : World} {v : Value} {S : EndS} (h : REnd F w v S) (o : Off F w w') (g : Grows F G w) : REnd G w' v S := by
  obtain ⟨ao, n, c, h1, h2⟩ := h
  exact ⟨ao, n, c, h1, h2.off o g⟩
theorem REnd.wide {F G : Nat → Prop} {w : World} {v : Value} {S : EndS} (h : REnd F w v S) (hG : ∀ k, k < w.heap.size → G k → F k) : REnd G w v S := by
  obtain ⟨ao, n, c, h1, h2⟩ := h
  exact ⟨ao, n, c, h1, h2.wide hG⟩

theorem cells11 {W : World} {g : Nat} {v0 v1 v2 v3 v4 v5 v6 v7 v8 v9 v10 : Value} {t : TypeId} (h : W.heap[g]? = some (.cells #[v0, v1, v2, v3, v4, v5, v6, v7, v8, v9, v10] t (0, 0))) :
    (W.cell? ⟨g, 0, none⟩ = some v0 ∧ W.cell? ⟨g, 1, none⟩ = some v1 ∧ W.cell? ⟨g, 2, none⟩ = some v2 ∧ W.cell? ⟨g, 3, none⟩ = some v3 ∧ W.cell? ⟨g, 4, none⟩ = some v4 ∧ W.cell? ⟨g, 5, none⟩ = some v5 ∧
      W.cell? ⟨g, 6, none⟩ = some v6 ∧ W.cell? ⟨g, 7, none⟩ = some v7 ∧ W.cell? ⟨g, 8, none⟩ = some v8 ∧ W.cell? ⟨g, 9, none⟩ = some v9 ∧ W.cell? ⟨g, 10, none⟩ = some v10) ∧
    (W.frozen? ⟨g, 0, none⟩ = false ∧ W.frozen? ⟨g, 1, none⟩ = false ∧ W.frozen? ⟨g, 2, none⟩ = false ∧ W.frozen? ⟨g, 3, none⟩ = false ∧ W.frozen? ⟨g, 4, none⟩ = false ∧ W.frozen? ⟨g, 5, none⟩ = false ∧
      W.frozen? ⟨g, 6, none⟩ = false ∧ W.frozen? ⟨g, 7, none⟩ = false ∧ W.frozen? ⟨g, 8, none⟩ = false ∧ W.frozen? ⟨g, 9, none⟩ = false ∧ W.frozen? ⟨g, 10, none⟩ = false) :=
  ⟨⟨blk_cell h 0 rfl, blk_cell h 1 rfl, blk_cell h 2 rfl, blk_cell h 3 rfl, blk_cell h 4 rfl, blk_cell h 5 rfl, blk_cell h 6 rfl, blk_cell h 7 rfl, blk_cell h 8 rfl, blk_cell h 9 rfl, blk_cell h 10 rfl⟩,
   blk_free h 0, blk_free h 1, blk_free h 2, blk_free h 3, blk_free h 4, blk_free h 5, blk_free h 6, blk_free h 7, blk_free h 8, blk_free h 9, blk_free h 10⟩

theorem rend_new (F : Nat → Prop) (w : World) (e : Int) (first : Nat) (win qn wait : Int) : REnd F w (.agg #[.int .i64 e, .int .i64 (min (max win 1) 8), .int .i64 (min (max qn 0) 64), .int .i64 (min (max wait 1) 100), .slice none 0 0, .int .u64 (first : Int), .int .i64 0, .int .i64 0, .int .u64 (first : Int), .bool false, .int .i64 0]) (EndS.new e first win qn wait) := by
  refine ⟨none, 0, 0, ?_, Sa.nil F w⟩
  unfold rCells EndS.new
  dsimp only
  rw [Int.toNat_of_nonneg (by omega), Int.toNat_of_nonneg (by omega), Int.toNat_of_nonneg (by omega)]
  rfl

end Go.Proofs.YtcjoemkplghonaaDoor

/- Links: the document's Send. -/
namespace Go.Proofs.YtcjoemkplghonaaDoor
open Go.RowKit

def zCells : Array Value := #[.int .i64 0, .int .i64 0, .int .i64 0, .int .i64 0, .slice none 0 0, .int .u64 0, .int .i64 0, .int .i64 0, .int .u64 0, .bool false, .int .i64 0]
/-- eleven cells stored -/
def set11 (W : World) (g : Nat) (u0 u1 u2 u3 u4 u5 u6 u7 u8 u9 u10 : Value) : World :=
  ((((((((((W.setCell ⟨g, 0, none⟩ u0).setCell ⟨g, 1, none⟩ u1).setCell ⟨g, 2, none⟩ u2).setCell ⟨g, 3, none⟩ u3).setCell ⟨g, 4, none⟩ u4).setCell ⟨g, 5, none⟩ u5).setCell ⟨g, 6, none⟩ u6).setCell ⟨g, 7, none⟩ u7).setCell ⟨g, 8, none⟩ u8).setCell ⟨g, 9, none⟩ u9).setCell ⟨g, 10, none⟩ u10
theorem set11_blk {W : World} {g : Nat} {v0 v1 v2 v3 v4 v5 v6 v7 v8 v9 v10 : Value} {t : TypeId} (h : W.heap[g]? = some (.cells #[v0, v1, v2, v3, v4, v5, v6, v7, v8, v9, v10] t (0, 0))) (u0 u1 u2 u3 u4 u5 u6 u7 u8 u9 u10 : Value) :
    (set11 W g u0 u1 u2 u3 u4 u5 u6 u7 u8 u9 u10).heap[g]? = some (.cells #[u0, u1, u2, u3, u4, u5, u6, u7, u8, u9, u10] t (0, 0)) := by
  have h2 := blk_set (blk_set (blk_set (blk_set (blk_set (blk_set (blk_set (blk_set (blk_set (blk_set (blk_set h 0 u0) 1 u1) 2 u2) 3 u3) 4 u4) 5 u5) 6 u6) 7 u7) 8 u8) 9 u9) 10 u10
  simpa [set11] using h2
theorem set11_below {B : Nat} {w W : World} {g : Nat} (x : Below B w W) (hg : B ≤ g) (u0 u1 u2 u3 u4 u5 u6 u7 u8 u9 u10 : Value) : Below B w (set11 W g u0 u1 u2 u3 u4 u5 u6 u7 u8 u9 u10) :=
  below_set (below_set (below_set (below_set (below_set (below_set (below_set (below_set (below_set (below_set (below_set x hg _) hg _) hg _) hg _) hg _) hg _) hg _) hg _) hg _) hg _) hg _

theorem Ow.set11 {α : Type} [Elem α] {W : World} {B g : Nat} {v : Value} {xs : List α} (h : Ow W B v xs) (hg : g < B) (u0 u1 u2 u3 u4 u5 u6 u7 u8 u9 u10 : Value) : Ow (set11 W g u0 u1 u2 u3 u4 u5 u6 u7 u8 u9 u10) B v xs :=
  (((((((((((h.set (d := ⟨g, 0, none⟩) hg u0).set (d := ⟨g, 1, none⟩) hg u1).set (d := ⟨g, 2, none⟩) hg u2).set (d := ⟨g, 3, none⟩) hg u3).set (d := ⟨g, 4, none⟩) hg u4).set (d := ⟨g, 5, none⟩) hg u5).set (d := ⟨g, 6, none⟩) hg u6).set (d := ⟨g, 7, none⟩) hg u7).set (d := ⟨g, 8, none⟩) hg u8).set (d := ⟨g, 9, none⟩) hg u9).set (d := ⟨g, 10, none⟩) hg u10)

end Go.Proofs.YtcjoemkplghonaaDoor

/- Links: the document's Out. -/
namespace Go.Proofs.YtcjoemkplghonaaDoor
open Go.RowKit

instance : Elem Fr where
  e := 57
  t := 64
  k := 5
  bytes := 48
  z := .agg #[.int .i64 0, .int .i64 0, .int .u64 0, .int .u64 0, .string ⟨#[]⟩]
  enc := fun f => [.int .i64 f.k, .int .i64 f.e, .int .u64 (f.q : Int), .int .u64 (f.a : Int), .string f.b]
  dflt := Fr.zero
  len := fun _ => rfl
  pos := by decide
  one := fun x u hu => by simp at hu; rcases hu with rfl | rfl | rfl | rfl | rfl <;> rfl
  row := by kernel_rfl
  info := by kernel_rfl
  zsize := rfl
  few := by decide

/-- a frame's cells -/
def FrAt (w : World) (b off : Nat) (f : Fr) : Prop :=
  w.cell? ⟨b, off, none⟩ = some (.int .i64 f.k) ∧ w.cell? ⟨b, off + 1, none⟩ = some (.int .i64 f.e) ∧ w.cell? ⟨b, off + 2, none⟩ = some (.int .u64 (f.q : Int)) ∧ w.cell? ⟨b, off + 3, none⟩ = some (.int .u64 (f.a : Int)) ∧ w.cell? ⟨b, off + 4, none⟩ = some (.string f.b)

theorem Sl.frs {w : World} {v : Value} {xs : List Fr} (h : Sl w v xs) :
    (xs = [] ∧ ∃ ao c, v = .slice ao 0 c) ∨
    (∃ b off c, v = .slice (some ⟨b, off, none⟩) xs.length c ∧ xs.length ≤ c ∧ c ≤ 9223372036854775807 ∧ b < w.heap.size ∧ 0 < xs.length ∧ ∀ j, j < xs.length → FrAt w b (off + j * 5) (xs.getD j Fr.zero)) := by
  rcases h.parts with h | ⟨b, off, c, h1, h2, h3, h4, h5, h6⟩
  · exact .inl h
  · refine .inr ⟨b, off, c, h1, h2, h3, h4, h5, fun j hj => ?_⟩
    have e : xs[j]? = some (xs.getD j Fr.zero) := by simp [hj]
    have key : ∀ i u, (Elem.enc (xs.getD j Fr.zero))[i]? = some u → w.cell? ⟨b, off + j * 5 + i, none⟩ = some u := fun i u hu => by
      have := h6 j _ e i u hu
      rwa [show off + (j * Elem.k Fr + i) = off + j * 5 + i from by show off + (j * 5 + i) = _; omega] at this
    exact ⟨key 0 _ rfl, key 1 _ rfl, key 2 _ rfl, key 3 _ rfl, key 4 _ rfl⟩

def lenV : Value → Nat | .slice _ n _ => n | _ => 0

theorem seq_wrap (first i : Nat) : IntKind.u64.wrap ((first : Int) + (i : Int)) = (((first + i) % 18446744073709551616 : Nat) : Int) := by
  rw [wrapM]
  omega

end Go.Proofs.YtcjoemkplghonaaDoor

/- Links: the document's Take. -/
namespace Go.Proofs.YtcjoemkplghonaaDoor
open Go.RowKit

theorem gone_some {S : EndS} (h : S.Ok) {a k : Nat} (ha : a < 18446744073709551616) (hk : S.gone a = k) (h1 : 1 ≤ k) : k ≤ S.ever ∧ a = (S.first + k) % 18446744073709551616 ∧ ∀ j, 1 ≤ j → j < k → a ≠ (S.first + j) % 18446744073709551616 := by
  have hf := h.first
  have he := h.ew
  have hw := h.win8
  unfold EndS.gone at hk
  split at hk
  · next hc =>
    refine ⟨by omega, by omega, fun j j1 j2 => by omega⟩
  · omega

theorem gone_none {S : EndS} (h : S.Ok) {a : Nat} (ha : a < 18446744073709551616) (hk : S.gone a = 0) : ∀ j, 1 ≤ j → j ≤ S.ever → a ≠ (S.first + j) % 18446744073709551616 := by
  have hf := h.first
  have he := h.ew
  have hw := h.win8
  unfold EndS.gone at hk
  split at hk
  · next hc => omega
  · next hc =>
    intro j j1 j2 e
    apply hc
    omega

theorem cells5 {W : World} {g : Nat} {v0 v1 v2 v3 v4 : Value} {t : TypeId} (h : W.heap[g]? = some (.cells #[v0, v1, v2, v3, v4] t (0, 0))) :
    (W.cell? ⟨g, 0, none⟩ = some v0 ∧ W.cell? ⟨g, 1, none⟩ = some v1 ∧ W.cell? ⟨g, 2, none⟩ = some v2 ∧ W.cell? ⟨g, 3, none⟩ = some v3 ∧ W.cell? ⟨g, 4, none⟩ = some v4) ∧
    (W.frozen? ⟨g, 0, none⟩ = false ∧ W.frozen? ⟨g, 1, none⟩ = false ∧ W.frozen? ⟨g, 2, none⟩ = false ∧ W.frozen? ⟨g, 3, none⟩ = false ∧ W.frozen? ⟨g, 4, none⟩ = false) :=
  ⟨⟨blk_cell h 0 rfl, blk_cell h 1 rfl, blk_cell h 2 rfl, blk_cell h 3 rfl, blk_cell h 4 rfl⟩, blk_free h 0, blk_free h 1, blk_free h 2, blk_free h 3, blk_free h 4⟩

theorem box3 {w W : World} {A B C : Obj} (x : Ext (((w.alloc A).alloc B).alloc C) W) : W.heap[w.heap.size]? = some A ∧ W.heap[w.heap.size + 1]? = some B ∧ W.heap[w.heap.size + 1 + 1]? = some C := by
  have h1 := (x.block w.heap.size (by simp only [size_alloc]; omega)).trans (blk_alloc (blk_alloc (get_alloc_new w A) B) C)
  have h2 := (x.block (w.alloc A).heap.size (by simp only [size_alloc]; omega)).trans (blk_alloc (get_alloc_new (w.alloc A) B) C)
  have h3 := (x.block ((w.alloc A).alloc B).heap.size (by simp only [size_alloc]; omega)).trans (get_alloc_new ((w.alloc A).alloc B) C)
  rw [size_alloc] at h2
  rw [size_alloc, size_alloc] at h3
  exact ⟨h1, h2, h3⟩
theorem set11_other {W : World} {g b : Nat} (h : b ≠ g) (u0 u1 u2 u3 u4 u5 u6 u7 u8 u9 u10 : Value) : (set11 W g u0 u1 u2 u3 u4 u5 u6 u7 u8 u9 u10).heap[b]? = W.heap[b]? := by
  unfold set11
  rw [set_other _ _ _ _ h, set_other _ _ _ _ h, set_other _ _ _ _ h, set_other _ _ _ _ h, set_other _ _ _ _ h, set_other _ _ _ _ h, set_other _ _ _ _ h, set_other _ _ _ _ h, set_other _ _ _ _ h, set_other _ _ _ _ h, set_other _ _ _ _ h]
/-- what is behind the first k texts -/
theorem Sa.tailT {F : Nat → Prop} {w : World} {b off c : Nat} {l : List ByteArray} (h : Sa F w (.slice (some ⟨b, off, none⟩) l.length c) l) (k : Nat) (hk : k ≤ l.length) (hc : l.length ≤ c) :
    (k = c → Sa F w (.slice (some ⟨b, off, none⟩) 0 0) (l.drop k)) ∧ (¬ k = c → Sa F w (.slice (some ⟨b, off + k, none⟩) (l.length - k) (c - k)) (l.drop k)) := by
  have ht := h.1.tail k hk
  have hv : Av F (.slice (some ⟨b, off, none⟩) l.length c) l := h.2
  have ha : ∀ o n d, Av F (.slice (some ⟨b, o, none⟩) n d) (l.drop k) := fun o n d => by
    rcases hv with h0 | h0
    · exact .inl (by rw [h0]; simp)
    · exact .inr fun b' e => h0 b' (by cases e; rfl)
  constructor
  · intro e
    subst e
    rw [if_pos rfl, show l.length - k = 0 by omega, show k - k = 0 by omega] at ht
    exact ⟨ht, ha _ _ _⟩
  · intro e
    rw [if_neg (fun h9 => e h9.symm)] at ht
    rw [show off + k * Elem.k ByteArray = off + k by show off + k * 1 = _; omega] at ht
    exact ⟨ht, ha _ _ _⟩
end Go.Proofs.YtcjoemkplghonaaDoor

/- Links: the document's Take. -/
namespace Go.Proofs.YtcjoemkplghonaaDoor
open Go.RowKit

def TakesR (F : Nat → Prop) (S : EndS) (f : Fr) (w : World) (ev : Ending) (w' : World) : Prop := ∃ v', ev = .returned (.tuple #[v', .string (S.body f), .bool (S.told f)]) ∧ REnd F w' v' (S.take f) ∧ Ext w w'

end Go.Proofs.YtcjoemkplghonaaDoor

/- Links: the document's Take, where some are known to have come. -/
namespace Go.Proofs.YtcjoemkplghonaaDoor
open Go.RowKit

end Go.Proofs.YtcjoemkplghonaaDoor

/- Links: the document's Take, whatever the frame; Same, Texts. -/
namespace Go.Proofs.YtcjoemkplghonaaDoor
open Go.RowKit

theorem tl_beq (a b : ByteArray) : (a.toList == b.toList) = decide (a = b) := tl_eq a b

set_option maxHeartbeats 1600000 in
theorem refTexts_any (w : World) (va vb : Value) (xs ys : List ByteArray) (hx : Sl w va xs) (hy : Sl w vb ys) :
    Calls Tryd.prog 13 #[va, vb] w fun ev w' => ev = .returned (.bool (decide (xs = ys))) ∧ Ext w w' := by
  have hlx := hx.length_le
  have hly := hy.length_le
  obtain ⟨ao, c, rfl⟩ := hx.len
  obtain ⟨bo, d, rfl⟩ := hy.len
  by_cases hl : xs.length = ys.length
  · have hb : ((xs.length : Int) != (ys.length : Int)) = false := by rw [bne_eq_false_iff_eq]; omega
    have HX := Lib.hid hx
    have HY := Lib.hid hy
    have HL := Lib.hid hl
    clear hx hy hl
    go_enter Tryd.func13, Tryd.ntmps13
    go_wp2
    go_loopw [5] (fun i wr => ∃ k : Nat, i = .int .i64 (k : Int) ∧ k ≤ xs.length ∧ Hid (xs.take k = ys.take k) ∧ Hid (Ext w wr)) (fun i _ => xs.length - (intOf i).toNat)
    case atStart => exact ⟨0, rfl, Nat.zero_le _, Lib.hid rfl, Lib.hid (Ext.refl _)⟩
    case round =>
      obtain ⟨k, rfl, hk, HT, HW⟩ := hrel
      by_cases hlt : k < xs.length
      · have hlt2 : k < ys.length := by have := HL.out; omega
        rcases (HX.out.ext HW.out).texts with ⟨h0, _⟩ | ⟨b1, o1, c1, hv, q1, q2, q3, q4, q5⟩
        · rw [h0] at hlt; simp at hlt
        rcases (HY.out.ext HW.out).texts with ⟨h0, _⟩ | ⟨b2, o2, c2, hv2, p1, p2, p3, p4, p5⟩
        · rw [h0] at hlt2; simp at hlt2
        simp only [Value.slice.injEq] at hv hv2
        obtain ⟨rfl, _, rfl⟩ := hv
        obtain ⟨rfl, _, rfl⟩ := hv2
        have k1 := q5 k hlt
        have k2 := p5 k hlt2
        have t1 : xs.take (k + 1) = xs.take k ++ [xs.getD k ⟨#[]⟩] := by rw [List.take_succ_eq_append_getElem hlt]; simp [hlt]
        have t2 : ys.take (k + 1) = ys.take k ++ [ys.getD k ⟨#[]⟩] := by rw [List.take_succ_eq_append_getElem hlt2]; simp [hlt2]
        have g1 : xs[k]? = some (xs.getD k ⟨#[]⟩) := by simp [hlt]
        have g2 : ys[k]? = some (ys.getD k ⟨#[]⟩) := by simp [hlt2]
        obtain ⟨X, hX⟩ : ∃ X, X = xs.getD k ⟨#[]⟩ := ⟨_, rfl⟩
        obtain ⟨Y, hY⟩ : ∃ Y, Y = ys.getD k ⟨#[]⟩ := ⟨_, rfl⟩
        rw [← hX] at k1 t1 g1
        rw [← hY] at k2 t2 g2
        have T1 := Lib.hid t1
        have T2 := Lib.hid t2
        have G1 := Lib.hid g1
        have G2 := Lib.hid g2
        clear q5 p5 hX hY t1 t2 g1 g2
        have hkc : (k : Int) < (xs.length : Int) := by omega
        have hkd : (k : Int) < (ys.length : Int) := by omega
        have hn1 : IntKind.i64.wrap ((k : Int) + 1) = (k : Int) + 1 := wrapN _ (by omega) (by omega)
        have hy := HW.out
        have HK : Hid (∀ W, Ext wr W → W.cell? ⟨b1, o1 + k, none⟩ = some (.string X) ∧ W.cell? ⟨b2, o2 + k, none⟩ = some (.string Y)) := Lib.hid (fun W x => ⟨(x.cell (p := ⟨b1, o1 + k, none⟩) q3).trans k1, (x.cell (p := ⟨b2, o2 + k, none⟩) p3).trans k2⟩)
        clear k1 k2 q3 p3
        by_cases he : X = Y
        · subst he
          have hT2 : Hid (xs.take (k + 1) = ys.take (k + 1)) := Lib.hid (by rw [T1.out, T2.out, HT.out])
          have hne : (X.toList == X.toList) = true := beq_self_eq_true _
          go_wp2_with fail
          refine wp_region_M_lit (by kernel_rfl) ?_
          (refine takeV 0 (v := ?_) (by simp only [List.getElem?_toArray, List.getElem?_cons, reduceIte]; rfl) (by kernel_rfl) (by rfl) (fun w' hw' => ?_) ?_; rotate_left; focus (skip; go_simp; first | done | with_reducible rfl)); (simp only [Act.put, List.setIfInBounds_toArray, List.set])
          (refine takeV 1 (v := ?_) (by simp only [List.getElem?_toArray, List.getElem?_cons, reduceIte]; rfl) (by kernel_rfl) (by rfl) (fun w' hw' => ?_) ?_; rotate_left; focus (skip; go_simp; first | done | with_reducible rfl)); (simp only [Act.put, List.setIfInBounds_toArray, List.set])
          (refine takeV 2 (v := ?_) (by simp only [List.getElem?_toArray, List.getElem?_cons, reduceIte]; rfl) (by kernel_rfl) (by rfl) (fun w' hw' => ?_) ?_; rotate_left; focus (skip; go_simp; first | done | with_reducible rfl)); (simp only [Act.put, List.setIfInBounds_toArray, List.set])
          (refine takeV 3 (v := ?_) (by simp only [List.getElem?_toArray, List.getElem?_cons, reduceIte]; rfl) (by kernel_rfl) (by rfl) (fun w' hw' => ?_) ?_; rotate_left; focus (have hc := HK.out w' hw'; go_simp; first | done | with_reducible rfl)); (simp only [Act.put, List.setIfInBounds_toArray, List.set])
          (refine takeV 4 (v := ?_) (by simp only [List.getElem?_toArray, List.getElem?_cons, reduceIte]; rfl) (by kernel_rfl) (by rfl) (fun w' hw' => ?_) ?_; rotate_left; focus (skip; go_simp; first | done | with_reducible rfl)); (simp only [Act.put, List.setIfInBounds_toArray, List.set])
          (refine takeV 5 (v := ?_) (by simp only [List.getElem?_toArray, List.getElem?_cons, reduceIte]; rfl) (by kernel_rfl) (by rfl) (fun w' hw' => ?_) ?_; rotate_left; focus (skip; go_simp; first | done | with_reducible rfl)); (simp only [Act.put, List.setIfInBounds_toArray, List.set])
          (refine takeV 6 (v := ?_) (by simp only [List.getElem?_toArray, List.getElem?_cons, reduceIte]; rfl) (by kernel_rfl) (by rfl) (fun w' hw' => ?_) ?_; rotate_left; focus (skip; go_simp; first | done | with_reducible rfl)); (simp only [Act.put, List.setIfInBounds_toArray, List.set])
          (refine takeV 7 (v := ?_) (by simp only [List.getElem?_toArray, List.getElem?_cons, reduceIte]; rfl) (by kernel_rfl) (by rfl) (fun w' hw' => ?_) ?_; rotate_left; focus (have hc := HK.out w' hw'; go_simp; first | done | with_reducible rfl)); (simp only [Act.put, List.setIfInBounds_toArray, List.set])
          (refine takeV 8 (v := ?_) (by simp only [List.getElem?_toArray, List.getElem?_cons, reduceIte]; rfl) (by kernel_rfl) (by rfl) (fun w' hw' => ?_) ?_; rotate_left; focus (skip; go_simp; first | done | with_reducible rfl)); (simp only [Act.put, List.setIfInBounds_toArray, List.set])
          (refine doneM (by kernel_rfl) ?_; intro w' hw'; show _)
          have hy2 := Ext.trans hy hw'
          clear hw'
          go_wp2
          all_goals exact ⟨⟨k + 1, by go_num, hlt, hT2, Lib.hid hy2⟩, by simp [intOf]; omega⟩
        · have hne : (X.toList == Y.toList) = false := by rw [tl_eq]; exact decide_eq_false he
          have HNE := Lib.hid (show decide (xs = ys) = false from decide_eq_false (fun e => by
            have h1 := G1.out
            rw [e, G2.out, Option.some.injEq] at h1
            exact he h1.symm))
          clear he
          go_wp2_with fail
          refine wp_region_M_lit (by kernel_rfl) ?_
          (refine takeV 0 (v := ?_) (by simp only [List.getElem?_toArray, List.getElem?_cons, reduceIte]; rfl) (by kernel_rfl) (by rfl) (fun w' hw' => ?_) ?_; rotate_left; focus (skip; go_simp; first | done | with_reducible rfl)); (simp only [Act.put, List.setIfInBounds_toArray, List.set])
          (refine takeV 1 (v := ?_) (by simp only [List.getElem?_toArray, List.getElem?_cons, reduceIte]; rfl) (by kernel_rfl) (by rfl) (fun w' hw' => ?_) ?_; rotate_left; focus (skip; go_simp; first | done | with_reducible rfl)); (simp only [Act.put, List.setIfInBounds_toArray, List.set])
          (refine takeV 2 (v := ?_) (by simp only [List.getElem?_toArray, List.getElem?_cons, reduceIte]; rfl) (by kernel_rfl) (by rfl) (fun w' hw' => ?_) ?_; rotate_left; focus (skip; go_simp; first | done | with_reducible rfl)); (simp only [Act.put, List.setIfInBounds_toArray, List.set])
          (refine takeV 3 (v := ?_) (by simp only [List.getElem?_toArray, List.getElem?_cons, reduceIte]; rfl) (by kernel_rfl) (by rfl) (fun w' hw' => ?_) ?_; rotate_left; focus (have hc := HK.out w' hw'; go_simp; first | done | with_reducible rfl)); (simp only [Act.put, List.setIfInBounds_toArray, List.set])
          (refine takeV 4 (v := ?_) (by simp only [List.getElem?_toArray, List.getElem?_cons, reduceIte]; rfl) (by kernel_rfl) (by rfl) (fun w' hw' => ?_) ?_; rotate_left; focus (skip; go_simp; first | done | with_reducible rfl)); (simp only [Act.put, List.setIfInBounds_toArray, List.set])
          (refine takeV 5 (v := ?_) (by simp only [List.getElem?_toArray, List.getElem?_cons, reduceIte]; rfl) (by kernel_rfl) (by rfl) (fun w' hw' => ?_) ?_; rotate_left; focus (skip; go_simp; first | done | with_reducible rfl)); (simp only [Act.put, List.setIfInBounds_toArray, List.set])
          (refine takeV 6 (v := ?_) (by simp only [List.getElem?_toArray, List.getElem?_cons, reduceIte]; rfl) (by kernel_rfl) (by rfl) (fun w' hw' => ?_) ?_; rotate_left; focus (skip; go_simp; first | done | with_reducible rfl)); (simp only [Act.put, List.setIfInBounds_toArray, List.set])
          (refine takeV 7 (v := ?_) (by simp only [List.getElem?_toArray, List.getElem?_cons, reduceIte]; rfl) (by kernel_rfl) (by rfl) (fun w' hw' => ?_) ?_; rotate_left; focus (have hc := HK.out w' hw'; go_simp; first | done | with_reducible rfl)); (simp only [Act.put, List.setIfInBounds_toArray, List.set])
          (refine takeV 8 (v := ?_) (by simp only [List.getElem?_toArray, List.getElem?_cons, reduceIte]; rfl) (by kernel_rfl) (by rfl) (fun w' hw' => ?_) ?_; rotate_left; focus (skip; go_simp; first | done | with_reducible rfl)); (simp only [Act.put, List.setIfInBounds_toArray, List.set])
          (refine doneM (by kernel_rfl) ?_; intro w' hw'; show _)
          have hy2 := Ext.trans hy hw'
          clear hw'
          go_wp2
          all_goals go_ret
          all_goals exact ⟨by rw [HNE.out]; rfl, hy2⟩
      · have hkk : k = xs.length := by omega
        have hD := Lib.hid (show decide (xs = ys) = true from decide_eq_true (by
          have h1 := HT.out
          rw [hkk, List.take_length, HL.out, List.take_length] at h1
          exact h1))
        have hy := HW.out
        go_wp2
        go_ret
        exact ⟨by rw [hD.out]; rfl, hy⟩
  · have hb : ((xs.length : Int) != (ys.length : Int)) = true := bne_iff_ne.2 (by omega)
    have hD := Lib.hid (show decide (xs = ys) = false from decide_eq_false (fun e => hl (by rw [e])))
    clear hx hy hl
    go_enter Tryd.func13, Tryd.ntmps13
    go_wp2
    go_ret
    exact ⟨by rw [hD.out]; rfl, (by repeat (first | exact Ext.refl _ | assumption | refine Ext.alloc ?_ _ | refine Ext.drew ?_ | refine Ext.drewN ?_ _))⟩

theorem FrAt.ext {w w' : World} {b off : Nat} {f : Fr} (h : FrAt w b off f) (x : Below (b + 1) w w') : FrAt w' b off f := by
  obtain ⟨h0, h1, h2, h3, h4⟩ := h
  exact ⟨(x.cell (Nat.lt_succ_self _)).trans h0, (x.cell (Nat.lt_succ_self _)).trans h1, (x.cell (Nat.lt_succ_self _)).trans h2, (x.cell (Nat.lt_succ_self _)).trans h3, (x.cell (Nat.lt_succ_self _)).trans h4⟩

end Go.Proofs.YtcjoemkplghonaaDoor
