/- Nets: plain mathematics, and how the document's rows lie in memory. -/
import Derived.Test.YtlakolkpfkakoaaGreatDoorMA
import Derived.Test.YtlakolkpfkakoaaGreatDoorMB0
namespace Go.Proofs.YtlakolkpfkakoaaGreatDoor
open Go.RowKit
inductive All2 {α β : Type} (R : α → β → Prop) : List α → List β → Prop
  | nil : All2 R [] []
  | cons {a b l m} : R a b → All2 R l m → All2 R (a :: l) (b :: m)

section
variable {α β : Type} {R Q : α → β → Prop}
theorem All2.length : ∀ {l : List α} {m : List β}, All2 R l m → l.length = m.length
  | _, _, .nil => rfl
  | _, _, .cons _ h => by rw [List.length_cons, List.length_cons, h.length]
theorem All2.get : ∀ {l : List α} {m : List β}, All2 R l m → ∀ {k : Nat} {a b}, l[k]? = some a → m[k]? = some b → R a b
  | _, _, .nil, _, _, _, h, _ => by simp at h
  | _, _, .cons hr h, 0, _, _, ha, hb => by simp at ha hb; subst ha; subst hb; exact hr
  | _, _, .cons hr h, k + 1, _, _, ha, hb => h.get (by simpa using ha) (by simpa using hb)
theorem All2.mono (hQ : ∀ a b, R a b → Q a b) : ∀ {l : List α} {m : List β}, All2 R l m → All2 Q l m
  | _, _, .nil => .nil
  | _, _, .cons hr h => .cons (hQ _ _ hr) (h.mono hQ)
theorem All2.append : ∀ {l : List α} {m : List β} {l' : List α} {m' : List β}, All2 R l m → All2 R l' m' → All2 R (l ++ l') (m ++ m')
  | _, _, _, _, .nil, h => h
  | _, _, _, _, .cons hr h, h' => .cons hr (h.append h')
theorem All2.one {a : α} {b : β} (h : R a b) : All2 R [a] [b] := .cons h .nil
theorem All2.getD {l : List α} {m : List β} (h : All2 R l m) {k : Nat} (hk : k < l.length) (x : α) (y : β) : R (l.getD k x) (m.getD k y) := by
  have hk2 : k < m.length := by rw [← h.length]; exact hk
  exact h.get (k := k) (by simp [hk]) (by simp [hk2])
end
structure WayV where
  a : Int
  b : Int
  ao : Option Addr
  n : Nat
  c : Nat
structure Way where
  a : Int
  b : Int
  l : List ByteArray

def WayV.v (x : WayV) : Value := .slice x.ao x.n x.c
def dW : WayV := ⟨0, 0, none, 0, 0⟩
def dL : Way := ⟨0, 0, []⟩

instance : Elem WayV where
  e := 110
  t := 31
  k := 3
  bytes := 40
  z := .agg #[.int .i64 0, .int .i64 0, .slice none 0 0]
  enc := fun x => [.int .i64 x.a, .int .i64 x.b, .slice x.ao x.n x.c]
  dflt := dW
  len := fun _ => rfl
  pos := by decide
  one := fun x u hu => by simp at hu; rcases hu with rfl | rfl | rfl <;> rfl
  row := by kernel_rfl
  info := by kernel_rfl
  zsize := rfl
  few := by decide

theorem Sl.ways {w : World} {v : Value} {xs : List WayV} (h : Sl w v xs) :
    (xs = [] ∧ ∃ ao c, v = .slice ao 0 c) ∨
    (∃ b off c, v = .slice (some ⟨b, off, none⟩) xs.length c ∧ xs.length ≤ c ∧ c ≤ 9223372036854775807 ∧ b < w.heap.size ∧ 0 < xs.length ∧
      ∀ j, j < xs.length → w.cell? ⟨b, off + j * 3, none⟩ = some (.int .i64 (xs.getD j dW).a) ∧ w.cell? ⟨b, off + j * 3 + 1, none⟩ = some (.int .i64 (xs.getD j dW).b) ∧ w.cell? ⟨b, off + j * 3 + 2, none⟩ = some (.slice (xs.getD j dW).ao (xs.getD j dW).n (xs.getD j dW).c)) := by
  rcases h.parts with h | ⟨b, off, c, h1, h2, h3, h4, h5, h6⟩
  · exact .inl h
  · refine .inr ⟨b, off, c, h1, h2, h3, h4, h5, fun j hj => ?_⟩
    have e : xs[j]? = some (xs.getD j dW) := by simp [hj]
    refine ⟨?_, ?_, ?_⟩
    · exact h6 j _ e 0 _ rfl
    · have := h6 j _ e 1 _ rfl
      rwa [show off + (j * Elem.k WayV + 1) = off + j * 3 + 1 from by show off + (j * 3 + 1) = _; omega] at this
    · have := h6 j _ e 2 _ rfl
      rwa [show off + (j * Elem.k WayV + 2) = off + j * 3 + 2 from by show off + (j * 3 + 2) = _; omega] at this

def WayAt (F : Nat → Prop) (w : World) (x : WayV) (y : Way) : Prop := x.a = y.a ∧ x.b = y.b ∧ Sa F w x.v y.l
def Ways (F : Nat → Prop) (w : World) (v : Value) (L : List Way) : Prop := ∃ ws : List WayV, Sa F w v ws ∧ All2 (WayAt F w) ws L
theorem WayAt.ext {F : Nat → Prop} {w w' : World} {x : WayV} {y : Way} (h : WayAt F w x y) (e : Ext w w') : WayAt F w' x y := ⟨h.1, h.2.1, h.2.2.ext e⟩
theorem WayAt.off {F G : Nat → Prop} {w w' : World} {x : WayV} {y : Way} (h : WayAt F w x y) (o : Off F w w') (g : Grows F G w) : WayAt G w' x y := ⟨h.1, h.2.1, h.2.2.off o g⟩
theorem Ways.ext {F : Nat → Prop} {w w' : World} {v : Value} {L : List Way} (h : Ways F w v L) (e : Ext w w') : Ways F w' v L := by
  obtain ⟨ws, h1, h2⟩ := h
  exact ⟨ws, h1.ext e, h2.mono fun _ _ h => h.ext e⟩
theorem Ways.off {F G : Nat → Prop} {w w' : World} {v : Value} {L : List Way} (h : Ways F w v L) (o : Off F w w') (g : Grows F G w) : Ways G w' v L := by
  obtain ⟨ws, h1, h2⟩ := h
  exact ⟨ws, h1.off o g, h2.mono fun _ _ h => h.off o g⟩
def rowL : List Way → Int → Int → List ByteArray
  | [], _, _ => []
  | y :: L, a, b => if y.a = a ∧ y.b = b then y.l else rowL L a b
def other (a b : Int) (y : Way) : Bool := !(decide (y.a = a) && decide (y.b = b))
def withL (L : List Way) (a b : Int) (l : List ByteArray) : List Way := ⟨a, b, l⟩ :: L.filter (other a b)
def Once : List Way → Prop
  | [] => True
  | y :: L => (∀ z ∈ L, other y.a y.b z = true) ∧ Once L

theorem other_iff {a b : Int} {y : Way} : other a b y = true ↔ ¬ (y.a = a ∧ y.b = b) := by
  unfold other
  simp only [Bool.not_eq_true', Bool.and_eq_false_iff, decide_eq_false_iff_not]
  omega

theorem rowL_filter {a b x y : Int} (h : ¬ (x = a ∧ y = b)) : ∀ L : List Way, rowL (L.filter (other a b)) x y = rowL L x y
  | [] => rfl
  | z :: L => by
    have ih := rowL_filter h L
    by_cases hz : other a b z = true
    · rw [List.filter_cons_of_pos hz]
      unfold rowL
      rw [ih]
    · rw [List.filter_cons_of_neg hz, ih]
      have hz2 : z.a = a ∧ z.b = b := by
        rcases Classical.em (z.a = a ∧ z.b = b) with h1 | h1
        · exact h1
        · exact absurd (other_iff.2 h1) hz
      conv => rhs; unfold rowL
      rw [if_neg (by rw [hz2.1, hz2.2]; exact fun e => h ⟨e.1.symm, e.2.symm⟩)]
theorem rowL_with (L : List Way) (a b : Int) (l : List ByteArray) (x y : Int) : rowL (withL L a b l) x y = if x = a ∧ y = b then l else rowL L x y := by
  unfold withL
  conv => lhs; unfold rowL
  by_cases h : x = a ∧ y = b
  · rw [if_pos h, if_pos ⟨h.1.symm, h.2.symm⟩]
  · rw [if_neg h, if_neg (fun e => h ⟨e.1.symm, e.2.symm⟩), rowL_filter h]
theorem Once.filter {p : Way → Bool} : ∀ {L : List Way}, Once L → Once (L.filter p)
  | [], _ => trivial
  | z :: L, h => by
    by_cases hz : p z = true
    · rw [List.filter_cons_of_pos hz]
      exact ⟨fun y hy => h.1 y (List.mem_filter.1 hy).1, h.2.filter⟩
    · rw [List.filter_cons_of_neg hz]
      exact h.2.filter
theorem Once.with {L : List Way} (h : Once L) (a b : Int) (l : List ByteArray) : Once (withL L a b l) := ⟨fun _ hz => (List.mem_filter.1 hz).2, h.filter⟩
theorem Once.row : ∀ {L : List Way}, Once L → ∀ y ∈ L, rowL L y.a y.b = y.l
  | z :: L, h, y, hy => by
    rcases List.mem_cons.1 hy with rfl | hy
    · unfold rowL; rw [if_pos ⟨rfl, rfl⟩]
    · have h1 := other_iff.1 (h.1 y hy)
      unfold rowL
      rw [if_neg (fun e => h1 ⟨e.1.symm, e.2.symm⟩)]
      exact h.2.row y hy
def turnAt (s : ByteArray) (bit : Int) : Nat := (if bit = -9223372036854775808 then 0 else bit.natAbs) % (8 * s.size)
def turned (s : ByteArray) (bit : Int) : ByteArray := textN ((bl s).set (turnAt s bit / 8) ((bl s).getD (turnAt s bit / 8) 0 ^^^ 2 ^ (turnAt s bit % 8)))
structure NetS where
  n : Nat
  room : Nat
  f : Int → Int → List ByteArray

namespace NetS
def new (n room : Int) : NetS := ⟨(min (max n 0) 64).toNat, (min (max room 0) 1000).toNat, fun _ _ => []⟩
def two (S : NetS) (a b : Int) : Bool := decide (0 ≤ a) && decide (a < S.n) && decide (0 ≤ b) && decide (b < S.n) && decide (a ≠ b)
def put (S : NetS) (a b : Int) (l : List ByteArray) : NetS := ⟨S.n, S.room, fun x y => if x = a ∧ y = b then l else S.f x y⟩
def may (S : NetS) (a b : Int) : Bool := S.two a b && decide ((S.f a b).length < S.room)
def send (S : NetS) (a b : Int) (s : ByteArray) : NetS := if S.may a b = true then S.put a b (S.f a b ++ [s]) else S
def there (S : NetS) (a b k : Int) : Bool := decide (0 ≤ k) && decide (k < ((S.f a b).length : Int))
def look (S : NetS) (a b k : Int) : ByteArray := if S.there a b k = true then (S.f a b).getD k.toNat ⟨#[]⟩ else ⟨#[]⟩
def deliver (S : NetS) (a b k : Int) : NetS := if S.there a b k = true then S.put a b ((S.f a b).eraseIdx k.toNat) else S
def double (S : NetS) (a b k : Int) : NetS := if S.there a b k = true then S.send a b (S.look a b k) else S
def canD (S : NetS) (a b k : Int) : Bool := S.there a b k && S.may a b
def canF (S : NetS) (a b k : Int) : Bool := S.there a b k && !decide ((S.look a b k).size = 0)
def flip (S : NetS) (a b k bit : Int) : NetS := if S.canF a b k = true then S.put a b ((S.f a b).set k.toNat (turned (S.look a b k) bit)) else S
structure Ok (S : NetS) : Prop where
  nodes : S.n ≤ 64
  rooms : S.room ≤ 1000
  few : ∀ a b, (S.f a b).length ≤ S.room
  none : ∀ a b, S.two a b = false → S.f a b = []
  short : ∀ a b, ∀ s ∈ S.f a b, s.size ≤ 1000
end NetS
end Go.Proofs.YtlakolkpfkakoaaGreatDoor

/- The document's nets: what its functions answer. -/
namespace Go.Proofs.YtlakolkpfkakoaaGreatDoor
open Go.RowKit
def RNet (F : Nat → Prop) (w : World) (v : Value) (S : NetS) (m : Nat) : Prop :=
  ∃ ao n c L, v = .agg #[.int .i64 S.n, .int .i64 S.room, .slice ao n c] ∧ Ways F w (.slice ao n c) L ∧ (∀ a b, rowL L a b = S.f a b) ∧ Once L ∧ L.length ≤ m
theorem RNet.ext {F : Nat → Prop} {w w' : World} {v : Value} {S : NetS} {m : Nat} (h : RNet F w v S m) (e : Ext w w') : RNet F w' v S m := by
  obtain ⟨ao, n, c, L, h1, h2, h3⟩ := h
  exact ⟨ao, n, c, L, h1, h2.ext e, h3⟩
theorem RNet.off {F G : Nat → Prop} {w w' : World} {v : Value} {S : NetS} {m : Nat} (h : RNet F w v S m) (o : Off F w w') (g : Grows F G w) : RNet G w' v S m := by
  obtain ⟨ao, n, c, L, h1, h2, h3⟩ := h
  exact ⟨ao, n, c, L, h1, h2.off o g, h3⟩
theorem RNet.more {F : Nat → Prop} {w : World} {v : Value} {S : NetS} {m m' : Nat} (h : RNet F w v S m) (e : m ≤ m') : RNet F w v S m' := by
  obtain ⟨ao, n, c, L, h1, h2, h3, h4, h5⟩ := h
  exact ⟨ao, n, c, L, h1, h2, h3, h4, Nat.le_trans h5 e⟩

theorem RNet.wide {F G : Nat → Prop} {w : World} {v : Value} {S : NetS} {m : Nat} (h : RNet F w v S m) (hG : ∀ k, k < w.heap.size → G k → F k) : RNet G w v S m := by
  obtain ⟨ao, n, c, L, h1, ⟨ws, h2, h3⟩, h4⟩ := h
  exact ⟨ao, n, c, L, h1, ⟨ws, h2.wide hG, h3.mono fun _ _ h => ⟨h.1, h.2.1, h.2.2.wide hG⟩⟩, h4⟩

theorem rnet_new {F : Nat → Prop} {w : World} {n room N R : Int} (h1 : N = ((NetS.new n room).n : Int)) (h2 : R = ((NetS.new n room).room : Int)) : RNet F w (.agg #[.int .i64 N, .int .i64 R, .slice none 0 0]) (NetS.new n room) 0 :=
  ⟨none, 0, 0, [], by rw [h1, h2], ⟨[], Sa.nil F w, .nil⟩, fun _ _ => rfl, trivial, Nat.le_refl _⟩

theorem refNew_any (F : Nat → Prop) (w : World) (n room : Int) :
    Calls Tryz.prog 33 #[.int .i64 n, .int .i64 room] w fun e w' => ∃ v, e = .returned v ∧ RNet F w' v (NetS.new n room) 0 ∧ Ext w w' := by
  go_enter Tryz.func33, Tryz.ntmps33
  go_wp2
  all_goals (first
    | (refine bodyPost_ret (v := .agg #[.int .i64 0, .int .i64 0, .slice none 0 0]) (by simp [results, Tryz.results33, go_sem]; done) rfl ⟨_, rfl, rnet_new (by simp only [NetS.new]; omega) (by simp only [NetS.new]; omega), (by repeat (first | exact Ext.refl _ | assumption | refine Ext.alloc ?_ _ | refine Ext.drew ?_ | refine Ext.drewN ?_ _))⟩)
    | (refine bodyPost_ret (v := .agg #[.int .i64 0, .int .i64 1000, .slice none 0 0]) (by simp [results, Tryz.results33, go_sem]; done) rfl ⟨_, rfl, rnet_new (by simp only [NetS.new]; omega) (by simp only [NetS.new]; omega), (by repeat (first | exact Ext.refl _ | assumption | refine Ext.alloc ?_ _ | refine Ext.drew ?_ | refine Ext.drewN ?_ _))⟩)
    | (refine bodyPost_ret (v := .agg #[.int .i64 0, .int .i64 room, .slice none 0 0]) (by simp [results, Tryz.results33, go_sem]; done) rfl ⟨_, rfl, rnet_new (by simp only [NetS.new]; omega) (by simp only [NetS.new]; omega), (by repeat (first | exact Ext.refl _ | assumption | refine Ext.alloc ?_ _ | refine Ext.drew ?_ | refine Ext.drewN ?_ _))⟩)
    | (refine bodyPost_ret (v := .agg #[.int .i64 64, .int .i64 0, .slice none 0 0]) (by simp [results, Tryz.results33, go_sem]; done) rfl ⟨_, rfl, rnet_new (by simp only [NetS.new]; omega) (by simp only [NetS.new]; omega), (by repeat (first | exact Ext.refl _ | assumption | refine Ext.alloc ?_ _ | refine Ext.drew ?_ | refine Ext.drewN ?_ _))⟩)
    | (refine bodyPost_ret (v := .agg #[.int .i64 64, .int .i64 1000, .slice none 0 0]) (by simp [results, Tryz.results33, go_sem]; done) rfl ⟨_, rfl, rnet_new (by simp only [NetS.new]; omega) (by simp only [NetS.new]; omega), (by repeat (first | exact Ext.refl _ | assumption | refine Ext.alloc ?_ _ | refine Ext.drew ?_ | refine Ext.drewN ?_ _))⟩)
    | (refine bodyPost_ret (v := .agg #[.int .i64 64, .int .i64 room, .slice none 0 0]) (by simp [results, Tryz.results33, go_sem]; done) rfl ⟨_, rfl, rnet_new (by simp only [NetS.new]; omega) (by simp only [NetS.new]; omega), (by repeat (first | exact Ext.refl _ | assumption | refine Ext.alloc ?_ _ | refine Ext.drew ?_ | refine Ext.drewN ?_ _))⟩)
    | (refine bodyPost_ret (v := .agg #[.int .i64 n, .int .i64 0, .slice none 0 0]) (by simp [results, Tryz.results33, go_sem]; done) rfl ⟨_, rfl, rnet_new (by simp only [NetS.new]; omega) (by simp only [NetS.new]; omega), (by repeat (first | exact Ext.refl _ | assumption | refine Ext.alloc ?_ _ | refine Ext.drew ?_ | refine Ext.drewN ?_ _))⟩)
    | (refine bodyPost_ret (v := .agg #[.int .i64 n, .int .i64 1000, .slice none 0 0]) (by simp [results, Tryz.results33, go_sem]; done) rfl ⟨_, rfl, rnet_new (by simp only [NetS.new]; omega) (by simp only [NetS.new]; omega), (by repeat (first | exact Ext.refl _ | assumption | refine Ext.alloc ?_ _ | refine Ext.drew ?_ | refine Ext.drewN ?_ _))⟩)
    | (refine bodyPost_ret (v := .agg #[.int .i64 n, .int .i64 room, .slice none 0 0]) (by simp [results, Tryz.results33, go_sem]; done) rfl ⟨_, rfl, rnet_new (by simp only [NetS.new]; omega) (by simp only [NetS.new]; omega), (by repeat (first | exact Ext.refl _ | assumption | refine Ext.alloc ?_ _ | refine Ext.drew ?_ | refine Ext.drewN ?_ _))⟩))

set_option maxHeartbeats 800000 in
theorem refRow_any (F : Nat → Prop) (w : World) (v : Value) (S : NetS) (m : Nat) (h : RNet F w v S m) (a b : Int) :
    Calls Tryz.prog 27 #[v, .int .i64 a, .int .i64 b] w fun e w' => ∃ ao n c, e = .returned (.slice ao n c) ∧ Sa F w' (.slice ao n c) (S.f a b) ∧ Ext w w' := by
  obtain ⟨ao, n, c, L, rfl, ⟨ws, hs, h2⟩, h3, _, _⟩ := h
  have hL := h2.length
  rw [← h3 a b]
  clear h3
  have HW := Lib.hid h2
  have hlen := hs.1.length_le
  rcases hs.1.ways with ⟨h0, ao', c', hv⟩ | ⟨g, off, c', hv, hq1, hq2, hgl, hpos, hat⟩
  · simp only [Value.slice.injEq] at hv
    obtain ⟨rfl, rfl, rfl⟩ := hv
    subst h0
    have hL0 : L = [] := List.eq_nil_of_length_eq_zero (by rw [← hL]; rfl)
    subst hL0
    clear hs h2 hL hlen
    go_enter Tryz.func27, Tryz.ntmps27
    go_wp2
    refine wp_loop_rounds 1 ?_
    rw [rounds_succ]
    go_wp2
    go_ret
    exact ⟨_, _, _, rfl, Sa.nil F _, (by repeat (first | exact Ext.refl _ | assumption | refine Ext.alloc ?_ _ | refine Ext.drew ?_ | refine Ext.drewN ?_ _))⟩
  · simp only [Value.slice.injEq] at hv
    obtain ⟨rfl, rfl, rfl⟩ := hv
    have HAT := Lib.hid hat
    have HS := Lib.hid hs
    have HL := Lib.hid hL
    clear hs h2 hat hL
    go_enter Tryz.func27, Tryz.ntmps27
    go_wp2
    go_loopw [7] (fun i wr => ∃ k : Nat, k ≤ ws.length ∧ i = .int .i64 k ∧ Hid (rowL L a b = rowL (L.drop k) a b) ∧ Hid (Ext (w.alloc (.cells #[.int .i64 S.n, .int .i64 S.room, .slice (some ⟨g, off, none⟩) ws.length c] 33)) wr)) (fun i _ => ws.length - (intOf i).toNat)
    case atStart => exact ⟨0, Nat.zero_le _, rfl, Lib.hid rfl, Lib.hid (Ext.refl _)⟩
    case round =>
      obtain ⟨k, hk, rfl, HR, HX⟩ := hrel
      have hb := box1 (W := wr) (w := w) (HX.out.mono (by rw [size_alloc]; exact Nat.le_refl _))
      have z2 := blk_cell hb 2 rfl
      have hx : Ext w wr := Ext.trans ((Ext.refl w).alloc _) HX.out
      by_cases hlt : k < ws.length
      · obtain ⟨c0, c1, c2⟩ := HAT.out k hlt
        have hkL : k < L.length := by rw [← HL.out]; exact hlt
        have hr := HW.out.getD hlt dW dL
        have hd : L.drop k = L.getD k dL :: L.drop (k + 1) := by rw [List.drop_eq_getElem_cons hkL]; simp [hkL]
        have HD := Lib.hid hd
        obtain ⟨X, hX⟩ : ∃ X, X = ws.getD k dW := ⟨_, rfl⟩
        obtain ⟨Y, hY⟩ : ∃ Y, Y = L.getD k dL := ⟨_, rfl⟩
        rw [← hX] at c0 c1 c2 hr
        rw [← hY] at hr HD
        have d0 := (hx.cell (p := ⟨g, off + k * 3, none⟩) hgl).trans c0
        have d1 := (hx.cell (p := ⟨g, off + k * 3 + 1, none⟩) hgl).trans c1
        have d2 := (hx.cell (p := ⟨g, off + k * 3 + 2, none⟩) hgl).trans c2
        obtain ⟨xa, xb, xo, xn, xc⟩ := X
        obtain ⟨e1, e2, e3⟩ := hr
        dsimp only at e1 e2 d0 d1 d2
        rw [e1] at d0
        rw [e2] at d1
        have HE := Lib.hid (e3.ext hx)
        have HXX := Lib.hid hx
        have hkc : (k : Int) ≤ (c : Int) := by omega
        clear c0 c1 c2 hX hY hd e1 e2 e3 hx hb
        by_cases ha : Y.a = a
        · by_cases hbb : Y.b = b
          · have hrow : rowL L a b = Y.l := by rw [HR.out, HD.out]; unfold rowL; rw [if_pos ⟨ha, hbb⟩]
            have HROW := Lib.hid hrow
            clear hrow
            go_wp2
            go_ret
            exact ⟨_, _, _, rfl, by rw [HROW.out]; exact HE.out, HXX.out⟩
          · have hrow : rowL L a b = rowL (L.drop (k + 1)) a b := by rw [HR.out, HD.out]; conv => lhs; unfold rowL
                                                                     rw [if_neg (fun e => hbb e.2)]
            have HR2 := Lib.hid hrow
            clear hrow
            go_wp2
            exact ⟨⟨k + 1, hlt, by go_num, HR2, HX⟩, by simp [intOf]; omega⟩
        · have hrow : rowL L a b = rowL (L.drop (k + 1)) a b := by rw [HR.out, HD.out]; conv => lhs; unfold rowL
                                                                   rw [if_neg (fun e => ha e.1)]
          have HR2 := Lib.hid hrow
          clear hrow
          go_wp2
          exact ⟨⟨k + 1, hlt, by go_num, HR2, HX⟩, by simp [intOf]; omega⟩
      · have hkk : k = ws.length := by omega
        have hrow : rowL L a b = [] := by rw [HR.out, hkk, HL.out, List.drop_length]; rfl
        have HROW := Lib.hid hrow
        have HXX := Lib.hid hx
        clear hrow hb hx
        go_wp2
        go_ret
        exact ⟨_, _, _, rfl, by rw [HROW.out]; exact Sa.nil F _, HXX.out⟩

theorem two_iff {S : NetS} {a b : Int} : S.two a b = true ↔ 0 ≤ a ∧ a < S.n ∧ 0 ≤ b ∧ b < S.n ∧ a ≠ b := by
  unfold NetS.two
  simp only [Bool.and_eq_true, decide_eq_true_eq, and_assoc]
theorem two_no {S : NetS} {a b : Int} (h : ¬ (0 ≤ a ∧ a < S.n ∧ 0 ≤ b ∧ b < S.n ∧ a ≠ b)) : S.two a b = false := by
  rcases Bool.eq_false_or_eq_true (S.two a b) with h1 | h1
  · exact absurd (two_iff.1 h1) h
  · exact h1
theorem refNodes_any (F : Nat → Prop) (w : World) (v : Value) (S : NetS) (m : Nat) (h : RNet F w v S m) (a b : Int) :
    Calls Tryz.prog 71 #[v, .int .i64 a, .int .i64 b] w fun e w' => e = .returned (.bool (S.two a b)) ∧ Ext w w' := by
  obtain ⟨ao, n, c, L, rfl, _⟩ := h
  cases hr : S.two a b
  · have hn : ¬ (0 ≤ a ∧ a < S.n ∧ 0 ≤ b ∧ b < S.n ∧ a ≠ b) := fun h => by rw [two_iff.2 h] at hr; cases hr
    clear hr
    by_cases hab : a = b
    · subst hab
      go_enter Tryz.func71, Tryz.ntmps71
      go_wp2
      all_goals go_ret
      all_goals exact ⟨rfl, (by repeat (first | exact Ext.refl _ | assumption | refine Ext.alloc ?_ _ | refine Ext.drew ?_ | refine Ext.drewN ?_ _))⟩
    · go_enter Tryz.func71, Tryz.ntmps71
      go_wp2
      all_goals go_ret
      all_goals (first
        | exact ⟨rfl, (by repeat (first | exact Ext.refl _ | assumption | refine Ext.alloc ?_ _ | refine Ext.drew ?_ | refine Ext.drewN ?_ _))⟩
        | (exfalso; omega))
  · obtain ⟨h1, h2, h3, h4, h5⟩ := two_iff.1 hr
    clear hr
    go_enter Tryz.func71, Tryz.ntmps71
    go_wp2
    go_ret
    exact ⟨ret_bool (by simpa using h5), (by repeat (first | exact Ext.refl _ | assumption | refine Ext.alloc ?_ _ | refine Ext.drew ?_ | refine Ext.drewN ?_ _))⟩

set_option maxHeartbeats 800000 in
theorem refWith_any (F : Nat → Prop) (w : World) (hF : ∀ k, F k → k < w.heap.size) (v : Value) (S : NetS) (m : Nat) (h : RNet F w v S m) (hm : m ≤ 5000) (a b : Int) (ol : Option Addr) (nl cl : Nat) (l : List ByteArray) (hl : Sa F w (.slice ol nl cl) l) :
    Calls Tryz.prog 72 #[v, .int .i64 a, .int .i64 b, .slice ol nl cl] w fun e w' => ∃ v', e = .returned v' ∧ RNet F w' v' (S.put a b l) (m + 1) ∧ Ext w w' := by
  obtain ⟨ao, n, c, L, rfl, ⟨ws, hs, h2⟩, h3, h4, h5⟩ := h
  have hL := h2.length
  have HW := Lib.hid h2
  have HS := Lib.hid hs
  have HL := Lib.hid hL
  have H3 := Lib.hid h3
  have H4 := Lib.hid h4
  have HLL := Lib.hid hl
  have HFF := Lib.hid hF
  have hws : ws.length ≤ 5000 := by omega
  have HLM := Lib.hid h5
  clear h2 hL h3 h4 hl hF h5
  obtain ⟨ao', c', hv⟩ := hs.1.len
  simp only [Value.slice.injEq] at hv
  obtain ⟨rfl, rfl, rfl⟩ := hv
  clear hs
  go_enter Tryz.func72, Tryz.ntmps72
  go_wp2
  go_loopw [9, 10] (fun o i wr => ∃ (k : Nat) (os : List WayV), k ≤ ws.length ∧ os.length ≤ k + 1 ∧ i = .int .i64 k ∧ (∃ ao n c, o = .slice ao n c) ∧ Hid (Ow wr (w.heap.size + 2) o os) ∧ Hid (All2 (WayAt F w) os (⟨a, b, l⟩ :: (L.take k).filter (other a b))) ∧
      Hid (Below (w.heap.size + 2) ((w.alloc (.cells #[.int .i64 S.n, .int .i64 S.room, .slice ao ws.length c] 33)).alloc (.cells #[.int .i64 0, .int .i64 0, .slice none 0 0] 33)) wr)) (fun _ i _ => ws.length - (intOf i).toNat)
  case atStart =>
    refine ⟨0, [WayV.mk a b ol nl cl], Nat.zero_le _, Nat.le_refl _, rfl, ⟨_, _, _, rfl⟩, Lib.hid (Ow.litAt _ _ _ (by simp) (by simp) [WayV.mk a b ol nl cl] (by simp)), Lib.hid ?_, Lib.hid (below_alloc_at (Below.refl _ _) (by simp) _)⟩
    rw [List.take_zero]
    exact .cons ⟨rfl, rfl, HLL.out⟩ .nil
  case round =>
    obtain ⟨k, os, hk, hos, rfl, ⟨ao2, n2, c2, rfl⟩, HO, HA, HX⟩ := hrel
    have hb := box2 HX.out
    have z2 := blk_cell hb.1 2 rfl
    have z2a := blk_cell hb.1 0 rfl
    have z2b := blk_cell hb.1 1 rfl
    have z3 := blk_free hb.1 2
    have z4 := blk_free hb.2 0
    have z5 := blk_free hb.2 1
    have z6 := blk_free hb.2 2
    have y0 := blk_cell hb.2 0 rfl
    have y1 := blk_cell hb.2 1 rfl
    have y2 := blk_cell hb.2 2 rfl
    have hx : Ext w wr := ext_of_below HX.out (by simp) (((Ext.refl w).alloc _).alloc _)
    by_cases hlt : k < ws.length
    · rcases HS.out.1.ways with ⟨h0, _⟩ | ⟨g, off, c', hv, hq1, hq2, hgl, hpos, hat⟩
      · rw [h0] at hlt; simp at hlt
      simp only [Value.slice.injEq] at hv
      obtain ⟨rfl, _, rfl⟩ := hv
      obtain ⟨c0, c1, c2'⟩ := hat k hlt
      have hkL : k < L.length := by rw [← HL.out]; exact hlt
      have hr := HW.out.getD hlt dW dL
      have ht : L.take (k + 1) = L.take k ++ [L.getD k dL] := by rw [List.take_succ_eq_append_getElem hkL]; simp [hkL]
      have HT := Lib.hid ht
      obtain ⟨X, hX⟩ : ∃ X, X = ws.getD k dW := ⟨_, rfl⟩
      obtain ⟨Y, hY⟩ : ∃ Y, Y = L.getD k dL := ⟨_, rfl⟩
      rw [← hX] at c0 c1 c2' hr
      rw [← hY] at hr HT
      have d0 := (hx.cell (p := ⟨g, off + k * 3, none⟩) hgl).trans c0
      have d1 := (hx.cell (p := ⟨g, off + k * 3 + 1, none⟩) hgl).trans c1
      have d2 := (hx.cell (p := ⟨g, off + k * 3 + 2, none⟩) hgl).trans c2'
      obtain ⟨xa, xb, xo, xn, xc⟩ := X
      obtain ⟨e1, e2, e3⟩ := hr
      dsimp only at e1 e2 d0 d1 d2
      subst e1
      subst e2
      have HE := Lib.hid e3
      have hkc : (k : Int) ≤ (c : Int) := by omega
      have hs0 := HX.out.size
      rw [size_alloc, size_alloc] at hs0
      clear c0 c1 c2' hX hY ht e3 hx hb hat hq1
      by_cases ho : Y.a = a ∧ Y.b = b
      · have hf : (L.take (k + 1)).filter (other a b) = (L.take k).filter (other a b) := by
          rw [HT.out, List.filter_append, List.filter_cons_of_neg (by rw [other_iff]; exact fun e => e ho)]
          simp
        have HA2 : Hid (All2 (WayAt F w) os (⟨a, b, l⟩ :: (L.take (k + 1)).filter (other a b))) := Lib.hid (by rw [hf]; exact HA.out)
        obtain ⟨o1, o2⟩ := ho
        clear hf
        go_wp2
        exact ⟨⟨k + 1, os, hlt, by omega, by go_num, ⟨_, _, _, rfl⟩, HO, HA2, HX⟩, by simp [intOf]; omega⟩
      · have hf : (L.take (k + 1)).filter (other a b) = (L.take k).filter (other a b) ++ [Y] := by
          rw [HT.out, List.filter_append, List.filter_cons_of_pos (other_iff.2 ho)]
          rfl
        have HA2 : Hid (All2 (WayAt F w) (os ++ [WayV.mk Y.a Y.b xo xn xc]) (⟨a, b, l⟩ :: (L.take (k + 1)).filter (other a b))) := Lib.hid (by
          rw [hf]
          exact HA.out.append (.cons ⟨rfl, rfl, HE.out⟩ .nil))
        clear hf
        have o1 : (Y.a = a ∧ ¬ Y.b = b) ∨ ¬ Y.a = a := by
          by_cases h1 : Y.a = a
          · exact .inl ⟨h1, fun h2 => ho ⟨h1, h2⟩⟩
          · exact .inr h1
        clear ho
        rcases o1 with ⟨o1, o2⟩ | o1
        · subst o1
          go_wp2_with ((at_builtin; refine wpList_append_sl (α := WayV) rfl (.tmp 41) (.tmp 47) rfl (w.heap.size + 2) _ os rfl ?_ (.slice (some ⟨_, 0, none⟩) 1 1) [WayV.mk Y.a Y.b xo xn xc] rfl ?_ ?_ ?_ ?_; exact (HO.out.alloc _); exact (Sl.litAt wr _ rfl [WayV.mk Y.a Y.b xo xn xc] (by simp)); (first | omega | (simp; omega)); (rw [size_alloc]; omega); intro v2 W2 ho2 ha2; have O2 := Lib.hid ho2; have Y2 := Lib.hid (Below.trans (HX.out.alloc (by omega) _) ha2.below); obtain ⟨a2, n2, c2, rfl⟩ := ho2.sh; clear ho2 ha2))
          exact ⟨⟨k + 1, os ++ [WayV.mk Y.a Y.b xo xn xc], hlt, by simp; omega, by go_num, ⟨_, _, _, rfl⟩, O2, HA2, Y2⟩, by simp [intOf]; omega⟩
        · go_wp2_with ((at_builtin; refine wpList_append_sl (α := WayV) rfl (.tmp 41) (.tmp 47) rfl (w.heap.size + 2) _ os rfl ?_ (.slice (some ⟨_, 0, none⟩) 1 1) [WayV.mk Y.a Y.b xo xn xc] rfl ?_ ?_ ?_ ?_; exact (HO.out.alloc _); exact (Sl.litAt wr _ rfl [WayV.mk Y.a Y.b xo xn xc] (by simp)); (first | omega | (simp; omega)); (rw [size_alloc]; omega); intro v2 W2 ho2 ha2; have O2 := Lib.hid ho2; have Y2 := Lib.hid (Below.trans (HX.out.alloc (by omega) _) ha2.below); obtain ⟨a2, n2, c2, rfl⟩ := ho2.sh; clear ho2 ha2))
          exact ⟨⟨k + 1, os ++ [WayV.mk Y.a Y.b xo xn xc], hlt, by simp; omega, by go_num, ⟨_, _, _, rfl⟩, O2, HA2, Y2⟩, by simp [intOf]; omega⟩
    · have hkk : k = ws.length := by omega
      have hA := HA.out
      rw [hkk, HL.out, List.take_length] at hA
      have HA2 := Lib.hid hA
      have HXX := Lib.hid hx
      have HB := Lib.hid hb
      clear hA hx hb HA
      have Y0 := Lib.hid (And.intro y0 (And.intro y1 y2))
      go_wp2
      refine bodyPost_ret (v := .agg #[.int .i64 S.n, .int .i64 S.room, .slice ao2 n2 c2]) (by simp [results, Tryz.results72, go_sem, y0, y1, y2]) rfl
        ⟨_, rfl, ⟨ao2, n2, c2, withL L a b l, rfl, ⟨os, ⟨?_, ?_⟩, ?_⟩, ?_, H4.out.with a b l, ?_⟩, ?_⟩
      · exact (((((HO.out.set (by simp) _).set (by simp) _).set (by simp) _).set (by simp) _)).sl
      · exact .inr fun b' hb' hf => by have := (HO.out.low b' hb').1; have := HFF.out b' hf; omega
      · exact HA2.out.mono fun _ _ h => h.ext (below_set (below_set (below_set (below_set HXX.out (by simp) _) (by simp) _) (by simp) _) (by simp) _)
      · intro x y
        rw [rowL_with, H3.out]
        rfl
      · unfold withL
        have := List.length_filter_le (other a b) L
        have := HLM.out
        rw [List.length_cons]
        omega
      · exact below_set (below_set (below_set (below_set HXX.out (by simp) _) (by simp) _) (by simp) _) (by simp) _
end Go.Proofs.YtlakolkpfkakoaaGreatDoor

/- The document's nets: look, send. -/
namespace Go.Proofs.YtlakolkpfkakoaaGreatDoor
open Go.RowKit

theorem there_iff {S : NetS} {a b k : Int} : S.there a b k = true ↔ 0 ≤ k ∧ k < ((S.f a b).length : Int) := by
  unfold NetS.there
  simp only [Bool.and_eq_true, decide_eq_true_eq]
theorem may_iff {S : NetS} {a b : Int} : S.may a b = true ↔ S.two a b = true ∧ (S.f a b).length < S.room := by
  unfold NetS.may
  simp only [Bool.and_eq_true, decide_eq_true_eq]
theorem refRow_len (F : Nat → Prop) (w : World) (v : Value) (S : NetS) (m : Nat) (h : RNet F w v S m) (a b : Int) (l : List ByteArray) (hl : S.f a b = l) :
    Calls Tryz.prog 27 #[v, .int .i64 a, .int .i64 b] w fun e w' => ∃ ao c, e = .returned (.slice ao l.length c) ∧ Sa F w' (.slice ao l.length c) l ∧ Ext w w' := by
  refine (refRow_any F w v S m h a b).mono ?_
  rintro e w' ⟨ao, n, c, rfl, hs, x⟩
  rw [hl] at hs
  obtain ⟨ao', c', hv⟩ := hs.1.len
  simp only [Value.slice.injEq] at hv
  obtain ⟨rfl, rfl, rfl⟩ := hv
  exact ⟨_, _, rfl, hs, x⟩

set_option maxHeartbeats 800000 in
theorem refLook_any (F : Nat → Prop) (w : World) (v : Value) (S : NetS) (m : Nat) (h : RNet F w v S m) (a b k : Int) :
    Calls Tryz.prog 29 #[v, .int .i64 a, .int .i64 b, .int .i64 k] w fun e w' => e = .returned (.tuple #[.string (S.look a b k), .bool (S.there a b k)]) ∧ Ext w w' := by
  have cR := Lib.hid (fun W (x : Ext w W) => refRow_len F W v S m (h.ext x) a b _ rfl)
  obtain ⟨ao, n, c, L, rfl, _⟩ := h
  cases hr : S.there a b k
  · have hn : ¬ (0 ≤ k ∧ k < ((S.f a b).length : Int)) := fun h => by rw [there_iff.2 h] at hr; cases hr
    have HL := Lib.hid (show S.look a b k = ⟨#[]⟩ by unfold NetS.look; rw [if_neg (by rw [hr]; decide)])
    clear hr
    obtain ⟨l, hl⟩ : ∃ l, l = S.f a b := ⟨_, rfl⟩
    rw [← hl] at cR hn
    clear hl
    by_cases hk : k < 0
    all_goals
      go_enter Tryz.func29, Tryz.ntmps29
      go_wp2_with (first
        | (go_at_call 27; refine (cR.out _ (by repeat (first | exact Ext.refl _ | assumption | refine Ext.alloc ?_ _ | refine Ext.drew ?_ | refine Ext.drewN ?_ _))).mono ?_; rintro e w2 ⟨a2, c2, rfl, _, x2⟩; have Y2 := Lib.hid (Ext.trans ((Ext.refl w).alloc _) x2); clear x2))
      go_ret2
      exact ⟨by rw [HL.out]; rfl, Y2.out⟩
  · obtain ⟨h0, h1⟩ := there_iff.1 hr
    have HL := Lib.hid (show S.look a b k = (S.f a b).getD k.toNat ⟨#[]⟩ by unfold NetS.look; rw [if_pos hr])
    clear hr
    obtain ⟨l, hl⟩ : ∃ l, l = S.f a b := ⟨_, rfl⟩
    rw [← hl] at cR h1 HL
    clear hl
    obtain ⟨i, rfl⟩ := Int.eq_ofNat_of_zero_le h0
    rw [Int.toNat_natCast] at HL
    obtain ⟨t, ht⟩ : ∃ t, t = l.getD i ⟨#[]⟩ := ⟨_, rfl⟩
    rw [← ht] at HL
    have HT := Lib.hid ht
    clear ht
    go_enter Tryz.func29, Tryz.ntmps29
    go_wp2_with (first
      | (go_at_call 27; refine (cR.out _ (by repeat (first | exact Ext.refl _ | assumption | refine Ext.alloc ?_ _ | refine Ext.drew ?_ | refine Ext.drewN ?_ _))).mono ?_; rintro e w2 ⟨a2, c2, rfl, hs2, x2⟩; have Y2 := Lib.hid (Ext.trans ((Ext.refl w).alloc _) x2); have hv2 := hs2.1.texts; rcases hv2 with ⟨h9, _⟩ | ⟨g, off, c', hv, q1, q2, q3, q4, q5⟩; (rw [h9] at h1; simp at h1; omega); simp only [Value.slice.injEq] at hv; obtain ⟨rfl, _, rfl⟩ := hv; have kc := q5 i (by omega); rw [← HT.out] at kc; clear x2 hs2 q5))
    go_ret2
    exact ⟨by rw [HL.out]; rfl, Y2.out⟩
theorem three_at {w W : World} {v0 v1 v2 : Value} {t : TypeId} (n : Nat) (hn : n = w.heap.size) (x : Ext (w.alloc (.cells #[v0, v1, v2] t)) W) : W.cell? ⟨n, 0, none⟩ = some v0 ∧ W.cell? ⟨n, 1, none⟩ = some v1 ∧ W.cell? ⟨n, 2, none⟩ = some v2 := by
  subst hn
  exact ⟨cell_at W x rfl, cell_at W x rfl, cell_at W x rfl⟩
theorem cells3 {W : World} {g : Nat} {v0 v1 v2 : Value} {t : TypeId} (h : W.heap[g]? = some (.cells #[v0, v1, v2] t (0, 0))) :
    (W.cell? ⟨g, 0, none⟩ = some v0 ∧ W.cell? ⟨g, 1, none⟩ = some v1 ∧ W.cell? ⟨g, 2, none⟩ = some v2) ∧ (W.frozen? ⟨g, 0, none⟩ = false ∧ W.frozen? ⟨g, 1, none⟩ = false ∧ W.frozen? ⟨g, 2, none⟩ = false) :=
  ⟨⟨blk_cell h 0 rfl, blk_cell h 1 rfl, blk_cell h 2 rfl⟩, blk_free h 0, blk_free h 1, blk_free h 2⟩
def put3 (W : World) (g : Nat) (u0 u1 u2 : Value) : World := ((W.setCell ⟨g, 0, none⟩ u0).setCell ⟨g, 1, none⟩ u1).setCell ⟨g, 2, none⟩ u2
theorem put3_blk {W : World} {g : Nat} {v0 v1 v2 : Value} {t : TypeId} (h : W.heap[g]? = some (.cells #[v0, v1, v2] t (0, 0))) (u0 u1 u2 : Value) : (put3 W g u0 u1 u2).heap[g]? = some (.cells #[u0, u1, u2] t (0, 0)) := by
  have h2 := blk_set (blk_set (blk_set h 0 u0) 1 u1) 2 u2
  simpa [put3] using h2
theorem put3_below {B : Nat} {w W : World} {g : Nat} (x : Below B w W) (hg : B ≤ g) (u0 u1 u2 : Value) : Below B w (put3 W g u0 u1 u2) := below_set (below_set (below_set x hg _) hg _) hg _

theorem off_put3 (W : World) (g : Nat) (u0 u1 u2 : Value) : Off (fun k => k = g) W (put3 W g u0 u1 u2) :=
  ((off_set W ⟨g, 0, none⟩ u0).trans (off_set _ ⟨g, 1, none⟩ u1) (Grows.refl _ _)).trans (off_set _ ⟨g, 2, none⟩ u2) (Grows.refl _ _)
theorem RNet.stored {F : Nat → Prop} {W : World} {v : Value} {S : NetS} {m B : Nat} (h : RNet (fun k => F k ∨ (B ≤ k ∧ k < B + 2)) W v S m) (u0 u1 u2 : Value) : RNet F (put3 W (B + 1) u0 u1 u2) v S m :=
  h.off ((off_put3 W (B + 1) u0 u1 u2).mono fun k e => .inr (by omega)) fun _ hk => .inl (.inl hk)
theorem three_below {V W : World} {v0 v1 v2 : Value} {t : TypeId} (n B : Nat) (hn : n < B) (x : V.heap[n]? = some (.cells #[v0, v1, v2] t)) (y : Below B V W) : W.heap[n]? = some (.cells #[v0, v1, v2] t) := (y.block n hn).trans x

set_option maxHeartbeats 1600000 in
theorem refSend_yes (F : Nat → Prop) (w : World) (hF : ∀ k, F k → k < w.heap.size) (v : Value) (S : NetS) (m : Nat) (h : RNet F w v S m) (hm : m ≤ 5000) (ok : S.Ok) (a b : Int) (s : ByteArray) (hr : S.may a b = true) :
    Calls Tryz.prog 44 #[v, .int .i64 a, .int .i64 b, .string s] w fun e w' => ∃ v', e = .returned (.tuple #[v', .bool true]) ∧ RNet F w' v' (S.put a b (S.f a b ++ [s])) (m + 1) ∧ Ext w w' := by
  obtain ⟨h1, h2⟩ := may_iff.1 hr
  have h3 := ok.few a b
  have h4 := ok.rooms
  have cN := fun W (x : Ext w W) => refNodes_any F W v S m (h.ext x) a b
  rw [h1] at cN
  replace cN := Lib.hid cN
  have cR := Lib.hid (fun W (x : Ext w W) => refRow_len F W v S m (h.ext x) a b _ rfl)
  have cW := Lib.hid (fun W (x : Ext w W) (hW : w.heap.size + 2 ≤ W.heap.size) ol nl cl (hl : Sa (fun k => F k ∨ (w.heap.size ≤ k ∧ k < w.heap.size + 2)) W (.slice ol nl cl) (S.f a b ++ [s])) => refWith_any (fun k => F k ∨ (w.heap.size ≤ k ∧ k < w.heap.size + 2)) W (fun k hk => by rcases hk with hk | hk; (have := hF k hk; have := x.size; omega); omega) v S m ((h.wide (fun k h1 h2 => by rcases h2 with h2 | h2; exact h2; omega)).ext x) hm a b ol nl cl (S.f a b ++ [s]) hl)
  have HF := Lib.hid hF
  obtain ⟨ao, n, c, L, rfl, _⟩ := h
  obtain ⟨l, hl⟩ : ∃ l, l = S.f a b := ⟨_, rfl⟩
  rw [← hl] at cR cW h2 h3 ⊢
  clear hl hr h1 hF
  have hn : ¬ (S.room : Int) ≤ (l.length : Int) := by omega
  go_enter Tryz.func44, Tryz.ntmps44
  go_wp2_with (first
    | (go_at_call 27; refine (cR.out _ (by repeat (first | exact Ext.refl _ | assumption | refine Ext.alloc ?_ _ | refine Ext.drew ?_ | refine Ext.drewN ?_ _))).mono ?_; rintro e w2 ⟨a2, c2, rfl, hs2, x2⟩; have X2 := Lib.hid x2; have HS2 := Lib.hid hs2; have k2 := three_at w.heap.size rfl (Ext.trans ((Ext.refl _).alloc _) x2); clear x2 hs2)
    | (go_at_call 71; refine (cN.out _ (Ext.trans (((Ext.refl w).alloc _).alloc _) X2.out)).mono ?_; rintro e w3 ⟨rfl, x3⟩; have X3 := Lib.hid (Ext.trans X2.out x3); have HS3 := Lib.hid (HS2.out.ext x3); have k3 := three_at w.heap.size rfl (Ext.trans ((Ext.refl _).alloc _) X3.out); clear x3))
  clear k2
  have HK : Hid (∀ W, Below (w.heap.size + 1) w3 W → W.cell? ⟨w.heap.size, 0, none⟩ = some (.int .i64 S.n) ∧ W.cell? ⟨w.heap.size, 1, none⟩ = some (.int .i64 S.room) ∧ W.cell? ⟨w.heap.size, 2, none⟩ = some (.slice ao n c)) := Lib.hid (fun W y => by
    have hb := (box2 (W := w3) (w := w) (X3.out.mono (by simp))).1
    have hb2 := (y.block w.heap.size (by omega)).trans hb
    exact ⟨blk_cell hb2 0 rfl, blk_cell hb2 1 rfl, blk_cell hb2 2 rfl⟩)
  have hs3 := X3.out.size
  rw [size_alloc, size_alloc] at hs3
  (refine wp_region_X_lit (K := fun W => W.cell? ⟨w.heap.size, 0, none⟩ = some (.int .i64 S.n) ∧ W.cell? ⟨w.heap.size, 1, none⟩ = some (.int .i64 S.room) ∧ W.cell? ⟨w.heap.size, 2, none⟩ = some (.slice ao n c)) (by kernel_rfl) (fun w1 hw1 => ?_))
  have HS4 := Lib.hid (HS3.out.ext hw1)
  have Y4 := Lib.hid (Below.mono hw1 hs3)
  have hs4 := hw1.size
  clear hw1
  refine xtv 0 (hv := by intro w' hw'; obtain ⟨q0, q1, q2⟩ := hw'; go_simp; first | done | with_reducible rfl) (h := ?_)
  refine xtv 1 (h := ?_)
  refine xtv 2 (h := ?_)
  refine xtv 4 (h := ?_)
  refine xtv 6 (h := ?_)
  refine xtwo 3 7 (hk := HK.out _ (Y4.out.mono (Nat.le_succ _))) (h := RunX.of 3 (h := ?_)) (h' := RunX.of 7 (h := ?_))
  focus
    go_simp
    (try (simp only [Act.put, List.setIfInBounds_toArray, List.set]))
    have o3 : Ow (w1.alloc (.cells #[] 9)) (w.heap.size + 2) (.slice (some ⟨w1.heap.size, 0, none⟩) 0 0) ([] : List ByteArray) := Ow.litAt w1 _ _ rfl (by (first | omega | (have q5 := z5.out; omega) | (have q7 := z7.out; omega) | (have q5 := z5.out; have q7 := z7.out; omega))) [] (by simp)
    have y5 := Y4.out.alloc (by (first | omega | (have q5 := z5.out; omega) | (have q7 := z7.out; omega) | (have q5 := z5.out; have q7 := z7.out; omega))) (.cells #[] 9)
    have h5 := HS4.out.1.alloc (.cells #[] 9)
    have z5 := size_alloc w1 (.cells #[] 9)
    obtain ⟨wA, hA⟩ : ∃ wA, wA = w1.alloc (.cells #[] 9) := ⟨_, rfl⟩
    rw [← hA] at o3 y5 h5 z5 ⊢
    clear hA
    replace z5 := Lib.hid z5
    have O3 := Lib.hid o3
    have Y5 := Lib.hid y5
    have H5 := Lib.hid h5
    clear o3 y5 h5
    refine xtwo 5 7 (hk := HK.out _ (Y5.out.mono (Nat.le_succ _))) (h := RunX.of 5 (h := ?_)) (h' := RunX.of 7 (h := ?_))
    focus
      (refine wp_append_sl (α := ByteArray) (.tmp 31) (.tmp 32) rfl (w.heap.size + 2) (.slice (some ⟨w1.heap.size, 0, none⟩) 0 0) [] rfl ?_ _ l rfl ?_ ?_ ?_ ?_; exact O3.out; exact H5.out; (first | omega | (simp; omega)); (first | omega | (have q5 := z5.out; omega) | (have q7 := z7.out; omega) | (have q5 := z5.out; have q7 := z7.out; omega)); intro v6 w6 ho6 ha6; have O6 := Lib.hid ho6; have Y6 := Lib.hid (Y5.out.trans ha6.below); obtain ⟨a6, n6, c6, rfl⟩ := ho6.sh; have hs6 := ha6.below.size; clear ho6 ha6)
      (try (simp only [Act.put, List.setIfInBounds_toArray, List.set]))
      refine xone 7 (hk := HK.out _ (Y6.out.mono (Nat.le_succ _))) (h := RunX.of 7 (h := ?_))
      go_simp
      (try (simp only [Act.put, List.setIfInBounds_toArray, List.set]))
      have O7 := Lib.hid (O6.out.alloc (.cells #[.string s] 9))
      have L7 := Lib.hid (Sl.litAt w6 _ rfl [s] (by simp))
      have Y7 := Lib.hid (Y6.out.alloc (by (first | omega | (have q5 := z5.out; omega) | (have q7 := z7.out; omega) | (have q5 := z5.out; have q7 := z7.out; omega))) (.cells #[.string s] 9))
      clear O6 Y6 H5 O3 Y5
    rotate_left
    focus
      go_simp
      (try (simp only [Act.put, List.setIfInBounds_toArray, List.set]))
      have l7 : Sl (wA.alloc (.cells #[.string s] 9)) (.slice (some ⟨wA.heap.size, 0, none⟩) 1 1) [s] := Sl.litAt wA _ rfl [s] (by simp)
      have o7 := O3.out.alloc (.cells #[.string s] 9)
      have y7 := Y5.out.alloc (by (first | omega | (have q5 := z5.out; omega) | (have q7 := z7.out; omega) | (have q5 := z5.out; have q7 := z7.out; omega))) (.cells #[.string s] 9)
      have h7 := H5.out.alloc (.cells #[.string s] 9)
      have z7 := size_alloc wA (.cells #[.string s] 9)
      obtain ⟨wB, hB⟩ : ∃ wB, wB = wA.alloc (.cells #[.string s] 9) := ⟨_, rfl⟩
      rw [← hB] at l7 o7 y7 h7 z7 ⊢
      clear hB
      replace z7 := Lib.hid z7
      have L5 := Lib.hid l7
      have O5 := Lib.hid o7
      have Y6 := Lib.hid y7
      have H6 := Lib.hid h7
      clear l7 o7 y7 h7
      refine xone 5 (hk := HK.out _ (Y6.out.mono (Nat.le_succ _))) (h := RunX.of 5 (h := ?_))
      (refine wp_append_sl (α := ByteArray) (.tmp 31) (.tmp 32) rfl (w.heap.size + 2) (.slice (some ⟨w1.heap.size, 0, none⟩) 0 0) [] rfl ?_ _ l rfl ?_ ?_ ?_ ?_; exact O5.out; exact H6.out; (first | omega | (simp; omega)); (first | omega | (have q5 := z5.out; omega) | (have q7 := z7.out; omega) | (have q5 := z5.out; have q7 := z7.out; omega)); intro v6 w6 ho6 ha6; have O7 := Lib.hid ho6; have Y7 := Lib.hid (Y6.out.trans ha6.below); have L7 := Lib.hid (L5.out.grown ha6.grown (.inl (by have q5 := z5.out; have q7 := z7.out; simp [Value.ownBlock]; omega))); obtain ⟨a6, n6, c6, rfl⟩ := ho6.sh; have hs6 := ha6.below.size; clear ho6 ha6)
      (try (simp only [Act.put, List.setIfInBounds_toArray, List.set]))
      clear O5 Y6 H6 L5 H5 O3 Y5
  rotate_left 2
  focus
    go_simp
    (try (simp only [Act.put, List.setIfInBounds_toArray, List.set]))
    have l7 : Sl (w1.alloc (.cells #[.string s] 9)) (.slice (some ⟨w1.heap.size, 0, none⟩) 1 1) [s] := Sl.litAt w1 _ rfl [s] (by simp)
    have y7 := Y4.out.alloc (by (first | omega | (have q5 := z5.out; omega) | (have q7 := z7.out; omega) | (have q5 := z5.out; have q7 := z7.out; omega))) (.cells #[.string s] 9)
    have h7 := HS4.out.1.alloc (.cells #[.string s] 9)
    have z7 := size_alloc w1 (.cells #[.string s] 9)
    obtain ⟨wA, hA⟩ : ∃ wA, wA = w1.alloc (.cells #[.string s] 9) := ⟨_, rfl⟩
    rw [← hA] at l7 y7 h7 z7 ⊢
    clear hA
    replace z7 := Lib.hid z7
    have L5 := Lib.hid l7
    have Y5 := Lib.hid y7
    have H5 := Lib.hid h7
    clear l7 y7 h7
    refine xone 3 (hk := HK.out _ (Y5.out.mono (Nat.le_succ _))) (h := RunX.of 3 (h := ?_))
    go_simp
    (try (simp only [Act.put, List.setIfInBounds_toArray, List.set]))
    have o3 : Ow (wA.alloc (.cells #[] 9)) (w.heap.size + 2) (.slice (some ⟨wA.heap.size, 0, none⟩) 0 0) ([] : List ByteArray) := Ow.litAt wA _ _ rfl (by (first | omega | (have q5 := z5.out; omega) | (have q7 := z7.out; omega) | (have q5 := z5.out; have q7 := z7.out; omega))) [] (by simp)
    have y5 := Y5.out.alloc (by (first | omega | (have q5 := z5.out; omega) | (have q7 := z7.out; omega) | (have q5 := z5.out; have q7 := z7.out; omega))) (.cells #[] 9)
    have h5 := H5.out.alloc (.cells #[] 9)
    have l5 := L5.out.alloc (.cells #[] 9)
    have z5 := size_alloc wA (.cells #[] 9)
    obtain ⟨wB, hB⟩ : ∃ wB, wB = wA.alloc (.cells #[] 9) := ⟨_, rfl⟩
    rw [← hB] at o3 y5 h5 z5 l5 ⊢
    clear hB
    replace z5 := Lib.hid z5
    have O3 := Lib.hid o3
    have Y6 := Lib.hid y5
    have H6 := Lib.hid h5
    have L6 := Lib.hid l5
    clear o3 y5 h5 l5
    refine xone 5 (hk := HK.out _ (Y6.out.mono (Nat.le_succ _))) (h := RunX.of 5 (h := ?_))
    (refine wp_append_sl (α := ByteArray) (.tmp 31) (.tmp 32) rfl (w.heap.size + 2) (.slice (some ⟨wA.heap.size, 0, none⟩) 0 0) [] rfl ?_ _ l rfl ?_ ?_ ?_ ?_; exact O3.out; exact H6.out; (first | omega | (simp; omega)); (first | omega | (have q5 := z5.out; omega) | (have q7 := z7.out; omega) | (have q5 := z5.out; have q7 := z7.out; omega)); intro v6 w6 ho6 ha6; have O7 := Lib.hid ho6; have Y7 := Lib.hid (Y6.out.trans ha6.below); have L7 := Lib.hid (L6.out.grown ha6.grown (.inl (by have q5 := z5.out; have q7 := z7.out; simp [Value.ownBlock]; omega))); obtain ⟨a6, n6, c6, rfl⟩ := ho6.sh; have hs6 := ha6.below.size; clear ho6 ha6)
    (try (simp only [Act.put, List.setIfInBounds_toArray, List.set]))
    clear Y6 H6 L5 L6 H5 O3 Y5
  all_goals
    refine xone 8 (hk := HK.out _ (Y7.out.mono (Nat.le_succ _))) (h := RunX.of 8 (h := ?_))
    (refine wp_append_sl (α := ByteArray) (.tmp 33) (.tmp 35) rfl (w.heap.size + 2) _ ([] ++ l) rfl ?_ (.slice (some ⟨_, 0, none⟩) 1 1) [s] rfl ?_ ?_ ?_ ?_; exact O7.out; exact L7.out; (first | omega | (simp; omega)); (have := Y7.out.size; omega); intro v8 w8 ho8 ha8; have O8 := Lib.hid ho8; have Y8 := Lib.hid (Y7.out.trans ha8.below); obtain ⟨a8, n8, c8, rfl⟩ := ho8.sh; clear ho8 ha8)
    (try (simp only [Act.put, List.setIfInBounds_toArray, List.set]))
    refine xone 9 (hk := HK.out _ (Y8.out.mono (Nat.le_succ _))) (h := RunX.of 9 (h := ?_))
    go_simp
    refine (cW.out w8 (ext_of_below Y8.out (by omega) (Ext.trans (((Ext.refl w).alloc _).alloc _) X3.out)) (by have := Y8.out.size; omega) a8 n8 c8 (Sa.new O8.out (fun k hk => by rcases hk with hk | hk; (have := HF.out k hk; omega); omega))).mono ?_
    rintro e w9 ⟨v9, rfl, r9, x9⟩
    have R9 := Lib.hid r9
    obtain ⟨ao9, n9, c9, L9, rfl, _⟩ := r9
    have Y9 := Lib.hid (Y8.out.trans (x9.mono (by have := Y8.out.size; omega)))
    clear x9
    dsimp only
    (try (simp only [Act.put, List.setIfInBounds_toArray, List.set]))
    have hb9 := three_below _ (w.heap.size + 2) (by omega) (box2 (W := w3) (w := w) (X3.out.mono (by simp))).2 Y9.out
    obtain ⟨k9, f9⟩ := cells3 hb9
    refine xone 10 (hk := HK.out _ (Y9.out.mono (Nat.le_succ _))) (h := RunX.of 10 (h := ?_))
    go_simp
    have z := put3_blk hb9 (.int .i64 ((S.put a b (l ++ [s])).n : Int)) (.int .i64 ((S.put a b (l ++ [s])).room : Int)) (.slice ao9 n9 c9)
    have y10 := put3_below (Y9.out.mono (Nat.le_succ _)) (Nat.le_refl _) (.int .i64 ((S.put a b (l ++ [s])).n : Int)) (.int .i64 ((S.put a b (l ++ [s])).room : Int)) (.slice ao9 n9 c9)
    have r10 := R9.out.stored (.int .i64 ((S.put a b (l ++ [s])).n : Int)) (.int .i64 ((S.put a b (l ++ [s])).room : Int)) (.slice ao9 n9 c9)
    refine xone 11 (hk := HK.out _ y10) (h := RunX.of 11 (h := ?_))
    go_simp
    (refine xdone (by kernel_rfl) (HK.out _ y10) ?_)
    obtain ⟨z0, z1, z2⟩ := (cells3 z).1
    simp only [put3] at z0 z1 z2
    have R10 := Lib.hid r10
    have Y10 := Lib.hid y10
    clear r10 y10 z R9
    go_wp2
    refine bodyPost_ret (v := .tuple #[.agg #[.int .i64 ((S.put a b (l ++ [s])).n : Int), .int .i64 ((S.put a b (l ++ [s])).room : Int), .slice ao9 n9 c9], .bool true]) (by simp [results, Tryz.results44, go_sem, z0, z1, z2]) rfl
      ⟨_, rfl, R10.out, ext_of_below Y10.out (by omega) (Ext.trans (((Ext.refl w).alloc _).alloc _) X3.out)⟩
end Go.Proofs.YtlakolkpfkakoaaGreatDoor

/- The document's nets: send, deliver, double, flip, quiet. -/
namespace Go.Proofs.YtlakolkpfkakoaaGreatDoor
open Go.RowKit

theorem take_eraseIdx {α : Type} (xs : List α) (k : Nat) : xs.take k ++ xs.drop (k + 1) = xs.eraseIdx k := (List.eraseIdx_eq_take_drop_succ xs k).symm

theorem refSend_no (F : Nat → Prop) (w : World) (v : Value) (S : NetS) (m : Nat) (h : RNet F w v S m) (a b : Int) (s : ByteArray) (hr : S.may a b = false) :
    Calls Tryz.prog 44 #[v, .int .i64 a, .int .i64 b, .string s] w fun e w' => e = .returned (.tuple #[v, .bool false]) ∧ Ext w w' := by
  have cN := fun W (x : Ext w W) => refNodes_any F W v S m (h.ext x) a b
  have cR := Lib.hid (fun W (x : Ext w W) => refRow_len F W v S m (h.ext x) a b _ rfl)
  obtain ⟨ao, n, c, L, rfl, _⟩ := h
  have hn : S.two a b = true → ¬ (S.f a b).length < S.room := fun h1 h2 => by rw [may_iff.2 ⟨h1, h2⟩] at hr; cases hr
  clear hr
  obtain ⟨l, hl⟩ : ∃ l, l = S.f a b := ⟨_, rfl⟩
  rw [← hl] at cR hn
  clear hl
  cases h2 : S.two a b
  all_goals
    rw [h2] at cN hn
    replace cN := Lib.hid cN
    clear h2
  · clear hn
    go_enter Tryz.func44, Tryz.ntmps44
    go_wp2_with (first
      | (go_at_call 27; refine (cR.out _ (by repeat (first | exact Ext.refl _ | assumption | refine Ext.alloc ?_ _ | refine Ext.drew ?_ | refine Ext.drewN ?_ _))).mono ?_; rintro e w2 ⟨a2, c2, rfl, hs2, x2⟩; have X2 := Lib.hid x2; have k2 := three_at w.heap.size rfl (Ext.trans ((Ext.refl _).alloc _) x2); clear x2 hs2)
      | (go_at_call 71; refine (cN.out _ (Ext.trans (((Ext.refl w).alloc _).alloc _) X2.out)).mono ?_; rintro e w3 ⟨rfl, x3⟩; have X3 := Lib.hid (Ext.trans X2.out x3); have hb := cells3 ((box2 (W := w3) (w := w) (X3.out.mono (by simp))).1); have hb2 := cells3 ((box2 (W := w3) (w := w) (X3.out.mono (by simp))).2); obtain ⟨k3, k4⟩ := hb; obtain ⟨j3, j4⟩ := hb2; clear x3))
    refine bodyPost_ret (v := .tuple #[.agg #[.int .i64 S.n, .int .i64 S.room, .slice ao n c], .bool false]) (by simp [results, Tryz.results44, go_sem, j3]) rfl ⟨rfl, ?_⟩
    exact below_set (below_set (below_set (Ext.trans (((Ext.refl w).alloc _).alloc _) X3.out) (by simp) _) (by simp) _) (by simp) _
  · have hn2 : (S.room : Int) ≤ (l.length : Int) := by have := hn rfl; omega
    clear hn
    go_enter Tryz.func44, Tryz.ntmps44
    go_wp2_with (first
      | (go_at_call 27; refine (cR.out _ (by repeat (first | exact Ext.refl _ | assumption | refine Ext.alloc ?_ _ | refine Ext.drew ?_ | refine Ext.drewN ?_ _))).mono ?_; rintro e w2 ⟨a2, c2, rfl, hs2, x2⟩; have X2 := Lib.hid x2; have k2 := three_at w.heap.size rfl (Ext.trans ((Ext.refl _).alloc _) x2); clear x2 hs2)
      | (go_at_call 71; refine (cN.out _ (Ext.trans (((Ext.refl w).alloc _).alloc _) X2.out)).mono ?_; rintro e w3 ⟨rfl, x3⟩; have X3 := Lib.hid (Ext.trans X2.out x3); have hb := cells3 ((box2 (W := w3) (w := w) (X3.out.mono (by simp))).1); have hb2 := cells3 ((box2 (W := w3) (w := w) (X3.out.mono (by simp))).2); obtain ⟨k3, k4⟩ := hb; obtain ⟨j3, j4⟩ := hb2; clear x3))
    refine bodyPost_ret (v := .tuple #[.agg #[.int .i64 S.n, .int .i64 S.room, .slice ao n c], .bool false]) (by simp [results, Tryz.results44, go_sem, j3]) rfl ⟨rfl, ?_⟩
    exact below_set (below_set (below_set (Ext.trans (((Ext.refl w).alloc _).alloc _) X3.out) (by simp) _) (by simp) _) (by simp) _

theorem refSend_any (F : Nat → Prop) (w : World) (hF : ∀ k, F k → k < w.heap.size) (v : Value) (S : NetS) (m : Nat) (h : RNet F w v S m) (hm : m ≤ 5000) (ok : S.Ok) (a b : Int) (s : ByteArray) :
    Calls Tryz.prog 44 #[v, .int .i64 a, .int .i64 b, .string s] w fun e w' => ∃ v', e = .returned (.tuple #[v', .bool (S.may a b)]) ∧ RNet F w' v' (S.send a b s) (m + 1) ∧ Ext w w' := by
  unfold NetS.send
  cases hr : S.may a b
  · rw [if_neg (by decide)]
    refine (refSend_no F w v S m h a b s hr).mono ?_
    rintro e w' ⟨rfl, x⟩
    exact ⟨v, rfl, (h.ext x).more (Nat.le_succ _), x⟩
  · rw [if_pos rfl]
    exact refSend_yes F w hF v S m h hm ok a b s hr

set_option maxHeartbeats 1600000 in
theorem refDeliver_yes (F : Nat → Prop) (w : World) (hF : ∀ k, F k → k < w.heap.size) (v : Value) (S : NetS) (m : Nat) (h : RNet F w v S m) (hm : m ≤ 5000) (ok : S.Ok) (a b k : Int) (hr : S.there a b k = true) :
    Calls Tryz.prog 52 #[v, .int .i64 a, .int .i64 b, .int .i64 k] w fun e w' => ∃ v', e = .returned (.tuple #[v', .string (S.look a b k), .bool true]) ∧ RNet F w' v' (S.put a b ((S.f a b).eraseIdx k.toNat)) (m + 1) ∧ Ext w w' := by
  obtain ⟨h1, h2⟩ := there_iff.1 hr
  have h3 := ok.few a b
  have h4 := ok.rooms
  have cL := fun W (x : Ext w W) => refLook_any F W v S m (h.ext x) a b k
  rw [hr] at cL
  replace cL := Lib.hid cL
  have cR := Lib.hid (fun W (x : Ext w W) => refRow_len (fun k => F k ∨ w.heap.size ≤ k) W v S m ((h.wide (fun k h1 h2 => by rcases h2 with h2 | h2; exact h2; omega)).ext x) a b _ rfl)
  have cW := Lib.hid (fun W (x : Ext w W) (hW : w.heap.size + 2 ≤ W.heap.size) ol nl cl (hl : Sa (fun k => F k ∨ (w.heap.size ≤ k ∧ k < w.heap.size + 2)) W (.slice ol nl cl) ((S.f a b).eraseIdx k.toNat)) => refWith_any (fun k => F k ∨ (w.heap.size ≤ k ∧ k < w.heap.size + 2)) W (fun k hk => by rcases hk with hk | hk; (have := hF k hk; have := x.size; omega); omega) v S m ((h.wide (fun k h1 h2 => by rcases h2 with h2 | h2; exact h2; omega)).ext x) hm a b ol nl cl ((S.f a b).eraseIdx k.toNat) hl)
  have HF := Lib.hid hF
  obtain ⟨ao, n, c, L, rfl, _⟩ := h
  obtain ⟨l, hl⟩ : ∃ l, l = S.f a b := ⟨_, rfl⟩
  rw [← hl] at cR cW h2 h3 ⊢
  obtain ⟨T, hT⟩ : ∃ T, T = S.look a b k := ⟨_, rfl⟩
  rw [← hT] at cL ⊢
  obtain ⟨i, rfl⟩ := Int.eq_ofNat_of_zero_le h1
  rw [Int.toNat_natCast] at cW ⊢
  clear hl hr h1 hF hT
  go_enter Tryz.func52, Tryz.ntmps52
  go_wp2_with (first
    | (go_at_call 29; refine (cL.out _ (by repeat (first | exact Ext.refl _ | assumption | refine Ext.alloc ?_ _ | refine Ext.drew ?_ | refine Ext.drewN ?_ _))).mono ?_; rintro e w2 ⟨rfl, x2⟩; have X2 := Lib.hid x2; have k2 := three_at w.heap.size rfl (Ext.trans ((Ext.refl _).alloc _) x2); clear x2)
    | (go_at_call 27; refine (cR.out _ (Ext.trans (((Ext.refl w).alloc _).alloc _) X2.out)).mono ?_; rintro e w3 ⟨a2, c2, rfl, hs2, x3⟩; have X3 := Lib.hid (Ext.trans X2.out x3); have HS3 := Lib.hid hs2; have k3 := three_at w.heap.size rfl (Ext.trans ((Ext.refl _).alloc _) X3.out); clear x3 hs2))
  clear k2 X2
  rcases HS3.out.1.texts with ⟨h9, _⟩ | ⟨g, off, c', hv, q1, q2, q3, q4, q5⟩
  · rw [h9] at h2; simp at h2; omega
  simp only [Value.slice.injEq] at hv
  obtain ⟨rfl, _, rfl⟩ := hv
  clear q5
  have HK : Hid (∀ W, Below (w.heap.size + 1) w3 W → W.cell? ⟨w.heap.size, 0, none⟩ = some (.int .i64 S.n) ∧ W.cell? ⟨w.heap.size, 1, none⟩ = some (.int .i64 S.room) ∧ W.cell? ⟨w.heap.size, 2, none⟩ = some (.slice ao n c)) := Lib.hid (fun W y => by
    have hb := (box2 (W := w3) (w := w) (X3.out.mono (by simp))).1
    have hb2 := (y.block w.heap.size (by omega)).trans hb
    exact ⟨blk_cell hb2 0 rfl, blk_cell hb2 1 rfl, blk_cell hb2 2 rfl⟩)
  have hs3 := X3.out.size
  rw [size_alloc, size_alloc] at hs3
  have HSO : Hid (∀ W, Below w.heap.size w3 W → Sl W (.slice (some ⟨g, off, none⟩) l.length c2) l) := Lib.hid fun W e => HS3.out.1.off (HS3.out.2.imp id fun h2 b hb hf => h2 b hb (.inr hf)) (Off.of_below e)
  have HC1 : Hid (∀ W, Below w.heap.size w3 W → Sl W (.slice (some ⟨g, off, none⟩) i c2) (l.take i)) := Lib.hid fun W e => by
    have := (HSO.out W e).cut 0 i (by omega) (by omega)
    simpa using this
  have HC2 : Hid (∀ W, Below w.heap.size w3 W → Sl W (.slice (if c2 = i + 1 then some ⟨g, off, none⟩ else some ⟨g, off + (i + 1), none⟩) (l.length - (i + 1)) (c2 - (i + 1))) (l.drop (i + 1))) := Lib.hid fun W e => by
    have := (HSO.out W e).tail (i + 1) (by omega)
    rwa [show off + (i + 1) * Elem.k ByteArray = off + (i + 1) from by show off + (i + 1) * 1 = _; omega] at this
  have hw : IntKind.i64.wrap ((i : Int) + 1) = (i : Int) + 1 := IntWalk.i64_in _ (by omega)
  have hz : (0 : Int) ≤ (i : Int) + 1 := by omega
  have hn : ((i : Int) + 1).toNat = i + 1 := by omega
  have hkc : i ≤ c2 := by omega
  have hkc1 : i + 1 ≤ c2 := by omega
  have hkl1 : i + 1 ≤ l.length := by omega
  have hkl2 : (i : Int) + 1 ≤ (l.length : Int) := by omega
  (refine wp_region_X_lit (K := fun W => W.cell? ⟨w.heap.size, 0, none⟩ = some (.int .i64 S.n) ∧ W.cell? ⟨w.heap.size, 1, none⟩ = some (.int .i64 S.room) ∧ W.cell? ⟨w.heap.size, 2, none⟩ = some (.slice ao n c)) (by kernel_rfl) (fun w1 hw1 => ?_))
  have Y4 := Lib.hid (Below.mono hw1 hs3)
  have hs4 := hw1.size
  clear hw1
  refine xtv 0 (hv := by intro w' hw'; obtain ⟨q0, q1, q2⟩ := hw'; go_simp; first | done | with_reducible rfl) (h := ?_)
  refine xtv 1 (h := ?_)
  refine xtv 2 (h := ?_)
  refine xtv 4 (h := ?_)
  refine xtv 5 (h := ?_)
  refine xtv 6 (h := ?_)
  refine xtv 8 (h := ?_)
  refine xtv 9 (h := ?_)
  refine xtv 10 (h := ?_)
  refine xtv 11 (h := ?_)
  refine xtv 14 (h := ?_)
  clear hw hz hn
  refine xone 3 (hk := HK.out _ (Y4.out.mono (Nat.le_succ _))) (h := RunX.of 3 (h := ?_))
  go_simp
  (try (simp only [Act.put, List.setIfInBounds_toArray, List.set]))
  have o3 : Ow (w1.alloc (.cells #[] 9)) (w.heap.size + 2) (.slice (some ⟨w1.heap.size, 0, none⟩) 0 0) ([] : List ByteArray) := Ow.litAt w1 _ _ rfl (by omega) [] (by simp)
  have y5 := Y4.out.alloc (by omega) (.cells #[] 9)
  obtain ⟨wA, hA⟩ : ∃ wA, wA = w1.alloc (.cells #[] 9) := ⟨_, rfl⟩
  rw [← hA] at o3 y5 ⊢
  clear hA
  have O3 := Lib.hid o3
  have Y5 := Lib.hid y5
  clear o3 y5
  refine xone 7 (hk := HK.out _ (Y5.out.mono (Nat.le_succ _))) (h := RunX.of 7 (h := ?_))
  (refine wp_append_sl (α := ByteArray) (.tmp 32) (.tmp 35) rfl (w.heap.size + 2) _ [] rfl ?_ _ (l.take i) rfl ?_ ?_ ?_ ?_; exact O3.out; exact (HC1.out _ (Y5.out.mono (by omega))); (first | omega | (simp; omega)); (have := Y5.out.size; omega); intro v6 w6 ho6 ha6; have O6 := Lib.hid ho6; have Y6 := Lib.hid (Y5.out.trans ha6.below); obtain ⟨a6, n6, c6, rfl⟩ := ho6.sh; clear ho6 ha6)
  (try (simp only [Act.put, List.setIfInBounds_toArray, List.set]))
  refine xone 12 (hk := HK.out _ (Y6.out.mono (Nat.le_succ _))) (h := RunX.of 12 (h := ?_))
  (refine wp_append_sl (α := ByteArray) (.tmp 36) (.tmp 40) rfl (w.heap.size + 2) _ ([] ++ l.take i) rfl ?_ _ (l.drop (i + 1)) rfl ?_ ?_ ?_ ?_; exact O6.out; exact (HC2.out _ (Y6.out.mono (by omega))); (first | omega | (simp; omega)); (have := Y6.out.size; omega); intro v8 w8 ho8 ha8; rw [List.nil_append, take_eraseIdx] at ho8; have O8 := Lib.hid ho8; have Y8 := Lib.hid (Y6.out.trans ha8.below); obtain ⟨a8, n8, c8, rfl⟩ := ho8.sh; clear ho8 ha8)
  (try (simp only [Act.put, List.setIfInBounds_toArray, List.set]))
  refine xone 13 (hk := HK.out _ (Y8.out.mono (Nat.le_succ _))) (h := RunX.of 13 (h := ?_))
  go_simp
  refine (cW.out w8 (ext_of_below Y8.out (by omega) (Ext.trans (((Ext.refl w).alloc _).alloc _) X3.out)) (by have := Y8.out.size; omega) a8 n8 c8 (Sa.new O8.out (fun k hk => by rcases hk with hk | hk; (have := HF.out k hk; omega); omega))).mono ?_
  rintro e w9 ⟨v9, rfl, r9, x9⟩
  have R9 := Lib.hid r9
  obtain ⟨ao9, n9, c9, L9, rfl, _⟩ := r9
  have Y9 := Lib.hid (Y8.out.trans (x9.mono (by have := Y8.out.size; omega)))
  clear x9
  dsimp only
  (try (simp only [Act.put, List.setIfInBounds_toArray, List.set]))
  have hb9 := three_below _ (w.heap.size + 2) (by omega) (box2 (W := w3) (w := w) (X3.out.mono (by simp))).2 Y9.out
  obtain ⟨k9, f9⟩ := cells3 hb9
  refine xone 15 (hk := HK.out _ (Y9.out.mono (Nat.le_succ _))) (h := RunX.of 15 (h := ?_))
  go_simp
  have z := put3_blk hb9 (.int .i64 ((S.put a b (l.eraseIdx i)).n : Int)) (.int .i64 ((S.put a b (l.eraseIdx i)).room : Int)) (.slice ao9 n9 c9)
  have y10 := put3_below (Y9.out.mono (Nat.le_succ _)) (Nat.le_refl _) (.int .i64 ((S.put a b (l.eraseIdx i)).n : Int)) (.int .i64 ((S.put a b (l.eraseIdx i)).room : Int)) (.slice ao9 n9 c9)
  have r10 := R9.out.stored (.int .i64 ((S.put a b (l.eraseIdx i)).n : Int)) (.int .i64 ((S.put a b (l.eraseIdx i)).room : Int)) (.slice ao9 n9 c9)
  refine xone 16 (hk := HK.out _ y10) (h := RunX.of 16 (h := ?_))
  go_simp
  refine xone 17 (hk := HK.out _ y10) (h := RunX.of 17 (h := ?_))
  go_simp
  (refine xdone (by kernel_rfl) (HK.out _ y10) ?_)
  obtain ⟨z0, z1, z2⟩ := (cells3 z).1
  simp only [put3] at z0 z1 z2
  have R10 := Lib.hid r10
  have Y10 := Lib.hid y10
  clear r10 y10 z R9
  go_wp2
  all_goals refine bodyPost_ret (v := .tuple #[.agg #[.int .i64 ((S.put a b (l.eraseIdx i)).n : Int), .int .i64 ((S.put a b (l.eraseIdx i)).room : Int), .slice ao9 n9 c9], .string T, .bool true]) (by simp [results, Tryz.results52, go_sem, z0, z1, z2]) rfl ⟨_, rfl, R10.out, ext_of_below Y10.out (by omega) (Ext.trans (((Ext.refl w).alloc _).alloc _) X3.out)⟩

theorem refDeliver_no (F : Nat → Prop) (w : World) (v : Value) (S : NetS) (m : Nat) (h : RNet F w v S m) (a b k : Int) (hr : S.there a b k = false) :
    Calls Tryz.prog 52 #[v, .int .i64 a, .int .i64 b, .int .i64 k] w fun e w' => e = .returned (.tuple #[v, .string ⟨#[]⟩, .bool false]) ∧ Ext w w' := by
  have cL := fun W (x : Ext w W) => refLook_any F W v S m (h.ext x) a b k
  rw [hr] at cL
  replace cL := Lib.hid cL
  obtain ⟨ao, n, c, L, rfl, _⟩ := h
  clear hr
  go_enter Tryz.func52, Tryz.ntmps52
  go_wp2_with (first
    | (go_at_call 29; refine (cL.out _ (by repeat (first | exact Ext.refl _ | assumption | refine Ext.alloc ?_ _ | refine Ext.drew ?_ | refine Ext.drewN ?_ _))).mono ?_; rintro e w2 ⟨rfl, x2⟩; have X2 := Lib.hid x2; have hb := cells3 ((box2 (W := w2) (w := w) (x2.mono (by simp))).1); have hb2 := cells3 ((box2 (W := w2) (w := w) (x2.mono (by simp))).2); obtain ⟨k3, k4⟩ := hb; obtain ⟨j3, j4⟩ := hb2; clear x2))
  refine bodyPost_ret (v := .tuple #[.agg #[.int .i64 S.n, .int .i64 S.room, .slice ao n c], .string ⟨#[]⟩, .bool false]) (by simp [results, Tryz.results52, go_sem, j3]) rfl ⟨rfl, ?_⟩
  exact below_set (below_set (below_set (Ext.trans (((Ext.refl w).alloc _).alloc _) X2.out) (by simp) _) (by simp) _) (by simp) _

theorem refDeliver_any (F : Nat → Prop) (w : World) (hF : ∀ k, F k → k < w.heap.size) (v : Value) (S : NetS) (m : Nat) (h : RNet F w v S m) (hm : m ≤ 5000) (ok : S.Ok) (a b k : Int) :
    Calls Tryz.prog 52 #[v, .int .i64 a, .int .i64 b, .int .i64 k] w fun e w' => ∃ v', e = .returned (.tuple #[v', .string (S.look a b k), .bool (S.there a b k)]) ∧ RNet F w' v' (S.deliver a b k) (m + 1) ∧ Ext w w' := by
  unfold NetS.deliver
  cases hr : S.there a b k
  · rw [if_neg (by decide)]
    refine (refDeliver_no F w v S m h a b k hr).mono ?_
    rintro e w' ⟨rfl, x⟩
    refine ⟨v, ?_, (h.ext x).more (Nat.le_succ _), x⟩
    unfold NetS.look
    rw [if_neg (by rw [hr]; decide)]
  · rw [if_pos rfl]
    exact refDeliver_yes F w hF v S m h hm ok a b k hr

set_option maxHeartbeats 800000 in
theorem refDouble_any (F : Nat → Prop) (w : World) (hF : ∀ k, F k → k < w.heap.size) (v : Value) (S : NetS) (m : Nat) (h : RNet F w v S m) (hm : m ≤ 5000) (ok : S.Ok) (a b k : Int) :
    Calls Tryz.prog 56 #[v, .int .i64 a, .int .i64 b, .int .i64 k] w fun e w' => ∃ v', e = .returned (.tuple #[v', .bool (S.canD a b k)]) ∧ RNet F w' v' (S.double a b k) (m + 1) ∧ Ext w w' := by
  have cL := fun W (x : Ext w W) => refLook_any F W v S m (h.ext x) a b k
  have cS := Lib.hid (fun W (x : Ext w W) (hW : w.heap.size + 2 ≤ W.heap.size) s => refSend_any (fun k => F k ∨ (w.heap.size ≤ k ∧ k < w.heap.size + 2)) W (fun k hk => by rcases hk with hk | hk; (have := hF k hk; have := x.size; omega); omega) v S m ((h.wide (fun k h1 h2 => by rcases h2 with h2 | h2; exact h2; omega)).ext x) hm ok a b s)
  have HN := Lib.hid h
  obtain ⟨ao, n, c, L, rfl, _⟩ := h
  unfold NetS.double NetS.canD
  cases hr : S.there a b k
  · rw [if_neg (by decide), Bool.false_and]
    rw [hr] at cL
    replace cL := Lib.hid cL
    clear hr
    go_enter Tryz.func56, Tryz.ntmps56
    go_wp2_with (first
      | (go_at_call 29; refine (cL.out _ (by repeat (first | exact Ext.refl _ | assumption | refine Ext.alloc ?_ _ | refine Ext.drew ?_ | refine Ext.drewN ?_ _))).mono ?_; rintro e w2 ⟨rfl, x2⟩; have X2 := Lib.hid x2; have hb := cells3 ((box2 (W := w2) (w := w) (x2.mono (by simp))).1); have hb2 := cells3 ((box2 (W := w2) (w := w) (x2.mono (by simp))).2); obtain ⟨k3, k4⟩ := hb; obtain ⟨j3, j4⟩ := hb2; clear x2))
    have hx := below_set (below_set (below_set (Ext.trans (((Ext.refl w).alloc _).alloc _) X2.out) (by simp : w.heap.size ≤ (⟨w.heap.size + 1, 0, none⟩ : Addr).block) (.int .i64 S.n)) (by simp : w.heap.size ≤ (⟨w.heap.size + 1, 1, none⟩ : Addr).block) (.int .i64 S.room)) (by simp : w.heap.size ≤ (⟨w.heap.size + 1, 2, none⟩ : Addr).block) (.slice ao n c)
    refine bodyPost_ret (v := .tuple #[.agg #[.int .i64 S.n, .int .i64 S.room, .slice ao n c], .bool false]) (by simp [results, Tryz.results56, go_sem, j3]) rfl ⟨_, rfl, (HN.out.ext hx).more (Nat.le_succ _), hx⟩
  · rw [if_pos rfl, Bool.true_and]
    rw [hr] at cL
    replace cL := Lib.hid cL
    clear hr
    obtain ⟨T, hT⟩ : ∃ T, T = S.look a b k := ⟨_, rfl⟩
    rw [← hT] at cL ⊢
    clear hT
    go_enter Tryz.func56, Tryz.ntmps56
    go_wp2_with (first
      | (go_at_call 29; refine (cL.out _ (by repeat (first | exact Ext.refl _ | assumption | refine Ext.alloc ?_ _ | refine Ext.drew ?_ | refine Ext.drewN ?_ _))).mono ?_; rintro e w2 ⟨rfl, x2⟩; have X2 := Lib.hid x2; have hb := cells3 ((box2 (W := w2) (w := w) (x2.mono (by simp))).1); obtain ⟨k3, k4⟩ := hb; clear x2)
      | (go_at_call 44; refine (cS.out w2 (Ext.trans (((Ext.refl w).alloc _).alloc _) X2.out) (by have := X2.out.size; rw [size_alloc, size_alloc] at this; exact this) T).mono ?_; rintro e w3 ⟨v3, rfl, r3, x3⟩; have R3 := Lib.hid r3; obtain ⟨ao3, n3, c3, L3, rfl, _⟩ := r3; have X3 := Lib.hid (Ext.trans X2.out x3); have hb2 := (box2 (W := w3) (w := w) (X3.out.mono (by simp))).2; obtain ⟨j3, j4⟩ := cells3 hb2; have HB2 := Lib.hid hb2; clear x3 hb2))
    have z := put3_blk HB2.out (.int .i64 ((S.send a b T).n : Int)) (.int .i64 ((S.send a b T).room : Int)) (.slice ao3 n3 c3)
    have y10 := put3_below (Ext.trans (((Ext.refl w).alloc _).alloc _) X3.out) (Nat.le_succ w.heap.size) (.int .i64 ((S.send a b T).n : Int)) (.int .i64 ((S.send a b T).room : Int)) (.slice ao3 n3 c3)
    have r10 := R3.out.stored (.int .i64 ((S.send a b T).n : Int)) (.int .i64 ((S.send a b T).room : Int)) (.slice ao3 n3 c3)
    obtain ⟨z0, z1, z2⟩ := (cells3 z).1
    simp only [put3] at z0 z1 z2
    refine bodyPost_ret (v := .tuple #[.agg #[.int .i64 ((S.send a b T).n : Int), .int .i64 ((S.send a b T).room : Int), .slice ao3 n3 c3], .bool (S.may a b)]) (by simp [results, Tryz.results56, go_sem, z0, z1, z2]) rfl ⟨_, rfl, r10, y10⟩
end Go.Proofs.YtlakolkpfkakoaaGreatDoor

/- The document's nets: a bit turned; whether all is quiet. -/
namespace Go.Proofs.YtlakolkpfkakoaaGreatDoor
open Go.RowKit

theorem turnAt_lt {s : ByteArray} {bit : Int} (hs : 0 < s.size) : turnAt s bit < 8 * s.size := Nat.mod_lt _ (by omega)
theorem turnAt_of {s : ByteArray} {bit y : Int} (hb : -9223372036854775808 ≤ bit) (hy : y = (if bit < 0 then (if bit = -9223372036854775808 then 0 else -bit) else bit)) : Int.tmod y (8 * (s.size : Int)) = (turnAt s bit : Int) := by
  unfold turnAt
  have e : y = (((if bit = -9223372036854775808 then 0 else bit.natAbs) : Nat) : Int) := by
    rw [hy]
    by_cases h1 : bit < 0
    · rw [if_pos h1]
      by_cases h2 : bit = -9223372036854775808
      · rw [if_pos h2, if_pos h2]; rfl
      · rw [if_neg h2, if_neg h2]; omega
    · rw [if_neg h1, if_neg (by omega)]; omega
  rw [e, Int.tmod_eq_emod_of_nonneg (by omega), Int.natCast_emod, Int.natCast_mul]
  rfl

set_option maxHeartbeats 800000 in
theorem refTurned_any (w : World) (s : ByteArray) (bit : Int) (hb : -9223372036854775808 ≤ bit) (hb2 : bit ≤ 9223372036854775807) (hs : 0 < s.size) (hl : s.size ≤ 1000) :
    Calls Tryz.prog 85 #[.string s, .int .i64 bit] w fun e w' => e = .returned (.string (turned s bit)) ∧ Ext w w' := by
  have hD := turnAt_lt (bit := bit) hs
  have HT := Lib.hid (show turned s bit = textN ((bl s).set (turnAt s bit / 8) ((bl s).getD (turnAt s bit / 8) 0 ^^^ 2 ^ (turnAt s bit % 8))) from rfl)
  obtain ⟨W1, hW1⟩ : ∃ W1, W1 = newB w s := ⟨_, rfl⟩
  have hbo := bytes_of w s
  have hby := newB_byt w s
  have hex := newB_ext w s
  rw [← hW1] at hbo hby hex
  clear hW1
  obtain ⟨c, hc⟩ : ∃ c, c = capB w s := ⟨_, rfl⟩
  rw [← hc] at hbo
  clear hc
  have tail : ∀ (D : Nat), D < 8 * s.size → Hid (turned s bit = textN ((bl s).set (D / 8) ((bl s).getD (D / 8) 0 ^^^ 2 ^ (D % 8)))) →
      ∃ (B X : Nat), W1.cell? ⟨w.heap.size, D / 8, none⟩ = some (.int .u8 B) ∧ W1.frozen? ⟨w.heap.size, D / 8, none⟩ = false ∧ bits .xor .u8 (B : Int) ((2 : Int) ^ (D % 8) % 256) = (X : Int) ∧
        (convert 114 9 (.slice (some ⟨w.heap.size, 0, none⟩) s.size c)).run Tryz.prog (W1.setCell ⟨w.heap.size, D / 8, none⟩ (.int .u8 X)) = .ok (.string (turned s bit)) (W1.setCell ⟨w.heap.size, D / 8, none⟩ (.int .u8 X)) := by
    intro D hD HT
    have hlt : D / 8 < (bl s).length := by rw [bl_length]; omega
    refine ⟨(bl s).getD (D / 8) 0, (bl s).getD (D / 8) 0 ^^^ 2 ^ (D % 8), hby.cell _ hlt, hby.free _ hlt, ?_, ?_⟩
    · have h7 : 2 ^ (D % 8) ≤ 2 ^ 7 := Nat.pow_le_pow_right (by decide) (by omega)
      have h8 : (2 : Int) ^ (D % 8) % 256 = ((2 ^ (D % 8) : Nat) : Int) := by
        have h9 : ((2 ^ (D % 8) : Nat) : Int) = (2 : Int) ^ (D % 8) := by rw [Int.natCast_pow]; rfl
        have h10 : (0 : Int) ≤ ((2 ^ (D % 8) : Nat) : Int) := Int.natCast_nonneg _
        rw [← h9]
        omega
      rw [h8]
      refine u8_xor_nat _ _ ?_ (by omega)
      have hm : (bl s).getD (D / 8) 0 ∈ bl s := by simp [hlt]
      exact bl_lt s _ hm
    · rw [HT.out]
      exact (hby.set (D / 8) _ hlt).text s.size c (by rw [List.length_set, bl_length])
  by_cases h1 : bit < 0
  · by_cases h2 : bit = -9223372036854775808
    · have hy := turnAt_of (s := s) (bit := bit) (y := 0) hb (by rw [if_pos h1, if_pos h2])
      have h0 : turnAt s bit = 0 := by rw [Int.zero_tmod] at hy; omega
      rw [h0] at HT
      obtain ⟨B, X, k1, k2, k3, k4⟩ := tail 0 (by omega) HT
      have HEX := Lib.hid hex
      have e0 : wrap64 0 = 0 := by kernel_rfl
      have e1 : wrap64 9223372036854775808 = -9223372036854775808 := by kernel_rfl
      have k5 : bits .xor .u8 (B : Int) 1 = (X : Int) := k3
      rw [show 0 / 8 = 0 from rfl] at k1 k2 k4
      clear hby hex tail k3 hy hD h0
      go_enter Tryz.func85, Tryz.ntmps85
      go_wp2
      go_ret
      exact ⟨by rw [h2]; rfl, below_set HEX.out (Nat.le_refl _) _⟩
    · have hy := turnAt_of (s := s) (bit := bit) (y := -bit) hb (by rw [if_pos h1, if_neg h2])
      obtain ⟨D, hDD⟩ : ∃ D, D = turnAt s bit := ⟨_, rfl⟩
      rw [← hDD] at hy hD HT
      clear hDD
      obtain ⟨B, X, k1, k2, k3, k4⟩ := tail D hD HT
      have HEX := Lib.hid hex
      clear hby hex tail
      go_enter Tryz.func85, Tryz.ntmps85
      go_wp2
      go_ret
      exact ⟨rfl, below_set HEX.out (Nat.le_refl _) _⟩
  · have hy := turnAt_of (s := s) (bit := bit) (y := bit) hb (by rw [if_neg h1])
    obtain ⟨D, hDD⟩ : ∃ D, D = turnAt s bit := ⟨_, rfl⟩
    rw [← hDD] at hy hD HT
    clear hDD
    obtain ⟨B, X, k1, k2, k3, k4⟩ := tail D hD HT
    have HEX := Lib.hid hex
    clear hby hex tail
    go_enter Tryz.func85, Tryz.ntmps85
    go_wp2
    go_ret
    exact ⟨rfl, below_set HEX.out (Nat.le_refl _) _⟩
end Go.Proofs.YtlakolkpfkakoaaGreatDoor

/- The document's nets: flip, quiet. -/
namespace Go.Proofs.YtlakolkpfkakoaaGreatDoor
open Go.RowKit

theorem canF_iff {S : NetS} {a b k : Int} : S.canF a b k = true ↔ S.there a b k = true ∧ (S.look a b k).size ≠ 0 := by
  unfold NetS.canF
  simp only [Bool.and_eq_true, Bool.not_eq_true', decide_eq_false_iff_not]

theorem cells_s : ∀ xs : List ByteArray, cellsOf xs = xs.map Value.string
  | [] => rfl
  | x :: xs => by
    have ih := cells_s xs
    show Elem.enc x ++ cellsOf xs = _
    rw [ih]
    rfl
theorem set_ow_s {w : World} {B g n c : Nat} {xs : List ByteArray} (h : Ow w B (.slice (some ⟨g, 0, none⟩) n c) xs) (j : Nat) (x : ByteArray) : Ow (w.setCell ⟨g, j, none⟩ (.string x)) B (.slice (some ⟨g, 0, none⟩) n c) (xs.set j x) := by
  obtain ⟨ao, c', hv⟩ := h.sl.len
  simp only [Value.slice.injEq] at hv
  obtain ⟨_, rfl, _⟩ := hv
  obtain ⟨h1, h2⟩ := World.ownsRow.stored h j (.string x)
  unfold Ow
  rw [cells_s] at h1 ⊢
  rw [List.length_set, List.map_set]
  exact h1
theorem Ow.at_s {w : World} {B : Nat} {v : Value} {xs : List ByteArray} (h : Ow w B v xs) {j : Nat} (hj : j < xs.length) :
    ∃ g c, v = .slice (some ⟨g, 0, none⟩) xs.length c ∧ B ≤ g ∧ xs.length ≤ c ∧ w.cell? ⟨g, j, none⟩ = some (.string (xs.getD j ⟨#[]⟩)) ∧ w.frozen? ⟨g, j, none⟩ = false := by
  have hn : v ≠ .slice none 0 0 := fun e => by
    obtain ⟨ao, c, hv⟩ := h.sl.len
    rw [e] at hv
    simp only [Value.slice.injEq] at hv
    omega
  obtain ⟨g, c, hv, h1, h2, h3, h4⟩ := h.shape hn
  subst hv
  refine ⟨g, c, rfl, h1, h3, ?_, ?_⟩
  · have := World.ownsRow.cellAt (g := g) h j (by show j < xs.length * 1; omega)
    rw [cells_s] at this
    rw [this]
    simp [hj]
  · rcases h.2 with ⟨hv, _⟩ | ⟨g', cap, cur, hv, _, hh, _⟩
    · simp at hv
    · simp only [Value.slice.injEq, Option.some.injEq, Addr.mk.injEq, and_true] at hv
      obtain ⟨rfl, _⟩ := hv
      exact blk_free hh j

set_option maxHeartbeats 1600000 in
theorem refFlip_no (F : Nat → Prop) (w : World) (v : Value) (S : NetS) (m : Nat) (h : RNet F w v S m) (a b k bit : Int) (hr : S.canF a b k = false) :
    Calls Tryz.prog 58 #[v, .int .i64 a, .int .i64 b, .int .i64 k, .int .i64 bit] w fun e w' => e = .returned (.tuple #[v, .bool false]) ∧ Ext w w' := by
  have cL := fun W (x : Ext w W) => refLook_any F W v S m (h.ext x) a b k
  obtain ⟨ao, n, c, L, rfl, _⟩ := h
  have hn : S.there a b k = true → (S.look a b k).size = 0 := fun h1 => by
    rcases Nat.eq_zero_or_pos (S.look a b k).size with h2 | h2
    · exact h2
    · rw [canF_iff.2 ⟨h1, by omega⟩] at hr; cases hr
  clear hr
  cases h2 : S.there a b k
  all_goals
    rw [h2] at cL hn
    clear h2
  · replace cL := Lib.hid cL
    clear hn
    obtain ⟨T, hT⟩ : ∃ T, T = S.look a b k := ⟨_, rfl⟩
    rw [← hT] at cL
    clear hT
    go_enter Tryz.func58, Tryz.ntmps58
    go_wp2_with (first
      | (go_at_call 29; refine (cL.out _ (by repeat (first | exact Ext.refl _ | assumption | refine Ext.alloc ?_ _ | refine Ext.drew ?_ | refine Ext.drewN ?_ _))).mono ?_; rintro e w2 ⟨rfl, x2⟩; have X2 := Lib.hid x2; have hb := cells3 ((box2 (W := w2) (w := w) (x2.mono (by simp))).1); have hb2 := cells3 ((box2 (W := w2) (w := w) (x2.mono (by simp))).2); obtain ⟨k3, k4⟩ := hb; obtain ⟨j3, j4⟩ := hb2; clear x2))
    refine bodyPost_ret (v := .tuple #[.agg #[.int .i64 S.n, .int .i64 S.room, .slice ao n c], .bool false]) (by simp [results, Tryz.results58, go_sem, j3]) rfl ⟨rfl, ?_⟩
    exact below_set (below_set (below_set (Ext.trans (((Ext.refl w).alloc _).alloc _) X2.out) (by simp) _) (by simp) _) (by simp) _
  · have h0 := hn rfl
    have e0 : S.look a b k = ⟨#[]⟩ := by
      apply ByteArray.ext
      exact Array.eq_empty_of_size_eq_zero h0
    rw [e0] at cL
    replace cL := Lib.hid cL
    clear hn h0 e0
    go_enter Tryz.func58, Tryz.ntmps58
    go_wp2_with (first
      | (go_at_call 29; refine (cL.out _ (by repeat (first | exact Ext.refl _ | assumption | refine Ext.alloc ?_ _ | refine Ext.drew ?_ | refine Ext.drewN ?_ _))).mono ?_; rintro e w2 ⟨rfl, x2⟩; have X2 := Lib.hid x2; have hb := cells3 ((box2 (W := w2) (w := w) (x2.mono (by simp))).1); have hb2 := cells3 ((box2 (W := w2) (w := w) (x2.mono (by simp))).2); obtain ⟨k3, k4⟩ := hb; obtain ⟨j3, j4⟩ := hb2; clear x2))
    refine bodyPost_ret (v := .tuple #[.agg #[.int .i64 S.n, .int .i64 S.room, .slice ao n c], .bool false]) (by simp [results, Tryz.results58, go_sem, j3]) rfl ⟨rfl, ?_⟩
    exact below_set (below_set (below_set (Ext.trans (((Ext.refl w).alloc _).alloc _) X2.out) (by simp) _) (by simp) _) (by simp) _

set_option maxHeartbeats 1600000 in
theorem refFlip_yes (F : Nat → Prop) (w : World) (hF : ∀ k, F k → k < w.heap.size) (v : Value) (S : NetS) (m : Nat) (h : RNet F w v S m) (hm : m ≤ 5000) (ok : S.Ok) (a b k bit : Int) (hb : -9223372036854775808 ≤ bit) (hb2 : bit ≤ 9223372036854775807) (hr : S.canF a b k = true) :
    Calls Tryz.prog 58 #[v, .int .i64 a, .int .i64 b, .int .i64 k, .int .i64 bit] w fun e w' => ∃ v', e = .returned (.tuple #[v', .bool true]) ∧ RNet F w' v' (S.put a b ((S.f a b).set k.toNat (turned (S.look a b k) bit))) (m + 1) ∧ Ext w w' := by
  obtain ⟨hr1, hz⟩ := canF_iff.1 hr
  obtain ⟨h1, h2⟩ := there_iff.1 hr1
  have h3 := ok.few a b
  have h4 := ok.rooms
  have cL := fun W (x : Ext w W) => refLook_any F W v S m (h.ext x) a b k
  rw [hr1] at cL
  replace cL := Lib.hid cL
  have hshort : (S.look a b k).size ≤ 1000 := by
    unfold NetS.look
    rw [if_pos hr1]
    refine ok.short a b _ ?_
    have : k.toNat < (S.f a b).length := by omega
    simp [this]
  have cT := Lib.hid (fun W => refTurned_any W (S.look a b k) bit hb hb2 (by omega) hshort)
  have cR := Lib.hid (fun W (x : Ext w W) => refRow_len (fun k => F k ∨ w.heap.size ≤ k) W v S m ((h.wide (fun k h1 h2 => by rcases h2 with h2 | h2; exact h2; omega)).ext x) a b _ rfl)
  have cW := Lib.hid (fun W (x : Ext w W) (hW : w.heap.size + 2 ≤ W.heap.size) ol nl cl (hl : Sa (fun k => F k ∨ (w.heap.size ≤ k ∧ k < w.heap.size + 2)) W (.slice ol nl cl) ((S.f a b).set k.toNat (turned (S.look a b k) bit))) => refWith_any (fun k => F k ∨ (w.heap.size ≤ k ∧ k < w.heap.size + 2)) W (fun k hk => by rcases hk with hk | hk; (have := hF k hk; have := x.size; omega); omega) v S m ((h.wide (fun k h1 h2 => by rcases h2 with h2 | h2; exact h2; omega)).ext x) hm a b ol nl cl ((S.f a b).set k.toNat (turned (S.look a b k) bit)) hl)
  have HF := Lib.hid hF
  obtain ⟨ao, n, c, L, rfl, _⟩ := h
  obtain ⟨l, hl⟩ : ∃ l, l = S.f a b := ⟨_, rfl⟩
  rw [← hl] at cR cW h2 h3 ⊢
  obtain ⟨T, hT⟩ : ∃ T, T = S.look a b k := ⟨_, rfl⟩
  rw [← hT] at cL cT cW hz ⊢
  obtain ⟨U, hU⟩ : ∃ U, U = turned T bit := ⟨_, rfl⟩
  rw [← hU] at cT cW ⊢
  obtain ⟨i, rfl⟩ := Int.eq_ofNat_of_zero_le h1
  rw [Int.toNat_natCast] at cW ⊢
  have hemp : T.toList.isEmpty = false := by rw [empty_size]; simpa using hz
  clear hl hr h1 hF hT hU hr1 hshort hz
  have hil : i < l.length := by omega
  go_enter Tryz.func58, Tryz.ntmps58
  go_wp2_with (first
    | (go_at_call 29; refine (cL.out _ (by repeat (first | exact Ext.refl _ | assumption | refine Ext.alloc ?_ _ | refine Ext.drew ?_ | refine Ext.drewN ?_ _))).mono ?_; rintro e w2 ⟨rfl, x2⟩; have X2 := Lib.hid x2; have k2 := three_at w.heap.size rfl (Ext.trans ((Ext.refl _).alloc _) x2); have k2b := three_at w.heap.size rfl (Ext.trans ((Ext.refl _).alloc _) (Ext.alloc x2 (.cells #[] 9))); have hs2 := x2.size; rw [size_alloc, size_alloc] at hs2; clear x2)
    | (go_at_call 27; refine (cR.out _ (Ext.trans (((Ext.refl w).alloc _).alloc _) (Ext.alloc X2.out _))).mono ?_; rintro e w3 ⟨a2, c2, rfl, hs3, x3⟩; have X3 := Lib.hid (Ext.trans (Ext.alloc X2.out _) x3); have HS3 := Lib.hid hs3; have O3 := Lib.hid ((Ow.litAt w2 (w.heap.size + 2) _ rfl hs2 ([] : List ByteArray) (by simp)).ext x3); have k3 := three_at w.heap.size rfl (Ext.trans ((Ext.refl _).alloc _) X3.out); have hs4 := x3.size; rw [size_alloc] at hs4; clear x3 hs3)
    | (at_builtin; go_loud (refine wpList_append_sl (α := ByteArray) rfl (.tmp 30) (.tmp 34) rfl (w.heap.size + 2) _ [] rfl ?_ (.slice a2 l.length c2) l rfl ?_ ?_ ?_ ?_; exact O3.out; exact HS3.out.1; (first | omega | (simp; omega)); omega; intro v4 w4 ho4 ha4; have Y4 := Lib.hid (Below.trans (Below.mono X3.out (by rw [size_alloc, size_alloc]; exact Nat.le_refl _)) ha4.below); have O4 := Lib.hid ho4; obtain ⟨a4, n4, c4, rfl⟩ := ho4.sh; have hs5 := ha4.below.size; clear ho4 ha4))
    | (go_at_call 85; refine (cT.out _).mono ?_; rintro e w5 ⟨rfl, x5⟩; have Y5 := Lib.hid (Y4.out.trans (x5.mono (by omega))); have o5 := O4.out.ext x5; rw [List.nil_append] at o5; have O5 := Lib.hid o5; obtain ⟨g5, c5, hv5, q1, q2, q3, q4⟩ := o5.at_s hil; simp only [Value.slice.injEq] at hv5; obtain ⟨rfl, rfl, rfl⟩ := hv5; have hs6 := x5.size; clear x5 o5; have o6 := set_ow_s O5.out i U; have y6 := below_set Y5.out (d := ⟨g5, i, none⟩) (by show w.heap.size + 1 + 1 ≤ g5; omega) (.string U); have O6 := Lib.hid o6; have Y6 := Lib.hid y6; have hb6 := cells3 (box2 y6).1; obtain ⟨k6, f6⟩ := hb6; clear o6 y6)
    | (go_at_call 72; refine (cW.out _ (ext_of_below Y6.out (by omega) (((Ext.refl w).alloc _).alloc _)) (by have := Y6.out.size; rw [size_alloc, size_alloc] at this; omega) _ _ _ (Sa.new O6.out (fun k hk => by rcases hk with hk | hk; (have := HF.out k hk; omega); omega))).mono ?_; rintro e w9 ⟨v9, rfl, r9, x9⟩; have R9 := Lib.hid r9; obtain ⟨ao9, n9, c9, L9, rfl, _⟩ := r9; have Y9 := Lib.hid (Y6.out.trans (x9.mono (by have := Y6.out.size; rw [size_alloc, size_alloc] at this; omega))); have hb9 := (box2 Y9.out).2; have HB9 := Lib.hid hb9; obtain ⟨k9, f9⟩ := cells3 hb9; clear x9 hb9))
  have z := put3_blk HB9.out (.int .i64 ((S.put a b (l.set i U)).n : Int)) (.int .i64 ((S.put a b (l.set i U)).room : Int)) (.slice ao9 n9 c9)
  have y10 := put3_below (Y9.out.mono (Nat.le_succ _)) (Nat.le_refl _) (.int .i64 ((S.put a b (l.set i U)).n : Int)) (.int .i64 ((S.put a b (l.set i U)).room : Int)) (.slice ao9 n9 c9)
  have r10 := R9.out.stored (.int .i64 ((S.put a b (l.set i U)).n : Int)) (.int .i64 ((S.put a b (l.set i U)).room : Int)) (.slice ao9 n9 c9)
  obtain ⟨z0, z1, z2⟩ := (cells3 z).1
  simp only [put3] at z0 z1 z2
  refine bodyPost_ret (v := .tuple #[.agg #[.int .i64 ((S.put a b (l.set i U)).n : Int), .int .i64 ((S.put a b (l.set i U)).room : Int), .slice ao9 n9 c9], .bool true]) (by simp [results, Tryz.results58, go_sem, z0, z1, z2]) rfl ⟨_, rfl, r10, ext_of_below y10 (by omega) (((Ext.refl w).alloc _).alloc _)⟩

theorem refFlip_any (F : Nat → Prop) (w : World) (hF : ∀ k, F k → k < w.heap.size) (v : Value) (S : NetS) (m : Nat) (h : RNet F w v S m) (hm : m ≤ 5000) (ok : S.Ok) (a b k bit : Int) (hb : -9223372036854775808 ≤ bit) (hb2 : bit ≤ 9223372036854775807) :
    Calls Tryz.prog 58 #[v, .int .i64 a, .int .i64 b, .int .i64 k, .int .i64 bit] w fun e w' => ∃ v', e = .returned (.tuple #[v', .bool (S.canF a b k)]) ∧ RNet F w' v' (S.flip a b k bit) (m + 1) ∧ Ext w w' := by
  unfold NetS.flip
  cases hr : S.canF a b k
  · rw [if_neg (by decide)]
    refine (refFlip_no F w v S m h a b k bit hr).mono ?_
    rintro e w' ⟨rfl, x⟩
    exact ⟨v, rfl, (h.ext x).more (Nat.le_succ _), x⟩
  · rw [if_pos rfl]
    exact refFlip_yes F w hF v S m h hm ok a b k bit hb hb2 hr

end Go.Proofs.YtlakolkpfkakoaaGreatDoor
