/- Nets: plain mathematics, and how the document's rows lie in memory. -/
import Derived.Test.YtjnnfnmapigagaaOff
import Derived.Test.YtjnnfnmapigagaaBytes
import Derived.Test.YtjnnfnmapigagaaTx
namespace Go.Proofs.Ytjnnfnmapigagaa
open Go.RowKit

/-- two lists, element by element -/
inductive All2 {α β : Type} (R : α → β → Prop) : List α → List β → Prop
  | nil : All2 R [] []
  | cons {a b l m} : R a b → All2 R l m → All2 R (a :: l) (b :: m)

section
variable {α β : Type} {R Q : α → β → Prop}
theorem All2.length : ∀ {l : List α} {m : List β}, All2 R l m → l.length = m.length
  | _, _, .nil => rfl
  | _, _, .cons _ h => by rw [List.length_cons, List.length_cons, h.length]
theorem All2.get : ∀ {l : List α} {m : List β}, All2 R l m → ∀ {k : Nat} {a b}, l[k]? = some a → m[k]? = some b → R a b
  | _, _, .nil, _, _, _, h, _ => by simp at h
  | _, _, .cons hr h, 0, _, _, ha, hb => by simp at ha hb; subst ha; subst hb; exact hr
  | _, _, .cons hr h, k + 1, _, _, ha, hb => h.get (by simpa using ha) (by simpa using hb)
theorem All2.mono (hQ : ∀ a b, R a b → Q a b) : ∀ {l : List α} {m : List β}, All2 R l m → All2 Q l m
  | _, _, .nil => .nil
  | _, _, .cons hr h => .cons (hQ _ _ hr) (h.mono hQ)
theorem All2.append : ∀ {l : List α} {m : List β} {l' : List α} {m' : List β}, All2 R l m → All2 R l' m' → All2 R (l ++ l') (m ++ m')
  | _, _, _, _, .nil, h => h
  | _, _, _, _, .cons hr h, h' => .cons hr (h.append h')
theorem All2.one {a : α} {b : β} (h : R a b) : All2 R [a] [b] := .cons h .nil
theorem All2.getD {l : List α} {m : List β} (h : All2 R l m) {k : Nat} (hk : k < l.length) (x : α) (y : β) : R (l.getD k x) (m.getD k y) := by
  have hk2 : k < m.length := by rw [← h.length]; exact hk
  exact h.get (k := k) (by simp [hk]) (by simp [hk2])
end

/-- a way in memory, and what it means -/
structure WayV where
  a : Int
  b : Int
  ao : Option Addr
  n : Nat
  c : Nat
structure Way where
  a : Int
  b : Int
  l : List ByteArray

def WayV.v (x : WayV) : Value := .slice x.ao x.n x.c
def dW : WayV := ⟨0, 0, none, 0, 0⟩
def dL : Way := ⟨0, 0, []⟩

instance : Elem WayV where
  e := 67
  t := 27
  k := 3
  bytes := 40
  z := .agg #[.int .i64 0, .int .i64 0, .slice none 0 0]
  enc := fun x => [.int .i64 x.a, .int .i64 x.b, .slice x.ao x.n x.c]
  dflt := dW
  len := fun _ => rfl
  pos := by decide
  one := fun x u hu => by simp at hu; rcases hu with rfl | rfl | rfl <;> rfl
  row := by kernel_rfl
  info := by kernel_rfl
  zsize := rfl
  few := by decide

theorem Sl.ways {w : World} {v : Value} {xs : List WayV} (h : Sl w v xs) :
    (xs = [] ∧ ∃ ao c, v = .slice ao 0 c) ∨
    (∃ b off c, v = .slice (some ⟨b, off, none⟩) xs.length c ∧ xs.length ≤ c ∧ c ≤ 9223372036854775807 ∧ b < w.heap.size ∧ 0 < xs.length ∧
      ∀ j, j < xs.length → w.cell? ⟨b, off + j * 3, none⟩ = some (.int .i64 (xs.getD j dW).a) ∧ w.cell? ⟨b, off + j * 3 + 1, none⟩ = some (.int .i64 (xs.getD j dW).b) ∧ w.cell? ⟨b, off + j * 3 + 2, none⟩ = some (.slice (xs.getD j dW).ao (xs.getD j dW).n (xs.getD j dW).c)) := by
  rcases h.parts with h | ⟨b, off, c, h1, h2, h3, h4, h5, h6⟩
  · exact .inl h
  · refine .inr ⟨b, off, c, h1, h2, h3, h4, h5, fun j hj => ?_⟩
    have e : xs[j]? = some (xs.getD j dW) := by simp [hj]
    refine ⟨?_, ?_, ?_⟩
    · exact h6 j _ e 0 _ rfl
    · have := h6 j _ e 1 _ rfl
      rwa [show off + (j * Elem.k WayV + 1) = off + j * 3 + 1 from by show off + (j * 3 + 1) = _; omega] at this
    · have := h6 j _ e 2 _ rfl
      rwa [show off + (j * Elem.k WayV + 2) = off + j * 3 + 2 from by show off + (j * 3 + 2) = _; omega] at this

def WayAt (F : Nat → Prop) (w : World) (x : WayV) (y : Way) : Prop := x.a = y.a ∧ x.b = y.b ∧ Sa F w x.v y.l
def Ways (F : Nat → Prop) (w : World) (v : Value) (L : List Way) : Prop := ∃ ws : List WayV, Sa F w v ws ∧ All2 (WayAt F w) ws L
theorem WayAt.ext {F : Nat → Prop} {w w' : World} {x : WayV} {y : Way} (h : WayAt F w x y) (e : Ext w w') : WayAt F w' x y := ⟨h.1, h.2.1, h.2.2.ext e⟩
theorem WayAt.off {F G : Nat → Prop} {w w' : World} {x : WayV} {y : Way} (h : WayAt F w x y) (o : Off F w w') (g : Grows F G w) : WayAt G w' x y := ⟨h.1, h.2.1, h.2.2.off o g⟩
theorem Ways.ext {F : Nat → Prop} {w w' : World} {v : Value} {L : List Way} (h : Ways F w v L) (e : Ext w w') : Ways F w' v L := by
  obtain ⟨ws, h1, h2⟩ := h
  exact ⟨ws, h1.ext e, h2.mono fun _ _ h => h.ext e⟩
theorem Ways.off {F G : Nat → Prop} {w w' : World} {v : Value} {L : List Way} (h : Ways F w v L) (o : Off F w w') (g : Grows F G w) : Ways G w' v L := by
  obtain ⟨ws, h1, h2⟩ := h
  exact ⟨ws, h1.off o g, h2.mono fun _ _ h => h.off o g⟩

/-- what is on its way, by the document's rows -/
def rowL : List Way → Int → Int → List ByteArray
  | [], _, _ => []
  | y :: L, a, b => if y.a = a ∧ y.b = b then y.l else rowL L a b
def other (a b : Int) (y : Way) : Bool := !(decide (y.a = a) && decide (y.b = b))
def withL (L : List Way) (a b : Int) (l : List ByteArray) : List Way := ⟨a, b, l⟩ :: L.filter (other a b)
/-- no way twice -/
def Once : List Way → Prop
  | [] => True
  | y :: L => (∀ z ∈ L, other y.a y.b z = true) ∧ Once L

theorem other_iff {a b : Int} {y : Way} : other a b y = true ↔ ¬ (y.a = a ∧ y.b = b) := by
  unfold other
  simp only [Bool.not_eq_true', Bool.and_eq_false_iff, decide_eq_false_iff_not]
  omega

theorem rowL_filter {a b x y : Int} (h : ¬ (x = a ∧ y = b)) : ∀ L : List Way, rowL (L.filter (other a b)) x y = rowL L x y
  | [] => rfl
  | z :: L => by
    have ih := rowL_filter h L
    by_cases hz : other a b z = true
    · rw [List.filter_cons_of_pos hz]
      unfold rowL
      rw [ih]
    · rw [List.filter_cons_of_neg hz, ih]
      have hz2 : z.a = a ∧ z.b = b := by
        rcases Classical.em (z.a = a ∧ z.b = b) with h1 | h1
        · exact h1
        · exact absurd (other_iff.2 h1) hz
      conv => rhs; unfold rowL
      rw [if_neg (by rw [hz2.1, hz2.2]; exact fun e => h ⟨e.1.symm, e.2.symm⟩)]
theorem rowL_with (L : List Way) (a b : Int) (l : List ByteArray) (x y : Int) : rowL (withL L a b l) x y = if x = a ∧ y = b then l else rowL L x y := by
  unfold withL
  conv => lhs; unfold rowL
  by_cases h : x = a ∧ y = b
  · rw [if_pos h, if_pos ⟨h.1.symm, h.2.symm⟩]
  · rw [if_neg h, if_neg (fun e => h ⟨e.1.symm, e.2.symm⟩), rowL_filter h]
theorem Once.filter {p : Way → Bool} : ∀ {L : List Way}, Once L → Once (L.filter p)
  | [], _ => trivial
  | z :: L, h => by
    by_cases hz : p z = true
    · rw [List.filter_cons_of_pos hz]
      exact ⟨fun y hy => h.1 y (List.mem_filter.1 hy).1, h.2.filter⟩
    · rw [List.filter_cons_of_neg hz]
      exact h.2.filter
theorem Once.with {L : List Way} (h : Once L) (a b : Int) (l : List ByteArray) : Once (withL L a b l) := ⟨fun _ hz => (List.mem_filter.1 hz).2, h.filter⟩
theorem Once.row : ∀ {L : List Way}, Once L → ∀ y ∈ L, rowL L y.a y.b = y.l
  | z :: L, h, y, hy => by
    rcases List.mem_cons.1 hy with rfl | hy
    · unfold rowL; rw [if_pos ⟨rfl, rfl⟩]
    · have h1 := other_iff.1 (h.1 y hy)
      unfold rowL
      rw [if_neg (fun e => h1 ⟨e.1.symm, e.2.symm⟩)]
      exact h.2.row y hy
theorem rowL_mem : ∀ {L : List Way} {a b : Int}, rowL L a b ≠ [] → ∃ y ∈ L, y.l = rowL L a b
  | [], _, _, h => absurd rfl h
  | z :: L, a, b, h => by
    unfold rowL at h ⊢
    by_cases e : z.a = a ∧ z.b = b
    · rw [if_pos e] at h ⊢; exact ⟨z, List.mem_cons_self .., rfl⟩
    · rw [if_neg e] at h ⊢
      obtain ⟨y, hy, e⟩ := rowL_mem h
      exact ⟨y, List.mem_cons_of_mem _ hy, e⟩
/-- nothing is on its way -/
theorem quiet_iff {L : List Way} (h : Once L) : (∀ y ∈ L, y.l = []) ↔ ∀ a b, rowL L a b = [] := by
  constructor
  · intro hq a b
    rcases Classical.em (rowL L a b = []) with h1 | h1
    · exact h1
    · obtain ⟨y, hy, e⟩ := rowL_mem h1
      rw [← e]
      exact hq y hy
  · intro hq y hy
    rw [← h.row y hy]
    exact hq _ _

/-- a bit turned -/
def turnAt (s : ByteArray) (bit : Int) : Nat := (if bit = -9223372036854775808 then 0 else bit.natAbs) % (8 * s.size)
def turned (s : ByteArray) (bit : Int) : ByteArray := textN ((bl s).set (turnAt s bit / 8) ((bl s).getD (turnAt s bit / 8) 0 ^^^ 2 ^ (turnAt s bit % 8)))

/-- a net -/
structure NetS where
  n : Nat
  room : Nat
  f : Int → Int → List ByteArray

namespace NetS
def new (n room : Int) : NetS := ⟨(min (max n 0) 64).toNat, (min (max room 0) 1000).toNat, fun _ _ => []⟩
def two (S : NetS) (a b : Int) : Bool := decide (0 ≤ a) && decide (a < S.n) && decide (0 ≤ b) && decide (b < S.n) && decide (a ≠ b)
def put (S : NetS) (a b : Int) (l : List ByteArray) : NetS := ⟨S.n, S.room, fun x y => if x = a ∧ y = b then l else S.f x y⟩
def may (S : NetS) (a b : Int) : Bool := S.two a b && decide ((S.f a b).length < S.room)
def send (S : NetS) (a b : Int) (s : ByteArray) : NetS := if S.may a b = true then S.put a b (S.f a b ++ [s]) else S
def there (S : NetS) (a b k : Int) : Bool := decide (0 ≤ k) && decide (k < ((S.f a b).length : Int))
def look (S : NetS) (a b k : Int) : ByteArray := if S.there a b k = true then (S.f a b).getD k.toNat ⟨#[]⟩ else ⟨#[]⟩
def deliver (S : NetS) (a b k : Int) : NetS := if S.there a b k = true then S.put a b ((S.f a b).eraseIdx k.toNat) else S
def double (S : NetS) (a b k : Int) : NetS := if S.there a b k = true then S.send a b (S.look a b k) else S
def canD (S : NetS) (a b k : Int) : Bool := S.there a b k && S.may a b
def canF (S : NetS) (a b k : Int) : Bool := S.there a b k && !decide ((S.look a b k).size = 0)
def flip (S : NetS) (a b k bit : Int) : NetS := if S.canF a b k = true then S.put a b ((S.f a b).set k.toNat (turned (S.look a b k) bit)) else S
structure Ok (S : NetS) : Prop where
  nodes : S.n ≤ 64
  rooms : S.room ≤ 1000
  few : ∀ a b, (S.f a b).length ≤ S.room
  none : ∀ a b, S.two a b = false → S.f a b = []
  short : ∀ a b, ∀ s ∈ S.f a b, s.size ≤ 1000
end NetS
end Go.Proofs.Ytjnnfnmapigagaa
