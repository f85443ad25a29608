/- Layer 17, the law: rows of acts; whether little is done. -/
import Derived.Test.YtgcnjkabpcbkgaaH0
namespace Go.Proofs.Ytgcnjkabpcbkgaa
open Go.RowKit

abbrev Akt := Int × Int × Int × List Int
/-- an act's cells -/
structure AV where
  k : Int
  a : Int
  b : Int
  ao : Option Addr
  n : Nat
  c : Nat
instance : Elem AV where
  e := 27
  t := 31
  k := 4
  bytes := 48
  z := .agg #[.int .i64 0, .int .i64 0, .int .i64 0, .slice none 0 0]
  enc := fun x => [.int .i64 x.k, .int .i64 x.a, .int .i64 x.b, .slice x.ao x.n x.c]
  dflt := ⟨0, 0, 0, none, 0, 0⟩
  len := fun _ => rfl
  pos := by decide
  one := fun x u hu => by simp at hu; rcases hu with rfl | rfl | rfl | rfl <;> rfl
  row := by kernel_rfl
  info := by kernel_rfl
  zsize := rfl
  few := by decide
structure RdA (F : Nat → Prop) (w : World) (x : AV) (d : Akt) : Prop where
  k : x.k = d.1
  a : x.a = d.2.1
  b : x.b = d.2.2.1
  need : Sa F w (.slice x.ao x.n x.c) d.2.2.2
instance : Nest AV Akt where
  rd := RdA
  off := fun h o g => ⟨h.k, h.a, h.b, h.need.off o g⟩
/-- the j-th of a row of acts -/
theorem Ns.actAt {F : Nat → Prop} {w : World} {ao : Option Addr} {n c : Nat} {L : List Akt} (h : Ns AV F w (.slice ao n c) L) {k : Nat} (hk : k < L.length) :
    ∃ b off so sc, ∃ y : Akt, L[k]? = some y ∧ ao = some ⟨b, off, none⟩ ∧ n = L.length ∧ n ≤ c ∧ c ≤ 9223372036854775807 ∧ b < w.heap.size ∧ Sa F w (.slice so y.2.2.2.length sc) y.2.2.2 ∧
      ∀ W, Ext w W → (W.cell? ⟨b, off + k * 4, none⟩ = some (.int .i64 y.1) ∧ W.cell? ⟨b, off + k * 4 + 1, none⟩ = some (.int .i64 y.2.1)) ∧ W.cell? ⟨b, off + k * 4 + 2, none⟩ = some (.int .i64 y.2.2.1) ∧ W.cell? ⟨b, off + k * 4 + 3, none⟩ = some (.slice so y.2.2.2.length sc) := by
  obtain ⟨b, off, x, d, h1, h2, h3, h4, h5, h6, h7, h8⟩ := h.at hk
  obtain ⟨e1, e2, e3, e4⟩ : RdA F w x d := h8
  obtain ⟨so, sc, hv⟩ := e4.sl.len
  refine ⟨b, off, so, sc, d, h1, h2, h3, h4, h5, h6, hv ▸ e4, fun W hW => ?_⟩
  have g : ∀ i u, (Elem.enc x)[i]? = some u → W.cell? ⟨b, off + k * 4 + i, none⟩ = some u := fun i u hu => by
    have := h7 i u hu
    rw [show off + (k * Elem.k AV + i) = off + k * 4 + i from by show off + (k * 4 + i) = _; omega] at this
    exact (hW.cell (p := ⟨b, off + k * 4 + i, none⟩) h6).trans this
  have q0 := g 0 _ rfl
  have q1 := g 1 _ rfl
  have q2 := g 2 _ rfl
  have q3 := g 3 _ rfl
  rw [e1] at q0
  rw [e2] at q1
  rw [e3] at q2
  rw [hv] at q3
  exact ⟨⟨q0, q1⟩, q2, q3⟩
/-- is little done? -/
def fewA (l : List Akt) : Bool := ((l.take 61).all fun x => decide (x.2.2.2.length ≤ 70)) && decide (l.length ≤ 60)
theorem fewA_yes {l : List Akt} : fewA l = true ↔ l.length ≤ 60 ∧ ∀ x ∈ l, x.2.2.2.length ≤ 70 := by
  unfold fewA
  simp only [Bool.and_eq_true, decide_eq_true_eq, List.all_eq_true]
  constructor
  · rintro ⟨h1, h2⟩
    exact ⟨h2, fun x hx => h1 x (by rw [List.take_of_length_le (by omega)]; exact hx)⟩
  · rintro ⟨h1, h2⟩
    exact ⟨fun x hx => h2 x (List.mem_of_mem_take hx), h1⟩
theorem all_nextA {p : Akt → Bool} {l : List Akt} {k : Nat} {y : Akt} (h : l[k]? = some y) : (l.take (k + 1)).all p = ((l.take k).all p && p y) := by
  obtain ⟨hk, e⟩ := List.getElem?_eq_some_iff.1 h
  rw [List.take_succ_eq_append_getElem hk, List.all_append, e]
  simp
theorem all_cutA {p : Akt → Bool} {l : List Akt} {k m : Nat} (hk : k ≤ m) (h : (l.take k).all p = false) : (l.take m).all p = false := by
  cases hq : (l.take m).all p
  · rfl
  · rw [List.all_eq_true] at hq
    rw [← h]
    symm
    rw [List.all_eq_true]
    exact fun x hx => hq x ((List.take_subset_take_left l hk) hx)

end Go.Proofs.Ytgcnjkabpcbkgaa
