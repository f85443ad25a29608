/- Who dines: sides, mail, diners, as they lie in memory; scenes. -/
import Derived.Test.YtogbjpipkegecaaNs
namespace Go.Proofs.Ytogbjpipkegecaa
open Go.RowKit

structure Sd where
  peer : Int
  epoch : Int
  state : Int
  fork : Bool
  dirty : Bool
  token : Bool
  bottle : Bool
  ask : Bool
deriving DecidableEq
def Sd.zero : Sd := ⟨0, 0, 0, false, false, false, false, false⟩
def Sd.cs (x : Sd) : Array Value := #[.int .i64 x.peer, .int .i64 x.epoch, .int .i64 x.state, .bool x.fork, .bool x.dirty, .bool x.token, .bool x.bottle, .bool x.ask]
instance : Elem Sd where
  e := 47
  t := 23
  k := 8
  bytes := 32
  z := .agg #[.int .i64 0, .int .i64 0, .int .i64 0, .bool false, .bool false, .bool false, .bool false, .bool false]
  enc := fun x => [.int .i64 x.peer, .int .i64 x.epoch, .int .i64 x.state, .bool x.fork, .bool x.dirty, .bool x.token, .bool x.bottle, .bool x.ask]
  dflt := ⟨0, 0, 0, false, false, false, false, false⟩
  len := fun _ => rfl
  pos := by decide
  one := fun x u hu => by simp at hu; rcases hu with rfl | rfl | rfl | rfl | rfl | rfl | rfl | rfl <;> rfl
  row := by kernel_rfl
  info := by kernel_rfl
  zsize := rfl
  few := by decide

structure Ml where
  from_ : Int
  to_ : Int
  kind : Int
  epoch : Int
  num : Int
deriving DecidableEq
instance : Elem Ml where
  e := 49
  t := 27
  k := 5
  bytes := 40
  z := .agg #[.int .i64 0, .int .i64 0, .int .i64 0, .int .i64 0, .int .i64 0]
  enc := fun x => [.int .i64 x.from_, .int .i64 x.to_, .int .i64 x.kind, .int .i64 x.epoch, .int .i64 x.num]
  dflt := ⟨0, 0, 0, 0, 0⟩
  len := fun _ => rfl
  pos := by decide
  one := fun x u hu => by simp at hu; rcases hu with rfl | rfl | rfl | rfl | rfl <;> rfl
  row := by kernel_rfl
  info := by kernel_rfl
  zsize := rfl
  few := by decide

/-- a diner's cells; what it is -/
structure DV where
  id : Int
  phase : Int
  ao : Option Addr
  n : Nat
  c : Nat
structure Dn where
  id : Int
  phase : Int
  sides : List Sd
deriving DecidableEq
theorem Sl.sidesAt {w : World} {ao : Option Addr} {n c : Nat} {L : List Sd} (h : Sl w (.slice ao n c) L) {k : Nat} (hk : k < L.length) :
    ∃ b off, ∃ y : Sd, y = L.getD k Sd.zero ∧ L[k]? = some y ∧ ao = some ⟨b, off, none⟩ ∧ n = L.length ∧ n ≤ c ∧ c ≤ 9223372036854775807 ∧ b < w.heap.size ∧
      ∀ W, Ext w W → (((W.cell? ⟨b, off + k * 8, none⟩ = some (.int .i64 y.peer) ∧ W.cell? ⟨b, off + k * 8 + 1, none⟩ = some (.int .i64 y.epoch)) ∧ W.cell? ⟨b, off + k * 8 + 2, none⟩ = some (.int .i64 y.state) ∧ W.cell? ⟨b, off + k * 8 + 3, none⟩ = some (.bool y.fork)) ∧
        (W.cell? ⟨b, off + k * 8 + 4, none⟩ = some (.bool y.dirty) ∧ W.cell? ⟨b, off + k * 8 + 5, none⟩ = some (.bool y.token)) ∧ W.cell? ⟨b, off + k * 8 + 6, none⟩ = some (.bool y.bottle) ∧ W.cell? ⟨b, off + k * 8 + 7, none⟩ = some (.bool y.ask)) := by
  rcases h.parts with ⟨rfl, _⟩ | ⟨b, off, c', hv, h1, h2, h3, _, h4⟩
  · simp at hk
  · simp only [Value.slice.injEq] at hv
    obtain ⟨rfl, rfl, rfl⟩ := hv
    have e : L[k]? = some (L.getD k Sd.zero) := by simp [hk]
    refine ⟨b, off, _, rfl, e, rfl, rfl, h1, h2, h3, fun W hW => ?_⟩
    have g : ∀ i u, (Elem.enc (L.getD k Sd.zero))[i]? = some u → W.cell? ⟨b, off + k * 8 + i, none⟩ = some u := fun i u hu => by
      have := h4 k _ e i u hu
      rw [show off + (k * Elem.k Sd + i) = off + k * 8 + i from by show off + (k * 8 + i) = _; omega] at this
      exact (hW.cell (p := ⟨b, off + k * 8 + i, none⟩) h3).trans this
    exact ⟨⟨⟨g 0 _ rfl, g 1 _ rfl⟩, g 2 _ rfl, g 3 _ rfl⟩, ⟨g 4 _ rfl, g 5 _ rfl⟩, g 6 _ rfl, g 7 _ rfl⟩
theorem Sl.mailAt {w : World} {ao : Option Addr} {n c : Nat} {L : List Ml} (h : Sl w (.slice ao n c) L) {k : Nat} (hk : k < L.length) :
    ∃ b off, ∃ y : Ml, y = L.getD k ⟨0, 0, 0, 0, 0⟩ ∧ L[k]? = some y ∧ ao = some ⟨b, off, none⟩ ∧ n = L.length ∧ n ≤ c ∧ c ≤ 9223372036854775807 ∧ b < w.heap.size ∧
      ∀ W, Ext w W → (W.cell? ⟨b, off + k * 5, none⟩ = some (.int .i64 y.from_) ∧ W.cell? ⟨b, off + k * 5 + 1, none⟩ = some (.int .i64 y.to_)) ∧ W.cell? ⟨b, off + k * 5 + 2, none⟩ = some (.int .i64 y.kind) ∧ W.cell? ⟨b, off + k * 5 + 3, none⟩ = some (.int .i64 y.epoch) ∧ W.cell? ⟨b, off + k * 5 + 4, none⟩ = some (.int .i64 y.num) := by
  rcases h.parts with ⟨rfl, _⟩ | ⟨b, off, c', hv, h1, h2, h3, _, h4⟩
  · simp at hk
  · simp only [Value.slice.injEq] at hv
    obtain ⟨rfl, rfl, rfl⟩ := hv
    have e : L[k]? = some (L.getD k ⟨0, 0, 0, 0, 0⟩) := by simp [hk]
    refine ⟨b, off, _, rfl, e, rfl, rfl, h1, h2, h3, fun W hW => ?_⟩
    have g : ∀ i u, (Elem.enc (L.getD k ⟨0, 0, 0, 0, 0⟩))[i]? = some u → W.cell? ⟨b, off + k * 5 + i, none⟩ = some u := fun i u hu => by
      have := h4 k _ e i u hu
      rw [show off + (k * Elem.k Ml + i) = off + k * 5 + i from by show off + (k * 5 + i) = _; omega] at this
      exact (hW.cell (p := ⟨b, off + k * 5 + i, none⟩) h3).trans this
    exact ⟨⟨g 0 _ rfl, g 1 _ rfl⟩, g 2 _ rfl, g 3 _ rfl, g 4 _ rfl⟩
end Go.Proofs.Ytogbjpipkegecaa
