/- Layer 17: sessions and books, as they lie in memory. -/
import Derived.Test.YtgcnjkabpcbkgaaHN
import Derived.Test.YtgcnjkabpcbkgaaHK
import Derived.Test.YtgcnjkabpcbkgaaElem3
import Derived.Test.YtgcnjkabpcbkgaaNs
import Derived.Test.YtgcnjkabpcbkgaaRowN
namespace Go.Proofs.Ytgcnjkabpcbkgaa
open Go.RowKit

/-- a session's cells -/
structure HV where
  id : Int
  ao : Option Addr
  n : Nat
  c : Nat
  state : Int
  age : Int
instance : Elem HV where
  e := 41
  t := 22
  k := 4
  bytes := 48
  z := .agg #[.int .i64 0, .slice none 0 0, .int .i64 0, .int .i64 0]
  enc := fun x => [.int .i64 x.id, .slice x.ao x.n x.c, .int .i64 x.state, .int .i64 x.age]
  dflt := ⟨0, none, 0, 0, 0, 0⟩
  len := fun _ => rfl
  pos := by decide
  one := fun x u hu => by simp at hu; rcases hu with rfl | rfl | rfl | rfl <;> rfl
  row := by kernel_rfl
  info := by kernel_rfl
  zsize := rfl
  few := by decide
structure RdH (F : Nat → Prop) (w : World) (x : HV) (d : Se) : Prop where
  id : x.id = d.id
  need : Sa F w (.slice x.ao x.n x.c) d.need
  state : x.state = d.state
  age : x.age = d.age
instance : Nest HV Se where
  rd := RdH
  off := fun h o g => ⟨h.id, h.need.off o g, h.state, h.age⟩

/-- the j-th of a row of sessions -/
theorem Ns.sessAt {F : Nat → Prop} {w : World} {ao : Option Addr} {n c : Nat} {L : List Se} (h : Ns HV F w (.slice ao n c) L) {k : Nat} (hk : k < L.length) :
    ∃ b off no nc, ∃ d : Se, L[k]? = some d ∧ ao = some ⟨b, off, none⟩ ∧ n = L.length ∧ n ≤ c ∧ c ≤ 9223372036854775807 ∧ b < w.heap.size ∧ Sa F w (.slice no d.need.length nc) d.need ∧
      ∀ W, Ext w W → (W.cell? ⟨b, off + k * 4, none⟩ = some (.int .i64 d.id) ∧ W.cell? ⟨b, off + k * 4 + 1, none⟩ = some (.slice no d.need.length nc)) ∧ W.cell? ⟨b, off + k * 4 + 2, none⟩ = some (.int .i64 d.state) ∧ W.cell? ⟨b, off + k * 4 + 3, none⟩ = some (.int .i64 d.age) := by
  obtain ⟨b, off, x, d, h1, h2, h3, h4, h5, h6, h7, h8⟩ := h.at hk
  obtain ⟨e1, e2, e3, e4⟩ : RdH F w x d := h8
  obtain ⟨so, sc, hv⟩ := e2.sl.len
  refine ⟨b, off, so, sc, d, h1, h2, h3, h4, h5, h6, hv ▸ e2, fun W hW => ?_⟩
  have g : ∀ i u, (Elem.enc x)[i]? = some u → W.cell? ⟨b, off + k * 4 + i, none⟩ = some u := fun i u hu => by
    have := h7 i u hu
    rw [show off + (k * Elem.k HV + i) = off + k * 4 + i from by show off + (k * 4 + i) = _; omega] at this
    exact (hW.cell (p := ⟨b, off + k * 4 + i, none⟩) h6).trans this
  have q0 := g 0 _ rfl
  have q1 := g 1 _ rfl
  have q2 := g 2 _ rfl
  have q3 := g 3 _ rfl
  rw [e1] at q0
  rw [hv] at q1
  rw [e3] at q2
  rw [e4] at q3
  exact ⟨⟨q0, q1⟩, q2, q3⟩
theorem uBook : ∃ fs, Try.prog.underlying 24 = some (.struct fs) := ⟨_, Try.underlying24⟩
theorem uSess : ∃ fs, Try.prog.underlying 41 = some (.struct fs) := ⟨_, Try.underlying41⟩
/-- what is answered: a book (apart from F) and what is wrong -/
def GivesBk (F : Nat → Prop) (w : World) (r : Bk × Int) (e : Ending) (w' : World) : Prop := ∃ ao m c, e = .returned (.tuple #[.agg #[.int .i64 r.1.1, .slice ao m c], .int .i64 r.2]) ∧ Ns HV F w' (.slice ao m c) r.1.2 ∧ Ext w w'
/-- .. a book, a number, what is wrong -/
def GivesBkN (F : Nat → Prop) (w : World) (r : Bk × Int × Int) (e : Ending) (w' : World) : Prop := ∃ ao m c, e = .returned (.tuple #[.agg #[.int .i64 r.1.1, .slice ao m c], .int .i64 r.2.1, .int .i64 r.2.2]) ∧ Ns HV F w' (.slice ao m c) r.1.2 ∧ Ext w w'
/-- .. a book, numbers, what is wrong -/
def GivesBkL (F : Nat → Prop) (w : World) (r : Bk × List Int × Int) (e : Ending) (w' : World) : Prop := ∃ ao m c bo k d, e = .returned (.tuple #[.agg #[.int .i64 r.1.1, .slice ao m c], .slice bo k d, .int .i64 r.2.2]) ∧ Ns HV F w' (.slice ao m c) r.1.2 ∧ Sa F w' (.slice bo k d) r.2.1 ∧ Ext w w'
theorem givesBk_no {F : Nat → Prop} {w W : World} {r : Bk × Int} {er : Int} (h : r = (noH, er)) (x : Ext w W) : GivesBk F w r (.returned (.tuple #[.agg #[.int .i64 0, .slice none 0 0], .int .i64 er])) W := by
  subst h
  exact ⟨_, _, _, rfl, Ns.nil _ _, x⟩
theorem givesBkN_no {F : Nat → Prop} {w W : World} {r : Bk × Int × Int} {er : Int} (h : r = (noH, 0, er)) (x : Ext w W) : GivesBkN F w r (.returned (.tuple #[.agg #[.int .i64 0, .slice none 0 0], .int .i64 0, .int .i64 er])) W := by
  subst h
  exact ⟨_, _, _, rfl, Ns.nil _ _, x⟩
end Go.Proofs.Ytgcnjkabpcbkgaa
