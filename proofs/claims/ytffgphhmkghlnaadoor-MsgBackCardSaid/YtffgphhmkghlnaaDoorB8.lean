/- Bytes being written: a slice of bytes of the call's own, and it as a text. -/
import Derived.Test.YtffgphhmkghlnaaDoorM4
import Derived.Lib.AppendStr
namespace Go.Proofs.YtffgphhmkghlnaaDoor
open Go.RowKit

structure B8 where
  n : Nat

instance : Elem B8 where
  e := 5
  t := 39
  k := 1
  bytes := 1
  z := .int .u8 0
  enc := fun x => [.int .u8 (x.n : Int)]
  dflt := ⟨0⟩
  len := fun _ => rfl
  pos := by decide
  one := fun x u hu => by simp at hu; subst hu; rfl
  row := by kernel_rfl
  info := by kernel_rfl
  zsize := rfl
  few := by decide

def b8 (l : List Nat) : List B8 := l.map B8.mk
theorem b8_length (l : List Nat) : (b8 l).length = l.length := by unfold b8; rw [List.length_map]
theorem b8_append (l m : List Nat) : b8 (l ++ m) = b8 l ++ b8 m := by unfold b8; rw [List.map_append]
theorem cells_b : ∀ l : List Nat, cellsOf (b8 l) = l.map fun b : Nat => Value.int .u8 (b : Int)
  | [] => rfl
  | a :: l => by
    have ih := cells_b l
    show Elem.enc (B8.mk a) ++ cellsOf (b8 l) = _
    rw [ih]
    rfl
theorem cells_text (s : ByteArray) : Lib.strCells s = (bl s).map fun b : Nat => Value.int .u8 (b : Int) := by
  unfold Lib.strCells bl
  rw [List.map_map]
  rfl

/-- string(b) -/
theorem text_ow {w : World} {B : Nat} {v : Value} {l : List Nat} (h : Ow w B v (b8 l)) (hl : l ≠ []) :
    ∃ g c, v = .slice (some ⟨g, 0, none⟩) l.length c ∧ g < w.heap.size ∧ (convert 39 9 (.slice (some ⟨g, 0, none⟩) l.length c)).run Tryd.prog w = .ok (.string (textN l)) w := by
  unfold Ow at h
  rw [b8_length, cells_b] at h
  rcases h.2 with ⟨_, h0⟩ | ⟨g, cap, cur, rfl, _, hh, _, _, _, _⟩
  · exact absurd (List.eq_nil_of_length_eq_zero h0) hl
  · have hg := (Array.getElem?_eq_some_iff.1 hh).1
    refine ⟨g, cap, rfl, hg, ?_⟩
    have := run_convert_bytes_arg (P := Tryd.prog) w 39 5 (by kernel_rfl) (by kernel_rfl) g 0 l.length cap (l.map fun b : Nat => (b : Int)) (by simp) (fun i hi => by
      rw [Nat.zero_add]
      have h3 := h.cellAt (g := g) i (by show i < l.length * 1; omega)
      rw [h3]
      simp [hi]) 9 (by kernel_rfl)
    rw [this]
    have e : strOfNums (l.map fun b : Nat => (b : Int)) = textN l := by
      unfold strOfNums textN
      rw [List.map_map]
      rfl
    rw [e]

/-- string(b[:n]) -/
theorem text_cut {w : World} {B : Nat} {v : Value} {l : List Nat} (h : Ow w B v (b8 l)) (hl : l ≠ []) :
    ∃ g c, v = .slice (some ⟨g, 0, none⟩) l.length c ∧ l.length ≤ c ∧ c ≤ 9223372036854775807 ∧ ∀ n, n ≤ l.length → (convert 39 9 (.slice (some ⟨g, 0, none⟩) n c)).run Tryd.prog w = .ok (.string (textN (l.take n))) w := by
  unfold Ow at h
  rw [b8_length, cells_b] at h
  rcases h.2 with ⟨_, h0⟩ | ⟨g, cap, cur, rfl, _, hh, h1, h2, _, _⟩
  · exact absurd (List.eq_nil_of_length_eq_zero h0) hl
  · refine ⟨g, cap, rfl, h1, by simpa only [maxLen] using h2, fun n hn => ?_⟩
    have := run_convert_bytes_arg (P := Tryd.prog) w 39 5 (by kernel_rfl) (by kernel_rfl) g 0 n cap ((l.take n).map fun b : Nat => (b : Int)) (by simp; omega) (fun i hi => by
      rw [Nat.zero_add]
      have h3 := h.cellAt (g := g) i (by show i < l.length * 1; omega)
      rw [h3]
      have hil : i < l.length := by omega
      simp [hi, hil]) 9 (by kernel_rfl)
    rw [this]
    have e : strOfNums ((l.take n).map fun b : Nat => (b : Int)) = textN (l.take n) := by
      unfold strOfNums textN
      rw [List.map_map]
      rfl
    rw [e]
end Go.Proofs.YtffgphhmkghlnaaDoor
