/- Bytes: texts as new blocks. -/
import Derived.Test.YtlakolkpfkakoaaGreatDoorMA
import Derived.Laws.BytesArg
import Derived.Laws.BytesString
import Derived.Laws.IdiomStrings
namespace Go.Proofs.YtlakolkpfkakoaaGreatDoor
open Go.RowKit
theorem text_of_new (xs : List Int) (n : Nat) (hn : xs.length = n) (C : Array Value) (hC : C = (xs.map (Value.int .u8)).toArray) (W : World) (c : Nat) :
    (convert 114 9 (.slice (some ⟨W.heap.size, 0, none⟩) n c)).run Tryz.prog (W.alloc (.cells C 5)) = .ok (.string (strOfNums xs)) (W.alloc (.cells C 5)) := by
  subst hC
  refine run_convert_bytes_arg (P := Tryz.prog) (W.alloc _) 114 5 (by kernel_rfl) (by kernel_rfl) W.heap.size 0 n c xs hn (fun i hi => ?_) 9 (by kernel_rfl)
  have h : i < xs.length := by omega
  have : (W.alloc (.cells (xs.map (Value.int .u8)).toArray 5)).cell? ⟨W.heap.size, 0 + i, none⟩ = (xs.map (Value.int .u8)).toArray[0 + i]? := World.cell?_alloc_new W _ _ _
  rw [this]
  simp [h]

theorem text_one (W : World) (n : Nat) (x : Int) (hn : W.heap.size = n) :
    (convert 114 9 (.slice (some ⟨n, 0, none⟩) 1 1)).run Tryz.prog (W.alloc (.cells #[.int .u8 x] 5)) = .ok (.string ⟨#[UInt8.ofNat x.toNat]⟩) (W.alloc (.cells #[.int .u8 x] 5)) :=
  hn ▸ text_of_new [x] 1 rfl _ rfl W 1
theorem text_later (xs : List Int) (W W' : World) (x : Ext (W.alloc (.cells (xs.map (Value.int .u8)).toArray 5)) W') :
    (convert 114 9 (.slice (some ⟨W.heap.size, 0, none⟩) xs.length xs.length)).run Tryz.prog W' = .ok (.string (strOfNums xs)) W' := by
  refine run_convert_bytes_arg (P := Tryz.prog) W' 114 5 (by kernel_rfl) (by kernel_rfl) W.heap.size 0 xs.length xs.length xs rfl (fun i hi => ?_) 9 (by kernel_rfl)
  rw [Nat.zero_add]
  exact cell_at W' x (by simp [hi])

end Go.Proofs.YtlakolkpfkakoaaGreatDoor

/- A slice of bytes of one's own, made of a text: its block, known byte by byte. -/
namespace Go.Proofs.YtlakolkpfkakoaaGreatDoor
open Go.RowKit
def Byt (w : World) (g : Nat) (l : List Nat) : Prop :=
  ∃ C : Array Value, ∃ m : Nat, w.heap[g]? = some (.cells C 5 (m, m + 1)) ∧ C.size ≤ m ∧ l.length ≤ C.size ∧ ∀ i, i < l.length → C[i]? = some (.int .u8 ((l.getD i 0 : Nat) : Int))

theorem Byt.cell {w : World} {g : Nat} {l : List Nat} (h : Byt w g l) (i : Nat) (hi : i < l.length) : w.cell? ⟨g, i, none⟩ = some (.int .u8 ((l.getD i 0 : Nat) : Int)) := by
  obtain ⟨C, m, h1, _, _, h4⟩ := h
  exact blk_cell h1 i (h4 i hi)

theorem Byt.free {w : World} {g : Nat} {l : List Nat} (h : Byt w g l) (i : Nat) (hi : i < l.length) : w.frozen? ⟨g, i, none⟩ = false := by
  obtain ⟨C, m, h1, h2, h3, _⟩ := h
  simp [World.frozen?, h1]
  omega

theorem Byt.lt {w : World} {g : Nat} {l : List Nat} (h : Byt w g l) : g < w.heap.size := by
  obtain ⟨C, m, h1, _⟩ := h
  exact blk_lt h1

theorem Byt.set {w : World} {g : Nat} {l : List Nat} (h : Byt w g l) (j x : Nat) (hj : j < l.length) : Byt (w.setCell ⟨g, j, none⟩ (.int .u8 x)) g (l.set j x) := by
  obtain ⟨C, m, h1, h2, h3, h4⟩ := h
  refine ⟨_, m, blk_set h1 j _, by simpa using h2, by simpa using h3, fun i hi => ?_⟩
  rw [List.length_set] at hi
  by_cases hij : j = i
  · subst hij
    simp [Array.getElem?_setIfInBounds, hi]
    omega
  · rw [Array.getElem?_setIfInBounds_ne hij, h4 i hi]
    simp [List.getD, hij]

theorem Byt.drewN {w : World} {g : Nat} {l : List Nat} (h : Byt w g l) (q : Nat) : Byt (w.drewN q) g l := h

theorem Byt.ext {w w' : World} {g : Nat} {l : List Nat} (h : Byt w g l) (x : Ext w w') : Byt w' g l := by
  have hlt := h.lt
  obtain ⟨C, m, h1, h2, h3, h4⟩ := h
  exact ⟨C, m, (x.block g hlt).trans h1, h2, h3, h4⟩
theorem Byt.text {w : World} {g : Nat} {l : List Nat} (h : Byt w g l) (n c : Nat) (hn : l.length = n) :
    (convert 114 9 (.slice (some ⟨g, 0, none⟩) n c)).run Tryz.prog w = .ok (.string (textN l)) w := by
  have := run_convert_bytes_arg (P := Tryz.prog) w 114 5 (by kernel_rfl) (by kernel_rfl) g 0 n c (l.map fun b : Nat => (b : Int)) (by simpa using hn) (fun i hi => by
    have h2 : i < l.length := by omega
    rw [Nat.zero_add, h.cell i h2]
    simp [List.getD, h2]) 9 (by kernel_rfl)
  rw [this]
  have e : strOfNums (l.map fun b : Nat => (b : Int)) = textN l := by
    unfold strOfNums textN
    rw [List.map_map]
    rfl
  rw [e]

noncomputable def capB (w : World) (s : ByteArray) : Nat := grownCap w s.size 0 5
noncomputable def newB (w : World) (s : ByteArray) : World := w.drew.alloc (.cells (bytesRow s (capB w s)) 5 ((bytesRow s (capB w s)).size, (bytesRow s (capB w s)).size + 1))

theorem bytes_of (w : World) (s : ByteArray) : (convert 9 114 (.string s)).run Tryz.prog w = .ok (.slice (some ⟨w.heap.size, 0, none⟩) s.size (capB w s)) (newB w s) :=
  run_bytes_of_string w 9 114 5 s (by kernel_rfl) (by kernel_rfl) (by kernel_rfl)

theorem newB_ext (w : World) (s : ByteArray) : Ext w (newB w s) := ((Ext.refl w).drew).alloc _

theorem newB_byt (w : World) (s : ByteArray) : Byt (newB w s) w.heap.size (bl s) := by
  refine ⟨bytesRow s (capB w s), (bytesRow s (capB w s)).size, ?_, Nat.le_refl _, ?_, fun i hi => ?_⟩
  · show (w.heap.push _)[w.heap.size]? = _
    simp
  · rw [bl_length]
    unfold bytesRow
    rw [Array.size_append, Array.size_map]
    exact Nat.le_add_right _ _
  · have hi2 : i < s.data.size := by rw [bl_length] at hi; exact hi
    rw [bytesRow_at s _ i hi2]
    congr 2
    rw [← bl_at s hi2]
    rfl
end Go.Proofs.YtlakolkpfkakoaaGreatDoor
