/- Bytes: texts as lists of numbers. -/
import Derived.Test.YtefkjclkondmeaaBase
import Derived.Laws.BitsAll
import Derived.Laws.Concat
namespace Go.Proofs.Ytefkjclkondmeaa
open Go.RowKit

/-- a text's bytes, as numbers -/
def bl (s : ByteArray) : List Nat := s.data.toList.map UInt8.toNat

theorem bl_length (s : ByteArray) : (bl s).length = s.size := by unfold bl; rw [List.length_map]; rfl

theorem bl_lt (s : ByteArray) : ∀ b ∈ bl s, b < 256 := by
  intro b hb
  obtain ⟨x, _, rfl⟩ := List.mem_map.1 hb
  exact x.toNat_lt

theorem bl_at (s : ByteArray) {k : Nat} (h : k < s.size) : (s[k]'h).toNat = (bl s).getD k 0 := by
  have h2 : k < (bl s).length := by rw [bl_length]; exact h
  rw [List.getD_eq_getElem?_getD, List.getElem?_eq_getElem h2]
  simp [bl]
  rfl

theorem add_plain (b off i : Nat) : (⟨b, off, none⟩ : Addr).add i = ⟨b, off + i, none⟩ := by unfold Addr.add; split <;> simp_all

def textN (l : List Nat) : ByteArray := ⟨(l.map UInt8.ofNat).toArray⟩

theorem tl_eq (a b : ByteArray) : (a.toList == b.toList) = decide (a = b) := by
  rw [ByteArray.toList_eq, ByteArray.toList_eq]
  by_cases h : a = b
  · subst h; simp
  · have : ¬ a.data.toList = b.data.toList := fun e => h (ByteArray.ext (Array.toList_inj.1 e))
    rw [decide_eq_false h]; exact beq_eq_false_iff_ne.2 this

theorem bl_append (a b : ByteArray) : bl (a ++ b) = bl a ++ bl b := by
  unfold bl
  rw [ByteArray.data_append, Array.toList_append, List.map_append]

theorem bl_nil : bl ⟨#[]⟩ = [] := rfl

theorem textN_inj {l m : List Nat} (hl : ∀ b ∈ l, b < 256) (hm : ∀ b ∈ m, b < 256) (h : textN l = textN m) : l = m := by
  unfold textN at h
  have h2 : l.map UInt8.ofNat = m.map UInt8.ofNat := by
    have := congrArg (fun s : ByteArray => s.data.toList) h
    simpa using this
  have back : ∀ (l : List Nat), (∀ b ∈ l, b < 256) → (l.map UInt8.ofNat).map UInt8.toNat = l := by
    intro l hl
    rw [List.map_map]
    conv => rhs; rw [← List.map_id l]
    refine List.map_congr_left fun b hb => ?_
    have := hl b hb
    simp
    omega
  rw [← back l hl, ← back m hm, h2]

theorem textN_size (l : List Nat) : (textN l).size = l.length := by
  show (l.map UInt8.ofNat).toArray.size = _
  simp

theorem textN_append (l m : List Nat) : textN l ++ textN m = textN (l ++ m) := by
  apply ByteArray.ext
  rw [ByteArray.data_append]
  simp [textN]

theorem bl_textN {l : List Nat} (h : ∀ b ∈ l, b < 256) : bl (textN l) = l := by
  unfold bl textN
  show ((l.map UInt8.ofNat).toArray.toList).map UInt8.toNat = l
  rw [List.map_map]
  conv => rhs; rw [← List.map_id l]
  refine List.map_congr_left fun b hb => ?_
  have := h b hb
  simp
  omega

theorem textN_bl (s : ByteArray) : textN (bl s) = s := by
  apply ByteArray.ext
  unfold bl textN
  simp only [List.map_map]
  have : (UInt8.ofNat ∘ UInt8.toNat) = id := by funext x; simp
  rw [this]
  simp

theorem bl_inj {s t : ByteArray} (h : bl s = bl t) : s = t := by rw [← textN_bl s, h, textN_bl]

theorem bl_extract (s : ByteArray) (i j : Nat) : bl (s.extract i j) = ((bl s).drop i).take (j - i) := by
  unfold bl
  rw [ByteArray.data_extract, Array.toList_extract, List.extract_eq_drop_take', List.map_drop, List.map_take]
  rw [List.drop_take]

theorem cell_at {w : World} {cs : Array Value} {t : TypeId} {i : Nat} {v : Value} (W : World) (hW : Ext (w.alloc (.cells cs t)) W) (hv : cs[i]? = some v) : W.cell? ⟨w.heap.size, i, none⟩ = some v := by
  have hb : (w.alloc (.cells cs t)).heap[w.heap.size]? = some (.cells cs t) := get_alloc_new w _
  have h2 := hW.block w.heap.size (by rw [size_alloc]; omega)
  exact blk_cell (h2.trans hb) i hv
end Go.Proofs.Ytefkjclkondmeaa
