/- The document's answers for numbers: whether one is there, whether two are the same; numbers that are made; a graph's block. -/
import Derived.Test.YtdfleocknaackaaGreatMG9
import Derived.Test.YtdfleocknaackaaGreatS3
import Derived.Deep.RegionLaw
import Derived.Deep.QuietTactic
import Derived.BigQuiet
namespace Go.Proofs.YtdfleocknaackaaGreat
open Go.RowKit Go.Sort

theorem take_succ_mem {xs : List Int} {k : Nat} (hk : k < xs.length) (x : Int) : x ∈ xs.take (k + 1) ↔ x ∈ xs.take k ∨ x = xs.getD k 0 := by
  rw [List.take_succ_eq_append_getElem hk, List.mem_append]
  simp [hk]

set_option maxHeartbeats 400000 in
theorem refHas_any (w : World) (v : Value) (xs : List Int) (x : Int) (h : Sl w v xs) :
    Calls Tryz.prog 23 #[v, .int .i64 x] w fun e w' => e = .returned (.bool (decide (x ∈ xs))) ∧ w = w' := by
  rcases h.ints with ⟨rfl, ao, c, rfl⟩ | ⟨b, off, c, rfl, hc, hc63, hb, hpos, hcell⟩
  · go_enter Tryz.func23, Tryz.ntmps23
    go_wp2
    refine wp_loop_rounds 1 ?_
    rw [rounds_succ]
    go_wp2
    go_ret
    exact ⟨by simp, rfl⟩
  · have hlen : xs.length ≤ 9223372036854775807 := by omega
    have HC := Lib.hid hcell
    clear hcell h
    go_enter Tryz.func23, Tryz.ntmps23
    go_wp2
    go_loop [5] (fun i => ∃ k : Nat, k ≤ xs.length ∧ i = .int .i64 k ∧ Hid (x ∉ xs.take k)) (fun i => xs.length - (intOf i).toNat)
    case atStart => exact ⟨0, Nat.zero_le _, rfl, Lib.hid (by simp)⟩
    case round =>
      obtain ⟨k, hk, rfl, hnot⟩ := hrel
      by_cases hlt : k < xs.length
      · have hck := HC.out k hlt
        obtain ⟨y, hy⟩ : ∃ y, y = xs.getD k 0 := ⟨_, rfl⟩
        rw [← hy] at hck
        have HY := Lib.hid hy
        clear hy
        by_cases heq : y = x
        · have hd : (y == x) = true := by simpa using heq
          have HE := Lib.hid heq
          clear heq
          go_wp2
          go_ret
          exact ⟨ret_bool (decide_eq_true (by rw [← HE.out, HY.out]; exact getD_mem hlt 0)).symm, rfl⟩
        · have hd : (y == x) = false := by simpa using heq
          have HE := Lib.hid heq
          clear heq
          go_wp2
          go_round
          case rel => exact ⟨k + 1, by omega, by go_num, Lib.hid (by rw [take_succ_mem hlt, ← HY.out]; intro hh; rcases hh with hh | hh; exact hnot.out hh; exact HE.out hh.symm)⟩
          case measure => simp [intOf]; omega
      · go_wp2
        go_ret
        have hkl : k = xs.length := by omega
        have hn := hnot.out
        rw [hkl, List.take_length] at hn
        exact ⟨ret_bool (decide_eq_false hn).symm, rfl⟩

theorem refHasI_val (w : World) (v : Value) (xs : List Int) (x : Int) (h : Sl w v xs) (r : Bool) (hr : decide (x ∈ xs) = r) : Calls Tryz.prog 23 #[v, .int .i64 x] w fun e w' => e = .returned (.bool r) ∧ w = w' :=
  (refHas_any w v xs x h).mono fun _ _ ⟨he, hw⟩ => ⟨hr ▸ he, hw⟩

theorem take_eq_succ {xs ys : List Int} {k : Nat} (h1 : k < xs.length) (h2 : k < ys.length) : xs.take (k + 1) = ys.take (k + 1) ↔ xs.take k = ys.take k ∧ xs.getD k 0 = ys.getD k 0 := by
  rw [List.take_succ_eq_append_getElem h1, List.take_succ_eq_append_getElem h2]
  have e1 : xs.getD k 0 = xs[k] := by simp [h1]
  have e2 : ys.getD k 0 = ys[k] := by simp [h2]
  rw [e1, e2]
  constructor
  · intro h
    have := List.append_inj h (by simp; omega)
    exact ⟨this.1, by simpa using this.2⟩
  · rintro ⟨ha, hb⟩
    rw [ha, hb]

theorem Sl.sh {α : Type} [Elem α] {w : World} {v : Value} {xs : List α} (h : Sl w v xs) : ∃ ao n c, v = .slice ao n c := by obtain ⟨ao, c, h⟩ := h.len; exact ⟨ao, _, c, h⟩
theorem graph_at (w : World) (N : Int) (v : Value) (V : World) (h : Ext (w.alloc (.cells #[.int .i64 N, v] 24)) V) : V.cell? ⟨w.heap.size, 0, none⟩ = some (.int .i64 N) ∧ V.cell? ⟨w.heap.size, 1, none⟩ = some v := ⟨cell_at V h rfl, cell_at V h rfl⟩

theorem make_ow (w : World) (n : Nat) (hn : n ≤ 1000) :
    ∃ w', (Instr.makeSlice 43 (.int .i64 (n : Int)) (.int .i64 (n : Int))).run Tryz.prog w = .ok (.slice (some ⟨w.heap.size, 0, none⟩) n n) w' ∧ Ow w' w.heap.size (.slice (some ⟨w.heap.size, 0, none⟩) n n) (List.replicate n (0 : Int)) ∧ Ext w w' := by
  obtain ⟨i0, hi, hz0, hz1, hz2⟩ := info_parts (Elem.info (α := Int))
  have hz2 : i0.bytes = 8 := hz2
  obtain ⟨w', h1, h2, h3⟩ := run_make_full (P := Tryz.prog) w w.heap.size 43 (Elem.e Int) i0 (Elem.z Int) (Elem.k Int) (Elem.row (α := Int)) hi hz0 hz1 .i64 .i64 n (by rw [hz2]; omega) (by unfold maxLen; omega) (Nat.le_refl _)
  refine ⟨w', h1, ?_, (Below.refl _ w).grown h3 (Nat.le_refl _) (by simp)⟩
  have e1 : (madeCells (Elem.z Int).cells (n * Elem.k Int)).toList = cellsOf (List.replicate n (0 : Int)) := by
    rw [cells_i]
    show (madeCells #[Value.int .i64 0] (n * 1)).toList = _
    rw [toList_madeCells_one]
    simp
  rw [e1] at h2
  unfold Ow
  simpa using h2

end Go.Proofs.YtdfleocknaackaaGreat
