/- Acts on links; few of them; one end, and two, in a call's own memory. -/
import Derived.Test.YtefkjclkondmeaaKP
namespace Go.Proofs.Ytefkjclkondmeaa
open Go.RowKit

structure Act9 where
  k : Int
  n : Int
  side : Bool
  s : ByteArray
  f : Fr
def dA : Act9 := ⟨0, 0, false, ⟨#[]⟩, Fr.zero⟩

instance : Elem Act9 where
  e := 36
  t := 23
  k := 9
  bytes := 88
  z := .agg #[.int .i64 0, .int .i64 0, .bool false, .string ⟨#[]⟩, .int .i64 0, .int .i64 0, .int .u64 0, .int .u64 0, .string ⟨#[]⟩]
  enc := fun y => [.int .i64 y.k, .int .i64 y.n, .bool y.side, .string y.s, .int .i64 y.f.k, .int .i64 y.f.e, .int .u64 (y.f.q : Int), .int .u64 (y.f.a : Int), .string y.f.b]
  dflt := dA
  len := fun _ => rfl
  pos := by decide
  one := fun x u hu => by simp at hu; rcases hu with rfl | rfl | rfl | rfl | rfl | rfl | rfl | rfl | rfl <;> rfl
  row := by kernel_rfl
  info := by kernel_rfl
  zsize := rfl
  few := by decide

/-- an act's cells -/
def ActAt (w : World) (b off : Nat) (y : Act9) : Prop :=
  w.cell? ⟨b, off, none⟩ = some (.int .i64 y.k) ∧ w.cell? ⟨b, off + 1, none⟩ = some (.int .i64 y.n) ∧ w.cell? ⟨b, off + 2, none⟩ = some (.bool y.side) ∧ w.cell? ⟨b, off + 3, none⟩ = some (.string y.s) ∧
  w.cell? ⟨b, off + 4, none⟩ = some (.int .i64 y.f.k) ∧ w.cell? ⟨b, off + 5, none⟩ = some (.int .i64 y.f.e) ∧ w.cell? ⟨b, off + 6, none⟩ = some (.int .u64 (y.f.q : Int)) ∧ w.cell? ⟨b, off + 7, none⟩ = some (.int .u64 (y.f.a : Int)) ∧ w.cell? ⟨b, off + 8, none⟩ = some (.string y.f.b)
theorem ActAt.ext {w w' : World} {b off : Nat} {y : Act9} (h : ActAt w b off y) (x : Below (b + 1) w w') : ActAt w' b off y := by
  obtain ⟨h0, h1, h2, h3, h4, h5, h6, h7, h8⟩ := h
  exact ⟨(x.cell (Nat.lt_succ_self _)).trans h0, (x.cell (Nat.lt_succ_self _)).trans h1, (x.cell (Nat.lt_succ_self _)).trans h2, (x.cell (Nat.lt_succ_self _)).trans h3, (x.cell (Nat.lt_succ_self _)).trans h4, (x.cell (Nat.lt_succ_self _)).trans h5, (x.cell (Nat.lt_succ_self _)).trans h6, (x.cell (Nat.lt_succ_self _)).trans h7, (x.cell (Nat.lt_succ_self _)).trans h8⟩

theorem Sl.acts {w : World} {v : Value} {xs : List Act9} (h : Sl w v xs) :
    (xs = [] ∧ ∃ ao c, v = .slice ao 0 c) ∨
    (∃ b off c, v = .slice (some ⟨b, off, none⟩) xs.length c ∧ xs.length ≤ c ∧ c ≤ 9223372036854775807 ∧ b < w.heap.size ∧ 0 < xs.length ∧ ∀ j, j < xs.length → ActAt w b (off + j * 9) (xs.getD j dA)) := by
  rcases h.parts with h | ⟨b, off, c, h1, h2, h3, h4, h5, h6⟩
  · exact .inl h
  · refine .inr ⟨b, off, c, h1, h2, h3, h4, h5, fun j hj => ?_⟩
    have e : xs[j]? = some (xs.getD j dA) := by simp [hj]
    have key : ∀ i u, (Elem.enc (xs.getD j dA))[i]? = some u → w.cell? ⟨b, off + j * 9 + i, none⟩ = some u := fun i u hu => by
      have := h6 j _ e i u hu
      rwa [show off + (j * Elem.k Act9 + i) = off + j * 9 + i from by show off + (j * 9 + i) = _; omega] at this
    exact ⟨key 0 _ rfl, key 1 _ rfl, key 2 _ rfl, key 3 _ rfl, key 4 _ rfl, key 5 _ rfl, key 6 _ rfl, key 7 _ rfl, key 8 _ rfl⟩

/-- what is at hand in a round over acts: the act's cells -/
theorem act_here {w wr : World} {l : List Act9} {ao : Option Addr} {n c k : Nat} (h : Sl w (.slice ao n c) l) (x : Ext w wr) (hk : k < l.length) :
    ∃ b off, ao = some ⟨b, off, none⟩ ∧ n = l.length ∧ l.length ≤ c ∧ b < w.heap.size ∧ ActAt wr b (off + k * 9) (l.getD k dA) := by
  rcases h.acts with ⟨h0, _⟩ | ⟨b, off, c', hv, hq1, hq2, hbl, hpos, hat⟩
  · rw [h0] at hk; simp at hk
  · simp only [Value.slice.injEq] at hv
    obtain ⟨rfl, rfl, rfl⟩ := hv
    exact ⟨b, off, rfl, rfl, hq1, hbl, (hat k hk).ext (x.mono hbl)⟩

def FewR (l : List Act9) (w : World) (e : Ending) (w' : World) : Prop := ∃ r : Bool, e = .returned (.bool r) ∧ (r = true → l.length ≤ 80 ∧ ∀ y ∈ l, y.s.size ≤ 70 ∧ y.f.b.size ≤ 70) ∧ w = w'

set_option maxHeartbeats 1600000 in
theorem few_any (w : World) (v : Value) (l : List Act9) (h : Sl w v l) :
    Calls Try.prog 11 #[v] w (FewR l w) := by
  have hlen := h.length_le
  rcases h.acts with ⟨rfl, ao, c, rfl⟩ | ⟨b, off, c, rfl, hq1, hq2, hbl, hpos, hat⟩
  · clear h hlen
    go_enter Try.func11, Try.ntmps11
    go_wp2
    refine wp_loop_rounds 1 ?_
    rw [rounds_succ]
    go_wp2
    go_ret
    exact ⟨true, rfl, fun _ => ⟨by simp, fun y hy => by cases hy⟩, rfl⟩
  · have HAT := Lib.hid hat
    clear h hat
    go_enter Try.func11, Try.ntmps11
    go_wp2
    go_loop [3] (fun i => ∃ k : Nat, k ≤ l.length ∧ i = .int .i64 (k : Int) ∧ Hid (∀ y ∈ l.take k, y.s.size ≤ 70 ∧ y.f.b.size ≤ 70)) (fun i => l.length - (intOf i).toNat)
    case atStart => exact ⟨0, Nat.zero_le _, rfl, Lib.hid (fun y hy => by simp at hy)⟩
    case round =>
      obtain ⟨k, hk, rfl, HR⟩ := hrel
      by_cases hlt : k < l.length
      · by_cases h81 : k < 81
        · obtain ⟨_, _, _, c3, _, _, _, _, c8⟩ := HAT.out k hlt
          have ht : l.take (k + 1) = l.take k ++ [l.getD k dA] := by rw [List.take_succ_eq_append_getElem hlt]; simp [hlt]
          obtain ⟨Y, hY⟩ : ∃ Y, Y = l.getD k dA := ⟨_, rfl⟩
          rw [← hY] at c3 c8 ht
          have HT := Lib.hid ht
          clear ht hY
          have hkc : (k : Int) ≤ (c : Int) := by omega
          have hk81 : (k : Int) < 81 := by omega
          by_cases hz : Y.s.size ≤ 70
          · have hz2 : ¬ (70 : Int) < (Y.s.size : Int) := by omega
            by_cases hy : Y.f.b.size ≤ 70
            · have hy2 : ¬ (70 : Int) < (Y.f.b.size : Int) := by omega
              have HR2 : Hid (∀ y ∈ l.take (k + 1), y.s.size ≤ 70 ∧ y.f.b.size ≤ 70) := Lib.hid (fun y hy9 => by
                rw [HT.out] at hy9
                rcases List.mem_append.1 hy9 with hy9 | hy9
                · exact HR.out y hy9
                · rw [List.mem_singleton] at hy9
                  subst hy9
                  exact ⟨hz, hy⟩)
              replace hz := Lib.hid hz
              replace hy := Lib.hid hy
              go_wp2
              exact ⟨⟨k + 1, hlt, by go_num, HR2⟩, by simp [intOf]; omega⟩
            · have hy2 : (70 : Int) < (Y.f.b.size : Int) := by omega
              replace hz := Lib.hid hz
              replace hy := Lib.hid hy
              go_wp2
              go_ret
              exact ⟨false, rfl, fun h => (by cases h), rfl⟩
          · have hz2 : (70 : Int) < (Y.s.size : Int) := by omega
            replace hz := Lib.hid hz
            go_wp2
            go_ret
            exact ⟨false, rfl, fun h => (by cases h), rfl⟩
        · have hk81 : ¬ (k : Int) < 81 := by omega
          have hl80 : ¬ (l.length : Int) ≤ 80 := by omega
          go_wp2
          go_ret
          exact ⟨false, rfl, fun h => (by cases h), rfl⟩
      · have hkk : k = l.length := by omega
        have HA : Hid (∀ y ∈ l, y.s.size ≤ 70 ∧ y.f.b.size ≤ 70) := Lib.hid (by have := HR.out; rw [hkk, List.take_length] at this; exact this)
        by_cases h80 : l.length ≤ 80
        · have hl80 : (l.length : Int) ≤ 80 := by omega
          replace h80 := Lib.hid h80
          go_wp2
          go_ret
          exact ⟨true, rfl, fun _ => ⟨h80.out, HA.out⟩, rfl⟩
        · have hl80 : ¬ (l.length : Int) ≤ 80 := by omega
          replace h80 := Lib.hid h80
          go_wp2
          go_ret
          exact ⟨false, rfl, fun h => (by cases h), rfl⟩

/-- the program's end in a call's own memory -/
def End1 (w0 w : World) (p : Nat) (S : EndS) (F : Nat → Prop) : Prop := EAt w p S F ∧ (∀ k, F k → w0.heap.size ≤ k) ∧ Ext w0 w
theorem End1.step {w0 w w' : World} {p : Nat} {S S' : EndS} {F F' : Nat → Prop} (h : End1 w0 w p S F) (n : EAt w' p S' F') (o : Off F w w') (g : Grows F F' w) : End1 w0 w' p S' F' := by
  refine ⟨n, fun k hk => ?_, Below.trans h.2.2 (o.below h.2.1 h.2.2.size)⟩
  rcases g k hk with h1 | h1
  · exact h.2.1 k h1
  · exact Nat.le_trans h.2.2.size h1
theorem End1.ext {w0 w w' : World} {p : Nat} {S : EndS} {F : Nat → Prop} (h : End1 w0 w p S F) (x : Ext w w') : End1 w0 w' p S F :=
  ⟨h.1.off (Off.of_ext (F := fun _ => False) x) (fun _ _ hf => hf), h.2.1, Ext.trans h.2.2 x⟩

/-- two ends in a call's own memory, apart -/
def End2 (w0 w : World) (p : Nat) (S : EndS) (F : Nat → Prop) (q : Nat) (T : EndS) (G : Nat → Prop) : Prop := EAt w p S F ∧ EAt w q T G ∧ (∀ k, F k → w0.heap.size ≤ k) ∧ (∀ k, G k → w0.heap.size ≤ k) ∧ (∀ k, F k → ¬ G k) ∧ Ext w0 w
section
variable {w0 w w' : World} {p q : Nat} {S S' T T' : EndS} {F F' G G' : Nat → Prop}
theorem End2.swap (h : End2 w0 w p S F q T G) : End2 w0 w q T G p S F := ⟨h.2.1, h.1, h.2.2.2.1, h.2.2.1, fun k hg hf => h.2.2.2.2.1 k hf hg, h.2.2.2.2.2⟩
theorem End2.ex (h : End2 w0 w p S F q T G) : Ext w0 w := h.2.2.2.2.2
theorem End2.one (h : End2 w0 w p S F q T G) : EAt w p S F := h.1
theorem End2.two (h : End2 w0 w p S F q T G) : EAt w q T G := h.2.1
theorem End2.step (h : End2 w0 w p S F q T G) (n : EAt w' p S' F') (o : Off F w w') (g : Grows F F' w) : End2 w0 w' p S' F' q T G := by
  obtain ⟨h1, h2, h3, h4, h5, h6⟩ := h
  refine ⟨n, h2.off o (fun k hg hf => h5 k hf hg), fun k hk => ?_, h4, fun k hk hg => ?_, Below.trans h6 (o.below h3 h6.size)⟩
  · rcases g k hk with h9 | h9
    · exact h3 k h9
    · exact Nat.le_trans h6.size h9
  · rcases g k hk with h9 | h9
    · exact h5 k h9 hg
    · have := h2.low k hg; omega
theorem End2.ext (h : End2 w0 w p S F q T G) (x : Ext w w') : End2 w0 w' p S F q T G := by
  obtain ⟨h1, h2, h3, h4, h5, h6⟩ := h
  exact ⟨h1.off (Off.of_ext (F := fun _ => False) x) (fun _ _ hf => hf), h2.off (Off.of_ext (F := fun _ => False) x) (fun _ _ hf => hf), h3, h4, h5, Ext.trans h6 x⟩
theorem End2.new (h : End1 w0 w p S F) (n : EAt w' q T G) (hg : ∀ k, G k → w.heap.size ≤ k) (x : Ext w w') : End2 w0 w' p S F q T G :=
  ⟨(h.ext x).1, n, h.2.1, fun k hk => Nat.le_trans h.2.2.size (hg k hk), fun k hf hgk => by have := h.1.low k hf; have := hg k hgk; omega, Ext.trans h.2.2 x⟩
end
end Go.Proofs.Ytefkjclkondmeaa
