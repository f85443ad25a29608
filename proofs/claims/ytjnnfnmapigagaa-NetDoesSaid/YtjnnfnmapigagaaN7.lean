/- Acts, and what they make of a net; few of them; the chapter's example. -/
import Derived.Test.YtjnnfnmapigagaaNPN
namespace Go.Proofs.Ytjnnfnmapigagaa
open Go.RowKit

structure Act8 where
  k : Int
  a : Int
  b : Int
  n : Int
  x : Int
  s : ByteArray
def dA : Act8 := ⟨0, 0, 0, 0, 0, ⟨#[]⟩⟩
def Act8.v (y : Act8) : Value := .agg #[.int .i64 y.k, .int .i64 y.a, .int .i64 y.b, .int .i64 y.n, .int .i64 y.x, .string y.s]

instance : Elem Act8 where
  e := 32
  t := 22
  k := 6
  bytes := 56
  z := .agg #[.int .i64 0, .int .i64 0, .int .i64 0, .int .i64 0, .int .i64 0, .string ⟨#[]⟩]
  enc := fun y => [.int .i64 y.k, .int .i64 y.a, .int .i64 y.b, .int .i64 y.n, .int .i64 y.x, .string y.s]
  dflt := dA
  len := fun _ => rfl
  pos := by decide
  one := fun x u hu => by simp at hu; rcases hu with rfl | rfl | rfl | rfl | rfl | rfl <;> rfl
  row := by kernel_rfl
  info := by kernel_rfl
  zsize := rfl
  few := by decide

/-- an act's cells -/
def ActAt (w : World) (b off : Nat) (y : Act8) : Prop :=
  w.cell? ⟨b, off, none⟩ = some (.int .i64 y.k) ∧ w.cell? ⟨b, off + 1, none⟩ = some (.int .i64 y.a) ∧ w.cell? ⟨b, off + 2, none⟩ = some (.int .i64 y.b) ∧ w.cell? ⟨b, off + 3, none⟩ = some (.int .i64 y.n) ∧ w.cell? ⟨b, off + 4, none⟩ = some (.int .i64 y.x) ∧ w.cell? ⟨b, off + 5, none⟩ = some (.string y.s)
theorem ActAt.ext {w w' : World} {b off : Nat} {y : Act8} (h : ActAt w b off y) (x : Below (b + 1) w w') : ActAt w' b off y := by
  obtain ⟨h0, h1, h2, h3, h4, h5⟩ := h
  exact ⟨(x.cell (Nat.lt_succ_self _)).trans h0, (x.cell (Nat.lt_succ_self _)).trans h1, (x.cell (Nat.lt_succ_self _)).trans h2, (x.cell (Nat.lt_succ_self _)).trans h3, (x.cell (Nat.lt_succ_self _)).trans h4, (x.cell (Nat.lt_succ_self _)).trans h5⟩

theorem Sl.acts {w : World} {v : Value} {xs : List Act8} (h : Sl w v xs) :
    (xs = [] ∧ ∃ ao c, v = .slice ao 0 c) ∨
    (∃ b off c, v = .slice (some ⟨b, off, none⟩) xs.length c ∧ xs.length ≤ c ∧ c ≤ 9223372036854775807 ∧ b < w.heap.size ∧ 0 < xs.length ∧ ∀ j, j < xs.length → ActAt w b (off + j * 6) (xs.getD j dA)) := by
  rcases h.parts with h | ⟨b, off, c, h1, h2, h3, h4, h5, h6⟩
  · exact .inl h
  · refine .inr ⟨b, off, c, h1, h2, h3, h4, h5, fun j hj => ?_⟩
    have e : xs[j]? = some (xs.getD j dA) := by simp [hj]
    have key : ∀ i u, (Elem.enc (xs.getD j dA))[i]? = some u → w.cell? ⟨b, off + j * 6 + i, none⟩ = some u := fun i u hu => by
      have := h6 j _ e i u hu
      rwa [show off + (j * Elem.k Act8 + i) = off + j * 6 + i from by show off + (j * 6 + i) = _; omega] at this
    exact ⟨key 0 _ rfl, key 1 _ rfl, key 2 _ rfl, key 3 _ rfl, key 4 _ rfl, key 5 _ rfl⟩

def actS (S : NetS) (y : Act8) : NetS := if y.k = 0 then S.send y.a y.b y.s else if y.k = 1 then S.deliver y.a y.b y.n else if y.k = 2 then S.double y.a y.b y.n else S.flip y.a y.b y.n y.x
def actT (S : NetS) (y : Act8) : ByteArray := if y.k = 1 then S.look y.a y.b y.n else ⟨#[]⟩
def actB (S : NetS) (y : Act8) : Bool := if y.k = 0 then S.may y.a y.b else if y.k = 1 then S.there y.a y.b y.n else if y.k = 2 then S.canD y.a y.b y.n else S.canF y.a y.b y.n

set_option maxHeartbeats 800000 in
theorem act_any {w : World} {p : Nat} {S : NetS} {F : Nat → Prop} (h : NAt w p S F) (y : Act8) (hs : y.s.size ≤ 1000) (hx : -9223372036854775808 ≤ y.x) (hx2 : y.x ≤ 9223372036854775807) :
    Calls Try.prog 13 #[.pointer (some ⟨p, 0, none⟩), .agg #[.int .i64 y.k, .int .i64 y.a, .int .i64 y.b, .int .i64 y.n, .int .i64 y.x, .string y.s]] w (Moves p (actS S y) F (.tuple #[.string (actT S y), .bool (actB S y)]) w) := by
  obtain ⟨k, a, b, n, x, s⟩ := y
  dsimp only at hs hx hx2 ⊢
  have HN : Hid (∀ W, Ext w W → NAt W p S F) := Lib.hid (fun W e => h.off (Off.of_ext (F := fun _ => False) e) (fun _ _ hf => hf))
  clear h
  unfold actS actT actB
  dsimp only
  by_cases h0 : k = 0
  · subst h0
    rw [if_pos rfl, if_neg (by decide), if_pos rfl]
    clear hx hx2
    go_enter Try.func13, Try.ntmps13
    go_wp2_with (first
      | (go_at_call 24; refine (pSend (HN.out _ (by repeat (first | exact Ext.refl _ | assumption | refine Ext.alloc ?_ _ | refine Ext.drew ?_ | refine Ext.drewN ?_ _))) a b s hs).mono ?_; rintro e w' ⟨F', rfl, n', o', g'⟩))
    go_ret2
    exact ⟨F', rfl, n', Off.trans (Off.of_ext (by repeat (first | exact Ext.refl _ | assumption | refine Ext.alloc ?_ _ | refine Ext.drew ?_ | refine Ext.drewN ?_ _))) o' (Grows.refl _ _), g'.back (by rw [size_alloc]; omega)⟩
  · rw [if_neg h0, if_neg h0]
    by_cases h1 : k = 1
    · subst h1
      rw [if_pos rfl, if_pos rfl, if_pos rfl]
      clear hx hx2
      go_enter Try.func13, Try.ntmps13
      go_wp2_with (first
        | (go_at_call 26; refine (pDeliver (HN.out _ (by repeat (first | exact Ext.refl _ | assumption | refine Ext.alloc ?_ _ | refine Ext.drew ?_ | refine Ext.drewN ?_ _))) a b n).mono ?_; rintro e w' ⟨F', rfl, n', o', g'⟩))
      go_ret2
      exact ⟨F', rfl, n', Off.trans (Off.of_ext (by repeat (first | exact Ext.refl _ | assumption | refine Ext.alloc ?_ _ | refine Ext.drew ?_ | refine Ext.drewN ?_ _))) o' (Grows.refl _ _), g'.back (by rw [size_alloc]; omega)⟩
    · rw [if_neg h1, if_neg h1, if_neg h1]
      by_cases h2 : k = 2
      · subst h2
        rw [if_pos rfl, if_pos rfl]
        clear hx hx2
        go_enter Try.func13, Try.ntmps13
        go_wp2_with (first
          | (go_at_call 28; refine (pDouble (HN.out _ (by repeat (first | exact Ext.refl _ | assumption | refine Ext.alloc ?_ _ | refine Ext.drew ?_ | refine Ext.drewN ?_ _))) a b n).mono ?_; rintro e w' ⟨F', rfl, n', o', g'⟩))
        go_ret2
        exact ⟨F', rfl, n', Off.trans (Off.of_ext (by repeat (first | exact Ext.refl _ | assumption | refine Ext.alloc ?_ _ | refine Ext.drew ?_ | refine Ext.drewN ?_ _))) o' (Grows.refl _ _), g'.back (by rw [size_alloc]; omega)⟩
      · rw [if_neg h2, if_neg h2]
        clear hs
        go_enter Try.func13, Try.ntmps13
        go_wp2_with (first
          | (go_at_call 25; refine (pFlip (HN.out _ (by repeat (first | exact Ext.refl _ | assumption | refine Ext.alloc ?_ _ | refine Ext.drew ?_ | refine Ext.drewN ?_ _))) a b n x hx hx2).mono ?_; rintro e w' ⟨F', rfl, n', o', g'⟩))
        go_ret2
        exact ⟨F', rfl, n', Off.trans (Off.of_ext (by repeat (first | exact Ext.refl _ | assumption | refine Ext.alloc ?_ _ | refine Ext.drew ?_ | refine Ext.drewN ?_ _))) o' (Grows.refl _ _), g'.back (by rw [size_alloc]; omega)⟩

def FewR (l : List Act8) (w : World) (e : Ending) (w' : World) : Prop := ∃ r : Bool, e = .returned (.bool r) ∧ (r = true → l.length ≤ 60 ∧ ∀ y ∈ l, y.s.size ≤ 40) ∧ w = w'

set_option maxHeartbeats 800000 in
theorem few_any (w : World) (v : Value) (l : List Act8) (h : Sl w v l) :
    Calls Try.prog 11 #[v] w (FewR l w) := by
  have hlen := h.length_le
  rcases h.acts with ⟨rfl, ao, c, rfl⟩ | ⟨b, off, c, rfl, hq1, hq2, hbl, hpos, hat⟩
  · clear h hlen
    go_enter Try.func11, Try.ntmps11
    go_wp2
    refine wp_loop_rounds 1 ?_
    rw [rounds_succ]
    go_wp2
    go_ret
    exact ⟨true, rfl, fun _ => ⟨by simp, fun y hy => by cases hy⟩, rfl⟩
  · have HAT := Lib.hid hat
    clear h hat
    go_enter Try.func11, Try.ntmps11
    go_wp2
    go_loop [3] (fun i => ∃ k : Nat, k ≤ l.length ∧ i = .int .i64 (k : Int) ∧ Hid (∀ y ∈ l.take k, y.s.size ≤ 40)) (fun i => l.length - (intOf i).toNat)
    case atStart => exact ⟨0, Nat.zero_le _, rfl, Lib.hid (fun y hy => by simp at hy)⟩
    case round =>
      obtain ⟨k, hk, rfl, HR⟩ := hrel
      by_cases hlt : k < l.length
      · by_cases h61 : k < 61
        · obtain ⟨_, _, _, _, _, c5⟩ := HAT.out k hlt
          have ht : l.take (k + 1) = l.take k ++ [l.getD k dA] := by rw [List.take_succ_eq_append_getElem hlt]; simp [hlt]
          obtain ⟨Y, hY⟩ : ∃ Y, Y = l.getD k dA := ⟨_, rfl⟩
          rw [← hY] at c5 ht
          have HT := Lib.hid ht
          clear ht hY
          have hkc : (k : Int) ≤ (c : Int) := by omega
          have hk61 : (k : Int) < 61 := by omega
          by_cases hz : Y.s.size ≤ 40
          · have HR2 : Hid (∀ y ∈ l.take (k + 1), y.s.size ≤ 40) := Lib.hid (fun y hy => by
              rw [HT.out] at hy
              rcases List.mem_append.1 hy with hy | hy
              · exact HR.out y hy
              · rw [List.mem_singleton] at hy
                subst hy
                exact hz)
            have hz2 : ¬ (40 : Int) < (Y.s.size : Int) := by omega
            replace hz := Lib.hid hz
            go_wp2
            exact ⟨⟨k + 1, hlt, by go_num, HR2⟩, by simp [intOf]; omega⟩
          · have hz2 : (40 : Int) < (Y.s.size : Int) := by omega
            replace hz := Lib.hid hz
            go_wp2
            go_ret
            exact ⟨false, rfl, fun h => (by cases h), rfl⟩
        · have hk61 : ¬ (k : Int) < 61 := by omega
          have hl60 : ¬ (l.length : Int) ≤ 60 := by omega
          go_wp2
          go_ret
          exact ⟨false, rfl, fun h => (by cases h), rfl⟩
      · have hkk : k = l.length := by omega
        have HA : Hid (∀ y ∈ l, y.s.size ≤ 40) := Lib.hid (by have := HR.out; rw [hkk, List.take_length] at this; exact this)
        by_cases h60 : l.length ≤ 60
        · have hl60 : (l.length : Int) ≤ 60 := by omega
          replace h60 := Lib.hid h60
          go_wp2
          go_ret
          exact ⟨true, rfl, fun _ => ⟨h60.out, HA.out⟩, rfl⟩
        · have hl60 : ¬ (l.length : Int) ≤ 60 := by omega
          replace h60 := Lib.hid h60
          go_wp2
          go_ret
          exact ⟨false, rfl, fun h => (by cases h), rfl⟩
end Go.Proofs.Ytjnnfnmapigagaa
