/- Acts on pipes; few of them; is a text among others. -/
import Derived.Test.YtcjoemkplghonaaDoorMQ
import Derived.Test.YtcjoemkplghonaaDoorMM
namespace Go.Proofs.YtcjoemkplghonaaDoor
open Go.RowKit

structure Act10 where
  k : Int
  sd : Int
  n : Int
  x : Int
  s : ByteArray
def dA : Act10 := ⟨0, 0, 0, 0, ⟨#[]⟩⟩
def Act10.v (y : Act10) : Value := .agg #[.int .i64 y.k, .int .i64 y.sd, .int .i64 y.n, .int .i64 y.x, .string y.s]

instance : Elem Act10 where
  e := 33
  t := 23
  k := 5
  bytes := 48
  z := .agg #[.int .i64 0, .int .i64 0, .int .i64 0, .int .i64 0, .string ⟨#[]⟩]
  enc := fun y => [.int .i64 y.k, .int .i64 y.sd, .int .i64 y.n, .int .i64 y.x, .string y.s]
  dflt := dA
  len := fun _ => rfl
  pos := by decide
  one := fun x u hu => by simp at hu; rcases hu with rfl | rfl | rfl | rfl | rfl <;> rfl
  row := by kernel_rfl
  info := by kernel_rfl
  zsize := rfl
  few := by decide

/-- an act's cells -/
def ActAt (w : World) (b off : Nat) (y : Act10) : Prop :=
  w.cell? ⟨b, off, none⟩ = some (.int .i64 y.k) ∧ w.cell? ⟨b, off + 1, none⟩ = some (.int .i64 y.sd) ∧ w.cell? ⟨b, off + 2, none⟩ = some (.int .i64 y.n) ∧ w.cell? ⟨b, off + 3, none⟩ = some (.int .i64 y.x) ∧ w.cell? ⟨b, off + 4, none⟩ = some (.string y.s)
theorem ActAt.ext {w w' : World} {b off : Nat} {y : Act10} (h : ActAt w b off y) (x : Below (b + 1) w w') : ActAt w' b off y := by
  obtain ⟨h0, h1, h2, h3, h4⟩ := h
  exact ⟨(x.cell (Nat.lt_succ_self _)).trans h0, (x.cell (Nat.lt_succ_self _)).trans h1, (x.cell (Nat.lt_succ_self _)).trans h2, (x.cell (Nat.lt_succ_self _)).trans h3, (x.cell (Nat.lt_succ_self _)).trans h4⟩

theorem Sl.acts {w : World} {v : Value} {xs : List Act10} (h : Sl w v xs) :
    (xs = [] ∧ ∃ ao c, v = .slice ao 0 c) ∨
    (∃ b off c, v = .slice (some ⟨b, off, none⟩) xs.length c ∧ xs.length ≤ c ∧ c ≤ 9223372036854775807 ∧ b < w.heap.size ∧ 0 < xs.length ∧ ∀ j, j < xs.length → ActAt w b (off + j * 5) (xs.getD j dA)) := by
  rcases h.parts with h | ⟨b, off, c, h1, h2, h3, h4, h5, h6⟩
  · exact .inl h
  · refine .inr ⟨b, off, c, h1, h2, h3, h4, h5, fun j hj => ?_⟩
    have e : xs[j]? = some (xs.getD j dA) := by simp [hj]
    have key : ∀ i u, (Elem.enc (xs.getD j dA))[i]? = some u → w.cell? ⟨b, off + j * 5 + i, none⟩ = some u := fun i u hu => by
      have := h6 j _ e i u hu
      rwa [show off + (j * Elem.k Act10 + i) = off + j * 5 + i from by show off + (j * 5 + i) = _; omega] at this
    exact ⟨key 0 _ rfl, key 1 _ rfl, key 2 _ rfl, key 3 _ rfl, key 4 _ rfl⟩

/-- what is at hand in a round over acts: the act's cells -/
theorem act_here {w wr : World} {l : List Act10} {ao : Option Addr} {n c k : Nat} (h : Sl w (.slice ao n c) l) (x : Ext w wr) (hk : k < l.length) :
    ∃ b off, ao = some ⟨b, off, none⟩ ∧ n = l.length ∧ l.length ≤ c ∧ b < w.heap.size ∧ ActAt wr b (off + k * 5) (l.getD k dA) := by
  rcases h.acts with ⟨h0, _⟩ | ⟨b, off, c', hv, hq1, hq2, hbl, hpos, hat⟩
  · rw [h0] at hk; simp at hk
  · simp only [Value.slice.injEq] at hv
    obtain ⟨rfl, rfl, rfl⟩ := hv
    exact ⟨b, off, rfl, rfl, hq1, hbl, (hat k hk).ext (x.mono hbl)⟩

def FewR (l : List Act10) (w : World) (e : Ending) (w' : World) : Prop := ∃ r : Bool, e = .returned (.bool r) ∧ (r = true → l.length ≤ 80 ∧ ∀ y ∈ l, y.s.size ≤ 70) ∧ w = w'

set_option maxHeartbeats 1600000 in
theorem few_any (w : World) (v : Value) (l : List Act10) (h : Sl w v l) :
    Calls Tryd.prog 10 #[v] w (FewR l w) := by
  have hlen := h.length_le
  rcases h.acts with ⟨rfl, ao, c, rfl⟩ | ⟨b, off, c, rfl, hq1, hq2, hbl, hpos, hat⟩
  · clear h hlen
    go_enter Tryd.func10, Tryd.ntmps10
    go_wp2
    refine wp_loop_rounds 1 ?_
    rw [rounds_succ]
    go_wp2
    go_ret
    exact ⟨true, rfl, fun _ => ⟨by simp, fun y hy => by cases hy⟩, rfl⟩
  · have HAT := Lib.hid hat
    clear h hat
    go_enter Tryd.func10, Tryd.ntmps10
    go_wp2
    go_loop [3] (fun i => ∃ k : Nat, k ≤ l.length ∧ i = .int .i64 (k : Int) ∧ Hid (∀ y ∈ l.take k, y.s.size ≤ 70)) (fun i => l.length - (intOf i).toNat)
    case atStart => exact ⟨0, Nat.zero_le _, rfl, Lib.hid (fun y hy => by simp at hy)⟩
    case round =>
      obtain ⟨k, hk, rfl, HR⟩ := hrel
      by_cases hlt : k < l.length
      · by_cases h81 : k < 81
        · obtain ⟨_, _, _, _, c4⟩ := HAT.out k hlt
          have ht : l.take (k + 1) = l.take k ++ [l.getD k dA] := by rw [List.take_succ_eq_append_getElem hlt]; simp [hlt]
          obtain ⟨Y, hY⟩ : ∃ Y, Y = l.getD k dA := ⟨_, rfl⟩
          rw [← hY] at c4 ht
          have HT := Lib.hid ht
          clear ht hY
          have hkc : (k : Int) ≤ (c : Int) := by omega
          have hk81 : (k : Int) < 81 := by omega
          by_cases hz : Y.s.size ≤ 70
          · have hz2 : ¬ (70 : Int) < (Y.s.size : Int) := by omega
            have HR2 : Hid (∀ y ∈ l.take (k + 1), y.s.size ≤ 70) := Lib.hid (fun y hy9 => by
              rw [HT.out] at hy9
              rcases List.mem_append.1 hy9 with hy9 | hy9
              · exact HR.out y hy9
              · rw [List.mem_singleton] at hy9
                subst hy9
                exact hz)
            replace hz := Lib.hid hz
            go_wp2
            exact ⟨⟨k + 1, hlt, by go_num, HR2⟩, by simp [intOf]; omega⟩
          · have hz2 : (70 : Int) < (Y.s.size : Int) := by omega
            replace hz := Lib.hid hz
            go_wp2
            go_ret
            exact ⟨false, rfl, fun h => (by cases h), rfl⟩
        · have hk81 : ¬ (k : Int) < 81 := by omega
          have hl80 : ¬ (l.length : Int) ≤ 80 := by omega
          go_wp2
          go_ret
          exact ⟨false, rfl, fun h => (by cases h), rfl⟩
      · have hkk : k = l.length := by omega
        have HA : Hid (∀ y ∈ l, y.s.size ≤ 70) := Lib.hid (by have := HR.out; rw [hkk, List.take_length] at this; exact this)
        by_cases h80 : l.length ≤ 80
        · have hl80 : (l.length : Int) ≤ 80 := by omega
          replace h80 := Lib.hid h80
          go_wp2
          go_ret
          exact ⟨true, rfl, fun _ => ⟨h80.out, HA.out⟩, rfl⟩
        · have hl80 : ¬ (l.length : Int) ≤ 80 := by omega
          replace h80 := Lib.hid h80
          go_wp2
          go_ret
          exact ⟨false, rfl, fun h => (by cases h), rfl⟩


/-- is a text among others? -/
def mem (l : List ByteArray) (s : ByteArray) : Bool := l.any fun x => decide (x = s)
theorem mem_iff {l : List ByteArray} {s : ByteArray} : mem l s = true ↔ s ∈ l := by
  unfold mem
  simp only [List.any_eq_true, decide_eq_true_eq]
  exact ⟨fun ⟨x, h, e⟩ => e ▸ h, fun h => ⟨s, h, rfl⟩⟩
theorem in_any (w : World) (v : Value) (l : List ByteArray) (h : Sl w v l) (s : ByteArray) :
    Calls Tryd.prog 27 #[v, .string s] w fun e w' => e = .returned (.bool (mem l s)) ∧ w = w' := by
  have hlen := h.length_le
  rcases h.texts with ⟨rfl, ao, c, rfl⟩ | ⟨b, off, c, rfl, hq1, hq2, hbl, hpos, hat⟩
  · clear h hlen
    go_enter Tryd.func27, Tryd.ntmps27
    go_wp2
    refine wp_loop_rounds 1 ?_
    rw [rounds_succ]
    go_wp2
    go_ret
    exact ⟨rfl, rfl⟩
  · have HAT := Lib.hid hat
    clear h hat
    go_enter Tryd.func27, Tryd.ntmps27
    go_wp2
    go_loop [5] (fun i => ∃ k : Nat, k ≤ l.length ∧ i = .int .i64 (k : Int) ∧ Hid (mem (l.take k) s = false)) (fun i => l.length - (intOf i).toNat)
    case atStart => exact ⟨0, Nat.zero_le _, rfl, Lib.hid (by rw [List.take_zero]; rfl)⟩
    case round =>
      obtain ⟨k, hk, rfl, HR⟩ := hrel
      by_cases hlt : k < l.length
      · have c0 := HAT.out k hlt
        have ht : l.take (k + 1) = l.take k ++ [l.getD k ⟨#[]⟩] := by rw [List.take_succ_eq_append_getElem hlt]; simp [hlt]
        have hm : l.getD k ⟨#[]⟩ ∈ l := by simp [hlt]
        obtain ⟨Y, hY⟩ : ∃ Y, Y = l.getD k ⟨#[]⟩ := ⟨_, rfl⟩
        rw [← hY] at c0 ht hm
        have HT := Lib.hid ht
        have HM := Lib.hid hm
        clear ht hY hm
        have hkc : (k : Int) ≤ (c : Int) := by omega
        by_cases hz : Y = s
        · have hz2 : (Y.toList == s.toList) = true := by rw [hz]; exact beq_self_eq_true _
          have HZ := Lib.hid hz
          clear hz
          go_wp2
          go_ret
          exact ⟨by rw [mem_iff.2 (HZ.out ▸ HM.out)]; rfl, rfl⟩
        · have hz2 : ¬ Y.toList = s.toList := fun e => hz (tl_iff.1 e)
          have HZ := Lib.hid hz
          have hz3 : (Y.toList == s.toList) = false := beq_eq_false_iff_ne.2 hz2
          clear hz hz2
          have HR2 : Hid (mem (l.take (k + 1)) s = false) := Lib.hid (by
            have h1 := HR.out
            rw [HT.out]
            unfold mem at h1 ⊢
            rw [List.any_append, h1]
            simp [HZ.out])
          go_wp2
          exact ⟨⟨k + 1, hlt, by go_num, HR2⟩, by simp [intOf]; omega⟩
      · have hkk : k = l.length := by omega
        have HA : Hid (mem l s = false) := Lib.hid (by have := HR.out; rw [hkk, List.take_length] at this; exact this)
        have hlt2 : ¬ (k : Int) < (l.length : Int) := by omega
        go_wp2
        go_ret
        exact ⟨by rw [HA.out]; rfl, rfl⟩
end Go.Proofs.YtcjoemkplghonaaDoor

/- A pipe and four slices of the call's own: what went to each side, what each side sent; boxes of an act. -/
namespace Go.Proofs.YtcjoemkplghonaaDoor
open Go.RowKit

set_option linter.unusedVariables false
def updA {α : Type} (f : Nat → α) (i : Nat) (a : α) : Nat → α := fun j => if j = i then a else f j

theorem updA_id {α : Type} (f : Nat → α) (i : Nat) : updA f i (f i) = f := by
  funext j
  unfold updA
  split
  · next h => rw [h]
  · rfl
theorem updA_updA {α : Type} (f : Nat → α) (i : Nat) (a b : α) : updA (updA f i a) i b = updA f i b := by
  funext j
  unfold updA
  split <;> rfl
theorem updA_at {α : Type} (f : Nat → α) (i : Nat) (a : α) : updA f i a i = a := if_pos rfl

theorem take_drop_snoc (R : List ByteArray) (d j : Nat) (hd : d ≤ j) (hj : j < R.length) : (R.drop d).take (j + 1 - d) = (R.drop d).take (j - d) ++ [R.getD j ⟨#[]⟩] := by
  have h1 : j + 1 - d = j - d + 1 := by omega
  have h2 : j - d < (R.drop d).length := by rw [List.length_drop]; omega
  rw [h1, List.take_succ_eq_append_getElem h2, List.getElem_drop]
  congr 2
  simp only [show d + (j - d) = j by omega, List.getD_eq_getElem?_getD, List.getElem?_eq_getElem hj, Option.getD_some]

/-- wB, Kp: blocks that are kept as they were then -/
structure Wt (w0 wB : World) (Kp : Nat → Prop) (w : World) (p : Nat) (P : PipeS) (x : Nat → SV) (L : Nat → List ByteArray) (F : Nat → Nat → Prop) : Prop where
  e : PAt w p P (F 0)
  s : ∀ i, i < 4 → As w0 w (F (i + 1)) (x i) (L i)
  dis : Dis F
  low : ∀ i k, F i k → w0.heap.size ≤ k ∧ k < w.heap.size
  ext : Ext w0 w
  kb : wB.heap.size ≤ w.heap.size
  kp : ∀ k, Kp k → k < wB.heap.size ∧ w.heap[k]? = wB.heap[k]?
  nk : ∀ i k, F i k → ¬ Kp k
section
variable {w0 wB w w' : World} {Kp : Nat → Prop} {p : Nat} {P P' : PipeS} {x : Nat → SV} {L : Nat → List ByteArray} {F : Nat → Nat → Prop}
theorem kp_off {G : Nat → Prop} (kb : wB.heap.size ≤ w.heap.size) (kp : ∀ k, Kp k → k < wB.heap.size ∧ w.heap[k]? = wB.heap[k]?) (o : Off G w w') (h : ∀ k, G k → ¬ Kp k) : ∀ k, Kp k → k < wB.heap.size ∧ w'.heap[k]? = wB.heap[k]? :=
  fun k hk => ⟨(kp k hk).1, (o.block k (Nat.lt_of_lt_of_le (kp k hk).1 kb) (fun hg => h k hg hk)).trans (kp k hk).2⟩
theorem nk_upd {i : Nat} {G : Nat → Prop} (kb : wB.heap.size ≤ w.heap.size) (kp : ∀ k, Kp k → k < wB.heap.size ∧ w.heap[k]? = wB.heap[k]?) (nk : ∀ i k, F i k → ¬ Kp k) (g : Grows (F i) G w) : ∀ j k, upd F i G j k → ¬ Kp k := by
  intro j k hk hK
  by_cases h : j = i
  · subst h
    rw [upd_same] at hk
    rcases g k hk with h1 | h1
    · exact nk j k h1 hK
    · have := (kp k hK).1; omega
  · rw [upd_ne F G h] at hk
    exact nk j k hk hK
theorem Wt.more (h : Wt w0 wB Kp w p P x L F) (e : Ext w w') : Wt w0 wB Kp w' p P x L F :=
  ⟨h.e.off (Off.of_ext (F := fun _ => False) e) (fun _ _ hf => hf), fun i hi => (h.s i hi).ext e, h.dis, fun i k hk => ⟨(h.low i k hk).1, Nat.lt_of_lt_of_le (h.low i k hk).2 e.size⟩, Ext.trans h.ext e, Nat.le_trans h.kb e.size, kp_off h.kb h.kp (Off.of_ext (F := fun _ => False) e) (fun _ hf => hf.elim), h.nk⟩
theorem Wt.moves (h : Wt w0 wB Kp w p P x L F) {G : Nat → Prop} (n : PAt w' p P' G) (o : Off (F 0) w w') (gr : Grows (F 0) G w) : Wt w0 wB Kp w' p P' x L (upd F 0 G) := by
  have hl := fun i k hk => (h.low i k hk).2
  refine ⟨n, fun i hi => ?_, h.dis.upd hl gr, low_upd h.low h.ext.size o.size gr n.low, ext_upd h.ext o (fun k hk => (h.low 0 k hk).1), Nat.le_trans h.kb o.size, kp_off h.kb h.kp o (h.nk 0), nk_upd h.kb h.kp h.nk gr⟩
  rw [upd_ne F G (by omega)]
  exact (h.s i hi).off h.dis o (by omega)
theorem Wt.put (h : Wt w0 wB Kp w p P x L F) {i : Nat} (hi : i < 4) {y : SV} {l : List ByteArray} (ho : Ow w' w0.heap.size y.v l) (a : Apd w0.heap.size (x i).v y.v w w') : Wt w0 wB Kp w' p P (updA x i y) (updA L i l) (upd F (i + 1) (ob y)) := by
  have hl := fun i k hk => (h.low i k hk).2
  have o := off_apd (G := F (i + 1)) a (h.s i hi).2
  have gr := grows_apd (G := F (i + 1)) a (h.s i hi).2
  refine ⟨?_, fun j hj => ?_, h.dis.upd hl gr, low_upd h.low h.ext.size o.size gr (fun k hk => (ho.low k hk).2), ext_upd h.ext o (fun k hk => (h.low (i + 1) k hk).1), Nat.le_trans h.kb o.size, kp_off h.kb h.kp o (h.nk (i + 1)), nk_upd h.kb h.kp h.nk gr⟩
  · rw [upd_ne F _ (by omega)]
    exact h.e.off o (fun k h1 h0 => by have := h.dis (i + 1) 0 k h0 h1; omega)
  · by_cases e : j = i
    · subst e
      rw [upd_same]
      unfold updA
      rw [if_pos rfl, if_pos rfl]
      exact ⟨ho, fun _ hb => hb⟩
    · rw [upd_ne F _ (by omega)]
      unfold updA
      rw [if_neg e, if_neg e]
      exact (h.s j hj).off h.dis o (by omega)
theorem Wt.put' (h : Wt w0 wB Kp w p P x L F) {i : Nat} (hi : i < 4) {X0 y : SV} (hx : x i = X0) {l : List ByteArray} (ho : Ow w' w0.heap.size y.v l) (a : Apd w0.heap.size X0.v y.v w w') : Wt w0 wB Kp w' p P (updA x i y) (updA L i l) (upd F (i + 1) (ob y)) := by
  subst hx
  exact h.put hi ho a
theorem Wt.own (h : Wt w0 wB Kp w p P x L F) {i : Nat} (hi : i < 4) {a : Option Addr} {n c : Nat} (hx : x i = ⟨a, n, c⟩) : Ow w w0.heap.size (.slice a n c) (L i) ∧ ∀ b, (SV.mk a n c).v.ownBlock = some b → F (i + 1) b := by
  have h1 := h.s i hi
  rw [hx] at h1
  exact h1
/-- a box of the call's own is nobody's -/
theorem Wt.box (h : Wt w0 wB Kp w p P x L F) {b : Nat → Prop} (o : Off b w w') (hb : ∀ i k, b k → ¬ F i k) (hk : ∀ k, b k → ¬ Kp k) (hb0 : ∀ k, b k → w0.heap.size ≤ k) : Wt w0 wB Kp w' p P x L F :=
  ⟨h.e.off o (fun k hk e => hb 0 k e hk), fun i hi => ⟨ow_keep (h.s i hi).1 fun c hc => o.block c ((h.s i hi).1.low c hc).2 (fun e => hb _ c e ((h.s i hi).2 c hc)), (h.s i hi).2⟩, h.dis, fun i k hk => ⟨(h.low i k hk).1, Nat.lt_of_lt_of_le (h.low i k hk).2 o.size⟩, Below.trans h.ext (o.below (fun k hk => hb0 k hk) h.ext.size), Nat.le_trans h.kb o.size, kp_off h.kb h.kp o hk, h.nk⟩
/-- what is kept, from now on -/
theorem Wt.base (h : Wt w0 wB Kp w p P x L F) (Kq : Nat → Prop) (hl : ∀ k, Kq k → k < w.heap.size) (hn : ∀ i k, F i k → ¬ Kq k) : Wt w0 w Kq w p P x L F :=
  ⟨h.e, h.s, h.dis, h.low, h.ext, Nat.le_refl _, fun k hk => ⟨hl k hk, rfl⟩, hn⟩
end

/-- two slices' values, as an array's cells -/
def two2 (x : Nat → SV) (i : Nat) : Array Value := #[.slice (x i).ao (x i).n (x i).c, .slice (x (i + 1)).ao (x (i + 1)).n (x (i + 1)).c]
theorem two2_of {x : Nat → SV} {i : Nat} {a b : Option Addr} {n c m d : Nat} (h0 : x i = ⟨a, n, c⟩) (h1 : x (i + 1) = ⟨b, m, d⟩) : two2 x i = #[.slice a n c, .slice b m d] := by unfold two2; rw [h0, h1]
def zz : Array Value := #[.slice none 0 0, .slice none 0 0]
def actC (y : Act10) : Array Value := #[.int .i64 y.k, .int .i64 y.sd, .int .i64 y.n, .int .i64 y.x, .string y.s]
/-- an act, what went, what was sent, two results: five boxes, one behind the other -/
structure B5 (n : Nat) (A W S Z1 Z2 : Array Value) (w : World) : Prop where
  ba : w.heap[n]? = some (.cells A 33 (0, 0))
  bw : w.heap[n + 1]? = some (.cells W 29 (0, 0))
  bs : w.heap[n + 2]? = some (.cells S 29 (0, 0))
  z1 : w.heap[n + 3]? = some (.cells Z1 29 (0, 0))
  z2 : w.heap[n + 4]? = some (.cells Z2 29 (0, 0))
section
variable {n : Nat} {A W S Z1 Z2 : Array Value} {w w' : World}
theorem B5.ext (h : B5 n A W S Z1 Z2 w) (x : Ext w w') : B5 n A W S Z1 Z2 w' := ⟨blk_later h.ba x, blk_later h.bw x, blk_later h.bs x, blk_later h.z1 x, blk_later h.z2 x⟩
theorem B5.off {F : Nat → Prop} (h : B5 n A W S Z1 Z2 w) (o : Off F w w') (hf : ∀ i, i < 5 → ¬ F (n + i)) : B5 n A W S Z1 Z2 w' :=
  ⟨o.blk h.ba (hf 0 (by decide)), o.blk h.bw (hf 1 (by decide)), o.blk h.bs (hf 2 (by decide)), o.blk h.z1 (hf 3 (by decide)), o.blk h.z2 (hf 4 (by decide))⟩
theorem B5.lt (h : B5 n A W S Z1 Z2 w) : n + 4 < w.heap.size := blk_lt h.z2
end
theorem b5_new (w : World) (A W S Z1 Z2 : Array Value) {w' : World} (x : Ext (((((w.alloc (.cells A 33 (0, 0))).alloc (.cells W 29 (0, 0))).alloc (.cells S 29 (0, 0))).alloc (.cells Z1 29 (0, 0))).alloc (.cells Z2 29 (0, 0))) w') : B5 w.heap.size A W S Z1 Z2 w' := by
  have h1 : w.heap.size + 1 = (w.alloc (.cells A 33 (0, 0))).heap.size := (size_alloc _ _).symm
  have h2 : w.heap.size + 2 = ((w.alloc (.cells A 33 (0, 0))).alloc (.cells W 29 (0, 0))).heap.size := by rw [size_alloc, size_alloc]
  have h3 : w.heap.size + 3 = (((w.alloc (.cells A 33 (0, 0))).alloc (.cells W 29 (0, 0))).alloc (.cells S 29 (0, 0))).heap.size := by rw [size_alloc, size_alloc, size_alloc]
  have h4 : w.heap.size + 4 = ((((w.alloc (.cells A 33 (0, 0))).alloc (.cells W 29 (0, 0))).alloc (.cells S 29 (0, 0))).alloc (.cells Z1 29 (0, 0))).heap.size := by rw [size_alloc, size_alloc, size_alloc, size_alloc]
  refine ⟨blk_later (blk_alloc (blk_alloc (blk_alloc (blk_alloc (get_alloc_new w _) _) _) _) _) x, ?_, ?_, ?_, ?_⟩
  · rw [h1]; exact blk_later (blk_alloc (blk_alloc (blk_alloc (get_alloc_new _ _) _) _) _) x
  · rw [h2]; exact blk_later (blk_alloc (blk_alloc (get_alloc_new _ _) _) _) x
  · rw [h3]; exact blk_later (blk_alloc (get_alloc_new _ _) _) x
  · rw [h4]; exact blk_later (get_alloc_new _ _) x
theorem nb_upd {F : Nat → Nat → Prop} {G : Nat → Prop} {W : World} {b i : Nat} (h : ∀ j, ¬ F j b) (hb : b < W.heap.size) (g : Grows (F i) G W) : ∀ j, ¬ upd F i G j b := by
  intro j hj
  by_cases e : j = i
  · subst e
    rw [upd_same] at hj
    rcases g b hj with h1 | h1
    · exact h j h1
    · omega
  · rw [upd_ne F G e] at hj
    exact h j hj
/-- five boxes are laid -/
def five (w : World) (A W S Z1 Z2 : Array Value) : World := ((((w.alloc (.cells A 33 (0, 0))).alloc (.cells W 29 (0, 0))).alloc (.cells S 29 (0, 0))).alloc (.cells Z1 29 (0, 0))).alloc (.cells Z2 29 (0, 0))
theorem five_ext (w : World) (A W S Z1 Z2 : Array Value) : Ext w (five w A W S Z1 Z2) := (((((Ext.refl w).alloc _).alloc _).alloc _).alloc _).alloc _
theorem five_b5 (w : World) (A W S Z1 Z2 : Array Value) : B5 w.heap.size A W S Z1 Z2 (five w A W S Z1 Z2) := b5_new w A W S Z1 Z2 (Ext.refl _)
theorem cells2t {W : World} {g : Nat} {v0 v1 : Value} {t : TypeId} (h : W.heap[g]? = some (.cells #[v0, v1] t (0, 0))) :
    (W.cell? ⟨g, 0, none⟩ = some v0 ∧ W.cell? ⟨g, 1, none⟩ = some v1) ∧ (W.frozen? ⟨g, 0, none⟩ = false ∧ W.frozen? ⟨g, 1, none⟩ = false) :=
  ⟨⟨blk_cell h 0 rfl, blk_cell h 1 rfl⟩, ⟨blk_free h 0, blk_free h 1⟩⟩
theorem cells5t {W : World} {g : Nat} {v0 v1 v2 v3 v4 : Value} {t : TypeId} (h : W.heap[g]? = some (.cells #[v0, v1, v2, v3, v4] t (0, 0))) :
    W.cell? ⟨g, 0, none⟩ = some v0 ∧ W.cell? ⟨g, 1, none⟩ = some v1 ∧ W.cell? ⟨g, 2, none⟩ = some v2 ∧ W.cell? ⟨g, 3, none⟩ = some v3 ∧ W.cell? ⟨g, 4, none⟩ = some v4 :=
  ⟨blk_cell h 0 rfl, blk_cell h 1 rfl, blk_cell h 2 rfl, blk_cell h 3 rfl, blk_cell h 4 rfl⟩

def set2 (W : World) (g : Nat) (u0 u1 : Value) : World := (W.setCell ⟨g, 0, none⟩ u0).setCell ⟨g, 1, none⟩ u1
theorem set2_blk {W : World} {g : Nat} {v0 v1 : Value} {t : TypeId} (h : W.heap[g]? = some (.cells #[v0, v1] t (0, 0))) (u0 u1 : Value) : (set2 W g u0 u1).heap[g]? = some (.cells #[u0, u1] t (0, 0)) := by
  have h2 := blk_set (blk_set h 0 u0) 1 u1
  simpa [set2] using h2
theorem off_set2 (W : World) (g : Nat) (u0 u1 : Value) : Off (fun k => k = g) W (set2 W g u0 u1) := (off_set W ⟨g, 0, none⟩ u0).trans (off_set _ ⟨g, 1, none⟩ u1) (Grows.refl _ _)
section
variable {n : Nat} {A W S Z1 Z2 : Array Value} {w : World}
theorem B5.setz1 (h : B5 n A W S zz Z2 w) (u0 u1 : Value) : B5 n A W S #[u0, u1] Z2 (set2 w (n + 3) u0 u1) := by
  have o := off_set2 w (n + 3) u0 u1
  exact ⟨o.blk h.ba (by omega), o.blk h.bw (by omega), o.blk h.bs (by omega), set2_blk h.z1 u0 u1, o.blk h.z2 (by omega)⟩
theorem B5.sets (h : B5 n A W S Z1 Z2 w) (i : Nat) (u : Value) : B5 n A W (S.setIfInBounds i u) Z1 Z2 (w.setCell ⟨n + 2, i, none⟩ u) := by
  have o := off_set w ⟨n + 2, i, none⟩ u
  exact ⟨o.blk h.ba (show ¬ n = n + 2 by omega), o.blk h.bw (show ¬ n + 1 = n + 2 by omega), blk_set h.bs i u, o.blk h.z1 (show ¬ n + 3 = n + 2 by omega), o.blk h.z2 (show ¬ n + 4 = n + 2 by omega)⟩
theorem B5.setw (h : B5 n A W S Z1 Z2 w) (i : Nat) (u : Value) : B5 n A (W.setIfInBounds i u) S Z1 Z2 (w.setCell ⟨n + 1, i, none⟩ u) := by
  have o := off_set w ⟨n + 1, i, none⟩ u
  exact ⟨o.blk h.ba (show ¬ n = n + 1 by omega), blk_set h.bw i u, o.blk h.bs (show ¬ n + 2 = n + 1 by omega), o.blk h.z1 (show ¬ n + 3 = n + 1 by omega), o.blk h.z2 (show ¬ n + 4 = n + 1 by omega)⟩
theorem B5.setz2 (h : B5 n A W S Z1 zz w) (u0 u1 : Value) : B5 n A W S Z1 #[u0, u1] (set2 w (n + 4) u0 u1) := by
  have o := off_set2 w (n + 4) u0 u1
  exact ⟨o.blk h.ba (by omega), o.blk h.bw (by omega), o.blk h.bs (by omega), o.blk h.z1 (by omega), set2_blk h.z2 u0 u1⟩
end
/-- what an act leaves -/
def PlayTo (w0 wB : World) (Kp : Nat → Prop) (p : Nat) (P' : PipeS) (L' : Nat → List ByteArray) (r : Bool) (e : Ending) (w' : World) : Prop := ∃ x' F', e = .returned (.tuple #[.agg (two2 x' 0), .agg (two2 x' 2), .bool r]) ∧ Wt w0 wB Kp w' p P' x' L' F'
end Go.Proofs.YtcjoemkplghonaaDoor
