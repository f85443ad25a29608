/- An act of two ends, of either side; what begins another row; the ends' box. -/
import Derived.Test.YtefkjclkondmeaaKV0
import Derived.Test.YtefkjclkondmeaaKV1
namespace Go.Proofs.Ytefkjclkondmeaa
open Go.RowKit

set_option linter.unusedVariables false
theorem play_any (w0 w : World) (hs : Std w0) (fn K : Nat) (T : TV) (h : GameX w0 w fn K T) (hK : K ≤ 900) (y : Act9) (hb : y.s.size ≤ 1000) :
    Calls Try.prog 24 #[tv T, .agg #[.int .i64 y.k, .int .i64 y.n, .bool y.side, .string y.s, .int .i64 y.f.k, .int .i64 y.f.e, .int .u64 (y.f.q : Int), .int .u64 (y.f.a : Int), .string y.f.b]] w (PlayR w0 fn (K + 1) T) := by
  obtain ⟨k, n, sd, s9, f⟩ := y
  obtain ⟨fk, fe, fq, fa, fb⟩ := f
  dsimp only at hb ⊢
  cases sd
  · obtain ⟨X, Y, s, g, O, s', g', O', F, h⟩ := h
    obtain ⟨p, q, ⟨oa, on, oc⟩, ⟨oa', on', oc'⟩, ⟨sa, sn, sc⟩, ⟨sa', sn', sc'⟩, ⟨ga, gn, gc⟩, ⟨ga', gn', gc'⟩⟩ := T
    by_cases h0 : k = 0
    · subst h0
      by_cases hE : X.sendE s9 = 0
      · exact play0_send w0 w hs fn K p q _ _ _ _ _ _ _ _ _ _ _ _ _ _ _ _ _ _ h hK 0 n s9 fk fe fq fa fb hb hE
      · exact play0_full w0 w hs fn K p q _ _ _ _ _ _ _ _ _ _ _ _ _ _ _ _ _ _ h hK 0 n s9 fk fe fq fa fb hb hE
    · by_cases h1 : k = 1
      · subst h1
        exact play0_out w0 w hs fn K p q _ _ _ _ _ _ _ _ _ _ _ _ _ _ _ _ _ _ h hK 1 n s9 fk fe fq fa fb
      · by_cases h2 : k = 2
        · subst h2
          exact play0_tick w0 w hs fn K p q _ _ _ _ _ _ _ _ _ _ _ _ _ _ _ _ _ _ h hK 2 n s9 fk fe fq fa fb
        · by_cases hn : n < 0
          · exact play0_neg w0 w hs fn K p q _ _ _ _ _ _ _ _ _ _ _ _ _ _ _ _ _ _ h hK k n s9 fk fe fq fa fb h0 h1 h2 hn
          · have hon : on' = O'.length := by
              obtain ⟨a9, c9, h9⟩ := h.st.co'.1.sl.len
              unfold SV.v at h9
              simp only [Value.slice.injEq] at h9
              exact h9.2.1
            by_cases hm : (on' : Int) ≤ n
            · exact play0_far w0 w hs fn K p q _ _ _ _ _ _ _ _ _ _ _ _ _ _ _ _ _ _ h hK k n s9 fk fe fq fa fb h0 h1 h2 (by omega) hm
            · obtain ⟨i, rfl⟩ := Int.eq_ofNat_of_zero_le (show 0 ≤ n by omega)
              cases hT : X.told (O'.getD i Fr.zero)
              · exact play0_old w0 w hs fn K p q _ _ _ _ _ _ _ _ _ _ _ _ _ _ _ _ _ _ h hK k s9 fk fe fq fa fb h0 h1 h2 i (by omega) hT
              · exact play0_told w0 w hs fn K p q _ _ _ _ _ _ _ _ _ _ _ _ _ _ _ _ _ _ h hK k s9 fk fe fq fa fb h0 h1 h2 i (by omega) hT
  · replace h := h.swap
    obtain ⟨X, Y, s, g, O, s', g', O', F, h⟩ := h
    obtain ⟨q, p, ⟨oa', on', oc'⟩, ⟨oa, on, oc⟩, ⟨sa', sn', sc'⟩, ⟨sa, sn, sc⟩, ⟨ga', gn', gc'⟩, ⟨ga, gn, gc⟩⟩ := T
    by_cases h0 : k = 0
    · subst h0
      by_cases hE : X.sendE s9 = 0
      · exact play1_send w0 w hs fn K p q _ _ _ _ _ _ _ _ _ _ _ _ _ _ _ _ _ _ h hK 0 n s9 fk fe fq fa fb hb hE
      · exact play1_full w0 w hs fn K p q _ _ _ _ _ _ _ _ _ _ _ _ _ _ _ _ _ _ h hK 0 n s9 fk fe fq fa fb hb hE
    · by_cases h1 : k = 1
      · subst h1
        exact play1_out w0 w hs fn K p q _ _ _ _ _ _ _ _ _ _ _ _ _ _ _ _ _ _ h hK 1 n s9 fk fe fq fa fb
      · by_cases h2 : k = 2
        · subst h2
          exact play1_tick w0 w hs fn K p q _ _ _ _ _ _ _ _ _ _ _ _ _ _ _ _ _ _ h hK 2 n s9 fk fe fq fa fb
        · by_cases hn : n < 0
          · exact play1_neg w0 w hs fn K p q _ _ _ _ _ _ _ _ _ _ _ _ _ _ _ _ _ _ h hK k n s9 fk fe fq fa fb h0 h1 h2 hn
          · have hon : on' = O'.length := by
              obtain ⟨a9, c9, h9⟩ := h.st.co'.1.sl.len
              unfold SV.v at h9
              simp only [Value.slice.injEq] at h9
              exact h9.2.1
            by_cases hm : (on' : Int) ≤ n
            · exact play1_far w0 w hs fn K p q _ _ _ _ _ _ _ _ _ _ _ _ _ _ _ _ _ _ h hK k n s9 fk fe fq fa fb h0 h1 h2 (by omega) hm
            · obtain ⟨i, rfl⟩ := Int.eq_ofNat_of_zero_le (show 0 ≤ n by omega)
              cases hT : X.told (O'.getD i Fr.zero)
              · exact play1_old w0 w hs fn K p q _ _ _ _ _ _ _ _ _ _ _ _ _ _ _ _ _ _ h hK k s9 fk fe fq fa fb h0 h1 h2 i (by omega) hT
              · exact play1_told w0 w hs fn K p q _ _ _ _ _ _ _ _ _ _ _ _ _ _ _ _ _ _ h hK k s9 fk fe fq fa fb h0 h1 h2 i (by omega) hT

theorem begins_yes (w : World) (va vb : Value) (xs ys : List ByteArray) (hx : Sl w va xs) (hy : Sl w vb ys) (h1 : xs.length ≤ ys.length) (h2 : xs = ys.take xs.length) :
    Calls Try.prog 25 #[va, vb] w fun e w' => e = .returned (.bool true) ∧ Ext w w' := by
  have hlx := hx.length_le
  have hly := hy.length_le
  have hle : (xs.length : Int) ≤ (ys.length : Int) := by omega
  have hcut : ∃ ao c, vb = .slice ao ys.length c ∧ xs.length ≤ c ∧ Hid (Sl w (.slice ao xs.length c) xs) := by
    rcases hy.parts with ⟨h0, ao, c, hv⟩ | ⟨b, off, c, hv, q1, q2, q3, q4, q5⟩
    · obtain ⟨ao', c', hv'⟩ := hy.len
      have hx0 : xs.length = 0 := by rw [h0] at h1; simpa using h1
      refine ⟨ao', c', hv', by omega, ?_⟩
      have : xs = [] := List.eq_nil_of_length_eq_zero hx0
      rw [h0] at hv'
      rw [hv', h0] at hy
      rw [this]
      exact Lib.hid hy
    · refine ⟨some ⟨b, off, none⟩, c, hv, by omega, ?_⟩
      rw [hv] at hy
      have := hy.cut 0 xs.length (by omega) (by omega)
      rw [Nat.zero_mul, Nat.add_zero, Nat.sub_zero, List.drop_zero, ← h2] at this
      exact Lib.hid this
  obtain ⟨ao, c, rfl, hc, HC⟩ := hcut
  obtain ⟨a1, c1, rfl⟩ := hx.len
  have hcc : (xs.length : Int) ≤ (c : Int) := by omega
  have HX := Lib.hid hx
  clear hx hy h2
  go_enter Try.func25, Try.ntmps25
  go_wp2_with (first
    | (go_at_call 26; refine (refTexts_any _ _ _ xs xs HX.out HC.out).mono ?_; rintro e w1 ⟨rfl, x1⟩; rw [decide_eq_true (show xs = xs from rfl)]; have X1 := Lib.hid x1; clear x1))
  go_ret
  exact ⟨rfl, X1.out⟩

theorem St.rebase {w0 w w0' W : World} {T : TV} {X Y : EndS} {s g : List ByteArray} {O : List Fr} {s' g' : List ByteArray} {O' : List Fr} {F : Nat → Nat → Prop} {b : Nat} (h : St w0 w T X Y s g O s' g' O' F) (o : Off (fun k => k = b) w W) (hb : b < w0.heap.size) (hs : w0'.heap.size = w0.heap.size) (x : Ext w0' W) : St w0' W T X Y s g O s' g' O' F := by
  have hn : ∀ i, ¬ F i b := fun i hi => by have := (h.low i b hi).1; omega
  have hE : ∀ {p S i}, EAt w p S (F i) → EAt W p S (F i) := fun {p S i} h => h.off o (fun k hk e => hn i (e ▸ hk))
  have hA : ∀ {α : Type} [Elem α] {i : Nat} {x9 : SV} {xs : List α}, As w0 w (F i) x9 xs → As w0' W (F i) x9 xs := fun {α _ i x9 xs} h9 => ⟨by rw [hs]; exact ow_keep h9.1 fun c hc => o.block c (h9.1.low c hc).2 (fun e => hn i (e ▸ h9.2 c hc)), h9.2⟩
  exact ⟨hE h.e, hE h.e', hA h.co, hA h.co', hA h.cs, hA h.cs', hA h.cg, hA h.cg', h.dis, fun i k hk => ⟨by rw [hs]; exact (h.low i k hk).1, Nat.lt_of_lt_of_le (h.low i k hk).2 o.size⟩, x⟩
theorem GameX.rebase {w0 w w0' W : World} {fn K : Nat} {T : TV} {b : Nat} (h : GameX w0 w fn K T) (o : Off (fun k => k = b) w W) (hb : b < w0.heap.size) (hs : w0'.heap.size = w0.heap.size) (x : Ext w0' W) : GameX w0' W fn K T := by
  obtain ⟨X, Y, s, g, O, s', g', O', F, h⟩ := h
  exact ⟨X, Y, s, g, O, s', g', O', F, h.st.rebase o hb hs x, h.pair, h.fit, h.fit', h.bs, h.bs', h.bo, h.bo', h.one, h.one'⟩
theorem ext_set8 {w0 w : World} {b : Nat} {v0 v1 v2 v3 v4 v5 v6 v7 : Value} {t : TypeId} (x : Ext w0 w) (hb : w0.heap[b]? = some (.cells #[v0, v1, v2, v3, v4, v5, v6, v7] t (0, 0))) (u0 u1 u2 u3 u4 u5 u6 u7 : Value) : Ext (set8 w0 b u0 u1 u2 u3 u4 u5 u6 u7) (set8 w b u0 u1 u2 u3 u4 u5 u6 u7) := by
  have s1 : ∀ W : World, (set8 W b u0 u1 u2 u3 u4 u5 u6 u7).heap.size = W.heap.size := fun W => by unfold set8; simp only [set_size]
  have o1 := off_set8 w0 b u0 u1 u2 u3 u4 u5 u6 u7
  have o2 := off_set8 w b u0 u1 u2 u3 u4 u5 u6 u7
  refine ⟨o2.os.trans (x.os.trans o1.os.symm), o2.tape.trans (x.tape.trans o1.tape.symm), o2.output.trans (x.output.trans o1.output.symm), by rw [s1, s1]; exact x.size, fun k hk => ?_⟩
  rw [s1] at hk
  by_cases e : k = b
  · subst e
    have e1 := set8_blk ((x.block k (blk_lt hb)).trans hb) u0 u1 u2 u3 u4 u5 u6 u7
    have e2 := set8_blk hb u0 u1 u2 u3 u4 u5 u6 u7
    exact e1.trans e2.symm
  · rw [o2.block k (Nat.lt_of_lt_of_le hk x.size) e, o1.block k hk e]
    exact x.block k hk
def tvA (T : TV) : Array Value := #[.pointer (some ⟨T.p, 0, none⟩), .pointer (some ⟨T.p', 0, none⟩), .slice T.o.ao T.o.n T.o.c, .slice T.o'.ao T.o'.n T.o'.c, .slice T.s.ao T.s.n T.s.c, .slice T.s'.ao T.s'.n T.s'.c, .slice T.g.ao T.g.n T.g.c, .slice T.g'.ao T.g'.n T.g'.c]
/-- the ends' box, first of all that is new -/
def Bx (w : World) (T : TV) : World := w.alloc (.cells (tvA T) 59 (0, 0))
theorem bx_size (w : World) (T : TV) : (Bx w T).heap.size = w.heap.size + 1 := size_alloc _ _
theorem bx_ext {w W : World} {T : TV} (x : Ext w W) (hb : W.heap[w.heap.size]? = some (.cells (tvA T) 59 (0, 0))) : Ext (Bx w T) W := by
  refine ⟨x.os, x.tape, x.output, by rw [bx_size]; exact blk_lt hb, fun k hk => ?_⟩
  rw [bx_size] at hk
  by_cases e : k = w.heap.size
  · subst e
    exact hb.trans (get_alloc_new w _).symm
  · exact (x.block k (by omega)).trans (get_alloc_old (by omega)).symm
/-- a game, and the ends' box -/
structure Play (w wr : World) (fn k : Nat) (T : TV) : Prop where
  ext : Ext w wr
  box : wr.heap[w.heap.size]? = some (.cells (tvA T) 59 (0, 0))
  game : GameX (Bx w T) wr fn k T
theorem Play.of {w wr : World} {fn k : Nat} {T0 T : TV} (g : GameX (Bx w T0) wr fn k T) (x : Ext w wr) {W : World} (o : Off (fun j => j = w.heap.size) wr W) (hb : W.heap[w.heap.size]? = some (.cells (tvA T) 59 (0, 0))) : Play w W fn k T := by
  have x2 : Ext w W := Below.trans x (o.below (fun j hj => by omega) x.size)
  exact ⟨x2, hb, g.rebase o (by rw [bx_size]; omega) (by rw [bx_size, bx_size]) (bx_ext x2 hb)⟩
theorem Play.more {w wr W : World} {fn k : Nat} {T : TV} (h : Play w wr fn k T) (x : Ext wr W) : Play w W fn k T := by
  obtain ⟨X, Y, s, g, O, s', g', O', F, hg⟩ := h.game
  exact ⟨Ext.trans h.ext x, blk_later h.box x, X, Y, s, g, O, s', g', O', F, hg.more x (Nat.le_refl _)⟩
/-- it begins -/
theorem Play.new {w wa wb W : World} {fn : Nat} (hf : fn < 18446744073709551616) {win qn wait : Int} {p q : Nat} {F0 F1 : Nat → Prop} (xa : Ext w wa) (n0 : EAt wa p (EndS.new 1 fn win qn wait) F0) (l0 : ∀ k, F0 k → w.heap.size + 1 ≤ k) (xb : Ext wa wb) (n1 : EAt wb q (EndS.new 1 fn win qn wait) F1) (l1 : ∀ k, F1 k → wa.heap.size ≤ k)
    (hs : w.heap.size + 1 ≤ wa.heap.size) (o : Off (fun j => j = w.heap.size) wb W) (hb : W.heap[w.heap.size]? = some (.cells (tvA ⟨p, q, SV.nil, SV.nil, SV.nil, SV.nil, SV.nil, SV.nil⟩) 59 (0, 0))) :
    Play w W fn 0 ⟨p, q, SV.nil, SV.nil, SV.nil, SV.nil, SV.nil, SV.nil⟩ := by
  have x2 : Ext w W := Below.trans (Ext.trans xa xb) (o.below (fun j hj => by omega) (Nat.le_trans xa.size xb.size))
  have xB := bx_ext x2 hb
  have hA : ∀ {α : Type} [Elem α] {F : Nat → Prop}, As (Bx w ⟨p, q, SV.nil, SV.nil, SV.nil, SV.nil, SV.nil, SV.nil⟩) W F SV.nil ([] : List α) := fun {α _ F} => ⟨Ow.nil _ _, fun b hb => by cases hb⟩
  have n0' : EAt W p (EndS.new 1 fn win qn wait) F0 := (n0.off (Off.of_ext (F := fun _ => False) xb) (fun _ _ hf => hf)).off o (fun k hk e => by have := l0 k hk; omega)
  have n1' : EAt W q (EndS.new 1 fn win qn wait) F1 := n1.off o (fun k hk e => by have := l1 k hk; omega)
  refine ⟨x2, hb, EndS.new 1 fn win qn wait, EndS.new 1 fn win qn wait, [], [], [], [], [], [], fun i => if i = 0 then F0 else if i = 1 then F1 else fun _ => False, ⟨n0', n1', hA, hA, hA, hA, hA, hA, ?_, ?_, xB⟩, ⟨Half.new fn hf 1 win qn wait, Half.new fn hf 1 win qn wait, EndS.new_ok hf, EndS.new_ok hf⟩, fun f hf => (by cases hf), fun f hf => (by cases hf), Nat.le_refl _, Nat.le_refl _, Nat.le_refl _, Nat.le_refl _, rfl, rfl⟩
  · have hlo := n0.low
    intro i j k h1 h2
    by_cases i0 : i = 0
    · subst i0
      by_cases j0 : j = 0
      · exact j0.symm
      · by_cases j1 : j = 1
        · subst j1
          have a1 := hlo k h1
          have a2 := l1 k h2
          omega
        · rw [if_neg j0, if_neg j1] at h2
          exact h2.elim
    · by_cases i1 : i = 1
      · subst i1
        by_cases j0 : j = 0
        · subst j0
          have a1 := hlo k h2
          have a2 := l1 k h1
          omega
        · by_cases j1 : j = 1
          · exact j1.symm
          · rw [if_neg j0, if_neg j1] at h2
            exact h2.elim
      · rw [if_neg i0, if_neg i1] at h1
        exact h1.elim
  · intro i k hk
    rw [bx_size]
    by_cases i0 : i = 0
    · subst i0
      exact ⟨l0 k hk, n0'.low k hk⟩
    · by_cases i1 : i = 1
      · subst i1
        have hk1 : F1 k := hk
        exact ⟨Nat.le_trans hs (l1 k hk1), n1'.low k hk1⟩
      · rw [if_neg i0, if_neg i1] at hk
        exact hk.elim
theorem GameX.ext {w0 w : World} {fn K : Nat} {T : TV} (h : GameX w0 w fn K T) : Ext w0 w := by
  obtain ⟨X, Y, s, g, O, s', g', O', F, h⟩ := h
  exact h.st.ext
theorem Game.of_st {w0 w w' : World} {fn K : Nat} {T : TV} {X Y : EndS} {s g : List ByteArray} {O : List Fr} {s' g' : List ByteArray} {O' : List Fr} {F F' : Nat → Nat → Prop} (h : Game w0 w fn K T X Y s g O s' g' O' F) (st : St w0 w' T X Y s g O s' g' O' F') : Game w0 w' fn K T X Y s g O s' g' O' F' :=
  ⟨st, h.pair, h.fit, h.fit', h.bs, h.bs', h.bo, h.bo', h.one, h.one'⟩
/-- what LinkOnce asks, of a game -/
theorem Game.tell {w0 w : World} {fn K : Nat} {T : TV} {X Y : EndS} {s g : List ByteArray} {O : List Fr} {s' g' : List ByteArray} {O' : List Fr} {F : Nat → Nat → Prop} (h : Game w0 w fn K T X Y s g O s' g' O' F) : (g.length ≤ s.length ∧ g = s.take g.length) ∧ X.l.length ≤ s.length ∧ s.length - X.l.length ≤ g.length := h.pair.asks
end Go.Proofs.Ytefkjclkondmeaa
