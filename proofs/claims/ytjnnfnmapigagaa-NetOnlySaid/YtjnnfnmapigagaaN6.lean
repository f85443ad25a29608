/- The document's nets: flip, quiet. -/
import Derived.Test.YtjnnfnmapigagaaN5
namespace Go.Proofs.Ytjnnfnmapigagaa
open Go.RowKit

theorem canF_iff {S : NetS} {a b k : Int} : S.canF a b k = true ↔ S.there a b k = true ∧ (S.look a b k).size ≠ 0 := by
  unfold NetS.canF
  simp only [Bool.and_eq_true, Bool.not_eq_true', decide_eq_false_iff_not]

theorem empty_size (s : ByteArray) : s.toList.isEmpty = decide (s.size = 0) := by
  have : s.toList = s.data.toList := ByteArray.toList_eq s
  rw [this]
  have : s.data.toList.isEmpty = decide (s.data.size = 0) := by
    rw [← Array.length_toList]
    cases s.data.toList <;> simp
  exact this

theorem cells_s : ∀ xs : List ByteArray, cellsOf xs = xs.map Value.string
  | [] => rfl
  | x :: xs => by
    have ih := cells_s xs
    show Elem.enc x ++ cellsOf xs = _
    rw [ih]
    rfl
theorem set_ow_s {w : World} {B g n c : Nat} {xs : List ByteArray} (h : Ow w B (.slice (some ⟨g, 0, none⟩) n c) xs) (j : Nat) (x : ByteArray) : Ow (w.setCell ⟨g, j, none⟩ (.string x)) B (.slice (some ⟨g, 0, none⟩) n c) (xs.set j x) := by
  obtain ⟨ao, c', hv⟩ := h.sl.len
  simp only [Value.slice.injEq] at hv
  obtain ⟨_, rfl, _⟩ := hv
  obtain ⟨h1, h2⟩ := World.ownsRow.stored h j (.string x)
  unfold Ow
  rw [cells_s] at h1 ⊢
  rw [List.length_set, List.map_set]
  exact h1
/-- a slice of texts of one's own, that isn't empty: its cells -/
theorem Ow.at_s {w : World} {B : Nat} {v : Value} {xs : List ByteArray} (h : Ow w B v xs) {j : Nat} (hj : j < xs.length) :
    ∃ g c, v = .slice (some ⟨g, 0, none⟩) xs.length c ∧ B ≤ g ∧ xs.length ≤ c ∧ w.cell? ⟨g, j, none⟩ = some (.string (xs.getD j ⟨#[]⟩)) ∧ w.frozen? ⟨g, j, none⟩ = false := by
  have hn : v ≠ .slice none 0 0 := fun e => by
    obtain ⟨ao, c, hv⟩ := h.sl.len
    rw [e] at hv
    simp only [Value.slice.injEq] at hv
    omega
  obtain ⟨g, c, hv, h1, h2, h3, h4⟩ := h.shape hn
  subst hv
  refine ⟨g, c, rfl, h1, h3, ?_, ?_⟩
  · have := World.ownsRow.cellAt (g := g) h j (by show j < xs.length * 1; omega)
    rw [cells_s] at this
    rw [this]
    simp [hj]
  · rcases h.2 with ⟨hv, _⟩ | ⟨g', cap, cur, hv, _, hh, _⟩
    · simp at hv
    · simp only [Value.slice.injEq, Option.some.injEq, Addr.mk.injEq, and_true] at hv
      obtain ⟨rfl, _⟩ := hv
      exact blk_free hh j

set_option maxHeartbeats 1600000 in
theorem refFlip_no (F : Nat → Prop) (w : World) (v : Value) (S : NetS) (m : Nat) (h : RNet F w v S m) (a b k bit : Int) (hr : S.canF a b k = false) :
    Calls Try.prog 17 #[v, .int .i64 a, .int .i64 b, .int .i64 k, .int .i64 bit] w fun e w' => e = .returned (.tuple #[v, .bool false]) ∧ Ext w w' := by
  have cL := fun W (x : Ext w W) => refLook_any F W v S m (h.ext x) a b k
  obtain ⟨ao, n, c, L, rfl, _⟩ := h
  have hn : S.there a b k = true → (S.look a b k).size = 0 := fun h1 => by
    rcases Nat.eq_zero_or_pos (S.look a b k).size with h2 | h2
    · exact h2
    · rw [canF_iff.2 ⟨h1, by omega⟩] at hr; cases hr
  clear hr
  cases h2 : S.there a b k
  all_goals
    rw [h2] at cL hn
    clear h2
  · replace cL := Lib.hid cL
    clear hn
    obtain ⟨T, hT⟩ : ∃ T, T = S.look a b k := ⟨_, rfl⟩
    rw [← hT] at cL
    clear hT
    go_enter Try.func17, Try.ntmps17
    go_wp2_with (first
      | (go_at_call 23; refine (cL.out _ (by repeat (first | exact Ext.refl _ | assumption | refine Ext.alloc ?_ _ | refine Ext.drew ?_ | refine Ext.drewN ?_ _))).mono ?_; rintro e w2 ⟨rfl, x2⟩; have X2 := Lib.hid x2; have hb := cells3 ((box2 (W := w2) (w := w) (x2.mono (by simp))).1); have hb2 := cells3 ((box2 (W := w2) (w := w) (x2.mono (by simp))).2); obtain ⟨k3, k4⟩ := hb; obtain ⟨j3, j4⟩ := hb2; clear x2))
    refine bodyPost_ret (v := .tuple #[.agg #[.int .i64 (S.n : Int), .int .i64 (S.room : Int), .slice ao n c], .bool false]) (by simp [results, Try.results17, go_sem, j3]) rfl ⟨rfl, ?_⟩
    exact below_set (below_set (below_set (Ext.trans (((Ext.refl w).alloc _).alloc _) X2.out) (by simp) _) (by simp) _) (by simp) _
  · have h0 := hn rfl
    have e0 : S.look a b k = ⟨#[]⟩ := by
      apply ByteArray.ext
      exact Array.eq_empty_of_size_eq_zero h0
    rw [e0] at cL
    replace cL := Lib.hid cL
    clear hn h0 e0
    go_enter Try.func17, Try.ntmps17
    go_wp2_with (first
      | (go_at_call 23; refine (cL.out _ (by repeat (first | exact Ext.refl _ | assumption | refine Ext.alloc ?_ _ | refine Ext.drew ?_ | refine Ext.drewN ?_ _))).mono ?_; rintro e w2 ⟨rfl, x2⟩; have X2 := Lib.hid x2; have hb := cells3 ((box2 (W := w2) (w := w) (x2.mono (by simp))).1); have hb2 := cells3 ((box2 (W := w2) (w := w) (x2.mono (by simp))).2); obtain ⟨k3, k4⟩ := hb; obtain ⟨j3, j4⟩ := hb2; clear x2))
    refine bodyPost_ret (v := .tuple #[.agg #[.int .i64 (S.n : Int), .int .i64 (S.room : Int), .slice ao n c], .bool false]) (by simp [results, Try.results17, go_sem, j3]) rfl ⟨rfl, ?_⟩
    exact below_set (below_set (below_set (Ext.trans (((Ext.refl w).alloc _).alloc _) X2.out) (by simp) _) (by simp) _) (by simp) _

set_option maxHeartbeats 1600000 in
theorem refFlip_yes (F : Nat → Prop) (w : World) (hF : ∀ k, F k → k < w.heap.size) (v : Value) (S : NetS) (m : Nat) (h : RNet F w v S m) (hm : m ≤ 5000) (ok : S.Ok) (a b k bit : Int) (hb : -9223372036854775808 ≤ bit) (hb2 : bit ≤ 9223372036854775807) (hr : S.canF a b k = true) :
    Calls Try.prog 17 #[v, .int .i64 a, .int .i64 b, .int .i64 k, .int .i64 bit] w fun e w' => ∃ v', e = .returned (.tuple #[v', .bool true]) ∧ RNet F w' v' (S.put a b ((S.f a b).set k.toNat (turned (S.look a b k) bit))) (m + 1) ∧ Ext w w' := by
  obtain ⟨hr1, hz⟩ := canF_iff.1 hr
  obtain ⟨h1, h2⟩ := there_iff.1 hr1
  have h3 := ok.few a b
  have h4 := ok.rooms
  have cL := fun W (x : Ext w W) => refLook_any F W v S m (h.ext x) a b k
  rw [hr1] at cL
  replace cL := Lib.hid cL
  have hshort : (S.look a b k).size ≤ 1000 := by
    unfold NetS.look
    rw [if_pos hr1]
    refine ok.short a b _ ?_
    have : k.toNat < (S.f a b).length := by omega
    simp [this]
  have cT := Lib.hid (fun W => refTurned_any W (S.look a b k) bit hb hb2 (by omega) hshort)
  have cR := Lib.hid (fun W (x : Ext w W) => refRow_len (fun k => F k ∨ w.heap.size ≤ k) W v S m ((h.wide (fun k h1 h2 => by rcases h2 with h2 | h2; exact h2; omega)).ext x) a b _ rfl)
  have cW := Lib.hid (fun W (x : Ext w W) (hW : w.heap.size + 2 ≤ W.heap.size) ol nl cl (hl : Sa (fun k => F k ∨ (w.heap.size ≤ k ∧ k < w.heap.size + 2)) W (.slice ol nl cl) ((S.f a b).set k.toNat (turned (S.look a b k) bit))) => refWith_any (fun k => F k ∨ (w.heap.size ≤ k ∧ k < w.heap.size + 2)) W (fun k hk => by rcases hk with hk | hk; (have := hF k hk; have := x.size; omega); omega) v S m ((h.wide (fun k h1 h2 => by rcases h2 with h2 | h2; exact h2; omega)).ext x) hm a b ol nl cl ((S.f a b).set k.toNat (turned (S.look a b k) bit)) hl)
  have HF := Lib.hid hF
  obtain ⟨ao, n, c, L, rfl, _⟩ := h
  obtain ⟨l, hl⟩ : ∃ l, l = S.f a b := ⟨_, rfl⟩
  rw [← hl] at cR cW h2 h3 ⊢
  obtain ⟨T, hT⟩ : ∃ T, T = S.look a b k := ⟨_, rfl⟩
  rw [← hT] at cL cT cW hz ⊢
  obtain ⟨U, hU⟩ : ∃ U, U = turned T bit := ⟨_, rfl⟩
  rw [← hU] at cT cW ⊢
  obtain ⟨i, rfl⟩ := Int.eq_ofNat_of_zero_le h1
  rw [Int.toNat_natCast] at cW ⊢
  have hemp : T.toList.isEmpty = false := by rw [empty_size]; simpa using hz
  clear hl hr h1 hF hT hU hr1 hshort hz
  have hil : i < l.length := by omega
  go_enter Try.func17, Try.ntmps17
  go_wp2_with (first
    | (go_at_call 23; refine (cL.out _ (by repeat (first | exact Ext.refl _ | assumption | refine Ext.alloc ?_ _ | refine Ext.drew ?_ | refine Ext.drewN ?_ _))).mono ?_; rintro e w2 ⟨rfl, x2⟩; have X2 := Lib.hid x2; have k2 := three_at w.heap.size rfl (Ext.trans ((Ext.refl _).alloc _) x2); have k2b := three_at w.heap.size rfl (Ext.trans ((Ext.refl _).alloc _) (Ext.alloc x2 (.cells #[] 9))); have hs2 := x2.size; rw [size_alloc, size_alloc] at hs2; clear x2)
    | (go_at_call 18; refine (cR.out _ (Ext.trans (((Ext.refl w).alloc _).alloc _) (Ext.alloc X2.out _))).mono ?_; rintro e w3 ⟨a2, c2, rfl, hs3, x3⟩; have X3 := Lib.hid (Ext.trans (Ext.alloc X2.out _) x3); have HS3 := Lib.hid hs3; have O3 := Lib.hid ((Ow.litAt w2 (w.heap.size + 2) _ rfl hs2 ([] : List ByteArray) (by simp)).ext x3); have k3 := three_at w.heap.size rfl (Ext.trans ((Ext.refl _).alloc _) X3.out); have hs4 := x3.size; rw [size_alloc] at hs4; clear x3 hs3)
    | (at_builtin; go_loud (refine wpList_append_sl (α := ByteArray) rfl (.tmp 30) (.tmp 34) rfl (w.heap.size + 2) _ [] rfl ?_ (.slice a2 l.length c2) l rfl ?_ ?_ ?_ ?_; exact O3.out; exact HS3.out.1; (first | omega | (simp; omega)); omega; intro v4 w4 ho4 ha4; have Y4 := Lib.hid (Below.trans (Below.mono X3.out (by rw [size_alloc, size_alloc]; exact Nat.le_refl _)) ha4.below); have O4 := Lib.hid ho4; obtain ⟨a4, n4, c4, rfl⟩ := ho4.sh; have hs5 := ha4.below.size; clear ho4 ha4))
    | (go_at_call 31; refine (cT.out _).mono ?_; rintro e w5 ⟨rfl, x5⟩; have Y5 := Lib.hid (Y4.out.trans (x5.mono (by omega))); have o5 := O4.out.ext x5; rw [List.nil_append] at o5; have O5 := Lib.hid o5; obtain ⟨g5, c5, hv5, q1, q2, q3, q4⟩ := o5.at_s hil; simp only [Value.slice.injEq] at hv5; obtain ⟨rfl, rfl, rfl⟩ := hv5; have hs6 := x5.size; clear x5 o5; have o6 := set_ow_s O5.out i U; have y6 := below_set Y5.out (d := ⟨g5, i, none⟩) (by show w.heap.size + 1 + 1 ≤ g5; omega) (.string U); have O6 := Lib.hid o6; have Y6 := Lib.hid y6; have hb6 := cells3 (box2 y6).1; obtain ⟨k6, f6⟩ := hb6; clear o6 y6)
    | (go_at_call 30; refine (cW.out _ (ext_of_below Y6.out (by omega) (((Ext.refl w).alloc _).alloc _)) (by have := Y6.out.size; rw [size_alloc, size_alloc] at this; omega) _ _ _ (Sa.new O6.out (fun k hk => by rcases hk with hk | hk; (have := HF.out k hk; omega); omega))).mono ?_; rintro e w9 ⟨v9, rfl, r9, x9⟩; have R9 := Lib.hid r9; obtain ⟨ao9, n9, c9, L9, rfl, _⟩ := r9; have Y9 := Lib.hid (Y6.out.trans (x9.mono (by have := Y6.out.size; rw [size_alloc, size_alloc] at this; omega))); have hb9 := (box2 Y9.out).2; have HB9 := Lib.hid hb9; obtain ⟨k9, f9⟩ := cells3 hb9; clear x9 hb9))
  have z := put3_blk HB9.out (.int .i64 ((S.put a b (l.set i U)).n : Int)) (.int .i64 ((S.put a b (l.set i U)).room : Int)) (.slice ao9 n9 c9)
  have y10 := put3_below (Y9.out.mono (Nat.le_succ _)) (Nat.le_refl _) (.int .i64 ((S.put a b (l.set i U)).n : Int)) (.int .i64 ((S.put a b (l.set i U)).room : Int)) (.slice ao9 n9 c9)
  have r10 := R9.out.stored (.int .i64 ((S.put a b (l.set i U)).n : Int)) (.int .i64 ((S.put a b (l.set i U)).room : Int)) (.slice ao9 n9 c9)
  obtain ⟨z0, z1, z2⟩ := (cells3 z).1
  simp only [put3] at z0 z1 z2
  refine bodyPost_ret (v := .tuple #[.agg #[.int .i64 ((S.put a b (l.set i U)).n : Int), .int .i64 ((S.put a b (l.set i U)).room : Int), .slice ao9 n9 c9], .bool true]) (by simp [results, Try.results17, go_sem, z0, z1, z2]) rfl ⟨_, rfl, r10, ext_of_below y10 (by omega) (((Ext.refl w).alloc _).alloc _)⟩

theorem refFlip_any (F : Nat → Prop) (w : World) (hF : ∀ k, F k → k < w.heap.size) (v : Value) (S : NetS) (m : Nat) (h : RNet F w v S m) (hm : m ≤ 5000) (ok : S.Ok) (a b k bit : Int) (hb : -9223372036854775808 ≤ bit) (hb2 : bit ≤ 9223372036854775807) :
    Calls Try.prog 17 #[v, .int .i64 a, .int .i64 b, .int .i64 k, .int .i64 bit] w fun e w' => ∃ v', e = .returned (.tuple #[v', .bool (S.canF a b k)]) ∧ RNet F w' v' (S.flip a b k bit) (m + 1) ∧ Ext w w' := by
  unfold NetS.flip
  cases hr : S.canF a b k
  · rw [if_neg (by decide)]
    refine (refFlip_no F w v S m h a b k bit hr).mono ?_
    rintro e w' ⟨rfl, x⟩
    exact ⟨v, rfl, (h.ext x).more (Nat.le_succ _), x⟩
  · rw [if_pos rfl]
    exact refFlip_yes F w hF v S m h hm ok a b k bit hb hb2 hr

set_option maxHeartbeats 800000 in
theorem refQuiet_any (F : Nat → Prop) (w : World) (v : Value) (S : NetS) (m : Nat) (h : RNet F w v S m) :
    Calls Try.prog 21 #[v] w fun e w' => ∃ q : Bool, e = .returned (.bool q) ∧ (q = true ↔ ∀ a b, S.f a b = []) ∧ Ext w w' := by
  obtain ⟨ao, n, c, L, rfl, ⟨ws, hs, h2⟩, h3, h4, _⟩ := h
  have hL := h2.length
  have hq := quiet_iff h4
  have hq2 : (∀ y ∈ L, y.l = []) ↔ ∀ a b, S.f a b = [] := by
    rw [hq]
    constructor
    · intro h a b; rw [← h3]; exact h a b
    · intro h a b; rw [h3]; exact h a b
  have HQ := Lib.hid hq2
  clear h3 h4 hq hq2
  have HW := Lib.hid h2
  have hlen := hs.1.length_le
  rcases hs.1.ways with ⟨h0, ao', c', hv⟩ | ⟨g, off, c', hv, hq1, hq2, hgl, hpos, hat⟩
  · simp only [Value.slice.injEq] at hv
    obtain ⟨rfl, rfl, rfl⟩ := hv
    subst h0
    have hL0 : L = [] := List.eq_nil_of_length_eq_zero (by rw [← hL]; rfl)
    subst hL0
    clear hs h2 hL hlen
    go_enter Try.func21, Try.ntmps21
    go_wp2
    refine wp_loop_rounds 1 ?_
    rw [rounds_succ]
    go_wp2
    go_ret
    exact ⟨true, rfl, ⟨fun _ => HQ.out.1 (fun y hy => by cases hy), fun _ => rfl⟩, (by repeat (first | exact Ext.refl _ | assumption | refine Ext.alloc ?_ _ | refine Ext.drew ?_ | refine Ext.drewN ?_ _))⟩
  · simp only [Value.slice.injEq] at hv
    obtain ⟨rfl, rfl, rfl⟩ := hv
    have HAT := Lib.hid hat
    have HL := Lib.hid hL
    clear hs h2 hat hL
    go_enter Try.func21, Try.ntmps21
    go_wp2
    go_loopw [3] (fun i wr => ∃ k : Nat, k ≤ ws.length ∧ i = .int .i64 (k : Int) ∧ Hid (∀ y ∈ L.take k, y.l = []) ∧ Hid (Ext (w.alloc (.cells #[.int .i64 (S.n : Int), .int .i64 (S.room : Int), .slice (some ⟨g, off, none⟩) ws.length c] 29)) wr)) (fun i _ => ws.length - (intOf i).toNat)
    case atStart => exact ⟨0, Nat.zero_le _, rfl, Lib.hid (fun y hy => by simp at hy), Lib.hid (Ext.refl _)⟩
    case round =>
      obtain ⟨k, hk, rfl, HR, HX⟩ := hrel
      have hb := box1 (W := wr) (w := w) (HX.out.mono (by rw [size_alloc]; exact Nat.le_refl _))
      have z2 := blk_cell hb 2 rfl
      have hx : Ext w wr := Ext.trans ((Ext.refl w).alloc _) HX.out
      by_cases hlt : k < ws.length
      · obtain ⟨c0, c1, c2⟩ := HAT.out k hlt
        have hkL : k < L.length := by rw [← HL.out]; exact hlt
        have hr := HW.out.getD hlt dW dL
        have ht : L.take (k + 1) = L.take k ++ [L.getD k dL] := by rw [List.take_succ_eq_append_getElem hkL]; simp [hkL]
        have HT := Lib.hid ht
        have HM : Hid (L.getD k dL ∈ L) := Lib.hid (by simp [hkL])
        obtain ⟨X, hX⟩ : ∃ X, X = ws.getD k dW := ⟨_, rfl⟩
        obtain ⟨Y, hY⟩ : ∃ Y, Y = L.getD k dL := ⟨_, rfl⟩
        rw [← hX] at c0 c1 c2 hr
        rw [← hY] at hr HT HM
        have d2 := (hx.cell (p := ⟨g, off + k * 3 + 2, none⟩) hgl).trans c2
        obtain ⟨xa, xb, xo, xn, xc⟩ := X
        obtain ⟨e1, e2, e3⟩ := hr
        dsimp only at e1 e2 d2
        have hn : xn = Y.l.length := by
          obtain ⟨ao', c', hv⟩ := e3.1.len
          simp only [WayV.v, Value.slice.injEq] at hv
          exact hv.2.1
        subst hn
        have hle := e3.1.length_le
        have HXX := Lib.hid hx
        have hkc : (k : Int) ≤ (c : Int) := by omega
        clear c0 c1 c2 hX hY ht e1 e2 e3 hx hb
        by_cases hz : Y.l.length = 0
        · have hz2 : ¬ (0 : Int) < (Y.l.length : Int) := by omega
          have HR2 : Hid (∀ y ∈ L.take (k + 1), y.l = []) := Lib.hid (fun y hy => by
            rw [HT.out] at hy
            rcases List.mem_append.1 hy with hy | hy
            · exact HR.out y hy
            · rw [List.mem_singleton] at hy
              subst hy
              exact List.eq_nil_of_length_eq_zero hz)
          replace hz := Lib.hid hz
          go_wp2
          exact ⟨⟨k + 1, hlt, by go_num, HR2, HX⟩, by simp [intOf]; omega⟩
        · have hz2 : (0 : Int) < (Y.l.length : Int) := by omega
          replace hz := Lib.hid hz
          go_wp2
          go_ret
          refine ⟨false, rfl, ⟨fun h => (by cases h), fun h => ?_⟩, HXX.out⟩
          have := HQ.out.2 h Y HM.out
          exact absurd (by rw [this]; rfl) hz.out
      · have hkk : k = ws.length := by omega
        have HXX := Lib.hid hx
        have HA : Hid (∀ y ∈ L, y.l = []) := Lib.hid (by have := HR.out; rw [hkk, HL.out, List.take_length] at this; exact this)
        clear hb hx
        go_wp2
        go_ret
        exact ⟨true, rfl, ⟨fun _ => HQ.out.1 HA.out, fun _ => rfl⟩, HXX.out⟩
end Go.Proofs.Ytjnnfnmapigagaa
