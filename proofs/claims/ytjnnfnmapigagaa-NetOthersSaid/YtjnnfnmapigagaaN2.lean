/- The document's nets: what its functions answer. -/
import Derived.Test.YtjnnfnmapigagaaN1
import Derived.Test.YtjnnfnmapigagaaReg
namespace Go.Proofs.Ytjnnfnmapigagaa
open Go.RowKit

/-- the document's net, in memory; F is what it lies apart from -/
def RNet (F : Nat → Prop) (w : World) (v : Value) (S : NetS) (m : Nat) : Prop :=
  ∃ ao n c L, v = .agg #[.int .i64 (S.n : Int), .int .i64 (S.room : Int), .slice ao n c] ∧ Ways F w (.slice ao n c) L ∧ (∀ a b, rowL L a b = S.f a b) ∧ Once L ∧ L.length ≤ m
theorem RNet.ext {F : Nat → Prop} {w w' : World} {v : Value} {S : NetS} {m : Nat} (h : RNet F w v S m) (e : Ext w w') : RNet F w' v S m := by
  obtain ⟨ao, n, c, L, h1, h2, h3⟩ := h
  exact ⟨ao, n, c, L, h1, h2.ext e, h3⟩
theorem RNet.off {F G : Nat → Prop} {w w' : World} {v : Value} {S : NetS} {m : Nat} (h : RNet F w v S m) (o : Off F w w') (g : Grows F G w) : RNet G w' v S m := by
  obtain ⟨ao, n, c, L, h1, h2, h3⟩ := h
  exact ⟨ao, n, c, L, h1, h2.off o g, h3⟩
theorem RNet.more {F : Nat → Prop} {w : World} {v : Value} {S : NetS} {m m' : Nat} (h : RNet F w v S m) (e : m ≤ m') : RNet F w v S m' := by
  obtain ⟨ao, n, c, L, h1, h2, h3, h4, h5⟩ := h
  exact ⟨ao, n, c, L, h1, h2, h3, h4, Nat.le_trans h5 e⟩

theorem RNet.wide {F G : Nat → Prop} {w : World} {v : Value} {S : NetS} {m : Nat} (h : RNet F w v S m) (hG : ∀ k, k < w.heap.size → G k → F k) : RNet G w v S m := by
  obtain ⟨ao, n, c, L, h1, ⟨ws, h2, h3⟩, h4⟩ := h
  exact ⟨ao, n, c, L, h1, ⟨ws, h2.wide hG, h3.mono fun _ _ h => ⟨h.1, h.2.1, h.2.2.wide hG⟩⟩, h4⟩

theorem rnet_new {F : Nat → Prop} {w : World} {n room N R : Int} (h1 : N = ((NetS.new n room).n : Int)) (h2 : R = ((NetS.new n room).room : Int)) : RNet F w (.agg #[.int .i64 N, .int .i64 R, .slice none 0 0]) (NetS.new n room) 0 :=
  ⟨none, 0, 0, [], by rw [h1, h2], ⟨[], Sa.nil F w, .nil⟩, fun _ _ => rfl, trivial, Nat.le_refl _⟩

theorem refNew_any (F : Nat → Prop) (w : World) (n room : Int) :
    Calls Try.prog 12 #[.int .i64 n, .int .i64 room] w fun e w' => ∃ v, e = .returned v ∧ RNet F w' v (NetS.new n room) 0 ∧ Ext w w' := by
  go_enter Try.func12, Try.ntmps12
  go_wp2
  all_goals (first
    | (refine bodyPost_ret (v := .agg #[.int .i64 0, .int .i64 0, .slice none 0 0]) (by simp [results, Try.results12, go_sem]; done) rfl ⟨_, rfl, rnet_new (by simp only [NetS.new]; omega) (by simp only [NetS.new]; omega), (by repeat (first | exact Ext.refl _ | assumption | refine Ext.alloc ?_ _ | refine Ext.drew ?_ | refine Ext.drewN ?_ _))⟩)
    | (refine bodyPost_ret (v := .agg #[.int .i64 0, .int .i64 1000, .slice none 0 0]) (by simp [results, Try.results12, go_sem]; done) rfl ⟨_, rfl, rnet_new (by simp only [NetS.new]; omega) (by simp only [NetS.new]; omega), (by repeat (first | exact Ext.refl _ | assumption | refine Ext.alloc ?_ _ | refine Ext.drew ?_ | refine Ext.drewN ?_ _))⟩)
    | (refine bodyPost_ret (v := .agg #[.int .i64 0, .int .i64 room, .slice none 0 0]) (by simp [results, Try.results12, go_sem]; done) rfl ⟨_, rfl, rnet_new (by simp only [NetS.new]; omega) (by simp only [NetS.new]; omega), (by repeat (first | exact Ext.refl _ | assumption | refine Ext.alloc ?_ _ | refine Ext.drew ?_ | refine Ext.drewN ?_ _))⟩)
    | (refine bodyPost_ret (v := .agg #[.int .i64 64, .int .i64 0, .slice none 0 0]) (by simp [results, Try.results12, go_sem]; done) rfl ⟨_, rfl, rnet_new (by simp only [NetS.new]; omega) (by simp only [NetS.new]; omega), (by repeat (first | exact Ext.refl _ | assumption | refine Ext.alloc ?_ _ | refine Ext.drew ?_ | refine Ext.drewN ?_ _))⟩)
    | (refine bodyPost_ret (v := .agg #[.int .i64 64, .int .i64 1000, .slice none 0 0]) (by simp [results, Try.results12, go_sem]; done) rfl ⟨_, rfl, rnet_new (by simp only [NetS.new]; omega) (by simp only [NetS.new]; omega), (by repeat (first | exact Ext.refl _ | assumption | refine Ext.alloc ?_ _ | refine Ext.drew ?_ | refine Ext.drewN ?_ _))⟩)
    | (refine bodyPost_ret (v := .agg #[.int .i64 64, .int .i64 room, .slice none 0 0]) (by simp [results, Try.results12, go_sem]; done) rfl ⟨_, rfl, rnet_new (by simp only [NetS.new]; omega) (by simp only [NetS.new]; omega), (by repeat (first | exact Ext.refl _ | assumption | refine Ext.alloc ?_ _ | refine Ext.drew ?_ | refine Ext.drewN ?_ _))⟩)
    | (refine bodyPost_ret (v := .agg #[.int .i64 n, .int .i64 0, .slice none 0 0]) (by simp [results, Try.results12, go_sem]; done) rfl ⟨_, rfl, rnet_new (by simp only [NetS.new]; omega) (by simp only [NetS.new]; omega), (by repeat (first | exact Ext.refl _ | assumption | refine Ext.alloc ?_ _ | refine Ext.drew ?_ | refine Ext.drewN ?_ _))⟩)
    | (refine bodyPost_ret (v := .agg #[.int .i64 n, .int .i64 1000, .slice none 0 0]) (by simp [results, Try.results12, go_sem]; done) rfl ⟨_, rfl, rnet_new (by simp only [NetS.new]; omega) (by simp only [NetS.new]; omega), (by repeat (first | exact Ext.refl _ | assumption | refine Ext.alloc ?_ _ | refine Ext.drew ?_ | refine Ext.drewN ?_ _))⟩)
    | (refine bodyPost_ret (v := .agg #[.int .i64 n, .int .i64 room, .slice none 0 0]) (by simp [results, Try.results12, go_sem]; done) rfl ⟨_, rfl, rnet_new (by simp only [NetS.new]; omega) (by simp only [NetS.new]; omega), (by repeat (first | exact Ext.refl _ | assumption | refine Ext.alloc ?_ _ | refine Ext.drew ?_ | refine Ext.drewN ?_ _))⟩))

set_option maxHeartbeats 800000 in
theorem refRow_any (F : Nat → Prop) (w : World) (v : Value) (S : NetS) (m : Nat) (h : RNet F w v S m) (a b : Int) :
    Calls Try.prog 18 #[v, .int .i64 a, .int .i64 b] w fun e w' => ∃ ao n c, e = .returned (.slice ao n c) ∧ Sa F w' (.slice ao n c) (S.f a b) ∧ Ext w w' := by
  obtain ⟨ao, n, c, L, rfl, ⟨ws, hs, h2⟩, h3, _, _⟩ := h
  have hL := h2.length
  rw [← h3 a b]
  clear h3
  have HW := Lib.hid h2
  have hlen := hs.1.length_le
  rcases hs.1.ways with ⟨h0, ao', c', hv⟩ | ⟨g, off, c', hv, hq1, hq2, hgl, hpos, hat⟩
  · simp only [Value.slice.injEq] at hv
    obtain ⟨rfl, rfl, rfl⟩ := hv
    subst h0
    have hL0 : L = [] := List.eq_nil_of_length_eq_zero (by rw [← hL]; rfl)
    subst hL0
    clear hs h2 hL hlen
    go_enter Try.func18, Try.ntmps18
    go_wp2
    refine wp_loop_rounds 1 ?_
    rw [rounds_succ]
    go_wp2
    go_ret
    exact ⟨_, _, _, rfl, Sa.nil F _, (by repeat (first | exact Ext.refl _ | assumption | refine Ext.alloc ?_ _ | refine Ext.drew ?_ | refine Ext.drewN ?_ _))⟩
  · simp only [Value.slice.injEq] at hv
    obtain ⟨rfl, rfl, rfl⟩ := hv
    have HAT := Lib.hid hat
    have HS := Lib.hid hs
    have HL := Lib.hid hL
    clear hs h2 hat hL
    go_enter Try.func18, Try.ntmps18
    go_wp2
    go_loopw [7] (fun i wr => ∃ k : Nat, k ≤ ws.length ∧ i = .int .i64 (k : Int) ∧ Hid (rowL L a b = rowL (L.drop k) a b) ∧ Hid (Ext (w.alloc (.cells #[.int .i64 (S.n : Int), .int .i64 (S.room : Int), .slice (some ⟨g, off, none⟩) ws.length c] 29)) wr)) (fun i _ => ws.length - (intOf i).toNat)
    case atStart => exact ⟨0, Nat.zero_le _, rfl, Lib.hid rfl, Lib.hid (Ext.refl _)⟩
    case round =>
      obtain ⟨k, hk, rfl, HR, HX⟩ := hrel
      have hb := box1 (W := wr) (w := w) (HX.out.mono (by rw [size_alloc]; exact Nat.le_refl _))
      have z2 := blk_cell hb 2 rfl
      have hx : Ext w wr := Ext.trans ((Ext.refl w).alloc _) HX.out
      by_cases hlt : k < ws.length
      · obtain ⟨c0, c1, c2⟩ := HAT.out k hlt
        have hkL : k < L.length := by rw [← HL.out]; exact hlt
        have hr := HW.out.getD hlt dW dL
        have hd : L.drop k = L.getD k dL :: L.drop (k + 1) := by rw [List.drop_eq_getElem_cons hkL]; simp [hkL]
        have HD := Lib.hid hd
        obtain ⟨X, hX⟩ : ∃ X, X = ws.getD k dW := ⟨_, rfl⟩
        obtain ⟨Y, hY⟩ : ∃ Y, Y = L.getD k dL := ⟨_, rfl⟩
        rw [← hX] at c0 c1 c2 hr
        rw [← hY] at hr HD
        have d0 := (hx.cell (p := ⟨g, off + k * 3, none⟩) hgl).trans c0
        have d1 := (hx.cell (p := ⟨g, off + k * 3 + 1, none⟩) hgl).trans c1
        have d2 := (hx.cell (p := ⟨g, off + k * 3 + 2, none⟩) hgl).trans c2
        obtain ⟨xa, xb, xo, xn, xc⟩ := X
        obtain ⟨e1, e2, e3⟩ := hr
        dsimp only at e1 e2 d0 d1 d2
        rw [e1] at d0
        rw [e2] at d1
        have HE := Lib.hid (e3.ext hx)
        have HXX := Lib.hid hx
        have hkc : (k : Int) ≤ (c : Int) := by omega
        clear c0 c1 c2 hX hY hd e1 e2 e3 hx hb
        by_cases ha : Y.a = a
        · by_cases hbb : Y.b = b
          · have hrow : rowL L a b = Y.l := by rw [HR.out, HD.out]; unfold rowL; rw [if_pos ⟨ha, hbb⟩]
            have HROW := Lib.hid hrow
            clear hrow
            go_wp2
            go_ret
            exact ⟨_, _, _, rfl, by rw [HROW.out]; exact HE.out, HXX.out⟩
          · have hrow : rowL L a b = rowL (L.drop (k + 1)) a b := by rw [HR.out, HD.out]; conv => lhs; unfold rowL
                                                                     rw [if_neg (fun e => hbb e.2)]
            have HR2 := Lib.hid hrow
            clear hrow
            go_wp2
            exact ⟨⟨k + 1, hlt, by go_num, HR2, HX⟩, by simp [intOf]; omega⟩
        · have hrow : rowL L a b = rowL (L.drop (k + 1)) a b := by rw [HR.out, HD.out]; conv => lhs; unfold rowL
                                                                   rw [if_neg (fun e => ha e.1)]
          have HR2 := Lib.hid hrow
          clear hrow
          go_wp2
          exact ⟨⟨k + 1, hlt, by go_num, HR2, HX⟩, by simp [intOf]; omega⟩
      · have hkk : k = ws.length := by omega
        have hrow : rowL L a b = [] := by rw [HR.out, hkk, HL.out, List.drop_length]; rfl
        have HROW := Lib.hid hrow
        have HXX := Lib.hid hx
        clear hrow hb hx
        go_wp2
        go_ret
        exact ⟨_, _, _, rfl, by rw [HROW.out]; exact Sa.nil F _, HXX.out⟩

theorem two_iff {S : NetS} {a b : Int} : S.two a b = true ↔ 0 ≤ a ∧ a < S.n ∧ 0 ≤ b ∧ b < S.n ∧ a ≠ b := by
  unfold NetS.two
  simp only [Bool.and_eq_true, decide_eq_true_eq, and_assoc]
theorem two_yes {S : NetS} {a b : Int} (h1 : 0 ≤ a) (h2 : a < S.n) (h3 : 0 ≤ b) (h4 : b < S.n) (h5 : a ≠ b) : S.two a b = true := two_iff.2 ⟨h1, h2, h3, h4, h5⟩
theorem two_no {S : NetS} {a b : Int} (h : ¬ (0 ≤ a ∧ a < S.n ∧ 0 ≤ b ∧ b < S.n ∧ a ≠ b)) : S.two a b = false := by
  rcases Bool.eq_false_or_eq_true (S.two a b) with h1 | h1
  · exact absurd (two_iff.1 h1) h
  · exact h1
theorem refNodes_any (F : Nat → Prop) (w : World) (v : Value) (S : NetS) (m : Nat) (h : RNet F w v S m) (a b : Int) :
    Calls Try.prog 29 #[v, .int .i64 a, .int .i64 b] w fun e w' => e = .returned (.bool (S.two a b)) ∧ Ext w w' := by
  obtain ⟨ao, n, c, L, rfl, _⟩ := h
  cases hr : S.two a b
  · have hn : ¬ (0 ≤ a ∧ a < S.n ∧ 0 ≤ b ∧ b < S.n ∧ a ≠ b) := fun h => by rw [two_iff.2 h] at hr; cases hr
    clear hr
    by_cases hab : a = b
    · subst hab
      go_enter Try.func29, Try.ntmps29
      go_wp2
      all_goals go_ret
      all_goals exact ⟨rfl, (by repeat (first | exact Ext.refl _ | assumption | refine Ext.alloc ?_ _ | refine Ext.drew ?_ | refine Ext.drewN ?_ _))⟩
    · go_enter Try.func29, Try.ntmps29
      go_wp2
      all_goals go_ret
      all_goals (first
        | exact ⟨rfl, (by repeat (first | exact Ext.refl _ | assumption | refine Ext.alloc ?_ _ | refine Ext.drew ?_ | refine Ext.drewN ?_ _))⟩
        | (exfalso; omega))
  · obtain ⟨h1, h2, h3, h4, h5⟩ := two_iff.1 hr
    clear hr
    go_enter Try.func29, Try.ntmps29
    go_wp2
    go_ret
    exact ⟨ret_bool (by simpa using h5), (by repeat (first | exact Ext.refl _ | assumption | refine Ext.alloc ?_ _ | refine Ext.drew ?_ | refine Ext.drewN ?_ _))⟩

set_option maxHeartbeats 800000 in
theorem refWith_any (F : Nat → Prop) (w : World) (hF : ∀ k, F k → k < w.heap.size) (v : Value) (S : NetS) (m : Nat) (h : RNet F w v S m) (hm : m ≤ 5000) (a b : Int) (ol : Option Addr) (nl cl : Nat) (l : List ByteArray) (hl : Sa F w (.slice ol nl cl) l) :
    Calls Try.prog 30 #[v, .int .i64 a, .int .i64 b, .slice ol nl cl] w fun e w' => ∃ v', e = .returned v' ∧ RNet F w' v' (S.put a b l) (m + 1) ∧ Ext w w' := by
  obtain ⟨ao, n, c, L, rfl, ⟨ws, hs, h2⟩, h3, h4, h5⟩ := h
  have hL := h2.length
  have HW := Lib.hid h2
  have HS := Lib.hid hs
  have HL := Lib.hid hL
  have H3 := Lib.hid h3
  have H4 := Lib.hid h4
  have HLL := Lib.hid hl
  have HFF := Lib.hid hF
  have hws : ws.length ≤ 5000 := by omega
  have HLM := Lib.hid h5
  clear h2 hL h3 h4 hl hF h5
  obtain ⟨ao', c', hv⟩ := hs.1.len
  simp only [Value.slice.injEq] at hv
  obtain ⟨rfl, rfl, rfl⟩ := hv
  clear hs
  go_enter Try.func30, Try.ntmps30
  go_wp2
  go_loopw [9, 10] (fun o i wr => ∃ (k : Nat) (os : List WayV), k ≤ ws.length ∧ os.length ≤ k + 1 ∧ i = .int .i64 (k : Int) ∧ (∃ ao n c, o = .slice ao n c) ∧ Hid (Ow wr (w.heap.size + 2) o os) ∧ Hid (All2 (WayAt F w) os (⟨a, b, l⟩ :: (L.take k).filter (other a b))) ∧
      Hid (Below (w.heap.size + 2) ((w.alloc (.cells #[.int .i64 (S.n : Int), .int .i64 (S.room : Int), .slice ao ws.length c] 29)).alloc (.cells #[.int .i64 0, .int .i64 0, .slice none 0 0] 29)) wr)) (fun _ i _ => ws.length - (intOf i).toNat)
  case atStart =>
    refine ⟨0, [WayV.mk a b ol nl cl], Nat.zero_le _, Nat.le_refl _, rfl, ⟨_, _, _, rfl⟩, Lib.hid (Ow.litAt _ _ _ (by simp) (by simp) [WayV.mk a b ol nl cl] (by simp)), Lib.hid ?_, Lib.hid (below_alloc_at (Below.refl _ _) (by simp) _)⟩
    rw [List.take_zero]
    exact .cons ⟨rfl, rfl, HLL.out⟩ .nil
  case round =>
    obtain ⟨k, os, hk, hos, rfl, ⟨ao2, n2, c2, rfl⟩, HO, HA, HX⟩ := hrel
    have hb := box2 HX.out
    have z2 := blk_cell hb.1 2 rfl
    have z2a := blk_cell hb.1 0 rfl
    have z2b := blk_cell hb.1 1 rfl
    have z3 := blk_free hb.1 2
    have z4 := blk_free hb.2 0
    have z5 := blk_free hb.2 1
    have z6 := blk_free hb.2 2
    have y0 := blk_cell hb.2 0 rfl
    have y1 := blk_cell hb.2 1 rfl
    have y2 := blk_cell hb.2 2 rfl
    have hx : Ext w wr := ext_of_below HX.out (by simp) (((Ext.refl w).alloc _).alloc _)
    by_cases hlt : k < ws.length
    · rcases HS.out.1.ways with ⟨h0, _⟩ | ⟨g, off, c', hv, hq1, hq2, hgl, hpos, hat⟩
      · rw [h0] at hlt; simp at hlt
      simp only [Value.slice.injEq] at hv
      obtain ⟨rfl, _, rfl⟩ := hv
      obtain ⟨c0, c1, c2'⟩ := hat k hlt
      have hkL : k < L.length := by rw [← HL.out]; exact hlt
      have hr := HW.out.getD hlt dW dL
      have ht : L.take (k + 1) = L.take k ++ [L.getD k dL] := by rw [List.take_succ_eq_append_getElem hkL]; simp [hkL]
      have HT := Lib.hid ht
      obtain ⟨X, hX⟩ : ∃ X, X = ws.getD k dW := ⟨_, rfl⟩
      obtain ⟨Y, hY⟩ : ∃ Y, Y = L.getD k dL := ⟨_, rfl⟩
      rw [← hX] at c0 c1 c2' hr
      rw [← hY] at hr HT
      have d0 := (hx.cell (p := ⟨g, off + k * 3, none⟩) hgl).trans c0
      have d1 := (hx.cell (p := ⟨g, off + k * 3 + 1, none⟩) hgl).trans c1
      have d2 := (hx.cell (p := ⟨g, off + k * 3 + 2, none⟩) hgl).trans c2'
      obtain ⟨xa, xb, xo, xn, xc⟩ := X
      obtain ⟨e1, e2, e3⟩ := hr
      dsimp only at e1 e2 d0 d1 d2
      subst e1
      subst e2
      have HE := Lib.hid e3
      have hkc : (k : Int) ≤ (c : Int) := by omega
      have hs0 := HX.out.size
      rw [size_alloc, size_alloc] at hs0
      clear c0 c1 c2' hX hY ht e3 hx hb hat hq1
      by_cases ho : Y.a = a ∧ Y.b = b
      · have hf : (L.take (k + 1)).filter (other a b) = (L.take k).filter (other a b) := by
          rw [HT.out, List.filter_append, List.filter_cons_of_neg (by rw [other_iff]; exact fun e => e ho)]
          simp
        have HA2 : Hid (All2 (WayAt F w) os (⟨a, b, l⟩ :: (L.take (k + 1)).filter (other a b))) := Lib.hid (by rw [hf]; exact HA.out)
        obtain ⟨o1, o2⟩ := ho
        clear hf
        go_wp2
        exact ⟨⟨k + 1, os, hlt, by omega, by go_num, ⟨_, _, _, rfl⟩, HO, HA2, HX⟩, by simp [intOf]; omega⟩
      · have hf : (L.take (k + 1)).filter (other a b) = (L.take k).filter (other a b) ++ [Y] := by
          rw [HT.out, List.filter_append, List.filter_cons_of_pos (other_iff.2 ho)]
          rfl
        have HA2 : Hid (All2 (WayAt F w) (os ++ [WayV.mk Y.a Y.b xo xn xc]) (⟨a, b, l⟩ :: (L.take (k + 1)).filter (other a b))) := Lib.hid (by
          rw [hf]
          exact HA.out.append (.cons ⟨rfl, rfl, HE.out⟩ .nil))
        clear hf
        have o1 : (Y.a = a ∧ ¬ Y.b = b) ∨ ¬ Y.a = a := by
          by_cases h1 : Y.a = a
          · exact .inl ⟨h1, fun h2 => ho ⟨h1, h2⟩⟩
          · exact .inr h1
        clear ho
        rcases o1 with ⟨o1, o2⟩ | o1
        · subst o1
          go_wp2_with ((at_builtin; refine wpList_append_sl (α := WayV) rfl (.tmp 41) (.tmp 47) rfl (w.heap.size + 2) _ os rfl ?_ (.slice (some ⟨_, 0, none⟩) 1 1) [WayV.mk Y.a Y.b xo xn xc] rfl ?_ ?_ ?_ ?_; exact (HO.out.alloc _); exact (Sl.litAt wr _ rfl [WayV.mk Y.a Y.b xo xn xc] (by simp)); (first | omega | (simp; omega)); (rw [size_alloc]; omega); intro v2 W2 ho2 ha2; have O2 := Lib.hid ho2; have Y2 := Lib.hid (Below.trans (HX.out.alloc (by omega) _) ha2.below); obtain ⟨a2, n2, c2, rfl⟩ := ho2.sh; clear ho2 ha2))
          exact ⟨⟨k + 1, os ++ [WayV.mk Y.a Y.b xo xn xc], hlt, by simp; omega, by go_num, ⟨_, _, _, rfl⟩, O2, HA2, Y2⟩, by simp [intOf]; omega⟩
        · go_wp2_with ((at_builtin; refine wpList_append_sl (α := WayV) rfl (.tmp 41) (.tmp 47) rfl (w.heap.size + 2) _ os rfl ?_ (.slice (some ⟨_, 0, none⟩) 1 1) [WayV.mk Y.a Y.b xo xn xc] rfl ?_ ?_ ?_ ?_; exact (HO.out.alloc _); exact (Sl.litAt wr _ rfl [WayV.mk Y.a Y.b xo xn xc] (by simp)); (first | omega | (simp; omega)); (rw [size_alloc]; omega); intro v2 W2 ho2 ha2; have O2 := Lib.hid ho2; have Y2 := Lib.hid (Below.trans (HX.out.alloc (by omega) _) ha2.below); obtain ⟨a2, n2, c2, rfl⟩ := ho2.sh; clear ho2 ha2))
          exact ⟨⟨k + 1, os ++ [WayV.mk Y.a Y.b xo xn xc], hlt, by simp; omega, by go_num, ⟨_, _, _, rfl⟩, O2, HA2, Y2⟩, by simp [intOf]; omega⟩
    · have hkk : k = ws.length := by omega
      have hA := HA.out
      rw [hkk, HL.out, List.take_length] at hA
      have HA2 := Lib.hid hA
      have HXX := Lib.hid hx
      have HB := Lib.hid hb
      clear hA hx hb HA
      have Y0 := Lib.hid (And.intro y0 (And.intro y1 y2))
      go_wp2
      refine bodyPost_ret (v := .agg #[.int .i64 (S.n : Int), .int .i64 (S.room : Int), .slice ao2 n2 c2]) (by simp [results, Try.results30, go_sem, y0, y1, y2]) rfl
        ⟨_, rfl, ⟨ao2, n2, c2, withL L a b l, rfl, ⟨os, ⟨?_, ?_⟩, ?_⟩, ?_, H4.out.with a b l, ?_⟩, ?_⟩
      · exact (((((HO.out.set (by simp) _).set (by simp) _).set (by simp) _).set (by simp) _)).sl
      · exact .inr fun b' hb' hf => by have := (HO.out.low b' hb').1; have := HFF.out b' hf; omega
      · exact HA2.out.mono fun _ _ h => h.ext (below_set (below_set (below_set (below_set HXX.out (by simp) _) (by simp) _) (by simp) _) (by simp) _)
      · intro x y
        rw [rowL_with, H3.out]
        rfl
      · unfold withL
        have := List.length_filter_le (other a b) L
        have := HLM.out
        rw [List.length_cons]
        omega
      · exact below_set (below_set (below_set (below_set HXX.out (by simp) _) (by simp) _) (by simp) _) (by simp) _
end Go.Proofs.Ytjnnfnmapigagaa
