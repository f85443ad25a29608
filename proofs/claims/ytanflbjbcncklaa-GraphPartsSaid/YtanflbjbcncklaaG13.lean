/- The document's answer: a graph with an edge. -/
import Derived.Test.YtanflbjbcncklaaG12
namespace Go.Proofs.Ytanflbjbcncklaa
open Go.RowKit

theorem OutAt.startAt (w : World) (O : Nat) (N : Int) (hO : O = w.heap.size) : OutAt w O N [] (w.alloc (.cells #[.int .i64 N, .slice none 0 0] 24)) := hO ▸ OutAt.start w N
theorem OutAt.far {w wr W1 W2 : World} {O : Nat} {N : Int} {L : List Edge} (h : OutAt w O N L wr) (x : Ext wr W1) (b : Below (O + 1) W1 W2) : Ext w W2 :=
  Below.trans (h.more x).ext (b.mono (by have := h.low; omega))

def outL (x : Edge) (l : List Edge) : List Edge := if l.any (ahead x) = true then insE x l else l
theorem insE_past {x y : Edge} : ∀ {l : List Edge}, l.any (ahead x) = false → ahead x y = true → insE x (l ++ [y]) = l ++ [x] ++ [y]
  | [], _, h => by simp [insE, h]
  | z :: l, h, hy => by
    simp only [List.any_cons, Bool.or_eq_false_iff] at h
    show insE x (z :: (l ++ [y])) = _
    unfold insE
    rw [if_neg (by simp [h.1]), insE_past h.2 hy]
    rfl
theorem outL_skip {x y : Edge} {l : List Edge} (h : l.any (ahead x) = true) : outL x (l ++ [y]) = outL x l ++ [y] := by
  unfold outL
  rw [if_pos h, if_pos (by rw [List.any_append, h]; rfl), insE_snoc h]
theorem outL_put {x y : Edge} {l : List Edge} (h : l.any (ahead x) = false) (hy : ahead x y = true) : outL x (l ++ [y]) = outL x l ++ [x] ++ [y] := by
  have h1 : (l ++ [y]).any (ahead x) = true := by rw [List.any_append]; simp [hy]
  unfold outL
  rw [if_pos h1, if_neg (show ¬ l.any (ahead x) = true by simp [h]), insE_past h hy]
theorem outL_none {x y : Edge} {l : List Edge} (h : l.any (ahead x) = false) (hy : ahead x y = false) : outL x (l ++ [y]) = outL x l ++ [y] := by
  have h1 : ¬ (l ++ [y]).any (ahead x) = true := by rw [List.any_append, h]; simp [hy]
  unfold outL
  rw [if_neg h1, if_neg (show ¬ l.any (ahead x) = true by simp [h])]
theorem outL_end {x : Edge} {l : List Edge} (h : l.any (ahead x) = true) : outL x l = insE x l := by unfold outL; rw [if_pos h]
theorem outL_end' {x : Edge} {l : List Edge} (h : l.any (ahead x) = false) : outL x l ++ [x] = insE x l := by unfold outL; rw [if_neg (by simp [h]), insE_none h]
theorem outL_few {x : Edge} {l : List Edge} (h : l.length ≤ 1000) : (outL x l).length ≤ 1001 := by
  unfold outL
  split
  · rw [length_insE]; omega
  · omega

set_option maxHeartbeats 4000000 in
theorem refAdd_yes (w : World) (N : Int) (v : Value) (E : List Edge) (a b : Int) (h : Sl w v E) (hr : addR N E a b = 0) :
    Calls Try.prog 11 #[.agg #[.int .i64 N, v], .int .i64 a, .int .i64 b] w (GivesG w N (insE (btw a b) E) 0) := by
  have he : ends N E a b = 0 := by
    rcases Classical.em (ends N E a b = 0) with he | he
    · exact he
    · unfold addR at hr; rwa [if_neg he] at hr
  have ok : OkG N E := by
    rcases Classical.em (OkG N E) with o | o
    · exact o
    · rw [ends_bad o] at he; omega
  unfold addR at hr
  rw [if_pos he] at hr
  rw [ends_ok ok] at he
  have hd : badEnds N a b = false := by
    cases e : badEnds N a b with
    | false => rfl
    | true => rw [e] at he; simp at he
  have hab : a ≠ b := fun e => by rw [e] at hd; simp [badEnds] at hd
  have HC := Lib.hid (okG_iff.2 ok)
  have HD : Hid ((!badEnds N a b) = true) := Lib.hid (by rw [hd]; rfl)
  have hm : btw a b ∉ E := fun hm => by rw [if_pos hm] at hr; omega
  rw [if_neg hm] at hr
  have hl : E.length ≠ 400 := fun hl => by rw [if_pos hl] at hr; omega
  have HM := Lib.hid (decide_eq_false hm)
  have hfew := ok.few
  have hll : ((E.length : Int) == 400) = false := by simp; omega
  rcases h.edges with ⟨rfl, ao, c, rfl⟩ | ⟨q, off, c, rfl, hc, hc63, hb, hpos, hcell⟩
  · have HS := Lib.hid (h.ext (ext_two w (.cells #[.int .i64 N, .slice ao 0 c] 24) (.cells #[.int .i64 0, .slice none 0 0] 24)))
    have HK := Lib.hid (two_graphs w N (.slice ao 0 c))
    clear hr he hm hd ok h hl hll
    rcases (show a < b ∨ b < a by omega) with hlt | hlt
    · have HB := Lib.hid (btw_lt hlt)
      have hmm : min a b = a := by omega
      have hMM : max a b = b := by omega
      clear hab
      go_enter Try.func11, Try.ntmps11
      go_wp2_with (first
        | (go_at_call 28; refine (refCheck_val _ N _ [] (HS.out.ext (by repeat (first | exact Ext.refl _ | assumption | refine Ext.alloc ?_ _ | refine Ext.drew ?_ | refine Ext.drewN ?_ _))) _ HC.out).mono ?_; rintro e w1 ⟨rfl, x1⟩; obtain ⟨⟨p0, p1⟩, ⟨q0, q1⟩, f0, f1⟩ := HK.out w1 x1)
        | (go_at_call 29; refine (refNodes_val _ N _ a b _ HD.out ⟨_, _, _, rfl⟩).mono ?_; rintro e w2 ⟨rfl, x2⟩; have y2 := x1.trans x2; obtain ⟨⟨r0, r1⟩, ⟨s0, s1⟩, g0, g1⟩ := HK.out w2 y2)
        | (go_at_call 30; refine (refHas_val _ N _ [] a b (HS.out.ext (by repeat (first | exact Ext.refl _ | assumption | exact Hid.out (by assumption) | refine Ext.alloc ?_ _ | refine Ext.drew ?_ | refine Ext.drewN ?_ _ | refine Ext.trans ?_ (by assumption)))) _ HM.out).mono ?_; rintro e w3 ⟨rfl, x3⟩; have y3 := y2.trans x3; obtain ⟨⟨t0, t1⟩, ⟨u0, u1⟩, h0, h1⟩ := HK.out w3 y3; have v0 := (HK.out _ (y3.trans ((Ext.refl w3).alloc (.cells #[.int .i64 a, .int .i64 b] 40)))).1.1))
      obtain ⟨L, hL⟩ : ∃ L, L = ([] : List Edge) := ⟨_, rfl⟩
      have HOL := Lib.hid hL
      have hLl : L.length ≤ 1000 := by rw [hL]; simp
      have KS : Hid (OutAt (w3.alloc (.cells #[.int .i64 a, .int .i64 b] 40)) (w3.heap.size + 1) N L ((w3.alloc (.cells #[.int .i64 a, .int .i64 b] 40)).alloc (.cells #[.int .i64 N, .slice none 0 0] 24))) := Lib.hid (hL ▸ OutAt.startAt (w3.alloc (.cells #[.int .i64 a, .int .i64 b] 40)) (w3.heap.size + 1) N (by simp))
      clear hL
      go_loopw [10, 11] (fun p i wr => i = .int .i64 0 ∧ p = .bool false ∧ Hid (OutAt (w3.alloc (.cells #[.int .i64 a, .int .i64 b] 40)) (w3.heap.size + 1) N L wr)) (fun _ _ _ => 0)
      case atStart => exact ⟨rfl, rfl, KS⟩
      case round =>
        obtain ⟨rfl, rfl, KO⟩ := hrel
        have yr := y3.trans (Ext.trans ((Ext.refl w3).alloc _) KO.out.ext)
        obtain ⟨⟨i0, i1⟩, ⟨j0, j1⟩, l0, l1⟩ := HK.out wr yr
        obtain ⟨ao, n, cq, hob, hoo⟩ := KO.out.blk
        have o0 : wr.cell? ⟨w3.heap.size + 1, 0, none⟩ = some (.int .i64 N) := blk_cell hob 0 rfl
        have o1 : wr.cell? ⟨w3.heap.size + 1, 1, none⟩ = some (.slice ao n cq) := blk_cell hob 1 rfl
        have hw3 := blk_lt hob
        have OO := Lib.hid hoo
        have hz := y3.size
        rw [size_alloc, size_alloc] at hz
        have z0 : wr.cell? ⟨w3.heap.size, 0, none⟩ = some (.int .i64 a) := cell_at wr KO.out.ext rfl
        have z1 : wr.cell? ⟨w3.heap.size, 1, none⟩ = some (.int .i64 b) := cell_at wr KO.out.ext rfl
        clear hoo hob
        go_wp2_with ((at_builtin; refine wpList_append_sl (α := Edge) rfl (.tmp 79) (.tmp 81) rfl (w3.heap.size + 1 + 1) _ L rfl ?_ (.slice (some ⟨_, 0, none⟩) 1 1) [Edge.mk a b] rfl ?_ ?_ ?_ ?_; exact (OO.out.ext (by repeat (first | exact Ext.refl _ | assumption | refine Ext.alloc ?_ _ | refine Ext.drew ?_ | refine Ext.drewN ?_ _))); exact (by (first | exact Sl.litAt _ _ rfl [Edge.mk a b] (by simp) | exact Sl.litAt _ _ (by simp) [Edge.mk a b] (by simp) | exact Sl.drew (Sl.litAt _ _ rfl [Edge.mk a b] (by simp)) | exact Sl.drew (Sl.litAt _ _ (by simp) [Edge.mk a b] (by simp)))); (first | omega | (simp; omega)); exact (by first | (simp; done) | (simp; omega)); intro v2 W2 ho2 ha2; obtain ⟨ao2, n2, c2, rfl⟩ := ho2.sh; have K2 := Lib.hid (KO.out.step ((by repeat (first | exact Ext.refl _ | assumption | refine Ext.alloc ?_ _ | refine Ext.drew ?_ | refine Ext.drewN ?_ _))) ha2.below ho2); have O2 := Lib.hid (ho2.set (d := ⟨w3.heap.size + 1, 1, none⟩) (by simp) (.slice ao2 n2 c2)); have X2 := Lib.hid (KO.out.far ((by repeat (first | exact Ext.refl _ | assumption | refine Ext.alloc ?_ _ | refine Ext.drew ?_ | refine Ext.drewN ?_ _))) ha2.below); obtain ⟨ao', n', c', ⟨k0, k1⟩, m0, m1⟩ := KO.out.open ((by repeat (first | exact Ext.refl _ | assumption | refine Ext.alloc ?_ _ | refine Ext.drew ?_ | refine Ext.drewN ?_ _))) ha2.below; clear ho2 ha2; obtain ⟨⟨i0, i1⟩, ⟨j0, j1⟩, l0, l1⟩ := HK.out W2 (y3.trans (Ext.trans ((Ext.refl w3).alloc _) X2.out))))
        have R0 : insE (btw a b) ([] : List Edge) = L ++ [btw a b] := by rw [HOL.out]; rfl
        exact bodyPost_ret (v := .tuple #[.agg #[.int .i64 N, .slice ao2 n2 c2], .int .i64 0]) (by simp [results, Try.results11, go_sem, j0, j1]) rfl ⟨_, rfl, by rw [R0, HB.out]; exact ((O2.out.set (by simp; omega) _).set (by simp; omega) _).sl, below_set (below_set (Ext.trans (ext_two w _ _) (y3.trans (Ext.trans ((Ext.refl w3).alloc _) K2.out.ext))) (by simp) _) (by simp) _⟩
    · have HB := Lib.hid (btw_gt hlt)
      have hmm : min a b = b := by omega
      have hMM : max a b = a := by omega
      clear hab
      go_enter Try.func11, Try.ntmps11
      go_wp2_with (first
        | (go_at_call 28; refine (refCheck_val _ N _ [] (HS.out.ext (by repeat (first | exact Ext.refl _ | assumption | refine Ext.alloc ?_ _ | refine Ext.drew ?_ | refine Ext.drewN ?_ _))) _ HC.out).mono ?_; rintro e w1 ⟨rfl, x1⟩; obtain ⟨⟨p0, p1⟩, ⟨q0, q1⟩, f0, f1⟩ := HK.out w1 x1)
        | (go_at_call 29; refine (refNodes_val _ N _ a b _ HD.out ⟨_, _, _, rfl⟩).mono ?_; rintro e w2 ⟨rfl, x2⟩; have y2 := x1.trans x2; obtain ⟨⟨r0, r1⟩, ⟨s0, s1⟩, g0, g1⟩ := HK.out w2 y2)
        | (go_at_call 30; refine (refHas_val _ N _ [] a b (HS.out.ext (by repeat (first | exact Ext.refl _ | assumption | exact Hid.out (by assumption) | refine Ext.alloc ?_ _ | refine Ext.drew ?_ | refine Ext.drewN ?_ _ | refine Ext.trans ?_ (by assumption)))) _ HM.out).mono ?_; rintro e w3 ⟨rfl, x3⟩; have y3 := y2.trans x3; obtain ⟨⟨t0, t1⟩, ⟨u0, u1⟩, h0, h1⟩ := HK.out w3 y3; have v0 := (HK.out _ (y3.trans ((Ext.refl w3).alloc (.cells #[.int .i64 b, .int .i64 a] 40)))).1.1))
      obtain ⟨L, hL⟩ : ∃ L, L = ([] : List Edge) := ⟨_, rfl⟩
      have HOL := Lib.hid hL
      have hLl : L.length ≤ 1000 := by rw [hL]; simp
      have KS : Hid (OutAt (w3.alloc (.cells #[.int .i64 b, .int .i64 a] 40)) (w3.heap.size + 1) N L ((w3.alloc (.cells #[.int .i64 b, .int .i64 a] 40)).alloc (.cells #[.int .i64 N, .slice none 0 0] 24))) := Lib.hid (hL ▸ OutAt.startAt (w3.alloc (.cells #[.int .i64 b, .int .i64 a] 40)) (w3.heap.size + 1) N (by simp))
      clear hL
      go_loopw [10, 11] (fun p i wr => i = .int .i64 0 ∧ p = .bool false ∧ Hid (OutAt (w3.alloc (.cells #[.int .i64 b, .int .i64 a] 40)) (w3.heap.size + 1) N L wr)) (fun _ _ _ => 0)
      case atStart => exact ⟨rfl, rfl, KS⟩
      case round =>
        obtain ⟨rfl, rfl, KO⟩ := hrel
        have yr := y3.trans (Ext.trans ((Ext.refl w3).alloc _) KO.out.ext)
        obtain ⟨⟨i0, i1⟩, ⟨j0, j1⟩, l0, l1⟩ := HK.out wr yr
        obtain ⟨ao, n, cq, hob, hoo⟩ := KO.out.blk
        have o0 : wr.cell? ⟨w3.heap.size + 1, 0, none⟩ = some (.int .i64 N) := blk_cell hob 0 rfl
        have o1 : wr.cell? ⟨w3.heap.size + 1, 1, none⟩ = some (.slice ao n cq) := blk_cell hob 1 rfl
        have hw3 := blk_lt hob
        have OO := Lib.hid hoo
        have hz := y3.size
        rw [size_alloc, size_alloc] at hz
        have z0 : wr.cell? ⟨w3.heap.size, 0, none⟩ = some (.int .i64 b) := cell_at wr KO.out.ext rfl
        have z1 : wr.cell? ⟨w3.heap.size, 1, none⟩ = some (.int .i64 a) := cell_at wr KO.out.ext rfl
        clear hoo hob
        go_wp2_with ((at_builtin; refine wpList_append_sl (α := Edge) rfl (.tmp 79) (.tmp 81) rfl (w3.heap.size + 1 + 1) _ L rfl ?_ (.slice (some ⟨_, 0, none⟩) 1 1) [Edge.mk b a] rfl ?_ ?_ ?_ ?_; exact (OO.out.ext (by repeat (first | exact Ext.refl _ | assumption | refine Ext.alloc ?_ _ | refine Ext.drew ?_ | refine Ext.drewN ?_ _))); exact (by (first | exact Sl.litAt _ _ rfl [Edge.mk b a] (by simp) | exact Sl.litAt _ _ (by simp) [Edge.mk b a] (by simp) | exact Sl.drew (Sl.litAt _ _ rfl [Edge.mk b a] (by simp)) | exact Sl.drew (Sl.litAt _ _ (by simp) [Edge.mk b a] (by simp)))); (first | omega | (simp; omega)); exact (by first | (simp; done) | (simp; omega)); intro v2 W2 ho2 ha2; obtain ⟨ao2, n2, c2, rfl⟩ := ho2.sh; have K2 := Lib.hid (KO.out.step ((by repeat (first | exact Ext.refl _ | assumption | refine Ext.alloc ?_ _ | refine Ext.drew ?_ | refine Ext.drewN ?_ _))) ha2.below ho2); have O2 := Lib.hid (ho2.set (d := ⟨w3.heap.size + 1, 1, none⟩) (by simp) (.slice ao2 n2 c2)); have X2 := Lib.hid (KO.out.far ((by repeat (first | exact Ext.refl _ | assumption | refine Ext.alloc ?_ _ | refine Ext.drew ?_ | refine Ext.drewN ?_ _))) ha2.below); obtain ⟨ao', n', c', ⟨k0, k1⟩, m0, m1⟩ := KO.out.open ((by repeat (first | exact Ext.refl _ | assumption | refine Ext.alloc ?_ _ | refine Ext.drew ?_ | refine Ext.drewN ?_ _))) ha2.below; clear ho2 ha2; obtain ⟨⟨i0, i1⟩, ⟨j0, j1⟩, l0, l1⟩ := HK.out W2 (y3.trans (Ext.trans ((Ext.refl w3).alloc _) X2.out))))
        have R0 : insE (btw a b) ([] : List Edge) = L ++ [btw a b] := by rw [HOL.out]; rfl
        exact bodyPost_ret (v := .tuple #[.agg #[.int .i64 N, .slice ao2 n2 c2], .int .i64 0]) (by simp [results, Try.results11, go_sem, j0, j1]) rfl ⟨_, rfl, by rw [R0, HB.out]; exact ((O2.out.set (by simp; omega) _).set (by simp; omega) _).sl, below_set (below_set (Ext.trans (ext_two w _ _) (y3.trans (Ext.trans ((Ext.refl w3).alloc _) K2.out.ext))) (by simp) _) (by simp) _⟩
  · have HS := Lib.hid (h.ext (ext_two w (.cells #[.int .i64 N, .slice (some ⟨q, off, none⟩) E.length c] 24) (.cells #[.int .i64 0, .slice none 0 0] 24)))
    have HK := Lib.hid (two_graphs w N (.slice (some ⟨q, off, none⟩) E.length c))
    have HL := Lib.hid hcell
    clear hr he hm hd ok hcell h hl
    rcases (show a < b ∨ b < a by omega) with hlt | hlt
    · have HB := Lib.hid (btw_lt hlt)
      have hmm : min a b = a := by omega
      have hMM : max a b = b := by omega
      clear hab
      go_enter Try.func11, Try.ntmps11
      go_wp2_with (first
        | (go_at_call 28; refine (refCheck_val _ N _ E (HS.out.ext (by repeat (first | exact Ext.refl _ | assumption | refine Ext.alloc ?_ _ | refine Ext.drew ?_ | refine Ext.drewN ?_ _))) _ HC.out).mono ?_; rintro e w1 ⟨rfl, x1⟩; obtain ⟨⟨p0, p1⟩, ⟨q0, q1⟩, f0, f1⟩ := HK.out w1 x1)
        | (go_at_call 29; refine (refNodes_val _ N _ a b _ HD.out ⟨_, _, _, rfl⟩).mono ?_; rintro e w2 ⟨rfl, x2⟩; have y2 := x1.trans x2; obtain ⟨⟨r0, r1⟩, ⟨s0, s1⟩, g0, g1⟩ := HK.out w2 y2)
        | (go_at_call 30; refine (refHas_val _ N _ E a b (HS.out.ext (by repeat (first | exact Ext.refl _ | assumption | exact Hid.out (by assumption) | refine Ext.alloc ?_ _ | refine Ext.drew ?_ | refine Ext.drewN ?_ _ | refine Ext.trans ?_ (by assumption)))) _ HM.out).mono ?_; rintro e w3 ⟨rfl, x3⟩; have y3 := y2.trans x3; obtain ⟨⟨t0, t1⟩, ⟨u0, u1⟩, h0, h1⟩ := HK.out w3 y3; have v0 := (HK.out _ (y3.trans ((Ext.refl w3).alloc (.cells #[.int .i64 a, .int .i64 b] 40)))).1.1))
      go_loopw [10, 11] (fun p i wr => ∃ (k : Nat) (pv : Bool), k ≤ E.length ∧ i = .int .i64 k ∧ p = .bool pv ∧ Hid ((E.take k).any (ahead (btw a b)) = pv) ∧ Hid (OutAt (w3.alloc (.cells #[.int .i64 a, .int .i64 b] 40)) (w3.heap.size + 1) N (outL (btw a b) (E.take k)) wr)) (fun _ i _ => E.length - (intOf i).toNat)
      case atStart => exact ⟨0, false, Nat.zero_le _, rfl, rfl, Lib.hid rfl, Lib.hid (OutAt.startAt _ _ N (by simp))⟩
      case round =>
        obtain ⟨k, pv, hk, rfl, rfl, HP, KO⟩ := hrel
        by_cases hlt2 : k < E.length
        · have hya0 := (HL.out k hlt2).1
          have hyb0 := (HL.out k hlt2).2
          obtain ⟨⟨ya, yb⟩, hy⟩ : ∃ y, y = E.getD k ⟨0, 0⟩ := ⟨_, rfl⟩
          rw [← hy] at hya0 hyb0
          have HT : Hid (E.take (k + 1) = E.take k ++ [⟨ya, yb⟩]) := Lib.hid (by rw [take_next hlt2 ⟨0, 0⟩, ← hy])
          clear hy
          have HPN : Hid ((E.take (k + 1)).any (ahead (btw a b)) = (pv || ahead (btw a b) ⟨ya, yb⟩)) := Lib.hid (by rw [HT.out, List.any_append, HP.out]; simp)
          have yrr : Ext (((w.alloc (.cells #[.int .i64 N, .slice (some ⟨q, off, none⟩) E.length c] 24)).alloc (.cells #[.int .i64 0, .slice none 0 0] 24))) wr := y3.trans (Ext.trans ((Ext.refl w3).alloc _) KO.out.ext)
          have gcr : wr.cell? ⟨w.heap.size, 1, none⟩ = some (.slice (some ⟨q, off, none⟩) E.length c) := (HK.out _ yrr).1.2
          have ear := ((Ext.trans (ext_two w _ _) yrr).cell (p := ⟨q, off + k * 2, none⟩) hb).trans hya0
          have ebr := ((Ext.trans (ext_two w _ _) yrr).cell (p := ⟨q, off + k * 2 + 1, none⟩) hb).trans hyb0
          obtain ⟨aor, nr, cr, hobr, hoor⟩ := KO.out.blk
          have ocr : wr.cell? ⟨w3.heap.size + 1, 1, none⟩ = some (.slice aor nr cr) := blk_cell hobr 1 rfl
          have ltr : w3.heap.size + 1 < wr.heap.size := blk_lt hobr
          have OOr := Lib.hid hoor
          clear hoor hobr
          have hfl : (outL (btw a b) (E.take k)).length ≤ 1001 := outL_few (by simp; omega)
          obtain ⟨L, hL⟩ : ∃ L, L = outL (btw a b) (E.take k) := ⟨_, rfl⟩
          have HOL := Lib.hid hL
          rw [← hL] at KO OOr hfl
          clear hL
          cases pv
          · obtain ⟨s, hs⟩ : ∃ s, ahead ⟨a, b⟩ ⟨ya, yb⟩ = s := ⟨_, rfl⟩
            have HS2 := Lib.hid hs
            have HPS : Hid ((E.take (k + 1)).any (ahead (btw a b)) = s) := Lib.hid (by rw [HPN.out, HB.out, hs]; cases s <;> rfl)
            clear hs HPN
            have HF : Hid (∀ V, Ext wr V → (V.cell? ⟨w3.heap.size, 0, none⟩ = some (.int .i64 a) ∧ V.cell? ⟨w3.heap.size, 1, none⟩ = some (.int .i64 b)) ∧ V.cell? ⟨w.heap.size, 1, none⟩ = some (.slice (some ⟨q, off, none⟩) E.length c) ∧ V.cell? ⟨q, off + k * 2, none⟩ = some (.int .i64 ya) ∧ V.cell? ⟨q, off + k * 2 + 1, none⟩ = some (.int .i64 yb)) := Lib.hid fun V x => by
              have z0 := KO.out.ext.trans x
              have z1 := y3.trans (Ext.trans ((Ext.refl w3).alloc _) z0)
              exact ⟨⟨cell_at V z0 rfl, cell_at V z0 rfl⟩, (HK.out V z1).1.2, ((Ext.trans (ext_two w _ _) z1).cell (p := ⟨q, off + k * 2, none⟩) hb).trans hya0, ((Ext.trans (ext_two w _ _) z1).cell (p := ⟨q, off + k * 2 + 1, none⟩) hb).trans hyb0⟩
            cases s
            all_goals
              go_wp2
              go_region_held3 (fun V => (V.cell? ⟨w3.heap.size, 0, none⟩ = some (.int .i64 a) ∧ V.cell? ⟨w3.heap.size, 1, none⟩ = some (.int .i64 b)) ∧ V.cell? ⟨w.heap.size, 1, none⟩ = some (.slice (some ⟨q, off, none⟩) E.length c) ∧ V.cell? ⟨q, off + k * 2, none⟩ = some (.int .i64 ya) ∧ V.cell? ⟨q, off + k * 2 + 1, none⟩ = some (.int .i64 yb)) (exact HF.out _ ((by repeat (first | exact Ext.refl _ | assumption | refine Ext.alloc ?_ _ | refine Ext.drew ?_ | refine Ext.drewN ?_ _))))
                (first
                | (go_at_call 31; refine (refAhead_val _ _ _ _ _ _ HS2.out).mono ?_; rintro e w4 ⟨rfl, hx⟩; have x4 : Ext wr w4 := Ext.trans (by exact (by repeat (first | exact Ext.refl _ | assumption | refine Ext.alloc ?_ _ | refine Ext.drew ?_ | refine Ext.drewN ?_ _))) hx; clear hx))
              have KO4 := Lib.hid (KO.out.more x4)
              have yrs : Ext (((w.alloc (.cells #[.int .i64 N, .slice (some ⟨q, off, none⟩) E.length c] 24)).alloc (.cells #[.int .i64 0, .slice none 0 0] 24))) w4 := y3.trans (Ext.trans ((Ext.refl w3).alloc _) KO4.out.ext)
              have gcs : w4.cell? ⟨w.heap.size, 1, none⟩ = some (.slice (some ⟨q, off, none⟩) E.length c) := (HK.out _ yrs).1.2
              have eas := ((Ext.trans (ext_two w _ _) yrs).cell (p := ⟨q, off + k * 2, none⟩) hb).trans hya0
              have ebs := ((Ext.trans (ext_two w _ _) yrs).cell (p := ⟨q, off + k * 2 + 1, none⟩) hb).trans hyb0
              obtain ⟨aos, ns, cs, hobs, hoos⟩ := KO4.out.blk
              have ocs : w4.cell? ⟨w3.heap.size + 1, 1, none⟩ = some (.slice aos ns cs) := blk_cell hobs 1 rfl
              have lts : w3.heap.size + 1 < w4.heap.size := blk_lt hobs
              have OOs := Lib.hid hoos
              clear hoos hobs
            · go_wp2
              go_region_law (first
                | (refine step_append_sl (α := Edge) rfl (.tmp 67) (.tmp 73) rfl (w3.heap.size + 1 + 1) (.slice aos ns cs) L rfl ?_ (.slice (some ⟨_, 0, none⟩) 1 1) [Edge.mk ya yb] rfl ?_ ?_ ?_ ?_; exact OOs.out.ext (by repeat (first | exact Ext.refl _ | assumption | refine Ext.alloc ?_ _ | refine Ext.drew ?_ | refine Ext.drewN ?_ _)); (first | exact Sl.litAt _ _ rfl [Edge.mk ya yb] (by simp) | exact Sl.litAt _ _ (by simp) [Edge.mk ya yb] (by simp) | exact Sl.drew (Sl.litAt _ _ rfl [Edge.mk ya yb] (by simp)) | exact Sl.drew (Sl.litAt _ _ (by simp) [Edge.mk ya yb] (by simp))); exact (by simp; omega); exact (by simp; omega); intro v2 W2 ho2 ha2; obtain ⟨ao2, n2, c2, rfl⟩ := ho2.sh; have K2 := Lib.hid (KO4.out.step ((by repeat (first | exact Ext.refl _ | assumption | refine Ext.alloc ?_ _ | refine Ext.drew ?_ | refine Ext.drewN ?_ _))) ha2.below ho2); have O2 := Lib.hid (ho2.set (d := ⟨w3.heap.size + 1, 1, none⟩) (by simp) (.slice ao2 n2 c2)); have X2 := Lib.hid (KO4.out.far ((by repeat (first | exact Ext.refl _ | assumption | refine Ext.alloc ?_ _ | refine Ext.drew ?_ | refine Ext.drewN ?_ _))) ha2.below); obtain ⟨ao', n', c', ⟨k0, k1⟩, m0, m1⟩ := KO4.out.open ((by repeat (first | exact Ext.refl _ | assumption | refine Ext.alloc ?_ _ | refine Ext.drew ?_ | refine Ext.drewN ?_ _))) ha2.below; clear ho2 ha2))
              all_goals
                go_wp2
                go_roundw
                case rel => exact ⟨k + 1, false, by omega, by go_num, rfl, HPS, Lib.hid (by rw [HT.out, outL_none HP.out (by rw [HB.out]; exact HS2.out), ← HOL.out]; exact K2.out)⟩
                case measure => simp [intOf]; omega
            · go_wp2_with ((at_builtin; refine wpList_append_sl (α := Edge) rfl (.tmp 61) (.tmp 63) rfl (w3.heap.size + 1 + 1) _ L rfl ?_ (.slice (some ⟨_, 0, none⟩) 1 1) [Edge.mk a b] rfl ?_ ?_ ?_ ?_; exact (OOs.out.ext (by repeat (first | exact Ext.refl _ | assumption | refine Ext.alloc ?_ _ | refine Ext.drew ?_ | refine Ext.drewN ?_ _))); exact (by (first | exact Sl.litAt _ _ rfl [Edge.mk a b] (by simp) | exact Sl.litAt _ _ (by simp) [Edge.mk a b] (by simp) | exact Sl.drew (Sl.litAt _ _ rfl [Edge.mk a b] (by simp)) | exact Sl.drew (Sl.litAt _ _ (by simp) [Edge.mk a b] (by simp)))); (first | omega | (simp; omega)); exact (by first | (simp; done) | (simp; omega)); intro v2 W2 ho2 ha2; obtain ⟨ao2, n2, c2, rfl⟩ := ho2.sh; have K2 := Lib.hid (KO4.out.step ((by repeat (first | exact Ext.refl _ | assumption | refine Ext.alloc ?_ _ | refine Ext.drew ?_ | refine Ext.drewN ?_ _))) ha2.below ho2); have O2 := Lib.hid (ho2.set (d := ⟨w3.heap.size + 1, 1, none⟩) (by simp) (.slice ao2 n2 c2)); have X2 := Lib.hid (KO4.out.far ((by repeat (first | exact Ext.refl _ | assumption | refine Ext.alloc ?_ _ | refine Ext.drew ?_ | refine Ext.drewN ?_ _))) ha2.below); obtain ⟨ao', n', c', ⟨k0, k1⟩, m0, m1⟩ := KO4.out.open ((by repeat (first | exact Ext.refl _ | assumption | refine Ext.alloc ?_ _ | refine Ext.drew ?_ | refine Ext.drewN ?_ _))) ha2.below; clear ho2 ha2; have k9 := k1))
              generalize W2.setCell ⟨w3.heap.size + 1, 1, none⟩ (.slice ao2 n2 c2) = V at K2 ⊢
              have KV := K2
              clear k0 k1 m0 m1 k9
              have yrv : Ext (((w.alloc (.cells #[.int .i64 N, .slice (some ⟨q, off, none⟩) E.length c] 24)).alloc (.cells #[.int .i64 0, .slice none 0 0] 24))) V := y3.trans (Ext.trans ((Ext.refl w3).alloc _) KV.out.ext)
              have gcv : V.cell? ⟨w.heap.size, 1, none⟩ = some (.slice (some ⟨q, off, none⟩) E.length c) := (HK.out _ yrv).1.2
              have eav := ((Ext.trans (ext_two w _ _) yrv).cell (p := ⟨q, off + k * 2, none⟩) hb).trans hya0
              have ebv := ((Ext.trans (ext_two w _ _) yrv).cell (p := ⟨q, off + k * 2 + 1, none⟩) hb).trans hyb0
              obtain ⟨aov, nv, cv, hobv, hoov⟩ := KV.out.blk
              have ocv : V.cell? ⟨w3.heap.size + 1, 1, none⟩ = some (.slice aov nv cv) := blk_cell hobv 1 rfl
              have ltv : w3.heap.size + 1 < V.heap.size := blk_lt hobv
              have OOv := Lib.hid hoov
              clear hoov hobv
              go_region_law (first
                | (refine step_append_sl (α := Edge) rfl (.tmp 67) (.tmp 73) rfl (w3.heap.size + 1 + 1) (.slice aov nv cv) (L ++ [Edge.mk a b]) rfl ?_ (.slice (some ⟨_, 0, none⟩) 1 1) [Edge.mk ya yb] rfl ?_ ?_ ?_ ?_; exact OOv.out.ext (by repeat (first | exact Ext.refl _ | assumption | refine Ext.alloc ?_ _ | refine Ext.drew ?_ | refine Ext.drewN ?_ _)); (first | exact Sl.litAt _ _ rfl [Edge.mk ya yb] (by simp) | exact Sl.litAt _ _ (by simp) [Edge.mk ya yb] (by simp) | exact Sl.drew (Sl.litAt _ _ rfl [Edge.mk ya yb] (by simp)) | exact Sl.drew (Sl.litAt _ _ (by simp) [Edge.mk ya yb] (by simp))); exact (by simp; omega); exact (by simp; omega); intro v2 W2 ho2 ha2; obtain ⟨ao2, n2, c2, rfl⟩ := ho2.sh; have K2 := Lib.hid (KV.out.step ((by repeat (first | exact Ext.refl _ | assumption | refine Ext.alloc ?_ _ | refine Ext.drew ?_ | refine Ext.drewN ?_ _))) ha2.below ho2); have O2 := Lib.hid (ho2.set (d := ⟨w3.heap.size + 1, 1, none⟩) (by simp) (.slice ao2 n2 c2)); have X2 := Lib.hid (KV.out.far ((by repeat (first | exact Ext.refl _ | assumption | refine Ext.alloc ?_ _ | refine Ext.drew ?_ | refine Ext.drewN ?_ _))) ha2.below); obtain ⟨ao', n', c', ⟨k0, k1⟩, m0, m1⟩ := KV.out.open ((by repeat (first | exact Ext.refl _ | assumption | refine Ext.alloc ?_ _ | refine Ext.drew ?_ | refine Ext.drewN ?_ _))) ha2.below; clear ho2 ha2))
              all_goals
                go_wp2
                go_roundw
                case rel => exact ⟨k + 1, true, by omega, by go_num, rfl, HPS, Lib.hid (by rw [HT.out, outL_put HP.out (by rw [HB.out]; exact HS2.out), ← HOL.out, HB.out]; exact K2.out)⟩
                case measure => simp [intOf]; omega
          · go_wp2
            go_quiet (fail)
            generalize hV : wr.drewN nq = V
            have KV : Hid (OutAt (w3.alloc (.cells #[.int .i64 a, .int .i64 b] 40)) (w3.heap.size + 1) N L V) := Lib.hid (by rw [← hV]; exact KO.out.more (by first | exact (Ext.refl wr).drewN _))
            clear hV
            have yrv : Ext (((w.alloc (.cells #[.int .i64 N, .slice (some ⟨q, off, none⟩) E.length c] 24)).alloc (.cells #[.int .i64 0, .slice none 0 0] 24))) V := y3.trans (Ext.trans ((Ext.refl w3).alloc _) KV.out.ext)
            have gcv : V.cell? ⟨w.heap.size, 1, none⟩ = some (.slice (some ⟨q, off, none⟩) E.length c) := (HK.out _ yrv).1.2
            have eav := ((Ext.trans (ext_two w _ _) yrv).cell (p := ⟨q, off + k * 2, none⟩) hb).trans hya0
            have ebv := ((Ext.trans (ext_two w _ _) yrv).cell (p := ⟨q, off + k * 2 + 1, none⟩) hb).trans hyb0
            obtain ⟨aov, nv, cv, hobv, hoov⟩ := KV.out.blk
            have ocv : V.cell? ⟨w3.heap.size + 1, 1, none⟩ = some (.slice aov nv cv) := blk_cell hobv 1 rfl
            have ltv : w3.heap.size + 1 < V.heap.size := blk_lt hobv
            have OOv := Lib.hid hoov
            clear hoov hobv
            go_wp2
            go_region_law (first
              | (refine step_append_sl (α := Edge) rfl (.tmp 67) (.tmp 73) rfl (w3.heap.size + 1 + 1) (.slice aov nv cv) L rfl ?_ (.slice (some ⟨_, 0, none⟩) 1 1) [Edge.mk ya yb] rfl ?_ ?_ ?_ ?_; exact OOv.out.ext (by repeat (first | exact Ext.refl _ | assumption | refine Ext.alloc ?_ _ | refine Ext.drew ?_ | refine Ext.drewN ?_ _)); (first | exact Sl.litAt _ _ rfl [Edge.mk ya yb] (by simp) | exact Sl.litAt _ _ (by simp) [Edge.mk ya yb] (by simp) | exact Sl.drew (Sl.litAt _ _ rfl [Edge.mk ya yb] (by simp)) | exact Sl.drew (Sl.litAt _ _ (by simp) [Edge.mk ya yb] (by simp))); exact (by simp; omega); exact (by simp; omega); intro v2 W2 ho2 ha2; obtain ⟨ao2, n2, c2, rfl⟩ := ho2.sh; have K2 := Lib.hid (KV.out.step ((by repeat (first | exact Ext.refl _ | assumption | refine Ext.alloc ?_ _ | refine Ext.drew ?_ | refine Ext.drewN ?_ _))) ha2.below ho2); have O2 := Lib.hid (ho2.set (d := ⟨w3.heap.size + 1, 1, none⟩) (by simp) (.slice ao2 n2 c2)); have X2 := Lib.hid (KV.out.far ((by repeat (first | exact Ext.refl _ | assumption | refine Ext.alloc ?_ _ | refine Ext.drew ?_ | refine Ext.drewN ?_ _))) ha2.below); obtain ⟨ao', n', c', ⟨k0, k1⟩, m0, m1⟩ := KV.out.open ((by repeat (first | exact Ext.refl _ | assumption | refine Ext.alloc ?_ _ | refine Ext.drew ?_ | refine Ext.drewN ?_ _))) ha2.below; clear ho2 ha2))
            all_goals
              go_wp2
              go_roundw
              case rel => exact ⟨k + 1, true, by omega, by go_num, rfl, Lib.hid (by rw [HPN.out]; rfl), Lib.hid (by rw [HT.out, outL_skip HP.out, ← HOL.out]; exact K2.out)⟩
              case measure => simp [intOf]; omega
        · have hkl : k = E.length := by omega
          have yr := y3.trans (Ext.trans ((Ext.refl w3).alloc _) KO.out.ext)
          obtain ⟨⟨i0, i1⟩, ⟨j0, j1⟩, l0, l1⟩ := HK.out wr yr
          obtain ⟨ao, n, cq, hob, hoo⟩ := KO.out.blk
          have o0 : wr.cell? ⟨w3.heap.size + 1, 0, none⟩ = some (.int .i64 N) := blk_cell hob 0 rfl
          have o1 : wr.cell? ⟨w3.heap.size + 1, 1, none⟩ = some (.slice ao n cq) := blk_cell hob 1 rfl
          have hw3 := blk_lt hob
          rw [hkl, List.take_length] at KO hoo HP
          have OO := Lib.hid hoo
          have hfl : (outL (btw a b) E).length ≤ 1001 := outL_few (by omega)
          have hz := y3.size
          rw [size_alloc, size_alloc] at hz
          obtain ⟨L, hL⟩ : ∃ L, L = outL (btw a b) E := ⟨_, rfl⟩
          have HOL := Lib.hid hL
          rw [← hL] at KO OO hfl
          clear hL hkl hoo hob
          cases pv
          · have hx0 := (KO.out.ext.trans (Ext.refl wr))
            have z0 : wr.cell? ⟨w3.heap.size, 0, none⟩ = some (.int .i64 a) := cell_at wr hx0 rfl
            have z1 : wr.cell? ⟨w3.heap.size, 1, none⟩ = some (.int .i64 b) := cell_at wr hx0 rfl
            clear hx0
            go_wp2_with ((at_builtin; refine wpList_append_sl (α := Edge) rfl (.tmp 79) (.tmp 81) rfl (w3.heap.size + 1 + 1) _ L rfl ?_ (.slice (some ⟨_, 0, none⟩) 1 1) [Edge.mk a b] rfl ?_ ?_ ?_ ?_; exact (OO.out.ext (by repeat (first | exact Ext.refl _ | assumption | refine Ext.alloc ?_ _ | refine Ext.drew ?_ | refine Ext.drewN ?_ _))); exact (by (first | exact Sl.litAt _ _ rfl [Edge.mk a b] (by simp) | exact Sl.litAt _ _ (by simp) [Edge.mk a b] (by simp) | exact Sl.drew (Sl.litAt _ _ rfl [Edge.mk a b] (by simp)) | exact Sl.drew (Sl.litAt _ _ (by simp) [Edge.mk a b] (by simp)))); (first | omega | (simp; omega)); exact (by first | (simp; done) | (simp; omega)); intro v2 W2 ho2 ha2; obtain ⟨ao2, n2, c2, rfl⟩ := ho2.sh; have K2 := Lib.hid (KO.out.step ((by repeat (first | exact Ext.refl _ | assumption | refine Ext.alloc ?_ _ | refine Ext.drew ?_ | refine Ext.drewN ?_ _))) ha2.below ho2); have O2 := Lib.hid (ho2.set (d := ⟨w3.heap.size + 1, 1, none⟩) (by simp) (.slice ao2 n2 c2)); have X2 := Lib.hid (KO.out.far ((by repeat (first | exact Ext.refl _ | assumption | refine Ext.alloc ?_ _ | refine Ext.drew ?_ | refine Ext.drewN ?_ _))) ha2.below); obtain ⟨ao', n', c', ⟨k0, k1⟩, m0, m1⟩ := KO.out.open ((by repeat (first | exact Ext.refl _ | assumption | refine Ext.alloc ?_ _ | refine Ext.drew ?_ | refine Ext.drewN ?_ _))) ha2.below; clear ho2 ha2; obtain ⟨⟨i0, i1⟩, ⟨j0, j1⟩, l0, l1⟩ := HK.out W2 (y3.trans (Ext.trans ((Ext.refl w3).alloc _) X2.out))))
            exact bodyPost_ret (v := .tuple #[.agg #[.int .i64 N, .slice ao2 n2 c2], .int .i64 0]) (by simp [results, Try.results11, go_sem, j0, j1]) rfl ⟨_, rfl, by rw [← outL_end' HP.out, ← HOL.out, HB.out]; exact ((O2.out.set (by simp; omega) _).set (by simp; omega) _).sl, below_set (below_set (Ext.trans (ext_two w _ _) (y3.trans (Ext.trans ((Ext.refl w3).alloc _) K2.out.ext))) (by simp) _) (by simp) _⟩
          · go_wp2
            exact bodyPost_ret (v := .tuple #[.agg #[.int .i64 N, .slice ao n cq], .int .i64 0]) (by simp [results, Try.results11, go_sem, j0, j1]) rfl ⟨_, rfl, by rw [← outL_end HP.out, ← HOL.out]; exact ((OO.out.set (by simp; omega) _).set (by simp; omega) _).sl, below_set (below_set (Ext.trans (ext_two w _ _) yr) (by simp) _) (by simp) _⟩
    · have HB := Lib.hid (btw_gt hlt)
      have hmm : min a b = b := by omega
      have hMM : max a b = a := by omega
      clear hab
      go_enter Try.func11, Try.ntmps11
      go_wp2_with (first
        | (go_at_call 28; refine (refCheck_val _ N _ E (HS.out.ext (by repeat (first | exact Ext.refl _ | assumption | refine Ext.alloc ?_ _ | refine Ext.drew ?_ | refine Ext.drewN ?_ _))) _ HC.out).mono ?_; rintro e w1 ⟨rfl, x1⟩; obtain ⟨⟨p0, p1⟩, ⟨q0, q1⟩, f0, f1⟩ := HK.out w1 x1)
        | (go_at_call 29; refine (refNodes_val _ N _ a b _ HD.out ⟨_, _, _, rfl⟩).mono ?_; rintro e w2 ⟨rfl, x2⟩; have y2 := x1.trans x2; obtain ⟨⟨r0, r1⟩, ⟨s0, s1⟩, g0, g1⟩ := HK.out w2 y2)
        | (go_at_call 30; refine (refHas_val _ N _ E a b (HS.out.ext (by repeat (first | exact Ext.refl _ | assumption | exact Hid.out (by assumption) | refine Ext.alloc ?_ _ | refine Ext.drew ?_ | refine Ext.drewN ?_ _ | refine Ext.trans ?_ (by assumption)))) _ HM.out).mono ?_; rintro e w3 ⟨rfl, x3⟩; have y3 := y2.trans x3; obtain ⟨⟨t0, t1⟩, ⟨u0, u1⟩, h0, h1⟩ := HK.out w3 y3; have v0 := (HK.out _ (y3.trans ((Ext.refl w3).alloc (.cells #[.int .i64 b, .int .i64 a] 40)))).1.1))
      go_loopw [10, 11] (fun p i wr => ∃ (k : Nat) (pv : Bool), k ≤ E.length ∧ i = .int .i64 k ∧ p = .bool pv ∧ Hid ((E.take k).any (ahead (btw a b)) = pv) ∧ Hid (OutAt (w3.alloc (.cells #[.int .i64 b, .int .i64 a] 40)) (w3.heap.size + 1) N (outL (btw a b) (E.take k)) wr)) (fun _ i _ => E.length - (intOf i).toNat)
      case atStart => exact ⟨0, false, Nat.zero_le _, rfl, rfl, Lib.hid rfl, Lib.hid (OutAt.startAt _ _ N (by simp))⟩
      case round =>
        obtain ⟨k, pv, hk, rfl, rfl, HP, KO⟩ := hrel
        by_cases hlt2 : k < E.length
        · have hya0 := (HL.out k hlt2).1
          have hyb0 := (HL.out k hlt2).2
          obtain ⟨⟨ya, yb⟩, hy⟩ : ∃ y, y = E.getD k ⟨0, 0⟩ := ⟨_, rfl⟩
          rw [← hy] at hya0 hyb0
          have HT : Hid (E.take (k + 1) = E.take k ++ [⟨ya, yb⟩]) := Lib.hid (by rw [take_next hlt2 ⟨0, 0⟩, ← hy])
          clear hy
          have HPN : Hid ((E.take (k + 1)).any (ahead (btw a b)) = (pv || ahead (btw a b) ⟨ya, yb⟩)) := Lib.hid (by rw [HT.out, List.any_append, HP.out]; simp)
          have yrr : Ext (((w.alloc (.cells #[.int .i64 N, .slice (some ⟨q, off, none⟩) E.length c] 24)).alloc (.cells #[.int .i64 0, .slice none 0 0] 24))) wr := y3.trans (Ext.trans ((Ext.refl w3).alloc _) KO.out.ext)
          have gcr : wr.cell? ⟨w.heap.size, 1, none⟩ = some (.slice (some ⟨q, off, none⟩) E.length c) := (HK.out _ yrr).1.2
          have ear := ((Ext.trans (ext_two w _ _) yrr).cell (p := ⟨q, off + k * 2, none⟩) hb).trans hya0
          have ebr := ((Ext.trans (ext_two w _ _) yrr).cell (p := ⟨q, off + k * 2 + 1, none⟩) hb).trans hyb0
          obtain ⟨aor, nr, cr, hobr, hoor⟩ := KO.out.blk
          have ocr : wr.cell? ⟨w3.heap.size + 1, 1, none⟩ = some (.slice aor nr cr) := blk_cell hobr 1 rfl
          have ltr : w3.heap.size + 1 < wr.heap.size := blk_lt hobr
          have OOr := Lib.hid hoor
          clear hoor hobr
          have hfl : (outL (btw a b) (E.take k)).length ≤ 1001 := outL_few (by simp; omega)
          obtain ⟨L, hL⟩ : ∃ L, L = outL (btw a b) (E.take k) := ⟨_, rfl⟩
          have HOL := Lib.hid hL
          rw [← hL] at KO OOr hfl
          clear hL
          cases pv
          · obtain ⟨s, hs⟩ : ∃ s, ahead ⟨b, a⟩ ⟨ya, yb⟩ = s := ⟨_, rfl⟩
            have HS2 := Lib.hid hs
            have HPS : Hid ((E.take (k + 1)).any (ahead (btw a b)) = s) := Lib.hid (by rw [HPN.out, HB.out, hs]; cases s <;> rfl)
            clear hs HPN
            have HF : Hid (∀ V, Ext wr V → (V.cell? ⟨w3.heap.size, 0, none⟩ = some (.int .i64 b) ∧ V.cell? ⟨w3.heap.size, 1, none⟩ = some (.int .i64 a)) ∧ V.cell? ⟨w.heap.size, 1, none⟩ = some (.slice (some ⟨q, off, none⟩) E.length c) ∧ V.cell? ⟨q, off + k * 2, none⟩ = some (.int .i64 ya) ∧ V.cell? ⟨q, off + k * 2 + 1, none⟩ = some (.int .i64 yb)) := Lib.hid fun V x => by
              have z0 := KO.out.ext.trans x
              have z1 := y3.trans (Ext.trans ((Ext.refl w3).alloc _) z0)
              exact ⟨⟨cell_at V z0 rfl, cell_at V z0 rfl⟩, (HK.out V z1).1.2, ((Ext.trans (ext_two w _ _) z1).cell (p := ⟨q, off + k * 2, none⟩) hb).trans hya0, ((Ext.trans (ext_two w _ _) z1).cell (p := ⟨q, off + k * 2 + 1, none⟩) hb).trans hyb0⟩
            cases s
            all_goals
              go_wp2
              go_region_held3 (fun V => (V.cell? ⟨w3.heap.size, 0, none⟩ = some (.int .i64 b) ∧ V.cell? ⟨w3.heap.size, 1, none⟩ = some (.int .i64 a)) ∧ V.cell? ⟨w.heap.size, 1, none⟩ = some (.slice (some ⟨q, off, none⟩) E.length c) ∧ V.cell? ⟨q, off + k * 2, none⟩ = some (.int .i64 ya) ∧ V.cell? ⟨q, off + k * 2 + 1, none⟩ = some (.int .i64 yb)) (exact HF.out _ ((by repeat (first | exact Ext.refl _ | assumption | refine Ext.alloc ?_ _ | refine Ext.drew ?_ | refine Ext.drewN ?_ _))))
                (first
                | (go_at_call 31; refine (refAhead_val _ _ _ _ _ _ HS2.out).mono ?_; rintro e w4 ⟨rfl, hx⟩; have x4 : Ext wr w4 := Ext.trans (by exact (by repeat (first | exact Ext.refl _ | assumption | refine Ext.alloc ?_ _ | refine Ext.drew ?_ | refine Ext.drewN ?_ _))) hx; clear hx))
              have KO4 := Lib.hid (KO.out.more x4)
              have yrs : Ext (((w.alloc (.cells #[.int .i64 N, .slice (some ⟨q, off, none⟩) E.length c] 24)).alloc (.cells #[.int .i64 0, .slice none 0 0] 24))) w4 := y3.trans (Ext.trans ((Ext.refl w3).alloc _) KO4.out.ext)
              have gcs : w4.cell? ⟨w.heap.size, 1, none⟩ = some (.slice (some ⟨q, off, none⟩) E.length c) := (HK.out _ yrs).1.2
              have eas := ((Ext.trans (ext_two w _ _) yrs).cell (p := ⟨q, off + k * 2, none⟩) hb).trans hya0
              have ebs := ((Ext.trans (ext_two w _ _) yrs).cell (p := ⟨q, off + k * 2 + 1, none⟩) hb).trans hyb0
              obtain ⟨aos, ns, cs, hobs, hoos⟩ := KO4.out.blk
              have ocs : w4.cell? ⟨w3.heap.size + 1, 1, none⟩ = some (.slice aos ns cs) := blk_cell hobs 1 rfl
              have lts : w3.heap.size + 1 < w4.heap.size := blk_lt hobs
              have OOs := Lib.hid hoos
              clear hoos hobs
            · go_wp2
              go_region_law (first
                | (refine step_append_sl (α := Edge) rfl (.tmp 67) (.tmp 73) rfl (w3.heap.size + 1 + 1) (.slice aos ns cs) L rfl ?_ (.slice (some ⟨_, 0, none⟩) 1 1) [Edge.mk ya yb] rfl ?_ ?_ ?_ ?_; exact OOs.out.ext (by repeat (first | exact Ext.refl _ | assumption | refine Ext.alloc ?_ _ | refine Ext.drew ?_ | refine Ext.drewN ?_ _)); (first | exact Sl.litAt _ _ rfl [Edge.mk ya yb] (by simp) | exact Sl.litAt _ _ (by simp) [Edge.mk ya yb] (by simp) | exact Sl.drew (Sl.litAt _ _ rfl [Edge.mk ya yb] (by simp)) | exact Sl.drew (Sl.litAt _ _ (by simp) [Edge.mk ya yb] (by simp))); exact (by simp; omega); exact (by simp; omega); intro v2 W2 ho2 ha2; obtain ⟨ao2, n2, c2, rfl⟩ := ho2.sh; have K2 := Lib.hid (KO4.out.step ((by repeat (first | exact Ext.refl _ | assumption | refine Ext.alloc ?_ _ | refine Ext.drew ?_ | refine Ext.drewN ?_ _))) ha2.below ho2); have O2 := Lib.hid (ho2.set (d := ⟨w3.heap.size + 1, 1, none⟩) (by simp) (.slice ao2 n2 c2)); have X2 := Lib.hid (KO4.out.far ((by repeat (first | exact Ext.refl _ | assumption | refine Ext.alloc ?_ _ | refine Ext.drew ?_ | refine Ext.drewN ?_ _))) ha2.below); obtain ⟨ao', n', c', ⟨k0, k1⟩, m0, m1⟩ := KO4.out.open ((by repeat (first | exact Ext.refl _ | assumption | refine Ext.alloc ?_ _ | refine Ext.drew ?_ | refine Ext.drewN ?_ _))) ha2.below; clear ho2 ha2))
              all_goals
                go_wp2
                go_roundw
                case rel => exact ⟨k + 1, false, by omega, by go_num, rfl, HPS, Lib.hid (by rw [HT.out, outL_none HP.out (by rw [HB.out]; exact HS2.out), ← HOL.out]; exact K2.out)⟩
                case measure => simp [intOf]; omega
            · go_wp2_with ((at_builtin; refine wpList_append_sl (α := Edge) rfl (.tmp 61) (.tmp 63) rfl (w3.heap.size + 1 + 1) _ L rfl ?_ (.slice (some ⟨_, 0, none⟩) 1 1) [Edge.mk b a] rfl ?_ ?_ ?_ ?_; exact (OOs.out.ext (by repeat (first | exact Ext.refl _ | assumption | refine Ext.alloc ?_ _ | refine Ext.drew ?_ | refine Ext.drewN ?_ _))); exact (by (first | exact Sl.litAt _ _ rfl [Edge.mk b a] (by simp) | exact Sl.litAt _ _ (by simp) [Edge.mk b a] (by simp) | exact Sl.drew (Sl.litAt _ _ rfl [Edge.mk b a] (by simp)) | exact Sl.drew (Sl.litAt _ _ (by simp) [Edge.mk b a] (by simp)))); (first | omega | (simp; omega)); exact (by first | (simp; done) | (simp; omega)); intro v2 W2 ho2 ha2; obtain ⟨ao2, n2, c2, rfl⟩ := ho2.sh; have K2 := Lib.hid (KO4.out.step ((by repeat (first | exact Ext.refl _ | assumption | refine Ext.alloc ?_ _ | refine Ext.drew ?_ | refine Ext.drewN ?_ _))) ha2.below ho2); have O2 := Lib.hid (ho2.set (d := ⟨w3.heap.size + 1, 1, none⟩) (by simp) (.slice ao2 n2 c2)); have X2 := Lib.hid (KO4.out.far ((by repeat (first | exact Ext.refl _ | assumption | refine Ext.alloc ?_ _ | refine Ext.drew ?_ | refine Ext.drewN ?_ _))) ha2.below); obtain ⟨ao', n', c', ⟨k0, k1⟩, m0, m1⟩ := KO4.out.open ((by repeat (first | exact Ext.refl _ | assumption | refine Ext.alloc ?_ _ | refine Ext.drew ?_ | refine Ext.drewN ?_ _))) ha2.below; clear ho2 ha2; have k9 := k1))
              generalize W2.setCell ⟨w3.heap.size + 1, 1, none⟩ (.slice ao2 n2 c2) = V at K2 ⊢
              have KV := K2
              clear k0 k1 m0 m1 k9
              have yrv : Ext (((w.alloc (.cells #[.int .i64 N, .slice (some ⟨q, off, none⟩) E.length c] 24)).alloc (.cells #[.int .i64 0, .slice none 0 0] 24))) V := y3.trans (Ext.trans ((Ext.refl w3).alloc _) KV.out.ext)
              have gcv : V.cell? ⟨w.heap.size, 1, none⟩ = some (.slice (some ⟨q, off, none⟩) E.length c) := (HK.out _ yrv).1.2
              have eav := ((Ext.trans (ext_two w _ _) yrv).cell (p := ⟨q, off + k * 2, none⟩) hb).trans hya0
              have ebv := ((Ext.trans (ext_two w _ _) yrv).cell (p := ⟨q, off + k * 2 + 1, none⟩) hb).trans hyb0
              obtain ⟨aov, nv, cv, hobv, hoov⟩ := KV.out.blk
              have ocv : V.cell? ⟨w3.heap.size + 1, 1, none⟩ = some (.slice aov nv cv) := blk_cell hobv 1 rfl
              have ltv : w3.heap.size + 1 < V.heap.size := blk_lt hobv
              have OOv := Lib.hid hoov
              clear hoov hobv
              go_region_law (first
                | (refine step_append_sl (α := Edge) rfl (.tmp 67) (.tmp 73) rfl (w3.heap.size + 1 + 1) (.slice aov nv cv) (L ++ [Edge.mk b a]) rfl ?_ (.slice (some ⟨_, 0, none⟩) 1 1) [Edge.mk ya yb] rfl ?_ ?_ ?_ ?_; exact OOv.out.ext (by repeat (first | exact Ext.refl _ | assumption | refine Ext.alloc ?_ _ | refine Ext.drew ?_ | refine Ext.drewN ?_ _)); (first | exact Sl.litAt _ _ rfl [Edge.mk ya yb] (by simp) | exact Sl.litAt _ _ (by simp) [Edge.mk ya yb] (by simp) | exact Sl.drew (Sl.litAt _ _ rfl [Edge.mk ya yb] (by simp)) | exact Sl.drew (Sl.litAt _ _ (by simp) [Edge.mk ya yb] (by simp))); exact (by simp; omega); exact (by simp; omega); intro v2 W2 ho2 ha2; obtain ⟨ao2, n2, c2, rfl⟩ := ho2.sh; have K2 := Lib.hid (KV.out.step ((by repeat (first | exact Ext.refl _ | assumption | refine Ext.alloc ?_ _ | refine Ext.drew ?_ | refine Ext.drewN ?_ _))) ha2.below ho2); have O2 := Lib.hid (ho2.set (d := ⟨w3.heap.size + 1, 1, none⟩) (by simp) (.slice ao2 n2 c2)); have X2 := Lib.hid (KV.out.far ((by repeat (first | exact Ext.refl _ | assumption | refine Ext.alloc ?_ _ | refine Ext.drew ?_ | refine Ext.drewN ?_ _))) ha2.below); obtain ⟨ao', n', c', ⟨k0, k1⟩, m0, m1⟩ := KV.out.open ((by repeat (first | exact Ext.refl _ | assumption | refine Ext.alloc ?_ _ | refine Ext.drew ?_ | refine Ext.drewN ?_ _))) ha2.below; clear ho2 ha2))
              all_goals
                go_wp2
                go_roundw
                case rel => exact ⟨k + 1, true, by omega, by go_num, rfl, HPS, Lib.hid (by rw [HT.out, outL_put HP.out (by rw [HB.out]; exact HS2.out), ← HOL.out, HB.out]; exact K2.out)⟩
                case measure => simp [intOf]; omega
          · go_wp2
            go_quiet (fail)
            generalize hV : wr.drewN nq = V
            have KV : Hid (OutAt (w3.alloc (.cells #[.int .i64 b, .int .i64 a] 40)) (w3.heap.size + 1) N L V) := Lib.hid (by rw [← hV]; exact KO.out.more (by first | exact (Ext.refl wr).drewN _))
            clear hV
            have yrv : Ext (((w.alloc (.cells #[.int .i64 N, .slice (some ⟨q, off, none⟩) E.length c] 24)).alloc (.cells #[.int .i64 0, .slice none 0 0] 24))) V := y3.trans (Ext.trans ((Ext.refl w3).alloc _) KV.out.ext)
            have gcv : V.cell? ⟨w.heap.size, 1, none⟩ = some (.slice (some ⟨q, off, none⟩) E.length c) := (HK.out _ yrv).1.2
            have eav := ((Ext.trans (ext_two w _ _) yrv).cell (p := ⟨q, off + k * 2, none⟩) hb).trans hya0
            have ebv := ((Ext.trans (ext_two w _ _) yrv).cell (p := ⟨q, off + k * 2 + 1, none⟩) hb).trans hyb0
            obtain ⟨aov, nv, cv, hobv, hoov⟩ := KV.out.blk
            have ocv : V.cell? ⟨w3.heap.size + 1, 1, none⟩ = some (.slice aov nv cv) := blk_cell hobv 1 rfl
            have ltv : w3.heap.size + 1 < V.heap.size := blk_lt hobv
            have OOv := Lib.hid hoov
            clear hoov hobv
            go_wp2
            go_region_law (first
              | (refine step_append_sl (α := Edge) rfl (.tmp 67) (.tmp 73) rfl (w3.heap.size + 1 + 1) (.slice aov nv cv) L rfl ?_ (.slice (some ⟨_, 0, none⟩) 1 1) [Edge.mk ya yb] rfl ?_ ?_ ?_ ?_; exact OOv.out.ext (by repeat (first | exact Ext.refl _ | assumption | refine Ext.alloc ?_ _ | refine Ext.drew ?_ | refine Ext.drewN ?_ _)); (first | exact Sl.litAt _ _ rfl [Edge.mk ya yb] (by simp) | exact Sl.litAt _ _ (by simp) [Edge.mk ya yb] (by simp) | exact Sl.drew (Sl.litAt _ _ rfl [Edge.mk ya yb] (by simp)) | exact Sl.drew (Sl.litAt _ _ (by simp) [Edge.mk ya yb] (by simp))); exact (by simp; omega); exact (by simp; omega); intro v2 W2 ho2 ha2; obtain ⟨ao2, n2, c2, rfl⟩ := ho2.sh; have K2 := Lib.hid (KV.out.step ((by repeat (first | exact Ext.refl _ | assumption | refine Ext.alloc ?_ _ | refine Ext.drew ?_ | refine Ext.drewN ?_ _))) ha2.below ho2); have O2 := Lib.hid (ho2.set (d := ⟨w3.heap.size + 1, 1, none⟩) (by simp) (.slice ao2 n2 c2)); have X2 := Lib.hid (KV.out.far ((by repeat (first | exact Ext.refl _ | assumption | refine Ext.alloc ?_ _ | refine Ext.drew ?_ | refine Ext.drewN ?_ _))) ha2.below); obtain ⟨ao', n', c', ⟨k0, k1⟩, m0, m1⟩ := KV.out.open ((by repeat (first | exact Ext.refl _ | assumption | refine Ext.alloc ?_ _ | refine Ext.drew ?_ | refine Ext.drewN ?_ _))) ha2.below; clear ho2 ha2))
            all_goals
              go_wp2
              go_roundw
              case rel => exact ⟨k + 1, true, by omega, by go_num, rfl, Lib.hid (by rw [HPN.out]; rfl), Lib.hid (by rw [HT.out, outL_skip HP.out, ← HOL.out]; exact K2.out)⟩
              case measure => simp [intOf]; omega
        · have hkl : k = E.length := by omega
          have yr := y3.trans (Ext.trans ((Ext.refl w3).alloc _) KO.out.ext)
          obtain ⟨⟨i0, i1⟩, ⟨j0, j1⟩, l0, l1⟩ := HK.out wr yr
          obtain ⟨ao, n, cq, hob, hoo⟩ := KO.out.blk
          have o0 : wr.cell? ⟨w3.heap.size + 1, 0, none⟩ = some (.int .i64 N) := blk_cell hob 0 rfl
          have o1 : wr.cell? ⟨w3.heap.size + 1, 1, none⟩ = some (.slice ao n cq) := blk_cell hob 1 rfl
          have hw3 := blk_lt hob
          rw [hkl, List.take_length] at KO hoo HP
          have OO := Lib.hid hoo
          have hfl : (outL (btw a b) E).length ≤ 1001 := outL_few (by omega)
          have hz := y3.size
          rw [size_alloc, size_alloc] at hz
          obtain ⟨L, hL⟩ : ∃ L, L = outL (btw a b) E := ⟨_, rfl⟩
          have HOL := Lib.hid hL
          rw [← hL] at KO OO hfl
          clear hL hkl hoo hob
          cases pv
          · have hx0 := (KO.out.ext.trans (Ext.refl wr))
            have z0 : wr.cell? ⟨w3.heap.size, 0, none⟩ = some (.int .i64 b) := cell_at wr hx0 rfl
            have z1 : wr.cell? ⟨w3.heap.size, 1, none⟩ = some (.int .i64 a) := cell_at wr hx0 rfl
            clear hx0
            go_wp2_with ((at_builtin; refine wpList_append_sl (α := Edge) rfl (.tmp 79) (.tmp 81) rfl (w3.heap.size + 1 + 1) _ L rfl ?_ (.slice (some ⟨_, 0, none⟩) 1 1) [Edge.mk b a] rfl ?_ ?_ ?_ ?_; exact (OO.out.ext (by repeat (first | exact Ext.refl _ | assumption | refine Ext.alloc ?_ _ | refine Ext.drew ?_ | refine Ext.drewN ?_ _))); exact (by (first | exact Sl.litAt _ _ rfl [Edge.mk b a] (by simp) | exact Sl.litAt _ _ (by simp) [Edge.mk b a] (by simp) | exact Sl.drew (Sl.litAt _ _ rfl [Edge.mk b a] (by simp)) | exact Sl.drew (Sl.litAt _ _ (by simp) [Edge.mk b a] (by simp)))); (first | omega | (simp; omega)); exact (by first | (simp; done) | (simp; omega)); intro v2 W2 ho2 ha2; obtain ⟨ao2, n2, c2, rfl⟩ := ho2.sh; have K2 := Lib.hid (KO.out.step ((by repeat (first | exact Ext.refl _ | assumption | refine Ext.alloc ?_ _ | refine Ext.drew ?_ | refine Ext.drewN ?_ _))) ha2.below ho2); have O2 := Lib.hid (ho2.set (d := ⟨w3.heap.size + 1, 1, none⟩) (by simp) (.slice ao2 n2 c2)); have X2 := Lib.hid (KO.out.far ((by repeat (first | exact Ext.refl _ | assumption | refine Ext.alloc ?_ _ | refine Ext.drew ?_ | refine Ext.drewN ?_ _))) ha2.below); obtain ⟨ao', n', c', ⟨k0, k1⟩, m0, m1⟩ := KO.out.open ((by repeat (first | exact Ext.refl _ | assumption | refine Ext.alloc ?_ _ | refine Ext.drew ?_ | refine Ext.drewN ?_ _))) ha2.below; clear ho2 ha2; obtain ⟨⟨i0, i1⟩, ⟨j0, j1⟩, l0, l1⟩ := HK.out W2 (y3.trans (Ext.trans ((Ext.refl w3).alloc _) X2.out))))
            exact bodyPost_ret (v := .tuple #[.agg #[.int .i64 N, .slice ao2 n2 c2], .int .i64 0]) (by simp [results, Try.results11, go_sem, j0, j1]) rfl ⟨_, rfl, by rw [← outL_end' HP.out, ← HOL.out, HB.out]; exact ((O2.out.set (by simp; omega) _).set (by simp; omega) _).sl, below_set (below_set (Ext.trans (ext_two w _ _) (y3.trans (Ext.trans ((Ext.refl w3).alloc _) K2.out.ext))) (by simp) _) (by simp) _⟩
          · go_wp2
            exact bodyPost_ret (v := .tuple #[.agg #[.int .i64 N, .slice ao n cq], .int .i64 0]) (by simp [results, Try.results11, go_sem, j0, j1]) rfl ⟨_, rfl, by rw [← outL_end HP.out, ← HOL.out]; exact ((OO.out.set (by simp; omega) _).set (by simp; omega) _).sl, below_set (below_set (Ext.trans (ext_two w _ _) yr) (by simp) _) (by simp) _⟩

end Go.Proofs.Ytanflbjbcncklaa
