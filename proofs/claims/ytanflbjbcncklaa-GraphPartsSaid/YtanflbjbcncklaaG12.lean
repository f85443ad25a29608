/- The document's answers: a graph without an edge, and with one. -/
import Derived.Test.YtanflbjbcncklaaG11
namespace Go.Proofs.Ytanflbjbcncklaa
open Go.RowKit

/-- The graph that is built, at block O: all that was there ahead of it (in w) is as it was. -/
structure OutAt (w : World) (O : Nat) (N : Int) (L : List Edge) (wr : World) : Prop where
  ext : Ext w wr
  low : w.heap.size ≤ O
  blk : ∃ ao n c, wr.heap[O]? = some (.cells #[.int .i64 N, .slice ao n c] 24 (0, 0)) ∧ Ow wr (O + 1) (.slice ao n c) L

theorem OutAt.start (w : World) (N : Int) : OutAt w w.heap.size N [] (w.alloc (.cells #[.int .i64 N, .slice none 0 0] 24)) :=
  ⟨(Ext.refl w).alloc _, Nat.le_refl _, none, 0, 0, get_alloc_new _ _, Ow.nil _ _⟩
theorem OutAt.more {w wr W : World} {O : Nat} {N : Int} {L : List Edge} (h : OutAt w O N L wr) (x : Ext wr W) : OutAt w O N L W := by
  obtain ⟨ao, n, c, hb, ho⟩ := h.blk
  exact ⟨h.ext.trans x, h.low, ao, n, c, (x.block O (blk_lt hb)).trans hb, ho.ext x⟩
theorem OutAt.step {w wr W1 W2 : World} {O : Nat} {N : Int} {L M : List Edge} {ao : Option Addr} {n c : Nat} (h : OutAt w O N L wr) (x : Ext wr W1) (b : Below (O + 1) W1 W2) (ho : Ow W2 (O + 1) (.slice ao n c) M) :
    OutAt w O N M (W2.setCell ⟨O, 1, none⟩ (.slice ao n c)) := by
  obtain ⟨a, m, d, hb, _⟩ := (h.more x).blk
  have hb2 := (b.block O (by omega)).trans hb
  exact ⟨below_set (Below.trans (h.more x).ext (b.mono (by have := h.low; omega))) h.low _, h.low, ao, n, c, by rw [blk_set hb2]; rfl, ho.set (by simp) _⟩
/-- What a store into it asks. -/
theorem OutAt.open {w wr W1 W2 : World} {O : Nat} {N : Int} {L : List Edge} (h : OutAt w O N L wr) (x : Ext wr W1) (b : Below (O + 1) W1 W2) :
    ∃ ao n c, (W2.cell? ⟨O, 0, none⟩ = some (.int .i64 N) ∧ W2.cell? ⟨O, 1, none⟩ = some (.slice ao n c)) ∧ W2.frozen? ⟨O, 0, none⟩ = false ∧ W2.frozen? ⟨O, 1, none⟩ = false := by
  obtain ⟨a, m, d, hb, _⟩ := (h.more x).blk
  have hb2 := (b.block O (by omega)).trans hb
  exact ⟨a, m, d, ⟨blk_cell hb2 0 rfl, blk_cell hb2 1 rfl⟩, blk_free hb2 0, blk_free hb2 1⟩

theorem btw_lt {a b : Int} (h : a < b) : btw a b = ⟨a, b⟩ := by simp only [btw, Edge.mk.injEq]; omega
theorem btw_gt {a b : Int} (h : b < a) : btw a b = ⟨b, a⟩ := by simp only [btw, Edge.mk.injEq]; omega

set_option maxHeartbeats 2000000 in
theorem refRemove_yes (w : World) (N : Int) (v : Value) (E : List Edge) (a b : Int) (h : Sl w v E) (hr : remR N E a b = 0) :
    Calls Try.prog 13 #[.agg #[.int .i64 N, v], .int .i64 a, .int .i64 b] w (GivesG w N (E.filter fun e => e != btw a b) 0) := by
  have he : ends N E a b = 0 := by
    rcases Classical.em (ends N E a b = 0) with he | he
    · exact he
    · unfold remR at hr; rwa [if_neg he] at hr
  have ok : OkG N E := by
    rcases Classical.em (OkG N E) with o | o
    · exact o
    · rw [ends_bad o] at he; omega
  unfold remR at hr
  rw [if_pos he] at hr
  rw [ends_ok ok] at he
  have hd : badEnds N a b = false := by
    cases e : badEnds N a b with
    | false => rfl
    | true => rw [e] at he; simp at he
  have hab : a ≠ b := fun e => by rw [e] at hd; simp [badEnds] at hd
  have HC := Lib.hid (okG_iff.2 ok)
  have HD : Hid ((!badEnds N a b) = true) := Lib.hid (by rw [hd]; rfl)
  have hm : btw a b ∈ E := by
    rcases Classical.em (btw a b ∈ E) with hm | hm
    · exact hm
    · rw [if_neg hm] at hr; omega
  have HM := Lib.hid (decide_eq_true hm)
  have hpos : 0 < E.length := List.length_pos_iff.2 (fun e => by rw [e] at hm; simp at hm)
  have hfew := ok.few
  have hcells := h.edges
  rcases hcells with ⟨e, _⟩ | ⟨q, off, c, rfl, hc, hc63, hb, _, hcell⟩
  · rw [e] at hpos; simp at hpos
  have HS := Lib.hid (h.ext (ext_two w (.cells #[.int .i64 N, .slice (some ⟨q, off, none⟩) E.length c] 24) (.cells #[.int .i64 0, .slice none 0 0] 24)))
  have HK := Lib.hid (two_graphs w N (.slice (some ⟨q, off, none⟩) E.length c))
  have HL := Lib.hid hcell
  clear hr he hm hd ok hcell h
  rcases (show a < b ∨ b < a by omega) with hlt | hlt
  · have HB := Lib.hid (btw_lt hlt)
    have hmm : min a b = a := by omega
    have hMM : max a b = b := by omega
    clear hab
    go_enter Try.func13, Try.ntmps13
    go_wp2_with (first
      | (go_at_call 28; refine (refCheck_val _ N _ E (HS.out.ext (by repeat (first | exact Ext.refl _ | assumption | refine Ext.alloc ?_ _ | refine Ext.drew ?_ | refine Ext.drewN ?_ _))) _ HC.out).mono ?_; rintro e w1 ⟨rfl, x1⟩; obtain ⟨⟨p0, p1⟩, ⟨q0, q1⟩, f0, f1⟩ := HK.out w1 x1)
      | (go_at_call 29; refine (refNodes_val _ N _ a b _ HD.out ⟨_, _, _, rfl⟩).mono ?_; rintro e w2 ⟨rfl, x2⟩; have y2 := x1.trans x2; obtain ⟨⟨r0, r1⟩, ⟨s0, s1⟩, g0, g1⟩ := HK.out w2 y2)
      | (go_at_call 30; refine (refHas_val _ N _ E a b (HS.out.ext (by repeat (first | exact Ext.refl _ | assumption | exact Hid.out (by assumption) | refine Ext.alloc ?_ _ | refine Ext.drew ?_ | refine Ext.drewN ?_ _ | refine Ext.trans ?_ (by assumption)))) _ HM.out).mono ?_; rintro e w3 ⟨rfl, x3⟩; have y3 := y2.trans x3; obtain ⟨⟨t0, t1⟩, ⟨u0, u1⟩, h0, h1⟩ := HK.out w3 y3))
    go_loopw [9] (fun i wr => ∃ k : Nat, k ≤ E.length ∧ i = .int .i64 k ∧ Hid (OutAt w3 w3.heap.size N ((E.take k).filter fun e => e != btw a b) wr)) (fun i _ => E.length - (intOf i).toNat)
    case atStart => exact ⟨0, Nat.zero_le _, rfl, Lib.hid (OutAt.start w3 N)⟩
    case round =>
      obtain ⟨k, hk, rfl, HO⟩ := hrel
      have yr := y3.trans HO.out.ext
      obtain ⟨⟨i0, i1⟩, ⟨j0, j1⟩, l0, l1⟩ := HK.out wr yr
      obtain ⟨ao, n, c, hob, hoo⟩ := HO.out.blk
      have o0 : wr.cell? ⟨w3.heap.size, 0, none⟩ = some (.int .i64 N) := blk_cell hob 0 rfl
      have o1 : wr.cell? ⟨w3.heap.size, 1, none⟩ = some (.slice ao n c) := blk_cell hob 1 rfl
      have hw3 := blk_lt hob
      by_cases hlt2 : k < E.length
      · have X := Ext.trans (ext_two w _ _) yr
        have hya := (X.cell (p := ⟨q, off + k * 2, none⟩) hb).trans (HL.out k hlt2).1
        have hyb := (X.cell (p := ⟨q, off + k * 2 + 1, none⟩) hb).trans (HL.out k hlt2).2
        obtain ⟨⟨ya, yb⟩, hy⟩ : ∃ y, y = E.getD k ⟨0, 0⟩ := ⟨_, rfl⟩
        rw [← hy] at hya hyb
        have HN : Hid ((E.take (k + 1)).filter (fun e => e != btw a b) = (E.take k).filter (fun e => e != btw a b) ++ (if ((⟨ya, yb⟩ : Edge) != btw a b) = true then [⟨ya, yb⟩] else [])) := Lib.hid (by rw [filter_next _ hlt2 ⟨0, 0⟩, ← hy])
        clear hy X
        have r1 : (wr.alloc (.cells #[.int .i64 ya, .int .i64 yb] 40)).cell? ⟨w3.heap.size, 1, none⟩ = some (.slice ao n c) := (World.cell?_alloc_past _ _ _ (by simpa using hw3)).trans o1
        obtain ⟨L, hL⟩ : ∃ L, L = (E.take k).filter (fun e => e != btw a b) := ⟨_, rfl⟩
        have hLl : L.length ≤ 1000 := by
          have := List.length_filter_le (fun e => e != btw a b) (E.take k)
          rw [← hL] at this
          simp at this
          omega
        rw [← hL] at HO HN hoo
        have OO := Lib.hid hoo
        clear hL hoo hob
        by_cases h0 : (⟨ya, yb⟩ : Edge) = btw a b
        · have H0 := Lib.hid h0
          rw [HB.out, Edge.mk.injEq] at h0
          obtain ⟨h1, h2⟩ := h0
          have e1 : (ya != a) = false := by simp [h1]
          have e2 : (yb != b) = false := by simp [h2]
          clear h1 h2
          go_wp2
          go_roundw
          case rel => exact ⟨k + 1, by omega, by go_num, Lib.hid (by rw [HN.out, H0.out]; simpa using HO.out.more ((Ext.refl wr).alloc _))⟩
          case measure => simp [intOf]; omega
        · have H0 : Hid (((⟨ya, yb⟩ : Edge) != btw a b) = true) := Lib.hid (by simpa using h0)
          rw [HB.out, Edge.mk.injEq] at h0
          have hcase : ya ≠ a ∨ (ya = a ∧ yb ≠ b) := by
            rcases Classical.em (ya = a) with e | e
            · exact .inr ⟨e, fun e' => h0 ⟨e, e'⟩⟩
            · exact .inl e
          rcases hcase with h1 | ⟨h1, h2⟩
          all_goals
            first
            | have e1 : (ya != a) = true := by simp [h1]; done
            | (have e1 : (ya != a) = false := by simp [h1]
               have e2 : (yb != b) = true := by simp [h2])
            clear h0
            try clear h2
            clear h1
            go_wp2_with ((at_builtin; refine wpList_append_sl (α := Edge) rfl (.tmp 57) (.tmp 59) rfl (w3.heap.size + 1) _ L rfl ?_ (.slice (some ⟨_, 0, none⟩) 1 1) [Edge.mk ya yb] rfl ?_ ?_ ?_ ?_; exact ((OO.out.alloc _).alloc _); exact (Sl.litAt _ _ (by simp) [Edge.mk ya yb] (by simp)); (first | omega | (simp; omega)); (simp; omega); intro v2 W2 ho2 ha2; obtain ⟨ao2, n2, c2, rfl⟩ := ho2.sh; have O2 := Lib.hid ho2; have B2 := Lib.hid ha2.below; obtain ⟨ao', n', c', ⟨k0, k1⟩, m0, m1⟩ := HO.out.open (((Ext.refl wr).alloc _).alloc _) ha2.below; clear ho2 ha2))
            go_roundw
            case rel => exact ⟨k + 1, by omega, by go_num, Lib.hid (by rw [HN.out, if_pos H0.out]; exact HO.out.step (((Ext.refl wr).alloc _).alloc _) B2.out O2.out)⟩
            case measure => simp [intOf]; omega
      · have hkl : k = E.length := by omega
        have hoo' := hoo
        rw [hkl, List.take_length] at hoo'
        have OO := Lib.hid hoo'
        clear hoo hoo' hob hkl
        go_wp2
        have hz := y3.size
        rw [size_alloc, size_alloc] at hz
        exact bodyPost_ret (v := .tuple #[.agg #[.int .i64 N, .slice ao n c], .int .i64 0]) (by simp [results, Try.results13, go_sem, j0, j1]) rfl ⟨_, rfl, ((OO.out.set (by simp; omega) _).set (by simp; omega) _).sl, below_set (below_set (Ext.trans (ext_two w _ _) yr) (by simp) _) (by simp) _⟩
  · have HB := Lib.hid (btw_gt hlt)
    have hmm : min a b = b := by omega
    have hMM : max a b = a := by omega
    clear hab
    go_enter Try.func13, Try.ntmps13
    go_wp2_with (first
      | (go_at_call 28; refine (refCheck_val _ N _ E (HS.out.ext (by repeat (first | exact Ext.refl _ | assumption | refine Ext.alloc ?_ _ | refine Ext.drew ?_ | refine Ext.drewN ?_ _))) _ HC.out).mono ?_; rintro e w1 ⟨rfl, x1⟩; obtain ⟨⟨p0, p1⟩, ⟨q0, q1⟩, f0, f1⟩ := HK.out w1 x1)
      | (go_at_call 29; refine (refNodes_val _ N _ a b _ HD.out ⟨_, _, _, rfl⟩).mono ?_; rintro e w2 ⟨rfl, x2⟩; have y2 := x1.trans x2; obtain ⟨⟨r0, r1⟩, ⟨s0, s1⟩, g0, g1⟩ := HK.out w2 y2)
      | (go_at_call 30; refine (refHas_val _ N _ E a b (HS.out.ext (by repeat (first | exact Ext.refl _ | assumption | exact Hid.out (by assumption) | refine Ext.alloc ?_ _ | refine Ext.drew ?_ | refine Ext.drewN ?_ _ | refine Ext.trans ?_ (by assumption)))) _ HM.out).mono ?_; rintro e w3 ⟨rfl, x3⟩; have y3 := y2.trans x3; obtain ⟨⟨t0, t1⟩, ⟨u0, u1⟩, h0, h1⟩ := HK.out w3 y3))
    go_loopw [9] (fun i wr => ∃ k : Nat, k ≤ E.length ∧ i = .int .i64 k ∧ Hid (OutAt w3 w3.heap.size N ((E.take k).filter fun e => e != btw a b) wr)) (fun i _ => E.length - (intOf i).toNat)
    case atStart => exact ⟨0, Nat.zero_le _, rfl, Lib.hid (OutAt.start w3 N)⟩
    case round =>
      obtain ⟨k, hk, rfl, HO⟩ := hrel
      have yr := y3.trans HO.out.ext
      obtain ⟨⟨i0, i1⟩, ⟨j0, j1⟩, l0, l1⟩ := HK.out wr yr
      obtain ⟨ao, n, c, hob, hoo⟩ := HO.out.blk
      have o0 : wr.cell? ⟨w3.heap.size, 0, none⟩ = some (.int .i64 N) := blk_cell hob 0 rfl
      have o1 : wr.cell? ⟨w3.heap.size, 1, none⟩ = some (.slice ao n c) := blk_cell hob 1 rfl
      have hw3 := blk_lt hob
      by_cases hlt2 : k < E.length
      · have X := Ext.trans (ext_two w _ _) yr
        have hya := (X.cell (p := ⟨q, off + k * 2, none⟩) hb).trans (HL.out k hlt2).1
        have hyb := (X.cell (p := ⟨q, off + k * 2 + 1, none⟩) hb).trans (HL.out k hlt2).2
        obtain ⟨⟨ya, yb⟩, hy⟩ : ∃ y, y = E.getD k ⟨0, 0⟩ := ⟨_, rfl⟩
        rw [← hy] at hya hyb
        have HN : Hid ((E.take (k + 1)).filter (fun e => e != btw a b) = (E.take k).filter (fun e => e != btw a b) ++ (if ((⟨ya, yb⟩ : Edge) != btw a b) = true then [⟨ya, yb⟩] else [])) := Lib.hid (by rw [filter_next _ hlt2 ⟨0, 0⟩, ← hy])
        clear hy X
        have r1 : (wr.alloc (.cells #[.int .i64 ya, .int .i64 yb] 40)).cell? ⟨w3.heap.size, 1, none⟩ = some (.slice ao n c) := (World.cell?_alloc_past _ _ _ (by simpa using hw3)).trans o1
        obtain ⟨L, hL⟩ : ∃ L, L = (E.take k).filter (fun e => e != btw a b) := ⟨_, rfl⟩
        have hLl : L.length ≤ 1000 := by
          have := List.length_filter_le (fun e => e != btw a b) (E.take k)
          rw [← hL] at this
          simp at this
          omega
        rw [← hL] at HO HN hoo
        have OO := Lib.hid hoo
        clear hL hoo hob
        by_cases h0 : (⟨ya, yb⟩ : Edge) = btw a b
        · have H0 := Lib.hid h0
          rw [HB.out, Edge.mk.injEq] at h0
          obtain ⟨h1, h2⟩ := h0
          have e1 : (ya != b) = false := by simp [h1]
          have e2 : (yb != a) = false := by simp [h2]
          clear h1 h2
          go_wp2
          go_roundw
          case rel => exact ⟨k + 1, by omega, by go_num, Lib.hid (by rw [HN.out, H0.out]; simpa using HO.out.more ((Ext.refl wr).alloc _))⟩
          case measure => simp [intOf]; omega
        · have H0 : Hid (((⟨ya, yb⟩ : Edge) != btw a b) = true) := Lib.hid (by simpa using h0)
          rw [HB.out, Edge.mk.injEq] at h0
          have hcase : ya ≠ b ∨ (ya = b ∧ yb ≠ a) := by
            rcases Classical.em (ya = b) with e | e
            · exact .inr ⟨e, fun e' => h0 ⟨e, e'⟩⟩
            · exact .inl e
          rcases hcase with h1 | ⟨h1, h2⟩
          all_goals
            first
            | have e1 : (ya != b) = true := by simp [h1]; done
            | (have e1 : (ya != b) = false := by simp [h1]
               have e2 : (yb != a) = true := by simp [h2])
            clear h0
            try clear h2
            clear h1
            go_wp2_with ((at_builtin; refine wpList_append_sl (α := Edge) rfl (.tmp 57) (.tmp 59) rfl (w3.heap.size + 1) _ L rfl ?_ (.slice (some ⟨_, 0, none⟩) 1 1) [Edge.mk ya yb] rfl ?_ ?_ ?_ ?_; exact ((OO.out.alloc _).alloc _); exact (Sl.litAt _ _ (by simp) [Edge.mk ya yb] (by simp)); (first | omega | (simp; omega)); (simp; omega); intro v2 W2 ho2 ha2; obtain ⟨ao2, n2, c2, rfl⟩ := ho2.sh; have O2 := Lib.hid ho2; have B2 := Lib.hid ha2.below; obtain ⟨ao', n', c', ⟨k0, k1⟩, m0, m1⟩ := HO.out.open (((Ext.refl wr).alloc _).alloc _) ha2.below; clear ho2 ha2))
            go_roundw
            case rel => exact ⟨k + 1, by omega, by go_num, Lib.hid (by rw [HN.out, if_pos H0.out]; exact HO.out.step (((Ext.refl wr).alloc _).alloc _) B2.out O2.out)⟩
            case measure => simp [intOf]; omega
      · have hkl : k = E.length := by omega
        have hoo' := hoo
        rw [hkl, List.take_length] at hoo'
        have OO := Lib.hid hoo'
        clear hoo hoo' hob hkl
        go_wp2
        have hz := y3.size
        rw [size_alloc, size_alloc] at hz
        exact bodyPost_ret (v := .tuple #[.agg #[.int .i64 N, .slice ao n c], .int .i64 0]) (by simp [results, Try.results13, go_sem, j0, j1]) rfl ⟨_, rfl, ((OO.out.set (by simp; omega) _).set (by simp; omega) _).sl, below_set (below_set (Ext.trans (ext_two w _ _) yr) (by simp) _) (by simp) _⟩

end Go.Proofs.Ytanflbjbcncklaa
