/- NetCounts: there is one more, one less, or as many. -/
import Derived.Test.YtjnnfnmapigagaaNX
namespace Go.Proofs.Ytjnnfnmapigagaa
open Go.RowKit

theorem want_cases (S : NetS) (y : Act8) : (actB S y = false ∧ wantN S y = ((S.f y.a y.b).length : Int)) ∨ (actB S y = true ∧ y.k = 0 ∧ wantN S y = ((S.f y.a y.b).length : Int) + 1) ∨ (actB S y = true ∧ y.k = 2 ∧ wantN S y = ((S.f y.a y.b).length : Int) + 1) ∨
    (actB S y = true ∧ y.k = 1 ∧ wantN S y = ((S.f y.a y.b).length : Int) - 1) ∨ (actB S y = true ∧ ¬ y.k = 0 ∧ ¬ y.k = 1 ∧ ¬ y.k = 2 ∧ wantN S y = ((S.f y.a y.b).length : Int)) := by
  unfold wantN
  cases hr : actB S y
  · left; simp
  · right
    by_cases h0 : y.k = 0
    · left; simp [h0]
    · by_cases h2 : y.k = 2
      · right; left; simp [h2]
      · by_cases h1 : y.k = 1
        · right; right; left; simp [h1]
        · right; right; right; simp [h0, h1, h2]

set_option maxRecDepth 100000 in
set_option maxHeartbeats 16000000 in
theorem counts_short (w : World) (v : Value) (l : List Act8) (h : Sl w v l) (hx : ∀ y ∈ l, -9223372036854775808 ≤ y.x ∧ y.x ≤ 9223372036854775807) (n room : Int) :
    Calls Try.prog 5 #[.int .i64 n, .int .i64 room, v] w (GivesB w (.bool true)) := by
  have hlen := h.length_le
  have HS := Lib.hid h
  obtain ⟨ao, c, rfl⟩ := h.len
  clear h
  go_enter Try.func5, Try.ntmps5
  go_wp2_with fail
  refine (pNew w n room).mono ?_
  rintro e w0 ⟨p, F0, rfl, n0, hf0, x0⟩
  have N0 : Hid (Net1 w w0 p (NetS.new n room) F0) := Lib.hid ⟨n0, hf0, x0⟩
  clear n0 hf0 x0
  go_wp2_with fail
  refine (awake_any w0).mono ?_
  rintro e w1 ⟨rfl, x1⟩
  have N1 := Lib.hid (N0.out.ext x1)
  clear x1 N0
  go_wp2_with fail
  refine (few_any w1 _ l (HS.out.ext N1.out.2.2)).mono ?_
  rintro e w2 ⟨r, rfl, hr, rfl⟩
  cases r
  · clear hr
    go_wp2_with (first
      | (go_at_call 10; refine (awake_any w1).mono ?_; rintro e w2 ⟨rfl, x2⟩; have X2 := Lib.hid (Ext.trans N1.out.2.2 x2); clear x2))
    go_ret
    exact ⟨rfl, X2.out⟩
  · have HR := Lib.hid (hr rfl)
    have HRM := Lib.hid (new_room n room)
    clear hr
    go_wp2
    go_loopw [8] (fun i wr => ∃ (k : Nat) (S : NetS) (F : Nat → Prop), k ≤ l.length ∧ i = .int .i64 (k : Int) ∧ Hid (Net1 w wr p S F ∧ S.room = (NetS.new n room).room)) (fun i _ => l.length - (intOf i).toNat)
    case atStart => exact ⟨0, _, _, Nat.zero_le _, rfl, Lib.hid ⟨N1.out, rfl⟩⟩
    case round =>
      obtain ⟨k, S, F, hk, rfl, HN⟩ := hrel
      by_cases hlt : k < l.length
      · obtain ⟨b, off, rfl, _, hcl, hat⟩ := act_here HS.out HN.out.1.2.2 hlt
        have hm : l.getD k dA ∈ l := by simp [hlt]
        have hx2 := hx _ hm
        have hs2 := HR.out.2 _ hm
        obtain ⟨Y, hY⟩ : ∃ Y, Y = l.getD k dA := ⟨_, rfl⟩
        rw [← hY] at hat hx2 hs2
        clear hY hm
        obtain ⟨yk, ya, yb, yn, yx, ys⟩ := Y
        obtain ⟨c0, c1, c2, c3, c4, c5⟩ := hat
        dsimp only at c0 c1 c2 c3 c4 c5 hx2 hs2
        have hkc : (k : Int) ≤ (c : Int) := by omega
        have hcells : ∀ k, F k → k < wr.heap.size := HN.out.1.1.low
        have hok := HN.out.1.1.ok
        have hL1 := hok.few ya yb
        have hL2 := hok.rooms
        go_wp2_with fail
        (refine wp_region_X_lit (K := fun W => W.heap[wr.heap.size]? = some (.cells #[.int .i64 yk, .int .i64 ya, .int .i64 yb, .int .i64 yn, .int .i64 yx, .string ys] 32)) (by kernel_rfl) (fun w1 hw1 => ?_))
        have hb1 := box1 (W := w1) (w := wr) (hw1.mono (by rw [size_alloc]; exact Nat.le_refl _))
        have N4 := Lib.hid (HN.out.1.ext (Ext.trans ((Ext.refl wr).alloc _) hw1))
        have hnF : ¬ F wr.heap.size := fun h => Nat.lt_irrefl _ (hcells _ h)
        have hs1 := blk_lt hb1
        clear hw1
        (refine xtakeV 0 (v := ?_) (by simp only [List.getElem?_toArray, List.getElem?_cons, reduceIte]; rfl) (by kernel_rfl) (by rfl) (fun w' hw' => ?_) ?_; rotate_left; focus (skip; go_simp; first | done | with_reducible rfl)); (simp only [Act.put, List.setIfInBounds_toArray, List.set])
        (refine xtakeV 1 (v := ?_) (by simp only [List.getElem?_toArray, List.getElem?_cons, reduceIte]; rfl) (by kernel_rfl) (by rfl) (fun w' hw' => ?_) ?_; rotate_left; focus (skip; go_simp; first | done | with_reducible rfl)); (simp only [Act.put, List.setIfInBounds_toArray, List.set])
        (refine xtakeV 2 (v := ?_) (by simp only [List.getElem?_toArray, List.getElem?_cons, reduceIte]; rfl) (by kernel_rfl) (by rfl) (fun w' hw' => ?_) ?_; rotate_left; focus (have hc := cells6 hw'; go_simp; first | done | with_reducible rfl)); (simp only [Act.put, List.setIfInBounds_toArray, List.set])
        (refine xtakeV 3 (v := ?_) (by simp only [List.getElem?_toArray, List.getElem?_cons, reduceIte]; rfl) (by kernel_rfl) (by rfl) (fun w' hw' => ?_) ?_; rotate_left; focus (skip; go_simp; first | done | with_reducible rfl)); (simp only [Act.put, List.setIfInBounds_toArray, List.set])
        (refine xtakeV 4 (v := ?_) (by simp only [List.getElem?_toArray, List.getElem?_cons, reduceIte]; rfl) (by kernel_rfl) (by rfl) (fun w' hw' => ?_) ?_; rotate_left; focus (have hc := cells6 hw'; go_simp; first | done | with_reducible rfl)); (simp only [Act.put, List.setIfInBounds_toArray, List.set])
        (refine xtakeV 6 (v := ?_) (by simp only [List.getElem?_toArray, List.getElem?_cons, reduceIte]; rfl) (by kernel_rfl) (by rfl) (fun w' hw' => ?_) ?_; rotate_left; focus (skip; go_simp; first | done | with_reducible rfl)); (simp only [Act.put, List.setIfInBounds_toArray, List.set])
        (refine xtakeV 7 (v := ?_) (by simp only [List.getElem?_toArray, List.getElem?_cons, reduceIte]; rfl) (by kernel_rfl) (by rfl) (fun w' hw' => ?_) ?_; rotate_left; focus (skip; go_simp; first | done | with_reducible rfl)); (simp only [Act.put, List.setIfInBounds_toArray, List.set])
        (refine xtakeV 8 (v := ?_) (by simp only [List.getElem?_toArray, List.getElem?_cons, reduceIte]; rfl) (by kernel_rfl) (by rfl) (fun w' hw' => ?_) ?_; rotate_left; focus (have hc := cells6 hw'; go_simp; first | done | with_reducible rfl)); (simp only [Act.put, List.setIfInBounds_toArray, List.set])
        (refine xtakeV 9 (v := ?_) (by simp only [List.getElem?_toArray, List.getElem?_cons, reduceIte]; rfl) (by kernel_rfl) (by rfl) (fun w' hw' => ?_) ?_; rotate_left; focus (skip; go_simp; first | done | with_reducible rfl)); (simp only [Act.put, List.setIfInBounds_toArray, List.set])
        (refine xtakeV 10 (v := ?_) (by simp only [List.getElem?_toArray, List.getElem?_cons, reduceIte]; rfl) (by kernel_rfl) (by rfl) (fun w' hw' => ?_) ?_; rotate_left; focus (have hc := cells6 hw'; go_simp; first | done | with_reducible rfl)); (simp only [Act.put, List.setIfInBounds_toArray, List.set])
        (refine xone 5 (by kernel_rfl) (hb1) (RunX.of 5 (by simp only [List.getElem?_toArray, List.getElem?_cons, reduceIte]; rfl) (by rfl) ?_))
        go_simp
        refine (pCount N4.out.1 ya yb).mono ?_
        rintro e w3 ⟨F3, rfl, n, o, g⟩
        have hb3 := o.blk hb1 hnF
        have N5 := Lib.hid (N4.out.step n o g)
        have hnF3 : ¬ F3 wr.heap.size := fun h => by rcases g _ h with h1 | h1; exact hnF h1; omega
        clear n o g
        dsimp only
        (try (simp only [Act.put, List.setIfInBounds_toArray, List.set]))
        (refine xone 11 (by kernel_rfl) (hb3) (RunX.of 11 (by simp only [List.getElem?_toArray, List.getElem?_cons, reduceIte]; rfl) (by rfl) ?_))
        go_simp
        refine (pCount N5.out.1 yb ya).mono ?_
        rintro e w4 ⟨F4, rfl, n, o, g⟩
        have hb4 := o.blk hb3 hnF3
        have N6 := Lib.hid (N5.out.step n o g)
        have hs3 := blk_lt hb3
        have hnF4 : ¬ F4 wr.heap.size := fun h => by rcases g _ h with h1 | h1; exact hnF3 h1; omega
        clear n o g
        dsimp only
        (try (simp only [Act.put, List.setIfInBounds_toArray, List.set]))
        (refine xone 12 (by kernel_rfl) (hb4) (RunX.of 12 (by simp only [List.getElem?_toArray, List.getElem?_cons, reduceIte]; rfl) (by rfl) ?_))
        go_simp
        (refine xone 13 (by kernel_rfl) (hb4) (RunX.of 13 (by simp only [List.getElem?_toArray, List.getElem?_cons, reduceIte]; rfl) (by rfl) ?_))
        go_simp
        (refine xdone (by kernel_rfl) (hb4) ?_)
        have cA := act_any N6.out.1 ⟨yk, ya, yb, yn, yx, ys⟩ (by dsimp only; omega) hx2.1 hx2.2
        have hw := want_cases S ⟨yk, ya, yb, yn, yx, ys⟩
        have hl := act_len S ⟨yk, ya, yb, yn, yx, ys⟩
        have hbk := fun h' => act_back (y := ⟨yk, ya, yb, yn, yx, ys⟩) hok h'
        have hrm := act_room S ⟨yk, ya, yb, yn, yx, ys⟩
        rw [HN.out.2] at hrm
        have hfew : (actS S ⟨yk, ya, yb, yn, yx, ys⟩).Ok → ((actS S ⟨yk, ya, yb, yn, yx, ys⟩).f ya yb).length ≤ (NetS.new n room).room := fun h' => by have := h'.few ya yb; rw [hrm] at this; exact this
        dsimp only at cA hw hl hbk
        obtain ⟨S', hS'⟩ : ∃ S', S' = actS S ⟨yk, ya, yb, yn, yx, ys⟩ := ⟨_, rfl⟩
        obtain ⟨T, hT⟩ : ∃ T, T = actT S ⟨yk, ya, yb, yn, yx, ys⟩ := ⟨_, rfl⟩
        obtain ⟨R, hR⟩ : ∃ R, R = actB S ⟨yk, ya, yb, yn, yx, ys⟩ := ⟨_, rfl⟩
        obtain ⟨WN, hWN⟩ : ∃ WN, WN = wantN S ⟨yk, ya, yb, yn, yx, ys⟩ := ⟨_, rfl⟩
        rw [← hS'] at cA hl hbk hrm hfew
        rw [← hT] at cA
        rw [← hR] at cA hw
        rw [← hWN] at hw hl
        clear hS' hT hR hWN
        have hM2 : ∀ W F, NAt W p S' F → Calls Try.prog 19 #[.pointer (some ⟨p, 0, none⟩), .int .i64 yb, .int .i64 ya] W (Moves p S' F (.int .i64 ((S.f yb ya).length : Int)) W) := fun W F n => by have := pCount n yb ya; rw [hbk n.ok] at this; exact this
        have HM2 := Lib.hid hM2
        have HFEW := Lib.hid hfew
        have HRM2 := Lib.hid hrm
        obtain ⟨L, hL⟩ : ∃ L, L = (S.f ya yb).length := ⟨_, rfl⟩
        obtain ⟨M, hM⟩ : ∃ M, M = (S.f yb ya).length := ⟨_, rfl⟩
        rw [← hL] at hw hL1 ⊢
        rw [← hM] at HM2 ⊢
        have HL := Lib.hid hl
        have HCA := Lib.hid cA
        have hL3 : L ≤ 1000 := by omega
        obtain ⟨L', hL'⟩ : ∃ L', L' = (S'.f ya yb).length := ⟨_, rfl⟩
        rw [← hL'] at hl HFEW
        have HC1 : Hid (∀ W F, NAt W p S' F → Calls Try.prog 19 #[.pointer (some ⟨p, 0, none⟩), .int .i64 ya, .int .i64 yb] W (Moves p S' F (.int .i64 (L' : Int)) W)) := Lib.hid (fun W F n => by rw [hL']; exact pCount n ya yb)
        have hq4 := cells6 hb4
        clear hM2 hfew hrm hbk cA hL hM hL' HL hb1 hb3 hok hL2 hL1 c0 c1 c2 c3 c4 c5
        have hwp : IntKind.i64.wrap ((L : Int) + 1) = (L : Int) + 1 := IntWalk.i64_in _ (by omega)
        have hwm : IntKind.i64.wrap ((L : Int) - 1) = (L : Int) - 1 := IntWalk.i64_in _ (by omega)
        clear hx2 hs2 hx
        rcases hw with ⟨rfl, e1⟩ | ⟨rfl, rfl, e1⟩ | ⟨rfl, rfl, e1⟩ | ⟨rfl, rfl, e1⟩ | ⟨rfl, h0, h1, h2, e1⟩
        all_goals
          try have b0 : (yk == 0) = false := beq_eq_false_iff_ne.2 h0
          try have b1 : (yk == 1) = false := beq_eq_false_iff_ne.2 h1
          try have b2 : (yk == 2) = false := beq_eq_false_iff_ne.2 h2
          rw [e1] at hl
          clear e1
          replace hl := Lib.hid hl
          go_wp2_with (first
            | (go_at_call 13; refine HCA.out.mono ?_; rintro e w5 ⟨F5, rfl, n, o, g⟩; have hb5 := o.blk hb4 hnF4; have hq5 := cells6 hb5; have N7 := Lib.hid (N6.out.step n o g); have hs4 := blk_lt hb4; have hnF5 : ¬ F5 wr.heap.size := fun h => (by rcases g _ h with h1 | h1; exact hnF4 h1; omega); have hle : (L' : Int) ≤ max room 0 := (by have := HFEW.out n.ok; have := HRM.out; omega); rw [hl.out] at hle; replace hle := Lib.hid hle; clear n o g)
            | (go_at_call 19; have hgd := gone1; refine (HM2.out _ _ N8.out.1).mono ?_; rintro e w7 ⟨F7, rfl, n, o, g⟩; have N9 := Lib.hid (N8.out.step n o g); have hle2 := hle.out; have hlp : (0 : Int) ≤ (L' : Int) := Int.natCast_nonneg _; rw [hl2] at hlp; clear n o g)
            | (go_at_call 19; refine (HC1.out _ _ N7.out.1).mono ?_; rintro e w6 ⟨F6, rfl, n, o, g⟩; have hb6 := o.blk hb5 hnF5; have hq6 := cells6 hb6; have N8 := Lib.hid (N7.out.step n o g); have gone1 := Lib.hid True.intro; have hl2 := hl.out; clear n o g))
          all_goals first
            | exact ⟨⟨k + 1, S', F7, hlt, by go_num, Lib.hid ⟨N9.out, HRM2.out⟩⟩, by simp [intOf]; omega⟩
            | (exfalso; omega)
      · go_wp2
        go_ret
        exact ⟨rfl, HN.out.1.2.2⟩
end Go.Proofs.Ytjnnfnmapigagaa
