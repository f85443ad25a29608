/- Texts of this seat. -/
import Derived.Laws.EntriesVeiled
import Derived.Test.YtfbambemjokmgaaGreatNAM
namespace Go.Proofs.YtfbambemjokmgaaGreat
open Go.RowKit Go.Sort
theorem take_succ_mem {xs : List Int} {k : Nat} (hk : k < xs.length) (x : Int) : x ∈ xs.take (k + 1) ↔ x ∈ xs.take k ∨ x = xs.getD k 0 := by
  rw [List.take_succ_eq_append_getElem hk, List.mem_append]
  simp [hk]
set_option maxHeartbeats 400000 in
theorem refHas_any (w : World) (v : Value) (xs : List Int) (x : Int) (h : Sl w v xs) :
    Calls Tryz.prog 33 #[v, .int .i64 x] w fun e w' => e = .returned (.bool (decide (x ∈ xs))) ∧ w = w' := by
  rcases h.ints with ⟨rfl, ao, c, rfl⟩ | ⟨b, off, c, rfl, hc, hc63, hb, hpos, hcell⟩
  · go_enter Tryz.func33, Tryz.ntmps33
    go_wp2
    refine wp_loop_rounds 1 ?_
    rw [rounds_succ]
    go_wp2
    go_ret
    exact ⟨by simp, rfl⟩
  · have hlen : xs.length ≤ 9223372036854775807 := by omega
    have HC := Lib.hid hcell
    clear hcell h
    go_enter Tryz.func33, Tryz.ntmps33
    go_wp2
    go_loop [5] (fun i => ∃ k : Nat, k ≤ xs.length ∧ i = .int .i64 k ∧ Hid (x ∉ xs.take k)) (fun i => xs.length - (intOf i).toNat)
    case atStart => exact ⟨0, Nat.zero_le _, rfl, Lib.hid (by simp)⟩
    case round =>
      obtain ⟨k, hk, rfl, hnot⟩ := hrel
      by_cases hlt : k < xs.length
      · have hck := HC.out k hlt
        obtain ⟨y, hy⟩ : ∃ y, y = xs.getD k 0 := ⟨_, rfl⟩
        rw [← hy] at hck
        have HY := Lib.hid hy
        clear hy
        by_cases heq : y = x
        · have hd : (y == x) = true := by simpa using heq
          have HE := Lib.hid heq
          clear heq
          go_wp2
          go_ret
          exact ⟨ret_bool (decide_eq_true (by rw [← HE.out, HY.out]; exact getD_mem hlt 0)).symm, rfl⟩
        · have hd : (y == x) = false := by simpa using heq
          have HE := Lib.hid heq
          clear heq
          go_wp2
          go_round
          case rel => exact ⟨k + 1, by omega, by go_num, Lib.hid (by rw [take_succ_mem hlt, ← HY.out]; intro hh; rcases hh with hh | hh; exact hnot.out hh; exact HE.out hh.symm)⟩
          case measure => simp [intOf]; omega
      · go_wp2
        go_ret
        have hkl : k = xs.length := by omega
        have hn := hnot.out
        rw [hkl, List.take_length] at hn
        exact ⟨ret_bool (decide_eq_false hn).symm, rfl⟩
theorem refHasI_val (w : World) (v : Value) (xs : List Int) (x : Int) (h : Sl w v xs) (r : Bool) (hr : decide (x ∈ xs) = r) : Calls Tryz.prog 33 #[v, .int .i64 x] w fun e w' => e = .returned (.bool r) ∧ w = w' :=
  (refHas_any w v xs x h).mono fun _ _ ⟨he, hw⟩ => ⟨hr ▸ he, hw⟩
theorem take_eq_succ {xs ys : List Int} {k : Nat} (h1 : k < xs.length) (h2 : k < ys.length) : xs.take (k + 1) = ys.take (k + 1) ↔ xs.take k = ys.take k ∧ xs.getD k 0 = ys.getD k 0 := by
  rw [List.take_succ_eq_append_getElem h1, List.take_succ_eq_append_getElem h2]
  have e1 : xs.getD k 0 = xs[k] := by simp [h1]
  have e2 : ys.getD k 0 = ys[k] := by simp [h2]
  rw [e1, e2]
  constructor
  · intro h
    have := List.append_inj h (by simp; omega)
    exact ⟨this.1, by simpa using this.2⟩
  · rintro ⟨ha, hb⟩
    rw [ha, hb]
set_option maxHeartbeats 400000 in
theorem refSame_any (w : World) (v u : Value) (xs ys : List Int) (h : Sl w v xs) (g : Sl w u ys) :
    Calls Tryz.prog 21 #[v, u] w fun e w' => e = .returned (.bool (decide (xs = ys))) ∧ Drew w w' := by
  by_cases hl : xs.length = ys.length
  · rcases h.ints with ⟨rfl, ao, c, rfl⟩ | ⟨b, off, c, rfl, hc, hc63, hb, hpos, hcell⟩
    · have : ys = [] := List.eq_nil_of_length_eq_zero hl.symm
      subst this
      obtain ⟨ao', c', rfl⟩ := g.len
      go_enter Tryz.func21, Tryz.ntmps21
      go_wp2
      refine wp_loop_rounds 1 ?_
      rw [rounds_succ]
      go_wp2
      go_ret
      exact ⟨by simp, Drew.refl _⟩
    · rcases g.ints with ⟨rfl, ao, c, rfl⟩ | ⟨b', off', c', rfl, hc', hc63', hb', hpos', hcell'⟩
      · exact absurd hl (by simp only [List.length_nil]; omega)
      · have hlen : xs.length ≤ 9223372036854775807 := by omega
        have hlen' : ys.length ≤ 9223372036854775807 := by omega
        have hne : ((xs.length : Int) != (ys.length : Int)) = false := by simp [hl]
        have HC := Lib.hid hcell
        have HC' := Lib.hid hcell'
        have HL := Lib.hid hl
        clear hcell h hcell' g hl
        go_enter Tryz.func21, Tryz.ntmps21
        go_wp2
        go_loopw [5] (fun i wr => ∃ k : Nat, k ≤ xs.length ∧ i = .int .i64 k ∧ Hid (xs.take k = ys.take k) ∧ Hid (Drew w wr)) (fun i _ => xs.length - (intOf i).toNat)
        case atStart => exact ⟨0, Nat.zero_le _, rfl, Lib.hid (by simp), Lib.hid (Drew.refl _)⟩
        case round =>
          obtain ⟨k, hk, rfl, HT, HD⟩ := hrel
          by_cases hlt : k < xs.length
          · have hlt' : k < ys.length := by have := HL.out; omega
            have hck := (HD.out.cell ⟨b, off + k, none⟩).trans (HC.out k hlt)
            have hck' := (HD.out.cell ⟨b', off' + k, none⟩).trans (HC'.out k hlt')
            obtain ⟨y, hy⟩ : ∃ y, y = xs.getD k 0 := ⟨_, rfl⟩
            obtain ⟨z, hz⟩ : ∃ z, z = ys.getD k 0 := ⟨_, rfl⟩
            rw [← hy] at hck
            rw [← hz] at hck'
            have HY := Lib.hid hy
            have HZ := Lib.hid hz
            clear hy hz
            by_cases h1 : y = z
            · have hd : (y != z) = false := by simp [h1]
              have H1 := Lib.hid h1
              clear h1
              go_wp2
              go_quiet (fail)
              go_wp2
              go_roundw
              case rel => exact ⟨k + 1, by omega, by go_num, Lib.hid ((take_eq_succ hlt hlt').2 ⟨HT.out, by rw [← HY.out, ← HZ.out]; exact H1.out⟩), Lib.hid (HD.out.more _)⟩
              case measure => simp [intOf]; omega
            · have hd : (y != z) = true := by simp [h1]
              have H1 := Lib.hid h1
              clear h1
              go_wp2
              go_quiet (fail)
              go_wp2
              go_ret
              exact ⟨ret_bool (decide_eq_false (fun e => H1.out (by rw [HY.out, HZ.out, e]))).symm, HD.out.more _⟩
          · go_wp2
            go_ret
            have hkl : k = xs.length := by omega
            have hn := HT.out
            rw [hkl, List.take_length, HL.out, List.take_length] at hn
            exact ⟨ret_bool (decide_eq_true hn).symm, HD.out⟩
  · obtain ⟨ao, c, rfl⟩ := h.len
    obtain ⟨ao', c', rfl⟩ := g.len
    have hlen := h.length_le
    have hlen' := g.length_le
    have hne : ((xs.length : Int) != (ys.length : Int)) = true := by simp; omega
    have HL := Lib.hid hl
    clear hl h g
    go_enter Tryz.func21, Tryz.ntmps21
    go_wp2
    go_ret
    exact ⟨ret_bool (decide_eq_false (fun e => HL.out (by rw [e]))).symm, Drew.refl _⟩
theorem refSame_val (t : Bool) (w : World) (v u : Value) (xs ys : List Int) (h : Sl w v xs) (g : Sl w u ys) (ht : decide (xs = ys) = t) :
    Calls Tryz.prog 21 #[v, u] w fun e w' => e = .returned (.bool t) ∧ Drew w w' :=
  (refSame_any w v u xs ys h g).mono fun _ _ ⟨he, hw⟩ => ⟨ht ▸ he, hw⟩
theorem Sl.sh {α : Type} [Elem α] {w : World} {v : Value} {xs : List α} (h : Sl w v xs) : ∃ ao n c, v = .slice ao n c := by obtain ⟨ao, c, h⟩ := h.len; exact ⟨ao, _, c, h⟩
theorem graph_at (w : World) (N : Int) (v : Value) (V : World) (h : Ext (w.alloc (.cells #[.int .i64 N, v] 53)) V) : V.cell? ⟨w.heap.size, 0, none⟩ = some (.int .i64 N) ∧ V.cell? ⟨w.heap.size, 1, none⟩ = some v := ⟨cell_at V h rfl, cell_at V h rfl⟩
theorem make_ow (w : World) (n : Nat) (hn : n ≤ 1000) :
    ∃ w', (Instr.makeSlice 26 (.int .i64 (n : Int)) (.int .i64 (n : Int))).run Tryz.prog w = .ok (.slice (some ⟨w.heap.size, 0, none⟩) n n) w' ∧ Ow w' w.heap.size (.slice (some ⟨w.heap.size, 0, none⟩) n n) (List.replicate n (0 : Int)) ∧ Ext w w' := by
  obtain ⟨i0, hi, hz0, hz1, hz2⟩ := info_parts (Elem.info (α := Int))
  have hz2 : i0.bytes = 8 := hz2
  obtain ⟨w', h1, h2, h3⟩ := run_make_full (P := Tryz.prog) w w.heap.size 26 (Elem.e Int) i0 (Elem.z Int) (Elem.k Int) (Elem.row (α := Int)) hi hz0 hz1 .i64 .i64 n (by rw [hz2]; omega) (by unfold maxLen; omega) (Nat.le_refl _)
  refine ⟨w', h1, ?_, (Below.refl _ w).grown h3 (Nat.le_refl _) (by simp)⟩
  have e1 : (madeCells (Elem.z Int).cells (n * Elem.k Int)).toList = cellsOf (List.replicate n (0 : Int)) := by
    rw [cells_i]
    show (madeCells #[Value.int .i64 0] (n * 1)).toList = _
    rw [toList_madeCells_one]
    simp
  rw [e1] at h2
  unfold Ow
  simpa using h2
end Go.Proofs.YtfbambemjokmgaaGreat
namespace Go.Proofs.YtfbambemjokmgaaGreat
open Go.RowKit
theorem Sl.edgesAt {w : World} {ao : Option Addr} {n c : Nat} {E : List Edge} (h : Sl w (.slice ao n c) E) {k : Nat} (hk : k < E.length) :
    ∃ b off, ao = some ⟨b, off, none⟩ ∧ n = E.length ∧ n ≤ c ∧ c ≤ 9223372036854775807 ∧ b < w.heap.size ∧ w.cell? ⟨b, off + k * 2, none⟩ = some (.int .i64 (E.getD k ⟨0, 0⟩).a) ∧ w.cell? ⟨b, off + k * 2 + 1, none⟩ = some (.int .i64 (E.getD k ⟨0, 0⟩).b) := by
  rcases h.edges with ⟨rfl, _⟩ | ⟨b, off, c', hv, h1, h2, h3, _, h4⟩
  · simp at hk
  · simp only [Value.slice.injEq] at hv
    obtain ⟨rfl, rfl, rfl⟩ := hv
    exact ⟨b, off, rfl, rfl, h1, h2, h3, (h4 k hk).1, (h4 k hk).2⟩
theorem Sl.intsAt {w : World} {ao : Option Addr} {n c : Nat} {E : List Int} (h : Sl w (.slice ao n c) E) {k : Nat} (hk : k < E.length) :
    ∃ b off, ao = some ⟨b, off, none⟩ ∧ n = E.length ∧ n ≤ c ∧ c ≤ 9223372036854775807 ∧ b < w.heap.size ∧ w.cell? ⟨b, off + k, none⟩ = some (.int .i64 (E.getD k 0)) := by
  rcases h.ints with ⟨rfl, _⟩ | ⟨b, off, c', hv, h1, h2, h3, _, h4⟩
  · simp at hk
  · simp only [Value.slice.injEq] at hv
    obtain ⟨rfl, rfl, rfl⟩ := hv
    exact ⟨b, off, rfl, rfl, h1, h2, h3, h4 k hk⟩
theorem near_tells (w : World) (C : Nat) (x : Int) (hC : C < w.heap.size) (h0 : w.cell? ⟨C, 0, none⟩ = some (.int .i64 x)) : Tells Edge.val w (.func (.func 191) #[] #[.pointer (some ⟨C, 0, none⟩)]) (hits x) :=
  ⟨191, _, rfl, enters_of Tryz.func191 (by kernel_rfl) rfl, fun W ⟨a, b⟩ hW => by
    have k0 : W.cell? ⟨C, 0, none⟩ = some (.int .i64 x) := (hW.cell (p := ⟨C, 0, none⟩) hC).trans h0
    have hC' : C < W.heap.size := Nat.lt_of_lt_of_le hC hW.size
    clear h0 hC hW
    change Calls Tryz.prog _ #[.agg #[.int .i64 a, .int .i64 b], .pointer (some ⟨C, 0, none⟩)] W _
    by_cases e1 : a = x
    · have g1 : (a == x) = true := by simp [e1]
      have E1 := Lib.hid g1
      clear e1
      go_enter Tryz.func191, Tryz.ntmps191
      go_wp2
      go_ret
      exact ⟨ret_bool (by simp only [hits, E1.out]; simp), (by repeat (first | exact Ext.refl _ | assumption | refine Ext.alloc ?_ _ | refine Ext.drew ?_ | refine Ext.drewN ?_ _))⟩
    · have g1 : (a == x) = false := by simp [e1]
      have E1 := Lib.hid g1
      clear e1
      go_enter Tryz.func191, Tryz.ntmps191
      go_wp2
      go_ret
      exact ⟨ret_bool (by simp only [hits, E1.out]; simp), (by repeat (first | exact Ext.refl _ | assumption | refine Ext.alloc ?_ _ | refine Ext.drew ?_ | refine Ext.drewN ?_ _))⟩⟩
set_option maxHeartbeats 1000000 in
theorem near_any (w : World) (N : Int) (v : Value) (E : List Edge) (x : Int) (h : Sl w v E) (ok : OkG N E) :
    Calls Tryz.prog 158 #[.agg #[.int .i64 N, v], .int .i64 x] w (GivesOw w (nearOf E x)) := by
  obtain ⟨ao, c, rfl⟩ := h.len
  have HC := Lib.hid (chk_of ok)
  have hfew := ok.few
  have hX : Ext w ((w.alloc (.cells #[.int .i64 N, .slice ao E.length c] 53)).alloc (.cells #[.int .i64 x] 3)) := ext_two w _ _
  have HS := Lib.hid (h.ext hX)
  have HK : Hid (∀ V, Ext ((w.alloc (.cells #[.int .i64 N, .slice ao E.length c] 53)).alloc (.cells #[.int .i64 x] 3)) V → (V.cell? ⟨w.heap.size, 0, none⟩ = some (.int .i64 N) ∧ V.cell? ⟨w.heap.size, 1, none⟩ = some (.slice ao E.length c)) ∧ V.cell? ⟨w.heap.size + 1, 0, none⟩ = some (.int .i64 x)) := Lib.hid fun V hV => by
    obtain ⟨hA, hB⟩ := box2 (hV.mono (by rw [size_alloc, size_alloc]; omega))
    exact ⟨⟨blk_cell hA 0 rfl, blk_cell hA 1 rfl⟩, blk_cell hB 0 rfl⟩
  clear h ok
  have hmf : ∀ (fn : Fn) (first cap : Array Value) (w : World), (Instr.makeFunc fn first cap).run Tryz.prog w = .ok (.func fn first cap) w := fun _ _ _ _ => rfl
  obtain ⟨K, hKd⟩ : ∃ K, K = E.filter (hits x) := ⟨_, rfl⟩
  have hKl : K.length ≤ 400 := by rw [hKd]; exact Nat.le_trans (List.length_filter_le _ _) hfew
  have HKd := Lib.hid hKd
  clear hKd
  go_enter Tryz.func158, Tryz.ntmps158
  go_wp2_with (first
    | (go_at_call 145; refine (check_any _ N _ E (HS.out.ext (by repeat (first | exact Ext.refl _ | assumption | refine Ext.alloc ?_ _ | refine Ext.drew ?_ | refine Ext.drewN ?_ _))) 0 HC.out).mono ?_; rintro e w1 ⟨rfl, x1⟩; obtain ⟨⟨p0, p1⟩, p2⟩ := HK.out w1 x1)
    | (go_at_call 190; refine (those_e _ N _ _ E _ (HS.out.ext (by repeat (first | exact Ext.refl _ | assumption | exact Hid.out (by assumption) | refine Ext.alloc ?_ _ | refine Ext.drew ?_ | refine Ext.drewN ?_ _ | refine Ext.trans ?_ (by assumption)))) (near_tells _ _ x (by have := x1.size; rw [size_alloc, size_alloc] at this; omega) p2) (by omega)).mono ?_; rintro e w2 ⟨v2, rfl, ho, x2⟩; rw [← HKd.out] at ho; have y2 := x1.trans x2; obtain ⟨ao2, c2, rfl⟩ := ho.sl.len; have O2 := Lib.hid ho.sl; obtain ⟨⟨r0, r1⟩, r2⟩ := HK.out w2 y2; clear ho))
  have hs2 : w.heap.size + 2 ≤ w2.heap.size := by have := y2.size; rw [size_alloc, size_alloc] at this; exact this
  go_loopw [5, 15] (fun q i wr => ∃ k : Nat, k ≤ K.length ∧ i = .int .i64 k ∧ Hid (Ow wr w2.heap.size q (endsOf (K.take k))) ∧ Hid (Ext w2 wr)) (fun _ i _ => K.length - (intOf i).toNat)
  case atStart => exact ⟨0, Nat.zero_le _, rfl, Lib.hid (Ow.nil _ _), Lib.hid (Ext.refl _)⟩
  case round =>
    obtain ⟨k, hk, rfl, HO, HX⟩ := hrel
    by_cases hlt : k < K.length
    · obtain ⟨b, off, hao, hn, hnc, hc63, hb, hya0, hyb0⟩ := O2.out.edgesAt hlt
      subst hao
      have hya := (HX.out.cell (p := ⟨b, off + k * 2, none⟩) hb).trans hya0
      have hyb := (HX.out.cell (p := ⟨b, off + k * 2 + 1, none⟩) hb).trans hyb0
      obtain ⟨⟨ya, yb⟩, hy⟩ : ∃ y, y = K.getD k ⟨0, 0⟩ := ⟨_, rfl⟩
      rw [← hy] at hya hyb
      have HN : Hid (endsOf (K.take (k + 1)) = endsOf (K.take k) ++ [ya, yb]) := Lib.hid (by rw [take_next hlt ⟨0, 0⟩, ← hy, endsOf_snoc])
      clear hy hya0 hyb0 hn
      obtain ⟨L, hL⟩ : ∃ L, L = endsOf (K.take k) := ⟨_, rfl⟩
      have hLl : L.length ≤ 1000 := by rw [hL, endsOf_length]; simp; omega
      rw [← hL] at HO HN
      clear hL
      have hwr : w2.heap.size ≤ wr.heap.size := HX.out.size
      go_wp2_with ((at_builtin; refine wpList_append_sl (α := Int) rfl (.tmp 19) (.tmp 24) rfl w2.heap.size _ L rfl ?_ (.slice (some ⟨_, 0, none⟩) 2 2) [ya, yb] rfl ?_ ?_ ?_ ?_; exact ((HO.out.alloc _).alloc _); exact (Sl.litAt _ _ (by simp) [ya, yb] (by simp)); (first | omega | (simp; omega)); exact (by first | (simp; done) | (simp; omega)); intro v3 W3 ho3 ha3; have O3 := Lib.hid ho3; have y3 : Hid (Ext w2 W3) := Lib.hid (Below.trans ((HX.out.alloc _).alloc _) ha3.below); clear ho3 ha3))
      go_roundw
      case rel => exact ⟨k + 1, by omega, by go_num, Lib.hid (by rw [HN.out]; exact O3.out), y3⟩
      case measure => simp [intOf]; omega
    · have hkl : k = K.length := by omega
      have ho := HO.out
      rw [hkl, List.take_length] at ho
      have HO' := Lib.hid ho
      clear ho HO hkl
      have hEl : (endsOf K).length ≤ 1000000 := by rw [endsOf_length]; omega
      obtain ⟨L, hL⟩ : ∃ L, L = endsOf K := ⟨_, rfl⟩
      have HL := Lib.hid hL
      rw [← hL] at HO' hEl
      clear hL
      have r2' := (HK.out wr (y2.trans HX.out)).2
      go_wp2_with (go_at_call 192; refine (setDel_any _ _ L x HO'.out.sl hEl).mono ?_; rintro e w4 ⟨v4, rfl, ho4, x4⟩; have O4 := Lib.hid ho4; clear ho4)
      go_ret
      have hsz : w.heap.size ≤ wr.heap.size := by have := HX.out.size; omega
      exact ⟨_, rfl, by unfold nearOf; rw [← HKd.out, ← HL.out]; exact O4.out.mono hsz, hX.trans (y2.trans (HX.out.trans x4))⟩
end Go.Proofs.YtfbambemjokmgaaGreat
namespace Go.Proofs.YtfbambemjokmgaaGreat
open Go.RowKit
theorem blk_drewN {w : World} {b : Nat} {O : Obj} (h : w.heap[b]? = some O) (q : Nat) : (w.drewN q).heap[b]? = some O := h
theorem cells8D {w : World} {g : Nat} {u0 u1 u2 u3 u4 u5 u6 u7 : Value} {t : TypeId} (h : w.heap[g]? = some (.cells #[u0, u1, u2, u3, u4, u5, u6, u7] t (0, 0))) :
    ((w.cell? ⟨g, 0, none⟩ = some u0 ∧ w.cell? ⟨g, 1, none⟩ = some u1) ∧ w.cell? ⟨g, 2, none⟩ = some u2 ∧ w.cell? ⟨g, 3, none⟩ = some u3) ∧ (w.cell? ⟨g, 4, none⟩ = some u4 ∧ w.cell? ⟨g, 5, none⟩ = some u5) ∧ w.cell? ⟨g, 6, none⟩ = some u6 ∧ w.cell? ⟨g, 7, none⟩ = some u7 :=
  ⟨⟨⟨blk_cell h 0 rfl, blk_cell h 1 rfl⟩, blk_cell h 2 rfl, blk_cell h 3 rfl⟩, ⟨blk_cell h 4 rfl, blk_cell h 5 rfl⟩, blk_cell h 6 rfl, blk_cell h 7 rfl⟩
def sideC (c : List Int) (a b : Int) : Sd := if col c a < col c b then ⟨b, 1, 0, false, false, true, false, true⟩ else ⟨b, 1, 0, true, true, false, true, false⟩
def sidesTo (E : List Edge) (c : List Int) (a : Int) (k : Nat) : List Sd := (((List.range k).map fun i : Nat => (i : Int)).filter fun b => decide (btw a b ∈ E)).map (sideC c a)
def dinerC (N : Int) (E : List Edge) (c : List Int) (a : Nat) : Dn := ⟨a, 0, sidesTo E c a N.toNat⟩
def tableL (N : Int) (E : List Edge) (c : List Int) : List Dn := (List.range N.toNat).map (dinerC N E c)
theorem sidesTo_next (E : List Edge) (c : List Int) (a : Int) (k : Nat) : sidesTo E c a (k + 1) = sidesTo E c a k ++ (if decide (btw a (k : Int) ∈ E) = true then [sideC c a k] else []) := by
  unfold sidesTo
  rw [List.range_succ, List.map_append, List.filter_append, List.map_append]
  congr 1
  show List.map _ (List.filter _ [(k : Int)]) = _
  rw [List.filter_cons]
  split <;> rfl
theorem sidesTo_len (E : List Edge) (c : List Int) (a : Int) (k : Nat) : (sidesTo E c a k).length ≤ k := by
  unfold sidesTo
  rw [List.length_map]
  have := List.length_filter_le (fun b => decide (btw a b ∈ E)) ((List.range k).map fun i : Nat => (i : Int))
  simpa using this
theorem Sl.colAtD {w : World} {v : Value} {c : List Int} (h : Sl w v c) {x : Int} (h0 : 0 ≤ x) (h1 : x < c.length) :
    ∃ b off n k, v = .slice (some ⟨b, off, none⟩) n k ∧ n = c.length ∧ n ≤ k ∧ k ≤ 9223372036854775807 ∧ b < w.heap.size ∧ w.cell? ⟨b, off + x.toNat, none⟩ = some (.int .i64 (col c x)) := by
  obtain ⟨ao, k, rfl⟩ := h.len
  obtain ⟨b, off, rfl, _, h2, h3, h4, h5⟩ := h.intsAt (k := x.toNat) (by omega)
  exact ⟨b, off, _, k, rfl, rfl, h2, h3, h4, h5⟩
theorem tableL_next (N : Int) (E : List Edge) (c : List Int) {k : Nat} (h : k < N.toNat) : (tableL N E c).take (k + 1) = (tableL N E c).take k ++ [dinerC N E c k] := by
  rw [List.take_succ_eq_append_getElem (by unfold tableL; simp; omega)]
  unfold tableL
  simp
set_option maxRecDepth 100000 in
set_option maxHeartbeats 4000000 in
theorem refTable_any (w : World) (N : Int) (v cv : Value) (E : List Edge) (c : List Int) (h : Sl w v E) (hc : Sl w cv c) (n0 : 0 ≤ N) (n64 : N ≤ 64) (hl : (c.length : Int) = N) :
    Calls Tryz.prog 133 #[.agg #[.int .i64 N, v], cv] w fun e w' => ∃ v', e = .returned v' ∧ Nw DV (fun _ => False) w' w.heap.size v' (tableL N E c) ∧ Ext w w' := by
  obtain ⟨vo, vn, vc, rfl⟩ := h.sh
  obtain ⟨co, cc, rfl⟩ := hc.len
  obtain ⟨m, hm⟩ : ∃ m : Nat, (m : Int) = N := ⟨N.toNat, by omega⟩
  subst hm
  have HS := Lib.hid h
  have HC := Lib.hid hc
  have hm64 : m ≤ 64 := by omega
  have HCM : Hid (c.length = m) := Lib.hid (by omega)
  have HG := Lib.hid (graph_at w (m : Int) (.slice vo vn vc))
  have HTA : Hid ((tableL (m : Int) E c).length = m) := Lib.hid (by simp [tableL])
  obtain ⟨TL, hTL⟩ : ∃ TL, TL = tableL (m : Int) E c := ⟨_, rfl⟩
  have HTL := Lib.hid hTL
  rw [← hTL] at HTA ⊢
  clear h hc hl hTL
  go_enter Tryz.func133, Tryz.ntmps133
  go_wp2
  go_loopw [5, 6] (fun q i wr => ∃ k : Nat, k ≤ m ∧ i = .int .i64 k ∧ Hid (Nw DV (fun _ => False) wr (w.heap.size + 1) q (TL.take k)) ∧ Hid (Ext (w.alloc (.cells #[.int .i64 (m : Int), .slice vo vn vc] 53)) wr)) (fun _ i _ => m - (intOf i).toNat)
  case atStart => exact ⟨0, Nat.zero_le _, rfl, Lib.hid (Nw.lit (α := DV) (δ := Dn) _ (w.alloc (.cells #[.int .i64 (m : Int), .slice vo vn vc] 53)) _ _ (by simp) (by simp)), Lib.hid ((Ext.refl _).alloc _)⟩
  case round =>
    obtain ⟨k, hk, rfl, HQ, HX⟩ := hrel
    obtain ⟨g0, g1⟩ := HG.out wr HX.out
    have hwr := Below.size HX.out
    rw [size_alloc] at hwr
    by_cases hlt : k < m
    · have HNX : Hid (TL.take (k + 1) = TL.take k ++ [dinerC (m : Int) E c k]) := Lib.hid (by rw [HTL.out]; exact tableL_next _ _ _ (by rw [Int.toNat_natCast]; exact hlt))
      obtain ⟨W0, hW0⟩ : ∃ W0, W0 = wr := ⟨_, rfl⟩
      have HW0 := Lib.hid hW0
      have HX0 := Lib.hid (hW0 ▸ HX.out)
      have HQ0 := Lib.hid (hW0 ▸ HQ.out)
      have hw0s : w.heap.size + 1 ≤ W0.heap.size := by rw [hW0]; exact hwr
      have HB0 : Hid (wr.heap.size = W0.heap.size) := Lib.hid (by rw [hW0])
      clear hW0
      go_wp2
      rw [HB0.out]
      go_loopw [8] (fun i wr2 => ∃ j : Nat, j ≤ m ∧ i = .int .i64 j ∧ Hid (∃ so sn sc, wr2.heap[W0.heap.size]? = some (.cells #[.int .i64 (k : Int), .int .i64 0, .slice so sn sc] 61 (0, 0)) ∧ Ow wr2 (W0.heap.size + 1) (.slice so sn sc) (sidesTo E c k j)) ∧ Hid (Ext W0 wr2)) (fun i _ => m - (intOf i).toNat)
      case atStart =>
        refine ⟨0, Nat.zero_le _, rfl, Lib.hid ⟨none, 0, 0, ?_, Ow.nil _ _⟩, Lib.hid ?_⟩
        · rw [HW0.out]; exact get_alloc_new _ _
        · rw [HW0.out]; exact (Ext.refl _).alloc _
      case round =>
        obtain ⟨j, hj, rfl, HD, HX2⟩ := hrel
        obtain ⟨so, sn, sc, hdb, hown⟩ := HD.out
        have HDB := Lib.hid hdb
        have HOW := Lib.hid hown
        have XW := Lib.hid (HX0.out.trans HX2.out)
        obtain ⟨g0', g1'⟩ := HG.out wr XW.out
        have hw02 := blk_lt hdb
        clear hdb hown HD
        by_cases hj2 : j < m
        · obtain ⟨t, ht⟩ : ∃ t, decide (btw (k : Int) (j : Int) ∈ E) = t := ⟨_, rfl⟩
          have HT := Lib.hid ht
          have HNS := Lib.hid (sidesTo_next E c (k : Int) j)
          rw [ht] at HNS
          have HSL := Lib.hid (sidesTo_len E c (k : Int) j)
          obtain ⟨S, hS⟩ : ∃ S, S = sidesTo E c (k : Int) j := ⟨_, rfl⟩
          rw [← hS] at HNS HSL HOW
          have hSl : S.length ≤ 64 := by have := HSL.out; omega
          obtain ⟨b, off, n2, k2, hv, hn2, hnk2, hk63, hb, hca⟩ := HC.out.colAtD (x := (k : Int)) (by omega) (by have := HCM.out; omega)
          obtain ⟨b3, off3, n3, k3, hv3, hn3, hnk3, hk633, hb3, hcb⟩ := HC.out.colAtD (x := (j : Int)) (by omega) (by have := HCM.out; omega)
          simp only [Value.slice.injEq] at hv
          obtain ⟨rfl, rfl, rfl⟩ := hv
          simp only [Value.slice.injEq, Option.some.injEq, Addr.mk.injEq, and_true] at hv3
          obtain ⟨⟨rfl, rfl⟩, rfl, rfl⟩ := hv3
          rw [Int.toNat_natCast] at hca hcb
          have hkc : k < c.length := by have := HCM.out; omega
          have hjc : j < c.length := by have := HCM.out; omega
          have HSC : Hid (sideC c (k : Int) (j : Int) = if col c (k : Int) < col c (j : Int) then ⟨(j : Int), 1, 0, false, false, true, false, true⟩ else ⟨(j : Int), 1, 0, true, true, false, true, false⟩) := Lib.hid rfl
          obtain ⟨p, hp⟩ : ∃ p, p = col c (k : Int) := ⟨_, rfl⟩
          obtain ⟨q, hq⟩ : ∃ q, q = col c (j : Int) := ⟨_, rfl⟩
          rw [← hp] at hca HSC
          rw [← hq] at hcb HSC
          have HCA : Hid (∀ V, Ext (w.alloc (.cells #[.int .i64 (m : Int), .slice vo vn vc] 53)) V → V.cell? ⟨b, off + k, none⟩ = some (.int .i64 p)) := Lib.hid fun V hV => (Below.cell (Ext.trans ((Ext.refl w).alloc _) hV) (p := ⟨b, off + k, none⟩) hb).trans hca
          have HCB : Hid (∀ V, Ext (w.alloc (.cells #[.int .i64 (m : Int), .slice vo vn vc] 53)) V → V.cell? ⟨b, off + j, none⟩ = some (.int .i64 q)) := Lib.hid fun V hV => (Below.cell (Ext.trans ((Ext.refl w).alloc _) hV) (p := ⟨b, off + j, none⟩) hb3).trans hcb
          clear ht hS hca hcb hp hq hn2 hn3
          cases t
          · have HNS2 : Hid (sidesTo E c (k : Int) (j + 1) = S) := Lib.hid (HNS.out.trans (by rw [if_neg (by decide), List.append_nil]))
            go_wp2_with (first
              | (go_at_call 42; refine (refHas_val _ (m : Int) _ E k j (HS.out.ext (Ext.trans ((Ext.refl w).alloc _) XW.out)) _ HT.out).mono ?_; rintro e w1 ⟨rfl, hx⟩; have X1 := Lib.hid hx; have hs1 := Below.size X1.out; have hd1 := (hx.block _ (blk_lt HDB.out)).trans HDB.out; have HD1 := Lib.hid hd1; have O1 := Lib.hid (HOW.out.ext hx); obtain ⟨ga, gb⟩ := HG.out w1 (XW.out.trans hx); have kca := (HCA.out _ (Ext.trans XW.out (Ext.alloc hx (.cells #[.int .i64 (j : Int), .int .i64 1, .int .i64 0, .bool false, .bool false, .bool false, .bool false, .bool false] 66)))); have kcb := (HCB.out _ (Ext.trans XW.out (Ext.alloc hx (.cells #[.int .i64 (j : Int), .int .i64 1, .int .i64 0, .bool false, .bool false, .bool false, .bool false, .bool false] 66)))); clear hx hd1))
            go_roundw
            case rel => exact ⟨j + 1, by omega, by go_num, Lib.hid ⟨so, sn, sc, HD1.out, by rw [HNS2.out]; exact O1.out⟩, Lib.hid (HX2.out.trans X1.out)⟩
            case measure => simp [intOf]; omega
          · rcases Int.lt_or_le p q with hpq | hpq
            · have HNS2 : Hid (sidesTo E c (k : Int) (j + 1) = S ++ [⟨(j : Int), 1, 0, false, false, true, false, true⟩]) := Lib.hid (HNS.out.trans (by rw [HSC.out, if_pos hpq]; rfl))
              go_wp2_with (first
                | (go_at_call 42; refine (refHas_val _ (m : Int) _ E k j (HS.out.ext (Ext.trans ((Ext.refl w).alloc _) XW.out)) _ HT.out).mono ?_; rintro e w1 ⟨rfl, hx⟩; have X1 := Lib.hid hx; have hs1 := Below.size X1.out; have hd1 := (hx.block _ (blk_lt HDB.out)).trans HDB.out; have HD1 := Lib.hid hd1; have O1 := Lib.hid (HOW.out.ext hx); obtain ⟨ga, gb⟩ := HG.out w1 (XW.out.trans hx); have kca := (HCA.out _ (Ext.trans XW.out (Ext.alloc hx (.cells #[.int .i64 (j : Int), .int .i64 1, .int .i64 0, .bool false, .bool false, .bool false, .bool false, .bool false] 66)))); have kcb := (HCB.out _ (Ext.trans XW.out (Ext.alloc hx (.cells #[.int .i64 (j : Int), .int .i64 1, .int .i64 0, .bool false, .bool false, .bool false, .bool false, .bool false] 66)))); clear hx hd1))
              go_quiet (fail)
              go_upto_region 14 with (fail)
              obtain ⟨W5, hW5⟩ : ∃ W5, W5 = ((((w1.alloc (.cells #[.int .i64 (j : Int), .int .i64 1, .int .i64 0, .bool false, .bool false, .bool false, .bool false, .bool false] 66)).drewN nq).setCell ⟨w1.heap.size, 5, none⟩ (.bool true)).setCell ⟨w1.heap.size, 7, none⟩ (.bool true)) := ⟨_, rfl⟩
              have hx5 : Ext w1 W5 := by rw [hW5]; exact below_set (below_set (Ext.drewN (Ext.alloc (Ext.refl w1) _) nq) (Nat.le_refl _) _) (Nat.le_refl _) _
              have hb5 : W5.heap[w1.heap.size]? = some (.cells #[.int .i64 (j : Int), .int .i64 1, .int .i64 0, .bool false, .bool false, .bool true, .bool false, .bool true] 66 (0, 0)) := by
                rw [hW5]
                exact blk_set (blk_set (blk_drewN (at0 w1 (.cells #[.int .i64 (j : Int), .int .i64 1, .int .i64 0, .bool false, .bool false, .bool false, .bool false, .bool false] 66)) nq) 5 (.bool true)) 7 (.bool true)
              rw [← hW5]
              have hd5 := (hx5.block _ (blk_lt HD1.out)).trans HD1.out
              obtain ⟨⟨⟨r0, r1⟩, r2, r3⟩, ⟨r4, r5⟩, r6, r7⟩ := cells8D hb5
              have e2 := blk_cell hd5 2 rfl
              have HX5 := Lib.hid hx5
              have HD5 := Lib.hid hd5
              have HO5 := Lib.hid (O1.out.ext hx5)
              have hs5 := Below.size HX5.out
              clear hW5 hx5 hb5 hd5
              go_wp2_with (first
                | (at_builtin; refine wpList_append_sl (α := Sd) rfl (.tmp 47) (.tmp 49) rfl (W0.heap.size + 1) _ S rfl ?_ (.slice (some ⟨_, 0, none⟩) 1 1) [(⟨(j : Int), 1, 0, false, false, true, false, true⟩ : Sd)] rfl ?_ ?_ ?_ ?_; exact (HO5.out.alloc _); exact (Sl.litAt W5 _ rfl [(⟨(j : Int), 1, 0, false, false, true, false, true⟩ : Sd)] (show (1 : Nat) ≤ 1000000 by decide)); (first | omega | (simp; omega)); exact (by rw [size_alloc]; omega); intro v6 W6 ho6 ha6; obtain ⟨a6, n6, c6, rfl⟩ := ho6.sh; have hd6 := (ha6.below.block _ (by omega)).trans (blk_alloc HD5.out (.cells #[.int .i64 (j : Int), .int .i64 1, .int .i64 0, .bool false, .bool false, .bool true, .bool false, .bool true] 66)); have f6 := blk_free hd6 2; have e6 := blk_cell hd6 2 rfl; have HD6 := Lib.hid hd6; have O6 := Lib.hid ho6; have HX6 : Hid (Ext W0 W6) := Lib.hid (Below.trans (HX2.out.trans (X1.out.trans (HX5.out.alloc _))) (ha6.below.mono (by omega))); clear ho6 ha6 hd6))
              go_roundw
              case rel =>
                refine ⟨j + 1, by omega, by go_num, Lib.hid ⟨a6, n6, c6, by rw [blk_set HD6.out]; rfl, by rw [HNS2.out]; exact O6.out.set (by show W0.heap.size < _; omega) _⟩, Lib.hid (below_set HX6.out (Nat.le_refl _) _)⟩
              case measure => simp [intOf]; omega
            · have HNS2 : Hid (sidesTo E c (k : Int) (j + 1) = S ++ [⟨(j : Int), 1, 0, true, true, false, true, false⟩]) := Lib.hid (HNS.out.trans (by rw [HSC.out, if_neg (show ¬ p < q by omega)]; rfl))
              go_wp2_with (first
                | (go_at_call 42; refine (refHas_val _ (m : Int) _ E k j (HS.out.ext (Ext.trans ((Ext.refl w).alloc _) XW.out)) _ HT.out).mono ?_; rintro e w1 ⟨rfl, hx⟩; have X1 := Lib.hid hx; have hs1 := Below.size X1.out; have hd1 := (hx.block _ (blk_lt HDB.out)).trans HDB.out; have HD1 := Lib.hid hd1; have O1 := Lib.hid (HOW.out.ext hx); obtain ⟨ga, gb⟩ := HG.out w1 (XW.out.trans hx); have kca := (HCA.out _ (Ext.trans XW.out (Ext.alloc hx (.cells #[.int .i64 (j : Int), .int .i64 1, .int .i64 0, .bool false, .bool false, .bool false, .bool false, .bool false] 66)))); have kcb := (HCB.out _ (Ext.trans XW.out (Ext.alloc hx (.cells #[.int .i64 (j : Int), .int .i64 1, .int .i64 0, .bool false, .bool false, .bool false, .bool false, .bool false] 66)))); clear hx hd1))
              go_quiet (fail)
              go_upto_region 14 with (fail)
              obtain ⟨W5, hW5⟩ : ∃ W5, W5 = (((((w1.alloc (.cells #[.int .i64 (j : Int), .int .i64 1, .int .i64 0, .bool false, .bool false, .bool false, .bool false, .bool false] 66)).drewN nq).setCell ⟨w1.heap.size, 3, none⟩ (.bool true)).setCell ⟨w1.heap.size, 4, none⟩ (.bool true)).setCell ⟨w1.heap.size, 6, none⟩ (.bool true)) := ⟨_, rfl⟩
              have hx5 : Ext w1 W5 := by rw [hW5]; exact below_set (below_set (below_set (Ext.drewN (Ext.alloc (Ext.refl w1) _) nq) (Nat.le_refl _) _) (Nat.le_refl _) _) (Nat.le_refl _) _
              have hb5 : W5.heap[w1.heap.size]? = some (.cells #[.int .i64 (j : Int), .int .i64 1, .int .i64 0, .bool true, .bool true, .bool false, .bool true, .bool false] 66 (0, 0)) := by
                rw [hW5]
                exact blk_set (blk_set (blk_set (blk_drewN (at0 w1 (.cells #[.int .i64 (j : Int), .int .i64 1, .int .i64 0, .bool false, .bool false, .bool false, .bool false, .bool false] 66)) nq) 3 (.bool true)) 4 (.bool true)) 6 (.bool true)
              rw [← hW5]
              have hd5 := (hx5.block _ (blk_lt HD1.out)).trans HD1.out
              obtain ⟨⟨⟨r0, r1⟩, r2, r3⟩, ⟨r4, r5⟩, r6, r7⟩ := cells8D hb5
              have e2 := blk_cell hd5 2 rfl
              have HX5 := Lib.hid hx5
              have HD5 := Lib.hid hd5
              have HO5 := Lib.hid (O1.out.ext hx5)
              have hs5 := Below.size HX5.out
              clear hW5 hx5 hb5 hd5
              go_wp2_with (first
                | (at_builtin; refine wpList_append_sl (α := Sd) rfl (.tmp 47) (.tmp 49) rfl (W0.heap.size + 1) _ S rfl ?_ (.slice (some ⟨_, 0, none⟩) 1 1) [(⟨(j : Int), 1, 0, true, true, false, true, false⟩ : Sd)] rfl ?_ ?_ ?_ ?_; exact (HO5.out.alloc _); exact (Sl.litAt W5 _ rfl [(⟨(j : Int), 1, 0, true, true, false, true, false⟩ : Sd)] (show (1 : Nat) ≤ 1000000 by decide)); (first | omega | (simp; omega)); exact (by rw [size_alloc]; omega); intro v6 W6 ho6 ha6; obtain ⟨a6, n6, c6, rfl⟩ := ho6.sh; have hd6 := (ha6.below.block _ (by omega)).trans (blk_alloc HD5.out (.cells #[.int .i64 (j : Int), .int .i64 1, .int .i64 0, .bool true, .bool true, .bool false, .bool true, .bool false] 66)); have f6 := blk_free hd6 2; have e6 := blk_cell hd6 2 rfl; have HD6 := Lib.hid hd6; have O6 := Lib.hid ho6; have HX6 : Hid (Ext W0 W6) := Lib.hid (Below.trans (HX2.out.trans (X1.out.trans (HX5.out.alloc _))) (ha6.below.mono (by omega))); clear ho6 ha6 hd6))
              go_roundw
              case rel =>
                refine ⟨j + 1, by omega, by go_num, Lib.hid ⟨a6, n6, c6, by rw [blk_set HD6.out]; rfl, by rw [HNS2.out]; exact O6.out.set (by show W0.heap.size < _; omega) _⟩, Lib.hid (below_set HX6.out (Nat.le_refl _) _)⟩
              case measure => simp [intOf]; omega
        · have hjm : j = m := by omega
          have HSE : Hid (sidesTo E c (k : Int) m = (dinerC (m : Int) E c k).sides) := Lib.hid (by unfold dinerC; rw [Int.toNat_natCast])
          rw [hjm, HSE.out] at HOW
          obtain ⟨xs, hown, hxl, hel⟩ := HQ0.out.any
          have HXL := Lib.hid hxl
          have HEL := Lib.hid hel
          have HOWN := Lib.hid hown
          have hxs : xs.length ≤ 64 := by rw [hxl]; simp; omega
          have e0 := blk_cell HDB.out 0 rfl
          have e1 := blk_cell HDB.out 1 rfl
          have e2 := blk_cell HDB.out 2 rfl
          clear hown hxl hel hjm
          go_wp2_with (first
            | (at_builtin; refine wpList_append_sl (α := DV) rfl (.tmp 52) (.tmp 54) rfl (w.heap.size + 1) _ xs rfl ?_ (.slice (some ⟨_, 0, none⟩) 1 1) [(⟨(k : Int), 0, so, sn, sc⟩ : DV)] rfl ?_ ?_ ?_ ?_; exact ((HOWN.out.ext HX2.out).alloc _); exact (Sl.litAt wr _ rfl [(⟨(k : Int), 0, so, sn, sc⟩ : DV)] (show (1 : Nat) ≤ 1000000 by decide)); (first | omega | (simp; omega)); exact (by rw [size_alloc]; have := Below.size HX2.out; omega); intro v3 W3 ho3 ha3; have hx : Nest.rd (Own1 (fun _ => False) _) _ (⟨(k : Int), 0, so, sn, sc⟩ : DV) (dinerC (m : Int) E c k) := (⟨rfl, rfl, Sa.new (HOW.out.alloc (.cells #[.int .i64 (k : Int), .int .i64 0, .slice so sn sc] 61)) (fun b hb => by rcases hb with hb | hb; exact hb.elim; have := (HOWN.out.low b hb).2; omega)⟩ : RdD _ _ _ _); have hst := Nw.step (α := DV) (δ := Dn) (F := fun _ => False) (L := TL.take k) HXL.out (fun a x d hx hd => Nest.ext (HEL.out a x d hx hd) (Ext.alloc HX2.out _)) hx ho3 ha3; have HST := Lib.hid hst; have HX3 := Lib.hid (Below.trans (Ext.alloc XW.out _) (ha3.below.mono (by rw [size_alloc]; exact Nat.le_refl _))); clear ho3 ha3 hx hst))
          go_roundw
          case rel => exact ⟨k + 1, by omega, by go_num, Lib.hid (by rw [HNX.out]; exact HST.out), HX3⟩
          case measure => simp [intOf]; omega
    · have hkm : k = m := by omega
      have hq := HQ.out
      rw [hkm, ← HTA.out, List.take_length] at hq
      have HQ' := Lib.hid hq
      clear hq HQ hkm
      go_wp2
      go_ret
      exact ⟨_, rfl, HQ'.out.mono (by omega), Ext.trans ((Ext.refl w).alloc _) HX.out⟩
end Go.Proofs.YtfbambemjokmgaaGreat
namespace Go.Proofs.YtfbambemjokmgaaGreat
open Go.RowKit
def awE : List Edge := [⟨0, 1⟩]
def aw0 : List Dn := [⟨0, 0, [⟨1, 1, 0, true, true, false, true, false⟩]⟩, ⟨1, 0, [⟨0, 1, 0, false, false, true, false, true⟩]⟩]
theorem aw_ok : OkG 2 awE := okG_iff.1 (by decide +kernel)
theorem aw_ends : Ends 2 awE 2 := by
  refine ⟨fun j hj => ?_, by decide +kernel⟩
  rcases j with _ | _ | j
  · decide +kernel
  · decide +kernel
  · omega
theorem aw_new : tableL 2 awE (itr 2 awE 2) = aw0 := by decide +kernel
end Go.Proofs.YtfbambemjokmgaaGreat
