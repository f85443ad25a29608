/- The document's answers: the nodes from which no arc goes; those told in order. -/
import Derived.Test.YthofgfdhcndpbaaR4
namespace Go.Proofs.Ythofgfdhcndpbaa
open Go.RowKit

set_option maxHeartbeats 1000000 in
theorem refSinks_any (w : World) (N : Int) (v : Value) (E : List Arc) (h : Sl w v E) :
    Calls Try.prog 26 #[.int .i64 N, v] w (GivesOw w (sinksL N E)) := by
  obtain ⟨ao, c, rfl⟩ := h.len
  have HS := Lib.hid h
  have hle := h.length_le
  clear h
  by_cases ok : OkD N E
  · have HC := Lib.hid (okD_iff.2 ok)
    have h0 := ok.n0
    have h64 := ok.n64
    have hfew := ok.few
    obtain ⟨n, rfl⟩ := Int.eq_ofNat_of_zero_le h0
    have HR : Hid (sinksL (n : Int) E = (upto n).filter (isSink E)) := Lib.hid (by unfold sinksL; rw [if_pos (okD_iff.2 ok)]; rfl)
    have hn64 : n ≤ 64 := by omega
    clear ok
    go_enter Try.func26, Try.ntmps26
    go_wp2
    go_loopw [5, 6] (fun q i wr => ∃ k : Nat, k ≤ n ∧ i = .int .i64 k ∧ Hid (Ow wr w.heap.size q ((upto k).filter (isSink E))) ∧ Hid (Ext w wr)) (fun _ i _ => n - (intOf i).toNat)
    case atStart => exact ⟨0, Nat.zero_le _, rfl, Lib.hid (Ow.lit w _ (Nat.le_refl _) [] (by simp)), Lib.hid ((Ext.refl _).alloc _)⟩
    case round =>
      obtain ⟨k, hk, rfl, HO, HX⟩ := hrel
      by_cases hlt : k < n
      · obtain ⟨L, hL⟩ : ∃ L, L = (upto k).filter (isSink E) := ⟨_, rfl⟩
        have hLl : L.length ≤ 1000000 := by
          have := List.length_filter_le (isSink E) (upto k)
          rw [← hL, upto_length] at this
          omega
        have HN : Hid ((upto (k + 1)).filter (isSink E) = L ++ (if isSink E (k : Int) = true then [(k : Int)] else [])) := Lib.hid (by rw [upto_succ, List.filter_append, ← hL]; simp [List.filter_cons])
        rw [← hL] at HO
        have hwr : w.heap.size ≤ wr.heap.size := HX.out.size
        clear hL
        go_wp2_with (go_at_call 19; refine (refCheck_val _ _ _ E (HS.out.ext HX.out) true HC.out).mono ?_; rintro e w1 ⟨rfl, x1⟩)
        have HO1 := Lib.hid (HO.out.ext x1)
        have HX1 := Lib.hid (HX.out.trans x1)
        have hs1 : w.heap.size ≤ w1.heap.size := HX1.out.size
        go_loop [7, 8] (fun s7 s8 => ∃ (i : Nat) (s : Bool), i ≤ E.length ∧ s7 = .bool s ∧ s8 = .int .i64 i ∧ Hid (((E.take i).any fun y => decide (y.a = (k : Int))) = s)) (fun _ s8 => E.length - (intOf s8).toNat)
        case atStart => exact ⟨0, false, Nat.zero_le _, rfl, rfl, Lib.hid rfl⟩
        case round =>
          obtain ⟨i, s, hi, rfl, rfl, HA⟩ := hrel
          by_cases hil : i < E.length
          · obtain ⟨b, off, hao, hq1, hnc, hc63, hb, hya0, hyb0⟩ := HS.out.arcsAt hil
            subst hao
            have hya := (HX1.out.cell (p := ⟨b, off + i * 2, none⟩) hb).trans hya0
            obtain ⟨⟨ya, yb⟩, hy⟩ : ∃ y, y = E.getD i ⟨0, 0⟩ := ⟨_, rfl⟩
            rw [← hy] at hya
            have HNX : Hid (((E.take (i + 1)).any fun y => decide (y.a = (k : Int))) = (s || decide (ya = (k : Int)))) := Lib.hid (by rw [any_next _ hil ⟨0, 0⟩, ← hy, HA.out])
            clear hy hya0 hyb0 hq1
            cases s
            · by_cases g1 : ya = (k : Int)
              · have q1 : (ya == (k : Int)) = true := by simp [g1]
                have G1 := Lib.hid g1
                clear g1
                go_wp2
                go_round
                case rel => exact ⟨i + 1, true, by omega, rfl, by go_num, Lib.hid (by rw [HNX.out, G1.out]; simp)⟩
                case measure => simp [intOf]; omega
              · have q1 : (ya == (k : Int)) = false := by simp [g1]
                have G1 := Lib.hid g1
                clear g1
                go_wp2
                go_round
                case rel => exact ⟨i + 1, false, by omega, rfl, by go_num, Lib.hid (by rw [HNX.out]; simp [G1.out])⟩
                case measure => simp [intOf]; omega
            · clear hya
              go_wp2
              go_round
              case rel => exact ⟨i + 1, true, by omega, rfl, by go_num, Lib.hid (by rw [HNX.out]; rfl)⟩
              case measure => simp [intOf]; omega
          · have hil2 : i = E.length := by omega
            have HSK : Hid (isSink E (k : Int) = !s) := Lib.hid (by unfold isSink; have := HA.out; rw [hil2, List.take_length] at this; rw [this])
            clear hil2 HA
            cases s
            all_goals
              go_wp2_with (first
                | (at_builtin; refine wpList_append_sl (α := Int) rfl (.tmp 38) (.tmp 40) rfl w.heap.size _ L rfl ?_ (.slice (some ⟨_, 0, none⟩) 1 1) [(k : Int)] rfl ?_ ?_ ?_ ?_; exact (HO1.out.alloc _); exact (Sl.litAt _ _ (by simp) [(k : Int)] (by simp)); (first | omega | (simp; omega)); exact (by first | (simp; done) | (simp; omega)); intro v3 W3 ho3 ha3; have O3 := Lib.hid ho3; have y3 : Hid (Ext w W3) := Lib.hid (Below.trans (HX1.out.alloc _) ha3.below); clear ho3 ha3))
              go_roundw
              case rel => exact ⟨k + 1, by omega, by go_num, Lib.hid (by rw [HN.out, HSK.out]; first | exact O3.out | simpa using HO1.out), by first | exact y3 | exact HX1⟩
              case measure => simp [intOf]; omega
      · have hkl : k = n := by omega
        have ho := HO.out
        rw [hkl, ← HR.out] at ho
        have HO' := Lib.hid ho
        clear ho HO hkl
        go_wp2
        go_ret
        exact ⟨_, rfl, HO'.out, HX.out⟩
  · have HC := Lib.hid (okD_no ok)
    have HR : Hid (sinksL N E = []) := Lib.hid (by unfold sinksL; rw [if_neg (fun e => ok (okD_iff.1 e))])
    clear ok
    by_cases hN : 0 < N
    all_goals
      go_enter Try.func26, Try.ntmps26
      go_wp2
      refine wp_loop_rounds 1 ?_
      rw [rounds_succ]
      go_wp2_with (go_at_call 19; refine (refCheck_val _ _ _ E (HS.out.ext (by repeat (first | exact Ext.refl _ | assumption | refine Ext.alloc ?_ _ | refine Ext.drew ?_ | refine Ext.drewN ?_ _))) false HC.out).mono ?_; rintro e w1 ⟨rfl, x1⟩)
      go_ret
      first
      | exact ⟨_, rfl, by rw [HR.out]; exact (Ow.lit w _ (Nat.le_refl _) [] (by simp)).ext x1, ((Ext.refl w).alloc _).trans x1⟩
      | exact ⟨_, rfl, by rw [HR.out]; exact Ow.lit w _ (Nat.le_refl _) [] (by simp), (Ext.refl w).alloc _⟩

set_option maxHeartbeats 1000000 in
theorem refFree_val (w : World) (v u : Value) (E : List Arc) (t : List Int) (x : Int) (h : Sl w v E) (g : Sl w u t) (r : Bool) (hr : isFree E t x = r) :
    Calls Try.prog 52 #[v, u, .int .i64 x] w fun e w' => e = .returned (.bool r) ∧ w = w' := by
  obtain ⟨ao, c, rfl⟩ := h.len
  have hle := h.length_le
  have HS := Lib.hid h
  have HG := Lib.hid g
  have HR := Lib.hid hr
  clear h g hr
  go_enter Try.func52, Try.ntmps52
  go_wp2
  go_loop [7] (fun s7 => ∃ k : Nat, k ≤ E.length ∧ s7 = .int .i64 k ∧ Hid (isFree (E.take k) t x = true)) (fun s7 => E.length - (intOf s7).toNat)
  case atStart => exact ⟨0, Nat.zero_le _, rfl, Lib.hid (by simp [isFree])⟩
  case round =>
    obtain ⟨k, hk, rfl, HF⟩ := hrel
    by_cases hlt : k < E.length
    · obtain ⟨b, off, hao, hq1, hnc, hc63, hb, hya, hyb⟩ := HS.out.arcsAt hlt
      subst hao
      obtain ⟨⟨ya, yb⟩, hy⟩ : ∃ y, y = E.getD k ⟨0, 0⟩ := ⟨_, rfl⟩
      rw [← hy] at hya hyb
      have hmem : (⟨ya, yb⟩ : Arc) ∈ E := by rw [hy, getD_at hlt]; exact List.getElem_mem hlt
      have HN : Hid (isFree (E.take (k + 1)) t x = (isFree (E.take k) t x && !(decide (yb = x) && !decide (ya ∈ t)))) := Lib.hid (by unfold isFree; rw [take_next hlt ⟨0, 0⟩, ← hy, List.all_append]; simp)
      have HM := Lib.hid hmem
      clear hy hq1 hmem
      by_cases g1 : yb = x
      · have q1 : (yb == x) = true := by simp [g1]
        obtain ⟨s, hs⟩ : ∃ s, decide (ya ∈ t) = s := ⟨_, rfl⟩
        have G1 := Lib.hid g1
        have HA := Lib.hid hs
        clear g1 hs
        cases s
        · go_wp2_with (go_at_call 42; refine (refHas_val _ _ t ya HG.out false HA.out).mono ?_; rintro e w' ⟨rfl, rfl⟩)
          go_ret
          refine ⟨ret_bool ?_, rfl⟩
          rw [← HR.out]
          symm
          rw [← Bool.not_eq_true, isFree_iff]
          intro hall
          have := hall ya (by rw [← G1.out]; exact HM.out)
          have h2 := HA.out
          rw [decide_eq_true this] at h2
          cases h2
        · go_wp2_with (go_at_call 42; refine (refHas_val _ _ t ya HG.out true HA.out).mono ?_; rintro e w' ⟨rfl, rfl⟩)
          go_round
          case rel => exact ⟨k + 1, by omega, by go_num, Lib.hid (by rw [HN.out, HF.out, HA.out]; simp)⟩
          case measure => simp [intOf]; omega
      · have q1 : (yb == x) = false := by simp [g1]
        have G1 := Lib.hid g1
        clear g1
        go_wp2
        go_round
        case rel => exact ⟨k + 1, by omega, by go_num, Lib.hid (by rw [HN.out, HF.out]; simp [G1.out])⟩
        case measure => simp [intOf]; omega
    · have hkl : k = E.length := by omega
      have hf := HF.out
      rw [hkl, List.take_length] at hf
      have HF' := Lib.hid hf
      clear hf HF hkl
      go_wp2
      go_ret
      exact ⟨ret_bool (by rw [← HR.out, HF'.out]), rfl⟩

/-- Those told so far. -/
def ToldI (N : Int) (L : List Arc) (t : List Int) : Prop := ∃ l, PI N.toNat L t l ∧ peelN L l.length t l = peeled N L
theorem ToldI.start (N : Int) (L : List Arc) : ToldI N L [] := ⟨upto N.toNat, PI.start _ _, by rw [upto_length]; rfl⟩
theorem ToldI.few {N : Int} {L : List Arc} {t : List Int} (h : ToldI N L t) : t.length ≤ N.toNat := by
  obtain ⟨l, h1, _⟩ := h
  have := h1.len
  omega
theorem ToldI.stop {N : Int} {L : List Arc} {t : List Int} (ok : OkD N L) (h : ToldI N L t) (ha : ∀ a : Nat, a < N.toNat → (a : Int) ∈ t ∨ isFree L t a = false) : (peeled N L).1 = t := by
  obtain ⟨l, h1, h2⟩ := h
  rw [← h2, told_stop ok h1 ha]
theorem ToldI.full {N : Int} {L : List Arc} {t : List Int} (h : ToldI N L t) (ht : N.toNat ≤ t.length) : (peeled N L).1 = t := by
  obtain ⟨l, h1, h2⟩ := h
  have := h1.full ht
  subst this
  rw [← h2]
  rfl
theorem ToldI.go {N : Int} {L : List Arc} {t : List Int} (ok : OkD N L) (h : ToldI N L t) {a : Nat} (ha : a < N.toNat) (hn : (a : Int) ∉ t) (hf : isFree L t a = true) (hb : ∀ b : Nat, b < a → (b : Int) ∈ t ∨ isFree L t b = false) : ToldI N L (t ++ [(a : Int)]) := by
  obtain ⟨l, h1, h2⟩ := h
  obtain ⟨l', h3, h4⟩ := told_go ok h1 ha hn hf hb
  exact ⟨l', h3, h4.symm.trans h2⟩

set_option maxHeartbeats 2000000 in
theorem refTold_any (w : World) (n : Nat) (v : Value) (E : List Arc) (h : Sl w v E) (ok : OkD (n : Int) E) :
    Calls Try.prog 35 #[.int .i64 n, v] w (GivesOw w (peeled (n : Int) E).1) := by
  obtain ⟨ao, c, rfl⟩ := h.len
  have HS := Lib.hid h
  have HO := Lib.hid ok
  have h64 := ok.n64
  have hn64 : n ≤ 64 := by omega
  clear h ok
  go_enter Try.func35, Try.ntmps35
  go_wp2
  go_loopw [5, 6] (fun q i wr => ∃ (k : Nat) (t : List Int), k ≤ n ∧ i = .int .i64 k ∧ t.length = k ∧ Hid (ToldI (n : Int) E t) ∧ Hid (Ow wr w.heap.size q t) ∧ Hid (Ext w wr)) (fun _ i _ => n - (intOf i).toNat)
  case atStart => exact ⟨0, [], Nat.zero_le _, rfl, rfl, Lib.hid (ToldI.start _ _), Lib.hid (Ow.lit w _ (Nat.le_refl _) [] (by simp)), Lib.hid ((Ext.refl _).alloc _)⟩
  case round =>
    obtain ⟨k, t, hk, rfl, htk, HT, HW, HX⟩ := hrel
    by_cases hlt : k < n
    · obtain ⟨ao5, n5, c5, rfl⟩ := HW.out.sh
      have htl : t.length ≤ 64 := by omega
      have hwr : w.heap.size ≤ wr.heap.size := HX.out.size
      have HK := Lib.hid htk
      clear htk
      go_wp2
      go_loop [7] (fun s7 => ∃ a : Nat, a ≤ n ∧ s7 = .int .i64 a ∧ Hid (∀ b : Nat, b < a → (b : Int) ∈ t ∨ isFree E t b = false)) (fun s7 => n - (intOf s7).toNat)
      case atStart => exact ⟨0, Nat.zero_le _, rfl, Lib.hid fun b hb => by omega⟩
      case round =>
        obtain ⟨a, ha, rfl, HA⟩ := hrel
        by_cases han : a < n
        · obtain ⟨s, hs⟩ : ∃ s, decide ((a : Int) ∈ t) = s := ⟨_, rfl⟩
          obtain ⟨f, hf⟩ : ∃ f, isFree E t (a : Int) = f := ⟨_, rfl⟩
          have HSS := Lib.hid hs
          have HFF := Lib.hid hf
          clear hs hf
          have next : (s = true ∨ f = false) → ∀ b : Nat, b < a + 1 → (b : Int) ∈ t ∨ isFree E t b = false := fun hsf b hb => by
            rcases Nat.lt_or_ge b a with h | h
            · exact HA.out b h
            · rw [show b = a from by omega]
              rcases hsf with e | e
              · exact .inl (of_decide_eq_true (HSS.out.trans e))
              · exact .inr (HFF.out.trans e)
          have HNX := Lib.hid next
          clear next
          cases s
          · cases f
            · go_wp2_with (first
                | (go_at_call 42; refine (refHas_val _ _ t _ HW.out.sl false HSS.out).mono ?_; rintro e w' ⟨rfl, rfl⟩)
                | (go_at_call 52; refine (refFree_val _ _ _ E t _ (HS.out.ext HX.out) HW.out.sl false HFF.out).mono ?_; rintro e w' ⟨rfl, rfl⟩))
              go_round
              case rel => exact ⟨a + 1, by omega, by go_num, Lib.hid (HNX.out (by simp))⟩
              case measure => simp [intOf]; omega
            · have HG : Hid (ToldI (n : Int) E (t ++ [(a : Int)])) := Lib.hid (HT.out.go HO.out (by omega) (of_decide_eq_false HSS.out) HFF.out HA.out)
              have q1 : ((a : Int) == (n : Int)) = false := beq_eq_false_iff_ne.2 (by omega)
              go_wp2_with (first
                | (go_at_call 42; refine (refHas_val _ _ t _ HW.out.sl false HSS.out).mono ?_; rintro e w' ⟨rfl, rfl⟩)
                | (go_at_call 52; refine (refFree_val _ _ _ E t _ (HS.out.ext HX.out) HW.out.sl true HFF.out).mono ?_; rintro e w' ⟨rfl, rfl⟩)
                | (at_builtin; refine wpList_append_sl (α := Int) rfl (.tmp 35) (.tmp 37) rfl w.heap.size _ t rfl ?_ (.slice (some ⟨_, 0, none⟩) 1 1) [(a : Int)] rfl ?_ ?_ ?_ ?_; exact (HW.out.alloc _); exact (Sl.litAt _ _ (by simp) [(a : Int)] (by simp)); (first | omega | (simp; omega)); exact (by first | (simp; done) | (simp; omega)); intro v3 W3 ho3 ha3; have O3 := Lib.hid ho3; have y3 : Hid (Ext w W3) := Lib.hid (Below.trans (HX.out.alloc _) ha3.below); clear ho3 ha3))
              go_roundw
              case rel => exact ⟨k + 1, t ++ [(a : Int)], by omega, by go_num, by simp [HK.out], HG, O3, y3⟩
              case measure => simp [intOf]; omega
          · go_wp2_with (first
              | (go_at_call 42; refine (refHas_val _ _ t _ HW.out.sl true HSS.out).mono ?_; rintro e w' ⟨rfl, rfl⟩))
            go_round
            case rel => exact ⟨a + 1, by omega, by go_num, Lib.hid (HNX.out (by simp))⟩
            case measure => simp [intOf]; omega
        · have hane : a = n := by omega
          have HE : Hid ((peeled (n : Int) E).1 = t) := Lib.hid (HT.out.stop HO.out (fun b hb => HA.out b (by omega)))
          have q1 : ((a : Int) == (n : Int)) = true := by simp [hane]
          clear hane
          go_wp2
          go_ret
          exact ⟨_, rfl, by rw [HE.out]; exact HW.out, HX.out⟩
    · have HE : Hid ((peeled (n : Int) E).1 = t) := Lib.hid (HT.out.full (by omega))
      clear htk
      go_wp2
      go_ret
      exact ⟨_, rfl, by rw [HE.out]; exact HW.out, HX.out⟩

theorem refOrder_any (w : World) (N : Int) (v : Value) (E : List Arc) (h : Sl w v E) (xs : List Int) (b : Bool) (hx : ordL N E = xs) (hb : ordB N E = b) :
    Calls Try.prog 14 #[.int .i64 N, v] w (GivesT w xs b) := by
  obtain ⟨ao, c, rfl⟩ := h.len
  have HS := Lib.hid h
  clear h
  by_cases ok : OkD N E
  · have HC := Lib.hid (okD_iff.2 ok)
    have h0 := ok.n0
    have h64 := ok.n64
    have HO := Lib.hid ok
    obtain ⟨hp, _⟩ := peeled_spec ok
    have hlen := hp.len
    clear hp
    obtain ⟨n, rfl⟩ := Int.eq_ofNat_of_zero_le h0
    obtain ⟨T, hT⟩ : ∃ T, T = (peeled (n : Int) E).1 := ⟨_, rfl⟩
    have HT := Lib.hid hT
    rw [← hT] at hlen
    by_cases e : (peeled (n : Int) E).2 = []
    · have hb' : b = true := by rw [← hb]; exact ordB_iff.2 ⟨ok, e⟩
      subst hb'
      have HX : Hid (T = xs) := Lib.hid (by rw [← hx, hT]; unfold ordL; rw [if_pos hb])
      rw [e] at hlen
      have hl2 : T.length = n := by simpa using hlen
      have hl3 : ¬ ((T.length : Int) < (n : Int)) := by omega
      clear e hx hb hlen hT ok hl2
      go_enter Try.func14, Try.ntmps14
      go_wp2_with (first
        | (go_at_call 19; refine (refCheck_val _ _ _ E (HS.out.ext (by repeat (first | exact Ext.refl _ | assumption | refine Ext.alloc ?_ _ | refine Ext.drew ?_ | refine Ext.drewN ?_ _))) true HC.out).mono ?_; rintro e w1 ⟨rfl, x1⟩)
        | (go_at_call 35; refine (refTold_any _ _ _ E (HS.out.ext (by repeat (first | exact Ext.refl _ | assumption | exact Hid.out (by assumption) | refine Ext.alloc ?_ _ | refine Ext.drew ?_ | refine Ext.drewN ?_ _ | refine Ext.trans ?_ (by assumption)))) HO.out).mono ?_; rintro e w2 ⟨v2, rfl, ho2, x2⟩; rw [← HT.out] at ho2; obtain ⟨ao2, c2, rfl⟩ := ho2.sl.len; have O2 := Lib.hid ho2; clear ho2))
      go_ret2
      exact ⟨_, rfl, by rw [← HX.out]; exact O2.out.mono x1.size, x1.trans x2⟩
    · have hb' : b = false := by rw [← hb]; cases q : ordB (n : Int) E with
        | false => rfl
        | true => exact absurd (ordB_iff.1 q).2 e
      subst hb'
      have hx' : xs = [] := by rw [← hx]; unfold ordL; rw [if_neg (by rw [hb]; simp)]
      subst hx'
      have hp : 0 < (peeled (n : Int) E).2.length := List.length_pos_iff.2 e
      have hl3 : (T.length : Int) < (n : Int) := by omega
      clear e hx hb hlen hT ok hp
      go_enter Try.func14, Try.ntmps14
      go_wp2_with (first
        | (go_at_call 19; refine (refCheck_val _ _ _ E (HS.out.ext (by repeat (first | exact Ext.refl _ | assumption | refine Ext.alloc ?_ _ | refine Ext.drew ?_ | refine Ext.drewN ?_ _))) true HC.out).mono ?_; rintro e w1 ⟨rfl, x1⟩)
        | (go_at_call 35; refine (refTold_any _ _ _ E (HS.out.ext (by repeat (first | exact Ext.refl _ | assumption | exact Hid.out (by assumption) | refine Ext.alloc ?_ _ | refine Ext.drew ?_ | refine Ext.drewN ?_ _ | refine Ext.trans ?_ (by assumption)))) HO.out).mono ?_; rintro e w2 ⟨v2, rfl, ho2, x2⟩; rw [← HT.out] at ho2; obtain ⟨ao2, c2, rfl⟩ := ho2.sl.len; have O2 := Lib.hid ho2; clear ho2))
      go_ret2
      exact ⟨_, rfl, Ow.nil _ _, x1.trans x2⟩
  · have HC := Lib.hid (okD_no ok)
    have hb' : b = false := by rw [← hb]; cases q : ordB N E with
      | false => rfl
      | true => exact absurd (ordB_iff.1 q).1 ok
    subst hb'
    have hx' : xs = [] := by rw [← hx]; unfold ordL; rw [if_neg (by rw [hb]; simp)]
    subst hx'
    clear ok hx hb
    go_enter Try.func14, Try.ntmps14
    go_wp2_with (go_at_call 19; refine (refCheck_val _ _ _ E (HS.out.ext (by repeat (first | exact Ext.refl _ | assumption | refine Ext.alloc ?_ _ | refine Ext.drew ?_ | refine Ext.drewN ?_ _))) false HC.out).mono ?_; rintro e w1 ⟨rfl, x1⟩)
    go_ret2
    exact ⟨_, rfl, Ow.nil _ _, x1⟩

end Go.Proofs.Ythofgfdhcndpbaa
