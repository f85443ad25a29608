/- The document's nodes that arcs lead round. -/
import Derived.Test.YthofgfdhcndpbaaR7
namespace Go.Proofs.Ythofgfdhcndpbaa
open Go.RowKit

theorem head_least {l : List Int} (h : l.Pairwise (· < ·)) : ∀ x ∈ l, l.headD 0 ≤ x := fun x hx => by
  cases l with
  | nil => simp at hx
  | cons y l =>
    rcases List.mem_cons.1 hx with rfl | hx
    · exact Int.le_refl _
    · have := (List.pairwise_cons.1 h).1 x hx
      show y ≤ x
      omega
theorem next_least {L : List Arc} {l : List Int} (hs : l.Pairwise (· < ·)) {v u : Int} (hu : u ∈ l) (h : (⟨u, v⟩ : Arc) ∈ L) : nextOf L l v ≤ u := by
  obtain ⟨k, hk, h1, h2, h3⟩ := next_find ⟨u, hu, h⟩
  rw [← h3]
  obtain ⟨j, hj, rfl⟩ := List.getElem_of_mem hu
  rw [getD_at hk]
  rcases Nat.lt_or_ge j k with hjk | hjk
  · have := h2 j hjk
    rw [getD_at hj] at this
    exact absurd h this
  · rcases Nat.lt_or_ge k j with hkj | hkj
    · exact Int.le_of_lt (List.pairwise_iff_getElem.1 hs k j hk hj hkj)
    · obtain rfl : k = j := by omega
      exact Int.le_refl _

/-- The last steps: those from the least on, and those ahead of it. -/
theorem rot_eq {L : List Arc} {l C w : List Int} {a : Int} (h : Wy L l C w a) {k i : Nat} (hk : k < w.reverse.length) (ha : w.reverse.getD k 0 = a) (hi : i < (w.reverse.take (k + 1)).length) (hm : ∀ j, j < (w.reverse.take (k + 1)).length → (w.reverse.take (k + 1)).getD i 0 ≤ (w.reverse.take (k + 1)).getD j 0) :
    (w.reverse.take (k + 1)).drop i ++ (w.reverse.take (k + 1)).take i = C := by
  obtain ⟨e, hmem⟩ := take_first h.nodup hk ha
  have hn : (w.reverse.take (k + 1)).Nodup := List.Nodup.sublist (List.take_sublist _ _) ((List.reverse_perm w).nodup_iff.2 h.nodup)
  have hidx := first_min hn hi hm
  rw [← h.stop hmem]
  unfold turnedOf rotate
  rw [← e, ← hidx]

theorem refCycle_no (w : World) (N : Int) (v : Value) (E : List Arc) (h : Sl w v E) (hno : cycB N E = false) :
    Calls Try.prog 21 #[.int .i64 N, v] w (GivesT w [] false) := by
  obtain ⟨ao, c, rfl⟩ := h.len
  have HS := Lib.hid h
  clear h
  by_cases ok : OkD N E
  · have HC := Lib.hid (okD_iff.2 ok)
    have h0 := ok.n0
    have h64 := ok.n64
    have HO := Lib.hid ok
    obtain ⟨n, rfl⟩ := Int.eq_ofNat_of_zero_le h0
    have hn64 : n ≤ 64 := by omega
    have he : (peeled (n : Int) E).2 = [] := by
      cases e : (peeled (n : Int) E).2 with
      | nil => rfl
      | cons x l => rw [cycB_iff.2 ⟨ok, by rw [e]; simp⟩] at hno; cases hno
    obtain ⟨hp, _⟩ := peeled_spec ok
    rw [he] at hp
    obtain ⟨T, hT⟩ : ∃ T, T = (peeled (n : Int) E).1 := ⟨_, rfl⟩
    rw [← hT] at hp
    have HP := Lib.hid hp
    have HT := Lib.hid hT
    clear ok hno he hp hT
    go_enter Try.func21, Try.ntmps21
    go_wp2_with (first
      | (go_at_call 19; refine (refCheck_val _ _ _ E (HS.out.ext (by repeat (first | exact Ext.refl _ | assumption | refine Ext.alloc ?_ _ | refine Ext.drew ?_ | refine Ext.drewN ?_ _))) true HC.out).mono ?_; rintro e w1 ⟨rfl, x1⟩)
      | (go_at_call 35; refine (refTold_any _ _ _ E (HS.out.ext (by repeat (first | exact Ext.refl _ | assumption | exact Hid.out (by assumption) | refine Ext.alloc ?_ _ | refine Ext.drew ?_ | refine Ext.drewN ?_ _ | refine Ext.trans ?_ (by assumption)))) HO.out).mono ?_; rintro e w2 ⟨v2, rfl, ho2, x2⟩; rw [← HT.out] at ho2; obtain ⟨ao2, c2, rfl⟩ := ho2.sl.len; have O2 := Lib.hid ho2.sl; have y2 := Ext.trans x1 x2; clear ho2))
    go_loop [7] (fun s7 => ∃ a : Nat, a ≤ n ∧ s7 = .int .i64 a) (fun s7 => n - (intOf s7).toNat)
    case atStart => exact ⟨0, Nat.zero_le _, rfl⟩
    case round =>
      obtain ⟨a, ha, rfl⟩ := hrel
      by_cases han : a < n
      · have HM : Hid (decide ((a : Int) ∈ T) = true) := Lib.hid (decide_eq_true ((HP.out.mem.2 ⟨by omega, by omega⟩).resolve_right (by simp)))
        go_wp2_with (go_at_call 42; refine (refHas_val _ _ T _ O2.out true HM.out).mono ?_; rintro e w' ⟨rfl, rfl⟩)
        go_round
        case rel => exact ⟨a + 1, by omega, by go_num⟩
        case measure => simp [intOf]; omega
      · have hane : a = n := by omega
        have q1 : ((a : Int) == (n : Int)) = true := by simp [hane]
        clear hane
        go_wp2
        go_ret2
        exact ⟨_, rfl, Ow.nil _ _, y2⟩
  · have HC := Lib.hid (okD_no ok)
    clear ok hno
    go_enter Try.func21, Try.ntmps21
    go_wp2_with (first
      | (go_at_call 19; refine (refCheck_val _ _ _ E (HS.out.ext (by repeat (first | exact Ext.refl _ | assumption | refine Ext.alloc ?_ _ | refine Ext.drew ?_ | refine Ext.drewN ?_ _))) false HC.out).mono ?_; rintro e w1 ⟨rfl, x1⟩))
    go_ret2
    exact ⟨_, rfl, Ow.nil _ _, x1⟩

set_option maxRecDepth 100000 in
set_option maxHeartbeats 8000000 in
theorem refCycle_yes (w : World) (n : Nat) (v : Value) (E : List Arc) (h : Sl w v E) (ok : OkD (n : Int) E) (hne : (peeled (n : Int) E).2 ≠ []) :
    Calls Try.prog 21 #[.int .i64 n, v] w (GivesT w (cycleOf (n : Int) E) true) := by
  obtain ⟨ao, c, rfl⟩ := h.len
  have hle := h.length_le
  have HS := Lib.hid h
  have HC := Lib.hid (okD_iff.2 ok)
  have hn64 : n ≤ 64 := by have := ok.n64; omega
  have HO := Lib.hid ok
  obtain ⟨hp, hhit⟩ := peeled_spec ok
  have hlen := hp.len
  have hst := Wy.start hne
  have hpos : 0 < (peeled (n : Int) E).2.length := List.length_pos_iff.2 hne
  obtain ⟨l, hl⟩ : ∃ l, l = (peeled (n : Int) E).2 := ⟨_, rfl⟩
  obtain ⟨T, hT⟩ : ∃ T, T = (peeled (n : Int) E).1 := ⟨_, rfl⟩
  obtain ⟨C, hCd⟩ : ∃ C, C = cycleOf (n : Int) E := ⟨_, rfl⟩
  rw [← hl, ← hT] at hp
  rw [← hl] at hhit hst hpos hlen
  rw [← hCd] at hst ⊢
  have hll : l.length ≤ 64 := by omega
  have hrange : ∀ x ∈ l, 0 ≤ x ∧ x < (n : Int) := fun x hx => by have := hp.mem.1 (.inr hx); omega
  have hl0 := hst.here
  obtain ⟨z, hz⟩ : ∃ z, z = l.headD 0 := ⟨_, rfl⟩
  have hleast := head_least hp.rise
  rw [← hz] at hst hl0 hleast
  obtain ⟨z0, rfl⟩ := Int.eq_ofNat_of_zero_le (hrange z hl0).1
  have hz0n : z0 < n := by have := (hrange _ hl0).2; omega
  have hnT : ∀ a : Nat, a < n → decide ((a : Int) ∈ T) = !decide ((a : Int) ∈ l) := fun a ha => by
    rcases hp.mem.2 (show 0 ≤ (a : Int) ∧ (a : Int) < ((n : Int).toNat : Int) by omega) with h1 | h1
    · rw [decide_eq_true h1, decide_eq_false (fun e => hp.apart h1 e)]; rfl
    · rw [decide_eq_false (fun e => hp.apart e h1), decide_eq_true h1]; rfl
  have HT := Lib.hid hT
  have HH := Lib.hid hhit
  have HR := Lib.hid hrange
  have HST := Lib.hid hst
  have HNT := Lib.hid hnT
  have HL0 := Lib.hid hl0
  have HLE := Lib.hid hleast
  have HRISE := Lib.hid hp.rise
  clear h ok hne hp hhit hst hl hT hCd hrange hl0 hz hleast hnT hlen
  go_enter Try.func21, Try.ntmps21
  go_wp2_with (first
    | (go_at_call 19; refine (refCheck_val _ _ _ E (HS.out.ext (by repeat (first | exact Ext.refl _ | assumption | refine Ext.alloc ?_ _ | refine Ext.drew ?_ | refine Ext.drewN ?_ _))) true HC.out).mono ?_; rintro e w1 ⟨rfl, x1⟩)
    | (go_at_call 35; refine (refTold_any _ _ _ E (HS.out.ext (by repeat (first | exact Ext.refl _ | assumption | exact Hid.out (by assumption) | refine Ext.alloc ?_ _ | refine Ext.drew ?_ | refine Ext.drewN ?_ _ | refine Ext.trans ?_ (by assumption)))) HO.out).mono ?_; rintro e w2 ⟨v2, rfl, ho2, x2⟩; rw [← HT.out] at ho2; obtain ⟨ao2, c2, rfl⟩ := ho2.sl.len; have O2 := Lib.hid ho2.sl; have y2 := Ext.trans x1 x2; clear ho2))
  have X2 := Lib.hid y2
  have hs2 : w.heap.size ≤ w2.heap.size := y2.size
  go_loop [7] (fun s7 => ∃ a : Nat, a ≤ z0 ∧ s7 = .int .i64 a) (fun s7 => n - (intOf s7).toNat)
  case atStart => exact ⟨0, Nat.zero_le _, rfl⟩
  case round =>
    obtain ⟨a, ha, rfl⟩ := hrel
    have han : a < n := by omega
    by_cases haz : a < z0
    · have HM : Hid (decide ((a : Int) ∈ T) = true) := Lib.hid (by rw [HNT.out a han, decide_eq_false (fun e => by have := HLE.out _ e; omega)]; rfl)
      go_wp2_with (go_at_call 42; refine (refHas_val _ _ T _ O2.out true HM.out).mono ?_; rintro e w' ⟨rfl, rfl⟩)
      go_round
      case rel => exact ⟨a + 1, by omega, by go_num⟩
      case measure => simp [intOf]; omega
    · have hae : a = z0 := by omega
      have HM : Hid (decide ((a : Int) ∈ T) = false) := Lib.hid (by rw [HNT.out a han, hae, decide_eq_true HL0.out]; rfl)
      have HST2 : Hid (Wy E l C [] (a : Int)) := Lib.hid (by rw [hae]; exact HST.out)
      have q1 : ((a : Int) == (n : Int)) = false := beq_eq_false_iff_ne.2 (by omega)
      clear hae
      go_wp2_with (go_at_call 42; refine (refHas_val _ _ T _ O2.out false HM.out).mono ?_; rintro e w' ⟨rfl, rfl⟩)
      go_loopw [7, 8] (fun s7 s8 wr => ∃ (a : Nat) (R : List Int) (g8 c8 : Nat), s7 = .int .i64 a ∧ s8 = .slice (some ⟨g8, 0, none⟩) R.length c8 ∧ R.length ≤ l.length ∧ a < n ∧ Hid (Ow wr w2.heap.size (.slice (some ⟨g8, 0, none⟩) R.length c8) R) ∧ Hid (Wy E l C R.reverse (a : Int)) ∧ Hid (Ext w2 wr)) (fun _ s8 _ => l.length + 1 - lenOf s8)
      case atStart => exact ⟨a, [], w2.heap.size, 0, rfl, rfl, by simp, han, Lib.hid (Ow.lit w2 _ (Nat.le_refl _) [] (by simp)), HST2, Lib.hid ((Ext.refl _).alloc _)⟩
      case round =>
        clear HST2 HM q1 han haz ha
        obtain ⟨a, R, g8, c8, rfl, rfl, hRl, han, HW, HY, HX⟩ := hrel
        obtain ⟨g9, c9, e9, _, hg8l, hRc, hc8⟩ := HW.out.shape (by simp)
        simp only [Value.slice.injEq, Option.some.injEq, Addr.mk.injEq, and_true, true_and] at e9
        obtain ⟨rfl, rfl⟩ := e9
        by_cases hin : (a : Int) ∈ R
        · have HM : Hid (decide ((a : Int) ∈ R) = true) := Lib.hid (decide_eq_true hin)
          clear hin
          go_wp2_with (go_at_call 42; refine (refHas_val _ _ R _ HW.out.sl true HM.out).mono ?_; rintro e w' ⟨rfl, rfl⟩)
          obtain ⟨W0, rfl⟩ : ∃ W0, W0 = wr := ⟨_, rfl⟩
          have hR64 : R.length ≤ 64 := by omega
          have HMEM : Hid ((a : Int) ∈ R) := Lib.hid (of_decide_eq_true HM.out)
          have hR0 : 0 < R.length := List.length_pos_of_mem HMEM.out
          have HWS := Lib.hid HW.out.sl
          go_loopw [13, 14] (fun s13 s14 wr => ∃ i : Nat, i < R.length ∧ s14 = .int .i64 i ∧ Hid (Ow wr W0.heap.size s13 (R.take i)) ∧ Hid (s13 ≠ .slice none 0 0) ∧ Hid ((a : Int) ∉ R.take i) ∧ Hid (Ext W0 wr)) (fun _ s14 _ => R.length - (intOf s14).toNat)
          case atStart => exact ⟨0, hR0, rfl, Lib.hid (Ow.lit W0 _ (Nat.le_refl _) [] (by simp)), Lib.hid (by simp), Lib.hid (by simp), Lib.hid ((Ext.refl _).alloc _)⟩
          case round =>
            obtain ⟨i, hiR, rfl, HO13, HN13, HNI, HX13⟩ := hrel
            have hiRi : (i : Int) < (R.length : Int) := by omega
            obtain ⟨bR, oR, eR, hqR, _, _, hbR, hcR⟩ := HWS.out.intsAt hiR
            simp only [Option.some.injEq, Addr.mk.injEq, and_true] at eR
            obtain ⟨rfl, rfl⟩ := eR
            obtain ⟨ri, hri⟩ : ∃ ri, ri = R.getD i 0 := ⟨_, rfl⟩
            rw [← hri, Nat.zero_add] at hcR
            have HCR : Hid (∀ W, Ext W0 W → W.cell? ⟨g8, i, none⟩ = some (.int .i64 ri)) := Lib.hid fun W hW => (hW.cell (p := ⟨g8, i, none⟩) hbR).trans hcR
            have hc1 := HCR.out _ HX13.out
            have HNX : Hid (R.take (i + 1) = R.take i ++ [ri]) := Lib.hid (by rw [take_next hiR 0, ← hri])
            obtain ⟨P, hP⟩ : ∃ P, P = R.take i := ⟨_, rfl⟩
            have hPl : P.length ≤ 64 := by rw [hP, List.length_take]; omega
            have HP := Lib.hid hP
            rw [← hP] at HO13 HNI HNX
            have HRI := Lib.hid hri
            have hwr : W0.heap.size ≤ wr.heap.size := HX13.out.size
            clear hP hri hcR hqR
            by_cases hra : ri = (a : Int)
            · have q1 : (ri == (a : Int)) = true := by simp [hra]
              have HRA := Lib.hid hra
              clear hra
              go_wp2_with ((at_builtin; refine wpList_append_sl (α := Int) rfl (.tmp 92) (.tmp 97) rfl W0.heap.size _ P rfl ?_ (.slice (some ⟨_, 0, none⟩) 1 1) [ri] rfl ?_ ?_ ?_ ?_; exact (HO13.out.alloc _); exact (Sl.litAt _ _ (by simp) [ri] (by simp)); (first | omega | (simp; omega)); exact (by first | (simp; done) | (simp; omega)); intro v3 W3 ho3 ha3; have y3 : Hid (Ext W0 W3) := Lib.hid (Below.trans (HX13.out.alloc _) ha3.below); obtain ⟨g3, c3, rfl, _, hg3l, hc3a, hc3b⟩ := ho3.shape (ha3.kept HN13.out); have O3 := Lib.hid ho3; clear ho3 ha3; have hc3 := HCR.out _ y3.out))
              obtain ⟨K, hK⟩ : ∃ K, K = P ++ [ri] := ⟨_, rfl⟩
              have hKl : K.length = P.length + 1 := by rw [hK]; simp
              have OK3 : Hid (Ow W3 W0.heap.size (.slice (some ⟨g3, 0, none⟩) (P.length + 1) c3) K) := Lib.hid (by rw [hK]; have := O3.out; rwa [List.length_append, List.length_singleton] at this)
              have HKR : Hid (K = R.take (i + 1)) := Lib.hid (by rw [hK, HNX.out])
              have HROT : Hid (∀ li : Nat, li < P.length + 1 → (∀ j, j < P.length + 1 → K.getD li 0 ≤ K.getD j 0) → K.drop li ++ K.take li = C) := Lib.hid fun li hli hmin => by
                have := rot_eq HY.out (k := i) (i := li) (by rw [List.reverse_reverse]; exact hiR) (by rw [List.reverse_reverse, ← HRI.out, HRA.out])
                rw [List.reverse_reverse, ← HKR.out, hKl] at this
                exact this hli hmin
              have HKL := Lib.hid hKl
              have hP65 : P.length + 1 ≤ 65 := by omega
              have hPc : P.length + 1 ≤ c3 := by rw [List.length_append, List.length_singleton] at hc3a; exact hc3a
              clear hK hKl O3 hc3a
              go_loopw [15, 16] (fun s15 s16 wr => ∃ li j : Nat, li < P.length + 1 ∧ j ≤ P.length + 1 ∧ s15 = .int .i64 li ∧ s16 = .int .i64 j ∧ Hid (∀ j', j' < j → K.getD li 0 ≤ K.getD j' 0) ∧ Hid (Drew W3 wr)) (fun _ s16 _ => P.length + 1 - (intOf s16).toNat)
              case atStart => exact ⟨0, 0, by omega, by omega, rfl, rfl, Lib.hid (fun j hj => by omega), Lib.hid (Drew.refl _)⟩
              case round =>
                obtain ⟨li, j, hli, hj, rfl, rfl, HMI, HD⟩ := hrel
                have hlii : (li : Int) < (P.length : Int) + 1 := by omega
                by_cases hjl : j < P.length + 1
                · have hji : (j : Int) < (P.length : Int) + 1 := by omega
                  obtain ⟨b1, o1, e1, hq1, _, _, _, c1⟩ := OK3.out.sl.intsAt (show j < K.length by rw [HKL.out]; exact hjl)
                  obtain ⟨b2, o2, e2, hq2, _, _, _, c2⟩ := OK3.out.sl.intsAt (show li < K.length by rw [HKL.out]; exact hli)
                  simp only [Option.some.injEq, Addr.mk.injEq, and_true] at e1 e2
                  obtain ⟨rfl, rfl⟩ := e1
                  obtain ⟨rfl, rfl⟩ := e2
                  rw [Nat.zero_add] at c1 c2
                  obtain ⟨kj, hkj⟩ : ∃ kj, kj = K.getD j 0 := ⟨_, rfl⟩
                  obtain ⟨kl, hkl⟩ : ∃ kl, kl = K.getD li 0 := ⟨_, rfl⟩
                  rw [← hkj] at c1
                  rw [← hkl] at c2
                  have hcj := (HD.out.cell ⟨g3, j, none⟩).trans c1
                  have hcl := (HD.out.cell ⟨g3, li, none⟩).trans c2
                  have HKJ := Lib.hid hkj
                  have HKLI := Lib.hid hkl
                  clear hkj hkl hq1 hq2 c1 c2
                  by_cases hlt : kj < kl
                  · go_wp2
                    go_quiet (fail)
                    go_wp2
                    go_roundw
                    case rel =>
                      refine ⟨j, j + 1, hjl, by omega, rfl, by go_num, Lib.hid fun j' hj' => ?_, Lib.hid (HD.out.more _)⟩
                      rw [← HKJ.out]
                      rcases Nat.lt_or_ge j' j with h | h
                      · have := HMI.out j' h
                        rw [← HKLI.out] at this
                        omega
                      · rw [show j' = j from by omega, ← HKJ.out]; omega
                    case measure => simp [intOf]; omega
                  · have hltb : decide (kj < kl) = false := decide_eq_false hlt
                    go_wp2
                    go_quiet (fail)
                    go_wp2
                    go_roundw
                    case rel =>
                      refine ⟨li, j + 1, hli, by omega, rfl, by go_num, Lib.hid fun j' hj' => ?_, Lib.hid (HD.out.more _)⟩
                      rcases Nat.lt_or_ge j' j with h | h
                      · exact HMI.out j' h
                      · rw [show j' = j from by omega, ← HKJ.out, ← HKLI.out]; omega
                    case measure => simp [intOf]; omega
                · have HCC := Lib.hid (HROT.out li hli (fun j' hj' => HMI.out j' (by omega)))
                  have hw3 : W0.heap.size ≤ wr.heap.size := by have := y3.out.size; have := HD.out.size; omega
                  have HX4 : Hid (Ext W3 wr) := Lib.hid (Ext.of_drew HD.out)
                  have HX1 : Hid (∀ W, Ext wr W → Sl W (.slice (some ⟨g3, li, none⟩) (P.length + 1 - li) (c3 - li)) (K.drop li)) := Lib.hid fun W hW => by
                    have := (OK3.out.sl.ext (HX4.out.trans hW)).cut li (P.length + 1 - li) (by rw [HKL.out]; omega) (by omega)
                    rw [show 0 + li * Elem.k Int = li from by show 0 + li * 1 = _; omega] at this
                    rwa [List.take_of_length_le (by rw [List.length_drop, HKL.out]; exact Nat.le_refl _)] at this
                  have HX2 : Hid (∀ W, Ext wr W → Sl W (.slice (some ⟨g3, 0, none⟩) li c3) (K.take li)) := Lib.hid fun W hW => by
                    have := (OK3.out.sl.ext (HX4.out.trans hW)).cut 0 li (by rw [HKL.out]; omega) (by omega)
                    simpa using this
                  have HL1 : Hid ((K.drop li).length ≤ 65 ∧ (K.take li).length ≤ 65) := Lib.hid (by rw [List.length_drop, List.length_take, HKL.out]; omega)
                  have hl0 : (0 : Int) ≤ (li : Int) := by omega
                  have hlc : (li : Int) ≤ (c3 : Int) := by omega
                  have hlc2 : li ≤ c3 := by omega
                  have hlc3 : ¬ c3 = li := by omega
                  have hlp : li ≤ P.length + 1 := by omega
                  have hlp2 : (li : Int) ≤ (P.length : Int) + 1 := by omega
                  obtain ⟨D1, hD1⟩ : ∃ D1, D1 = K.drop li := ⟨_, rfl⟩
                  obtain ⟨D2, hD2⟩ : ∃ D2, D2 = K.take li := ⟨_, rfl⟩
                  rw [← hD1] at HX1 HCC HL1
                  rw [← hD2] at HX2 HCC HL1
                  have hD1l : D1.length ≤ 65 := HL1.out.1
                  have hD2l : D2.length ≤ 65 := HL1.out.2
                  clear hD1 hD2 hlii
                  go_wp2
                  go_region_law (first
                    | (refine step_append_sl (α := Int) rfl (.tmp 121) (.tmp 124) rfl wr.heap.size (.slice (some ⟨_, 0, none⟩) 0 0) [] rfl ?_ (.slice (some ⟨g3, li, none⟩) (P.length + 1 - li) (c3 - li)) D1 rfl ?_ ?_ ?_ ?_; (first | exact Ow.litAt _ _ _ (by simp) (by simp) [] (by simp) | exact (Ow.litAt wr _ _ (by simp) (by simp) [] (by simp)).drew); (first | exact HX1.out _ (Ext.drew ((Ext.refl wr).alloc _)) | exact HX1.out _ (Ext.alloc (Ext.refl wr).drew _)); (simp; omega); exact (Nat.le_trans (Nat.le_succ _) (Nat.le_of_eq (size_alloc wr (.cells #[] 3)).symm)); intro v5 W5 ho5 ha5; obtain ⟨ao5, n5, c5, rfl⟩ := ho5.sh; have hx5 : Ext wr W5 := Below.trans (by first | exact (Ext.drew ((Ext.refl wr).alloc _)) | exact (Ext.alloc (Ext.refl wr).drew _)) ha5.below; have hw5 : wr.heap.size ≤ W5.heap.size := hx5.size; have HX5 := Lib.hid hx5; have HO5 := Lib.hid ho5; clear hx5 ho5 ha5)
                    | (refine step_append_sl (α := Int) rfl (.tmp 125) (.tmp 128) rfl wr.heap.size (.slice ao5 n5 c5) ([] ++ D1) rfl ?_ (.slice (some ⟨g3, 0, none⟩) li c3) D2 rfl ?_ ?_ ?_ ?_; exact HO5.out; exact HX2.out _ HX5.out; (simp; omega); exact hw5; intro v6 W6 ho6 ha6; obtain ⟨ao6, n6, c6, rfl⟩ := ho6.sh; have hx6 : Ext wr W6 := Below.trans HX5.out ha6.below; have HX6 := Lib.hid hx6; have HO6 := Lib.hid ho6; clear hx6 ho6 ha6))
                  all_goals
                    go_wp2
                    go_ret2
                    exact ⟨_, rfl, by rw [← HCC.out]; have := HO6.out; rw [List.nil_append] at this; exact this.mono (by have := HX.out.size; omega), (X2.out.trans HX.out).trans (y3.out.trans (HX4.out.trans HX6.out))⟩
            · have q1 : (ri == (a : Int)) = false := by simp [hra]
              have hnm : (a : Int) ∉ P ++ [ri] := by
                rw [List.mem_append, List.mem_singleton]
                exact fun h => h.elim HNI.out (fun e => hra e.symm)
              have hi2 : i + 1 < R.length := by
                rcases Nat.lt_or_ge (i + 1) R.length with h | h
                · exact h
                · exfalso
                  rw [← HNX.out, List.take_of_length_le h] at hnm
                  exact hnm HMEM.out
              have HNM := Lib.hid hnm
              clear hra hnm
              go_wp2_with ((at_builtin; refine wpList_append_sl (α := Int) rfl (.tmp 92) (.tmp 97) rfl W0.heap.size _ P rfl ?_ (.slice (some ⟨_, 0, none⟩) 1 1) [ri] rfl ?_ ?_ ?_ ?_; exact (HO13.out.alloc _); exact (Sl.litAt _ _ (by simp) [ri] (by simp)); (first | omega | (simp; omega)); exact (by first | (simp; done) | (simp; omega)); intro v3 W3 ho3 ha3; have y3 : Hid (Ext W0 W3) := Lib.hid (Below.trans (HX13.out.alloc _) ha3.below); have N3 := Lib.hid (ha3.kept HN13.out); have O3 := Lib.hid ho3; clear ho3 ha3; have hc3 := HCR.out _ y3.out))
              go_roundw
              case rel => exact ⟨i + 1, hi2, by go_num, Lib.hid (by rw [HNX.out]; exact O3.out), N3, Lib.hid (by rw [HNX.out]; exact HNM.out), y3⟩
              case measure => simp [intOf]; omega
        · have HM : Hid (decide ((a : Int) ∈ R) = false) := Lib.hid (decide_eq_false hin)
          have hal := HY.out.here
          obtain ⟨hm1, hm2⟩ := next_is (HH.out _ hal)
          have HN := Lib.hid (HY.out.next HH.out (fun e => hin (List.mem_reverse.1 e)))
          have hfew := HN.out.few
          rw [List.length_append, List.length_singleton, List.length_reverse] at hfew
          have hR64 : R.length ≤ 64 := by omega
          have hless : ∀ u ∈ l, (⟨u, (a : Int)⟩ : Arc) ∈ E → nextOf E l (a : Int) ≤ u := fun u hu hua => next_least HRISE.out hu hua
          obtain ⟨mz, hmz⟩ : ∃ mz, mz = nextOf E l (a : Int) := ⟨_, rfl⟩
          rw [← hmz] at hm1 hm2 HN hless
          obtain ⟨m, rfl⟩ := Int.eq_ofNat_of_zero_le (HR.out mz hm1).1
          have hmn : m < n := by have := (HR.out _ hm1).2; omega
          have HM1 := Lib.hid hm1
          have HM2 := Lib.hid hm2
          have HLS := Lib.hid hless
          have hwr : w2.heap.size ≤ wr.heap.size := HX.out.size
          clear hin hal hm1 hm2 hless hmz
          go_wp2_with (first
            | (go_at_call 42; refine (refHas_val _ _ R _ HW.out.sl false HM.out).mono ?_; rintro e w' ⟨rfl, rfl⟩)
            | (at_builtin; refine wpList_append_sl (α := Int) rfl (.tmp 43) (.tmp 44) rfl w2.heap.size (.slice (some ⟨_, 0, none⟩) 1 1) [(a : Int)] rfl ?_ (.slice (some ⟨g8, 0, none⟩) R.length c8) R rfl ?_ ?_ ?_ ?_; exact (Ow.litAt wr _ _ rfl hwr [(a : Int)] (by simp)); exact (HW.out.sl.ext ((Ext.refl _).alloc _)); (first | omega | (simp; omega)); exact (by first | (simp; done) | (simp; omega)); intro v3 W3 ho3 ha3; have y3 : Hid (Ext w2 W3) := Lib.hid (Below.trans (HX.out.alloc _) ha3.below); obtain ⟨g3, c3, rfl, _, _, _, _⟩ := ho3.shape (ha3.kept (by simp)); have O3 := Lib.hid ho3; clear ho3 ha3))
          go_loop [9] (fun s9 => ∃ f : Nat, f ≤ m ∧ s9 = .int .i64 f) (fun s9 => n - (intOf s9).toNat)
          case atStart => exact ⟨0, Nat.zero_le _, rfl⟩
          case round =>
            obtain ⟨f, hf, rfl⟩ := hrel
            have hfn : f < n := by omega
            obtain ⟨q, hq⟩ : ∃ q, decide ((f : Int) ∈ l) = q := ⟨_, rfl⟩
            have HQL := Lib.hid hq
            have HTq : Hid (decide ((f : Int) ∈ T) = !q) := Lib.hid (by rw [HNT.out f hfn, hq])
            clear hq
            go_wp2_with (go_at_call 42; refine (refHas_val _ _ T _ (O2.out.ext y3.out) _ HTq.out).mono ?_; rintro e w' ⟨rfl, rfl⟩)
            go_loop [11, 12] (fun s11 s12 => ∃ (i : Nat) (s : Bool), i ≤ E.length ∧ s11 = .bool s ∧ s12 = .int .i64 i ∧ Hid (((E.take i).any fun y => decide (y.a = (f : Int)) && decide (y.b = (a : Int))) = s)) (fun _ s12 => E.length - (intOf s12).toNat)
            case atStart => exact ⟨0, false, Nat.zero_le _, rfl, rfl, Lib.hid rfl⟩
            case round =>
              obtain ⟨i, s, hi, rfl, rfl, HA⟩ := hrel
              by_cases hil : i < E.length
              · obtain ⟨b, off, hao, hq1, hnc, hc63, hb, hya0, hyb0⟩ := HS.out.arcsAt hil
                subst hao
                have hya := ((X2.out.trans y3.out).cell (p := ⟨b, off + i * 2, none⟩) hb).trans hya0
                have hyb := ((X2.out.trans y3.out).cell (p := ⟨b, off + i * 2 + 1, none⟩) hb).trans hyb0
                obtain ⟨⟨ya, yb⟩, hy⟩ : ∃ y, y = E.getD i ⟨0, 0⟩ := ⟨_, rfl⟩
                rw [← hy] at hya hyb
                have HNX : Hid (((E.take (i + 1)).any fun y => decide (y.a = (f : Int)) && decide (y.b = (a : Int))) = (s || (decide (ya = (f : Int)) && decide (yb = (a : Int))))) := Lib.hid (by rw [any_next _ hil ⟨0, 0⟩, ← hy, HA.out])
                clear hy hya0 hyb0 hq1
                cases s
                · by_cases g1 : ya = (f : Int)
                  · have q1 : (ya == (f : Int)) = true := by simp [g1]
                    have G1 : Hid (decide (ya = (f : Int)) = true) := Lib.hid (by simpa using g1)
                    clear g1
                    by_cases g2 : yb = (a : Int)
                    · have q2 : (yb == (a : Int)) = true := by simp [g2]
                      have G2 : Hid (decide (yb = (a : Int)) = true) := Lib.hid (by simpa using g2)
                      clear g2
                      go_wp2
                      go_round
                      case rel => exact ⟨i + 1, true, by omega, rfl, by go_num, Lib.hid (by rw [HNX.out, G1.out, G2.out]; rfl)⟩
                      case measure => simp [intOf]; omega
                    · have q2 : (yb == (a : Int)) = false := by simp [g2]
                      have G2 : Hid (decide (yb = (a : Int)) = false) := Lib.hid (by simpa using g2)
                      clear g2
                      go_wp2
                      go_round
                      case rel => exact ⟨i + 1, false, by omega, rfl, by go_num, Lib.hid (by rw [HNX.out, G1.out, G2.out]; rfl)⟩
                      case measure => simp [intOf]; omega
                  · have q1 : (ya == (f : Int)) = false := by simp [g1]
                    have G1 : Hid (decide (ya = (f : Int)) = false) := Lib.hid (by simpa using g1)
                    clear g1 hyb
                    go_wp2
                    go_round
                    case rel => exact ⟨i + 1, false, by omega, rfl, by go_num, Lib.hid (by rw [HNX.out, G1.out]; rfl)⟩
                    case measure => simp [intOf]; omega
                · clear hya hyb
                  go_wp2
                  go_round
                  case rel => exact ⟨i + 1, true, by omega, rfl, by go_num, Lib.hid (by rw [HNX.out]; rfl)⟩
                  case measure => simp [intOf]; omega
              · have hil2 : i = E.length := by omega
                have HAE : Hid (decide ((⟨(f : Int), (a : Int)⟩ : Arc) ∈ E) = s) := Lib.hid (by
                  have := HA.out
                  rw [hil2, List.take_length] at this
                  rw [← this, Bool.eq_iff_iff]
                  simp only [decide_eq_true_eq, List.any_eq_true, Bool.and_eq_true]
                  constructor
                  · exact fun h => ⟨_, h, rfl, rfl⟩
                  · rintro ⟨⟨y1, y2⟩, h, h1, h2⟩
                    simp only at h1 h2
                    rw [← h1, ← h2]
                    exact h)
                clear hil2 HA
                by_cases hfm : f < m
                · have hqs : ¬ (q = true ∧ s = true) := by
                    rintro ⟨h1, h2⟩
                    have := HLS.out _ (of_decide_eq_true (HQL.out.trans h1)) (of_decide_eq_true (HAE.out.trans h2))
                    omega
                  cases q <;> cases s
                  all_goals first
                    | (exfalso; exact hqs ⟨rfl, rfl⟩)
                    | (clear hqs
                       go_wp2
                       go_round
                       case rel => exact ⟨f + 1, by omega, by go_num⟩
                       case measure => simp [intOf]; omega)
                · have hfme : f = m := by omega
                  have hq : q = true := by rw [← HQL.out, hfme]; exact decide_eq_true HM1.out
                  have hs : s = true := by rw [← HAE.out, hfme]; exact decide_eq_true HM2.out
                  subst hq hs
                  have HN2 : Hid (Wy E l C (R.reverse ++ [(a : Int)]) (f : Int)) := Lib.hid (by rw [hfme]; exact HN.out)
                  clear hfme
                  go_wp2
                  go_roundw
                  case rel => exact ⟨f, [(a : Int)] ++ R, g3, c3, rfl, by first | (simp; done) | (simp; omega), by first | (simp; done) | (simp; omega), hfn, O3, Lib.hid (by simpa using HN2.out), y3⟩
                  case measure => simp [lenOf]; omega

theorem refCycle_any (w : World) (N : Int) (v : Value) (E : List Arc) (h : Sl w v E) (xs : List Int) (b : Bool) (hx : cycL N E = xs) (hb : cycB N E = b) :
    Calls Try.prog 21 #[.int .i64 N, v] w (GivesT w xs b) := by
  cases b with
  | false =>
    have : xs = [] := by rw [← hx]; unfold cycL; rw [if_neg (by rw [hb]; simp)]
    subst this
    exact refCycle_no w N v E h hb
  | true =>
    obtain ⟨ok, hne⟩ := cycB_iff.1 hb
    have : xs = cycleOf N E := by rw [← hx]; unfold cycL; rw [if_pos hb]
    subst this
    obtain ⟨n, rfl⟩ := Int.eq_ofNat_of_zero_le ok.n0
    exact refCycle_yes w n v E h ok hne

end Go.Proofs.Ythofgfdhcndpbaa
