/- The document's answers: whom a node reaches; whether arcs lead round; the depths, by going through the arcs again and again. -/
import Derived.Test.YthofgfdhcndpbaaR5
namespace Go.Proofs.Ythofgfdhcndpbaa
open Go.RowKit

theorem reachP_few {N : Int} {L : List Arc} (ok : OkD N L) (x0 : Int) (k i : Nat) : (reachP (L.take i) x0 (reachN L x0 k)).length ≤ 64 := by
  obtain ⟨h1, h2⟩ := reachN_ok ok x0 k
  obtain ⟨h3, h4⟩ := reachP_ok ok x0 (L.take i) (fun x hx => List.mem_of_mem_take hx) _ h1 h2
  have := length_le_of_sub (ys := upto N.toNat) h3 (fun x hx => by rw [mem_upto]; have := h4 x hx; omega)
  rw [upto_length] at this
  have := ok.n64
  omega

set_option maxHeartbeats 2000000 in
theorem refReach_any (w : World) (n : Nat) (v : Value) (E : List Arc) (x : Int) (h : Sl w v E) (ok : OkD (n : Int) E) :
    Calls Try.prog 45 #[.int .i64 n, v, .int .i64 x] w (GivesOw w (reach (n : Int) E x)) := by
  obtain ⟨ao, c, rfl⟩ := h.len
  have hle := h.length_le
  have HS := Lib.hid h
  have HO := Lib.hid ok
  have h64 := ok.n64
  have hn64 : n ≤ 64 := by omega
  clear h ok
  go_enter Try.func45, Try.ntmps45
  go_wp2
  go_loopw [7, 8] (fun q i wr => ∃ k : Nat, k ≤ n + 1 ∧ i = .int .i64 k ∧ Hid (Ow wr w.heap.size q (reachN E x k)) ∧ Hid (Ext w wr)) (fun _ i _ => n + 1 - (intOf i).toNat)
  case atStart => exact ⟨0, Nat.zero_le _, rfl, Lib.hid (Ow.lit w _ (Nat.le_refl _) [] (by simp)), Lib.hid ((Ext.refl _).alloc _)⟩
  case round =>
    obtain ⟨k, hk, rfl, HW, HX⟩ := hrel
    by_cases hlt : k ≤ n
    · go_wp2
      go_loopw [7, 9] (fun q i wi => ∃ i' : Nat, i' ≤ E.length ∧ i = .int .i64 i' ∧ Hid (Ow wi w.heap.size q (reachP (E.take i') x (reachN E x k))) ∧ Hid (Ext w wi)) (fun _ i _ => E.length - (intOf i).toNat)
      case atStart => exact ⟨0, Nat.zero_le _, rfl, HW, HX⟩
      case round =>
        obtain ⟨i, hi, rfl, HI, HXI⟩ := hrel
        by_cases hil : i < E.length
        · obtain ⟨b, off, hao, hq1, hnc, hc63, hb, hya0, hyb0⟩ := HS.out.arcsAt hil
          subst hao
          have hya := (HXI.out.cell (p := ⟨b, off + i * 2, none⟩) hb).trans hya0
          have hyb := (HXI.out.cell (p := ⟨b, off + i * 2 + 1, none⟩) hb).trans hyb0
          obtain ⟨⟨ya, yb⟩, hy⟩ : ∃ y, y = E.getD i ⟨0, 0⟩ := ⟨_, rfl⟩
          rw [← hy] at hya hyb
          have HN : Hid (reachP (E.take (i + 1)) x (reachN E x k) = reachS x (reachP (E.take i) x (reachN E x k)) ⟨ya, yb⟩) := Lib.hid (by rw [take_next hil ⟨0, 0⟩, ← hy, reachP_snoc])
          have hfew := reachP_few HO.out x k i
          obtain ⟨R, hR⟩ : ∃ R, R = reachP (E.take i) x (reachN E x k) := ⟨_, rfl⟩
          rw [← hR] at HI HN hfew
          have hwr : w.heap.size ≤ wr.heap.size := HXI.out.size
          clear hy hya0 hyb0 hq1 hR
          obtain ⟨s, hs⟩ : ∃ s, decide (ya ∈ R) = s := ⟨_, rfl⟩
          obtain ⟨t, ht⟩ : ∃ t, decide (yb ∈ R) = t := ⟨_, rfl⟩
          have HSS := Lib.hid hs
          have HTT := Lib.hid ht
          clear hs ht
          obtain ⟨ao7, n7, c7, rfl⟩ := HI.out.sh
          have HZ : Hid (reachS x R ⟨ya, yb⟩ = if (decide (ya = x) || s) && !t then R ++ [yb] else R) := Lib.hid (by
            unfold reachS
            rw [← HSS.out, ← HTT.out]
            simp)
          have HHas := Lib.hid (fun (z : Int) (r : Bool) (hr : (z = ya ∧ r = s) ∨ (z = yb ∧ r = t)) => refHas_val wr (.slice ao7 n7 c7) R z HI.out.sl r (by rcases hr with ⟨rfl, rfl⟩ | ⟨rfl, rfl⟩; exact HSS.out; exact HTT.out))
          by_cases g1 : ya = x
          · have q1 : (ya == x) = true := by simp [g1]
            have G1 := Lib.hid g1
            clear g1
            cases t
            all_goals
              go_wp2_with (first
                | (go_at_call 42; refine (HHas.out yb _ (.inr ⟨rfl, rfl⟩)).mono ?_; rintro e w' ⟨rfl, rfl⟩)
                | (at_builtin; refine wpList_append_sl (α := Int) rfl (.tmp 46) (.tmp 52) rfl w.heap.size _ R rfl ?_ (.slice (some ⟨_, 0, none⟩) 1 1) [yb] rfl ?_ ?_ ?_ ?_; exact (HI.out.alloc _); exact (Sl.litAt _ _ (by simp) [yb] (by simp)); (first | omega | (simp; omega)); exact (by first | (simp; done) | (simp; omega)); intro v3 W3 ho3 ha3; have O3 := Lib.hid ho3; have y3 : Hid (Ext w W3) := Lib.hid (Below.trans (HXI.out.alloc _) ha3.below); clear ho3 ha3))
              go_roundw
              case rel => exact ⟨i + 1, by omega, by go_num, Lib.hid (by rw [HN.out, HZ.out, G1.out]; simp only [decide_true, Bool.true_or, Bool.not_true, Bool.not_false, Bool.and_false, Bool.and_true, if_true, Bool.false_eq_true, if_false]; first | exact O3.out | exact HI.out), by first | exact y3 | exact HXI⟩
              case measure => simp [intOf]; omega
          · have q1 : (ya == x) = false := by simp [g1]
            have hne : ya ≠ yb ∨ s = t := by
              by_cases e : ya = yb
              · subst e; exact .inr (HSS.out.symm.trans HTT.out)
              · exact .inl e
            have G1 : Hid (decide (ya = x) = false) := Lib.hid (decide_eq_false g1)
            clear g1
            cases s
            · clear hne
              go_wp2_with (go_at_call 42; refine (HHas.out ya _ (.inl ⟨rfl, rfl⟩)).mono ?_; rintro e w' ⟨rfl, rfl⟩)
              go_roundw
              case rel => exact ⟨i + 1, by omega, by go_num, Lib.hid (by rw [HN.out, HZ.out, G1.out]; exact HI.out), HXI⟩
              case measure => simp [intOf]; omega
            · clear hne
              cases t
              all_goals
                go_wp2_with (first
                  | (go_at_call 42; refine (HHas.out _ _ (by first | exact .inl ⟨rfl, rfl⟩ | exact .inr ⟨rfl, rfl⟩)).mono ?_; rintro e w' ⟨rfl, rfl⟩)
                  | (at_builtin; refine wpList_append_sl (α := Int) rfl (.tmp 46) (.tmp 52) rfl w.heap.size _ R rfl ?_ (.slice (some ⟨_, 0, none⟩) 1 1) [yb] rfl ?_ ?_ ?_ ?_; exact (HI.out.alloc _); exact (Sl.litAt _ _ (by simp) [yb] (by simp)); (first | omega | (simp; omega)); exact (by first | (simp; done) | (simp; omega)); intro v3 W3 ho3 ha3; have O3 := Lib.hid ho3; have y3 : Hid (Ext w W3) := Lib.hid (Below.trans (HXI.out.alloc _) ha3.below); clear ho3 ha3))
                go_roundw
                case rel => exact ⟨i + 1, by omega, by go_num, Lib.hid (by rw [HN.out, HZ.out, G1.out]; simp only [Bool.or_true, Bool.not_true, Bool.not_false, Bool.and_false, Bool.and_true, if_true, Bool.false_eq_true, if_false]; first | exact O3.out | exact HI.out), by first | exact y3 | exact HXI⟩
                case measure => simp [intOf]; omega
        · have hil2 : i = E.length := by omega
          have HI2 : Hid (Ow wr w.heap.size u7 (reachN E x (k + 1))) := Lib.hid (by have := HI.out; rwa [hil2, List.take_length] at this)
          clear hil2 HI
          go_wp2
          go_roundw
          case rel => exact ⟨k + 1, by omega, by go_num, HI2, HXI⟩
          case measure => simp [intOf]; omega
    · have hkn : k = n + 1 := by omega
      have HI2 : Hid (Ow wr w.heap.size u7 (reach (n : Int) E x)) := Lib.hid (by have := HW.out; rw [hkn] at this; exact this)
      clear HW
      have hkn2 : ¬ ((k : Int) ≤ (n : Int)) := by omega
      clear hkn
      go_wp2
      go_ret
      exact ⟨_, rfl, HI2.out, HX.out⟩

theorem refRound_val (w : World) (n : Nat) (v : Value) (E : List Arc) (h : Sl w v E) (ok : OkD (n : Int) E) (r : Bool) (hr : roundD (n : Int) E = r) :
    Calls Try.prog 27 #[.int .i64 n, v] w fun e w' => e = .returned (.bool r) ∧ Ext w w' := by
  obtain ⟨ao, c, rfl⟩ := h.len
  have HS := Lib.hid h
  have HO := Lib.hid ok
  have HR := Lib.hid hr
  have hn64 : n ≤ 64 := by have := ok.n64; omega
  clear h ok hr
  go_enter Try.func27, Try.ntmps27
  go_wp2
  go_loopw [5] (fun i wr => ∃ k : Nat, k ≤ n ∧ i = .int .i64 k ∧ Hid (((upto k).any fun a => decide (a ∈ reach (n : Int) E a)) = false) ∧ Hid (Ext w wr)) (fun i _ => n - (intOf i).toNat)
  case atStart => exact ⟨0, Nat.zero_le _, rfl, Lib.hid rfl, Lib.hid (Ext.refl _)⟩
  case round =>
    obtain ⟨k, hk, rfl, HA, HX⟩ := hrel
    by_cases hlt : k < n
    · obtain ⟨s, hs⟩ : ∃ s, decide ((k : Int) ∈ reach (n : Int) E k) = s := ⟨_, rfl⟩
      have HSS := Lib.hid hs
      clear hs
      cases s
      all_goals
        go_wp2_with (first
          | (go_at_call 45; refine (refReach_any _ _ _ E (k : Int) (HS.out.ext HX.out) HO.out).mono ?_; rintro e w1 ⟨v1, rfl, ho1, x1⟩; obtain ⟨ao1, n1, c1, rfl⟩ := ho1.sh; have O1 := Lib.hid ho1; clear ho1)
          | (go_at_call 42; refine (refHas_val _ _ _ (k : Int) O1.out.sl _ HSS.out).mono ?_; rintro e w' ⟨rfl, rfl⟩))
      · go_roundw
        case rel => exact ⟨k + 1, by omega, by go_num, Lib.hid (by rw [upto_succ, List.any_append, HA.out]; simp [of_decide_eq_false HSS.out]), Lib.hid (HX.out.trans x1)⟩
        case measure => simp [intOf]; omega
      · go_ret
        exact ⟨ret_bool (by rw [← HR.out]; symm; exact List.any_eq_true.2 ⟨(k : Int), by rw [mem_upto]; omega, HSS.out⟩), HX.out.trans x1⟩
    · have hkn : k = n := by omega
      have HA2 := HA.out
      rw [hkn] at HA2
      have HA3 := Lib.hid HA2
      clear hkn HA2
      go_wp2
      go_ret
      exact ⟨ret_bool (by rw [← HR.out]; exact HA3.out.symm), HX.out⟩

end Go.Proofs.Ythofgfdhcndpbaa
