/- Colours: Round and Most. -/
import Derived.Test.YtalncechmhmdcaaY5
namespace Go.Proofs.Ytalncechmhmdcaa
open Go.RowKit

def roundR (N : Int) (E : List Edge) (c : List Int) : Int := if okG N E = true then (if cForm N c = true then 0 else 110) else 30
theorem form_iff {N : Int} {c : List Int} : cForm N c = true ↔ (c.length : Int) = N ∧ ∀ x ∈ c, 0 ≤ x := by
  simp [cForm, List.all_eq_true]
theorem any_neg (c : List Int) : (c.any fun x => decide (x < 0)) = !(c.all fun x => decide (0 ≤ x)) := by
  rw [List.not_all_eq_any_not]
  exact any_same fun x _ => by rw [← decide_not]; exact decide_eq_decide.2 (by omega)

theorem below_tells (w : World) : TellsP w (.func (.func 26) #[] #[]) (fun _ => True) (fun x => decide (x < 0)) :=
  ⟨26, _, rfl, enters_of Try.func26 (by kernel_rfl) rfl, fun W x hW _ => by
    change Calls Try.prog _ #[.int .i64 x] W _
    by_cases h : x < 0
    · rw [decide_eq_true h]
      go_enter Try.func26, Try.ntmps26
      go_wp2
      go_ret
      exact ⟨rfl, (by repeat (first | exact Ext.refl _ | assumption | refine Ext.alloc ?_ _ | refine Ext.drew ?_ | refine Ext.drewN ?_ _))⟩
    · rw [decide_eq_false h]
      go_enter Try.func26, Try.ntmps26
      go_wp2
      go_ret
      exact ⟨rfl, (by repeat (first | exact Ext.refl _ | assumption | refine Ext.alloc ?_ _ | refine Ext.drew ?_ | refine Ext.drewN ?_ _))⟩⟩

/-- numbers and what is wrong come out -/
def GivesC (w : World) (d : List Int) (r : Int) (e : Ending) (w' : World) : Prop := ∃ v, e = .returned (.tuple #[v, .int .i64 r]) ∧ Sl w' v d ∧ Ext w w'
theorem Sl.none (w : World) : Sl w (.slice none 0 0) ([] : List Int) := Sl.empty _ _ _ (by omega) (fun _ => rfl)

set_option maxHeartbeats 2000000 in
theorem round_any (w : World) (N : Int) (v cv : Value) (E : List Edge) (c : List Int) (h : Sl w v E) (hc : Sl w cv c) (r : Int) (hr : roundR N E c = r) (d : List Int) (hd : (if r = 0 then roundL N E c else []) = d) :
    Calls Try.prog 11 #[.agg #[.int .i64 N, v], cv] w (GivesC w d r) := by
  obtain ⟨vo, vn, vc, rfl⟩ := h.sh
  obtain ⟨co, cc, rfl⟩ := hc.len
  have HS := Lib.hid h
  have HC := Lib.hid hc
  have hcl := hc.length_le
  have HG := Lib.hid (graph_at w N (.slice vo vn vc))
  clear h hc
  by_cases ok : OkG N E
  · have HK := Lib.hid (chk_of ok)
    have HOK := Lib.hid ok
    have n0 := ok.n0
    have n64 := ok.n64
    unfold roundR at hr
    rw [if_pos (okG_iff.2 ok)] at hr
    clear ok
    by_cases hl : (c.length : Int) = N
    · have hle : ((c.length : Int) != N) = false := by simp [hl]
      have HL := Lib.hid hl
      obtain ⟨t, ht⟩ : ∃ t, (c.any fun x => decide (x < 0)) = t := ⟨_, rfl⟩
      have HT := Lib.hid ht
      cases t
      · have hf : cForm N c = true := form_iff.2 ⟨hl, fun x hx => by have := List.any_eq_false.1 ht x hx; simpa using this⟩
        rw [if_pos hf] at hr
        subst hr
        rw [if_pos rfl] at hd
        subst hd
        clear ht hf hl
        go_enter Try.func11, Try.ntmps11
        go_wp2_with (first
          | (go_at_call 25; refine (check_any _ N _ E (HS.out.ext (by repeat (first | exact Ext.refl _ | assumption | refine Ext.alloc ?_ _ | refine Ext.drew ?_ | refine Ext.drewN ?_ _))) 0 HK.out).mono ?_; rintro e w1 ⟨rfl, hx⟩; have X1 := Lib.hid hx; obtain ⟨a0, a1⟩ := HG.out w1 hx; clear hx)
          | (go_at_call 27; refine (containsFunc_p _ _ _ c _ _ (HC.out.ext (Ext.trans ((Ext.refl w).alloc _) X1.out)) (below_tells _) (fun _ _ => trivial) false HT.out).mono ?_; rintro e w2 ⟨rfl, hx⟩; have X2 := Lib.hid (Ext.trans X1.out hx); obtain ⟨b0, b1⟩ := HG.out w2 X2.out; clear hx)
          | (go_at_call 29; refine (asker_any _ N _ E (HS.out.ext (Ext.trans ((Ext.refl w).alloc _) X2.out)) HOK.out).mono ?_; rintro e w3 ⟨fv, rfl, ha, hx⟩; obtain ⟨fg, fl, rfl⟩ := ha.sh; have X3 := Lib.hid (Ext.trans X2.out hx); have HA := Lib.hid ha; clear hx ha)
          | (go_at_call 28; refine (behind_any _ _ _ N E c HOK.out (HC.out.ext (Ext.trans ((Ext.refl w).alloc _) X3.out)) HL.out HA.out).mono ?_; rintro e w4 ⟨v4, rfl, ho, hx⟩; obtain ⟨a4, n4, c4, rfl⟩ := ho.sh; have X4 := Lib.hid (Ext.trans X3.out hx); have HO := Lib.hid ho; clear hx ho))
        go_ret2
        exact ⟨_, rfl, HO.out.sl, Ext.trans ((Ext.refl w).alloc _) X4.out⟩
      · have hf : ¬ cForm N c = true := fun e => by
          have hq := (form_iff.1 e).2
          obtain ⟨x, hx, hn⟩ := List.any_eq_true.1 ht
          have := hq x hx
          simp at hn
          omega
        rw [if_neg hf] at hr
        subst hr
        rw [if_neg (by decide)] at hd
        subst hd
        clear ht hf hl
        go_enter Try.func11, Try.ntmps11
        go_wp2_with (first
          | (go_at_call 25; refine (check_any _ N _ E (HS.out.ext (by repeat (first | exact Ext.refl _ | assumption | refine Ext.alloc ?_ _ | refine Ext.drew ?_ | refine Ext.drewN ?_ _))) 0 HK.out).mono ?_; rintro e w1 ⟨rfl, hx⟩; have X1 := Lib.hid hx; obtain ⟨a0, a1⟩ := HG.out w1 hx; clear hx)
          | (go_at_call 27; refine (containsFunc_p _ _ _ c _ _ (HC.out.ext (Ext.trans ((Ext.refl w).alloc _) X1.out)) (below_tells _) (fun _ _ => trivial) true HT.out).mono ?_; rintro e w2 ⟨rfl, hx⟩; have X2 := Lib.hid (Ext.trans X1.out hx); clear hx))
        go_ret2
        exact ⟨_, rfl, Sl.none _, Ext.trans ((Ext.refl w).alloc _) X2.out⟩
    · have hle : ((c.length : Int) != N) = true := by simp [hl]
      rw [if_neg (fun e => hl (form_iff.1 e).1)] at hr
      subst hr
      rw [if_neg (by decide)] at hd
      subst hd
      clear hl
      go_enter Try.func11, Try.ntmps11
      go_wp2_with (first
        | (go_at_call 25; refine (check_any _ N _ E (HS.out.ext (by repeat (first | exact Ext.refl _ | assumption | refine Ext.alloc ?_ _ | refine Ext.drew ?_ | refine Ext.drewN ?_ _))) 0 HK.out).mono ?_; rintro e w1 ⟨rfl, hx⟩; have X1 := Lib.hid hx; obtain ⟨a0, a1⟩ := HG.out w1 hx; clear hx))
      go_ret2
      exact ⟨_, rfl, Sl.none _, Ext.trans ((Ext.refl w).alloc _) X1.out⟩
  · have HK := Lib.hid (chk_not ok)
    unfold roundR at hr
    rw [if_neg (fun e => ok (okG_iff.1 e))] at hr
    subst hr
    rw [if_neg (by decide)] at hd
    subst hd
    clear ok
    go_enter Try.func11, Try.ntmps11
    go_wp2_with (first
      | (go_at_call 25; refine (check_any _ N _ E (HS.out.ext (by repeat (first | exact Ext.refl _ | assumption | refine Ext.alloc ?_ _ | refine Ext.drew ?_ | refine Ext.drewN ?_ _))) 30 HK.out).mono ?_; rintro e w1 ⟨rfl, hx⟩; have X1 := Lib.hid hx; clear hx))
    go_ret2
    exact ⟨_, rfl, Sl.none _, Ext.trans ((Ext.refl w).alloc _) X1.out⟩

theorem most_any (w : World) (v : Value) (c : List Int) (h : Sl w v c) (m : Int) (hm : mostL c = m) : Calls Try.prog 16 #[v] w fun e w' => e = .returned (.int .i64 m) ∧ Ext w w' := by
  subst hm
  rcases h.ints with ⟨rfl, ao, k, rfl⟩ | ⟨b, off, k0, rfl, hc, hc63, hb, hpos, hcell⟩
  · go_enter Try.func16, Try.ntmps16
    go_wp2
    refine wp_loop_rounds 1 ?_
    rw [rounds_succ]
    go_wp2
    go_ret
    exact ⟨rfl, (by repeat (first | exact Ext.refl _ | assumption | refine Ext.alloc ?_ _ | refine Ext.drew ?_ | refine Ext.drewN ?_ _))⟩
  · have HC := Lib.hid hcell
    have hlen : c.length ≤ 9223372036854775807 := by omega
    clear hcell h
    go_enter Try.func16, Try.ntmps16
    go_wp2
    go_loopw [3, 8] (fun s i wr => ∃ k : Nat, k ≤ c.length ∧ i = .int .i64 k ∧ s = .int .i64 (mostL (c.take k)) ∧ Hid (Ext w wr)) (fun _ i _ => c.length - (intOf i).toNat)
    case atStart => exact ⟨0, Nat.zero_le _, rfl, rfl, Lib.hid (Ext.refl _)⟩
    case round =>
      obtain ⟨k, hk, rfl, rfl, HX⟩ := hrel
      by_cases hlt : k < c.length
      · have hya := (HX.out.cell (p := ⟨b, off + k, none⟩) hb).trans (HC.out k hlt)
        obtain ⟨y, hy⟩ : ∃ y, y = c.getD k 0 := ⟨_, rfl⟩
        rw [← hy] at hya
        have HN : Hid (mostL (c.take (k + 1)) = max (mostL (c.take k)) y) := Lib.hid (by rw [mostL_next hlt, hy])
        clear hy
        obtain ⟨M, hM⟩ : ∃ M, M = mostL (c.take k) := ⟨_, rfl⟩
        rw [← hM] at HN ⊢
        clear hM
        rcases Int.lt_or_le M y with hcmp | hcmp
        · have hmx : max M y = y := by omega
          have HMX := Lib.hid hmx
          rw [hmx] at HN
          clear hmx
          go_wp2
          go_roundw
          case rel => exact ⟨k + 1, by omega, by go_num, by rw [HN.out]; first | rfl | (rw [HMX.out]), HX⟩
          case measure => simp [intOf]; omega
        · have hmx : max M y = M := by omega
          have HMX := Lib.hid hmx
          rw [hmx] at HN
          clear hmx
          go_wp2
          go_roundw
          case rel => exact ⟨k + 1, by omega, by go_num, by rw [HN.out]; first | rfl | (rw [HMX.out]), HX⟩
          case measure => simp [intOf]; omega
      · have hkl : k = c.length := by omega
        have HE : Hid (mostL (c.take k) = mostL c) := Lib.hid (by rw [hkl, List.take_length])
        obtain ⟨M, hM⟩ : ∃ M, M = mostL (c.take k) := ⟨_, rfl⟩
        rw [← hM] at HE ⊢
        clear hM
        go_wp2
        go_ret
        exact ⟨ret_int HE.out, HX.out⟩

end Go.Proofs.Ytalncechmhmdcaa
