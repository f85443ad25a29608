/- Texts of this seat. -/
import Derived.WalkMore
import Derived.ScopeJumps
import Derived.Deep.LoopGhost
import Derived.Test.YtfbambemjokmgaaGreatNAL
namespace Go.Proofs.YtfbambemjokmgaaGreat
open Go.RowKit
def lenOf : Value → Nat | .slice _ n _ => n | _ => 0
structure Peel (w wr : World) (N : Int) (L : List Arc) (v4 v5 : Value) (t l : List Int) : Prop where
  two : Two w wr v4 v5 t l
  pi : PI N.toNat L t l
  is : peelN L l.length t l = peeled N L
set_option maxRecDepth 100000 in
set_option maxHeartbeats 4000000 in
theorem peel_any (w : World) (n : Nat) (N : Int) (fv : Value) (L : List Arc) (ok : OkD N L) (hn : n = N.toNat) (h : Leads w fv L) :
    Calls Tryz.prog 77 #[.int .i64 n, fv] w fun e w' => ∃ v1 v2, e = .returned (.tuple #[v1, v2]) ∧ Ow w' w.heap.size v1 (peeled N L).1 ∧ Ow w' w.heap.size v2 (peeled N L).2 ∧ Ext w w' := by
  obtain ⟨g, lb, rfl, eg, hq⟩ := h.any
  have HQ := Lib.hid hq
  have HO := Lib.hid ok
  have HN := Lib.hid hn
  have h64 : n ≤ 64 := by have := ok.n64; omega
  clear h hq ok hn
  go_enter Tryz.func77, Tryz.ntmps77
  go_wp2
  refine wp_scope_jumps 0 (fun a' w' => ∃ (v4 v5 : Value) (t l : List Int) (u2 u3 u6 u7 u8 u9 u10 u12 u13 u14 u15 u16 u17 u18 u19 u20 u21 u22 u23 u24 u25 u26 u27 u28 u29 u30 u31 u32 u33 u34 u35 u36 u37 u38 u39 u40 u41 u42 u43 u44 u45 u46 u47 u48 u49 : Value), a' = { tmps := #[.int .i64 n, (.func (.func g) #[] lb), u2, u3, v4, v5, u6, u7, u8, u9, u10, .int .i64 n, u12, u13, u14, u15, u16, u17, u18, u19, u20, u21, u22, u23, u24, u25, u26, u27, u28, u29, u30, u31, u32, u33, u34, u35, u36, u37, u38, u39, u40, u41, u42, u43, u44, u45, u46, u47, u48, u49], defers := [] } ∧ Hid (Peel w w' N L v4 v5 t l)) (fun a' _ => lenOf (a'.tmps.getD 5 undef)) rfl ?_ ?_
  · go_wp2
    go_loopw [5, 12] (fun q i wr => ∃ k : Nat, k ≤ n ∧ i = .int .i64 k ∧ Hid (Ow wr w.heap.size q (upto k)) ∧ Hid (Ext w wr)) (fun _ i _ => n - (intOf i).toNat)
    case atStart => exact ⟨0, Nat.zero_le _, rfl, Lib.hid (Ow.nil _ _), Lib.hid (Ext.refl _)⟩
    case round =>
      obtain ⟨k, hk, rfl, HW, HX⟩ := hrel
      by_cases hlt : k < n
      · have hul := upto_length k
        have hus := upto_succ k
        obtain ⟨U, hU⟩ : ∃ U, U = upto k := ⟨_, rfl⟩
        rw [← hU] at HW hul hus
        have HUS := Lib.hid hus
        have hUl : U.length ≤ 64 := by omega
        have hwr : w.heap.size ≤ wr.heap.size := HX.out.size
        clear hU hus hul
        go_wp2_with ((at_builtin; refine wpList_append_sl (α := Int) rfl (.tmp 15) (.tmp 17) rfl w.heap.size _ U rfl ?_ (.slice (some ⟨_, 0, none⟩) 1 1) [(k : Int)] rfl ?_ ?_ ?_ ?_; exact (HW.out.alloc _); exact (Sl.litAt wr _ rfl [(k : Int)] (by simp)); (first | omega | (simp; omega)); (simp; omega); intro v2 W2 ho2 ha2; have O2 := Lib.hid ho2; have y2 : Hid (Ext w W2) := Lib.hid (Below.trans (HX.out.alloc _) ha2.below); clear ho2 ha2))
        go_roundw
        case rel => exact ⟨k + 1, by omega, by go_num, Lib.hid (by rw [HUS.out]; exact O2.out), y2⟩
        case measure => simp [intOf]; omega
      · have hkl : k = n := by omega
        have HPI : Hid (Peel w wr N L (.slice none 0 0) u5 [] (upto n)) := by
          refine Lib.hid ⟨⟨Ow.nil _ _, by have := HW.out; rwa [hkl] at this, fun k e e' => by simp [Value.ownBlock] at e', HX.out⟩, by have := HN.out; subst this; exact PI.start _ _, ?_⟩
          have := HN.out
          subst this
          rw [upto_length]
          rfl
        clear HW hkl
        go_wp2
        go_step3
        obtain ⟨l, hl⟩ : ∃ l, l = upto n := ⟨_, rfl⟩
        rw [← hl] at HPI
        clear hl
        obtain ⟨t, ht⟩ : ∃ t : List Int, t = [] := ⟨_, rfl⟩
        rw [← ht] at HPI
        clear ht
        obtain ⟨ao5, c5, rfl⟩ := HPI.out.two.two.sl.len
        have hll := HPI.out.pi.len
        have hl64 : l.length ≤ 64 := by have := HN.out; omega
        go_wp2
        go_loop [4, 5, 22] (fun s4 s5 s22 => ∃ k : Nat, k ≤ l.length ∧ s22 = .int .i64 k ∧ (.slice none 0 0) = s4 ∧ Value.slice ao5 l.length c5 = s5 ∧ Hid (∀ j, j < k → isHit L l (l.getD j 0) = true)) (fun _ _ s22 => l.length - (intOf s22).toNat)
        case atStart => exact ⟨0, Nat.zero_le _, rfl, rfl, rfl, Lib.hid (by omega)⟩
        case round =>
          obtain ⟨k, hk, rfl, rfl, rfl, HH⟩ := hrel
          by_cases hlt : k < l.length
          · obtain ⟨b, off, hao, _, hnc, hc63, hb, hy0⟩ := HPI.out.two.two.sl.intsAt hlt
            subst hao
            obtain ⟨y, hy⟩ : ∃ y, y = l.getD k 0 := ⟨_, rfl⟩
            rw [← hy] at hy0
            have HY := Lib.hid hy
            have hyr := HPI.out.pi.mem.1 (.inr (show l.getD k 0 ∈ l by rw [getD_at hlt]; exact List.getElem_mem hlt))
            rw [← hy] at hyr
            clear hy
            have hy64 : 0 ≤ y ∧ y < 64 := by have := HN.out; omega
            have HYR := Lib.hid hy64
            clear hyr hy64
            go_wp2
            go_loop [29] (fun s29 => ∃ j : Nat, j ≤ l.length ∧ s29 = .int .i64 j ∧ Hid (isHit L (l.take j) y = false)) (fun s29 => l.length - (intOf s29).toNat)
            case atStart => exact ⟨0, Nat.zero_le _, rfl, Lib.hid rfl⟩
            case round =>
              obtain ⟨j, hj, rfl, HJ⟩ := hrel
              by_cases hjl : j < l.length
              · obtain ⟨b2, off2, hao2, _, _, _, _, hz0⟩ := HPI.out.two.two.sl.intsAt hjl
                simp only [Option.some.injEq, Addr.mk.injEq, and_true] at hao2
                obtain ⟨rfl, rfl⟩ := hao2
                obtain ⟨z, hz⟩ : ∃ z, z = l.getD j 0 := ⟨_, rfl⟩
                rw [← hz] at hz0
                have hzr := HPI.out.pi.mem.1 (.inr (show l.getD j 0 ∈ l by rw [getD_at hjl]; exact List.getElem_mem hjl))
                rw [← hz] at hzr
                have HZ := Lib.hid hz
                clear hz
                have hz64 : 0 ≤ z ∧ z < 64 := by have := HN.out; omega
                have HZR := Lib.hid hz64
                clear hzr hz64
                obtain ⟨s, hs⟩ : ∃ s, decide ((⟨z, y⟩ : Arc) ∈ L) = s := ⟨_, rfl⟩
                have HS := Lib.hid hs
                have HC : Hid (Calls Tryz.prog g (#[.int .i64 z, .int .i64 y] ++ lb) wr fun e w9 => e = .returned (.bool s) ∧ w9 = wr) := Lib.hid (hs ▸ HQ.out wr z y HZR.out.1 HZR.out.2 HYR.out.1 HYR.out.2 HPI.out.two.ext)
                clear hs
                cases s
                all_goals go_wp2_with (go_at_fn g; refine HC.out.mono ?_; rintro e w1 ⟨rfl, rfl⟩)
                · go_round
                  case rel => exact ⟨j + 1, by omega, by go_num, Lib.hid (by unfold isHit; rw [any_next _ hjl 0, ← HZ.out, HS.out]; simpa [isHit] using HJ.out)⟩
                  case measure => simp [intOf]; omega
                · go_round
                  case rel =>
                    refine ⟨k + 1, by omega, by go_num, rfl, rfl, Lib.hid fun i hi => ?_⟩
                    rcases Nat.lt_or_ge i k with h | h
                    · exact HH.out i h
                    · rw [show i = k from by omega, ← HY.out]
                      exact any_of_take (k := j + 1) (by rw [any_next _ hjl 0, ← HZ.out, HS.out]; simp)
                  case measure => simp [intOf]; omega
              · have hjl2 : j = l.length := by omega
                have H0 : Hid (isHit L l (l.getD k 0) = false) := Lib.hid (by have := HJ.out; rwa [hjl2, List.take_length, HY.out] at this)
                have ht64 : (t : List Int).length ≤ 64 := by have := HN.out; omega
                have hwr : w.heap.size ≤ wr.heap.size := HPI.out.two.ext.size
                clear hjl2 HJ
                go_wp2_with (first
                  | (at_builtin; refine wpList_append_sl (α := Int) rfl (.tmp 38) (.tmp 40) rfl w.heap.size _ t rfl ?_ (.slice (some ⟨_, 0, none⟩) 1 1) [y] rfl ?_ ?_ ?_ ?_; exact (HPI.out.two.one.alloc _); exact (Sl.litAt wr _ rfl [y] (by simp)); (first | omega | (simp; omega)); (simp; omega); intro v2 W2 ho2 ha2; have T1 := Lib.hid (Two.push (HPI.out.two.more ((Ext.refl _).alloc _)) ho2 ha2); obtain ⟨ao2, n2, c2, rfl⟩ := ho2.sh; clear ho2 ha2)
                  | (go_at_call 122; refine (delete_ow_i _ w.heap.size _ l k T1.out.two hlt (by omega)).mono ?_; rintro e W3 ⟨v3, rfl, ho3, hg3, hb3⟩; have T2 := Lib.hid (Two.swap (Two.turn T1.out.swap ho3 hb3 hg3)); obtain ⟨ao3, c3, rfl⟩ := ho3.sl.len; clear ho3 hg3 hb3))
                go_step3
                have HF : Hid (Peel w W3 N L (.slice ao2 n2 c2) (.slice ao3 (l.eraseIdx k).length c3) (t ++ [y]) (l.eraseIdx k)) := Lib.hid ⟨T2.out, by rw [HY.out]; exact HPI.out.pi.step HO.out hlt H0.out, by rw [HY.out]; exact (peel_at hlt H0.out HH.out).symm.trans HPI.out.is⟩
                exact ⟨rfl, _, _, _, _, _, _, _, _, _, _, _, _, _, _, _, _, _, _, _, _, _, _, _, _, _, _, _, _, _, _, _, _, _, _, _, _, _, _, _, _, _, _, _, _, _, _, _, _, _, rfl, HF⟩
          · have HE : Hid (peeled N L = (t, l)) := Lib.hid (by
              have := peel_stop (t := t) (l := l) (fun j hj => HH.out j (by omega)) l.length
              rw [← this]
              exact HPI.out.is.symm)
            go_wp2
            simp only [Exit.jump]
            go_ret2
            exact ⟨_, _, rfl, by rw [HE.out]; exact HPI.out.two.one, by rw [HE.out]; exact HPI.out.two.two, HPI.out.two.ext⟩
  · rintro a' w' ⟨v4, v5, t, l, u2, u3, u6, u7, u8, u9, u10, u12, u13, u14, u15, u16, u17, u18, u19, u20, u21, u22, u23, u24, u25, u26, u27, u28, u29, u30, u31, u32, u33, u34, u35, u36, u37, u38, u39, u40, u41, u42, u43, u44, u45, u46, u47, u48, u49, rfl, HPI⟩
    dsimp only
    obtain ⟨ao5, c5, rfl⟩ := HPI.out.two.two.sl.len
    have hll := HPI.out.pi.len
    have hl64 : l.length ≤ 64 := by have := HN.out; omega
    go_wp2
    go_loop [4, 5, 22] (fun s4 s5 s22 => ∃ k : Nat, k ≤ l.length ∧ s22 = .int .i64 k ∧ v4 = s4 ∧ Value.slice ao5 l.length c5 = s5 ∧ Hid (∀ j, j < k → isHit L l (l.getD j 0) = true)) (fun _ _ s22 => l.length - (intOf s22).toNat)
    case atStart => exact ⟨0, Nat.zero_le _, rfl, rfl, rfl, Lib.hid (by omega)⟩
    case round =>
      obtain ⟨k, hk, rfl, rfl, rfl, HH⟩ := hrel
      by_cases hlt : k < l.length
      · obtain ⟨b, off, hao, _, hnc, hc63, hb, hy0⟩ := HPI.out.two.two.sl.intsAt hlt
        subst hao
        obtain ⟨y, hy⟩ : ∃ y, y = l.getD k 0 := ⟨_, rfl⟩
        rw [← hy] at hy0
        have HY := Lib.hid hy
        have hyr := HPI.out.pi.mem.1 (.inr (show l.getD k 0 ∈ l by rw [getD_at hlt]; exact List.getElem_mem hlt))
        rw [← hy] at hyr
        clear hy
        have hy64 : 0 ≤ y ∧ y < 64 := by have := HN.out; omega
        have HYR := Lib.hid hy64
        clear hyr hy64
        go_wp2
        go_loop [29] (fun s29 => ∃ j : Nat, j ≤ l.length ∧ s29 = .int .i64 j ∧ Hid (isHit L (l.take j) y = false)) (fun s29 => l.length - (intOf s29).toNat)
        case atStart => exact ⟨0, Nat.zero_le _, rfl, Lib.hid rfl⟩
        case round =>
          obtain ⟨j, hj, rfl, HJ⟩ := hrel
          by_cases hjl : j < l.length
          · obtain ⟨b2, off2, hao2, _, _, _, _, hz0⟩ := HPI.out.two.two.sl.intsAt hjl
            simp only [Option.some.injEq, Addr.mk.injEq, and_true] at hao2
            obtain ⟨rfl, rfl⟩ := hao2
            obtain ⟨z, hz⟩ : ∃ z, z = l.getD j 0 := ⟨_, rfl⟩
            rw [← hz] at hz0
            have hzr := HPI.out.pi.mem.1 (.inr (show l.getD j 0 ∈ l by rw [getD_at hjl]; exact List.getElem_mem hjl))
            rw [← hz] at hzr
            have HZ := Lib.hid hz
            clear hz
            have hz64 : 0 ≤ z ∧ z < 64 := by have := HN.out; omega
            have HZR := Lib.hid hz64
            clear hzr hz64
            obtain ⟨s, hs⟩ : ∃ s, decide ((⟨z, y⟩ : Arc) ∈ L) = s := ⟨_, rfl⟩
            have HS := Lib.hid hs
            have HC : Hid (Calls Tryz.prog g (#[.int .i64 z, .int .i64 y] ++ lb) w' fun e w9 => e = .returned (.bool s) ∧ w9 = w') := Lib.hid (hs ▸ HQ.out w' z y HZR.out.1 HZR.out.2 HYR.out.1 HYR.out.2 HPI.out.two.ext)
            clear hs
            cases s
            all_goals go_wp2_with (go_at_fn g; refine HC.out.mono ?_; rintro e w1 ⟨rfl, rfl⟩)
            · go_round
              case rel => exact ⟨j + 1, by omega, by go_num, Lib.hid (by unfold isHit; rw [any_next _ hjl 0, ← HZ.out, HS.out]; simpa [isHit] using HJ.out)⟩
              case measure => simp [intOf]; omega
            · go_round
              case rel =>
                refine ⟨k + 1, by omega, by go_num, rfl, rfl, Lib.hid fun i hi => ?_⟩
                rcases Nat.lt_or_ge i k with h | h
                · exact HH.out i h
                · rw [show i = k from by omega, ← HY.out]
                  exact any_of_take (k := j + 1) (by rw [any_next _ hjl 0, ← HZ.out, HS.out]; simp)
              case measure => simp [intOf]; omega
          · have hjl2 : j = l.length := by omega
            have H0 : Hid (isHit L l (l.getD k 0) = false) := Lib.hid (by have := HJ.out; rwa [hjl2, List.take_length, HY.out] at this)
            have ht64 : (t : List Int).length ≤ 64 := by have := HN.out; omega
            have hwr : w.heap.size ≤ w'.heap.size := HPI.out.two.ext.size
            clear hjl2 HJ
            go_wp2_with (first
              | (at_builtin; refine wpList_append_sl (α := Int) rfl (.tmp 38) (.tmp 40) rfl w.heap.size _ t rfl ?_ (.slice (some ⟨_, 0, none⟩) 1 1) [y] rfl ?_ ?_ ?_ ?_; exact (HPI.out.two.one.alloc _); exact (Sl.litAt w' _ rfl [y] (by simp)); (first | omega | (simp; omega)); (simp; omega); intro v2 W2 ho2 ha2; have T1 := Lib.hid (Two.push (HPI.out.two.more ((Ext.refl _).alloc _)) ho2 ha2); obtain ⟨ao2, n2, c2, rfl⟩ := ho2.sh; clear ho2 ha2)
              | (go_at_call 122; refine (delete_ow_i _ w.heap.size _ l k T1.out.two hlt (by omega)).mono ?_; rintro e W3 ⟨v3, rfl, ho3, hg3, hb3⟩; have T2 := Lib.hid (Two.swap (Two.turn T1.out.swap ho3 hb3 hg3)); obtain ⟨ao3, c3, rfl⟩ := ho3.sl.len; clear ho3 hg3 hb3))
            go_step3
            have HF : Hid (Peel w W3 N L (.slice ao2 n2 c2) (.slice ao3 (l.eraseIdx k).length c3) (t ++ [y]) (l.eraseIdx k)) := Lib.hid ⟨T2.out, by rw [HY.out]; exact HPI.out.pi.step HO.out hlt H0.out, by rw [HY.out]; exact (peel_at hlt H0.out HH.out).symm.trans HPI.out.is⟩
            exact ⟨rfl, ⟨_, _, _, _, _, _, _, _, _, _, _, _, _, _, _, _, _, _, _, _, _, _, _, _, _, _, _, _, _, _, _, _, _, _, _, _, _, _, _, _, _, _, _, _, _, _, _, _, _, rfl, HF⟩, by simp only [lenOf, List.length_eraseIdx_of_lt hlt, Array.getD_eq_getD_getElem?]; simp; omega⟩
      · have HE : Hid (peeled N L = (t, l)) := Lib.hid (by
          have := peel_stop (t := t) (l := l) (fun j hj => HH.out j (by omega)) l.length
          rw [← this]
          exact HPI.out.is.symm)
        go_wp2
        simp only [Exit.jump]
        go_ret2
        exact ⟨_, _, rfl, by rw [HE.out]; exact HPI.out.two.one, by rw [HE.out]; exact HPI.out.two.two, HPI.out.two.ext⟩
end Go.Proofs.YtfbambemjokmgaaGreat
namespace Go.Proofs.YtfbambemjokmgaaGreat
open Go.RowKit Go.Sort
def ordB (N : Int) (L : List Arc) : Bool := okD N L && decide ((peeled N L).2 = [])
def ordL (N : Int) (L : List Arc) : List Int := if ordB N L = true then (peeled N L).1 else []
theorem ordB_iff {N : Int} {L : List Arc} : ordB N L = true ↔ OkD N L ∧ (peeled N L).2 = [] := by simp [ordB, okD_iff]
def GivesT (w : World) (xs : List Int) (b : Bool) (e : Ending) (w' : World) : Prop := ∃ v, e = .returned (.tuple #[v, .bool b]) ∧ Ow w' w.heap.size v xs ∧ Ext w w'
set_option maxRecDepth 100000 in
theorem orderA_any (w : World) (N : Int) (v : Value) (E : List Arc) (h : Sl w v E) (xs : List Int) (b : Bool) (hx : ordL N E = xs) (hb : ordB N E = b) :
    Calls Tryz.prog 36 #[.int .i64 N, v] w (GivesT w xs b) := by
  obtain ⟨ao, c, rfl⟩ := h.len
  have HS := Lib.hid h
  clear h
  by_cases ok : OkD N E
  · have HC := Lib.hid (chkD_of ok)
    have h0 := ok.n0
    have h64 := ok.n64
    have HO := Lib.hid ok
    obtain ⟨hp, _⟩ := peeled_spec ok
    have hlen := hp.len
    clear ok hp
    obtain ⟨n, rfl⟩ := Int.eq_ofNat_of_zero_le h0
    by_cases e : (peeled (n : Int) E).2 = []
    · have hb' : b = true := by rw [← hb]; exact ordB_iff.2 ⟨HO.out, e⟩
      subst hb'
      have HX : Hid ((peeled (n : Int) E).1 = xs) := Lib.hid (by rw [← hx]; unfold ordL; rw [if_pos hb])
      have HE : Hid ((peeled (n : Int) E).2.length = 0) := Lib.hid (by rw [e]; rfl)
      clear e hx hb hlen
      go_enter Tryz.func36, Tryz.ntmps36
      go_wp2_with (first
        | (go_at_call 76; refine (checkA_any _ _ _ E (HS.out.ext (by repeat (first | exact Ext.refl _ | assumption | refine Ext.alloc ?_ _ | refine Ext.drew ?_ | refine Ext.drewN ?_ _))) 0 HC.out).mono ?_; rintro e w1 ⟨rfl, x1⟩)
        | (go_at_call 78; refine (askerA_any _ _ _ E (HS.out.ext (by repeat (first | exact Ext.refl _ | assumption | exact Hid.out (by assumption) | refine Ext.alloc ?_ _ | refine Ext.drew ?_ | refine Ext.drewN ?_ _ | refine Ext.trans ?_ (by assumption)))) HO.out).mono ?_; rintro e w2 ⟨fv, rfl, ht, x2⟩; have y2 := Ext.trans x1 x2; obtain ⟨g, lb, rfl⟩ := ht.sh; have HT := Lib.hid ht; clear ht)
        | (go_at_call 77; refine (peel_any _ n _ _ E HO.out (by omega) HT.out).mono ?_; rintro e w3 ⟨v1, v2, rfl, ho1, ho2, x3⟩; have y3 := Ext.trans y2 x3; obtain ⟨ao2, c2, rfl⟩ := ho2.sl.len; rw [HE.out]; rw [HX.out] at ho1; obtain ⟨ao1, n1, c1, rfl⟩ := ho1.sh; have O1 := Lib.hid ho1; clear ho1 ho2))
      go_ret2
      exact ⟨_, rfl, O1.out.mono y2.size, y3⟩
    · have hb' : b = false := by rw [← hb]; cases q : ordB (n : Int) E with
        | false => rfl
        | true => exact absurd (ordB_iff.1 q).2 e
      subst hb'
      have hx' : xs = [] := by rw [← hx]; unfold ordL; rw [if_neg (by rw [hb]; simp)]
      subst hx'
      have hp : 0 < (peeled (n : Int) E).2.length := List.length_pos_iff.2 e
      obtain ⟨m, hm⟩ : ∃ m, m = (peeled (n : Int) E).2.length := ⟨_, rfl⟩
      have HM := Lib.hid hm
      rw [← hm] at hp hlen
      clear e hx hb hm
      go_enter Tryz.func36, Tryz.ntmps36
      go_wp2_with (first
        | (go_at_call 76; refine (checkA_any _ _ _ E (HS.out.ext (by repeat (first | exact Ext.refl _ | assumption | refine Ext.alloc ?_ _ | refine Ext.drew ?_ | refine Ext.drewN ?_ _))) 0 HC.out).mono ?_; rintro e w1 ⟨rfl, x1⟩)
        | (go_at_call 78; refine (askerA_any _ _ _ E (HS.out.ext (by repeat (first | exact Ext.refl _ | assumption | exact Hid.out (by assumption) | refine Ext.alloc ?_ _ | refine Ext.drew ?_ | refine Ext.drewN ?_ _ | refine Ext.trans ?_ (by assumption)))) HO.out).mono ?_; rintro e w2 ⟨fv, rfl, ht, x2⟩; have y2 := Ext.trans x1 x2; obtain ⟨g, lb, rfl⟩ := ht.sh; have HT := Lib.hid ht; clear ht)
        | (go_at_call 77; refine (peel_any _ n _ _ E HO.out (by omega) HT.out).mono ?_; rintro e w3 ⟨v1, v2, rfl, ho1, ho2, x3⟩; have y3 := Ext.trans y2 x3; obtain ⟨ao2, c2, rfl⟩ := ho2.sl.len; rw [← HM.out]; obtain ⟨ao1, n1, c1, rfl⟩ := ho1.sh; clear ho1 ho2))
      go_ret2
      exact ⟨_, rfl, Ow.nil _ _, y3⟩
  · have HC := Lib.hid (chkD_not ok)
    have hb' : b = false := by rw [← hb]; cases q : ordB N E with
      | false => rfl
      | true => exact absurd (ordB_iff.1 q).1 ok
    subst hb'
    have hx' : xs = [] := by rw [← hx]; unfold ordL; rw [if_neg (by rw [hb]; simp)]
    subst hx'
    clear ok hx hb
    go_enter Tryz.func36, Tryz.ntmps36
    go_wp2_with (first
      | (go_at_call 76; refine (checkA_any _ _ _ E (HS.out.ext (by repeat (first | exact Ext.refl _ | assumption | refine Ext.alloc ?_ _ | refine Ext.drew ?_ | refine Ext.drewN ?_ _))) 40 HC.out).mono ?_; rintro e w1 ⟨rfl, x1⟩))
    go_ret2
    exact ⟨_, rfl, Ow.nil _ _, x1⟩
end Go.Proofs.YtfbambemjokmgaaGreat
