/- The least node to which no arc goes, again and again. -/
import Derived.Test.YtdfleocknaackaaGreatDS
import Derived.Test.YtdfleocknaackaaGreatApart
import Derived.WalkMore
import Derived.ScopeJumps
import Derived.Deep.LoopGhost
import Derived.Deep.RegionWith
namespace Go.Proofs.YtdfleocknaackaaGreat
open Go.RowKit

def lenOf : Value → Nat | .slice _ n _ => n | _ => 0

/-- What holds at the label. -/
structure Peel (w wr : World) (N : Int) (L : List Arc) (v4 v5 : Value) (t l : List Int) : Prop where
  two : Two w wr v4 v5 t l
  pi : PI N.toNat L t l
  is : peelN L l.length t l = peeled N L

set_option maxRecDepth 100000 in
set_option maxHeartbeats 4000000 in
theorem peel_any (w : World) (n : Nat) (N : Int) (fv : Value) (L : List Arc) (ok : OkD N L) (hn : n = N.toNat) (h : Leads w fv L) :
    Calls Tryz.prog 46 #[.int .i64 n, fv] w fun e w' => ∃ v1 v2, e = .returned (.tuple #[v1, v2]) ∧ Ow w' w.heap.size v1 (peeled N L).1 ∧ Ow w' w.heap.size v2 (peeled N L).2 ∧ Ext w w' := by
  obtain ⟨g, lb, rfl, eg, hq⟩ := h.any
  have HQ := Lib.hid hq
  have HO := Lib.hid ok
  have HN := Lib.hid hn
  have h64 : n ≤ 64 := by have := ok.n64; omega
  clear h hq ok hn
  go_enter Tryz.func46, Tryz.ntmps46
  go_wp2
  refine wp_scope_jumps 0 (fun a' w' => ∃ (v4 v5 : Value) (t l : List Int) (u2 u3 u6 u7 u8 u9 u10 u12 u13 u14 u15 u16 u17 u18 u19 u20 u21 u22 u23 u24 u25 u26 u27 u28 u29 u30 u31 u32 u33 u34 u35 u36 u37 u38 u39 u40 u41 u42 u43 u44 u45 u46 u47 u48 u49 : Value), a' = { tmps := #[.int .i64 n, (.func (.func g) #[] lb), u2, u3, v4, v5, u6, u7, u8, u9, u10, .int .i64 n, u12, u13, u14, u15, u16, u17, u18, u19, u20, u21, u22, u23, u24, u25, u26, u27, u28, u29, u30, u31, u32, u33, u34, u35, u36, u37, u38, u39, u40, u41, u42, u43, u44, u45, u46, u47, u48, u49], defers := [] } ∧ Hid (Peel w w' N L v4 v5 t l)) (fun a' _ => lenOf (a'.tmps.getD 5 undef)) rfl ?_ ?_
  · go_wp2
    go_loopw [5, 12] (fun q i wr => ∃ k : Nat, k ≤ n ∧ i = .int .i64 k ∧ Hid (Ow wr w.heap.size q (upto k)) ∧ Hid (Ext w wr)) (fun _ i _ => n - (intOf i).toNat)
    case atStart => exact ⟨0, Nat.zero_le _, rfl, Lib.hid (Ow.nil _ _), Lib.hid (Ext.refl _)⟩
    case round =>
      obtain ⟨k, hk, rfl, HW, HX⟩ := hrel
      by_cases hlt : k < n
      · have hul := upto_length k
        have hus := upto_succ k
        obtain ⟨U, hU⟩ : ∃ U, U = upto k := ⟨_, rfl⟩
        rw [← hU] at HW hul hus
        have HUS := Lib.hid hus
        have hUl : U.length ≤ 64 := by omega
        have hwr : w.heap.size ≤ wr.heap.size := HX.out.size
        clear hU hus hul
        go_wp2_with ((at_builtin; refine wpList_append_sl (α := Int) rfl (.tmp 15) (.tmp 17) rfl w.heap.size _ U rfl ?_ (.slice (some ⟨_, 0, none⟩) 1 1) [(k : Int)] rfl ?_ ?_ ?_ ?_; exact (HW.out.alloc _); exact (Sl.litAt wr _ rfl [(k : Int)] (by simp)); (first | omega | (simp; omega)); (simp; omega); intro v2 W2 ho2 ha2; have O2 := Lib.hid ho2; have y2 : Hid (Ext w W2) := Lib.hid (Below.trans (HX.out.alloc _) ha2.below); clear ho2 ha2))
        go_roundw
        case rel => exact ⟨k + 1, by omega, by go_num, Lib.hid (by rw [HUS.out]; exact O2.out), y2⟩
        case measure => simp [intOf]; omega
      · have hkl : k = n := by omega
        have HPI : Hid (Peel w wr N L (.slice none 0 0) u5 [] (upto n)) := by
          refine Lib.hid ⟨⟨Ow.nil _ _, by have := HW.out; rwa [hkl] at this, fun k e e' => by simp [Value.ownBlock] at e', HX.out⟩, by have := HN.out; subst this; exact PI.start _ _, ?_⟩
          have := HN.out
          subst this
          rw [upto_length]
          rfl
        clear HW hkl
        go_wp2
        go_step3
        obtain ⟨l, hl⟩ : ∃ l, l = upto n := ⟨_, rfl⟩
        rw [← hl] at HPI
        clear hl
        obtain ⟨t, ht⟩ : ∃ t : List Int, t = [] := ⟨_, rfl⟩
        rw [← ht] at HPI
        clear ht
        obtain ⟨ao5, c5, rfl⟩ := HPI.out.two.two.sl.len
        have hll := HPI.out.pi.len
        have hl64 : l.length ≤ 64 := by have := HN.out; omega
        go_wp2
        go_loop [4, 5, 22] (fun s4 s5 s22 => ∃ k : Nat, k ≤ l.length ∧ s22 = .int .i64 k ∧ (.slice none 0 0) = s4 ∧ Value.slice ao5 l.length c5 = s5 ∧ Hid (∀ j, j < k → isHit L l (l.getD j 0) = true)) (fun _ _ s22 => l.length - (intOf s22).toNat)
        case atStart => exact ⟨0, Nat.zero_le _, rfl, rfl, rfl, Lib.hid (by omega)⟩
        case round =>
          obtain ⟨k, hk, rfl, rfl, rfl, HH⟩ := hrel
          by_cases hlt : k < l.length
          · obtain ⟨b, off, hao, _, hnc, hc63, hb, hy0⟩ := HPI.out.two.two.sl.intsAt hlt
            subst hao
            obtain ⟨y, hy⟩ : ∃ y, y = l.getD k 0 := ⟨_, rfl⟩
            rw [← hy] at hy0
            have HY := Lib.hid hy
            have hyr := HPI.out.pi.mem.1 (.inr (show l.getD k 0 ∈ l by rw [getD_at hlt]; exact List.getElem_mem hlt))
            rw [← hy] at hyr
            clear hy
            have hy64 : 0 ≤ y ∧ y < 64 := by have := HN.out; omega
            have HYR := Lib.hid hy64
            clear hyr hy64
            go_wp2
            go_loop [29] (fun s29 => ∃ j : Nat, j ≤ l.length ∧ s29 = .int .i64 j ∧ Hid (isHit L (l.take j) y = false)) (fun s29 => l.length - (intOf s29).toNat)
            case atStart => exact ⟨0, Nat.zero_le _, rfl, Lib.hid rfl⟩
            case round =>
              obtain ⟨j, hj, rfl, HJ⟩ := hrel
              by_cases hjl : j < l.length
              · obtain ⟨b2, off2, hao2, _, _, _, _, hz0⟩ := HPI.out.two.two.sl.intsAt hjl
                simp only [Option.some.injEq, Addr.mk.injEq, and_true] at hao2
                obtain ⟨rfl, rfl⟩ := hao2
                obtain ⟨z, hz⟩ : ∃ z, z = l.getD j 0 := ⟨_, rfl⟩
                rw [← hz] at hz0
                have hzr := HPI.out.pi.mem.1 (.inr (show l.getD j 0 ∈ l by rw [getD_at hjl]; exact List.getElem_mem hjl))
                rw [← hz] at hzr
                have HZ := Lib.hid hz
                clear hz
                have hz64 : 0 ≤ z ∧ z < 64 := by have := HN.out; omega
                have HZR := Lib.hid hz64
                clear hzr hz64
                obtain ⟨s, hs⟩ : ∃ s, decide ((⟨z, y⟩ : Arc) ∈ L) = s := ⟨_, rfl⟩
                have HS := Lib.hid hs
                have HC : Hid (Calls Tryz.prog g (#[.int .i64 z, .int .i64 y] ++ lb) wr fun e w9 => e = .returned (.bool s) ∧ w9 = wr) := Lib.hid (hs ▸ HQ.out wr z y HZR.out.1 HZR.out.2 HYR.out.1 HYR.out.2 HPI.out.two.ext)
                clear hs
                cases s
                all_goals go_wp2_with (go_at_fn g; refine HC.out.mono ?_; rintro e w1 ⟨rfl, rfl⟩)
                · go_round
                  case rel => exact ⟨j + 1, by omega, by go_num, Lib.hid (by unfold isHit; rw [any_next _ hjl 0, ← HZ.out, HS.out]; simpa [isHit] using HJ.out)⟩
                  case measure => simp [intOf]; omega
                · go_round
                  case rel =>
                    refine ⟨k + 1, by omega, by go_num, rfl, rfl, Lib.hid fun i hi => ?_⟩
                    rcases Nat.lt_or_ge i k with h | h
                    · exact HH.out i h
                    · rw [show i = k from by omega, ← HY.out]
                      exact any_of_take (k := j + 1) (by rw [any_next _ hjl 0, ← HZ.out, HS.out]; simp)
                  case measure => simp [intOf]; omega
              · have hjl2 : j = l.length := by omega
                have H0 : Hid (isHit L l (l.getD k 0) = false) := Lib.hid (by have := HJ.out; rwa [hjl2, List.take_length, HY.out] at this)
                have ht64 : (t : List Int).length ≤ 64 := by have := HN.out; omega
                have hwr : w.heap.size ≤ wr.heap.size := HPI.out.two.ext.size
                clear hjl2 HJ
                go_wp2_with (first
                  | (at_builtin; refine wpList_append_sl (α := Int) rfl (.tmp 38) (.tmp 40) rfl w.heap.size _ t rfl ?_ (.slice (some ⟨_, 0, none⟩) 1 1) [y] rfl ?_ ?_ ?_ ?_; exact (HPI.out.two.one.alloc _); exact (Sl.litAt wr _ rfl [y] (by simp)); (first | omega | (simp; omega)); (simp; omega); intro v2 W2 ho2 ha2; have T1 := Lib.hid (Two.push (HPI.out.two.more ((Ext.refl _).alloc _)) ho2 ha2); obtain ⟨ao2, n2, c2, rfl⟩ := ho2.sh; clear ho2 ha2)
                  | (go_at_call 81; refine (delete_ow_i _ w.heap.size _ l k T1.out.two hlt (by omega)).mono ?_; rintro e W3 ⟨v3, rfl, ho3, hg3, hb3⟩; have T2 := Lib.hid (Two.swap (Two.turn T1.out.swap ho3 hb3 hg3)); obtain ⟨ao3, c3, rfl⟩ := ho3.sl.len; clear ho3 hg3 hb3))
                go_step3
                have HF : Hid (Peel w W3 N L (.slice ao2 n2 c2) (.slice ao3 (l.eraseIdx k).length c3) (t ++ [y]) (l.eraseIdx k)) := Lib.hid ⟨T2.out, by rw [HY.out]; exact HPI.out.pi.step HO.out hlt H0.out, by rw [HY.out]; exact (peel_at hlt H0.out HH.out).symm.trans HPI.out.is⟩
                exact ⟨rfl, _, _, _, _, _, _, _, _, _, _, _, _, _, _, _, _, _, _, _, _, _, _, _, _, _, _, _, _, _, _, _, _, _, _, _, _, _, _, _, _, _, _, _, _, _, _, _, _, _, rfl, HF⟩
          · have HE : Hid (peeled N L = (t, l)) := Lib.hid (by
              have := peel_stop (t := t) (l := l) (fun j hj => HH.out j (by omega)) l.length
              rw [← this]
              exact HPI.out.is.symm)
            go_wp2
            simp only [Exit.jump]
            go_ret2
            exact ⟨_, _, rfl, by rw [HE.out]; exact HPI.out.two.one, by rw [HE.out]; exact HPI.out.two.two, HPI.out.two.ext⟩
  · rintro a' w' ⟨v4, v5, t, l, u2, u3, u6, u7, u8, u9, u10, u12, u13, u14, u15, u16, u17, u18, u19, u20, u21, u22, u23, u24, u25, u26, u27, u28, u29, u30, u31, u32, u33, u34, u35, u36, u37, u38, u39, u40, u41, u42, u43, u44, u45, u46, u47, u48, u49, rfl, HPI⟩
    dsimp only
    obtain ⟨ao5, c5, rfl⟩ := HPI.out.two.two.sl.len
    have hll := HPI.out.pi.len
    have hl64 : l.length ≤ 64 := by have := HN.out; omega
    go_wp2
    go_loop [4, 5, 22] (fun s4 s5 s22 => ∃ k : Nat, k ≤ l.length ∧ s22 = .int .i64 k ∧ v4 = s4 ∧ Value.slice ao5 l.length c5 = s5 ∧ Hid (∀ j, j < k → isHit L l (l.getD j 0) = true)) (fun _ _ s22 => l.length - (intOf s22).toNat)
    case atStart => exact ⟨0, Nat.zero_le _, rfl, rfl, rfl, Lib.hid (by omega)⟩
    case round =>
      obtain ⟨k, hk, rfl, rfl, rfl, HH⟩ := hrel
      by_cases hlt : k < l.length
      · obtain ⟨b, off, hao, _, hnc, hc63, hb, hy0⟩ := HPI.out.two.two.sl.intsAt hlt
        subst hao
        obtain ⟨y, hy⟩ : ∃ y, y = l.getD k 0 := ⟨_, rfl⟩
        rw [← hy] at hy0
        have HY := Lib.hid hy
        have hyr := HPI.out.pi.mem.1 (.inr (show l.getD k 0 ∈ l by rw [getD_at hlt]; exact List.getElem_mem hlt))
        rw [← hy] at hyr
        clear hy
        have hy64 : 0 ≤ y ∧ y < 64 := by have := HN.out; omega
        have HYR := Lib.hid hy64
        clear hyr hy64
        go_wp2
        go_loop [29] (fun s29 => ∃ j : Nat, j ≤ l.length ∧ s29 = .int .i64 j ∧ Hid (isHit L (l.take j) y = false)) (fun s29 => l.length - (intOf s29).toNat)
        case atStart => exact ⟨0, Nat.zero_le _, rfl, Lib.hid rfl⟩
        case round =>
          obtain ⟨j, hj, rfl, HJ⟩ := hrel
          by_cases hjl : j < l.length
          · obtain ⟨b2, off2, hao2, _, _, _, _, hz0⟩ := HPI.out.two.two.sl.intsAt hjl
            simp only [Option.some.injEq, Addr.mk.injEq, and_true] at hao2
            obtain ⟨rfl, rfl⟩ := hao2
            obtain ⟨z, hz⟩ : ∃ z, z = l.getD j 0 := ⟨_, rfl⟩
            rw [← hz] at hz0
            have hzr := HPI.out.pi.mem.1 (.inr (show l.getD j 0 ∈ l by rw [getD_at hjl]; exact List.getElem_mem hjl))
            rw [← hz] at hzr
            have HZ := Lib.hid hz
            clear hz
            have hz64 : 0 ≤ z ∧ z < 64 := by have := HN.out; omega
            have HZR := Lib.hid hz64
            clear hzr hz64
            obtain ⟨s, hs⟩ : ∃ s, decide ((⟨z, y⟩ : Arc) ∈ L) = s := ⟨_, rfl⟩
            have HS := Lib.hid hs
            have HC : Hid (Calls Tryz.prog g (#[.int .i64 z, .int .i64 y] ++ lb) w' fun e w9 => e = .returned (.bool s) ∧ w9 = w') := Lib.hid (hs ▸ HQ.out w' z y HZR.out.1 HZR.out.2 HYR.out.1 HYR.out.2 HPI.out.two.ext)
            clear hs
            cases s
            all_goals go_wp2_with (go_at_fn g; refine HC.out.mono ?_; rintro e w1 ⟨rfl, rfl⟩)
            · go_round
              case rel => exact ⟨j + 1, by omega, by go_num, Lib.hid (by unfold isHit; rw [any_next _ hjl 0, ← HZ.out, HS.out]; simpa [isHit] using HJ.out)⟩
              case measure => simp [intOf]; omega
            · go_round
              case rel =>
                refine ⟨k + 1, by omega, by go_num, rfl, rfl, Lib.hid fun i hi => ?_⟩
                rcases Nat.lt_or_ge i k with h | h
                · exact HH.out i h
                · rw [show i = k from by omega, ← HY.out]
                  exact any_of_take (k := j + 1) (by rw [any_next _ hjl 0, ← HZ.out, HS.out]; simp)
              case measure => simp [intOf]; omega
          · have hjl2 : j = l.length := by omega
            have H0 : Hid (isHit L l (l.getD k 0) = false) := Lib.hid (by have := HJ.out; rwa [hjl2, List.take_length, HY.out] at this)
            have ht64 : (t : List Int).length ≤ 64 := by have := HN.out; omega
            have hwr : w.heap.size ≤ w'.heap.size := HPI.out.two.ext.size
            clear hjl2 HJ
            go_wp2_with (first
              | (at_builtin; refine wpList_append_sl (α := Int) rfl (.tmp 38) (.tmp 40) rfl w.heap.size _ t rfl ?_ (.slice (some ⟨_, 0, none⟩) 1 1) [y] rfl ?_ ?_ ?_ ?_; exact (HPI.out.two.one.alloc _); exact (Sl.litAt w' _ rfl [y] (by simp)); (first | omega | (simp; omega)); (simp; omega); intro v2 W2 ho2 ha2; have T1 := Lib.hid (Two.push (HPI.out.two.more ((Ext.refl _).alloc _)) ho2 ha2); obtain ⟨ao2, n2, c2, rfl⟩ := ho2.sh; clear ho2 ha2)
              | (go_at_call 81; refine (delete_ow_i _ w.heap.size _ l k T1.out.two hlt (by omega)).mono ?_; rintro e W3 ⟨v3, rfl, ho3, hg3, hb3⟩; have T2 := Lib.hid (Two.swap (Two.turn T1.out.swap ho3 hb3 hg3)); obtain ⟨ao3, c3, rfl⟩ := ho3.sl.len; clear ho3 hg3 hb3))
            go_step3
            have HF : Hid (Peel w W3 N L (.slice ao2 n2 c2) (.slice ao3 (l.eraseIdx k).length c3) (t ++ [y]) (l.eraseIdx k)) := Lib.hid ⟨T2.out, by rw [HY.out]; exact HPI.out.pi.step HO.out hlt H0.out, by rw [HY.out]; exact (peel_at hlt H0.out HH.out).symm.trans HPI.out.is⟩
            exact ⟨rfl, ⟨_, _, _, _, _, _, _, _, _, _, _, _, _, _, _, _, _, _, _, _, _, _, _, _, _, _, _, _, _, _, _, _, _, _, _, _, _, _, _, _, _, _, _, _, _, _, _, _, _, rfl, HF⟩, by simp only [lenOf, List.length_eraseIdx_of_lt hlt, Array.getD_eq_getD_getElem?]; simp; omega⟩
      · have HE : Hid (peeled N L = (t, l)) := Lib.hid (by
          have := peel_stop (t := t) (l := l) (fun j hj => HH.out j (by omega)) l.length
          rw [← this]
          exact HPI.out.is.symm)
        go_wp2
        simp only [Exit.jump]
        go_ret2
        exact ⟨_, _, rfl, by rw [HE.out]; exact HPI.out.two.one, by rw [HE.out]; exact HPI.out.two.two, HPI.out.two.ext⟩

end Go.Proofs.YtdfleocknaackaaGreat

/- An order, if there is one; a way turned round. -/
namespace Go.Proofs.YtdfleocknaackaaGreat
open Go.RowKit Go.Sort

def ordB (N : Int) (L : List Arc) : Bool := okD N L && decide ((peeled N L).2 = [])
def ordL (N : Int) (L : List Arc) : List Int := if ordB N L = true then (peeled N L).1 else []
theorem ordB_iff {N : Int} {L : List Arc} : ordB N L = true ↔ OkD N L ∧ (peeled N L).2 = [] := by simp [ordB, okD_iff]
/-- A new slice, and whether there is such a one. -/
def GivesT (w : World) (xs : List Int) (b : Bool) (e : Ending) (w' : World) : Prop := ∃ v, e = .returned (.tuple #[v, .bool b]) ∧ Ow w' w.heap.size v xs ∧ Ext w w'

set_option maxRecDepth 100000 in
theorem orderA_any (w : World) (N : Int) (v : Value) (E : List Arc) (h : Sl w v E) (xs : List Int) (b : Bool) (hx : ordL N E = xs) (hb : ordB N E = b) :
    Calls Tryz.prog 21 #[.int .i64 N, v] w (GivesT w xs b) := by
  obtain ⟨ao, c, rfl⟩ := h.len
  have HS := Lib.hid h
  clear h
  by_cases ok : OkD N E
  · have HC := Lib.hid (chkD_of ok)
    have h0 := ok.n0
    have h64 := ok.n64
    have HO := Lib.hid ok
    obtain ⟨hp, _⟩ := peeled_spec ok
    have hlen := hp.len
    clear ok hp
    obtain ⟨n, rfl⟩ := Int.eq_ofNat_of_zero_le h0
    by_cases e : (peeled (n : Int) E).2 = []
    · have hb' : b = true := by rw [← hb]; exact ordB_iff.2 ⟨HO.out, e⟩
      subst hb'
      have HX : Hid ((peeled (n : Int) E).1 = xs) := Lib.hid (by rw [← hx]; unfold ordL; rw [if_pos hb])
      have HE : Hid ((peeled (n : Int) E).2.length = 0) := Lib.hid (by rw [e]; rfl)
      clear e hx hb hlen
      go_enter Tryz.func21, Tryz.ntmps21
      go_wp2_with (first
        | (go_at_call 45; refine (checkA_any _ _ _ E (HS.out.ext (by repeat (first | exact Ext.refl _ | assumption | refine Ext.alloc ?_ _ | refine Ext.drew ?_ | refine Ext.drewN ?_ _))) 0 HC.out).mono ?_; rintro e w1 ⟨rfl, x1⟩)
        | (go_at_call 47; refine (askerA_any _ _ _ E (HS.out.ext (by repeat (first | exact Ext.refl _ | assumption | exact Hid.out (by assumption) | refine Ext.alloc ?_ _ | refine Ext.drew ?_ | refine Ext.drewN ?_ _ | refine Ext.trans ?_ (by assumption)))) HO.out).mono ?_; rintro e w2 ⟨fv, rfl, ht, x2⟩; have y2 := Ext.trans x1 x2; obtain ⟨g, lb, rfl⟩ := ht.sh; have HT := Lib.hid ht; clear ht)
        | (go_at_call 46; refine (peel_any _ n _ _ E HO.out (by omega) HT.out).mono ?_; rintro e w3 ⟨v1, v2, rfl, ho1, ho2, x3⟩; have y3 := Ext.trans y2 x3; obtain ⟨ao2, c2, rfl⟩ := ho2.sl.len; rw [HE.out]; rw [HX.out] at ho1; obtain ⟨ao1, n1, c1, rfl⟩ := ho1.sh; have O1 := Lib.hid ho1; clear ho1 ho2))
      go_ret2
      exact ⟨_, rfl, O1.out.mono y2.size, y3⟩
    · have hb' : b = false := by rw [← hb]; cases q : ordB (n : Int) E with
        | false => rfl
        | true => exact absurd (ordB_iff.1 q).2 e
      subst hb'
      have hx' : xs = [] := by rw [← hx]; unfold ordL; rw [if_neg (by rw [hb]; simp)]
      subst hx'
      have hp : 0 < (peeled (n : Int) E).2.length := List.length_pos_iff.2 e
      obtain ⟨m, hm⟩ : ∃ m, m = (peeled (n : Int) E).2.length := ⟨_, rfl⟩
      have HM := Lib.hid hm
      rw [← hm] at hp hlen
      clear e hx hb hm
      go_enter Tryz.func21, Tryz.ntmps21
      go_wp2_with (first
        | (go_at_call 45; refine (checkA_any _ _ _ E (HS.out.ext (by repeat (first | exact Ext.refl _ | assumption | refine Ext.alloc ?_ _ | refine Ext.drew ?_ | refine Ext.drewN ?_ _))) 0 HC.out).mono ?_; rintro e w1 ⟨rfl, x1⟩)
        | (go_at_call 47; refine (askerA_any _ _ _ E (HS.out.ext (by repeat (first | exact Ext.refl _ | assumption | exact Hid.out (by assumption) | refine Ext.alloc ?_ _ | refine Ext.drew ?_ | refine Ext.drewN ?_ _ | refine Ext.trans ?_ (by assumption)))) HO.out).mono ?_; rintro e w2 ⟨fv, rfl, ht, x2⟩; have y2 := Ext.trans x1 x2; obtain ⟨g, lb, rfl⟩ := ht.sh; have HT := Lib.hid ht; clear ht)
        | (go_at_call 46; refine (peel_any _ n _ _ E HO.out (by omega) HT.out).mono ?_; rintro e w3 ⟨v1, v2, rfl, ho1, ho2, x3⟩; have y3 := Ext.trans y2 x3; obtain ⟨ao2, c2, rfl⟩ := ho2.sl.len; rw [← HM.out]; obtain ⟨ao1, n1, c1, rfl⟩ := ho1.sh; clear ho1 ho2))
      go_ret2
      exact ⟨_, rfl, Ow.nil _ _, y3⟩
  · have HC := Lib.hid (chkD_not ok)
    have hb' : b = false := by rw [← hb]; cases q : ordB N E with
      | false => rfl
      | true => exact absurd (ordB_iff.1 q).1 ok
    subst hb'
    have hx' : xs = [] := by rw [← hx]; unfold ordL; rw [if_neg (by rw [hb]; simp)]
    subst hx'
    clear ok hx hb
    go_enter Tryz.func21, Tryz.ntmps21
    go_wp2_with (first
      | (go_at_call 45; refine (checkA_any _ _ _ E (HS.out.ext (by repeat (first | exact Ext.refl _ | assumption | refine Ext.alloc ?_ _ | refine Ext.drew ?_ | refine Ext.drewN ?_ _))) 40 HC.out).mono ?_; rintro e w1 ⟨rfl, x1⟩))
    go_ret2
    exact ⟨_, rfl, Ow.nil _ _, x1⟩

/-- A part of a block of the call's own. -/
structure Piece (w : World) (g off : Nat) (c : Nat) (xs : List Int) : Prop where
  lt : g < w.heap.size
  cap : xs.length ≤ c
  c63 : c ≤ 9223372036854775807
  holds : Holds (Value.int .i64) w g off xs.toArray
theorem Piece.sl {w : World} {g off c : Nat} {xs : List Int} (h : Piece w g off c xs) : Sl w (.slice (some ⟨g, off, none⟩) xs.length c) xs := by
  refine ⟨cellsOf_length _, _, c, rfl, h.cap, by unfold maxLen; exact h.c63, by simp, .inr ⟨g, off, rfl, h.lt, fun j u hj => ?_⟩⟩
  rw [cells_i, List.getElem?_map] at hj
  have hjl : j < xs.length := by
    rcases Nat.lt_or_ge j xs.length with h | h
    · exact h
    · rw [List.getElem?_eq_none h] at hj; cases hj
  rw [List.getElem?_eq_getElem hjl] at hj
  simp only [Option.map_some, Option.some.injEq] at hj
  subst hj
  have := (h.holds j (by simpa using hjl)).1
  simpa [hjl] using this
theorem Piece.of {w : World} {B g c : Nat} {xs : List Int} (h : Ow w B (.slice (some ⟨g, 0, none⟩) xs.length c) xs) (i : Nat) (hi : i < xs.length) : Piece w g i (c - i) (xs.drop i) := by
  rcases h.2 with ⟨hv, _⟩ | ⟨g', cap, cur, hv, hg, hh, h1, h2, h3, h4⟩
  · cases hv
  · simp only [Value.slice.injEq, Option.some.injEq, Addr.mk.injEq, and_true] at hv
    obtain ⟨rfl, _, rfl⟩ := hv
    have hc63 : c ≤ 9223372036854775807 := by simpa only [maxLen] using h2
    refine ⟨blk_lt hh, by rw [List.length_drop]; omega, by omega, fun j hj => ?_⟩
    have hjl : i + j < xs.length := by simp at hj; omega
    have hH := holds_of_blockI (ss := xs) hh (by have h5 := h4; rw [show xs.length * Elem.k Int = xs.length from Nat.mul_one _, cells_i] at h5; exact h5)
    have := hH (i + j) (by simpa using hjl)
    rw [Nat.zero_add] at this
    have hjd : j < xs.length - i := by omega
    refine ⟨this.1.trans ?_, this.2⟩
    congr 2
    simp [hjl, hjd]

end Go.Proofs.YtdfleocknaackaaGreat

/- How deep nodes lie. -/
namespace Go.Proofs.YtdfleocknaackaaGreat
open Go.RowKit Go.Sort

theorem set_ow {w : World} {B g n c : Nat} {xs : List Int} (h : Ow w B (.slice (some ⟨g, 0, none⟩) n c) xs) (j : Nat) (x : Int) : Ow (w.setCell ⟨g, j, none⟩ (.int .i64 x)) B (.slice (some ⟨g, 0, none⟩) n c) (xs.set j x) ∧ w.grownBy (w.setCell ⟨g, j, none⟩ (.int .i64 x)) (some g) := by
  obtain ⟨ao, c', hv⟩ := h.sl.len
  simp only [Value.slice.injEq] at hv
  obtain ⟨_, rfl, _⟩ := hv
  obtain ⟨h1, h2⟩ := World.ownsRow.stored h j (.int .i64 x)
  refine ⟨?_, h2⟩
  unfold Ow
  rw [cells_i] at h1 ⊢
  rw [List.length_set, List.map_set]
  exact h1

/-- .. and what isn't through yet is nought; none is greater than how many are through. -/
structure DeepZ (n : Nat) (L : List Arc) (p d : List Int) : Prop where
  deep : Deep n L p d
  zero : ∀ i : Nat, (i : Int) ∉ p → d.getD i 0 = 0
  bnd : ∀ i : Nat, 0 ≤ d.getD i 0 ∧ d.getD i 0 ≤ p.length
theorem DeepZ.start (n : Nat) (L : List Arc) : DeepZ n L [] (List.replicate n 0) := by
  have hz : ∀ i : Nat, (List.replicate n (0 : Int)).getD i 0 = 0 := fun i => by
    by_cases h : i < n <;> simp [h]
  exact ⟨⟨by simp, by simp⟩, fun i _ => hz i, fun i => by rw [hz i]; simp⟩
theorem mostAt_bnd {L : List Arc} {d : List Int} {v b : Int} (l : List Int) (h : ∀ i : Nat, d.getD i 0 ≤ b) (hb : 0 ≤ b) : 0 ≤ mostAt L d v l ∧ mostAt L d v l ≤ b + 1 := by
  refine snoc_ind (P := fun l => 0 ≤ mostAt L d v l ∧ mostAt L d v l ≤ b + 1) ⟨by simp [mostAt], by simp [mostAt]; omega⟩ (fun l u ih => ?_) l
  rw [mostAt_snoc]
  have := h u.toNat
  split <;> omega
theorem DeepZ.next {N : Int} {L : List Arc} {t p q d : List Int} {v : Int} (h : PI N.toNat L t []) (e : t = p ++ v :: q) (hd : DeepZ N.toNat L p d) : DeepZ N.toNat L (p ++ [v]) (d.set v.toNat (mostAt L d v p)) := by
  have hv : 0 ≤ v ∧ v < N := by have := (h.mem (x := v)).1 (.inl (by rw [e]; simp)); omega
  have hm := mostAt_bnd (L := L) (v := v) p (fun i => (hd.bnd i).2) (by omega)
  refine ⟨hd.deep.next h e, fun i hi => ?_, fun i => ?_⟩
  · have h1 : (i : Int) ∉ p := fun c => hi (List.mem_append_left _ c)
    have h2 : v.toNat ≠ i := fun c => hi (by rw [List.mem_append, List.mem_singleton]; right; omega)
    rw [getD_set_ne h2]
    exact hd.zero i h1
  · rw [List.length_append, List.length_singleton]
    by_cases h2 : v.toNat = i
    · subst h2
      rw [getD_set_self (by rw [hd.deep.len]; omega)]
      omega
    · rw [getD_set_ne h2]
      have := hd.bnd i
      omega
theorem set_getD (d : List Int) (i : Nat) : d.set i (d.getD i 0) = d := by
  by_cases h : i < d.length
  · rw [getD_at h, List.set_getElem_self]
  · exact List.set_eq_of_length_le (by omega)

/-- Depths come out. -/
def GivesD (w : World) (n : Nat) (L : List Arc) (e : Ending) (w' : World) : Prop := ∃ v d, e = .returned (.tuple #[v, .bool true]) ∧ Ow w' w.heap.size v d ∧ IsDepth n L d ∧ Ext w w'

end Go.Proofs.YtdfleocknaackaaGreat

/- Arcs flipped at a node; the nodes from which no arc goes. -/
namespace Go.Proofs.YtdfleocknaackaaGreat
open Go.RowKit

def flipA (v : Int) (x : Arc) : Arc := if x.a = v then ⟨x.b, v⟩ else x
def flipD (L : List Arc) (v : Int) : List Arc := L.map (flipA v)
def isSink (L : List Arc) (v : Int) : Bool := !L.any fun x => decide (x.a = v)
def sinksL (N : Int) (L : List Arc) : List Int := if okD N L = true then (upto N.toNat).filter (isSink L) else []

theorem leaves_tells (w : World) (C : Nat) (x : Int) (hC : C < w.heap.size) (h0 : w.cell? ⟨C, 0, none⟩ = some (.int .i64 x)) : Tells Arc.val w (.func (.func 49) #[] #[.pointer (some ⟨C, 0, none⟩)]) (fun y => decide (y.a = x)) :=
  ⟨49, _, rfl, enters_of Tryz.func49 (by kernel_rfl) rfl, fun W ⟨a, b⟩ hW => by
    have k0 : W.cell? ⟨C, 0, none⟩ = some (.int .i64 x) := (hW.cell (p := ⟨C, 0, none⟩) hC).trans h0
    have hC' : C < W.heap.size := Nat.lt_of_lt_of_le hC hW.size
    clear h0 hC hW
    change Calls Tryz.prog _ #[.agg #[.int .i64 a, .int .i64 b], .pointer (some ⟨C, 0, none⟩)] W _
    by_cases e1 : a = x
    · have g1 : (a == x) = true := by simp [e1]
      have E1 := Lib.hid e1
      clear e1
      go_enter Tryz.func49, Tryz.ntmps49
      go_wp2
      go_ret
      exact ⟨ret_bool (by simp [E1.out]), (by repeat (first | exact Ext.refl _ | assumption | refine Ext.alloc ?_ _ | refine Ext.drew ?_ | refine Ext.drewN ?_ _))⟩
    · have g1 : (a == x) = false := by simp [e1]
      have E1 := Lib.hid e1
      clear e1
      go_enter Tryz.func49, Tryz.ntmps49
      go_wp2
      go_ret
      exact ⟨ret_bool (by simp [E1.out]), (by repeat (first | exact Ext.refl _ | assumption | refine Ext.alloc ?_ _ | refine Ext.drew ?_ | refine Ext.drewN ?_ _))⟩⟩

set_option maxHeartbeats 1000000 in
theorem sinks_any (w : World) (N : Int) (v : Value) (E : List Arc) (h : Sl w v E) :
    Calls Tryz.prog 22 #[.int .i64 N, v] w (GivesOw w (sinksL N E)) := by
  obtain ⟨ao, c, rfl⟩ := h.len
  have HS := Lib.hid h
  clear h
  by_cases ok : OkD N E
  · have HC := Lib.hid (chkD_of ok)
    have h0 := ok.n0
    have h64 := ok.n64
    obtain ⟨n, rfl⟩ := Int.eq_ofNat_of_zero_le h0
    have HR : Hid (sinksL (n : Int) E = (upto n).filter (isSink E)) := Lib.hid (by unfold sinksL; rw [if_pos (okD_iff.2 ok)]; rfl)
    have hn64 : n ≤ 64 := by omega
    have hmf : ∀ (fn : Fn) (first cap : Array Value) (w : World), (Instr.makeFunc fn first cap).run Tryz.prog w = .ok (.func fn first cap) w := fun _ _ _ _ => rfl
    clear ok
    go_enter Tryz.func22, Tryz.ntmps22
    go_wp2_with (first
      | (go_at_call 45; refine (checkA_any _ _ _ E (HS.out.ext (by repeat (first | exact Ext.refl _ | assumption | refine Ext.alloc ?_ _ | refine Ext.drew ?_ | refine Ext.drewN ?_ _))) 0 HC.out).mono ?_; rintro e w1 ⟨rfl, x1⟩))
    go_loopw [5, 12] (fun q i wr => ∃ k : Nat, k ≤ n ∧ i = .int .i64 k ∧ Hid (Ow wr w.heap.size q ((upto k).filter (isSink E))) ∧ Hid (Ext w wr)) (fun _ i _ => n - (intOf i).toNat)
    case atStart => exact ⟨0, Nat.zero_le _, rfl, Lib.hid (Ow.nil _ _), Lib.hid x1⟩
    case round =>
      obtain ⟨k, hk, rfl, HO, HX⟩ := hrel
      by_cases hlt : k < n
      · obtain ⟨L, hL⟩ : ∃ L, L = (upto k).filter (isSink E) := ⟨_, rfl⟩
        have hLl : L.length ≤ 1000000 := by
          have := List.length_filter_le (isSink E) (upto k)
          rw [← hL, upto_length] at this
          omega
        have HN : Hid ((upto (k + 1)).filter (isSink E) = L ++ (if isSink E (k : Int) = true then [(k : Int)] else [])) := Lib.hid (by rw [upto_succ, List.filter_append, ← hL]; simp [List.filter_cons])
        rw [← hL] at HO
        have hwr : w.heap.size ≤ wr.heap.size := HX.out.size
        obtain ⟨s, hs⟩ : ∃ s, (E.any fun y => decide (y.a = (k : Int))) = s := ⟨_, rfl⟩
        have HSK : Hid (isSink E (k : Int) = !s) := Lib.hid (by unfold isSink; rw [hs])
        have HA := Lib.hid hs
        have HW : Hid (∀ W, Ext (wr.alloc (.cells #[.int .i64 (k : Int)] 3)) W → W.cell? ⟨wr.heap.size, 0, none⟩ = some (.int .i64 (k : Int))) := Lib.hid fun W hW => cell_at W hW rfl
        have HT : Hid (Tells Arc.val (wr.alloc (.cells #[.int .i64 (k : Int)] 3)) (.func (.func 49) #[] #[.pointer (some ⟨wr.heap.size, 0, none⟩)]) (fun y => decide (y.a = (k : Int)))) := Lib.hid (leaves_tells _ _ _ (by simp) (cell_at _ (Ext.refl _) rfl))
        clear hL hs
        cases s
        all_goals
          go_wp2_with (first
            | (go_at_call 48; refine (containsFunc_a _ _ _ E _ (HS.out.ext (HX.out.alloc _)) HT.out _ HA.out).mono ?_; rintro e w2 ⟨rfl, x2⟩; have y2 := Lib.hid ((HX.out.alloc (.cells #[.int .i64 (k : Int)] 3)).trans x2); have p0 := HW.out w2 x2; have O2 := Lib.hid (HO.out.ext (((Ext.refl wr).alloc _).trans x2)); have hs2 : w.heap.size ≤ w2.heap.size := y2.out.size)
            | (at_builtin; refine wpList_append_sl (α := Int) rfl (.tmp 19) (.tmp 21) rfl w.heap.size _ L rfl ?_ (.slice (some ⟨_, 0, none⟩) 1 1) [(k : Int)] rfl ?_ ?_ ?_ ?_; exact (O2.out.alloc _); exact (Sl.litAt _ _ (by simp) [(k : Int)] (by simp)); (first | omega | (simp; omega)); exact (by first | (simp; done) | (simp; omega)); intro v3 W3 ho3 ha3; have O3 := Lib.hid ho3; have y3 : Hid (Ext w W3) := Lib.hid (Below.trans (y2.out.alloc _) ha3.below); clear ho3 ha3))
          go_roundw
          case rel => exact ⟨k + 1, by omega, by go_num, Lib.hid (by rw [HN.out, HSK.out]; first | exact O3.out | simpa using O2.out), by first | exact y3 | exact y2⟩
          case measure => simp [intOf]; omega
      · have hkl : k = n := by omega
        have ho := HO.out
        rw [hkl, ← HR.out] at ho
        have HO' := Lib.hid ho
        clear ho HO hkl
        go_wp2
        go_ret
        exact ⟨_, rfl, HO'.out, HX.out⟩
  · have HC := Lib.hid (chkD_not ok)
    have HR : Hid (sinksL N E = []) := Lib.hid (by unfold sinksL; rw [if_neg (fun e => ok (okD_iff.1 e))])
    clear ok
    go_enter Tryz.func22, Tryz.ntmps22
    go_wp2_with (first
      | (go_at_call 45; refine (checkA_any _ _ _ E (HS.out.ext (by repeat (first | exact Ext.refl _ | assumption | refine Ext.alloc ?_ _ | refine Ext.drew ?_ | refine Ext.drewN ?_ _))) 40 HC.out).mono ?_; rintro e w1 ⟨rfl, x1⟩))
    go_ret
    exact ⟨_, rfl, by rw [HR.out]; exact Ow.nil _ _, x1⟩

end Go.Proofs.YtdfleocknaackaaGreat
