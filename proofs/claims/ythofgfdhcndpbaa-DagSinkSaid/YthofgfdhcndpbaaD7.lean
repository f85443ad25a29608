/- The nodes that arcs lead round. -/
import Derived.Test.YthofgfdhcndpbaaD6
import Derived.Laws.EntriesVeiled
namespace Go.Proofs.Ythofgfdhcndpbaa
open Go.RowKit Go.Sort

def cycB (N : Int) (L : List Arc) : Bool := okD N L && decide ((peeled N L).2 ≠ [])
def cycL (N : Int) (L : List Arc) : List Int := if cycB N L = true then cycleOf N L else []
theorem cycB_iff {N : Int} {L : List Arc} : cycB N L = true ↔ OkD N L ∧ (peeled N L).2 ≠ [] := by simp [cycB, okD_iff]

/-- What is told of each of these. -/
structure TellsIn (w : World) (fv : Value) (xs : List Int) (p : Int → Bool) : Prop where
  any : ∃ g lb, fv = .func (.func g) #[] lb ∧ (∀ args w, (callFunc g args).run Try.prog w = .ok (.enter g args) w) ∧ ∀ x ∈ xs, Calls Try.prog g (#[.int .i64 x] ++ lb) w fun e w' => e = .returned (.bool (p x)) ∧ w' = w

set_option maxHeartbeats 1000000 in
theorem indexFunc_i (w : World) (v fv : Value) (xs : List Int) (p : Int → Bool) (h : Sl w v xs) (ht : TellsIn w fv xs p) (m : Nat) (hm : m < xs.length) (hp : p (xs.getD m 0) = true) (hj : ∀ j, j < m → p (xs.getD j 0) = false) :
    Calls Try.prog 38 #[v, fv] w fun e w' => e = .returned (.int .i64 m) ∧ w' = w := by
  obtain ⟨g, lb, rfl, eg, hq⟩ := ht.any
  have HQ := Lib.hid hq
  have HP := Lib.hid hp
  have HJ := Lib.hid hj
  clear ht hq hp hj
  rcases h.ints with ⟨rfl, ao, c, rfl⟩ | ⟨b, off, c, rfl, hc, hc63, hb, hpos, hcell⟩
  · simp at hm
  · have HC := Lib.hid hcell
    clear hcell h
    go_enter Try.func38, Try.ntmps38
    go_wp2
    go_loop [8] (fun i => ∃ k : Nat, k ≤ m ∧ i = .int .i64 k) (fun i => xs.length - (intOf i).toNat)
    case atStart => exact ⟨0, Nat.zero_le _, rfl⟩
    case round =>
      obtain ⟨k, hk, rfl⟩ := hrel
      have hlt : k < xs.length := by omega
      have hy := HC.out k hlt
      obtain ⟨y, hyy⟩ : ∃ y, y = xs.getD k 0 := ⟨_, rfl⟩
      rw [← hyy] at hy
      have hmem : y ∈ xs := by rw [hyy, getD_at hlt]; exact List.getElem_mem hlt
      obtain ⟨s, hs⟩ : ∃ s, p y = s := ⟨_, rfl⟩
      have HH : Hid (Calls Try.prog g (#[.int .i64 y] ++ lb) w fun e w' => e = .returned (.bool s) ∧ w' = w) := Lib.hid (hs ▸ HQ.out y hmem)
      have HY := Lib.hid hyy
      have HS := Lib.hid hs
      clear hyy hmem hs
      by_cases hkm : k < m
      · have hsf : s = false := by rw [← HS.out, HY.out]; exact HJ.out k hkm
        subst hsf
        go_wp2_with (go_at_fn g; refine HH.out.mono ?_; rintro e w1 ⟨rfl, rfl⟩)
        go_round
        case rel => exact ⟨k + 1, by omega, by go_num⟩
        case measure => simp [intOf]; omega
      · have hkm2 : k = m := by omega
        have hsf : s = true := by rw [← HS.out, HY.out, hkm2]; exact HP.out
        subst hsf
        have HK := Lib.hid hkm2
        clear hkm2
        go_wp2_with (go_at_fn g; refine HH.out.mono ?_; rintro e w1 ⟨rfl, rfl⟩)
        go_ret
        exact ⟨ret_int (by rw [HK.out]), rfl⟩

theorem next_find {L : List Arc} {l : List Int} {v : Int} (h : ∃ u ∈ l, (⟨u, v⟩ : Arc) ∈ L) : ∃ k, k < l.length ∧ (⟨l.getD k 0, v⟩ : Arc) ∈ L ∧ (∀ j, j < k → (⟨l.getD j 0, v⟩ : Arc) ∉ L) ∧ l.getD k 0 = nextOf L l v := by
  cases e : l.findIdx? fun u => decide ((⟨u, v⟩ : Arc) ∈ L) with
  | none =>
    obtain ⟨u, hu, hv⟩ := h
    have := List.findIdx?_eq_none_iff.1 e u hu
    simp [hv] at this
  | some k =>
    obtain ⟨hk, h1, h2⟩ := List.findIdx?_eq_some_iff_getElem.1 e
    have h1' : (⟨l.getD k 0, v⟩ : Arc) ∈ L := by rw [getD_at hk]; simpa using h1
    have h2' : ∀ j, j < k → (⟨l.getD j 0, v⟩ : Arc) ∉ L := fun j hj => by rw [getD_at (by omega)]; simpa using h2 j hj
    exact ⟨k, hk, h1', h2', (next_at hk h1' h2').symm⟩

theorem leads_in (W w2 : World) (C D : Nat) (g : FuncId) (lb : Array Value) (E : List Arc) (xs : List Int) (last : Int) (h : Leads w2 (.func (.func g) #[] lb) E) (hx : Ext w2 W) (c0 : W.cell? ⟨C, 0, none⟩ = some (.func (.func g) #[] lb)) (d0 : W.cell? ⟨D, 0, none⟩ = some (.int .i64 last))
    (hr : ∀ x ∈ xs, 0 ≤ x ∧ x < 64) (hl : 0 ≤ last ∧ last < 64) : TellsIn W (.func (.func 39) #[] #[.pointer (some ⟨C, 0, none⟩), .pointer (some ⟨D, 0, none⟩)]) xs (fun u => decide ((⟨u, last⟩ : Arc) ∈ E)) :=
  ⟨39, _, rfl, enters_of Try.func39 (by kernel_rfl) rfl, fun x hm => by
    obtain ⟨g', lb', hv, eg, hq⟩ := h.any
    simp only [Value.func.injEq, Fn.func.injEq, true_and] at hv
    obtain ⟨rfl, rfl⟩ := hv
    have HQ := Lib.hid (hq W x last (hr x hm).1 (hr x hm).2 hl.1 hl.2 hx)
    clear hq h hr hl
    obtain ⟨s, hs⟩ : ∃ s, decide ((⟨x, last⟩ : Arc) ∈ E) = s := ⟨_, rfl⟩
    rw [hs] at HQ
    have HS := Lib.hid hs
    clear hs hm
    change Calls Try.prog _ #[.int .i64 x, .pointer (some ⟨C, 0, none⟩), .pointer (some ⟨D, 0, none⟩)] W _
    go_enter Try.func39, Try.ntmps39
    go_wp2_with (go_at_fn g; refine HQ.out.mono ?_; rintro e w1 ⟨rfl, rfl⟩)
    go_ret
    exact ⟨ret_bool HS.out.symm, rfl⟩⟩

set_option maxHeartbeats 4000000 in
theorem cycle_yes (w : World) (n : Nat) (v : Value) (E : List Arc) (h : Sl w v E) (ok : OkD (n : Int) E) (hne : (peeled (n : Int) E).2 ≠ []) :
    Calls Try.prog 20 #[.int .i64 n, v] w (GivesT w (cycleOf (n : Int) E) true) := by
  obtain ⟨ao, c, rfl⟩ := h.len
  have HS := Lib.hid h
  have HC := Lib.hid (chkD_of ok)
  have h64 := ok.n64
  obtain ⟨hp, hhit⟩ := peeled_spec ok
  have hlen := hp.len
  have hrange : ∀ x ∈ (peeled (n : Int) E).2, 0 ≤ x ∧ x < 64 := fun x hx => by have := hp.mem.1 (.inr hx); omega
  have hst := Wy.start hne
  have hpos : 0 < (peeled (n : Int) E).2.length := List.length_pos_iff.2 hne
  obtain ⟨l, hl⟩ : ∃ l, l = (peeled (n : Int) E).2 := ⟨_, rfl⟩
  obtain ⟨C, hCd⟩ : ∃ C, C = cycleOf (n : Int) E := ⟨_, rfl⟩
  rw [← hl] at hhit hlen hrange hst hpos
  rw [← hCd] at hst ⊢
  have hll : l.length ≤ 64 := by omega
  have hlz : ((l.length : Int) == 0) = false := beq_eq_false_iff_ne.2 (by omega)
  obtain ⟨l0, hl0e⟩ : ∃ l0, l0 = l.getD 0 0 := ⟨_, rfl⟩
  have HL0 := Lib.hid hl0e
  clear hl0e
  have HL := Lib.hid hl
  have HO := Lib.hid ok
  have HH := Lib.hid hhit
  have HR := Lib.hid hrange
  have HST := Lib.hid hst
  clear h ok hne hp hhit hlen hrange hst hl hCd
  have hmf : ∀ (fn : Fn) (first cap : Array Value) (w : World), (Instr.makeFunc fn first cap).run Try.prog w = .ok (.func fn first cap) w := fun _ _ _ _ => rfl
  go_enter Try.func20, Try.ntmps20
  go_wp2_with (first
    | (go_at_call 18; refine (check_any _ _ _ E (HS.out.ext (by repeat (first | exact Ext.refl _ | assumption | refine Ext.alloc ?_ _ | refine Ext.drew ?_ | refine Ext.drewN ?_ _))) 0 HC.out).mono ?_; rintro e w1 ⟨rfl, x1⟩)
    | (go_at_call 34; refine (asker_any _ _ _ E (HS.out.ext (by repeat (first | exact Ext.refl _ | assumption | exact Hid.out (by assumption) | refine Ext.alloc ?_ _ | refine Ext.drew ?_ | refine Ext.drewN ?_ _ | refine Ext.trans ?_ (by assumption)))) HO.out).mono ?_; rintro e w2 ⟨fv, rfl, ht, x2⟩; have y2 := Ext.trans x1 x2; obtain ⟨g, lb, rfl⟩ := ht.sh; have HT := Lib.hid ht; have HB := Lib.hid (fun W (hW : Ext (w2.alloc (.cells #[.func (.func g) #[] lb] 47)) W) => (cell_at W hW rfl : W.cell? ⟨w2.heap.size, 0, none⟩ = some (.func (.func g) #[] lb))); clear ht)
    | (go_at_call 33; refine (peel_any _ n _ _ E HO.out (by omega) (HT.out.ext ((Ext.refl _).alloc _))).mono ?_; rintro e w3 ⟨v1, v2, rfl, ho1, ho2, x3⟩; have y3 := Ext.trans ((Ext.refl w2).alloc _) x3; rw [← HL.out] at ho2; obtain ⟨g2, c2, rfl, _, hg2l, hc2a, hc2b⟩ := ho2.shape (fun e => by obtain ⟨ao9, c9, e9⟩ := ho2.sl.len; rw [e] at e9; simp at e9; omega); have hl0 : w3.cell? ⟨g2, 0, none⟩ = some (.int .i64 l0) := (by rw [HL0.out]; obtain ⟨b9, o9, e9, _, _, _, _, h9⟩ := ho2.sl.intsAt hpos; simp only [Option.some.injEq, Addr.mk.injEq, and_true] at e9; obtain ⟨rfl, rfl⟩ := e9; exact h9); have O2 := Lib.hid ho2.sl; obtain ⟨ao1, n1, c1, rfl⟩ := ho1.sh; clear ho1 ho2; have cf := HB.out w3 x3))
  have X3 := Lib.hid y3
  go_loopw [9] (fun v9 wr => ∃ (ws : List Int) (g9 c9 : Nat), v9 = .slice (some ⟨g9, 0, none⟩) ws.length c9 ∧ 1 ≤ ws.length ∧ ws.length ≤ l.length ∧ Hid (Ow wr w3.heap.size (.slice (some ⟨g9, 0, none⟩) ws.length c9) ws) ∧ Hid (Wy E l C ws (nextOf E l (ws.getD (ws.length - 1) 0))) ∧ Hid (Ext w3 wr)) (fun v9 _ => l.length + 1 - lenOf v9)
  case atStart =>
    refine ⟨[l0], w3.heap.size, 1, rfl, Nat.le_refl _, hpos, Lib.hid (Ow.litAt w3 _ _ rfl (Nat.le_refl _) [l0] (by simp)), Lib.hid ?_, Lib.hid ((Ext.refl _).alloc _)⟩
    have := (HST.out.next HH.out (by simp))
    rw [show l.headD 0 = l0 from by rw [HL0.out]; cases l with | nil => simp at hpos | cons x l => rfl] at this
    exact this
  case round =>
    obtain ⟨ws, g9, c9, rfl, hw1, hwl, HW, HY, HX⟩ := hrel
    obtain ⟨last, hlast⟩ : ∃ last, last = ws.getD (ws.length - 1) 0 := ⟨_, rfl⟩
    have hmem : last ∈ l := by rw [hlast, getD_at (by omega)]; exact HY.out.sub _ (List.getElem_mem (by omega))
    rw [← hlast] at HY
    obtain ⟨k, hk, hk1, hk2, hk3⟩ := next_find (HH.out last hmem)
    obtain ⟨a, ha⟩ : ∃ a, a = nextOf E l last := ⟨_, rfl⟩
    rw [← ha] at HY hk3
    obtain ⟨b9, o9, e9, _, hnc9, hc963, hb9, hcl⟩ := HW.out.sl.intsAt (show ws.length - 1 < ws.length by omega)
    simp only [Option.some.injEq, Addr.mk.injEq, and_true] at e9
    obtain ⟨rfl, rfl⟩ := e9
    rw [← hlast] at hcl
    obtain ⟨b2, o2, e2, _, _, _, _, hca0⟩ := O2.out.intsAt hk
    simp only [Option.some.injEq, Addr.mk.injEq, and_true] at e2
    obtain ⟨rfl, rfl⟩ := e2
    rw [hk3] at hca0
    have HA : Hid (∀ W, Ext wr W → W.cell? ⟨g2, 0 + k, none⟩ = some (.int .i64 a)) := Lib.hid fun W hW => ((HX.out.trans hW).cell (p := ⟨g2, 0 + k, none⟩) hg2l).trans hca0
    have hca := HA.out (wr.alloc (.cells #[.int .i64 last] 3)) ((Ext.refl _).alloc _)
    rw [Nat.zero_add] at hca
    have e7 : ((ws.length : Int) - 1).toNat = ws.length - 1 := by omega
    have hcl' : wr.cell? ⟨g9, ((ws.length : Int) - 1).toNat, none⟩ = some (.int .i64 last) := by rw [e7]; rwa [Nat.zero_add] at hcl
    have hcl3 : wr.cell? ⟨g9, ws.length - 1, none⟩ = some (.int .i64 last) := by rwa [Nat.zero_add] at hcl
    have hx3 : Ext w3 wr := HX.out
    have HT3 : Hid (TellsIn (wr.alloc (.cells #[.int .i64 last] 3)) (.func (.func 39) #[] #[.pointer (some ⟨w2.heap.size, 0, none⟩), .pointer (some ⟨wr.heap.size, 0, none⟩)]) l (fun u => decide ((⟨u, last⟩ : Arc) ∈ E))) :=
      Lib.hid (leads_in _ w2 _ _ g lb E l last HT.out (((Ext.refl w2).alloc _).trans (x3.trans (hx3.alloc _))) (HB.out _ (x3.trans (hx3.alloc _))) (cell_at _ (Ext.refl _) rfl) HR.out (HR.out last hmem))
    have HK1 : Hid (decide ((⟨l.getD k 0, last⟩ : Arc) ∈ E) = true) := Lib.hid (by simpa using hk1)
    have HK2 : Hid (∀ j, j < k → decide ((⟨l.getD j 0, last⟩ : Arc) ∈ E) = false) := Lib.hid fun j hj => by simpa using hk2 j hj
    have HAN := Lib.hid ha
    have hki : (k : Int) < (l.length : Int) := by omega
    have hk0 : (0 : Int) ≤ (k : Int) := by omega
    have hw1i : (1 : Int) ≤ (ws.length : Int) := by omega
    have HWA : Hid (Ow (wr.alloc (.cells #[.int .i64 last] 3)) w3.heap.size (.slice (some ⟨g9, 0, none⟩) ws.length c9) ws) := Lib.hid (HW.out.alloc _)
    have HLAST := Lib.hid hlast
    have hgb := (HW.out.low g9 rfl).1
    clear hlast hmem hk1 hk2 hk3 ha hcl hca0 e7
    by_cases hin : a ∈ ws
    · have HI : Hid (placeIn ws a = (ws.idxOf a : Nat)) := Lib.hid (place_some hin).1
      have hil := (place_some hin).2
      have HC2 := Lib.hid (HY.out.stop hin)
      obtain ⟨i, hi⟩ : ∃ i, i = ws.idxOf a := ⟨_, rfl⟩
      rw [← hi] at HI hil HC2
      have hi0 : (0 : Int) ≤ (i : Int) := by omega
      have hic : (i : Int) ≤ (c9 : Int) := by omega
      have hic2 : i ≤ c9 := by omega
      have hil2 : i ≤ ws.length := by omega
      have hil3 : (i : Int) ≤ (ws.length : Int) := by omega
      have hci : ¬ c9 = i := by omega
      clear hi hin
      have HTU : Hid (Calls Try.prog 41 #[.slice (some ⟨g9, i, none⟩) (ws.length - i) (c9 - i)] (wr.alloc (.cells #[.int .i64 last] 3)) fun e w' => ∃ v, e = .returned v ∧ Ow w' (wr.alloc (.cells #[.int .i64 last] 3)).heap.size v C ∧ Below w3.heap.size (wr.alloc (.cells #[.int .i64 last] 3)) w') := Lib.hid (by
        have := turned_any _ w3.heap.size g9 i (c9 - i) (ws.drop i) (Piece.of HWA.out i (by omega)) hgb (Nat.le_trans hx3.size (by simp)) (by rw [ne_eq, ← List.length_eq_zero_iff, List.length_drop]; omega) (by rw [List.length_drop]; omega)
        rw [HC2.out, List.length_drop] at this
        exact this)
      go_wp2_with (first
        | (go_at_call 38; refine (indexFunc_i _ _ _ l _ (O2.out.ext (hx3.alloc _)) HT3.out k hk HK1.out HK2.out).mono ?_; rintro e w4 ⟨rfl, rfl⟩)
        | (go_at_call 40; refine (index_i _ _ ws a HWA.out.sl).mono ?_; rintro e w4 ⟨rfl, rfl⟩; rw [HI.out])
        | (go_at_call 41; refine HTU.out.mono ?_; rintro e w5 ⟨v5, rfl, ho5, hb5⟩; obtain ⟨ao5, n5, c5, rfl⟩ := ho5.sh; have O5 := Lib.hid ho5; have B5 := Lib.hid hb5; clear ho5 hb5))
      go_ret2
      have hs : w.heap.size ≤ (wr.alloc (.cells #[.int .i64 last] 3)).heap.size := ((y2.trans X3.out).trans (hx3.alloc _)).size
      exact ⟨_, rfl, O5.out.mono hs, (y2.trans X3.out).trans (Below.trans (hx3.alloc _) B5.out)⟩
    · have HI : Hid (placeIn ws a = -1) := Lib.hid (place_none hin)
      have HN := Lib.hid (HY.out.next HH.out hin)
      have hnl := HN.out.few
      rw [List.length_append, List.length_singleton] at hnl
      clear hin
      go_wp2_with (first
        | (go_at_call 38; refine (indexFunc_i _ _ _ l _ (O2.out.ext (hx3.alloc _)) HT3.out k hk HK1.out HK2.out).mono ?_; rintro e w4 ⟨rfl, rfl⟩)
        | (go_at_call 40; refine (index_i _ _ ws a HWA.out.sl).mono ?_; rintro e w4 ⟨rfl, rfl⟩; rw [HI.out])
        | (at_builtin; refine wpList_append_sl (α := Int) rfl (.tmp 53) (.tmp 55) rfl w3.heap.size (.slice (some ⟨g9, 0, none⟩) ws.length c9) ws rfl ?_ (.slice (some ⟨_, 0, none⟩) 1 1) [a] rfl ?_ ?_ ?_ ?_; exact (HWA.out.alloc _); exact (Sl.litAt _ _ (by simp) [a] (by simp)); (first | omega | (simp; omega)); (have := hx3.size; simp; omega); intro v6 W6 ho6 ha6; have y6 : Hid (Ext w3 W6) := Lib.hid (Below.trans ((hx3.alloc _).alloc _) ha6.below); obtain ⟨g6, c6, rfl, _, _, _, _⟩ := ho6.shape (ha6.kept (by simp)); have O6 := Lib.hid ho6; clear ho6 ha6))
      go_roundw
      case rel =>
        refine ⟨ws ++ [a], g6, c6, by simp, by simp, by simp; omega, O6, Lib.hid ?_, y6⟩
        have e1 : (ws ++ [a]).getD ((ws ++ [a]).length - 1) 0 = a := by
          rw [List.length_append, List.length_singleton, getD_at (by simp), List.getElem_append_right (by omega)]
          simp
        rw [e1]
        exact HN.out
      case measure => simp [lenOf]; omega

theorem cycle_no (w : World) (N : Int) (v : Value) (E : List Arc) (h : Sl w v E) (hno : cycB N E = false) :
    Calls Try.prog 20 #[.int .i64 N, v] w (GivesT w [] false) := by
  obtain ⟨ao, c, rfl⟩ := h.len
  have HS := Lib.hid h
  clear h
  have hmf : ∀ (fn : Fn) (first cap : Array Value) (w : World), (Instr.makeFunc fn first cap).run Try.prog w = .ok (.func fn first cap) w := fun _ _ _ _ => rfl
  by_cases ok : OkD N E
  · have HC := Lib.hid (chkD_of ok)
    have h0 := ok.n0
    have h64 := ok.n64
    have HO := Lib.hid ok
    obtain ⟨n, rfl⟩ := Int.eq_ofNat_of_zero_le h0
    have HE : Hid ((peeled (n : Int) E).2.length = 0) := Lib.hid (by
      cases e : (peeled (n : Int) E).2 with
      | nil => rfl
      | cons x l => rw [cycB_iff.2 ⟨ok, by rw [e]; simp⟩] at hno; cases hno)
    clear ok hno
    go_enter Try.func20, Try.ntmps20
    go_wp2_with (first
      | (go_at_call 18; refine (check_any _ _ _ E (HS.out.ext (by repeat (first | exact Ext.refl _ | assumption | refine Ext.alloc ?_ _ | refine Ext.drew ?_ | refine Ext.drewN ?_ _))) 0 HC.out).mono ?_; rintro e w1 ⟨rfl, x1⟩)
      | (go_at_call 34; refine (asker_any _ _ _ E (HS.out.ext (by repeat (first | exact Ext.refl _ | assumption | exact Hid.out (by assumption) | refine Ext.alloc ?_ _ | refine Ext.drew ?_ | refine Ext.drewN ?_ _ | refine Ext.trans ?_ (by assumption)))) HO.out).mono ?_; rintro e w2 ⟨fv, rfl, ht, x2⟩; have y2 := Ext.trans x1 x2; obtain ⟨g, lb, rfl⟩ := ht.sh; have HT := Lib.hid ht; clear ht)
      | (go_at_call 33; refine (peel_any _ n _ _ E HO.out (by omega) (HT.out.ext ((Ext.refl _).alloc _))).mono ?_; rintro e w3 ⟨v1, v2, rfl, ho1, ho2, x3⟩; have y3 := Ext.trans y2 (Ext.trans ((Ext.refl w2).alloc _) x3); obtain ⟨ao2, c2, rfl⟩ := ho2.sl.len; rw [HE.out]; obtain ⟨ao1, n1, c1, rfl⟩ := ho1.sh; clear ho1 ho2))
    go_ret2
    exact ⟨_, rfl, Ow.nil _ _, y3⟩
  · have HC := Lib.hid (chkD_not ok)
    clear ok hno
    go_enter Try.func20, Try.ntmps20
    go_wp2_with (first
      | (go_at_call 18; refine (check_any _ _ _ E (HS.out.ext (by repeat (first | exact Ext.refl _ | assumption | refine Ext.alloc ?_ _ | refine Ext.drew ?_ | refine Ext.drewN ?_ _))) 40 HC.out).mono ?_; rintro e w1 ⟨rfl, x1⟩))
    go_ret2
    exact ⟨_, rfl, Ow.nil _ _, x1⟩

theorem cycle_any (w : World) (N : Int) (v : Value) (E : List Arc) (h : Sl w v E) (xs : List Int) (b : Bool) (hx : cycL N E = xs) (hb : cycB N E = b) :
    Calls Try.prog 20 #[.int .i64 N, v] w (GivesT w xs b) := by
  cases b with
  | false =>
    have : xs = [] := by rw [← hx]; unfold cycL; rw [if_neg (by rw [hb]; simp)]
    subst this
    exact cycle_no w N v E h hb
  | true =>
    obtain ⟨ok, hne⟩ := cycB_iff.1 hb
    have : xs = cycleOf N E := by rw [← hx]; unfold cycL; rw [if_pos hb]
    subst this
    obtain ⟨n, rfl⟩ := Int.eq_ofNat_of_zero_le ok.n0
    exact cycle_yes w n v E h ok hne

end Go.Proofs.Ythofgfdhcndpbaa
