/- Texts of this seat. -/
import Derived.Test.YtfbambemjokmgaaGreatNAG
namespace Go.Proofs.YtfbambemjokmgaaGreat
open Go.RowKit
set_option maxHeartbeats 2000000 in
theorem behind_any (w : World) (cv fv : Value) (N : Int) (E : List Edge) (c : List Int) (ok : OkG N E) (h : Sl w cv c) (hl : (c.length : Int) = N) (ha : Asks w fv N E) :
    Calls Tryz.prog 156 #[cv, fv] w (GivesOw w (roundL N E c)) := by
  obtain ⟨vo, k0, rfl⟩ := h.len
  obtain ⟨g, lb, rfl, eg, hq⟩ := ha.any
  have n0 := ok.n0
  have n64 := ok.n64
  have HA := Lib.hid ha
  have HQ := Lib.hid hq
  have HOK := Lib.hid ok
  have HLL := Lib.hid hl
  have X0 : Ext w ((w.alloc (.cells #[.slice vo c.length k0] 26)).alloc (.cells #[.func (.func g) #[] lb] 191)) := ext_two w _ _
  have HX0 := Lib.hid X0
  have HS := Lib.hid (h.ext X0)
  obtain ⟨R, hR⟩ : ∃ R, R = roundL N E c := ⟨_, rfl⟩
  have hRl : R.length = c.length := by rw [hR, roundL_length]; omega
  have HR := Lib.hid hR
  have HRL := Lib.hid hRl
  rw [← hR]
  have hc64 : c.length ≤ 64 := by omega
  have HK : Hid (∀ W, Ext ((w.alloc (.cells #[.slice vo c.length k0] 26)).alloc (.cells #[.func (.func g) #[] lb] 191)) W → W.cell? ⟨w.heap.size, 0, none⟩ = some (.slice vo c.length k0) ∧ W.cell? ⟨w.heap.size + 1, 0, none⟩ = some (.func (.func g) #[] lb)) := Lib.hid fun W hW => by
    obtain ⟨hA, hB⟩ := box2 (hW.mono (by rw [size_alloc, size_alloc]; omega))
    exact ⟨blk_cell hA 0 rfl, blk_cell hB 0 rfl⟩
  have hmf : ∀ (fn : Fn) (first cap : Array Value) (w : World), (Instr.makeFunc fn first cap).run Tryz.prog w = .ok (.func fn first cap) w := fun _ _ _ _ => rfl
  clear h ha hq ok hl hR hRl X0
  go_enter Tryz.func156, Tryz.ntmps156
  go_wp2
  go_loopw [5, 12] (fun q i wr => ∃ k : Nat, k ≤ c.length ∧ i = .int .i64 k ∧ Hid (Ow wr (w.heap.size + 2) q (R.take k)) ∧ Hid (Ext ((w.alloc (.cells #[.slice vo c.length k0] 26)).alloc (.cells #[.func (.func g) #[] lb] 191)) wr)) (fun _ i _ => c.length - (intOf i).toNat)
  case atStart => exact ⟨0, Nat.zero_le _, rfl, Lib.hid (Ow.nil _ _), Lib.hid (Ext.refl _)⟩
  case round =>
    obtain ⟨k, hk, rfl, HO, HX⟩ := hrel
    have hsz : w.heap.size + 2 ≤ wr.heap.size := by have := HX.out.size; rw [size_alloc, size_alloc] at this; omega
    by_cases hlt : k < c.length
    · obtain ⟨b, off, rfl, hn, hnc, hc63, hb, hcell⟩ := HS.out.intsAt hlt
      have hya := (HX.out.cell (p := ⟨b, off + k, none⟩) hb).trans hcell
      obtain ⟨kc, kf⟩ := HK.out wr HX.out
      obtain ⟨y, hy⟩ : ∃ y, y = c.getD k 0 := ⟨_, rfl⟩
      rw [← hy] at hya
      have hkN : (k : Int) < N := by have := HLL.out; omega
      have hcol : col c (k : Int) = y := by rw [hy]; rfl
      have HN : Hid (R.take (k + 1) = R.take k ++ [take1 c (rnear N E k) k]) := Lib.hid (by
        rw [take_next (by rw [HRL.out]; exact hlt) 0]
        congr 2
        have := col_round (N := N) (E := E) (c := c) (i := (k : Int)) (by omega) hkN
        rw [← HR.out] at this
        exact this)
      obtain ⟨L, hL⟩ : ∃ L, L = R.take k := ⟨_, rfl⟩
      have hLl : L.length ≤ 64 := by rw [hL]; simp; omega
      rw [← hL] at HO HN
      -- the box of the node
      obtain ⟨W1, hW1⟩ : ∃ W1, W1 = wr.alloc (.cells #[.int .i64 (k : Int)] 3) := ⟨_, rfl⟩
      have XW : Ext wr W1 := by rw [hW1]; exact (Ext.refl wr).alloc _
      have v1 : W1.cell? ⟨wr.heap.size, 0, none⟩ = some (.int .i64 (k : Int)) := by rw [hW1]; exact blk_cell (get_alloc_new _ _) 0 rfl
      have vsz : W1.heap.size = wr.heap.size + 1 := by rw [hW1, size_alloc]
      have XX := HX.out.trans XW
      obtain ⟨kc1, kf1⟩ := HK.out W1 XX
      have HT := Lib.hid (taken_tells W1 (w.heap.size + 1) wr.heap.size w.heap.size _ _ N E c k HOK.out (by omega) (by omega) (by omega) kf1 v1 kc1 (HS.out.ext XX) HLL.out (HA.out.ext (HX0.out.trans XX)) (by omega) hkN)
      have HW := Lib.hid (HQ.out W1 k _ _ (HX0.out.trans XX) (by omega) hkN ((ahead_tells W1 wr.heap.size w.heap.size _ c k (by omega) (by omega) v1 kc1 (HS.out.ext XX)).imp fun x hx => by have := near_in HOK.out hx; have := HLL.out; omega))
      have HWD : Hid (((rnear N E k).any fun x => decide ((k : Int) < x) && (col c x == 0)) = waits c (rnear N E k) k) := Lib.hid rfl
      have HXW := Lib.hid XW
      clear hy hL hcell XX XW kc1 vsz
      rw [HWD.out] at HW
      subst hW1
      by_cases h0 : y = 0
      · subst h0
        cases hw : waits c (rnear N E k) k
        · have hm := take1_takes hcol hw
          have hmb := hm.le (M := (rnear N E k).map (col c)) fun x hx => taken_mem hx
          have hrl : (rnear N E (k : Int)).length ≤ 64 := by
            unfold rnear
            have := List.length_filter_le (fun b => decide (btw (k : Int) b ∈ E)) ((List.range N.toNat).map (fun i : Nat => (i : Int)))
            simp at this
            omega
          rw [List.length_map] at hmb
          rw [hw] at HW
          obtain ⟨m, hmd⟩ : ∃ m, m = take1 c (rnear N E k) k := ⟨_, rfl⟩
          rw [← hmd] at hm HN hmb
          have HM := Lib.hid hm
          have hm1 := hm.pos
          clear hm hw hmd hcol
          go_wp2_with (first
            | (go_at_fn g; refine HW.out.mono ?_; rintro e w1 ⟨rfl, hx⟩; have X1 := Lib.hid (HXW.out.trans hx); have T1 := Lib.hid (HT.out.ext hx); clear hx)
            | (go_at_call 188; refine (least_any _ _ _ m T1.out HM.out (by omega)).mono ?_; rintro e w2 ⟨rfl, hx⟩; have X2 := Lib.hid (X1.out.trans hx); have hs2 := Below.size X2.out; clear hx)
            | (at_builtin; refine wpList_append_sl (α := Int) rfl (.tmp 30) (.tmp 32) rfl (w.heap.size + 2) _ L rfl ?_ (.slice (some ⟨_, 0, none⟩) 1 1) [m] rfl ?_ ?_ ?_ ?_; exact ((HO.out.ext X2.out).alloc _); exact (Sl.litAt w2 _ rfl [m] (show (1 : Nat) ≤ 1000000 by decide)); (first | omega | (simp; omega)); exact (by first | omega | (rw [size_alloc]; omega)); intro v3 W3 ho3 ha3; have O3 := Lib.hid ho3; have y3 := Lib.hid (Below.trans (HX.out.trans (X2.out.alloc _)) (Below.mono ha3.below (by rw [size_alloc, size_alloc]; omega))); clear ho3 ha3))
          go_roundw
          case rel => exact ⟨k + 1, by omega, by go_num, Lib.hid (by rw [HN.out]; exact O3.out), y3⟩
          case measure => simp [intOf]; omega
        · have hz : take1 c (rnear N E k) k = 0 := (take1_waits hw).trans hcol
          rw [hz] at HN
          rw [hw] at HW
          clear hz hw hcol HT
          go_wp2_with (first
            | (go_at_fn g; refine HW.out.mono ?_; rintro e w1 ⟨rfl, hx⟩; have X1 := Lib.hid (HXW.out.trans hx); have hs1 := Below.size X1.out; clear hx)
            | (at_builtin; refine wpList_append_sl (α := Int) rfl (.tmp 30) (.tmp 32) rfl (w.heap.size + 2) _ L rfl ?_ (.slice (some ⟨_, 0, none⟩) 1 1) [0] rfl ?_ ?_ ?_ ?_; exact ((HO.out.ext X1.out).alloc _); exact (Sl.litAt w1 _ rfl [0] (show (1 : Nat) ≤ 1000000 by decide)); (first | omega | (simp; omega)); exact (by first | omega | (rw [size_alloc]; omega)); intro v3 W3 ho3 ha3; have O3 := Lib.hid ho3; have y3 := Lib.hid (Below.trans (HX.out.trans (X1.out.alloc _)) (Below.mono ha3.below (by rw [size_alloc, size_alloc]; omega))); clear ho3 ha3))
          go_roundw
          case rel => exact ⟨k + 1, by omega, by go_num, Lib.hid (by rw [HN.out]; exact O3.out), y3⟩
          case measure => simp [intOf]; omega
      · have hz : take1 c (rnear N E k) k = y := (take1_keeps (by rw [hcol]; exact h0)).trans hcol
        rw [hz] at HN
        have e0 : (y == 0) = false := by simp [h0]
        clear hz hcol HT HW h0
        go_wp2_with (first
          | (at_builtin; refine wpList_append_sl (α := Int) rfl (.tmp 30) (.tmp 32) rfl (w.heap.size + 2) _ L rfl ?_ (.slice (some ⟨_, 0, none⟩) 1 1) [y] rfl ?_ ?_ ?_ ?_; exact ((HO.out.alloc _).alloc _); exact (Sl.litAt _ _ (by simp) [y] (show (1 : Nat) ≤ 1000000 by decide)); (first | omega | (simp; omega)); exact (by first | omega | (rw [size_alloc]; omega) | (rw [size_alloc, size_alloc]; omega)); intro v3 W3 ho3 ha3; have O3 := Lib.hid ho3; have y3 := Lib.hid (Below.trans ((HX.out.alloc _).alloc _) (Below.mono ha3.below (by rw [size_alloc, size_alloc]; omega))); clear ho3 ha3))
        go_roundw
        case rel => exact ⟨k + 1, by omega, by go_num, Lib.hid (by rw [HN.out]; exact O3.out), y3⟩
        case measure => simp [intOf]; omega
    · have hkl : k = c.length := by omega
      have ho := HO.out
      rw [hkl, ← HRL.out, List.take_length] at ho
      have HO' := Lib.hid ho
      clear ho HO hkl
      go_wp2
      go_ret
      exact ⟨_, rfl, HO'.out.mono (by omega), HX0.out.trans HX.out⟩
end Go.Proofs.YtfbambemjokmgaaGreat
namespace Go.Proofs.YtfbambemjokmgaaGreat
open Go.RowKit
structure Sd where
  peer : Int
  epoch : Int
  state : Int
  fork : Bool
  dirty : Bool
  token : Bool
  bottle : Bool
  ask : Bool
deriving DecidableEq
def Sd.zero : Sd := ⟨0, 0, 0, false, false, false, false, false⟩
def Sd.cs (x : Sd) : Array Value := #[.int .i64 x.peer, .int .i64 x.epoch, .int .i64 x.state, .bool x.fork, .bool x.dirty, .bool x.token, .bool x.bottle, .bool x.ask]
instance : Elem Sd where
  e := 66
  t := 59
  k := 8
  bytes := 32
  z := .agg #[.int .i64 0, .int .i64 0, .int .i64 0, .bool false, .bool false, .bool false, .bool false, .bool false]
  enc := fun x => [.int .i64 x.peer, .int .i64 x.epoch, .int .i64 x.state, .bool x.fork, .bool x.dirty, .bool x.token, .bool x.bottle, .bool x.ask]
  dflt := ⟨0, 0, 0, false, false, false, false, false⟩
  len := fun _ => rfl
  pos := by decide
  one := fun x u hu => by simp at hu; rcases hu with rfl | rfl | rfl | rfl | rfl | rfl | rfl | rfl <;> rfl
  row := by kernel_rfl
  info := by kernel_rfl
  zsize := rfl
  few := by decide
structure Ml where
  from_ : Int
  to_ : Int
  kind : Int
  epoch : Int
  num : Int
deriving DecidableEq
instance : Elem Ml where
  e := 95
  t := 23
  k := 5
  bytes := 40
  z := .agg #[.int .i64 0, .int .i64 0, .int .i64 0, .int .i64 0, .int .i64 0]
  enc := fun x => [.int .i64 x.from_, .int .i64 x.to_, .int .i64 x.kind, .int .i64 x.epoch, .int .i64 x.num]
  dflt := ⟨0, 0, 0, 0, 0⟩
  len := fun _ => rfl
  pos := by decide
  one := fun x u hu => by simp at hu; rcases hu with rfl | rfl | rfl | rfl | rfl <;> rfl
  row := by kernel_rfl
  info := by kernel_rfl
  zsize := rfl
  few := by decide
structure DV where
  id : Int
  phase : Int
  ao : Option Addr
  n : Nat
  c : Nat
structure Dn where
  id : Int
  phase : Int
  sides : List Sd
deriving DecidableEq
instance : Elem DV where
  e := 61
  t := 46
  k := 3
  bytes := 40
  z := .agg #[.int .i64 0, .int .i64 0, .slice none 0 0]
  enc := fun x => [.int .i64 x.id, .int .i64 x.phase, .slice x.ao x.n x.c]
  dflt := ⟨0, 0, none, 0, 0⟩
  len := fun _ => rfl
  pos := by decide
  one := fun x u hu => by simp at hu; rcases hu with rfl | rfl | rfl <;> rfl
  row := by kernel_rfl
  info := by kernel_rfl
  zsize := rfl
  few := by decide
structure RdD (F : Nat → Prop) (w : World) (x : DV) (d : Dn) : Prop where
  id : x.id = d.id
  phase : x.phase = d.phase
  sides : Sa F w (.slice x.ao x.n x.c) d.sides
instance : Nest DV Dn where
  rd := RdD
  off := fun h o g => ⟨h.id, h.phase, h.sides.off o g⟩
theorem Sl.sidesAt {w : World} {ao : Option Addr} {n c : Nat} {L : List Sd} (h : Sl w (.slice ao n c) L) {k : Nat} (hk : k < L.length) :
    ∃ b off, ∃ y : Sd, y = L.getD k Sd.zero ∧ L[k]? = some y ∧ ao = some ⟨b, off, none⟩ ∧ n = L.length ∧ n ≤ c ∧ c ≤ 9223372036854775807 ∧ b < w.heap.size ∧
      ∀ W, Ext w W → (((W.cell? ⟨b, off + k * 8, none⟩ = some (.int .i64 y.peer) ∧ W.cell? ⟨b, off + k * 8 + 1, none⟩ = some (.int .i64 y.epoch)) ∧ W.cell? ⟨b, off + k * 8 + 2, none⟩ = some (.int .i64 y.state) ∧ W.cell? ⟨b, off + k * 8 + 3, none⟩ = some (.bool y.fork)) ∧
        (W.cell? ⟨b, off + k * 8 + 4, none⟩ = some (.bool y.dirty) ∧ W.cell? ⟨b, off + k * 8 + 5, none⟩ = some (.bool y.token)) ∧ W.cell? ⟨b, off + k * 8 + 6, none⟩ = some (.bool y.bottle) ∧ W.cell? ⟨b, off + k * 8 + 7, none⟩ = some (.bool y.ask)) := by
  rcases h.parts with ⟨rfl, _⟩ | ⟨b, off, c', hv, h1, h2, h3, _, h4⟩
  · simp at hk
  · simp only [Value.slice.injEq] at hv
    obtain ⟨rfl, rfl, rfl⟩ := hv
    have e : L[k]? = some (L.getD k Sd.zero) := by simp [hk]
    refine ⟨b, off, _, rfl, e, rfl, rfl, h1, h2, h3, fun W hW => ?_⟩
    have g : ∀ i u, (Elem.enc (L.getD k Sd.zero))[i]? = some u → W.cell? ⟨b, off + k * 8 + i, none⟩ = some u := fun i u hu => by
      have := h4 k _ e i u hu
      rw [show off + (k * Elem.k Sd + i) = off + k * 8 + i from by show off + (k * 8 + i) = _; omega] at this
      exact (hW.cell (p := ⟨b, off + k * 8 + i, none⟩) h3).trans this
    exact ⟨⟨⟨g 0 _ rfl, g 1 _ rfl⟩, g 2 _ rfl, g 3 _ rfl⟩, ⟨g 4 _ rfl, g 5 _ rfl⟩, g 6 _ rfl, g 7 _ rfl⟩
theorem Sl.mailAt {w : World} {ao : Option Addr} {n c : Nat} {L : List Ml} (h : Sl w (.slice ao n c) L) {k : Nat} (hk : k < L.length) :
    ∃ b off, ∃ y : Ml, y = L.getD k ⟨0, 0, 0, 0, 0⟩ ∧ L[k]? = some y ∧ ao = some ⟨b, off, none⟩ ∧ n = L.length ∧ n ≤ c ∧ c ≤ 9223372036854775807 ∧ b < w.heap.size ∧
      ∀ W, Ext w W → (W.cell? ⟨b, off + k * 5, none⟩ = some (.int .i64 y.from_) ∧ W.cell? ⟨b, off + k * 5 + 1, none⟩ = some (.int .i64 y.to_)) ∧ W.cell? ⟨b, off + k * 5 + 2, none⟩ = some (.int .i64 y.kind) ∧ W.cell? ⟨b, off + k * 5 + 3, none⟩ = some (.int .i64 y.epoch) ∧ W.cell? ⟨b, off + k * 5 + 4, none⟩ = some (.int .i64 y.num) := by
  rcases h.parts with ⟨rfl, _⟩ | ⟨b, off, c', hv, h1, h2, h3, _, h4⟩
  · simp at hk
  · simp only [Value.slice.injEq] at hv
    obtain ⟨rfl, rfl, rfl⟩ := hv
    have e : L[k]? = some (L.getD k ⟨0, 0, 0, 0, 0⟩) := by simp [hk]
    refine ⟨b, off, _, rfl, e, rfl, rfl, h1, h2, h3, fun W hW => ?_⟩
    have g : ∀ i u, (Elem.enc (L.getD k ⟨0, 0, 0, 0, 0⟩))[i]? = some u → W.cell? ⟨b, off + k * 5 + i, none⟩ = some u := fun i u hu => by
      have := h4 k _ e i u hu
      rw [show off + (k * Elem.k Ml + i) = off + k * 5 + i from by show off + (k * 5 + i) = _; omega] at this
      exact (hW.cell (p := ⟨b, off + k * 5 + i, none⟩) h3).trans this
    exact ⟨⟨g 0 _ rfl, g 1 _ rfl⟩, g 2 _ rfl, g 3 _ rfl, g 4 _ rfl⟩
theorem Ns.dinerAt {F : Nat → Prop} {w : World} {ao : Option Addr} {n c : Nat} {L : List Dn} (h : Ns DV F w (.slice ao n c) L) {k : Nat} (hk : k < L.length) :
    ∃ b off so sc, ∃ d : Dn, L[k]? = some d ∧ ao = some ⟨b, off, none⟩ ∧ n = L.length ∧ n ≤ c ∧ c ≤ 9223372036854775807 ∧ b < w.heap.size ∧ Sa F w (.slice so d.sides.length sc) d.sides ∧
      ∀ W, Ext w W → W.cell? ⟨b, off + k * 3, none⟩ = some (.int .i64 d.id) ∧ W.cell? ⟨b, off + k * 3 + 1, none⟩ = some (.int .i64 d.phase) ∧ W.cell? ⟨b, off + k * 3 + 2, none⟩ = some (.slice so d.sides.length sc) := by
  obtain ⟨b, off, x, d, h1, h2, h3, h4, h5, h6, h7, h8⟩ := h.at hk
  obtain ⟨e1, e2, e3⟩ : RdD F w x d := h8
  obtain ⟨so, sc, hv⟩ := e3.sl.len
  refine ⟨b, off, so, sc, d, h1, h2, h3, h4, h5, h6, hv ▸ e3, fun W hW => ?_⟩
  have g : ∀ i u, (Elem.enc x)[i]? = some u → W.cell? ⟨b, off + k * 3 + i, none⟩ = some u := fun i u hu => by
    have := h7 i u hu
    rw [show off + (k * Elem.k DV + i) = off + k * 3 + i from by show off + (k * 3 + i) = _; omega] at this
    exact (hW.cell (p := ⟨b, off + k * 3 + i, none⟩) h6).trans this
  have q0 := g 0 _ rfl
  have q1 := g 1 _ rfl
  have q2 := g 2 _ rfl
  rw [e1] at q0
  rw [e2] at q1
  rw [hv] at q2
  exact ⟨q0, q1, q2⟩
end Go.Proofs.YtfbambemjokmgaaGreat
namespace Go.Proofs.YtfbambemjokmgaaGreat
open Go.RowKit
theorem uSide : ∃ fs, Tryz.prog.underlying 66 = some (.struct fs) := ⟨_, Tryz.underlying66⟩
def sideR (L : List Sd) (p : Int) : Sd × Bool := match L.find? (fun s => s.peer == p) with
  | some s => (s, true)
  | none => (Sd.zero, false)
theorem sideR_at {L : List Sd} {p : Int} {k : Nat} {y : Sd} (h : (L.take k).any (fun s => s.peer == p) = false) (hy : L[k]? = some y) (hp : (y.peer == p) = true) : sideR L p = (y, true) := by
  have hk := (List.getElem?_eq_some_iff.1 hy).1
  have e : L = L.take k ++ y :: L.drop (k + 1) := by
    have := (List.getElem?_eq_some_iff.1 hy).2
    rw [← this, List.getElem_cons_drop hk, List.take_append_drop]
  unfold sideR
  rw [e, List.find?_append]
  have h2 : (L.take k).find? (fun s => s.peer == p) = none := by
    rw [List.find?_eq_none]
    intro x hx
    have := List.any_eq_false.1 h x hx
    simpa using this
  rw [h2]
  simp [hp]
theorem sideR_none {L : List Sd} {p : Int} (h : L.any (fun s => s.peer == p) = false) : sideR L p = (Sd.zero, false) := by
  unfold sideR
  have h2 : L.find? (fun s => s.peer == p) = none := by
    rw [List.find?_eq_none]
    intro x hx
    have := List.any_eq_false.1 h x hx
    simpa using this
  rw [h2]
theorem any_nextD {α : Type} {xs : List α} {k : Nat} {y : α} (p : α → Bool) (h : xs[k]? = some y) : (xs.take (k + 1)).any p = ((xs.take k).any p || p y) := by
  have hk := (List.getElem?_eq_some_iff.1 h).1
  rw [List.take_succ_eq_append_getElem hk, List.any_append]
  have := (List.getElem?_eq_some_iff.1 h).2
  simp [this]
set_option maxRecDepth 100000 in
set_option maxHeartbeats 1000000 in
theorem refSide_any (w : World) (id phase : Int) (v : Value) (L : List Sd) (p : Int) (h : Sl w v L) (s : Sd) (b : Bool) (hr : sideR L p = (s, b)) :
    Calls Tryz.prog 32 #[.agg #[.int .i64 id, .int .i64 phase, v], .int .i64 p] w fun e w' => e = .returned (.tuple #[.agg s.cs, .bool b]) ∧ Ext w w' := by
  obtain ⟨ao, c, rfl⟩ := h.len
  have HS := Lib.hid h
  have hlen := h.length_le
  have HR := Lib.hid hr
  have HK : Hid (∀ V, Ext ((w.alloc (.cells #[.int .i64 id, .int .i64 phase, .slice ao L.length c] 61)).alloc (.cells Sd.zero.cs 66)) V → (V.cell? ⟨w.heap.size, 2, none⟩ = some (.slice ao L.length c)) ∧ V.heap[w.heap.size + 1]? = some (.cells Sd.zero.cs 66 (0, 0))) := Lib.hid fun V hV => by
    obtain ⟨hA, hB⟩ := box2 (hV.mono (by rw [size_alloc, size_alloc]; omega))
    exact ⟨blk_cell hA 2 rfl, hB⟩
  have X0 : Ext w ((w.alloc (.cells #[.int .i64 id, .int .i64 phase, .slice ao L.length c] 61)).alloc (.cells Sd.zero.cs 66)) := ((Ext.refl w).alloc _).alloc _
  have HX0 := Lib.hid X0
  clear h hr X0
  go_enter Tryz.func32, Tryz.ntmps32
  go_wp2
  go_loopw [6] (fun i wr => ∃ k : Nat, k ≤ L.length ∧ i = .int .i64 k ∧ Hid ((L.take k).any (fun s => s.peer == p) = false) ∧ Hid (Ext ((w.alloc (.cells #[.int .i64 id, .int .i64 phase, .slice ao L.length c] 61)).alloc (.cells Sd.zero.cs 66)) wr)) (fun i _ => L.length - (intOf i).toNat)
  case atStart => exact ⟨0, Nat.zero_le _, rfl, Lib.hid rfl, Lib.hid (Ext.refl _)⟩
  case round =>
    obtain ⟨k, hk, rfl, HT, HX⟩ := hrel
    obtain ⟨kd, kb⟩ := HK.out wr HX.out
    have HB := Lib.hid kb
    clear kb
    by_cases hlt : k < L.length
    · obtain ⟨b1, off, y, hy, hyk, rfl, hn, hnc, hc63, hb, hcell⟩ := HS.out.sidesAt hlt
      obtain ⟨⟨⟨h0, h1⟩, h2, h3⟩, ⟨h4, h5⟩, h6, h7⟩ := hcell wr (HX0.out.trans HX.out)
      have HN := Lib.hid (any_nextD (fun s : Sd => s.peer == p) hyk)
      have HYK := Lib.hid hyk
      obtain ⟨y0, y1, y2, y3, y4, y5, y6, y7⟩ := y
      dsimp only at h0 h1 h2 h3 h4 h5 h6 h7
      clear hcell hy hyk hn
      cases ht : (y0 == p)
      · have HF : Hid ((L.take (k + 1)).any (fun s => s.peer == p) = false) := Lib.hid (HN.out.trans (by rw [HT.out]; exact ht))
        clear h1 h2 h3 h4 h5 h6 h7
        go_wp2
        go_roundw
        case rel => exact ⟨k + 1, by omega, by go_num, HF, HX⟩
        case measure => simp [intOf]; omega
      · have HE := Lib.hid (HR.out.symm.trans (sideR_at HT.out HYK.out ht))
        go_wp2_with (first | refine haltst 66 ?_)
        refine .inl ?_
        refine st_l 66 (.tmp 4) (.tmp 26) (w.heap.size + 1) 0 66 Sd.zero.cs (Sd.cs ⟨y0, y1, y2, y3, y4, y5, y6, y7⟩) (Sd.cs ⟨y0, y1, y2, y3, y4, y5, y6, y7⟩) rfl rfl HB.out (by kernel_rfl) (by simp [Sd.cs, Sd.zero]) rfl rfl ?_
        intro W hW oW
        simp only [Act.put]
        go_wp2
        refine bodyPost_ret (v := .tuple #[.agg (Sd.cs ⟨y0, y1, y2, y3, y4, y5, y6, y7⟩), .bool true]) (res_ct 5 rfl rfl hW uSide (by kernel_rfl)) rfl ⟨?_, ?_⟩
        · have := HE.out
          simp only [Prod.mk.injEq] at this
          rw [this.1, this.2]
        · exact ext_off (HX0.out.trans HX.out) oW (fun k hk => by omega)
    · have hkl : k = L.length := by omega
      have HE : Hid ((s, b) = (Sd.zero, false)) := Lib.hid (HR.out.symm.trans (sideR_none (by have := HT.out; rwa [hkl, List.take_length] at this)))
      go_wp2_with (first | refine haltst 66 ?_)
      refine .inl ?_
      refine st_l 66 (.tmp 4) (.tmp 27) (w.heap.size + 1) 0 66 Sd.zero.cs Sd.zero.cs Sd.zero.cs rfl rfl HB.out (by kernel_rfl) (by simp [Sd.cs, Sd.zero]) rfl rfl ?_
      intro W hW oW
      simp only [Act.put]
      go_wp2
      refine bodyPost_ret (v := .tuple #[.agg Sd.zero.cs, .bool false]) (res_ct 5 rfl rfl hW uSide (by kernel_rfl)) rfl ⟨?_, ?_⟩
      · have := HE.out
        simp only [Prod.mk.injEq] at this
        rw [this.1, this.2]
      · exact ext_off (HX0.out.trans HX.out) oW (fun k hk => by omega)
end Go.Proofs.YtfbambemjokmgaaGreat
namespace Go.Proofs.YtfbambemjokmgaaGreat
open Go.RowKit
theorem neq_Sd (y z : Sd) (s : Bool) (hs : decide (y = z) = s) :
    (∀ w : World, (binOp .neq 66 (.agg #[.int .i64 y.peer, .int .i64 y.epoch, .int .i64 y.state, .bool y.fork, .bool y.dirty, .bool y.token, .bool y.bottle, .bool y.ask]) (.agg #[.int .i64 z.peer, .int .i64 z.epoch, .int .i64 z.state, .bool z.fork, .bool z.dirty, .bool z.token, .bool z.bottle, .bool z.ask])).run Tryz.prog w = .ok (.bool (!s)) w) ∧ ∀ (a b : Operand) (w : World), (eqGuard .neq 66 a b (.agg #[.int .i64 y.peer, .int .i64 y.epoch, .int .i64 y.state, .bool y.fork, .bool y.dirty, .bool y.token, .bool y.bottle, .bool y.ask]) (.agg #[.int .i64 z.peer, .int .i64 z.epoch, .int .i64 z.state, .bool z.fork, .bool z.dirty, .bool z.token, .bool z.bottle, .bool z.ask])).run Tryz.prog w = .ok () w := by
  obtain ⟨y0, y1, y2, y3, y4, y5, y6, y7⟩ := y
  obtain ⟨z0, z1, z2, z3, z4, z5, z6, z7⟩ := z
  refine ⟨fun w => ?_, fun a b w => run_eqGuard_agg w _ _ a b _ _ (by kernel_rfl)⟩
  have u3 := Tryz.underlying3
  have a3 := Tryz.isAgg3
  have z3' := Tryz.sizeOf3
  have u4 := Tryz.underlying4
  have a4 := Tryz.isAgg4
  have z4' := Tryz.sizeOf4
  have uS := Tryz.underlying64
  have aS := Tryz.isAgg64
  have zS := Tryz.sizeOf64
  have hS : Tryz.prog.underlying 66 = some (.struct (Tryz.prog.fieldsOf 66)) := by kernel_rfl
  have hp : Tryz.prog.stoodInHeld 66 = false := by kernel_rfl
  rw [run_neq_struct, show (10000 : Nat) = 9999 + 1 from rfl, run_equalIn_agg w 9999 66 _ _ hS hp]
  simp only [Program.fieldsOf, Tryz.underlying66]
  go_simp
  subst hs
  by_cases h0 : y0 = z0 <;> by_cases h1 : y1 = z1 <;> by_cases h2 : y2 = z2 <;> simp [h0, h1, h2]
  cases y3 <;> cases z3 <;> simp
  all_goals cases y4 <;> cases z4 <;> simp
  all_goals cases y5 <;> cases z5 <;> simp
  all_goals cases y6 <;> cases z6 <;> simp
  all_goals cases y7 <;> cases z7 <;> simp
theorem take_eqD {α : Type} {xs ys : List α} {k : Nat} {x y : α} (hx : xs[k]? = some x) (hy : ys[k]? = some y) : xs.take (k + 1) = ys.take (k + 1) ↔ xs.take k = ys.take k ∧ x = y := by
  have h1 := (List.getElem?_eq_some_iff.1 hx).1
  have h2 := (List.getElem?_eq_some_iff.1 hy).1
  rw [List.take_succ_eq_append_getElem h1, List.take_succ_eq_append_getElem h2, (List.getElem?_eq_some_iff.1 hx).2, (List.getElem?_eq_some_iff.1 hy).2]
  constructor
  · intro h
    have := List.append_inj h (by simp; omega)
    exact ⟨this.1, by simpa using this.2⟩
  · rintro ⟨ha, hb⟩
    rw [ha, hb]
set_option maxRecDepth 100000 in
set_option maxHeartbeats 2000000 in
theorem refSameOne_any (w : World) (id1 ph1 id2 ph2 : Int) (v1 v2 : Value) (L M : List Sd) (h : Sl w v1 L) (g : Sl w v2 M) (t : Bool) (ht : decide ((⟨id1, ph1, L⟩ : Dn) = ⟨id2, ph2, M⟩) = t) :
    Calls Tryz.prog 87 #[.agg #[.int .i64 id1, .int .i64 ph1, v1], .agg #[.int .i64 id2, .int .i64 ph2, v2]] w fun e w' => e = .returned (.bool t) ∧ Ext w w' := by
  obtain ⟨ao1, c1, rfl⟩ := h.len
  obtain ⟨ao2, c2, rfl⟩ := g.len
  have l1 := h.length_le
  have l2 := g.length_le
  have HS := Lib.hid h
  have HM := Lib.hid g
  have HT := Lib.hid ht
  have HK : Hid (∀ V, Ext ((w.alloc (.cells #[.int .i64 id1, .int .i64 ph1, .slice ao1 L.length c1] 61)).alloc (.cells #[.int .i64 id2, .int .i64 ph2, .slice ao2 M.length c2] 61)) V → (V.cell? ⟨w.heap.size, 0, none⟩ = some (.int .i64 id1) ∧ V.cell? ⟨w.heap.size, 1, none⟩ = some (.int .i64 ph1) ∧ V.cell? ⟨w.heap.size, 2, none⟩ = some (.slice ao1 L.length c1)) ∧ V.cell? ⟨w.heap.size + 1, 0, none⟩ = some (.int .i64 id2) ∧ V.cell? ⟨w.heap.size + 1, 1, none⟩ = some (.int .i64 ph2) ∧ V.cell? ⟨w.heap.size + 1, 2, none⟩ = some (.slice ao2 M.length c2)) := Lib.hid fun V hV => by
    obtain ⟨hA, hB⟩ := box2 (hV.mono (by rw [size_alloc, size_alloc]; omega))
    exact ⟨⟨blk_cell hA 0 rfl, blk_cell hA 1 rfl, blk_cell hA 2 rfl⟩, blk_cell hB 0 rfl, blk_cell hB 1 rfl, blk_cell hB 2 rfl⟩
  have HX0 : Hid (Ext w ((w.alloc (.cells #[.int .i64 id1, .int .i64 ph1, .slice ao1 L.length c1] 61)).alloc (.cells #[.int .i64 id2, .int .i64 ph2, .slice ao2 M.length c2] 61))) := Lib.hid (((Ext.refl w).alloc _).alloc _)
  simp only [Dn.mk.injEq] at ht
  clear h g
  by_cases e1 : id1 = id2
  · by_cases e2 : ph1 = ph2
    · by_cases e3 : L.length = M.length
      · have q1 : (id1 != id2) = false := by simp [e1]
        have q2 : (ph1 != ph2) = false := by simp [e2]
        have q3 : ((L.length : Int) != (M.length : Int)) = false := by simp [e3]
        have HE : Hid (decide (L = M) = t) := Lib.hid (by rw [← ht]; simp [e1, e2])
        have HL3 := Lib.hid e3
        clear e1 e2 e3 ht
        go_enter Tryz.func87, Tryz.ntmps87
        go_wp2
        go_loopw [5] (fun i wr => ∃ k : Nat, k ≤ L.length ∧ i = .int .i64 k ∧ Hid (L.take k = M.take k) ∧ Hid (Ext ((w.alloc (.cells #[.int .i64 id1, .int .i64 ph1, .slice ao1 L.length c1] 61)).alloc (.cells #[.int .i64 id2, .int .i64 ph2, .slice ao2 M.length c2] 61)) wr)) (fun i _ => L.length - (intOf i).toNat)
        case atStart => exact ⟨0, Nat.zero_le _, rfl, Lib.hid rfl, Lib.hid (Ext.refl _)⟩
        case round =>
          obtain ⟨k, hk, rfl, HQ, HX⟩ := hrel
          obtain ⟨⟨ka, kb, kc⟩, kd, ke, kf⟩ := HK.out wr HX.out
          clear ka kb kd ke
          by_cases hlt : k < L.length
          · have hltM : k < M.length := by have := HL3.out; omega
            obtain ⟨b1, o1, y, _, hyk, rfl, hn, hnc, hc63, hb, hcell⟩ := HS.out.sidesAt hlt
            obtain ⟨b2, o2, z, _, hzk, rfl, hn', hnc', hc63', hb', hcell'⟩ := HM.out.sidesAt hltM
            have HCY : Hid (∀ V, Ext wr V → ((((V.cell? ⟨b1, o1 + k * 8, none⟩ = some (.int .i64 y.peer) ∧ V.cell? ⟨b1, o1 + k * 8 + 1, none⟩ = some (.int .i64 y.epoch)) ∧ V.cell? ⟨b1, o1 + k * 8 + 2, none⟩ = some (.int .i64 y.state) ∧ V.cell? ⟨b1, o1 + k * 8 + 3, none⟩ = some (.bool y.fork)) ∧ (V.cell? ⟨b1, o1 + k * 8 + 4, none⟩ = some (.bool y.dirty) ∧ V.cell? ⟨b1, o1 + k * 8 + 5, none⟩ = some (.bool y.token)) ∧ V.cell? ⟨b1, o1 + k * 8 + 6, none⟩ = some (.bool y.bottle) ∧ V.cell? ⟨b1, o1 + k * 8 + 7, none⟩ = some (.bool y.ask)))) := Lib.hid fun V hV => hcell V (HX0.out.trans (HX.out.trans hV))
            have HCZ : Hid (∀ V, Ext wr V → ((((V.cell? ⟨b2, o2 + k * 8, none⟩ = some (.int .i64 z.peer) ∧ V.cell? ⟨b2, o2 + k * 8 + 1, none⟩ = some (.int .i64 z.epoch)) ∧ V.cell? ⟨b2, o2 + k * 8 + 2, none⟩ = some (.int .i64 z.state) ∧ V.cell? ⟨b2, o2 + k * 8 + 3, none⟩ = some (.bool z.fork)) ∧ (V.cell? ⟨b2, o2 + k * 8 + 4, none⟩ = some (.bool z.dirty) ∧ V.cell? ⟨b2, o2 + k * 8 + 5, none⟩ = some (.bool z.token)) ∧ V.cell? ⟨b2, o2 + k * 8 + 6, none⟩ = some (.bool z.bottle) ∧ V.cell? ⟨b2, o2 + k * 8 + 7, none⟩ = some (.bool z.ask)))) := Lib.hid fun V hV => hcell' V (HX0.out.trans (HX.out.trans hV))
            have HBX : Hid (∀ V, Ext wr V → V.cell? ⟨w.heap.size, 2, none⟩ = some (.slice (some ⟨b1, o1, none⟩) L.length c1) ∧ V.cell? ⟨w.heap.size + 1, 2, none⟩ = some (.slice (some ⟨b2, o2, none⟩) M.length c2)) := Lib.hid fun V hV => ⟨(HK.out V (HX.out.trans hV)).1.2.2, (HK.out V (HX.out.trans hV)).2.2.2⟩
            have HN := Lib.hid (take_eqD hyk hzk)
            obtain ⟨s, hs⟩ : ∃ s, decide (y = z) = s := ⟨_, rfl⟩
            have HNQ := Lib.hid (neq_Sd y z s hs)
            have HYZ := Lib.hid hs
            clear hcell hcell' hyk hzk hn hn' hs kf
            obtain ⟨y0, y1, y2, y3, y4, y5, y6, y7⟩ := y
            obtain ⟨z0, z1, z2, z3, z4, z5, z6, z7⟩ := z
            cases s
            all_goals
              go_wp2_with fail
              (refine wp_region_X_lit (K := fun W => Ext wr W) (by kernel_rfl) (fun w1 hw1 => ?_))
              have HX1 := Lib.hid (HX.out.trans hw1)
              have HW1 := Lib.hid hw1
              clear hw1
              refine xtv 0 (h := ?_)
              refine xtv 1 (hv := by intro w' hw'; have hc := (HBX.out w' hw').1; go_simp; first | done | with_reducible rfl) (h := ?_)
              refine xtv 2 (h := ?_)
              refine xtv 3 (h := ?_)
              refine xtv 4 (hv := by intro w' hw'; obtain ⟨⟨⟨a0, a1⟩, a2, a3⟩, ⟨a4, a5⟩, a6, a7⟩ := HCY.out w' hw'; go_simp; first | done | with_reducible rfl) (h := ?_)
              refine xtv 5 (h := ?_)
              refine xtv 6 (hv := by intro w' hw'; have hc := (HBX.out w' hw').2; go_simp; first | done | with_reducible rfl) (h := ?_)
              refine xtv 7 (h := ?_)
              refine xtv 8 (h := ?_)
              refine xtv 9 (hv := by intro w' hw'; obtain ⟨⟨⟨a0, a1⟩, a2, a3⟩, ⟨a4, a5⟩, a6, a7⟩ := HCZ.out w' hw'; go_simp; first | done | with_reducible rfl) (h := ?_)
              refine xtv 10 (hv := by intro w' hw'; obtain ⟨n1, n2⟩ := HNQ.out; go_simp; first | done | with_reducible rfl) (h := ?_)
              (refine xdone (by kernel_rfl) (HW1.out) ?_)
            · go_wp2
              go_ret
              exact ⟨ret_bool (by
                rw [← HE.out]
                exact (decide_eq_false fun e => of_decide_eq_false HYZ.out ((HN.out.1 (by rw [e])).2)).symm), HX0.out.trans HX1.out⟩
            · go_wp2
              go_roundw
              case rel => exact ⟨k + 1, by omega, by go_num, Lib.hid (HN.out.2 ⟨HQ.out, of_decide_eq_true HYZ.out⟩), HX1⟩
              case measure => simp [intOf]; omega
          · have hkl : k = L.length := by omega
            have HF : Hid (true = t) := Lib.hid (by
              have hq := HQ.out
              rw [hkl, List.take_length, HL3.out, List.take_length] at hq
              rw [← HE.out, decide_eq_true hq])
            go_wp2
            go_ret
            exact ⟨ret_bool HF.out, HX0.out.trans HX.out⟩
      · have q1 : (id1 != id2) = false := by simp [e1]
        have q2 : (ph1 != ph2) = false := by simp [e2]
        have q3 : ((L.length : Int) != (M.length : Int)) = true := by simp; omega
        have HF : Hid (false = t) := Lib.hid (by rw [← ht, decide_eq_false fun e => e3 (by rw [e.2.2])])
        have HX1 := Lib.hid (HK.out _ (Ext.refl _))
        obtain ⟨⟨ka, kb, kc⟩, kd, ke, kf⟩ := HX1.out
        clear e1 e2 e3 ht
        go_enter Tryz.func87, Tryz.ntmps87
        go_wp2
        go_ret
        exact ⟨ret_bool HF.out, HX0.out⟩
    · have q1 : (id1 != id2) = false := by simp [e1]
      have q2 : (ph1 != ph2) = true := by simp [e2]
      have HF : Hid (false = t) := Lib.hid (by rw [← ht, decide_eq_false fun e => e2 e.2.1])
      clear e1 e2 ht
      go_enter Tryz.func87, Tryz.ntmps87
      go_wp2
      go_ret
      exact ⟨ret_bool HF.out, HX0.out⟩
  · have q1 : (id1 != id2) = true := by simp [e1]
    have HF : Hid (false = t) := Lib.hid (by rw [← ht, decide_eq_false fun e => e1 e.1])
    clear e1 ht
    go_enter Tryz.func87, Tryz.ntmps87
    go_wp2
    go_ret
    exact ⟨ret_bool HF.out, HX0.out⟩
end Go.Proofs.YtfbambemjokmgaaGreat
namespace Go.Proofs.YtfbambemjokmgaaGreat
open Go.RowKit
def fewB (L : List Dn) (m : Nat) : Bool := ((L.take 25).all fun d => decide (d.sides.length ≤ 24)) && decide (L.length ≤ 24) && decide (m ≤ 40)
theorem all_nextD {α : Type} {xs : List α} {k : Nat} {y : α} (p : α → Bool) (h : xs[k]? = some y) : (xs.take (k + 1)).all p = ((xs.take k).all p && p y) := by
  have hk := (List.getElem?_eq_some_iff.1 h).1
  rw [List.take_succ_eq_append_getElem hk, List.all_append]
  have := (List.getElem?_eq_some_iff.1 h).2
  simp [this]
theorem all_takeD {α : Type} {xs : List α} {p : α → Bool} {k n : Nat} (hkn : k ≤ n) (h : (xs.take k).all p = false) : (xs.take n).all p = false := by
  rw [List.all_eq_false] at *
  obtain ⟨x, h1, h2⟩ := h
  refine ⟨x, ?_, h2⟩
  rw [show xs.take k = (xs.take n).take k by rw [List.take_take, Nat.min_eq_left hkn]] at h1
  exact List.mem_of_mem_take h1
theorem cell_atD {w : World} {cs : Array Value} {t : TypeId} {i : Nat} {u : Value} (W : World) (h : Ext (w.alloc (.cells cs t (0, 0))) W) (hu : cs[i]? = some u) : W.cell? ⟨w.heap.size, i, none⟩ = some u :=
  blk_cell (box1 (h.mono (by rw [size_alloc]; omega))) i hu
set_option maxHeartbeats 1000000 in
theorem refFew_any (F : Nat → Prop) (w : World) (v : Value) (mo : Option Addr) (mn mc : Nat) (L : List Dn) (h : Ns DV F w v L) (hm : mn ≤ 9223372036854775807) (t : Bool) (ht : fewB L mn = t) :
    Calls Tryz.prog 49 #[.agg #[v, .slice mo mn mc]] w fun e w' => e = .returned (.bool t) ∧ Ext w w' := by
  obtain ⟨ao, c, rfl⟩ := h.len
  have HS := Lib.hid h
  have HT := Lib.hid ht
  have l1 := h.length_le
  have HK : Hid (∀ V, Ext (w.alloc (.cells #[.slice ao L.length c, .slice mo mn mc] 48)) V → V.cell? ⟨w.heap.size, 0, none⟩ = some (.slice ao L.length c) ∧ V.cell? ⟨w.heap.size, 1, none⟩ = some (.slice mo mn mc)) := Lib.hid fun V hV => ⟨cell_atD V hV rfl, cell_atD V hV rfl⟩
  clear h ht
  go_enter Tryz.func49, Tryz.ntmps49
  go_wp2
  go_loopw [3] (fun i wr => ∃ k : Nat, k ≤ L.length ∧ k ≤ 25 ∧ i = .int .i64 k ∧ Hid ((L.take k).all (fun d => decide (d.sides.length ≤ 24)) = true) ∧ Hid (Ext (w.alloc (.cells #[.slice ao L.length c, .slice mo mn mc] 48)) wr)) (fun i _ => L.length - (intOf i).toNat)
  case atStart => exact ⟨0, Nat.zero_le _, by omega, rfl, Lib.hid rfl, Lib.hid (Ext.refl _)⟩
  case round =>
    obtain ⟨k, hk, hk25, rfl, HQ, HX⟩ := hrel
    obtain ⟨k0, k1⟩ := HK.out wr HX.out
    have XX := Lib.hid (Ext.trans ((Ext.refl w).alloc _) HX.out)
    by_cases hlt : k < L.length
    · by_cases h25 : k < 25
      · obtain ⟨b1, o1, so1, sc1, d, hyk, rfl, hn, hnc, hc63, hb, hsl, hcell⟩ := HS.out.dinerAt hlt
        obtain ⟨a0, a1, a2⟩ := hcell wr XX.out
        have HN := Lib.hid (all_nextD (fun d : Dn => decide (d.sides.length ≤ 24)) hyk)
        have hdl := hsl.sl.length_le
        clear hcell hyk hn hsl a0 a1
        by_cases h24 : d.sides.length ≤ 24
        · have hi24 : ¬ (24 : Int) < (d.sides.length : Int) := by omega
          have HF : Hid ((L.take (k + 1)).all (fun d => decide (d.sides.length ≤ 24)) = true) := Lib.hid (HN.out.trans (by rw [HQ.out, decide_eq_true h24]; rfl))
          go_wp2
          go_roundw
          case rel => exact ⟨k + 1, by omega, by omega, by go_num, HF, HX⟩
          case measure => simp [intOf]; omega
        · have hi24 : (24 : Int) < (d.sides.length : Int) := by omega
          have HF : Hid (false = t) := Lib.hid (by
            rw [← HT.out]
            unfold fewB
            rw [all_takeD (k := k + 1) (by omega) (HN.out.trans (by rw [decide_eq_false h24, Bool.and_false]))]
            rfl)
          go_wp2
          go_ret
          exact ⟨ret_bool HF.out, XX.out⟩
      · have hi25 : ¬ (k : Int) < 25 := by omega
        have hL24 : ¬ (L.length : Int) ≤ 24 := by omega
        have HF : Hid (false = t) := Lib.hid (by rw [← HT.out]; unfold fewB; rw [decide_eq_false (show ¬ L.length ≤ 24 by omega), Bool.and_false, Bool.false_and])
        go_wp2
        go_ret
        exact ⟨ret_bool HF.out, XX.out⟩
    · have hkl : k = L.length := by omega
      have HA : Hid ((L.take 25).all (fun d => decide (d.sides.length ≤ 24)) = true) := Lib.hid (by
        have hq := HQ.out
        rw [hkl, List.take_length] at hq
        rw [List.take_of_length_le (by omega)]
        exact hq)
      by_cases h24 : L.length ≤ 24
      · have hL24 : (L.length : Int) ≤ 24 := by omega
        by_cases h40 : mn ≤ 40
        · have hm40 : (mn : Int) ≤ 40 := by omega
          have HF : Hid (true = t) := Lib.hid (by rw [← HT.out]; unfold fewB; rw [HA.out, decide_eq_true h24, decide_eq_true h40]; rfl)
          go_wp2
          go_ret
          exact ⟨ret_bool HF.out, XX.out⟩
        · have hm40 : ¬ (mn : Int) ≤ 40 := by omega
          have HF : Hid (false = t) := Lib.hid (by rw [← HT.out]; unfold fewB; rw [decide_eq_false h40, Bool.and_false])
          go_wp2
          go_ret
          exact ⟨ret_bool HF.out, XX.out⟩
      · have hL24 : ¬ (L.length : Int) ≤ 24 := by omega
        have HF : Hid (false = t) := Lib.hid (by rw [← HT.out]; unfold fewB; rw [decide_eq_false h24, Bool.and_false, Bool.false_and])
        go_wp2
        go_ret
        exact ⟨ret_bool HF.out, XX.out⟩
end Go.Proofs.YtfbambemjokmgaaGreat
namespace Go.Proofs.YtfbambemjokmgaaGreat
open Go.RowKit
def hitM (f t e : Int) (y : Ml) : Bool := (y.from_ == f) && (y.to_ == t) && (y.kind == 1) && (y.epoch == e) && (y.num == 0)
def goesB (l : List Ml) (f t e : Int) : Bool := l.any (hitM f t e)
def firstI (xf xd yf yd tf to_ : Bool) : Int :=
  if (xf && !xd) = true then 1 else if (yf && yd && !xf) = true then 1 else if (!xf && !yf && tf) = true then 1
  else if ((yf && !yd) || (xf && xd && !yf) || (!xf && !yf && to_)) = true then 2 else 0
end Go.Proofs.YtfbambemjokmgaaGreat
namespace Go.Proofs.YtfbambemjokmgaaGreat
open Go.RowKit
def arc2 (m : List Ml) (a b : Dn) : List Arc :=
  let x := sideR a.sides b.id
  let y := sideR b.sides a.id
  if (x.2 && y.2 && decide (x.1.epoch = y.1.epoch)) = true then
    (let n := firstI x.1.fork x.1.dirty y.1.fork y.1.dirty (goesB m b.id a.id x.1.epoch) (goesB m a.id b.id x.1.epoch)
     if n = 1 then [⟨a.id, b.id⟩] else if n = 2 then [⟨b.id, a.id⟩] else [])
  else []
def arcsOf (m : List Ml) : List Dn → List Arc
  | [] => []
  | a :: l => l.flatMap (arc2 m a) ++ arcsOf m l
def arcsTo (m : List Ml) (L : List Dn) (k : Nat) : List Arc := (List.range k).flatMap fun i => match L[i]? with
  | some a => (L.drop (i + 1)).flatMap (arc2 m a)
  | none => []
theorem arcsTo_all (m : List Ml) : ∀ L : List Dn, arcsTo m L L.length = arcsOf m L
  | [] => rfl
  | a :: l => by
    have ih := arcsTo_all m l
    unfold arcsTo at ih ⊢
    rw [List.length_cons, List.range_succ_eq_map, List.flatMap_cons, List.flatMap_map]
    show _ ++ _ = l.flatMap (arc2 m a) ++ arcsOf m l
    rw [← ih]
    rfl
theorem arcsTo_next {m : List Ml} {L : List Dn} {k : Nat} {a : Dn} (h : L[k]? = some a) : arcsTo m L (k + 1) = arcsTo m L k ++ (L.drop (k + 1)).flatMap (arc2 m a) := by
  unfold arcsTo
  rw [List.range_succ, List.flatMap_append]
  simp [h]
theorem arc2_len (m : List Ml) (a b : Dn) : (arc2 m a b).length ≤ 1 := by
  unfold arc2
  simp only
  repeat' split
  all_goals simp
theorem flat_len (m : List Ml) (a : Dn) : ∀ l : List Dn, (l.flatMap (arc2 m a)).length ≤ l.length
  | [] => by simp
  | b :: l => by
    rw [List.flatMap_cons, List.length_append, List.length_cons]
    have := arc2_len m a b
    have := flat_len m a l
    omega
theorem arcsTo_len (m : List Ml) (L : List Dn) : ∀ k, (arcsTo m L k).length ≤ k * L.length
  | 0 => by simp [arcsTo]
  | k + 1 => by
    have ih := arcsTo_len m L k
    rw [Nat.succ_mul]
    cases h : L[k]? with
    | none =>
      have e : arcsTo m L (k + 1) = arcsTo m L k := by unfold arcsTo; rw [List.range_succ, List.flatMap_append]; simp [h]
      rw [e]; omega
    | some a =>
      rw [arcsTo_next h, List.length_append]
      have h2 := flat_len m a (L.drop (k + 1))
      rw [List.length_drop] at h2
      omega
theorem flat_next {m : List Ml} {a : Dn} {l : List Dn} {j : Nat} {b : Dn} (h : l[j]? = some b) : (l.take (j + 1)).flatMap (arc2 m a) = (l.take j).flatMap (arc2 m a) ++ arc2 m a b := by
  have hj := (List.getElem?_eq_some_iff.1 h).1
  rw [List.take_succ_eq_append_getElem hj, List.flatMap_append]
  simp [(List.getElem?_eq_some_iff.1 h).2]
end Go.Proofs.YtfbambemjokmgaaGreat
namespace Go.Proofs.YtfbambemjokmgaaGreat
def sideD (id last : Int) (s : Sd) : Bool := decide (last < s.peer) && (decide (s.peer ≠ id) && (decide (0 ≤ s.epoch) && (decide (s.epoch ≤ 65535) && (decide (0 ≤ s.state) && (decide (s.state ≤ 3) && !(s.dirty && !s.fork))))))
def sidesD (id : Int) : Int → List Sd → Bool
  | _, [] => true
  | last, s :: l => sideD id last s && sidesD id s.peer l
def lastD : Int → List Sd → Int
  | last, [] => last
  | _, s :: l => lastD s.peer l
def headD (d : Dn) : Bool := decide (0 ≤ d.id) && ((decide (d.phase = 0) || decide (d.phase = 1) || decide (d.phase = 2)) && decide (d.sides.length ≤ 63))
def dnOk (d : Dn) : Bool := headD d && sidesD d.id (-1) d.sides
theorem lastD_app (l : List Sd) (last : Int) (s : Sd) : lastD last (l ++ [s]) = s.peer := by
  induction l generalizing last with
  | nil => rfl
  | cons t l ih => exact ih t.peer
-- what goes out of a side, and what is left of it
def hot (ph : Int) (s : Sd) : Bool := s.fork && (s.dirty && (s.token && decide (ph ≠ 2)))
def gone (ph : Int) (s : Sd) : Sd := if hot ph s = true then { s with fork := false, dirty := false } else s
def wants (ph : Int) (s : Sd) : Bool := !s.fork && (s.token && decide (ph = 1))
def asked (ph : Int) (s : Sd) : Sd := if wants ph s = true then { s with token := false } else s
def fireS1 (ph : Int) (s : Sd) : Sd := asked ph (gone ph s)
def forkM (id : Int) (s : Sd) : Ml := ⟨id, s.peer, 1, s.epoch, 0⟩
def tokenM (id : Int) (s : Sd) : Ml := ⟨id, s.peer, 2, s.epoch, 0⟩
def fireM1 (id ph : Int) (s : Sd) : List Ml := (if hot ph s = true then [forkM id s] else []) ++ (if wants ph (gone ph s) = true then [tokenM id s] else [])
def fireSs (ph : Int) (L : List Sd) : List Sd := L.map (fireS1 ph)
def fireMs (id ph : Int) (L : List Sd) : List Ml := L.flatMap (fireM1 id ph)
def dirtyAll (L : List Sd) : List Sd := L.map fun s => { s with dirty := true }
def eats (ph : Int) (L : List Sd) : Bool := decide (ph = 1) && L.all (·.fork)
def fireD (d : Dn) : Dn := if eats d.phase (fireSs d.phase d.sides) = true then ⟨d.id, 2, dirtyAll (fireSs d.phase d.sides)⟩ else ⟨d.id, d.phase, fireSs d.phase d.sides⟩
def fireMl (d : Dn) : List Ml := fireMs d.id d.phase d.sides
def calm (ph : Int) (s : Sd) : Bool := !hot ph s && !wants ph s
end Go.Proofs.YtfbambemjokmgaaGreat
