/- Layer 14: scenes in memory; a scene's block that is stored to is no part of what a scene reads as. -/
import Derived.Test.YtdfleocknaackaaGreatMPS
import Derived.Test.YtdfleocknaackaaGreatMRW
import Derived.Test.YtdfleocknaackaaGreatMUA
import Derived.Test.YtdfleocknaackaaGreatMT
import Derived.BigGuard
import Derived.Shelf.Abstract
import Derived.Test.YtdfleocknaackaaGreatMPG
import Derived.Test.YtdfleocknaackaaGreatMY
namespace Go.Proofs.YtdfleocknaackaaGreat
open Go.RowKit

/-- a scene's two slices read as its diners and its mail -/
structure SV (w : World) (vd vm : Value) (ds : List Dn) (ms : List Ml) : Prop where
  ds : Ns DV Non w vd ds
  ms : Sl w vm ms
def GivesS (w : World) (r : (List Dn × List Ml) × Int) (e : Ending) (w' : World) : Prop := ∃ vd vm, e = .returned (.tuple #[.agg #[vd, vm], .int .i64 r.2]) ∧ SV w' vd vm r.1.1 r.1.2 ∧ Ext w w'
section
variable {w w' : World} {vd vm : Value} {ds : List Dn} {ms : List Ml}
theorem SV.ext (h : SV w vd vm ds ms) (e : Ext w w') : SV w' vd vm ds ms := ⟨h.ds.ext e, h.ms.ext e⟩
theorem SV.len (h : SV w vd vm ds ms) : ∃ ao c bo d, vd = .slice ao ds.length c ∧ vm = .slice bo ms.length d := by
  obtain ⟨ao, c, e1⟩ := h.ds.len
  obtain ⟨bo, d, e2⟩ := h.ms.len
  exact ⟨ao, c, bo, d, e1, e2⟩
theorem SV.sh (h : SV w vd vm ds ms) : ∃ ao n c bo m d, vd = .slice ao n c ∧ vm = .slice bo m d := by
  obtain ⟨ao, c, bo, d, e1, e2⟩ := h.len
  exact ⟨ao, _, c, bo, _, d, e1, e2⟩
theorem SV.nil (w : World) : SV w (.slice none 0 0) (.slice none 0 0) [] [] := ⟨Ns.nil _ _, slNoneU _⟩

/-- a block that holds slices alone is no part of a row whose elements begin with a number -/
theorem apart_box {α : Type} [Elem α] {W : World} {g : Nat} {v : Value} {xs : List α} {cs : Array Value} {t : TypeId} {fr : Nat × Nat} (h : Sl W v xs) (hg : W.heap[g]? = some (.cells cs t fr))
    (hcs : ∀ (i : Nat) (u : Value), cs[i]? = some u → ∃ (a : Option Addr) (n c : Nat), u = Value.slice a n c) (hf : ∀ x : α, ∃ k, (Elem.enc x)[0]? = some (.int .i64 k)) : Sa (fun k => k = g) W v xs := by
  refine ⟨h, ?_⟩
  rcases h.parts with ⟨rfl, _⟩ | ⟨b, off, c', rfl, h1, h2, h3, _, h4⟩
  · exact .inl rfl
  · cases xs with
    | nil => exact .inl rfl
    | cons x l =>
      refine .inr fun b' hb' hbg => ?_
      obtain rfl : b = b' := by simpa [Value.ownBlock] using hb'
      subst hbg
      obtain ⟨k, hk⟩ := hf x
      have := h4 0 x rfl 0 _ hk
      replace this : cs[off + (0 * Elem.k α + 0)]? = some (.int .i64 k) := by simpa [World.cell?, hg] using this
      obtain ⟨a, n, c, hu⟩ := hcs _ _ this
      cases hu
theorem two_slices (a : Option Addr) (n c : Nat) (a' : Option Addr) (n' c' : Nat) : ∀ (i : Nat) (u : Value), (#[.slice a n c, .slice a' n' c'] : Array Value)[i]? = some u → ∃ (a : Option Addr) (n c : Nat), u = Value.slice a n c := fun i u hu => by
  rcases i with _ | _ | i
  · simp at hu; exact ⟨_, _, _, hu.symm⟩
  · simp at hu; exact ⟨_, _, _, hu.symm⟩
  · simp at hu
theorem SV.off {g : Nat} {a a' : Option Addr} {n c n' c' : Nat} {t : TypeId} {fr : Nat × Nat} (h : SV w vd vm ds ms) (hg : w.heap[g]? = some (.cells #[.slice a n c, .slice a' n' c'] t fr)) (o : Off (fun k => k = g) w w') : SV w' vd vm ds ms := by
  have hn : Grows (fun k => k = g) Non w := fun k hk => hk.elim
  refine ⟨?_, ?_⟩
  · obtain ⟨xs, h1, h2, h3⟩ := h.ds
    refine ⟨xs, (apart_box h1.sl hg (two_slices _ _ _ _ _ _) fun x => ⟨x.id, rfl⟩).off o hn, h2, fun j x d hx hd => ?_⟩
    obtain ⟨e1, e2, e3⟩ : RdD Non w x d := h3 j x d hx hd
    exact (⟨e1, e2, (apart_box e3.sl hg (two_slices _ _ _ _ _ _) fun x => ⟨x.peer, rfl⟩).off o hn⟩ : RdD Non w' x d)
  · exact ((apart_box h.ms hg (two_slices _ _ _ _ _ _) fun x => ⟨x.from_, rfl⟩).off o hn).sl
end
theorem givesS_no {w W : World} {r : (List Dn × List Ml) × Int} {er : Int} (h : r = (([], []), er)) (x : Ext w W) : GivesS w r (.returned (.tuple #[.agg #[.slice none 0 0, .slice none 0 0], .int .i64 er])) W := by
  subst h
  exact ⟨_, _, rfl, SV.nil _, x⟩
theorem uScene : ∃ fs, Tryz.prog.underlying 31 = some (.struct fs) := ⟨_, Tryz.underlying31⟩

theorem cells2S {w : World} {g : Nat} {u0 u1 : Value} {t : TypeId} (h : w.heap[g]? = some (.cells #[u0, u1] t (0, 0))) : w.cell? ⟨g, 0, none⟩ = some u0 ∧ w.cell? ⟨g, 1, none⟩ = some u1 := ⟨blk_cell h 0 rfl, blk_cell h 1 rfl⟩
end Go.Proofs.YtdfleocknaackaaGreat

/- Layer 14, the program: whether there is a node; closures over diners and mail, asked in order. -/
namespace Go.Proofs.YtdfleocknaackaaGreat
open Go.RowKit

set_option maxRecDepth 100000 in
set_option maxHeartbeats 1000000 in
theorem has_node (w : World) (vd vm : Value) (L : List Dn) (M : List Ml) (a : Int) (h : SV w vd vm L M) (t : Bool) (ht : nodeB L a = t) :
    Calls Tryz.prog 64 #[.agg #[vd, vm], .int .i64 a] w fun e w' => e = .returned (.bool t) ∧ Ext w w' := by
  obtain ⟨ao, c, bo, d, rfl, rfl⟩ := h.len
  have HT := Lib.hid ht
  have X0 : Hid (Ext w (w.alloc (.cells #[.slice ao L.length c, .slice bo M.length d] 31))) := Lib.hid ((Ext.refl w).alloc _)
  obtain ⟨c0, c1⟩ := cells2S (at0 w (.cells #[.slice ao L.length c, .slice bo M.length d] 31))
  clear h ht
  unfold nodeB at HT
  go_enter Tryz.func64, Tryz.ntmps64
  by_cases h0 : 0 ≤ a
  · by_cases h1 : a < (L.length : Int)
    · go_wp2
      go_ret
      exact ⟨ret_bool (by rw [← HT.out, decide_eq_true h0, decide_eq_true h1]; simp), X0.out⟩
    · go_wp2
      go_ret
      exact ⟨ret_bool (by rw [← HT.out, decide_eq_true h0, decide_eq_false (by omega)]; simp), X0.out⟩
  · go_wp2
    go_ret
    exact ⟨ret_bool (by rw [← HT.out, decide_eq_false (by omega)]; rfl), X0.out⟩

set_option maxHeartbeats 1000000 in
theorem spoilt_one (w : World) (id ph : Int) (v : Value) (L : List Sd) (h : Sl w v L) (t : Bool) (ht : dnOk ⟨id, ph, L⟩ = t) :
    Calls Tryz.prog 61 #[.agg #[.int .i64 id, .int .i64 ph, v]] w fun e w' => e = .returned (.bool (!t)) ∧ Ext w w' := by
  obtain ⟨ao, c, rfl⟩ := h.len
  have X0 : Hid (Ext w (w.alloc (.cells #[.int .i64 id, .int .i64 ph, .slice ao L.length c] 49))) := Lib.hid ((Ext.refl w).alloc _)
  have HC := Lib.hid (dCheck_any _ id ph _ L (h.ext X0.out) t ht)
  obtain ⟨d0, d1, d2⟩ := cells3U (at0 w (.cells #[.int .i64 id, .int .i64 ph, .slice ao L.length c] 49))
  clear h ht
  go_enter Tryz.func61, Tryz.ntmps61
  go_wp2_with (go_at_call 62; refine HC.out.mono ?_; rintro e w1 ⟨rfl, hx⟩; have X1 := Lib.hid (X0.out.trans hx); clear hx)
  cases t
  · go_ret
    exact ⟨rfl, X1.out⟩
  · go_ret
    exact ⟨rfl, X1.out⟩

def strayB (ds : List Dn) (m : Ml) : Bool := decide (m.from_ = m.to_) || !nodeB ds m.from_ || !nodeB ds m.to_
set_option maxRecDepth 100000 in
set_option maxHeartbeats 2000000 in
theorem strays_one (W : World) (g : Nat) (vd vm : Value) (L : List Dn) (M : List Ml) (h : SV W vd vm L M) (hg : W.heap[g]? = some (.cells #[vd, vm] 31 (0, 0))) (m : Ml) (t : Bool) (ht : strayB L m = t) :
    Calls Tryz.prog 63 #[m.val, .pointer (some ⟨g, 0, none⟩)] W fun e w' => e = .returned (.bool t) ∧ Ext W w' := by
  obtain ⟨ao, c, bo, d, rfl, rfl⟩ := h.len
  obtain ⟨m0, m1, m2, m3, m4⟩ := m
  unfold Ml.val
  dsimp only
  unfold strayB at ht
  dsimp only at ht
  obtain ⟨W1, hW1⟩ : ∃ W1, W1 = W.alloc (.cells #[.int .i64 m0, .int .i64 m1, .int .i64 m2, .int .i64 m3, .int .i64 m4] 82) := ⟨_, rfl⟩
  have X0 : Hid (Ext W W1) := Lib.hid (hW1 ▸ (Ext.refl W).alloc _)
  have HM : Hid (∀ V, Ext W1 V → V.cell? ⟨W.heap.size, 0, none⟩ = some (.int .i64 m0) ∧ V.cell? ⟨W.heap.size, 1, none⟩ = some (.int .i64 m1)) := Lib.hid fun V hV => by
    have q := keepU (hW1 ▸ at0 W _ : W1.heap[W.heap.size]? = some (.cells #[.int .i64 m0, .int .i64 m1, .int .i64 m2, .int .i64 m3, .int .i64 m4] 82 (0, 0))) hV
    exact ⟨blk_cell q 0 rfl, blk_cell q 1 rfl⟩
  have HG : Hid (∀ V, Ext W1 V → V.cell? ⟨g, 0, none⟩ = some (.slice ao L.length c) ∧ V.cell? ⟨g, 1, none⟩ = some (.slice bo M.length d)) := Lib.hid fun V hV => cells2S (keepU hg (X0.out.trans hV))
  obtain ⟨n0, hn0⟩ : ∃ t, nodeB L m0 = t := ⟨_, rfl⟩
  obtain ⟨n1, hn1⟩ : ∃ t, nodeB L m1 = t := ⟨_, rfl⟩
  rw [hn0, hn1] at ht
  have H0 : Hid (∀ V, Ext W1 V → _) := Lib.hid fun V hV => has_node V _ _ L M m0 (h.ext (X0.out.trans hV)) n0 hn0
  have H1 : Hid (∀ V, Ext W1 V → _) := Lib.hid fun V hV => has_node V _ _ L M m1 (h.ext (X0.out.trans hV)) n1 hn1
  have HT := Lib.hid ht
  have HW1 := Lib.hid hW1
  obtain ⟨k0, k1⟩ := HM.out W1 (Ext.refl _)
  obtain ⟨k2, k3⟩ := HG.out W1 (Ext.refl _)
  clear h hg ht hn0 hn1 hW1
  go_enter Tryz.func63, Tryz.ntmps63
  go_upto_region 1 with (fail)
  rw [← HW1.out]
  by_cases e : m0 = m1
  · have q : (m0 == m1) = true := by simp [e]
    have HE : Hid (decide (m0 = m1) = true) := Lib.hid (decide_eq_true e)
    clear e
    go_wp2
    go_ret
    exact ⟨ret_bool (by rw [← HT.out, HE.out]; rfl), X0.out⟩
  · have q : (m0 == m1) = false := by simp [e]
    have HE : Hid (decide (m0 = m1) = false) := Lib.hid (decide_eq_false e)
    clear e
    cases n0
    · go_wp2_with (go_at_call 64; refine (H0.out W1 (Ext.refl _)).mono ?_; rintro e w1 ⟨rfl, hx⟩; have X1 := Lib.hid hx; clear hx)
      go_ret
      exact ⟨ret_bool (by rw [← HT.out, HE.out]; rfl), X0.out.trans X1.out⟩
    · go_wp2_with (first
        | (have hgd := X1; go_at_call 64; refine (H1.out w1 X1.out).mono ?_; rintro e w2 ⟨rfl, hx⟩; have X2 := Lib.hid hx; clear hx)
        | (go_at_call 64; refine (H0.out W1 (Ext.refl _)).mono ?_; rintro e w1 ⟨rfl, hx⟩; have X1 := Lib.hid hx; obtain ⟨j0, j1⟩ := HM.out w1 hx; obtain ⟨j2, j3⟩ := HG.out w1 hx; clear hx))
      go_ret
      exact ⟨ret_bool (by rw [← HT.out, HE.out]; cases n1 <;> rfl), X0.out.trans (X1.out.trans X2.out)⟩
end Go.Proofs.YtdfleocknaackaaGreat

/- Layer 14, the program: rows of mail, and of diners, asked in order by a closure. -/
namespace Go.Proofs.YtdfleocknaackaaGreat
open Go.RowKit

/-- the first one of a row that p is true of -/
def FirstOf {α : Type} (p : α → Bool) (L : List α) (r : Int) : Prop := (r = -1 ∧ ∀ x ∈ L, p x = false) ∨ ∃ (k : Nat) (x : α), r = (k : Int) ∧ L[k]? = some x ∧ p x = true ∧ ∀ (j : Nat) (u : α), j < k → L[j]? = some u → p u = false
theorem FirstOf.any {α : Type} {p : α → Bool} {L : List α} {r : Int} (h : FirstOf p L r) : L.any p = decide (0 ≤ r) := by
  rcases h with ⟨rfl, h⟩ | ⟨k, x, rfl, h1, h2, _⟩
  · rw [List.any_eq_false.2 fun x hx => by rw [h x hx]; simp]; rfl
  · rw [List.any_eq_true.2 ⟨x, List.mem_of_getElem? h1, h2⟩, decide_eq_true (by omega)]
theorem first_no {α : Type} {p : α → Bool} {L : List α} {k : Nat} (hk : k = L.length) (h : ∀ (j : Nat) (u : α), j < k → L[j]? = some u → p u = false) : ∀ x ∈ L, p x = false := fun x hx => by
  obtain ⟨j, hj⟩ := List.getElem?_of_mem hx
  exact h j x (by rw [hk]; exact (List.getElem?_eq_some_iff.1 hj).1) hj
theorem first_up {α : Type} {p : α → Bool} {L : List α} {k : Nat} {y : α} (h : ∀ (j : Nat) (u : α), j < k → L[j]? = some u → p u = false) (hy : L[k]? = some y) (hp : p y = false) : ∀ (j : Nat) (u : α), j < k + 1 → L[j]? = some u → p u = false := fun j u hj hu => by
  rcases Nat.lt_or_ge j k with h1 | h1
  · exact h j u h1 hu
  · obtain rfl : j = k := by omega
    have := hy.symm.trans hu
    simp only [Option.some.injEq] at this
    rw [← this]; exact hp

set_option maxHeartbeats 1000000 in
theorem indexFunc_ml (w : World) (v : Value) (L : List Ml) (g : FuncId) (lb : Array Value) (p : Ml → Bool) (eg : ∀ args w, (callFunc g args).run Tryz.prog w = .ok (.enter g args) w)
    (h : Sl w v L) (hs : ∀ m W, m ∈ L → Ext w W → Calls Tryz.prog g (#[m.val] ++ lb) W fun e W' => e = .returned (.bool (p m)) ∧ Ext W W') :
    Calls Tryz.prog 69 #[v, .func (.func g) #[] lb] w fun e w' => ∃ r : Int, e = .returned (.int .i64 r) ∧ FirstOf p L r ∧ Ext w w' := by
  obtain ⟨ao, c, rfl⟩ := h.len
  have hlen := h.length_le
  have HI := Lib.hid h
  have HS := Lib.hid hs
  clear hs h
  go_enter Tryz.func69, Tryz.ntmps69
  go_wp2
  go_loopw [8] (fun i wr => ∃ k : Nat, k ≤ L.length ∧ i = .int .i64 k ∧ Hid (∀ (j : Nat) (u : Ml), j < k → L[j]? = some u → p u = false) ∧ Hid (Ext w wr)) (fun i _ => L.length - (intOf i).toNat)
  case atStart => exact ⟨0, Nat.zero_le _, rfl, Lib.hid (fun j u hj => by omega), Lib.hid (Ext.refl _)⟩
  case round =>
    obtain ⟨k, hk, rfl, HT, HX⟩ := hrel
    by_cases hlt : k < L.length
    · obtain ⟨b, off, y, _, hyk, rfl, hn, hnc, hc63, hb, hcell⟩ := HI.out.mailAt hlt
      obtain ⟨⟨x0, x1⟩, x2, x3, x4⟩ := hcell wr HX.out
      have HY := Lib.hid hyk
      obtain ⟨s, hs⟩ : ∃ s, p y = s := ⟨_, rfl⟩
      have HH := Lib.hid (hs ▸ HS.out y wr (List.mem_of_getElem? hyk) HX.out)
      have HP := Lib.hid hs
      clear hs hcell hyk hn
      obtain ⟨y0, y1, y2, y3, y4⟩ := y
      unfold Ml.val at HH
      dsimp only at HH x0 x1 x2 x3 x4
      cases s
      · go_wp2_with (go_at_fn g; refine HH.out.mono ?_; rintro e w1 ⟨rfl, hx⟩; have HX1 := Lib.hid (HX.out.trans hx); clear hx)
        go_roundw
        case rel => exact ⟨k + 1, by omega, by go_num, Lib.hid (first_up HT.out HY.out HP.out), HX1⟩
        case measure => simp [intOf]; omega
      · go_wp2_with (go_at_fn g; refine HH.out.mono ?_; rintro e w1 ⟨rfl, hx⟩; have HX1 := Lib.hid (HX.out.trans hx); clear hx)
        go_ret
        exact ⟨_, rfl, .inr ⟨k, _, rfl, HY.out, HP.out, HT.out⟩, HX1.out⟩
    · have hkl : k = L.length := by omega
      go_wp2
      go_ret
      exact ⟨_, rfl, .inl ⟨rfl, first_no hkl HT.out⟩, HX.out⟩
set_option maxHeartbeats 1000000 in
theorem containsFunc_ml (w : World) (v : Value) (L : List Ml) (g : FuncId) (lb : Array Value) (p : Ml → Bool) (eg : ∀ args w, (callFunc g args).run Tryz.prog w = .ok (.enter g args) w)
    (h : Sl w v L) (hs : ∀ m W, m ∈ L → Ext w W → Calls Tryz.prog g (#[m.val] ++ lb) W fun e W' => e = .returned (.bool (p m)) ∧ Ext W W') (t : Bool) (ht : L.any p = t) :
    Calls Tryz.prog 66 #[v, .func (.func g) #[] lb] w fun e w' => e = .returned (.bool t) ∧ Ext w w' := by
  have HC := Lib.hid (indexFunc_ml w v L g lb p eg h hs)
  have HT := Lib.hid ht
  clear hs h eg ht
  go_enter Tryz.func66, Tryz.ntmps66
  go_wp2_with (go_at_call 69; refine HC.out.mono ?_; rintro e w1 ⟨r, rfl, hr, hx⟩; have HR := Lib.hid hr; have HX := Lib.hid hx; clear hr hx)
  go_ret
  exact ⟨ret_bool (HR.out.any.symm.trans HT.out), HX.out⟩

set_option maxHeartbeats 1000000 in
theorem indexFunc_dn (w : World) (v : Value) (L : List Dn) (g : FuncId) (lb : Array Value) (p : Dn → Bool) (eg : ∀ args w, (callFunc g args).run Tryz.prog w = .ok (.enter g args) w)
    (h : Ns DV Non w v L) (hs : ∀ (id ph : Int) (u : Value) (S : List Sd) W, (⟨id, ph, S⟩ : Dn) ∈ L → Ext w W → Sl W u S → Calls Tryz.prog g (#[.agg #[.int .i64 id, .int .i64 ph, u]] ++ lb) W fun e W' => e = .returned (.bool (p ⟨id, ph, S⟩)) ∧ Ext W W') :
    Calls Tryz.prog 98 #[v, .func (.func g) #[] lb] w fun e w' => ∃ r : Int, e = .returned (.int .i64 r) ∧ FirstOf p L r ∧ Ext w w' := by
  obtain ⟨ao, c, rfl⟩ := h.len
  have hlen := h.length_le
  have HI := Lib.hid h
  have HS := Lib.hid hs
  clear hs h
  go_enter Tryz.func98, Tryz.ntmps98
  go_wp2
  go_loopw [8] (fun i wr => ∃ k : Nat, k ≤ L.length ∧ i = .int .i64 k ∧ Hid (∀ (j : Nat) (u : Dn), j < k → L[j]? = some u → p u = false) ∧ Hid (Ext w wr)) (fun i _ => L.length - (intOf i).toNat)
  case atStart => exact ⟨0, Nat.zero_le _, rfl, Lib.hid (fun j u hj => by omega), Lib.hid (Ext.refl _)⟩
  case round =>
    obtain ⟨k, hk, rfl, HT, HX⟩ := hrel
    by_cases hlt : k < L.length
    · obtain ⟨b, off, so, sc, y, hyk, rfl, hn, hnc, hc63, hb, hsl, hcell⟩ := HI.out.dinerAt hlt
      obtain ⟨x0, x1, x2⟩ := hcell wr HX.out
      have HY := Lib.hid hyk
      obtain ⟨y0, y1, y2⟩ := y
      dsimp only at x0 x1 x2 hsl
      obtain ⟨s, hs⟩ : ∃ s, p ⟨y0, y1, y2⟩ = s := ⟨_, rfl⟩
      have HH := Lib.hid (hs ▸ HS.out y0 y1 (.slice so y2.length sc) y2 wr (List.mem_of_getElem? hyk) HX.out (hsl.sl.ext HX.out))
      have HP := Lib.hid hs
      clear hs hcell hyk hn hsl
      cases s
      · go_wp2_with (go_at_fn g; refine HH.out.mono ?_; rintro e w1 ⟨rfl, hx⟩; have HX1 := Lib.hid (HX.out.trans hx); clear hx)
        go_roundw
        case rel => exact ⟨k + 1, by omega, by go_num, Lib.hid (first_up HT.out HY.out HP.out), HX1⟩
        case measure => simp [intOf]; omega
      · go_wp2_with (go_at_fn g; refine HH.out.mono ?_; rintro e w1 ⟨rfl, hx⟩; have HX1 := Lib.hid (HX.out.trans hx); clear hx)
        go_ret
        exact ⟨_, rfl, .inr ⟨k, _, rfl, HY.out, HP.out, HT.out⟩, HX1.out⟩
    · have hkl : k = L.length := by omega
      go_wp2
      go_ret
      exact ⟨_, rfl, .inl ⟨rfl, first_no hkl HT.out⟩, HX.out⟩
set_option maxHeartbeats 1000000 in
theorem containsFunc_dn (w : World) (v : Value) (L : List Dn) (g : FuncId) (lb : Array Value) (p : Dn → Bool) (eg : ∀ args w, (callFunc g args).run Tryz.prog w = .ok (.enter g args) w)
    (h : Ns DV Non w v L) (hs : ∀ (id ph : Int) (u : Value) (S : List Sd) W, (⟨id, ph, S⟩ : Dn) ∈ L → Ext w W → Sl W u S → Calls Tryz.prog g (#[.agg #[.int .i64 id, .int .i64 ph, u]] ++ lb) W fun e W' => e = .returned (.bool (p ⟨id, ph, S⟩)) ∧ Ext W W') (t : Bool) (ht : L.any p = t) :
    Calls Tryz.prog 65 #[v, .func (.func g) #[] lb] w fun e w' => e = .returned (.bool t) ∧ Ext w w' := by
  have HC := Lib.hid (indexFunc_dn w v L g lb p eg h hs)
  have HT := Lib.hid ht
  clear hs h eg ht
  go_enter Tryz.func65, Tryz.ntmps65
  go_wp2_with (go_at_call 98; refine HC.out.mono ?_; rintro e w1 ⟨r, rfl, hr, hx⟩; have HR := Lib.hid hr; have HX := Lib.hid hx; clear hr hx)
  go_ret
  exact ⟨ret_bool (HR.out.any.symm.trans HT.out), HX.out⟩
end Go.Proofs.YtdfleocknaackaaGreat

/- Layer 14, the program: whether a scene may be; what is wrong with nodes that are named. -/
namespace Go.Proofs.YtdfleocknaackaaGreat
open Go.RowKit

structure Sm (L : List Dn) (M : List Ml) : Prop where
  n : L.length ≤ 100
  s : ∀ d ∈ L, d.sides.length ≤ 100
  m : M.length ≤ 1000
theorem any_not {α : Type} (p : α → Bool) : ∀ l : List α, l.any (fun x => !p x) = !l.all p
  | [] => rfl
  | x :: l => by rw [List.any_cons, List.all_cons, any_not p l]; cases p x <;> simp
theorem chk_bits (L : List Dn) (M : List Ml) : chkT L M = (graphB L && !(L.any fun d => !dnOk d) && !(M.any (strayB L))) := by
  unfold chkT
  rw [any_not]
  have h : M.any (strayB L) = M.any (fun m => !(nodeB L m.from_ && nodeB L m.to_ && !decide (m.from_ = m.to_))) := congrArg (fun f => M.any f) (funext fun m => by
    unfold strayB
    cases nodeB L m.from_ <;> cases nodeB L m.to_ <;> cases decide (m.from_ = m.to_) <;> rfl)
  rw [h, any_not]
  simp

set_option maxRecDepth 100000 in
set_option maxHeartbeats 4000000 in
theorem tCheck_any (w : World) (vd vm : Value) (L : List Dn) (M : List Ml) (h : SV w vd vm L M) (hl : Sm L M) (t : Bool) (ht : chkT L M = t) :
    Calls Tryz.prog 33 #[.agg #[vd, vm]] w fun e w' => e = .returned (.int .i64 (cond t 0 142)) ∧ Ext w w' := by
  have hmf : ∀ (fn : Fn) (first cap : Array Value) (w : World), (Instr.makeFunc fn first cap).run Tryz.prog w = .ok (.func fn first cap) w := fun _ _ _ _ => rfl
  obtain ⟨ao, c, bo, d, rfl, rfl⟩ := h.len
  obtain ⟨W1, hW1⟩ : ∃ W1, W1 = w.alloc (.cells #[.slice ao L.length c, .slice bo M.length d] 31) := ⟨_, rfl⟩
  have X0 : Hid (Ext w W1) := Lib.hid (hW1 ▸ (Ext.refl w).alloc _)
  have B1 : Hid (W1.heap[w.heap.size]? = some (.cells #[.slice ao L.length c, .slice bo M.length d] 31 (0, 0))) := Lib.hid (hW1 ▸ at0 w _)
  have HK : Hid (∀ V, Ext W1 V → V.cell? ⟨w.heap.size, 0, none⟩ = some (.slice ao L.length c) ∧ V.cell? ⟨w.heap.size, 1, none⟩ = some (.slice bo M.length d)) := Lib.hid fun V hV => cells2S (keepU B1.out hV)
  have HV := Lib.hid (h.ext X0.out)
  have HL := Lib.hid hl
  have HW1 := Lib.hid hW1
  have HT := Lib.hid ((chk_bits L M).symm.trans ht)
  obtain ⟨⟨N', E', tg⟩, hg⟩ : ∃ r, graphR L = r := ⟨_, rfl⟩
  have HGB : Hid (graphB L = tg) := Lib.hid (by
    unfold graphR at hg
    split at hg
    · next q => rw [q]; exact (three hg).2.2
    · next q => rw [Bool.not_eq_true] at q; rw [q]; exact (three hg).2.2)
  have HG := Lib.hid hg
  obtain ⟨n1, hn1⟩ : ∃ t, (L.any fun d => !dnOk d) = t := ⟨_, rfl⟩
  obtain ⟨n2, hn2⟩ : ∃ t, M.any (strayB L) = t := ⟨_, rfl⟩
  have HN1 := Lib.hid hn1
  have HN2 := Lib.hid hn2
  have HR : Hid (t = (tg && !n1 && !n2)) := Lib.hid (by rw [← HT.out, HGB.out, hn1, hn2])
  obtain ⟨k0, k1⟩ := HK.out W1 (Ext.refl _)
  clear h hl ht hW1 hg hn1 hn2
  go_enter Tryz.func33, Tryz.ntmps33
  go_upto_region 3 with (fail)
  rw [← HW1.out]
  go_upto_region 4 with (first
    | (go_at_call 14; refine (pGraph_any W1 _ L HV.out.ds HL.out.n HL.out.s N' E' tg HG.out).mono ?_; rintro e w1 ⟨gv, rfl, hs, hx⟩; obtain ⟨ga, gc, rfl⟩ := hs.len; have X1 := Lib.hid hx; clear hs hx))
  obtain ⟨W2, hW2⟩ : ∃ W2, W2 = w1.alloc (.cells #[.int .i64 N', .slice ga E'.length gc] 24) := ⟨_, rfl⟩
  have X2 : Hid (Ext W1 W2) := Lib.hid (hW2 ▸ X1.out.alloc _)
  obtain ⟨j0, j1⟩ := HK.out W2 X2.out
  (try rw [← hW2])
  clear hW2 k0 k1
  cases tg
  · go_wp2
    go_ret
    exact ⟨by rw [HR.out]; rfl, X0.out.trans X2.out⟩
  cases n1
  · cases n2
    all_goals
      go_wp2_with (first
        | (go_at_call 65; refine (containsFunc_dn W2 _ L 61 #[] (fun d => !dnOk d) (enters_of Tryz.func61 (by kernel_rfl) rfl) (HV.out.ds.ext X2.out) (fun id ph u S W _ _ hu => spoilt_one W id ph u S hu _ rfl) _ HN1.out).mono ?_; rintro e w3 ⟨rfl, hx⟩; have X3 := Lib.hid (X2.out.trans hx); obtain ⟨i0, i1⟩ := HK.out w3 X3.out; clear hx)
        | (go_at_call 66; refine (containsFunc_ml w3 _ M 63 #[.pointer (some ⟨w.heap.size, 0, none⟩)] (strayB L) (enters_of Tryz.func63 (by kernel_rfl) rfl) (HV.out.ms.ext X3.out) (fun m W _ hW => strays_one W w.heap.size _ _ L M (HV.out.ext (X3.out.trans hW)) (keepU B1.out (X3.out.trans hW)) m _ rfl) _ HN2.out).mono ?_; rintro e w4 ⟨rfl, hx⟩; have X4 := Lib.hid (X3.out.trans hx); clear hx))
      go_ret
      exact ⟨by rw [HR.out]; rfl, X0.out.trans X4.out⟩
  · go_wp2_with (first
      | (go_at_call 65; refine (containsFunc_dn W2 _ L 61 #[] (fun d => !dnOk d) (enters_of Tryz.func61 (by kernel_rfl) rfl) (HV.out.ds.ext X2.out) (fun id ph u S W _ _ hu => spoilt_one W id ph u S hu _ rfl) _ HN1.out).mono ?_; rintro e w3 ⟨rfl, hx⟩; have X3 := Lib.hid (X2.out.trans hx); clear hx))
    go_ret
    exact ⟨by rw [HR.out]; rfl, X0.out.trans X3.out⟩

set_option maxHeartbeats 1000000 in
theorem missing_one (W : World) (g : Nat) (vd vm : Value) (L : List Dn) (M : List Ml) (h : SV W vd vm L M) (hg : W.heap[g]? = some (.cells #[vd, vm] 31 (0, 0))) (a : Int) (t : Bool) (ht : nodeB L a = t) :
    Calls Tryz.prog 84 #[.int .i64 a, .pointer (some ⟨g, 0, none⟩)] W fun e W' => e = .returned (.bool (!t)) ∧ Ext W W' := by
  obtain ⟨ao, c, bo, d, rfl, rfl⟩ := h.len
  have HC := Lib.hid (has_node W _ _ L M a h t ht)
  obtain ⟨k0, k1⟩ := cells2S hg
  clear h hg ht
  go_enter Tryz.func84, Tryz.ntmps84
  go_wp2_with (go_at_call 64; refine HC.out.mono ?_; rintro e w1 ⟨rfl, hx⟩; have X1 := Lib.hid hx; clear hx)
  go_ret
  exact ⟨rfl, X1.out⟩
end Go.Proofs.YtdfleocknaackaaGreat
