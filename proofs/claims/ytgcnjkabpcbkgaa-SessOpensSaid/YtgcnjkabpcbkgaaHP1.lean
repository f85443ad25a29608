/- Layer 17, the program: closures that tell of a session; rows of sessions asked in order. -/
import Derived.Test.YtgcnjkabpcbkgaaHE
import Derived.Test.YtgcnjkabpcbkgaaS3
import Derived.BigGuard
import Derived.Shelf.Abstract
namespace Go.Proofs.Ytgcnjkabpcbkgaa
open Go.RowKit

/-- the first one of a row that p is true of -/
def FirstH (p : Nat → Se → Bool) (L : List Se) (r : Int) : Prop := (r = -1 ∧ ∀ k s, L[k]? = some s → p k s = false) ∨ ∃ (k : Nat) (s : Se), r = (k : Int) ∧ L[k]? = some s ∧ p k s = true ∧ ∀ (j : Nat) (u : Se), j < k → L[j]? = some u → p j u = false
theorem firstH_up {p : Nat → Se → Bool} {L : List Se} {k : Nat} {y : Se} (h : ∀ (j : Nat) (u : Se), j < k → L[j]? = some u → p j u = false) (hy : L[k]? = some y) (hp : p k y = false) : ∀ (j : Nat) (u : Se), j < k + 1 → L[j]? = some u → p j u = false := fun j u hj hu => by
  rcases Nat.lt_or_ge j k with e | e
  · exact h j u e hu
  · obtain rfl : j = k := by omega
    rw [hy] at hu
    simp only [Option.some.injEq] at hu
    rw [← hu]; exact hp
theorem firstH_no {p : Nat → Se → Bool} {L : List Se} {k : Nat} (hk : k = L.length) (h : ∀ (j : Nat) (u : Se), j < k → L[j]? = some u → p j u = false) : ∀ k s, L[k]? = some s → p k s = false := fun j u hu => h j u (by have := (List.getElem?_eq_some_iff.1 hu).1; omega) hu

set_option maxHeartbeats 1000000 in
theorem indexFunc_se (w : World) (v : Value) (L : List Se) (g : FuncId) (lb : Array Value) (I : Nat → World → Prop) (p : Nat → Se → Bool) (F : Nat → Prop) (eg : ∀ args w, (callFunc g args).run Try.prog w = .ok (.enter g args) w)
    (hI : ∀ k W, I k W → Ns HV F W v L) (hs : ∀ (k : Nat) (id st ag : Int) (u : Value) (N : List Int) W, L[k]? = some ⟨id, N, st, ag⟩ → I k W → Sa F W u N → Calls Try.prog g (#[.agg #[.int .i64 id, u, .int .i64 st, .int .i64 ag]] ++ lb) W fun e W' => e = .returned (.bool (p k ⟨id, N, st, ag⟩)) ∧ I (k + 1) W') (h0 : I 0 w) :
    Calls Try.prog 34 #[v, .func (.func g) #[] lb] w fun e w' => ∃ r : Int, e = .returned (.int .i64 r) ∧ FirstH p L r ∧ ∃ k, I k w' := by
  obtain ⟨ao, c, rfl⟩ := (hI 0 w h0).len
  have hlen := (hI 0 w h0).length_le
  have HI := Lib.hid hI
  have HS := Lib.hid hs
  have H0 := Lib.hid h0
  clear hI hs h0
  go_enter Try.func34, Try.ntmps34
  go_wp2
  go_loopw [8] (fun i wr => ∃ k : Nat, k ≤ L.length ∧ i = .int .i64 k ∧ Hid (∀ (j : Nat) (u : Se), j < k → L[j]? = some u → p j u = false) ∧ Hid (I k wr)) (fun i _ => L.length - (intOf i).toNat)
  case atStart => exact ⟨0, Nat.zero_le _, rfl, Lib.hid (fun j u hj => by omega), H0⟩
  case round =>
    obtain ⟨k, hk, rfl, HT, HX⟩ := hrel
    by_cases hlt : k < L.length
    · obtain ⟨b, off, so, sc, y, hyk, rfl, hn, hnc, hc63, hb, hsn, hcs⟩ := (HI.out k wr HX.out).sessAt hlt
      obtain ⟨⟨x0, x1⟩, x2, x3⟩ := hcs wr (Ext.refl _)
      have HY := Lib.hid hyk
      obtain ⟨y0, y1, y2, y3⟩ := y
      dsimp only at x0 x1 x2 x3 hsn
      obtain ⟨s, hs⟩ : ∃ s, p k ⟨y0, y1, y2, y3⟩ = s := ⟨_, rfl⟩
      have HH := Lib.hid (hs ▸ HS.out k y0 y2 y3 (.slice so y1.length sc) y1 wr hyk HX.out hsn)
      have HP := Lib.hid hs
      clear hs hcs hyk hn hsn
      cases s
      · go_wp2_with (go_at_fn g; refine HH.out.mono ?_; rintro e w1 ⟨rfl, hx⟩; have HX1 := Lib.hid hx; clear hx)
        go_roundw
        case rel => exact ⟨k + 1, by omega, by go_num, Lib.hid (firstH_up HT.out HY.out HP.out), HX1⟩
        case measure => simp [intOf]; omega
      · go_wp2_with (go_at_fn g; refine HH.out.mono ?_; rintro e w1 ⟨rfl, hx⟩; have HX1 := Lib.hid hx; clear hx)
        go_ret
        exact ⟨_, rfl, .inr ⟨k, _, rfl, HY.out, HP.out, HT.out⟩, k + 1, HX1.out⟩
    · have hkl : k = L.length := by omega
      go_wp2
      go_ret
      exact ⟨_, rfl, .inl ⟨rfl, firstH_no hkl HT.out⟩, k, HX.out⟩
set_option maxHeartbeats 1000000 in
theorem containsFunc_se (w : World) (v : Value) (L : List Se) (g : FuncId) (lb : Array Value) (I : Nat → World → Prop) (p : Nat → Se → Bool) (F : Nat → Prop) (eg : ∀ args w, (callFunc g args).run Try.prog w = .ok (.enter g args) w)
    (hI : ∀ k W, I k W → Ns HV F W v L) (hs : ∀ (k : Nat) (id st ag : Int) (u : Value) (N : List Int) W, L[k]? = some ⟨id, N, st, ag⟩ → I k W → Sa F W u N → Calls Try.prog g (#[.agg #[.int .i64 id, u, .int .i64 st, .int .i64 ag]] ++ lb) W fun e W' => e = .returned (.bool (p k ⟨id, N, st, ag⟩)) ∧ I (k + 1) W') (h0 : I 0 w)
    (t : Bool) (h1 : (∀ k s, L[k]? = some s → p k s = false) → t = false) (h2 : ∀ (k : Nat) (s : Se), L[k]? = some s → p k s = true → (∀ (j : Nat) (u : Se), j < k → L[j]? = some u → p j u = false) → t = true) :
    Calls Try.prog 37 #[v, .func (.func g) #[] lb] w fun e w' => e = .returned (.bool t) ∧ ∃ k, I k w' := by
  have HC := Lib.hid (indexFunc_se w v L g lb I p F eg hI hs h0)
  have H1 := Lib.hid h1
  have H2 := Lib.hid h2
  clear hI hs h0 h1 h2 eg
  go_enter Try.func37, Try.ntmps37
  go_wp2_with (go_at_call 34; refine HC.out.mono ?_; rintro e w1 ⟨r, rfl, hr, hx⟩; have HR := Lib.hid hr; have HX := Lib.hid hx; clear hr hx)
  go_ret
  refine ⟨ret_bool ?_, HX.out⟩
  rcases HR.out with ⟨e, h⟩ | ⟨k, s, e, ha, hb, hc⟩
  · rw [H1.out h, e]; rfl
  · rw [H2.out k s ha hb hc, e]; simp

/-- a function value that tells p of any session -/
def TellsH (w : World) (fv : Value) (p : Se → Bool) : Prop := ∃ g lb, fv = .func (.func g) #[] lb ∧ (∀ args w, (callFunc g args).run Try.prog w = .ok (.enter g args) w) ∧
  ∀ (id st ag : Int) (u : Value) (N : List Int) W, Ext w W → Sl W u N → Calls Try.prog g (#[.agg #[.int .i64 id, u, .int .i64 st, .int .i64 ag]] ++ lb) W fun e W' => e = .returned (.bool (p ⟨id, N, st, ag⟩)) ∧ Ext W W'
theorem TellsH.ext {w w' : World} {fv : Value} {p : Se → Bool} (h : TellsH w fv p) (e : Ext w w') : TellsH w' fv p := by
  obtain ⟨g, lb, h1, h2, h3⟩ := h
  exact ⟨g, lb, h1, h2, fun id st ag u N W hW hu => h3 id st ag u N W (e.trans hW) hu⟩
theorem TellsH.sh {w : World} {fv : Value} {p : Se → Bool} (h : TellsH w fv p) : ∃ g lb, fv = .func (.func g) #[] lb := by
  obtain ⟨g, lb, h1, _⟩ := h
  exact ⟨g, lb, h1⟩
theorem indexFunc_tells (w : World) (v fv : Value) (L : List Se) (p : Se → Bool) (h : Ns HV Non w v L) (ht : TellsH w fv p) :
    Calls Try.prog 34 #[v, fv] w fun e w' => ∃ r : Int, e = .returned (.int .i64 r) ∧ FirstH (fun _ => p) L r ∧ Ext w w' := by
  obtain ⟨g, lb, rfl, eg, hp⟩ := ht
  refine (indexFunc_se w v L g lb (fun _ W => Ext w W) (fun _ => p) Non eg (fun _ W hW => h.ext hW) (fun k id st ag u N W _ hW hu => (hp id st ag u N W hW hu.sl).mono fun e w' ⟨h1, h2⟩ => ⟨h1, hW.trans h2⟩) (Ext.refl _)).mono ?_
  rintro e w' ⟨r, h1, h2, _, h3⟩
  exact ⟨r, h1, h2, h3⟩

set_option maxHeartbeats 1000000 in
theorem granted_any (W : World) (id st ag : Int) (u : Value) (N : List Int) (h : Sl W u N) (t : Bool) (ht : decide (st = 1) = t) :
    Calls Try.prog 42 #[.agg #[.int .i64 id, u, .int .i64 st, .int .i64 ag]] W fun e W' => e = .returned (.bool t) ∧ Ext W W' := by
  obtain ⟨ao, c, rfl⟩ := h.len
  obtain ⟨b, hb⟩ : ∃ b, (st == 1) = b := ⟨_, rfl⟩
  have HT : Hid (b = t) := Lib.hid (by rw [← hb, ← ht]; rfl)
  have X0 : Hid (Ext W (W.alloc (.cells #[.int .i64 id, .slice ao N.length c, .int .i64 st, .int .i64 ag] 41))) := Lib.hid ((Ext.refl W).alloc _)
  clear ht h
  go_enter Try.func42, Try.ntmps42
  go_wp2
  go_ret
  exact ⟨ret_bool HT.out, X0.out⟩
set_option maxHeartbeats 1000000 in
theorem of1_any (W : World) (g : Nat) (id0 id st ag : Int) (u : Value) (N : List Int) (h : Sl W u N) (hg : W.heap[g]? = some (.cells #[.int .i64 id0] 3 (0, 0))) :
    Calls Try.prog 53 #[.agg #[.int .i64 id, u, .int .i64 st, .int .i64 ag], .pointer (some ⟨g, 0, none⟩)] W fun e W' => e = .returned (.bool (id == id0)) ∧ Ext W W' := by
  obtain ⟨ao, c, rfl⟩ := h.len
  obtain ⟨b, hb⟩ : ∃ b, (id == id0) = b := ⟨_, rfl⟩
  have HB := Lib.hid hb
  obtain ⟨W1, hW1⟩ : ∃ W1, W1 = W.alloc (.cells #[.int .i64 id, .slice ao N.length c, .int .i64 st, .int .i64 ag] 41) := ⟨_, rfl⟩
  have X1 : Hid (Ext W W1) := Lib.hid (hW1 ▸ (Ext.refl W).alloc _)
  have q0 := blk_cell (hW1 ▸ at0 W _ : W1.heap[W.heap.size]? = _) 0 rfl
  have q1 := blk_cell (keepU hg X1.out) 0 rfl
  have HW1 := Lib.hid hW1
  clear h hg hW1
  go_enter Try.func53, Try.ntmps53
  go_upto_region 1 with (fail)
  rw [← HW1.out]
  go_wp2
  go_ret
  exact ⟨ret_bool HB.out.symm, X1.out⟩
theorem of_tells (w : World) (g : Nat) (id0 : Int) (hg : w.heap[g]? = some (.cells #[.int .i64 id0] 3 (0, 0))) : TellsH w (.func (.func 53) #[] #[.pointer (some ⟨g, 0, none⟩)]) (fun s => s.id == id0) :=
  ⟨53, _, rfl, enters_of Try.func53 (by kernel_rfl) rfl, fun id st ag u N W hW hu => by
    change Calls Try.prog _ #[.agg #[.int .i64 id, u, .int .i64 st, .int .i64 ag], .pointer (some ⟨g, 0, none⟩)] W _
    exact of1_any W g id0 id st ag u N hu (keepU hg hW)⟩
set_option maxHeartbeats 1000000 in
theorem of_any (W : World) (id0 : Int) : Calls Try.prog 35 #[.int .i64 id0] W fun e W' => ∃ g lb, e = .returned (.func (.func g) #[] lb) ∧ TellsH W' (.func (.func g) #[] lb) (fun s => s.id == id0) ∧ Ext W W' := by
  have hmf : ∀ (fn : Fn) (first cap : Array Value) (w : World), (Instr.makeFunc fn first cap).run Try.prog w = .ok (.func fn first cap) w := fun _ _ _ _ => rfl
  go_enter Try.func35, Try.ntmps35
  go_wp2
  go_ret
  exact ⟨_, _, rfl, of_tells _ _ _ (at0 W _), (Ext.refl W).alloc _⟩
set_option maxHeartbeats 1000000 in
theorem copied1_tells (w : World) : TellsH w (.func (.func 56) #[] #[]) (fun _ => false) :=
  ⟨56, _, rfl, enters_of Try.func56 (by kernel_rfl) rfl, fun id st ag u N W hW hu => by
    change Calls Try.prog _ #[.agg #[.int .i64 id, u, .int .i64 st, .int .i64 ag]] W _
    obtain ⟨ao, c, rfl⟩ := hu.len
    clear hu hW
    go_enter Try.func56, Try.ntmps56
    go_wp2
    go_ret
    exact ⟨rfl, (Ext.refl W).alloc _⟩⟩
set_option maxHeartbeats 2000000 in
theorem gone1_any (W : World) (g : Nat) (p id st ag : Int) (u : Value) (N : List Int) (h : Sl W u N) (hg : W.heap[g]? = some (.cells #[.int .i64 p] 3 (0, 0))) (t : Bool) (ht : (!decide (st = 1) && decide (p ∈ N)) = t) :
    Calls Try.prog 45 #[.agg #[.int .i64 id, u, .int .i64 st, .int .i64 ag], .pointer (some ⟨g, 0, none⟩)] W fun e W' => e = .returned (.bool t) ∧ Ext W W' := by
  obtain ⟨ao, c, rfl⟩ := h.len
  have HT := Lib.hid ht
  obtain ⟨W1, hW1⟩ : ∃ W1, W1 = W.alloc (.cells #[.int .i64 id, .slice ao N.length c, .int .i64 st, .int .i64 ag] 41) := ⟨_, rfl⟩
  have X1 : Hid (Ext W W1) := Lib.hid (hW1 ▸ (Ext.refl W).alloc _)
  have B1 : Hid (∀ V, Ext W1 V → (V.cell? ⟨W.heap.size, 0, none⟩ = some (.int .i64 id) ∧ V.cell? ⟨W.heap.size, 1, none⟩ = some (.slice ao N.length c)) ∧ (V.cell? ⟨W.heap.size, 2, none⟩ = some (.int .i64 st) ∧ V.cell? ⟨W.heap.size, 3, none⟩ = some (.int .i64 ag)) ∧ V.cell? ⟨g, 0, none⟩ = some (.int .i64 p)) := Lib.hid fun V hV => by
    have hb := keepU (hW1 ▸ at0 W _ : W1.heap[W.heap.size]? = _) hV
    exact ⟨⟨blk_cell hb 0 rfl, blk_cell hb 1 rfl⟩, ⟨blk_cell hb 2 rfl, blk_cell hb 3 rfl⟩, blk_cell (keepU hg (X1.out.trans hV)) 0 rfl⟩
  have HS := Lib.hid (h.ext X1.out)
  have HW1 := Lib.hid hW1
  obtain ⟨g1, hg1⟩ : ∃ b, decide (st = 1) = b := ⟨_, rfl⟩
  obtain ⟨g2, hg2⟩ : ∃ b, decide (p ∈ N) = b := ⟨_, rfl⟩
  rw [hg1, hg2] at HT
  have HG1 := Lib.hid hg1
  have HG2 := Lib.hid hg2
  obtain ⟨⟨k0, k1⟩, ⟨k2, k3⟩, k4⟩ := B1.out W1 (Ext.refl _)
  clear h hg ht hW1 hg1 hg2
  go_enter Try.func45, Try.ntmps45
  go_upto_region 1 with (fail)
  rw [← HW1.out]
  cases g1
  · go_wp2_with (first
      | (go_at_call 42; refine (granted_any W1 id st ag _ N HS.out _ HG1.out).mono ?_; rintro e w2 ⟨rfl, x2⟩; have X2 : Hid (Ext W1 w2) := Lib.hid x2; clear x2 k0 k1 k2 k3 k4; obtain ⟨⟨k0, k1⟩, ⟨k2, k3⟩, k4⟩ := B1.out w2 X2.out)
      | (go_at_call 46; refine (setHas_val w2 _ N p (HS.out.ext X2.out) _ HG2.out).mono ?_; rintro e w3 ⟨rfl, x3⟩; have X3 : Hid (Ext W1 w3) := Lib.hid (X2.out.trans x3); clear x3))
    go_ret
    exact ⟨ret_bool HT.out, X1.out.trans X3.out⟩
  · go_wp2_with (first
      | (go_at_call 42; refine (granted_any W1 id st ag _ N HS.out _ HG1.out).mono ?_; rintro e w2 ⟨rfl, x2⟩; have X2 : Hid (Ext W1 w2) := Lib.hid x2; clear x2 k0 k1 k2 k3 k4))
    go_ret
    exact ⟨ret_bool HT.out, X1.out.trans X2.out⟩
theorem gone1_tells (w : World) (g : Nat) (p : Int) (hg : w.heap[g]? = some (.cells #[.int .i64 p] 3 (0, 0))) : TellsH w (.func (.func 45) #[] #[.pointer (some ⟨g, 0, none⟩)]) (fun s => !decide (s.state = 1) && decide (p ∈ s.need)) :=
  ⟨45, _, rfl, enters_of Try.func45 (by kernel_rfl) rfl, fun id st ag u N W hW hu => by
    change Calls Try.prog _ #[.agg #[.int .i64 id, u, .int .i64 st, .int .i64 ag], .pointer (some ⟨g, 0, none⟩)] W _
    exact gone1_any W g p id st ag u N hu (keepU hg hW) _ rfl⟩
end Go.Proofs.Ytgcnjkabpcbkgaa
