/- Which nodes are joined: the function that calls itself, over a map. -/
import Derived.Test.YtanflbjbcncklaaP4
import Derived.Maps.OwnOps
import Derived.Maps.OwnSet
namespace Go.Proofs.Ytanflbjbcncklaa
open Go.RowKit Go.Maps

theorem grownBy_trans {a b c : World} {row : Option Nat} (h : a.grownBy b row) (g : b.grownBy c row) : a.grownBy c row :=
  ⟨g.os.trans h.os, g.tape.trans h.tape, g.output.trans h.output, Nat.le_trans h.size g.size, fun k hk hr => (g.block k (Nat.lt_of_lt_of_le hk h.size) hr).trans (h.block k hk hr)⟩
theorem Ext.grownBy {a b : World} (h : Ext a b) (row : Option Nat) : a.grownBy b row := ⟨h.os, h.tape, h.output, h.size, fun k hk _ => h.block k hk⟩
theorem grownBy_cell {a b : World} {row : Option Nat} (h : a.grownBy b row) {d : Nat} {o : Nat} {u : Value} (hc : a.cell? ⟨d, o, none⟩ = some u) (hr : some d ≠ row) : b.cell? ⟨d, o, none⟩ = some u :=
  (World.cell?_of_block (w := a) (a := ⟨d, o, none⟩) (h.block d (World.block_lt_of_cell? a _ hc) hr)).trans hc
theorem Sl.grown' {α : Type} [Elem α] {w w' : World} {v : Value} {xs : List α} (h : Sl w v xs) {row : Option Nat} (hg : w.grownBy w' row) (hne : xs = [] ∨ v.ownBlock ≠ row) : Sl w' v xs := by
  rcases hne with rfl | hne
  · obtain ⟨h1, ao, c, rfl, h2, h3, h4, _⟩ := h
    exact ⟨h1, ao, c, rfl, h2, h3, h4, .inl rfl⟩
  · exact h.grown hg (.inl hne)
theorem Ow.keptBy {α : Type} [Elem α] {w w' : World} {B : Nat} {v : Value} {xs : List α} (h : Ow w B v xs) {row : Option Nat} (hg : w.grownBy w' row) (hne : ∀ b, B ≤ b → some b ≠ row) : Ow w' B v xs := by
  refine ⟨h.1, ?_⟩
  rcases h.2 with hn | ⟨g, cap, cur, hv, hB, hh, r⟩
  · exact .inl hn
  · exact .inr ⟨g, cap, cur, hv, hB, (hg.block g (Array.getElem?_eq_some_iff.1 hh).1 (hne g hB)).trans hh, r⟩

theorem law_i : Keyed Try.prog 3 := int_keyed (by kernel_rfl : Try.prog.underlying 3 = some (.int .i64))
theorem und_map : Try.prog.underlying 53 = some (.map 3 3) := by kernel_rfl
theorem und_int : Try.prog.underlying 3 = some (.int .i64) := by kernel_rfl
theorem zero_int (w : World) : (zeroValue 3).run Try.prog w = .ok (.int .i64 0) w := by kernel_rfl

def MapAt (N : Int) (w : World) (B : Nat) (f : Known) : Prop := ∃ (D : DataW Unit) (n : Nat), w.ownsMap Try.prog 3 (plainElem Try.prog 3) B n D ∧ n + free N f ≤ N.toNat ∧
  (∀ x, f x = none → Maps.has D (.int .i64 x) = false) ∧ ∀ x y, f x = some y → Maps.has D (.int .i64 x) = true ∧ D.atKey (.int .i64 x) (.lit (.int .i64 0)) = .lit (.int .i64 y)

theorem MapAt.kept {N : Int} {w w' : World} {B : Nat} {f : Known} (h : MapAt N w B f) {row : Option Nat} (hg : w.grownBy w' row) (hne : some B ≠ row) : MapAt N w' B f := by
  obtain ⟨D, n, h1, h2⟩ := h
  exact ⟨D, n, h1.kept hg hne, h2⟩
theorem MapAt.lt {N : Int} {w : World} {B : Nat} {f : Known} (h : MapAt N w B f) : B < w.heap.size := by
  obtain ⟨D, n, h1, _⟩ := h
  exact h1.lt
theorem MapAt.start (N : Int) (w : World) : MapAt N (w.alloc (.map #[] 0)) w.heap.size (fun _ => none) := by
  refine ⟨.map [], 0, World.ownsMap_made _ _ _ _, ?_, fun x _ => rfl, fun x y h => by cases h⟩
  unfold free
  have := List.length_filter_le (fun i : Nat => ((none : Option Int)).isNone) (List.range N.toNat)
  rw [List.length_range] at this
  rw [Nat.zero_add]
  exact this
theorem key_ne {x z : Int} (h : z ≠ x) : (Lit.int .i64 z) ≠ (Lit.int .i64 x) := fun e => h (by injection e)
theorem MapAt.put {N : Int} {w w' : World} {B n : Nat} {f : Known} {D : DataW Unit} {x y : Int} (h1 : w.ownsMap Try.prog 3 (plainElem Try.prog 3) B n D) (h2 : n + free N f ≤ N.toNat)
    (h3 : ∀ x, f x = none → Maps.has D (.int .i64 x) = false) (h4 : ∀ x y, f x = some y → Maps.has D (.int .i64 x) = true ∧ D.atKey (.int .i64 x) (.lit (.int .i64 0)) = .lit (.int .i64 y))
    (hx : f x = none) (h0 : 0 ≤ x) (hN : x < N) (ho : w'.ownsMap Try.prog 3 (plainElem Try.prog 3) B (n + 1) (D.put (.int .i64 x) (.lit (.int .i64 y)))) : MapAt N w' B (upd f x y) := by
  have hD := h1.isMap
  refine ⟨_, n + 1, ho, by have := free_upd (y := y) h0 hN hx; omega, fun z hz => ?_, fun z t hz => ?_⟩
  · by_cases e : z = x
    · subst e; rw [upd_self] at hz; cases hz
    · rw [upd_other f e] at hz
      rw [has_put_other (key_ne e)]
      exact h3 z hz
  · by_cases e : z = x
    · subst e
      rw [upd_self] at hz
      cases hz
      exact ⟨has_put_same hD (k := .int .i64 z) trivial _, atKey_put_same hD (k := .int .i64 z) trivial _ _⟩
    · rw [upd_other f e] at hz
      rw [has_put_other (key_ne e), atKey_put_other (key_ne e)]
      exact h4 z t hz

/-- What the function's captured variables hold. -/
structure PC (Cl Cg Cj Bm : Nat) (N : Int) (v : Value) (E : List Edge) (w : World) : Prop where
  nl : Cl ≠ Bm
  ng : Cg ≠ Bm
  nj : Cj ≠ Bm
  l : w.cell? ⟨Cl, 0, none⟩ = some (.map (some Bm))
  g0 : w.cell? ⟨Cg, 0, none⟩ = some (.int .i64 N)
  g1 : w.cell? ⟨Cg, 1, none⟩ = some v
  j : w.cell? ⟨Cj, 0, none⟩ = some (.func (.func 39) #[] #[.pointer (some ⟨Cl, 0, none⟩), .pointer (some ⟨Cg, 0, none⟩), .pointer (some ⟨Cj, 0, none⟩)])
  s : Sl w v E
  ns : E = [] ∨ v.ownBlock ≠ some Bm
theorem PC.grown {Cl Cg Cj Bm : Nat} {N : Int} {v : Value} {E : List Edge} {w w' : World} (h : PC Cl Cg Cj Bm N v E w) (g : w.grownBy w' (some Bm)) : PC Cl Cg Cj Bm N v E w' :=
  ⟨h.nl, h.ng, h.nj, grownBy_cell g h.l (by simpa using h.nl), grownBy_cell g h.g0 (by simpa using h.ng), grownBy_cell g h.g1 (by simpa using h.ng), grownBy_cell g h.j (by simpa using h.nj), h.s.grown' g h.ns, h.ns⟩

theorem join_been {N : Int} {v : Value} {E : List Edge} (Cl Cg Cj Bm : Nat) (w : World) (f : Known) (x y z : Int) (hp : PC Cl Cg Cj Bm N v E w) (hm : MapAt N w Bm f) (hfx : f x = some z) (hx0 : 0 ≤ x) (hxN : x < 1000) :
    Calls Try.prog 39 #[.int .i64 x, .int .i64 y, .pointer (some ⟨Cl, 0, none⟩), .pointer (some ⟨Cg, 0, none⟩), .pointer (some ⟨Cj, 0, none⟩)] w fun e w' => e = .returned (.tuple #[]) ∧ w.grownBy w' (some Bm) ∧ ∃ g, MapAt N w' Bm g ∧ Grown E N x y f g := by
  have HM := Lib.hid hm
  obtain ⟨D, n, ho, hnn, h3, h4⟩ := hm
  have hh := (h4 x z hfx).1
  have HF : Hid (Grown E N x y f f) := Lib.hid (Grown.been (by rw [hfx]; simp))
  have HO := Lib.hid ho
  have hl := hp.l
  have HK : Hid (keyOf Try.prog 3 (.int .i64 x) = some (.int .i64 x)) := Lib.hid (keyOf_int_mk und_int (WalkArith.wf_i64 (by omega)))
  clear h3 h4 ho hnn hfx hp
  go_enter Try.func39, Try.ntmps39
  go_wp2_with (first
    | (at_lookup; refine wpList_lookup_own_ok_int _ rfl _ _ 53 rfl 3 3 .i64 law_i und_map und_int (zero_int _) Bm n D rfl HO.out _ _ rfl HK.out ?_; intro cc hat hwc))
  first
  | go_ret
    exact ⟨rfl, grownBy_same _ _, f, HM.out, HF.out⟩
  | exact bodyPost_ret (v := .tuple #[]) (by simp [results, go_sem]) rfl ⟨rfl, grownBy_same _ _, f, HM.out, HF.out⟩

set_option maxHeartbeats 2000000 in
theorem join_any {N : Int} {v : Value} {E : List Edge} (ok : OkG N E) (Cl Cg Cj Bm : Nat) : ∀ (m : Nat) (w : World) (f : Known) (x y : Int), PC Cl Cg Cj Bm N v E w → MapAt N w Bm f → free N f ≤ m → 0 ≤ x → x < N → 0 ≤ y → y < N →
    Calls Try.prog 39 #[.int .i64 x, .int .i64 y, .pointer (some ⟨Cl, 0, none⟩), .pointer (some ⟨Cg, 0, none⟩), .pointer (some ⟨Cj, 0, none⟩)] w fun e w' => e = .returned (.tuple #[]) ∧ w.grownBy w' (some Bm) ∧ ∃ g, MapAt N w' Bm g ∧ Grown E N x y f g := by
  intro m
  have hn64 := ok.n64
  induction m with
  | zero =>
    intro w f x y hp hm hfr hx0 hxN hy0 hyN
    cases hfx : f x with
    | none => have := free_pos hx0 hxN hfx; omega
    | some z => exact join_been Cl Cg Cj Bm w f x y z hp hm hfx hx0 (by omega)
  | succ m ih =>
    intro w f x y hp hm hfr hx0 hxN hy0 hyN
    cases hfx : f x with
    | some z => exact join_been Cl Cg Cj Bm w f x y z hp hm hfx hx0 (by omega)
    | none =>
      obtain ⟨D, n, ho, hnn, h3, h4⟩ := hm
      have hh := h3 x hfx
      have hn : n < maxLen := by unfold maxLen; omega
      have HO := Lib.hid ho
      have HP := Lib.hid hp
      have HK : Hid (keyOf Try.prog 3 (.int .i64 x) = some (.int .i64 x)) := Lib.hid (keyOf_int_mk und_int (WalkArith.wf_i64 (by omega)))
      have HV : Hid (plainElem (H := Unit) Try.prog 3 (.int .i64 y) = some (.lit (.int .i64 y), [])) := Lib.hid (plainElem_int und_int (WalkArith.wf_i64 (by omega)))
      have HPUT : Hid (∀ w', w'.ownsMap Try.prog 3 (plainElem Try.prog 3) Bm (n + 1) (D.put (.int .i64 x) (.lit (.int .i64 y))) → MapAt N w' Bm (upd f x y)) := Lib.hid fun w' h => MapAt.put ho hnn h3 h4 hfx hx0 hxN h
      have HMID : Hid (Mid E N x y f (upd f x y) []) := Lib.hid (Mid.start hfx hx0 hxN)
      have hfree : free N (upd f x y) ≤ m := by have := free_upd (y := y) hx0 hxN hfx; omega
      have HFR := Lib.hid hfree
      have IH := Lib.hid ih
      have OK := Lib.hid ok
      have hl := hp.l
      obtain ⟨ao, c, rfl⟩ := hp.s.len
      obtain ⟨L, hL⟩ : ∃ L, L = nearOf E x := ⟨_, rfl⟩
      have HL := Lib.hid hL
      have HLm : Hid (∀ z, btw x z ∈ E ↔ z ∈ L) := Lib.hid fun z => by rw [hL, mem_nearOf (fun e he => (ok.each e he).2.1)]
      have HLr : Hid (∀ z ∈ L, 0 ≤ z ∧ z < N) := Lib.hid fun z hz => by
        have := ok.each _ ((HLm.out z).2 hz)
        simp only [btw] at this
        omega
      clear hL h3 h4 ho hnn hfx hp hfree ih ok hfr
      go_enter Try.func39, Try.ntmps39
      go_wp2_with (first
        | (at_lookup; refine wpList_lookup_own_ok_int _ rfl _ _ 53 rfl 3 3 .i64 law_i und_map und_int (zero_int _) Bm n D rfl HO.out _ _ rfl HK.out ?_; intro cc hat hwc)
        | (at_mapUpdate; refine wpList_mapUpdate_own _ rfl _ _ _ 53 rfl 3 3 law_i und_map _ Bm n D rfl HO.out hn _ _ _ rfl rfl HK.out _ [] HV.out ?_; intro w1 hown1 hgrow1; have M1 := Lib.hid (HPUT.out w1 hown1); have P1 := Lib.hid (HP.out.grown hgrow1); have G1 := Lib.hid hgrow1; have q0 := P1.out.g0; have q1 := P1.out.g1; clear hown1 hgrow1)
        | (go_at_call 17; refine (near_any _ N _ E x P1.out.s OK.out).mono ?_; rintro e w2 ⟨v2, rfl, ho2, x2⟩; rw [← HL.out] at ho2; obtain ⟨ao2, c2, rfl⟩ := ho2.sl.len; have O2 := Lib.hid ho2; have X2 := Lib.hid x2; clear ho2 x2))
      go_loopw [25] (fun i wr => ∃ k : Nat, k ≤ L.length ∧ i = .int .i64 k ∧ Hid (∃ g, MapAt N wr Bm g ∧ Mid E N x y f g (L.take k)) ∧ Hid (w2.grownBy wr (some Bm))) (fun i _ => L.length - (intOf i).toNat)
      case atStart => exact ⟨0, Nat.zero_le _, rfl, Lib.hid ⟨_, M1.out.kept (Ext.grownBy (a := w1) X2.out none) (by simp), HMID.out⟩, Lib.hid (grownBy_same _ _)⟩
      case round =>
        obtain ⟨k, hk, rfl, HG, HB⟩ := hrel
        have Pr := Lib.hid ((P1.out.grown (Ext.grownBy (a := w1) X2.out _)).grown HB.out)
        by_cases hlt : k < L.length
        · have hSr : Sl wr (.slice ao2 L.length c2) L := O2.out.sl.grown' HB.out (by
            refine .inr fun e => ?_
            have h1 := (O2.out.low Bm e).1
            have h2 := M1.out.lt
            omega)
          obtain ⟨b, off, hao, _, hnc, hc63, hb, hz0⟩ := hSr.intsAt hlt
          subst hao
          obtain ⟨z, hz⟩ : ∃ z, z = L.getD k 0 := ⟨_, rfl⟩
          rw [← hz] at hz0
          have HZm : Hid (z ∈ L) := Lib.hid (by rw [hz]; exact getD_mem hlt 0)
          have HT : Hid (L.take (k + 1) = L.take k ++ [z]) := Lib.hid (by rw [take_next hlt 0, ← hz])
          have hj := Pr.out.j
          clear hz hSr
          go_wp2_with (first
            | (go_at_call 39; obtain ⟨g, hmg, hmid⟩ := HG.out; refine (IH.out wr g z y Pr.out hmg (Nat.le_trans (free_mono fun a b hab => (by rcases Classical.em (a = x) with e | e; (subst e; rw [upd_self] at hab; rw [hmid.here]; exact hab); exact hmid.keep a b (by rwa [upd_other f e] at hab))) HFR.out) (HLr.out z HZm.out).1 (HLr.out z HZm.out).2 hy0 hyN).mono ?_; rintro e w3 ⟨rfl, hb3, g3, hm3, hg3⟩; have HG3 : Hid (∃ g, MapAt N w3 Bm g ∧ Mid E N x y f g (L.take (k + 1))) := Lib.hid ⟨g3, hm3, HT.out ▸ hmid.step ((HLm.out z).2 HZm.out) hg3⟩; have HB3 := Lib.hid (grownBy_trans HB.out hb3); clear hb3 hm3 hg3 hmg hmid))
          go_roundw
          case rel => exact ⟨k + 1, by omega, by go_num, HG3, HB3⟩
          case measure => simp [intOf]; omega
        · have hkl : k = L.length := by omega
          go_wp2
          have hfin : w.grownBy wr (some Bm) ∧ ∃ g, MapAt N wr Bm g ∧ Grown E N x y f g := by
            obtain ⟨g, hmg, hmid⟩ := HG.out
            rw [hkl, List.take_length] at hmid
            exact ⟨grownBy_trans (grownBy_trans G1.out (Ext.grownBy (a := w1) X2.out _)) HB.out, g, hmg, hmid.all fun z hz => (HLm.out z).1 hz⟩
          first
          | go_ret
            exact ⟨rfl, hfin.1, hfin.2⟩
          | exact bodyPost_ret (v := .tuple #[]) (by simp [results, go_sem]) rfl ⟨rfl, hfin.1, hfin.2⟩
          | (go_end0; exact ⟨rfl, hfin.1, hfin.2⟩)

end Go.Proofs.Ytanflbjbcncklaa
