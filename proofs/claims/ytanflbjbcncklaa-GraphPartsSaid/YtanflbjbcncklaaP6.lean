/- Which nodes are joined. -/
import Derived.Test.YtanflbjbcncklaaP5
import Derived.Laws.EntriesVeiled
namespace Go.Proofs.Ytanflbjbcncklaa
open Go.RowKit Go.Maps

theorem below_grown {a b c : World} {B : Nat} {row : Option Nat} (h : a.grownBy b row) (g : Below B b c) (hB : a.heap.size ≤ B) : a.grownBy c row :=
  ⟨g.os.trans h.os, g.tape.trans h.tape, g.output.trans h.output, Nat.le_trans h.size g.size, fun k hk hr => (g.block k (by omega)).trans (h.block k hk hr)⟩

theorem frozen_new {w : World} {cs : Array Value} {t : TypeId} {i n : Nat} (hn : n = w.heap.size) : (w.alloc (.cells cs t (0, 0))).frozen? ⟨n, i, none⟩ = false := by
  subst hn
  exact blk_free (get_alloc_new _ _) i

theorem parts_start (w1 : World) (Cg : Nat) (N : Int) (v : Value) (E : List Edge) (hg : Cg < w1.heap.size) (g0 : w1.cell? ⟨Cg, 0, none⟩ = some (.int .i64 N)) (g1 : w1.cell? ⟨Cg, 1, none⟩ = some v) (hs : Sl w1 v E) (hlow : E = [] ∨ ∀ b, v.ownBlock = some b → b < w1.heap.size) :
    PC (w1.heap.size + 1) Cg (w1.heap.size + 1 + 1) w1.heap.size N v E (((w1.alloc (.map #[] 0)).alloc (.cells #[.map (some w1.heap.size)] 53)).alloc (.cells #[(.func (.func 39) #[] #[.pointer (some ⟨w1.heap.size + 1, 0, none⟩), .pointer (some ⟨Cg, 0, none⟩), .pointer (some ⟨w1.heap.size + 1 + 1, 0, none⟩)])] 54)) ∧
    MapAt N (((w1.alloc (.map #[] 0)).alloc (.cells #[.map (some w1.heap.size)] 53)).alloc (.cells #[(.func (.func 39) #[] #[.pointer (some ⟨w1.heap.size + 1, 0, none⟩), .pointer (some ⟨Cg, 0, none⟩), .pointer (some ⟨w1.heap.size + 1 + 1, 0, none⟩)])] 54)) w1.heap.size (fun _ => none) ∧ Ext w1 (((w1.alloc (.map #[] 0)).alloc (.cells #[.map (some w1.heap.size)] 53)).alloc (.cells #[(.func (.func 39) #[] #[.pointer (some ⟨w1.heap.size + 1, 0, none⟩), .pointer (some ⟨Cg, 0, none⟩), .pointer (some ⟨w1.heap.size + 1 + 1, 0, none⟩)])] 54)) := by
  have x0 : Ext (w1.alloc (.map #[] 0)) (((w1.alloc (.map #[] 0)).alloc (.cells #[.map (some w1.heap.size)] 53)).alloc (.cells #[(.func (.func 39) #[] #[.pointer (some ⟨w1.heap.size + 1, 0, none⟩), .pointer (some ⟨Cg, 0, none⟩), .pointer (some ⟨w1.heap.size + 1 + 1, 0, none⟩)])] 54)) := ((Ext.refl _).alloc _).alloc _
  have x : Ext w1 (((w1.alloc (.map #[] 0)).alloc (.cells #[.map (some w1.heap.size)] 53)).alloc (.cells #[(.func (.func 39) #[] #[.pointer (some ⟨w1.heap.size + 1, 0, none⟩), .pointer (some ⟨Cg, 0, none⟩), .pointer (some ⟨w1.heap.size + 1 + 1, 0, none⟩)])] 54)) := ((Ext.refl w1).alloc _).trans x0
  have hL : (((w1.alloc (.map #[] 0)).alloc (.cells #[.map (some w1.heap.size)] 53)).alloc (.cells #[(.func (.func 39) #[] #[.pointer (some ⟨w1.heap.size + 1, 0, none⟩), .pointer (some ⟨Cg, 0, none⟩), .pointer (some ⟨w1.heap.size + 1 + 1, 0, none⟩)])] 54)).heap[w1.heap.size + 1]? = some (.cells #[.map (some w1.heap.size)] 53 (0, 0)) := by
    rw [get_alloc_old (by simp)]
    rw [show w1.heap.size + 1 = (w1.alloc (.map #[] 0)).heap.size from by simp, get_alloc_new]
  refine ⟨⟨by omega, by omega, by omega, blk_cell hL 0 rfl, (x.cell (p := ⟨Cg, 0, none⟩) hg).trans g0, (x.cell (p := ⟨Cg, 1, none⟩) hg).trans g1, cell_new (by simp) rfl, hs.ext x, hlow.imp id fun hl e => ?_⟩, (MapAt.start N w1).kept (Ext.grownBy x0 none) (by simp), x⟩
  have := hl _ e
  omega

theorem ext_grown {a b c : World} {m : Nat} (h : Ext a b) (g : b.grownBy c (some m)) (hm : a.heap.size ≤ m) : Ext a c :=
  ⟨g.os.trans h.os, g.tape.trans h.tape, g.output.trans h.output, Nat.le_trans h.size g.size, fun k hk => (g.block k (Nat.lt_of_lt_of_le hk h.size) (by simp; omega)).trans (h.block k hk)⟩

/-- The parts come out. -/
def GivesP (w : World) (N : Int) (E : List Edge) (e : Ending) (w' : World) : Prop := ∃ (v' : Value) (p : List Int), e = .returned v' ∧ Ow w' w.heap.size v' p ∧ Ext w w' ∧ IsParts E N p

set_option maxHeartbeats 2000000 in
theorem parts_any (w : World) (N : Int) (v : Value) (E : List Edge) (h : Sl w v E) (ok : OkG N E) :
    Calls Try.prog 20 #[.agg #[.int .i64 N, v]] w (GivesP w N E) := by
  have hn0 := ok.n0
  have hn64 := ok.n64
  obtain ⟨ao, c, rfl⟩ := h.len
  have HC := Lib.hid (chk_of ok)
  have OK := Lib.hid ok
  have HS := Lib.hid h
  have HLOW := Lib.hid h.low
  clear h ok
  have hmf : ∀ (fn : Fn) (first cap : Array Value) (w : World), (Instr.makeFunc fn first cap).run Try.prog w = .ok (.func fn first cap) w := fun _ _ _ _ => rfl
  have hmm := @run_makeMap Try.prog
  go_enter Try.func20, Try.ntmps20
  go_wp2_with (first
    | (go_at_call 15; refine (check_any _ N _ E (HS.out.ext (by repeat (first | exact Ext.refl _ | assumption | refine Ext.alloc ?_ _ | refine Ext.drew ?_ | refine Ext.drewN ?_ _))) 0 HC.out).mono ?_; rintro e w1 ⟨rfl, x1⟩; have y1 : Ext w w1 := Ext.trans ((Ext.refl w).alloc _) x1; have p0 : w1.cell? ⟨w.heap.size, 0, none⟩ = some (.int .i64 N) := cell_at w1 x1 rfl; have p1 : w1.cell? ⟨w.heap.size, 1, none⟩ = some (.slice ao E.length c) := cell_at w1 x1 rfl; have hsz1 : w.heap.size < w1.heap.size := (by have := x1.size; rw [size_alloc] at this; omega); have st := parts_start w1 w.heap.size N (.slice ao E.length c) E hsz1 p0 p1 (HS.out.ext y1) (HLOW.out.imp id fun hl b e => (by have := hl b e; omega)); have ST := Lib.hid st; have z0 := st.1.g0; clear st))
  generalize hW0 : (((w1.alloc (.map #[] 0)).alloc (.cells #[.map (some w1.heap.size)] 53)).alloc (.cells #[(.func (.func 39) #[] #[.pointer (some ⟨w1.heap.size + 1, 0, none⟩), .pointer (some ⟨w.heap.size, 0, none⟩), .pointer (some ⟨w1.heap.size + 1 + 1, 0, none⟩)])] 54)) = W0 at *
  obtain ⟨hpc, hma, hx0⟩ := ST.out
  clear ST hW0 z0
  have X0 := Lib.hid (y1.trans hx0)
  have PC0 := Lib.hid hpc
  have MA0 := Lib.hid hma
  have hBm := hma.lt
  clear hpc hma hx0
  go_loopw [5, 14] (fun q i wr => ∃ k : Nat, (k : Int) ≤ N ∧ i = .int .i64 k ∧ Hid (∃ g p, MapAt N wr w1.heap.size g ∧ Come E N k g ∧ Ow wr W0.heap.size q p ∧ p.length = k ∧ ∀ j : Nat, j < k → g j = some (p.getD j 0)) ∧ Hid (W0.grownBy wr (some w1.heap.size))) (fun _ i _ => N.toNat - (intOf i).toNat)
  case atStart => exact ⟨0, by omega, rfl, Lib.hid ⟨_, [], MA0.out, Come.start, Ow.nil _ _, rfl, fun j hj => by omega⟩, Lib.hid (grownBy_same _ _)⟩
  case round =>
    obtain ⟨k, hk, rfl, HG, HB⟩ := hrel
    have Pr := Lib.hid (PC0.out.grown HB.out)
    obtain ⟨g, p, hmg, hco, how, hpl, hpv⟩ := HG.out
    have HMG := Lib.hid hmg
    have HCO := Lib.hid hco
    have HOW := Lib.hid how
    have HPL := Lib.hid hpl
    have HPV := Lib.hid hpv
    have hpll : p.length ≤ 64 := by omega
    have hW0 : W0.heap.size ≤ wr.heap.size := HB.out.size
    clear hmg hco how hpl hpv HG
    by_cases hlt : (k : Int) < N
    · have hj := Pr.out.j
      have hl := Pr.out.l
      have HK : Hid (keyOf Try.prog 3 (.int .i64 (k : Int)) = some (.int .i64 (k : Int))) := Lib.hid (keyOf_int_mk und_int (WalkArith.wf_i64 (by omega)))
      go_wp2_with (first
        | (go_at_call 39; refine (join_any OK.out _ _ _ _ (free N g) wr g k k Pr.out HMG.out (Nat.le_refl _) (by omega) hlt (by omega) hlt).mono ?_; rintro e w3 ⟨rfl, hb3, g3, hm3, hg3⟩; have M3 := Lib.hid hm3; have G3 := Lib.hid hg3; have C3 := Lib.hid (HCO.out.step hg3); have OW3 := Lib.hid (HOW.out.keptBy hb3 (fun b hb => by simp; omega)); have HB3 := Lib.hid (grownBy_trans HB.out hb3); have l3 := (Pr.out.grown hb3).l; have hs3 : W0.heap.size ≤ w3.heap.size := HB3.out.size; obtain ⟨yk, hyk⟩ : ∃ yk, g3 (k : Int) = some yk := Option.ne_none_iff_exists'.1 hg3.here; have HYK := Lib.hid hyk; clear hb3 hm3 hg3 hyk)
        | (at_lookup; obtain ⟨D, n, hod, hnn, h3, h4⟩ := M3.out; refine wpList_lookup_own_int _ rfl _ _ 53 rfl 3 3 .i64 law_i und_map und_int (zero_int _) w1.heap.size n D rfl hod _ _ rfl HK.out ?_; intro cc hat hwc; have hcc : cc = yk := (by have h5 := (h4 k yk HYK.out).2; rw [h5] at hat; injection hat with hat; injection hat with _ hat; exact hat.symm); subst hcc; clear hat hwc hod hnn h3 h4)
        | (at_builtin; refine wpList_append_sl (α := Int) rfl (.tmp 21) (.tmp 25) rfl W0.heap.size _ p rfl ?_ (.slice (some ⟨_, 0, none⟩) 1 1) [cc] rfl ?_ ?_ ?_ ?_; exact (OW3.out.alloc _); exact (Sl.litAt _ _ rfl [cc] (by simp)); (first | omega | (simp; omega)); exact (by first | (simp; done) | (simp; omega)); intro v4 W4 ho4 ha4; have O4 := Lib.hid ho4; have M4 := Lib.hid (M3.out.kept (grownBy_trans (World.grownBy_alloc w3 _ _) ha4.grown) (fun e => by have := (OW3.out.low _ e.symm).1; omega)); have HB4 := Lib.hid (below_grown (grownBy_trans HB3.out (World.grownBy_alloc w3 _ _)) ha4.below (Nat.le_refl _)); clear ho4 ha4))
      go_roundw
      case rel => exact ⟨k + 1, by omega, by go_num, Lib.hid ⟨_, _, M4.out, C3.out, O4.out, by simp [HPL.out], fun j hj => by
        rcases Nat.lt_or_ge j k with hjk | hjk
        · have h6 := G3.out.keep _ _ (HPV.out j hjk)
          rw [h6, List.getD_eq_getElem?_getD, List.getD_eq_getElem?_getD, List.getElem?_append_left (by rw [HPL.out]; exact hjk)]
        · have : j = k := by omega
          subst this
          rw [HYK.out, List.getD_eq_getElem?_getD, List.getElem?_append_right (by rw [HPL.out]; exact Nat.le_refl _)]
          simp [HPL.out]⟩, HB4⟩
      case measure => simp [intOf]; omega
    · have hkN : (k : Int) = N := by omega
      go_wp2
      go_ret
      exact ⟨_, p, rfl, HOW.out.mono X0.out.size, ext_grown X0.out HB.out (by omega), by rw [HPL.out]; exact hkN, fun i hi => HCO.out.least _ _ (HPV.out i (by rw [← HPL.out]; exact hi))⟩

end Go.Proofs.Ytanflbjbcncklaa
