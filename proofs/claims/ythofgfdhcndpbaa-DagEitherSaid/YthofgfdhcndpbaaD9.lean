/- Arcs flipped at a node; the nodes from which no arc goes. -/
import Derived.Test.YthofgfdhcndpbaaD8
namespace Go.Proofs.Ythofgfdhcndpbaa
open Go.RowKit

def flipA (v : Int) (x : Arc) : Arc := if x.a = v then ⟨x.b, v⟩ else x
def flipD (L : List Arc) (v : Int) : List Arc := L.map (flipA v)
def isSink (L : List Arc) (v : Int) : Bool := !L.any fun x => decide (x.a = v)
def sinksL (N : Int) (L : List Arc) : List Int := if okD N L = true then (upto N.toNat).filter (isSink L) else []

set_option maxHeartbeats 1000000 in
theorem flip_any (w : World) (v : Value) (E : List Arc) (x : Int) (h : Sl w v E) (hl : E.length ≤ 1000000) :
    Calls Try.prog 23 #[v, .int .i64 x] w (GivesOw w (flipD E x)) := by
  obtain ⟨ao, c, rfl⟩ := h.len
  have HS := Lib.hid h
  clear h
  go_enter Try.func23, Try.ntmps23
  go_wp2
  go_loopw [5, 10] (fun q i wr => ∃ k : Nat, k ≤ E.length ∧ i = .int .i64 k ∧ Hid (Ow wr w.heap.size q (flipD (E.take k) x)) ∧ Hid (Ext w wr)) (fun _ i _ => E.length - (intOf i).toNat)
  case atStart => exact ⟨0, Nat.zero_le _, rfl, Lib.hid (Ow.nil _ _), Lib.hid (Ext.refl _)⟩
  case round =>
    obtain ⟨k, hk, rfl, HO, HX⟩ := hrel
    by_cases hlt : k < E.length
    · obtain ⟨b, off, hao, hq1, hnc, hc63, hb, hya0, hyb0⟩ := HS.out.arcsAt hlt
      subst hao
      have hya := (HX.out.cell (p := ⟨b, off + k * 2, none⟩) hb).trans hya0
      have hyb := (HX.out.cell (p := ⟨b, off + k * 2 + 1, none⟩) hb).trans hyb0
      obtain ⟨⟨ya, yb⟩, hy⟩ : ∃ y, y = E.getD k ⟨0, 0⟩ := ⟨_, rfl⟩
      rw [← hy] at hya hyb
      have HN : Hid (flipD (E.take (k + 1)) x = flipD (E.take k) x ++ [flipA x ⟨ya, yb⟩]) := Lib.hid (by unfold flipD; rw [take_next hlt ⟨0, 0⟩, ← hy, List.map_append]; rfl)
      obtain ⟨L, hL⟩ : ∃ L, L = flipD (E.take k) x := ⟨_, rfl⟩
      have hLl : L.length ≤ 1000000 := by rw [hL]; unfold flipD; rw [List.length_map, List.length_take]; omega
      rw [← hL] at HO HN
      have hwr : w.heap.size ≤ wr.heap.size := HX.out.size
      clear hy hya0 hyb0 hL hq1
      by_cases g1 : ya = x
      · have q1 : (ya == x) = true := by simp [g1]
        have HF : Hid (flipA x ⟨ya, yb⟩ = ⟨yb, x⟩) := Lib.hid (by simp [flipA, g1])
        clear g1
        go_wp2_with ((at_builtin; refine wpList_append_sl (α := Arc) rfl (.tmp 22) (.tmp 24) rfl w.heap.size _ L rfl ?_ (.slice (some ⟨_, 0, none⟩) 1 1) [Arc.mk yb x] rfl ?_ ?_ ?_ ?_; exact ((HO.out.alloc _).alloc _); exact (Sl.litAt _ _ (by simp) [Arc.mk yb x] (by simp)); (first | omega | (simp; omega)); exact (by first | (simp; done) | (simp; omega)); intro v2 W2 ho2 ha2; have O2 := Lib.hid ho2; have y2 : Hid (Ext w W2) := Lib.hid (Below.trans ((HX.out.alloc _).alloc _) ha2.below); clear ho2 ha2))
        go_roundw
        case rel => exact ⟨k + 1, by omega, by go_num, Lib.hid (by rw [HN.out, HF.out]; exact O2.out), y2⟩
        case measure => simp [intOf]; omega
      · have q1 : (ya == x) = false := by simp [g1]
        have HF : Hid (flipA x ⟨ya, yb⟩ = ⟨ya, yb⟩) := Lib.hid (by simp [flipA, g1])
        clear g1
        go_wp2_with ((at_builtin; refine wpList_append_sl (α := Arc) rfl (.tmp 22) (.tmp 24) rfl w.heap.size _ L rfl ?_ (.slice (some ⟨_, 0, none⟩) 1 1) [Arc.mk ya yb] rfl ?_ ?_ ?_ ?_; exact ((HO.out.alloc _).alloc _); exact (Sl.litAt _ _ (by simp) [Arc.mk ya yb] (by simp)); (first | omega | (simp; omega)); exact (by first | (simp; done) | (simp; omega)); intro v2 W2 ho2 ha2; have O2 := Lib.hid ho2; have y2 : Hid (Ext w W2) := Lib.hid (Below.trans ((HX.out.alloc _).alloc _) ha2.below); clear ho2 ha2))
        go_roundw
        case rel => exact ⟨k + 1, by omega, by go_num, Lib.hid (by rw [HN.out, HF.out]; exact O2.out), y2⟩
        case measure => simp [intOf]; omega
    · have hkl : k = E.length := by omega
      have ho := HO.out
      rw [hkl, List.take_length] at ho
      have HO' := Lib.hid ho
      clear ho HO hkl
      go_wp2
      go_ret
      exact ⟨_, rfl, HO'.out, HX.out⟩

theorem leaves_tells (w : World) (C : Nat) (x : Int) (hC : C < w.heap.size) (h0 : w.cell? ⟨C, 0, none⟩ = some (.int .i64 x)) : Tells Arc.val w (.func (.func 44) #[] #[.pointer (some ⟨C, 0, none⟩)]) (fun y => decide (y.a = x)) :=
  ⟨44, _, rfl, enters_of Try.func44 (by kernel_rfl) rfl, fun W ⟨a, b⟩ hW => by
    have k0 : W.cell? ⟨C, 0, none⟩ = some (.int .i64 x) := (hW.cell (p := ⟨C, 0, none⟩) hC).trans h0
    have hC' : C < W.heap.size := Nat.lt_of_lt_of_le hC hW.size
    clear h0 hC hW
    change Calls Try.prog _ #[.agg #[.int .i64 a, .int .i64 b], .pointer (some ⟨C, 0, none⟩)] W _
    by_cases e1 : a = x
    · have g1 : (a == x) = true := by simp [e1]
      have E1 := Lib.hid e1
      clear e1
      go_enter Try.func44, Try.ntmps44
      go_wp2
      go_ret
      exact ⟨ret_bool (by simp [E1.out]), (by repeat (first | exact Ext.refl _ | assumption | refine Ext.alloc ?_ _ | refine Ext.drew ?_ | refine Ext.drewN ?_ _))⟩
    · have g1 : (a == x) = false := by simp [e1]
      have E1 := Lib.hid e1
      clear e1
      go_enter Try.func44, Try.ntmps44
      go_wp2
      go_ret
      exact ⟨ret_bool (by simp [E1.out]), (by repeat (first | exact Ext.refl _ | assumption | refine Ext.alloc ?_ _ | refine Ext.drew ?_ | refine Ext.drewN ?_ _))⟩⟩

set_option maxHeartbeats 1000000 in
theorem sinks_any (w : World) (N : Int) (v : Value) (E : List Arc) (h : Sl w v E) :
    Calls Try.prog 25 #[.int .i64 N, v] w (GivesOw w (sinksL N E)) := by
  obtain ⟨ao, c, rfl⟩ := h.len
  have HS := Lib.hid h
  clear h
  by_cases ok : OkD N E
  · have HC := Lib.hid (chkD_of ok)
    have h0 := ok.n0
    have h64 := ok.n64
    obtain ⟨n, rfl⟩ := Int.eq_ofNat_of_zero_le h0
    have HR : Hid (sinksL (n : Int) E = (upto n).filter (isSink E)) := Lib.hid (by unfold sinksL; rw [if_pos (okD_iff.2 ok)]; rfl)
    have hn64 : n ≤ 64 := by omega
    have hmf : ∀ (fn : Fn) (first cap : Array Value) (w : World), (Instr.makeFunc fn first cap).run Try.prog w = .ok (.func fn first cap) w := fun _ _ _ _ => rfl
    clear ok
    go_enter Try.func25, Try.ntmps25
    go_wp2_with (first
      | (go_at_call 18; refine (check_any _ _ _ E (HS.out.ext (by repeat (first | exact Ext.refl _ | assumption | refine Ext.alloc ?_ _ | refine Ext.drew ?_ | refine Ext.drewN ?_ _))) 0 HC.out).mono ?_; rintro e w1 ⟨rfl, x1⟩))
    go_loopw [5, 12] (fun q i wr => ∃ k : Nat, k ≤ n ∧ i = .int .i64 k ∧ Hid (Ow wr w.heap.size q ((upto k).filter (isSink E))) ∧ Hid (Ext w wr)) (fun _ i _ => n - (intOf i).toNat)
    case atStart => exact ⟨0, Nat.zero_le _, rfl, Lib.hid (Ow.nil _ _), Lib.hid x1⟩
    case round =>
      obtain ⟨k, hk, rfl, HO, HX⟩ := hrel
      by_cases hlt : k < n
      · obtain ⟨L, hL⟩ : ∃ L, L = (upto k).filter (isSink E) := ⟨_, rfl⟩
        have hLl : L.length ≤ 1000000 := by
          have := List.length_filter_le (isSink E) (upto k)
          rw [← hL, upto_length] at this
          omega
        have HN : Hid ((upto (k + 1)).filter (isSink E) = L ++ (if isSink E (k : Int) = true then [(k : Int)] else [])) := Lib.hid (by rw [upto_succ, List.filter_append, ← hL]; simp [List.filter_cons])
        rw [← hL] at HO
        have hwr : w.heap.size ≤ wr.heap.size := HX.out.size
        obtain ⟨s, hs⟩ : ∃ s, (E.any fun y => decide (y.a = (k : Int))) = s := ⟨_, rfl⟩
        have HSK : Hid (isSink E (k : Int) = !s) := Lib.hid (by unfold isSink; rw [hs])
        have HA := Lib.hid hs
        have HW : Hid (∀ W, Ext (wr.alloc (.cells #[.int .i64 (k : Int)] 3)) W → W.cell? ⟨wr.heap.size, 0, none⟩ = some (.int .i64 (k : Int))) := Lib.hid fun W hW => cell_at W hW rfl
        have HT : Hid (Tells Arc.val (wr.alloc (.cells #[.int .i64 (k : Int)] 3)) (.func (.func 44) #[] #[.pointer (some ⟨wr.heap.size, 0, none⟩)]) (fun y => decide (y.a = (k : Int)))) := Lib.hid (leaves_tells _ _ _ (by simp) (cell_at _ (Ext.refl _) rfl))
        clear hL hs
        cases s
        all_goals
          go_wp2_with (first
            | (go_at_call 43; refine (containsFunc_a _ _ _ E _ (HS.out.ext (HX.out.alloc _)) HT.out _ HA.out).mono ?_; rintro e w2 ⟨rfl, x2⟩; have y2 := Lib.hid ((HX.out.alloc (.cells #[.int .i64 (k : Int)] 3)).trans x2); have p0 := HW.out w2 x2; have O2 := Lib.hid (HO.out.ext (((Ext.refl wr).alloc _).trans x2)); have hs2 : w.heap.size ≤ w2.heap.size := y2.out.size)
            | (at_builtin; refine wpList_append_sl (α := Int) rfl (.tmp 19) (.tmp 21) rfl w.heap.size _ L rfl ?_ (.slice (some ⟨_, 0, none⟩) 1 1) [(k : Int)] rfl ?_ ?_ ?_ ?_; exact (O2.out.alloc _); exact (Sl.litAt _ _ (by simp) [(k : Int)] (by simp)); (first | omega | (simp; omega)); exact (by first | (simp; done) | (simp; omega)); intro v3 W3 ho3 ha3; have O3 := Lib.hid ho3; have y3 : Hid (Ext w W3) := Lib.hid (Below.trans (y2.out.alloc _) ha3.below); clear ho3 ha3))
          go_roundw
          case rel => exact ⟨k + 1, by omega, by go_num, Lib.hid (by rw [HN.out, HSK.out]; first | exact O3.out | simpa using O2.out), by first | exact y3 | exact y2⟩
          case measure => simp [intOf]; omega
      · have hkl : k = n := by omega
        have ho := HO.out
        rw [hkl, ← HR.out] at ho
        have HO' := Lib.hid ho
        clear ho HO hkl
        go_wp2
        go_ret
        exact ⟨_, rfl, HO'.out, HX.out⟩
  · have HC := Lib.hid (chkD_not ok)
    have HR : Hid (sinksL N E = []) := Lib.hid (by unfold sinksL; rw [if_neg (fun e => ok (okD_iff.1 e))])
    clear ok
    go_enter Try.func25, Try.ntmps25
    go_wp2_with (first
      | (go_at_call 18; refine (check_any _ _ _ E (HS.out.ext (by repeat (first | exact Ext.refl _ | assumption | refine Ext.alloc ?_ _ | refine Ext.drew ?_ | refine Ext.drewN ?_ _))) 40 HC.out).mono ?_; rintro e w1 ⟨rfl, x1⟩))
    go_ret
    exact ⟨_, rfl, by rw [HR.out]; exact Ow.nil _ _, x1⟩

end Go.Proofs.Ythofgfdhcndpbaa
