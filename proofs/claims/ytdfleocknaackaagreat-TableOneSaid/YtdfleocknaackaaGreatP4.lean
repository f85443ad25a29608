/- Who is near whom. -/
import Derived.Test.YtdfleocknaackaaGreatMG9
import Derived.Test.YtdfleocknaackaaGreatS3
import Derived.Test.YtdfleocknaackaaGreatP3
namespace Go.Proofs.YtdfleocknaackaaGreat
open Go.RowKit

theorem Sl.edgesAt {w : World} {ao : Option Addr} {n c : Nat} {E : List Edge} (h : Sl w (.slice ao n c) E) {k : Nat} (hk : k < E.length) :
    ∃ b off, ao = some ⟨b, off, none⟩ ∧ n = E.length ∧ n ≤ c ∧ c ≤ 9223372036854775807 ∧ b < w.heap.size ∧ w.cell? ⟨b, off + k * 2, none⟩ = some (.int .i64 (E.getD k ⟨0, 0⟩).a) ∧ w.cell? ⟨b, off + k * 2 + 1, none⟩ = some (.int .i64 (E.getD k ⟨0, 0⟩).b) := by
  rcases h.edges with ⟨rfl, _⟩ | ⟨b, off, c', hv, h1, h2, h3, _, h4⟩
  · simp at hk
  · simp only [Value.slice.injEq] at hv
    obtain ⟨rfl, rfl, rfl⟩ := hv
    exact ⟨b, off, rfl, rfl, h1, h2, h3, (h4 k hk).1, (h4 k hk).2⟩
theorem Sl.intsAt {w : World} {ao : Option Addr} {n c : Nat} {E : List Int} (h : Sl w (.slice ao n c) E) {k : Nat} (hk : k < E.length) :
    ∃ b off, ao = some ⟨b, off, none⟩ ∧ n = E.length ∧ n ≤ c ∧ c ≤ 9223372036854775807 ∧ b < w.heap.size ∧ w.cell? ⟨b, off + k, none⟩ = some (.int .i64 (E.getD k 0)) := by
  rcases h.ints with ⟨rfl, _⟩ | ⟨b, off, c', hv, h1, h2, h3, _, h4⟩
  · simp at hk
  · simp only [Value.slice.injEq] at hv
    obtain ⟨rfl, rfl, rfl⟩ := hv
    exact ⟨b, off, rfl, rfl, h1, h2, h3, h4 k hk⟩

theorem near_tells (w : World) (C : Nat) (x : Int) (hC : C < w.heap.size) (h0 : w.cell? ⟨C, 0, none⟩ = some (.int .i64 x)) : Tells Edge.val w (.func (.func 121) #[] #[.pointer (some ⟨C, 0, none⟩)]) (hits x) :=
  ⟨121, _, rfl, enters_of Tryz.func121 (by kernel_rfl) rfl, fun W ⟨a, b⟩ hW => by
    have k0 : W.cell? ⟨C, 0, none⟩ = some (.int .i64 x) := (hW.cell (p := ⟨C, 0, none⟩) hC).trans h0
    have hC' : C < W.heap.size := Nat.lt_of_lt_of_le hC hW.size
    clear h0 hC hW
    change Calls Tryz.prog _ #[.agg #[.int .i64 a, .int .i64 b], .pointer (some ⟨C, 0, none⟩)] W _
    by_cases e1 : a = x
    · have g1 : (a == x) = true := by simp [e1]
      have E1 := Lib.hid g1
      clear e1
      go_enter Tryz.func121, Tryz.ntmps121
      go_wp2
      go_ret
      exact ⟨ret_bool (by simp only [hits, E1.out]; simp), (by repeat (first | exact Ext.refl _ | assumption | refine Ext.alloc ?_ _ | refine Ext.drew ?_ | refine Ext.drewN ?_ _))⟩
    · have g1 : (a == x) = false := by simp [e1]
      have E1 := Lib.hid g1
      clear e1
      go_enter Tryz.func121, Tryz.ntmps121
      go_wp2
      go_ret
      exact ⟨ret_bool (by simp only [hits, E1.out]; simp), (by repeat (first | exact Ext.refl _ | assumption | refine Ext.alloc ?_ _ | refine Ext.drew ?_ | refine Ext.drewN ?_ _))⟩⟩

set_option maxHeartbeats 1000000 in
theorem near_any (w : World) (N : Int) (v : Value) (E : List Edge) (x : Int) (h : Sl w v E) (ok : OkG N E) :
    Calls Tryz.prog 93 #[.agg #[.int .i64 N, v], .int .i64 x] w (GivesOw w (nearOf E x)) := by
  obtain ⟨ao, c, rfl⟩ := h.len
  have HC := Lib.hid (chk_of ok)
  have hfew := ok.few
  have hX : Ext w ((w.alloc (.cells #[.int .i64 N, .slice ao E.length c] 24)).alloc (.cells #[.int .i64 x] 3)) := ext_two w _ _
  have HS := Lib.hid (h.ext hX)
  have HK : Hid (∀ V, Ext ((w.alloc (.cells #[.int .i64 N, .slice ao E.length c] 24)).alloc (.cells #[.int .i64 x] 3)) V → (V.cell? ⟨w.heap.size, 0, none⟩ = some (.int .i64 N) ∧ V.cell? ⟨w.heap.size, 1, none⟩ = some (.slice ao E.length c)) ∧ V.cell? ⟨w.heap.size + 1, 0, none⟩ = some (.int .i64 x)) := Lib.hid fun V hV => by
    obtain ⟨hA, hB⟩ := box2 (hV.mono (by rw [size_alloc, size_alloc]; omega))
    exact ⟨⟨blk_cell hA 0 rfl, blk_cell hA 1 rfl⟩, blk_cell hB 0 rfl⟩
  clear h ok
  have hmf : ∀ (fn : Fn) (first cap : Array Value) (w : World), (Instr.makeFunc fn first cap).run Tryz.prog w = .ok (.func fn first cap) w := fun _ _ _ _ => rfl
  obtain ⟨K, hKd⟩ : ∃ K, K = E.filter (hits x) := ⟨_, rfl⟩
  have hKl : K.length ≤ 400 := by rw [hKd]; exact Nat.le_trans (List.length_filter_le _ _) hfew
  have HKd := Lib.hid hKd
  clear hKd
  go_enter Tryz.func93, Tryz.ntmps93
  go_wp2_with (first
    | (go_at_call 43; refine (check_any _ N _ E (HS.out.ext (by repeat (first | exact Ext.refl _ | assumption | refine Ext.alloc ?_ _ | refine Ext.drew ?_ | refine Ext.drewN ?_ _))) 0 HC.out).mono ?_; rintro e w1 ⟨rfl, x1⟩; obtain ⟨⟨p0, p1⟩, p2⟩ := HK.out w1 x1)
    | (go_at_call 120; refine (those_e _ N _ _ E _ (HS.out.ext (by repeat (first | exact Ext.refl _ | assumption | exact Hid.out (by assumption) | refine Ext.alloc ?_ _ | refine Ext.drew ?_ | refine Ext.drewN ?_ _ | refine Ext.trans ?_ (by assumption)))) (near_tells _ _ x (by have := x1.size; rw [size_alloc, size_alloc] at this; omega) p2) (by omega)).mono ?_; rintro e w2 ⟨v2, rfl, ho, x2⟩; rw [← HKd.out] at ho; have y2 := x1.trans x2; obtain ⟨ao2, c2, rfl⟩ := ho.sl.len; have O2 := Lib.hid ho.sl; obtain ⟨⟨r0, r1⟩, r2⟩ := HK.out w2 y2; clear ho))
  have hs2 : w.heap.size + 2 ≤ w2.heap.size := by have := y2.size; rw [size_alloc, size_alloc] at this; exact this
  go_loopw [5, 15] (fun q i wr => ∃ k : Nat, k ≤ K.length ∧ i = .int .i64 k ∧ Hid (Ow wr w2.heap.size q (endsOf (K.take k))) ∧ Hid (Ext w2 wr)) (fun _ i _ => K.length - (intOf i).toNat)
  case atStart => exact ⟨0, Nat.zero_le _, rfl, Lib.hid (Ow.nil _ _), Lib.hid (Ext.refl _)⟩
  case round =>
    obtain ⟨k, hk, rfl, HO, HX⟩ := hrel
    by_cases hlt : k < K.length
    · obtain ⟨b, off, hao, hn, hnc, hc63, hb, hya0, hyb0⟩ := O2.out.edgesAt hlt
      subst hao
      have hya := (HX.out.cell (p := ⟨b, off + k * 2, none⟩) hb).trans hya0
      have hyb := (HX.out.cell (p := ⟨b, off + k * 2 + 1, none⟩) hb).trans hyb0
      obtain ⟨⟨ya, yb⟩, hy⟩ : ∃ y, y = K.getD k ⟨0, 0⟩ := ⟨_, rfl⟩
      rw [← hy] at hya hyb
      have HN : Hid (endsOf (K.take (k + 1)) = endsOf (K.take k) ++ [ya, yb]) := Lib.hid (by rw [take_next hlt ⟨0, 0⟩, ← hy, endsOf_snoc])
      clear hy hya0 hyb0 hn
      obtain ⟨L, hL⟩ : ∃ L, L = endsOf (K.take k) := ⟨_, rfl⟩
      have hLl : L.length ≤ 1000 := by rw [hL, endsOf_length]; simp; omega
      rw [← hL] at HO HN
      clear hL
      have hwr : w2.heap.size ≤ wr.heap.size := HX.out.size
      go_wp2_with ((at_builtin; refine wpList_append_sl (α := Int) rfl (.tmp 19) (.tmp 24) rfl w2.heap.size _ L rfl ?_ (.slice (some ⟨_, 0, none⟩) 2 2) [ya, yb] rfl ?_ ?_ ?_ ?_; exact ((HO.out.alloc _).alloc _); exact (Sl.litAt _ _ (by simp) [ya, yb] (by simp)); (first | omega | (simp; omega)); exact (by first | (simp; done) | (simp; omega)); intro v3 W3 ho3 ha3; have O3 := Lib.hid ho3; have y3 : Hid (Ext w2 W3) := Lib.hid (Below.trans ((HX.out.alloc _).alloc _) ha3.below); clear ho3 ha3))
      go_roundw
      case rel => exact ⟨k + 1, by omega, by go_num, Lib.hid (by rw [HN.out]; exact O3.out), y3⟩
      case measure => simp [intOf]; omega
    · have hkl : k = K.length := by omega
      have ho := HO.out
      rw [hkl, List.take_length] at ho
      have HO' := Lib.hid ho
      clear ho HO hkl
      have hEl : (endsOf K).length ≤ 1000000 := by rw [endsOf_length]; omega
      obtain ⟨L, hL⟩ : ∃ L, L = endsOf K := ⟨_, rfl⟩
      have HL := Lib.hid hL
      rw [← hL] at HO' hEl
      clear hL
      have r2' := (HK.out wr (y2.trans HX.out)).2
      go_wp2_with (go_at_call 122; refine (setDel_any _ _ L x HO'.out.sl hEl).mono ?_; rintro e w4 ⟨v4, rfl, ho4, x4⟩; have O4 := Lib.hid ho4; clear ho4)
      go_ret
      have hsz : w.heap.size ≤ wr.heap.size := by have := HX.out.size; omega
      exact ⟨_, rfl, by unfold nearOf; rw [← HKd.out, ← HL.out]; exact O4.out.mono hsz, hX.trans (y2.trans (HX.out.trans x4))⟩

end Go.Proofs.YtdfleocknaackaaGreat
