/- What the program's messages answer: a message's bytes. -/
import Derived.Test.YtffgphhmkghlnaaDoorMP4
namespace Go.Proofs.YtffgphhmkghlnaaDoor
open Go.RowKit

set_option linter.unusedVariables false

theorem high_two (n : Nat) (h : n < 65536) : highN n 2 = [n / 256, n % 256] := by
  simp only [highN]
  rw [show n / 256 ^ 1 % 256 = n / 256 by omega, show n / 256 ^ 0 % 256 = n % 256 by omega]

set_option maxHeartbeats 800000 in
theorem writeTwo_any (w : World) (B : Nat) (v : Value) (l : List Nat) (n : Nat) (hn : n < 65536) (h : Ow w B v (b8 l)) (hB : B ≤ w.heap.size) (hl : l.length ≤ 1000) :
    Calls Tryd.prog 19 #[v, .int .i64 (n : Int)] w fun e w' => ∃ v', e = .returned v' ∧ Ow w' B v' (b8 (l ++ highN n 2)) ∧ Below B w w' := by
  obtain ⟨ao, nn, c, rfl⟩ := h.sh
  have HO := Lib.hid h
  clear h
  have e1 : IntKind.u8.wrap ((n : Int) / 256) = ((n / 256 : Nat) : Int) := by rw [wrapB _ (by omega) (by omega)]; omega
  have e2 : IntKind.u8.wrap (n : Int) = ((n % 256 : Nat) : Int) := by simp [IntKind.wrap, IntKind.bits, IntKind.signed]
  have HH := Lib.hid (high_two n hn)
  obtain ⟨X, hX⟩ : ∃ X, X = n / 256 := ⟨_, rfl⟩
  obtain ⟨Y, hY⟩ : ∃ Y, Y = n % 256 := ⟨_, rfl⟩
  rw [← hX] at e1 HH
  rw [← hY] at e2 HH
  clear hX hY hn
  have hlen : (b8 l).length + 2 ≤ 100000000 := by rw [b8_length]; omega
  go_enter Tryd.func19, Tryd.ntmps19
  go_wp2_with ((at_builtin; refine wpList_append_sl (α := B8) rfl (.tmp 5) (.tmp 11) rfl B _ (b8 l) rfl ?_ (.slice (some ⟨_, 0, none⟩) 2 2) [B8.mk X, B8.mk Y] rfl ?_ ?_ ?_ ?_; exact (HO.out.alloc _); exact (Sl.litAt w _ rfl [B8.mk X, B8.mk Y] (show (2 : Nat) ≤ 1000000 by decide)); (first | omega | (simp; omega)); (rw [size_alloc]; omega); intro v2 W2 ho2 ha2; have O2 := Lib.hid ho2; have y2 : Hid (Below B w W2) := Lib.hid (Below.trans ((Below.refl B w).alloc hB _) ha2.below); obtain ⟨a2, n2, c2, rfl⟩ := ho2.sh; clear ho2 ha2))
  go_ret
  refine ⟨_, rfl, ?_, y2.out⟩
  have h2 := O2.out
  rw [HH.out, b8_append]
  exact h2

theorem cut_five {w : World} {B : Nat} {v : Value} {l : List Nat} (h : Ow w B v (b8 l)) (hl : l.length = 5) :
    ∃ g c, v = .slice (some ⟨g, 0, none⟩) 5 c ∧ 5 ≤ c ∧ c ≤ 9223372036854775807 ∧ ∀ n, n ≤ 5 → (convert 39 9 (.slice (some ⟨g, 0, none⟩) n c)).run Tryd.prog w = .ok (.string (textN (l.take n))) w := by
  have := text_cut h (by intro e; rw [e] at hl; cases hl)
  rwa [hl] at this

theorem lit_one (w : World) (K : Nat) : Ow (w.alloc (.cells #[.int .u8 (K : Int)] 5)) w.heap.size (.slice (some ⟨w.heap.size, 0, none⟩) 1 1) (b8 [K]) :=
  Ow.lit w w.heap.size (Nat.le_refl _) (b8 [K]) (show (1 : Nat) ≤ 1000000 by decide)

set_option maxRecDepth 100000 in
set_option maxHeartbeats 1600000 in
theorem put_good (w : World) (K E N : Nat) (hK : 1 ≤ K ∧ K ≤ 9) (hE : E < 65536) (hN : N < 65536) (hr : rightM ⟨K, E, N⟩ = true) :
    Calls Tryd.prog 9 #[.agg #[.int .i64 (K : Int), .int .i64 (E : Int), .int .i64 (N : Int)]] w fun ev w' => ev = .returned (.tuple #[.string (putMs ⟨K, E, N⟩), .int .i64 0]) ∧ Ext w w' := by
  have cR := Lib.hid (fun W => right_any W ⟨K, E, N⟩)
  rw [hr] at cR
  dsimp only at cR
  have cS := Lib.hid (fun W => size_any W (K : Int))
  have e1 : IntKind.u8.wrap (K : Int) = (K : Int) := wrapB _ (by omega) (by omega)
  obtain ⟨Z, hZ, hZ5⟩ : ∃ Z : Nat, sizeM (K : Int) = (Z : Int) ∧ Z ≤ 5 ∧ ([K] ++ highN E 2 ++ highN N 2).take Z = putM K E N := by
    by_cases h9 : K = 9
    · refine ⟨5, by rw [h9]; rfl, by omega, ?_⟩
      rw [List.take_of_length_le (by simp [highN_length])]
      unfold putM
      rw [if_pos h9]
      simp
    · refine ⟨3, by unfold sizeM; rw [if_neg (by omega), if_pos (by omega)]; rfl, by omega, ?_⟩
      rw [List.take_left' (by simp [highN_length])]
      unfold putM
      rw [if_neg h9]
      simp
  rw [hZ] at cS
  obtain ⟨hZ5, hT⟩ := hZ5
  have HT := Lib.hid hT
  have hL : ([K] ++ highN E 2 ++ highN N 2).length = 5 := by simp [highN_length]
  obtain ⟨L, hLL⟩ : ∃ L, L = [K] ++ highN E 2 ++ highN N 2 := ⟨_, rfl⟩
  rw [← hLL] at HT hL
  have HLL := Lib.hid hLL
  have z1 : (0 : Int) ≤ (Z : Int) := by omega
  clear hr hT hZ hLL hK
  go_enter Tryd.func9, Tryd.ntmps9
  go_wp2_with (first
    | (go_at_call 10; refine (cR.out _).mono ?_; rintro e w2 ⟨rfl, x2⟩; have hb2 := late_blk x2; have H2 := Lib.hid hb2; have Y2 := Lib.hid (Ext.trans ((Ext.refl w).alloc _) x2); obtain ⟨k3, k4⟩ := three_cells hb2; obtain ⟨j3, j4⟩ := three_cells (blk_alloc hb2 (.cells #[.int .u8 (K : Int)] 5)); have HO3 := Lib.hid (lit_one w2 K); clear x2 hb2))
  refine (writeTwo_any _ w2.heap.size _ [K] E hE HO3.out (by rw [size_alloc]; omega) (by simp)).mono ?_
  rintro e w4 ⟨v4, rfl, ho4, x4⟩
  have O4 := Lib.hid ho4
  have y4 : Below w2.heap.size w2 w4 := Below.trans ((Below.refl _ w2).alloc (Nat.le_refl _) _) x4
  have Y4 := Lib.hid y4
  obtain ⟨q3, q4⟩ := three_cells ((y4.block _ (blk_lt H2.out)).trans H2.out)
  obtain ⟨a4, n4, c4, rfl⟩ := ho4.sh
  clear ho4 x4 y4
  dsimp only
  go_wp2_with fail
  refine (writeTwo_any _ w2.heap.size _ ([K] ++ highN E 2) N hN O4.out Y4.out.size (by simp [highN_length])).mono ?_
  rintro e w5 ⟨v5, rfl, ho5, x5⟩
  rw [← HLL.out] at ho5
  have O5 := Lib.hid ho5
  have y5 : Below w2.heap.size w2 w5 := Below.trans Y4.out x5
  have Y5 := Lib.hid y5
  obtain ⟨q3, q4⟩ := three_cells ((y5.block _ (blk_lt H2.out)).trans H2.out)
  obtain ⟨g5, c5, rfl, hgc5, hgm5, hcv5⟩ := cut_five ho5 hL
  have HCV := Lib.hid (hcv5 Z (by omega))
  have hcv := HCV.out
  have zc : (Z : Int) ≤ (c5 : Int) := by omega
  clear ho5 x5 y5 hcv5
  dsimp only
  go_wp2_with (first
    | (go_at_call 20; refine (cS.out _).mono ?_; rintro ev w' ⟨rfl, rfl⟩))
  go_ret2
  refine ⟨?_, Below.trans Y2.out (Y5.out.mono Y2.out.size)⟩
  have e9 : putMs ⟨K, E, N⟩ = textN (L.take Z) := by rw [HT.out]; rfl
  rw [e9]
  rfl

set_option maxHeartbeats 800000 in
theorem put_bad (w : World) (m : Mg) (hr : rightM m = false) :
    Calls Tryd.prog 9 #[.agg #[.int .i64 m.k, .int .i64 m.e, .int .i64 m.n]] w fun ev w' => ev = .returned (.tuple #[.string ⟨#[]⟩, .int .i64 70]) ∧ Ext w w' := by
  have cR := Lib.hid (fun W => right_any W m)
  rw [hr] at cR
  clear hr
  go_enter Tryd.func9, Tryd.ntmps9
  go_wp2_with (first
    | (go_at_call 10; refine (cR.out _).mono ?_; rintro e w2 ⟨rfl, x2⟩; have Y2 := Lib.hid (Ext.trans ((Ext.refl w).alloc _) x2); obtain ⟨k3, k4⟩ := three_cells (late_blk x2); clear x2))
  go_ret2
  exact ⟨rfl, Y2.out⟩

theorem put_any (w : World) (m : Mg) :
    Calls Tryd.prog 9 #[.agg #[.int .i64 m.k, .int .i64 m.e, .int .i64 m.n]] w fun ev w' => ev = .returned (.tuple #[.string (putF m), .int .i64 (putE m : Nat)]) ∧ Ext w w' := by
  obtain ⟨k, e, n⟩ := m
  unfold putF putE
  by_cases hr : rightM ⟨k, e, n⟩ = true
  · rw [if_pos hr, if_pos hr]
    obtain ⟨h1, h2, h3, h4⟩ := rightM_spec.1 hr
    dsimp only at h1 h2 h3 h4
    obtain ⟨K, rfl⟩ : ∃ K : Nat, k = (K : Int) := ⟨k.toNat, by omega⟩
    obtain ⟨E, rfl⟩ : ∃ E : Nat, e = (E : Int) := ⟨e.toNat, by omega⟩
    obtain ⟨N, rfl⟩ : ∃ N : Nat, n = (N : Int) := ⟨n.toNat, by omega⟩
    exact put_good w K E N (by omega) (by omega) (by omega) hr
  · rw [if_neg hr, if_neg hr]
    exact put_bad w ⟨k, e, n⟩ (by simpa using hr)
end Go.Proofs.YtffgphhmkghlnaaDoor
