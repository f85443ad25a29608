/- Layer 10's document: Come. -/
import Derived.Test.YtlakolkpfkakoaaGreatDoorMJ9
import Derived.Test.YtlakolkpfkakoaaGreatDoorMJ9B
namespace Go.Proofs.YtlakolkpfkakoaaGreatDoor
open Go.RowKit

set_option linter.unusedVariables false

theorem rCome_any (F : Nat → Prop) (w : World) (hF : ∀ k, F k → k < w.heap.size) (P : PipeS) (l0 l1 g0 g1 ws : SV) (m : Nat) (ok : P.Ok) (h : RP F w P l0 l1 g0 g1 ws m) (hm : m ≤ 5000) (two : P.net.n = 2) (s k : Int) (hg : (P.got s).length ≤ 100000) :
    Calls Tryz.prog 15 #[.agg (pcs P l0 l1 g0 g1 ws), .int .i64 s, .int .i64 k] w fun ev w' => ∃ v', ev = .returned (.tuple #[v', .string (P.comeB s k), .bool (P.comeY s k)]) ∧ RPipe F w' v' (P.come s k) (m + 1) ∧ Ext w w' := by
  by_cases ht : P.there s k = true
  · cases hsd : PipeS.side s
    · rw [PipeS.there_no ok hsd k] at ht
      cases ht
    · unfold PipeS.side at hsd
      simp only [Bool.or_eq_true, decide_eq_true_eq] at hsd
      rcases hsd with rfl | rfl
      · by_cases hw : whatN (P.net.look (1 - 0) 0 k) = 0
        · cases hto : P.e0.told (frOf (P.net.look (1 - 0) 0 k))
          · exact rComeF0n F w hF P l0 l1 g0 g1 ws m ok h hm two k ht hw hto
          · exact rComeF0y F w hF P l0 l1 g0 g1 ws m ok h hm two k ht hw hto hg
        · exact rComeBad0 F w hF P l0 l1 g0 g1 ws m ok h hm two k ht hw
      · by_cases hw : whatN (P.net.look (1 - 1) 1 k) = 0
        · cases hto : P.e1.told (frOf (P.net.look (1 - 1) 1 k))
          · exact rComeF1n F w hF P l0 l1 g0 g1 ws m ok h hm two k ht hw hto
          · exact rComeF1y F w hF P l0 l1 g0 g1 ws m ok h hm two k ht hw hto hg
        · exact rComeBad1 F w hF P l0 l1 g0 g1 ws m ok h hm two k ht hw
  · have ht0 : P.there s k = false := by simpa using ht
    cases hsd : PipeS.side s
    · exact rComeNo F w hF P l0 l1 g0 g1 ws m ok h hm two s k ht0 hsd
    · unfold PipeS.side at hsd
      simp only [Bool.or_eq_true, decide_eq_true_eq] at hsd
      rcases hsd with rfl | rfl
      · exact rComeNo0 F w hF P l0 l1 g0 g1 ws m ok h hm two k ht0
      · exact rComeNo1 F w hF P l0 l1 g0 g1 ws m ok h hm two k ht0
end Go.Proofs.YtlakolkpfkakoaaGreatDoor
