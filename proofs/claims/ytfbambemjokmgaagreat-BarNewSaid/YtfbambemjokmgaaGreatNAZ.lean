/- Texts of this seat. -/
import Derived.Test.YtfbambemjokmgaaGreatNAV
namespace Go.Proofs.YtfbambemjokmgaaGreat
open Go.RowKit
section
variable {N : Int} {E : List Edge} {ds : List Dn} {ms : List Ml}
theorem GoodE.sm (ok : OkG N E) (h : GoodE N E ds ms) : Sm ds ms := by
  have hc := h.chk ok
  have hlen := h.len
  refine ⟨by have := ok.n64; omega, fun d hd => ?_, ?_⟩
  · obtain ⟨A, hA⟩ := List.getElem?_of_mem hd
    have := chk_diner hc hA
    unfold dnOk headD at this
    simp only [Bool.and_eq_true, decide_eq_true_eq] at this
    omega
  · obtain ⟨X, P, rfl, ht, hr⟩ := h
    have q1 : ∀ e ∈ E.map (fun e => (e.a.toNat, e.b.toNat)), e.1 < N.toNat ∧ e.2 ∈ nbE N E e.1 := fun e he => by
      obtain ⟨x, hx, rfl⟩ := List.mem_map.1 he
      obtain ⟨i, k, rfl, hi, hk, h1, h2⟩ := edge_nb ok hx
      exact ⟨hi, h1⟩
    have q2 : ∀ i k, i < N.toNat → k ∈ nbE N E i → (i, k) ∈ E.map (fun e => (e.a.toNat, e.b.toNat)) ∨ (k, i) ∈ E.map (fun e => (e.a.toNat, e.b.toNat)) := fun i k hi hk => by
      have hm := (mem_nbE.1 hk).2
      rcases Nat.lt_or_ge i k with hik | hik
      · left
        have : btw (i : Int) (k : Int) = ⟨i, k⟩ := by simp only [btw, Edge.mk.injEq]; omega
        rw [this] at hm
        exact List.mem_map.2 ⟨_, hm, rfl⟩
      · right
        have : btw (i : Int) (k : Int) = ⟨k, i⟩ := by simp only [btw, Edge.mk.injEq]; omega
        rw [this] at hm
        exact List.mem_map.2 ⟨_, hm, rfl⟩
    have := (ht.mailFew q1 q2).1
    rw [List.length_map] at this
    have := ok.few
    omega
end
end Go.Proofs.YtfbambemjokmgaaGreat
