/- Layer 17, the program: what is wrong with a session is told by a closure, session by session; whether a book may be. -/
import Derived.Test.YtgcnjkabpcbkgaaHP1
import Derived.Test.YtgcnjkabpcbkgaaX1
namespace Go.Proofs.Ytgcnjkabpcbkgaa
open Go.RowKit

def fitsH (l : List Int) : Bool := decide (l.length ≤ 64) && (decide (l.length = 0) || decide (0 ≤ l.getD 0 0))
theorem ss_nn {l : List Int} (h : SS l) (h0 : 0 ≤ l.getD 0 0) : ∀ x ∈ l, 0 ≤ x := by
  cases l with
  | nil => intro x hx; simp at hx
  | cons a t =>
    intro x hx
    have ha : 0 ≤ a := h0
    rcases List.mem_cons.1 hx with rfl | q
    · exact ha
    · have := (List.pairwise_cons.1 h).1 x q
      omega
theorem needH_fits (l : List Int) : needH l = (decide (SS l) && fitsH l) := by
  rw [Bool.eq_iff_iff]
  unfold needH fitsH
  simp only [Bool.and_eq_true, decide_eq_true_eq, List.all_eq_true, Bool.or_eq_true]
  constructor
  · rintro ⟨⟨h1, h2⟩, h3⟩
    refine ⟨h1, h3, ?_⟩
    cases l with
    | nil => exact .inl rfl
    | cons a t => exact .inr (h2 a (List.mem_cons_self ..))
  · rintro ⟨h1, h3, h2⟩
    refine ⟨⟨h1, ?_⟩, h3⟩
    rcases h2 with h2 | h2
    · rw [List.eq_nil_of_length_eq_zero h2]; intro x hx; simp at hx
    · exact ss_nn h1 h2
/-- what is wrong with a session behind the id a -/
def faultH (n a : Int) (s : Se) : Bool := !(decide (a < s.id) && decide (s.id ≤ n)) || (!decide (SS s.need) || (!fitsH s.need || (!waitH s && !((decide (s.state = 1) && decide (0 ≤ s.age)) && (a == 0)))))
def aheadH (L : List Se) : Nat → Int
  | 0 => 0
  | k + 1 => match L[k]? with | none => 0 | some s => s.id
def badH (b : Bk) (k : Nat) (s : Se) : Bool := faultH b.1 (aheadH b.2 k) s
theorem fault_iff {n a : Int} {s : Se} : faultH n a s = false ↔ a < s.id ∧ s.id ≤ n ∧ needH s.need = true ∧ ((s.state = 0 ∧ s.age = 0) ∨ (s.state = 1 ∧ 0 ≤ s.age ∧ a = 0)) := by
  rw [needH_fits]
  unfold faultH waitH
  simp only [Bool.or_eq_false_iff, Bool.not_eq_false', Bool.and_eq_true, decide_eq_true_eq, Bool.and_eq_false_iff, beq_iff_eq, and_assoc]
theorem bad_iff {b : Bk} : (∀ k s, b.2[k]? = some s → badH b k s = false) ↔ ∀ k s, b.2[k]? = some s → SeAt b k s := by
  have ah : ∀ (k : Nat) (t : Se), b.2[k]? = some t → aheadH b.2 (k + 1) = t.id := fun k t ht => by simp only [aheadH, ht]
  constructor
  · intro h k
    induction k with
    | zero =>
      intro s hs
      obtain ⟨h1, h2, h3, h4⟩ := fault_iff.1 (h 0 s hs)
      have h1' : (0 : Int) < s.id := h1
      refine ⟨by omega, h2, fun q => absurd q (Nat.lt_irrefl _), h3, ?_, ?_⟩
      · rcases h4 with ⟨_, q⟩ | ⟨_, q, _⟩
        · rw [q]; exact Int.le_refl _
        · exact q
      · rcases h4 with q | ⟨q, _, _⟩
        · exact .inl q
        · exact .inr ⟨q, rfl⟩
    | succ k ih =>
      intro s hs
      have hk : k < b.2.length := by have := (List.getElem?_eq_some_iff.1 hs).1; omega
      have hg := List.getElem?_eq_getElem hk
      have hi := (ih _ hg).lo
      obtain ⟨h1, h2, h3, h4⟩ := fault_iff.1 (h (k + 1) s hs)
      rw [ah k _ hg] at h1 h4
      refine ⟨by omega, h2, fun _ t ht => ?_, h3, ?_, ?_⟩
      · rw [show k + 1 - 1 = k from rfl, hg] at ht
        simp only [Option.some.injEq] at ht
        rw [← ht]; exact h1
      · rcases h4 with ⟨_, q⟩ | ⟨_, q, _⟩
        · rw [q]; exact Int.le_refl _
        · exact q
      · rcases h4 with q | ⟨_, _, q⟩
        · exact .inl q
        · omega
  · intro h k s hs
    have q := h k s hs
    refine fault_iff.2 ⟨?_, q.hi, q.need, ?_⟩
    · cases k with
      | zero => have := q.lo; show (0 : Int) < s.id; omega
      | succ k =>
        have hk : k < b.2.length := by have := (List.getElem?_eq_some_iff.1 hs).1; omega
        have hg := List.getElem?_eq_getElem hk
        rw [ah k _ hg]
        exact q.rise (Nat.succ_pos _) _ hg
    · rcases q.way with e | ⟨e, e0⟩
      · exact .inl e
      · subst e0; exact .inr ⟨e, q.age, rfl⟩

set_option maxHeartbeats 2000000 in
theorem fits_any (W : World) (u : Value) (N : List Int) (h : Sl W u N) (t : Bool) (ht : fitsH N = t) :
    Calls Try.prog 48 #[u] W fun e W' => e = .returned (.bool t) ∧ Ext W W' := by
  rcases h.ints with ⟨rfl, ao, c, rfl⟩ | ⟨b, off, c, rfl, hc, hc63, hb, hpos, hcell⟩
  · have HF : Hid (true = t) := Lib.hid (by rw [← ht]; rfl)
    clear ht h
    go_enter Try.func48, Try.ntmps48
    go_wp2
    go_ret
    exact ⟨ret_bool HF.out, Ext.refl _⟩
  · have hlen : N.length ≤ 9223372036854775807 := by omega
    have q0 : W.cell? ⟨b, off, none⟩ = some (.int .i64 (N.getD 0 0)) := hcell 0 hpos
    obtain ⟨y, hy⟩ : ∃ y, y = N.getD 0 0 := ⟨_, rfl⟩
    rw [← hy] at q0
    obtain ⟨m, hm⟩ : ∃ m, m = N.length := ⟨_, rfl⟩
    have hm0 : ((m : Int) == 0) = false := by rw [beq_eq_false_iff_ne]; omega
    have hm1 : (0 : Int) < (m : Int) := by omega
    have hT : ((decide (m ≤ 64)) && decide (0 ≤ y)) = t := by rw [← ht, hm, hy]; unfold fitsH; rw [decide_eq_false (show ¬ N.length = 0 by omega)]; rfl
    rw [← hm] at hc hlen ⊢
    have HT := Lib.hid hT
    clear ht h hcell hy hm hT hpos
    by_cases h64 : (m : Int) ≤ 64
    · have e64 : decide (m ≤ 64) = true := decide_eq_true (by omega)
      rw [e64] at HT
      clear e64
      go_enter Try.func48, Try.ntmps48
      go_wp2
      go_ret
      exact ⟨ret_bool HT.out, Ext.refl _⟩
    · have e64 : decide (m ≤ 64) = false := decide_eq_false (by omega)
      rw [e64] at HT
      clear e64
      go_enter Try.func48, Try.ntmps48
      go_wp2
      go_ret
      exact ⟨ret_bool HT.out, Ext.refl _⟩
end Go.Proofs.Ytgcnjkabpcbkgaa
