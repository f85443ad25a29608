/- Layer 17 (mathematics): what a look at one session after another tells of a book. -/
import Derived.Test.YtgcnjkabpcbkgaaHM
namespace Go.Proofs.Ytgcnjkabpcbkgaa

theorem ss_at {l : List Int} : SS l ↔ ∀ k, 0 < k → k < l.length → l.getD (k - 1) 0 < l.getD k 0 := by
  constructor
  · intro h k h0 hk
    have h2 : SS (l.take (k + 1)) := List.Pairwise.sublist (List.take_sublist ..) h
    exact ((SS_take_succ (by omega) hk).1 h2).2
  · intro h
    have hs : ∀ k, k ≤ l.length → SS (l.take k) := by
      intro k
      induction k with
      | zero => intro _; exact SS_one (by simp)
      | succ k ih =>
        intro hk
        rcases Nat.eq_zero_or_pos k with h0 | h0
        · subst h0; exact SS_one (by simp; omega)
        · exact (SS_take_succ h0 (by omega)).2 ⟨ih (by omega), h k h0 (by omega)⟩
    have := hs l.length (Nat.le_refl _)
    rwa [List.take_length] at this
/-- what one number of a set of needs must be -/
def NeedAt (l : List Int) (k : Nat) : Prop := 0 ≤ l.getD k 0 ∧ (0 < k → l.getD (k - 1) 0 < l.getD k 0)
theorem need_at {l : List Int} : needH l = true ↔ (∀ k, k < l.length → NeedAt l k) ∧ l.length ≤ 64 := by
  unfold needH
  simp only [Bool.and_eq_true, decide_eq_true_eq, List.all_eq_true]
  rw [ss_at]
  constructor
  · rintro ⟨⟨h1, h2⟩, h3⟩
    refine ⟨fun k hk => ⟨?_, fun h0 => h1 k h0 hk⟩, h3⟩
    refine h2 _ ?_
    rw [List.getD_eq_getElem?_getD, List.getElem?_eq_getElem hk]
    exact List.getElem_mem hk
  · rintro ⟨h1, h3⟩
    refine ⟨⟨fun k h0 hk => (h1 k hk).2 h0, fun x hx => ?_⟩, h3⟩
    obtain ⟨k, hk, rfl⟩ := List.getElem_of_mem hx
    have := (h1 k hk).1
    rwa [List.getD_eq_getElem?_getD, List.getElem?_eq_getElem hk] at this
/-- what one session of a book must be -/
structure SeAt (b : Bk) (k : Nat) (s : Se) : Prop where
  lo : 1 ≤ s.id
  hi : s.id ≤ b.1
  rise : 0 < k → ∀ t, b.2[k - 1]? = some t → t.id < s.id
  need : needH s.need = true
  age : 0 ≤ s.age
  way : (s.state = 0 ∧ s.age = 0) ∨ (s.state = 1 ∧ k = 0)
theorem chk_at {b : Bk} : chkH b = true ↔ 0 ≤ b.1 ∧ b.2.length ≤ 8 ∧ ∀ k s, b.2[k]? = some s → SeAt b k s := by
  rw [okH_iff]
  constructor
  · intro h
    refine ⟨h.last, h.few, fun k s hs => ?_⟩
    obtain ⟨hk, e⟩ := List.getElem?_eq_some_iff.1 hs
    have hm : s ∈ b.2 := e ▸ List.getElem_mem hk
    obtain ⟨e1, e2, e3, e4⟩ := h.each s hm
    refine ⟨e1, e2, fun h0 t ht => ?_, e3, e4, ?_⟩
    · obtain ⟨hj, e'⟩ := List.getElem?_eq_some_iff.1 ht
      have hr := h.rise
      unfold SS at hr
      rw [List.pairwise_map, List.pairwise_iff_getElem] at hr
      have := hr (k - 1) k hj hk (by omega)
      rwa [e, e'] at this
    · rcases Nat.eq_zero_or_pos k with h0 | h0
      · rcases h.ways hm with q | q
        · exact .inl q
        · exact .inr ⟨q, h0⟩
      · refine .inl (h.rest s ?_)
        obtain ⟨j, rfl⟩ : ∃ j, k = j + 1 := ⟨k - 1, by omega⟩
        exact List.mem_of_getElem? (i := j) (by rw [List.getElem?_drop, Nat.add_comm]; exact hs)
  · rintro ⟨h1, h2, h3⟩
    have each : ∀ s ∈ b.2, ∃ k, b.2[k]? = some s := fun s hs => by
      obtain ⟨k, hk, e⟩ := List.getElem_of_mem hs
      exact ⟨k, by rw [List.getElem?_eq_getElem hk, e]⟩
    refine ⟨h1, h2, ?_, fun s hs => ?_, fun s hs => ?_, fun s hs => ?_⟩
    · rw [ss_at]
      intro k h0 hk
      rw [List.length_map] at hk
      have hk1 : k - 1 < b.2.length := by omega
      have := (h3 k _ (List.getElem?_eq_getElem hk)).rise h0 _ (List.getElem?_eq_getElem hk1)
      simpa [List.getD_eq_getElem?_getD, List.getElem?_map, List.getElem?_eq_getElem hk, List.getElem?_eq_getElem hk1] using this
    · obtain ⟨k, hk⟩ := each s hs
      have := h3 k s hk
      exact ⟨this.lo, this.hi, this.need, this.age⟩
    · obtain ⟨j, hj, e⟩ := List.getElem_of_mem hs
      have hs2 : b.2[1 + j]? = some s := by
        rw [← List.getElem?_drop, List.getElem?_eq_getElem hj, e]
      rcases (h3 _ s hs2).way with q | q
      · exact q
      · omega
    · obtain ⟨k, hk⟩ := each s (List.mem_of_mem_take hs)
      rcases (h3 k s hk).way with q | q
      · exact .inl q
      · exact .inr q.1
/-- a session's place; -1 -/
def findH (l : List Se) (id : Int) : Int := match atH l id with | none => -1 | some k => (k : Int)
theorem findH_none {l : List Se} {id : Int} (h : ∀ (j : Nat) (s : Se), l[j]? = some s → s.id ≠ id) : findH l id = -1 := by
  have e : atH l id = none := atH_none.2 fun (s : Se) (hs : s ∈ l) => by
    obtain ⟨k, hk, e⟩ := List.getElem_of_mem hs
    exact h k s (by rw [List.getElem?_eq_getElem hk, e])
  unfold findH
  rw [e]
theorem findH_some {l : List Se} {id : Int} {k : Nat} {s : Se} (hs : l[k]? = some s) (hi : s.id = id) (h : ∀ (j : Nat) (t : Se), j < k → l[j]? = some t → t.id ≠ id) : atH l id = some k := by
  unfold atH
  obtain ⟨hk, e⟩ := List.getElem?_eq_some_iff.1 hs
  refine List.findIdx?_eq_some_iff_getElem.2 ⟨hk, by rw [e]; simpa using hi, fun j hj => ?_⟩
  have := h j _ hj (List.getElem?_eq_getElem (by omega))
  simpa using this
theorem findH_neg {l : List Se} {id : Int} : findH l id < 0 ↔ atH l id = none := by
  unfold findH
  cases atH l id with
  | none => simp
  | some k => simp
/-- few sessions, of few needs -/
def fewH (l : List Se) : Bool := (l.take 13).all (fun s => decide (s.need.length ≤ 70)) && decide (l.length ≤ 12)
theorem fewH_iff {l : List Se} : fewH l = true ↔ l.length ≤ 12 ∧ ∀ s ∈ l, s.need.length ≤ 70 := by
  unfold fewH
  simp only [Bool.and_eq_true, decide_eq_true_eq, List.all_eq_true]
  constructor
  · rintro ⟨h1, h2⟩
    exact ⟨h2, fun s hs => h1 s (by rw [List.take_of_length_le (by omega)]; exact hs)⟩
  · rintro ⟨h1, h2⟩
    exact ⟨fun s hs => h2 s (List.mem_of_mem_take hs), h1⟩
end Go.Proofs.Ytgcnjkabpcbkgaa
