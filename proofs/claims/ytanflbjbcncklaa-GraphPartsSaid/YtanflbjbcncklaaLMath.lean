/- What the laws of changes rest on (mathematics). -/
import Derived.Test.YtanflbjbcncklaaL3
namespace Go.Proofs.Ytanflbjbcncklaa

theorem add0_iff {N : Int} {E : List Edge} {a b : Int} : addR N E a b = 0 ↔ OkG N E ∧ badEnds N a b = false ∧ btw a b ∉ E ∧ E.length ≠ 400 := by
  unfold addR
  by_cases ho : OkG N E
  · rw [ends_ok ho]
    cases hd : badEnds N a b with
    | true => simp
    | false =>
      simp only [Bool.false_eq_true, if_false, if_true]
      constructor
      · intro h
        by_cases hm : btw a b ∈ E
        · rw [if_pos hm] at h; omega
        · rw [if_neg hm] at h
          by_cases hl : E.length = 400
          · rw [if_pos hl] at h; omega
          · exact ⟨ho, trivial, hm, hl⟩
      · rintro ⟨_, _, hm, hl⟩
        rw [if_neg hm, if_neg hl]
  · rw [ends_bad ho]
    constructor
    · intro h; simp at h
    · intro h; exact absurd h.1 ho
theorem rem0_iff {N : Int} {E : List Edge} {a b : Int} : remR N E a b = 0 ↔ OkG N E ∧ badEnds N a b = false ∧ btw a b ∈ E := by
  unfold remR
  by_cases ho : OkG N E
  · rw [ends_ok ho]
    cases hd : badEnds N a b with
    | true => simp
    | false =>
      simp only [Bool.false_eq_true, if_false, if_true]
      constructor
      · intro h
        by_cases hm : btw a b ∈ E
        · exact ⟨ho, trivial, hm⟩
        · rw [if_neg hm] at h; omega
      · rintro ⟨_, _, hm⟩
        rw [if_pos hm]
  · rw [ends_bad ho]
    constructor
    · intro h; simp at h
    · intro h; exact absurd h.1 ho
theorem bad_iff {N a b : Int} : badEnds N a b = false ↔ a ≠ b ∧ 0 ≤ a ∧ 0 ≤ b ∧ a < N ∧ b < N := by
  simp only [badEnds, Bool.or_eq_false_iff, decide_eq_false_iff_not]
  omega
theorem ok_ins {N : Int} {E : List Edge} {a b : Int} (ok : OkG N E) (hb : badEnds N a b = false) (hx : btw a b ∉ E) (hl : E.length < 400) : OkG N (insE (btw a b) E) := by
  have hb := bad_iff.1 hb
  refine ⟨ok.n0, ok.n64, by rw [length_insE]; omega, fun e he => ?_, rises_insE ok.rise hx⟩
  rcases mem_insE.1 he with rfl | he
  · simp only [btw]; omega
  · exact ok.each e he
theorem filter_ins {E : List Edge} {x : Edge} (h : Rises E) (hx : x ∉ E) : (insE x E).filter (fun e => e != x) = E := by
  refine rises_ext (rises_filter (rises_insE h hx) _) h fun z => ?_
  rw [List.mem_filter, mem_insE]
  constructor
  · rintro ⟨rfl | h, hz⟩
    · simp at hz
    · exact h
  · intro hz
    exact ⟨.inr hz, by simp; intro e; exact hx (e ▸ hz)⟩
theorem ins_comm {E : List Edge} {x y : Edge} (h : Rises E) (hx : x ∉ E) (hy : y ∉ E) (hxy : x ≠ y) : insE y (insE x E) = insE x (insE y E) := by
  refine rises_ext (rises_insE (rises_insE h hx) fun hm => ?_) (rises_insE (rises_insE h hy) fun hm => ?_) fun z => ?_
  · rcases mem_insE.1 hm with e | e
    · exact hxy e.symm
    · exact hy e
  · rcases mem_insE.1 hm with e | e
    · exact hxy e
    · exact hx e
  · rw [mem_insE, mem_insE, mem_insE, mem_insE]
    constructor
    · rintro (h | h | h) <;> simp [h]
    · rintro (h | h | h) <;> simp [h]

theorem says_few {N : Int} {E : List Edge} {a b N' : Int} {E' : List Edge} {r : Int} (h : AddSays N E a b N' E' r) (hl : E.length ≤ 60) : E'.length ≤ 61 := by
  by_cases hr : r = 0
  · rw [(h.yes hr).2, length_insE]; omega
  · rw [(h.no hr).2]; simp

theorem none_add {d e : Int} : addR 0 [] d e ≠ 0 := fun h => by
  have := bad_iff.1 (add0_iff.1 h).2.1
  omega
/-- Both orders come to the same. -/
theorem order_key {N : Int} {E : List Edge} {a b d e N1 N2 N3 N4 : Int} {E1 E2 E3 E4 : List Edge} (hl : E.length ≤ 60) (h1 : AddSays N E a b N1 E1 (addR N E a b)) (h2 : AddSays N1 E1 d e N2 E2 (addR N1 E1 d e))
    (h3 : AddSays N E d e N3 E3 (addR N E d e)) (h4 : AddSays N3 E3 a b N4 E4 (addR N3 E3 a b)) :
    (addR N E a b = 0 ∧ addR N1 E1 d e = 0 ∧ addR N E d e = 0 ∧ addR N3 E3 a b = 0 ∧ N2 = N4 ∧ E2 = E4 ∧ E2.length = E.length + 2) ∨
    ((addR N E a b ≠ 0 ∨ (addR N E a b = 0 ∧ addR N1 E1 d e ≠ 0)) ∧ (addR N E d e ≠ 0 ∨ (addR N E d e = 0 ∧ addR N3 E3 a b ≠ 0))) := by
  have step : ∀ {a b d e M : Int} {F : List Edge}, AddSays N E a b M F (addR N E a b) → addR N E a b = 0 → (addR M F d e = 0 ↔ (OkG N E ∧ badEnds N a b = false ∧ btw a b ∉ E) ∧ badEnds N d e = false ∧ btw d e ∉ E ∧ btw d e ≠ btw a b) := by
    intro a b d e M F hs h0
    obtain ⟨rfl, rfl⟩ := hs.yes h0
    obtain ⟨ok, hb, hm, _⟩ := add0_iff.1 h0
    rw [add0_iff]
    constructor
    · rintro ⟨_, h2, h3, _⟩
      exact ⟨⟨ok, hb, hm⟩, h2, fun hc => h3 (mem_insE.2 (.inr hc)), fun hc => h3 (mem_insE.2 (.inl hc))⟩
    · rintro ⟨_, h2, h3, h4⟩
      exact ⟨ok_ins ok hb hm (by omega), h2, fun hc => (mem_insE.1 hc).elim h4 h3, by rw [length_insE]; omega⟩
  by_cases r1 : addR N E a b = 0
  · by_cases r2 : addR N1 E1 d e = 0
    · obtain ⟨⟨ok, hb, hm⟩, hb2, hm2, hne⟩ := (step h1 r1).1 r2
      have r3 : addR N E d e = 0 := add0_iff.2 ⟨ok, hb2, hm2, by omega⟩
      have r4 : addR N3 E3 a b = 0 := (step h3 r3).2 ⟨⟨ok, hb2, hm2⟩, hb, hm, fun e => hne e.symm⟩
      obtain ⟨n1, e1⟩ := h1.yes r1
      obtain ⟨n2, e2⟩ := h2.yes r2
      obtain ⟨n3, e3⟩ := h3.yes r3
      obtain ⟨n4, e4⟩ := h4.yes r4
      refine .inl ⟨r1, r2, r3, r4, by rw [n2, n1, n4, n3], ?_, ?_⟩
      · rw [e2, e1, e4, e3, ins_comm ok.rise hm hm2 (fun e => hne e.symm)]
      · rw [e2, e1, length_insE, length_insE]
    · refine .inr ⟨.inr ⟨r1, r2⟩, ?_⟩
      by_cases r3 : addR N E d e = 0
      · refine .inr ⟨r3, fun r4 => r2 ?_⟩
        obtain ⟨⟨ok, hb, hm⟩, hb2, hm2, hne⟩ := (step h3 r3).1 r4
        exact (step h1 r1).2 ⟨⟨ok, hb2, hm2⟩, hb, hm, fun e => hne e.symm⟩
      · exact .inl r3
  · refine .inr ⟨.inl r1, ?_⟩
    by_cases r3 : addR N E d e = 0
    · refine .inr ⟨r3, fun r4 => r1 ?_⟩
      obtain ⟨⟨ok, hb, hm⟩, hb2, hm2, hne⟩ := (step h3 r3).1 r4
      exact add0_iff.2 ⟨ok, hb2, hm2, by omega⟩
    · exact .inl r3

end Go.Proofs.Ytanflbjbcncklaa
