/- Texts of this seat. -/
import Derived.Test.YtfbambemjokmgaaGreatNBL
namespace Go.Proofs.YtfbambemjokmgaaGreat
theorem tbl_few : (tbl.all fun _ v => Nat.ble v 10) = true := by kernel_rfl
theorem Ed.left_few {s : Ed} (h : s.ok = true) : 1 ≤ s.left ∧ s.left ≤ 11 := by
  obtain ⟨v, hv, _⟩ := s.facts h
  have := Nat.le_of_ble_eq_true (Tr.all_get (p := fun _ v => Nat.ble v 10) tbl_few hv)
  omega
section
variable {n : Nat} {nb : Nat → List Nat} {ep : Int} {X : Nat → Nat → Sd} {P T : Nat → Int} {N : Nat → List Int} {ms : List Ml} {i : Nat}
theorem BB.bits (h : BB n nb ep X P T N ms) (hi : i < n) : eK nb X P T i = false ∧ drK nb X P T N i = false ∧ pK P T i = P i ∧ ∀ k, k ∈ nb i → XO nb X P T N i i k = X i k := by
  have hd := h.calm i hi
  rw [once_dk nb X P T N i (h.c.hop hi)] at hd
  have hP : PO nb X P T i i = P i := congrArg Dk.phase hd
  have hT : TO nb X P T N i i = T i := congrArg Dk.thirst hd
  have hS : (nb i).map (XO nb X P T N i i) = (nb i).map (X i) := congrArg Dk.sides hd
  have he : eK nb X P T i = false := by
    cases e : eK nb X P T i
    · rfl
    · rw [PO_i, e, if_pos rfl] at hP
      unfold eK eats at e
      rw [Bool.and_eq_true, decide_eq_true_eq] at e
      have e1 := e.1
      unfold pK turnK at e1
      rw [← hP] at e1
      split at e1
      · omega
      · split at e1 <;> omega
  refine ⟨he, ?_, ?_, fun k hk => List.map_inj_left.1 hS k hk⟩
  · cases e : drK nb X P T N i
    · rfl
    · rw [TO_i, e, if_pos rfl] at hT
      unfold drK at e
      rw [Bool.and_eq_true, decide_eq_true_eq] at e
      omega
  · rw [PO_i, he, if_neg (by simp)] at hP
    exact hP
theorem turn_false (t p : Int) : turnK t false p = if t = 1 ∧ p = 0 then 1 else if t ≠ 1 ∧ p = 2 then 0 else p := by unfold turnK; simp
theorem BB.phases (h : BB n nb ep X P T N ms) (hi : i < n) : ¬ (T i = 1 ∧ P i = 0) ∧ ¬ (T i ≠ 1 ∧ P i = 2) := by
  have hp := (h.bits hi).2.2.1
  unfold pK at hp
  rw [turn_false] at hp
  split at hp
  · omega
  · split at hp <;> omega
theorem BB.lacks (h : BB n nb ep X P T N ms) (hi : i < n) (ht : T i = 1) : ∃ k : Nat, k ∈ nb i ∧ (k : Int) ∈ N i ∧ (X i k).bottle = false := by
  obtain ⟨_, hd, _, hx⟩ := h.bits hi
  unfold drK at hd
  rw [ht, decide_eq_true rfl, Bool.true_and, Bool.not_eq_false', List.map_congr_left hx] at hd
  unfold missB at hd
  rw [List.any_eq_true] at hd
  obtain ⟨s, hs, hq⟩ := hd
  obtain ⟨k, hk, rfl⟩ := List.mem_map.1 hs
  rw [Bool.and_eq_true] at hq
  refine ⟨k, hk, ?_, by simpa using hq.2⟩
  have := hq.1
  unfold needsB at this
  rw [(h.c.pr i k hi hk).1, decide_eq_true_eq] at this
  exact this
theorem BB.kept (hn : NB n nb) (h : BB n nb ep X P T N []) (hi : i < n) (ht : T i = 1) {k : Nat} (hk : k ∈ nb i) (hN : (k : Int) ∈ N i) (hb : (X i k).bottle = false) : (i : Int) ∈ N k ∧ (T k = 2 ∨ (T k = 1 ∧ (X k i).fork = true)) := by
  have hG := Ed.good (h.edge i k hi hk)
  obtain ⟨b1, b2, b3⟩ := hn.back i k hi hk
  have hq := hG.bot (h.still hn hi hk) rfl rfl (by show (T i).toNat = 1; rw [ht]; rfl) (by show decide ((k : Int) ∈ N i) = true; rw [decide_eq_true_eq]; exact hN) hb
  have e1 : decide ((i : Int) ∈ N k) = true := hq.1
  have e2 : (T k).toNat = 2 ∨ ((T k).toNat = 1 ∧ (X k i).fork = true) := hq.2
  refine ⟨by simpa using e1, ?_⟩
  rcases e2 with e | ⟨e, e'⟩
  · exact .inl (by omega)
  · exact .inr ⟨by omega, e'⟩
theorem BB.noFork (h : BB n nb ep X P T N ms) (hi : i < n) (hp : P i = 1) : ∃ k : Nat, k ∈ nb i ∧ (X i k).fork = false := by
  obtain ⟨he, _, hpk, hx⟩ := h.bits hi
  unfold eK eats at he
  rw [hpk, hp, decide_eq_true rfl, Bool.true_and, List.all_eq_false] at he
  obtain ⟨s, hs, hf⟩ := he
  unfold fireSs at hs
  rw [List.map_map] at hs
  obtain ⟨k, hk, rfl⟩ := List.mem_map.1 hs
  refine ⟨k, hk, ?_⟩
  have hf : (fireS1 1 (X i k)).fork = false := by simpa using hf
  rw [← hx k hk, XO_i, hpk, hp]
  unfold onceS
  rw [(bottleS_keeps _ _ _).2.2.2.1]
  unfold fireE
  split
  · exact hf
  · exact hf
theorem BB.eater (hn : NB n nb) (h : BB n nb ep X P T N []) (hr : NoR n nb X P T N []) : ∀ i, i < n → P i = 1 → ∃ k, k < n ∧ P k = 2 := by
  obtain ⟨r, hr⟩ := hr
  have key : ∀ (t i : Nat), r i < t → i < n → P i = 1 → ∃ k, k < n ∧ P k = 2 := by
    intro t
    induction t with
    | zero => intro i h0; omega
    | succ t ih =>
      intro i hri hi hp
      obtain ⟨k, hk, hf⟩ := h.noFork hi hp
      obtain ⟨b1, b2, b3⟩ := hn.back i k hi hk
      have hG := Ed.good (h.edge i k hi hk)
      have hq := hG.prog (h.still hn hi hk) rfl rfl (by show (P i).toNat = 1; rw [hp]; rfl) hf
      have hq : (P k).toNat = 2 ∨ ((P k).toNat = 1 ∧ (eg X P T N [] i k).ah = false) := hq
      rcases hq with e | ⟨e, e'⟩
      · exact ⟨k, b1, by omega⟩
      · have ha : (eg X P T N [] k i).ah = true := by rw [← eg_swap, hG.anti, e']; rfl
        have := hr k i b1 b3 ha
        exact ih k (by omega) b1 (by omega)
  exact fun i hi hp => key (r i + 1) i (Nat.lt_succ_self _) hi hp
theorem BB.progress (hn : NB n nb) (h : BB n nb ep X P T N []) (hr : NoR n nb X P T N []) (hi : i < n) (ht : T i = 1) : ∃ k, k < n ∧ T k = 2 := by
  obtain ⟨k, hk, hk2⟩ : ∃ k, k < n ∧ P k = 2 := by
    rcases h.c.ph i hi with e | e | e
    · exact absurd ⟨ht, e⟩ (h.phases hi).1
    · exact h.eater hn hr i hi e
    · exact ⟨i, hi, e⟩
  have htk : T k = 1 := by
    have := (h.phases hk).2
    omega
  obtain ⟨j, hj, hN, hb⟩ := h.lacks hk htk
  obtain ⟨b1, b2, b3⟩ := hn.back k j hk hj
  obtain ⟨_, q⟩ := h.kept hn hk htk hj hN hb
  rcases q with q | ⟨_, q⟩
  · exact ⟨j, b1, q⟩
  · have hG := Ed.good (h.edge k j hk hj)
    have hf := (hG.eat (by show (P k).toNat = 2; rw [hk2]; rfl)).1
    have hf : (X k j).fork = true := hf
    have h1 : bn (X k j).fork + bn (X j k).fork + (cntN 1 (eg X P T N [] k j).m + cntN 1 (eg X P T N [] k j).n) = 1 := hG.one1
    rw [hf, q, show bn true = 1 from rfl] at h1
    omega
theorem BB.free (hn : NB n nb) (h : BB n nb ep X P T N []) (hi : i < n) (hf : ∀ k : Nat, k ∈ nb i → (k : Int) ∈ N i → (i : Int) ∉ N k) : T i ≠ 1 := fun ht => by
  obtain ⟨k, hk, hN, hb⟩ := h.lacks hi ht
  exact hf k hk hN (h.kept hn hi ht hk hN hb).1
theorem BB.apart (hn : NB n nb) (h : BB n nb ep X P T N ms) (hi : i < n) (ht : T i = 2) {k : Nat} (hk : k ∈ nb i) (hN : (k : Int) ∈ N i) : (X i k).bottle = true ∧ ¬ (T k = 2 ∧ (i : Int) ∈ N k) := by
  obtain ⟨b1, b2, b3⟩ := hn.back i k hi hk
  have hG := Ed.good (h.edge i k hi hk)
  have hG2 := Ed.good (h.edge k i b1 b3)
  have q1 : (X i k).bottle = true := hG.has (by show (T i).toNat = 2; rw [ht]; rfl) (by show decide ((k : Int) ∈ N i) = true; rw [decide_eq_true_eq]; exact hN)
  refine ⟨q1, fun ⟨c1, c2⟩ => ?_⟩
  have q2 : (X k i).bottle = true := hG2.has (by show (T k).toNat = 2; rw [c1]; rfl) (by show decide ((i : Int) ∈ N k) = true; rw [decide_eq_true_eq]; exact c2)
  have h1 : bn (X i k).bottle + bn (X k i).bottle + (cntN 3 (eg X P T N ms i k).m + cntN 3 (eg X P T N ms i k).n) = 1 := hG.one3
  rw [q1, q2, show bn true = 1 from rfl] at h1
  omega
theorem totB_few {Es : List (Nat × Nat)} (he1 : ∀ e ∈ Es, e.1 < n ∧ e.2 ∈ nb e.1) (h : BB n nb ep X P T N ms) : totB Es X P T N ms ≤ 11 * Es.length :=
  sum_const fun e he => (Ed.left_few (h.edge e.1 e.2 (he1 e he).1 (he1 e he).2)).2
theorem sum_pos {α : Type} {f : α → Nat} : ∀ {l : List α} {x : α}, x ∈ l → f x ≤ (l.map f).sum
  | [], _, h => by cases h
  | y :: l, x, h => by
    rw [List.map_cons, List.sum_cons]
    rcases List.mem_cons.1 h with rfl | h
    · omega
    · have := sum_pos (f := f) h
      omega
theorem totB_pos {Es : List (Nat × Nat)} (he1 : ∀ e ∈ Es, e.1 < n ∧ e.2 ∈ nb e.1) (h : BB n nb ep X P T N ms) (he2 : ∀ i k, i < n → k ∈ nb i → (i, k) ∈ Es ∨ (k, i) ∈ Es) (hi : i < n) {k : Nat} (hk : k ∈ nb i) : 1 ≤ totB Es X P T N ms := by
  have key : ∀ e ∈ Es, 1 ≤ totB Es X P T N ms := fun e he => by
    have q1 := (Ed.left_few (h.edge e.1 e.2 (he1 e he).1 (he1 e he).2)).1
    have q2 := sum_pos (f := fun e : Nat × Nat => (eg X P T N ms e.1 e.2).left) he
    exact Nat.le_trans q1 q2
  rcases he2 i k hi hk with e | e
  · exact key _ e
  · exact key _ e
def quietB : Nat → List Dk → List Ml → Option (List Dk × List Ml)
  | 0, ds, ms => some (ds, ms)
  | _ + 1, ds, [] => some (ds, [])
  | f + 1, ds, m :: l => if (stepB ds (m :: l) 2 m.from_ m.to_ []).2 = 0 then quietB f (stepB ds (m :: l) 2 m.from_ m.to_ []).1.1 (stepB ds (m :: l) 2 m.from_ m.to_ []).1.2 else none
theorem BB.quiet (hn : NB n nb) (h64 : n ≤ 64) (h0 : 0 ≤ ep) (h1 : ep ≤ 65535) {Es : List (Nat × Nat)} (he1 : ∀ e ∈ Es, e.1 < n ∧ e.2 ∈ nb e.1) (he2 : ∀ i k, i < n → k ∈ nb i → (i, k) ∈ Es ∨ (k, i) ∈ Es) :
    ∀ (f : Nat) {X : Nat → Nat → Sd} {P T : Nat → Int} {ms : List Ml}, BB n nb ep X P T N ms → NoR n nb X P T N ms → totB Es X P T N ms ≤ f →
    ∃ (X' : Nat → Nat → Sd) (P' T' : Nat → Int), quietB f (drOf n nb X P T N) ms = some (drOf n nb X' P' T' N, []) ∧ (∀ a, a < n → T' a = T a ∨ T a = 1 ∧ T' a = 2) ∧ BB n nb ep X' P' T' N [] ∧ NoR n nb X' P' T' N [] := by
  intro f
  induction f with
  | zero =>
    intro X P T ms h hr hw
    cases ms with
    | nil => exact ⟨X, P, T, rfl, fun _ _ => .inl rfl, h, hr⟩
    | cons m l =>
      obtain ⟨⟨k, i, hk, hi, _, _⟩, _⟩ := h.c.mail m (List.mem_cons_self ..)
      exact absurd (Nat.le_trans (totB_pos he1 h he2 hk hi) hw) (Nat.not_succ_le_zero 0)
  | succ f ih =>
    intro X P T ms h hr hw
    cases ms with
    | nil => exact ⟨X, P, T, rfl, fun _ _ => .inl rfl, h, hr⟩
    | cons m l =>
      obtain ⟨⟨k, i, hk, hi, e1, e2⟩, _⟩ := h.c.mail m (List.mem_cons_self ..)
      have hi := (hn.back k i hk hi).1
      have hp : pick k i (m :: l) ≠ none := by
        unfold pick
        rw [if_pos ⟨e1, e2⟩]
        simp
      rcases h.stepDel hn h64 h0 h1 hk hi [] hr he1 he2 with ⟨q, _⟩ | ⟨X', P', T', ms', e, q1, q2, q3, q4⟩
      · exact absurd q hp
      · obtain ⟨X2, P2, T2, r1, r2, r3, r4⟩ := ih q2 q3 (Nat.le_of_lt_succ (Nat.lt_of_lt_of_le q4 hw))
        clear q4 hw
        refine ⟨X2, P2, T2, ?_, fun a ha => ?_, r3, r4⟩
        · unfold quietB
          rw [e1, e2, e, if_pos rfl]
          exact r1
        · rcases q1 a ha with c | ⟨c, c'⟩ <;> rcases r2 a ha with d | ⟨d, d'⟩
          · exact .inl (by rw [d, c])
          · exact .inr ⟨by rw [← c]; exact d, d'⟩
          · exact .inr ⟨c, by rw [d, c']⟩
          · omega
def whoK (ds : List Dk) (t : Int) : List Int := (ds.filter fun d => d.thirst == t).map fun d => d.id
theorem who_dr (t : Int) : whoK (drOf n nb X P T N) t = (phN n T t).map fun i : Nat => (i : Int) := by
  unfold whoK drOf phN
  rw [List.filter_map, List.map_map]
  rfl
def closesB : List Int → List Dk → List Ml → Option (List Dk × List Ml)
  | [], ds, ms => some (ds, ms)
  | a :: l, ds, ms => if (stepB ds ms 1 a 0 []).2 = 0 then closesB l (stepB ds ms 1 a 0 []).1.1 (stepB ds ms 1 a 0 []).1.2 else none
theorem BB.closes (hn : NB n nb) (h64 : n ≤ 64) (h0 : 0 ≤ ep) (h1 : ep ≤ 65535) : ∀ {l : List Nat} {X : Nat → Nat → Sd} {P T : Nat → Int} {N : Nat → List Int} {ms : List Ml}, BB n nb ep X P T N ms → NoR n nb X P T N ms → l.Nodup → (∀ i ∈ l, i < n ∧ T i = 2) →
    ∃ (X' : Nat → Nat → Sd) (P' T' : Nat → Int) (N' : Nat → List Int) (ms' : List Ml), closesB (l.map fun i : Nat => (i : Int)) (drOf n nb X P T N) ms = some (drOf n nb X' P' T' N', ms') ∧ act n T' + l.length = act n T ∧ (∀ a, a ∉ l → T' a = T a) ∧ (∀ a ∈ l, T' a = 0) ∧ BB n nb ep X' P' T' N' ms' ∧ NoR n nb X' P' T' N' ms'
  | [], X, P, T, N, ms, h, hr, _, _ => ⟨X, P, T, N, ms, rfl, rfl, fun _ _ => rfl, fun a ha => (by cases ha), h, hr⟩
  | i :: l, X, P, T, N, ms, h, hr, hd, hl => by
    obtain ⟨hd1, hd2⟩ := List.nodup_cons.1 hd
    obtain ⟨hi, ht⟩ := hl i (List.mem_cons_self ..)
    rcases h.stepClose hn h64 h0 h1 hi 0 [] hr with ⟨q, _⟩ | ⟨X', P', T', ms', e, _, q1, q2, q3, q4⟩
    · omega
    · have hne : ∀ a ∈ l, a ≠ i := fun a ha e => hd1 (e ▸ ha)
      obtain ⟨X2, P2, T2, N2, ms2, r1, r2, r3, r4, r5, r6⟩ := BB.closes hn h64 h0 h1 (l := l) q3 q4 hd2 fun a ha => ⟨(hl a (List.mem_cons_of_mem _ ha)).1, by rw [q2 a (hne a ha)]; exact (hl a (List.mem_cons_of_mem _ ha)).2⟩
      have hact := act_less (P := T) (P' := T') hi (by omega) q1 q2
      refine ⟨X2, P2, T2, N2, ms2, ?_, by rw [List.length_cons]; omega, fun a ha => ?_, fun a ha => ?_, r5, r6⟩
      · rw [List.map_cons]
        unfold closesB
        rw [e, if_pos rfl]
        exact r1
      · rw [r3 a (fun hc => ha (List.mem_cons_of_mem _ hc)), q2 a (fun hc => ha (by rw [hc]; exact List.mem_cons_self ..))]
      · rcases List.mem_cons.1 ha with rfl | ha
        · rw [r3 a hd1, q1]
        · exact r4 a ha
def fairB (f : Nat) : Nat → List Dk → List Ml → Option (List Dk × List Ml)
  | 0, ds, ms => some (ds, ms)
  | r + 1, ds, ms => match quietB f ds ms with
    | none => none
    | some (ds1, ms1) => if ms1 ≠ [] ∨ whoK ds1 2 = [] ∧ whoK ds1 1 ≠ [] then none else match closesB (whoK ds1 2) ds1 ms1 with
      | none => none
      | some (ds2, ms2) => fairB f r ds2 ms2
theorem BB.fair (hn : NB n nb) (h64 : n ≤ 64) (h0 : 0 ≤ ep) (h1 : ep ≤ 65535) {Es : List (Nat × Nat)} (he1 : ∀ e ∈ Es, e.1 < n ∧ e.2 ∈ nb e.1) (he2 : ∀ i k, i < n → k ∈ nb i → (i, k) ∈ Es ∨ (k, i) ∈ Es) {f : Nat} (hf : 11 * Es.length ≤ f) :
    ∀ {r : Nat} {X : Nat → Nat → Sd} {P T : Nat → Int} {N : Nat → List Int} {ms : List Ml}, BB n nb ep X P T N ms → NoR n nb X P T N ms → act n T ≤ r →
    ∃ (X' : Nat → Nat → Sd) (P' T' : Nat → Int) (N' : Nat → List Int) (ms' : List Ml), fairB f r (drOf n nb X P T N) ms = some (drOf n nb X' P' T' N', ms') ∧ (∀ i, i < n → T' i = 0) ∧ BB n nb ep X' P' T' N' ms' ∧ NoR n nb X' P' T' N' ms'
  | 0, X, P, T, N, ms, h, hr, ha => ⟨X, P, T, N, ms, rfl, act_none.1 (by omega), h, hr⟩
  | r + 1, X, P, T, N, ms, h, hr, ha => by
    have hw := totB_few he1 h
    obtain ⟨X1, P1, T1, q1, q2, q3, q4⟩ := BB.quiet hn h64 h0 h1 he1 he2 f h hr (Nat.le_trans hw hf)
    have hact : act n T1 = act n T := act_same fun a ha => by rcases q2 a ha with c | ⟨c, c'⟩ <;> omega
    have hgo : ¬ (([] : List Ml) ≠ [] ∨ whoK (drOf n nb X1 P1 T1 N) 2 = [] ∧ whoK (drOf n nb X1 P1 T1 N) 1 ≠ []) := by
      rintro (h | ⟨c1, c2⟩)
      · exact h rfl
      · rw [who_dr] at c1 c2
        cases hh : phN n T1 1 with
        | nil => rw [hh] at c2; exact c2 rfl
        | cons i l =>
          have hm := mem_phN.1 (by rw [hh]; exact List.mem_cons_self .. : i ∈ phN n T1 1)
          obtain ⟨k, hk, hk2⟩ := q3.progress hn q4 hm.1 hm.2
          have hm2 : k ∈ phN n T1 2 := mem_phN.2 ⟨hk, hk2⟩
          rw [List.map_eq_nil_iff.1 c1] at hm2
          cases hm2
    obtain ⟨X2, P2, T2, N2, ms2, s1, s2, s3, s4, s5, s6⟩ := BB.closes hn h64 h0 h1 (l := phN n T1 2) q3 q4 (phN_nodup ..) fun a ha => mem_phN.1 ha
    have hless : act n T2 ≤ r := by
      by_cases hz : act n T1 = 0
      · omega
      · have hne : phN n T1 2 ≠ [] := by
          intro hnil
          refine hz (act_none.2 fun i hi => ?_)
          have hp := q3.c.th i hi
          rcases hp with hp | hp | hp
          · exact hp
          · exfalso
            apply hgo
            right
            rw [who_dr, who_dr, hnil]
            refine ⟨rfl, fun hc => ?_⟩
            have hm : i ∈ phN n T1 1 := mem_phN.2 ⟨hi, hp⟩
            rw [List.map_eq_nil_iff.1 hc] at hm
            cases hm
          · have hm : i ∈ phN n T1 2 := mem_phN.2 ⟨hi, hp⟩
            rw [hnil] at hm
            cases hm
        have := List.length_pos_iff.2 hne
        omega
    obtain ⟨X3, P3, T3, N3, ms3, t1, t2, t3, t4⟩ := BB.fair hn h64 h0 h1 he1 he2 hf (r := r) s5 s6 hless
    refine ⟨X3, P3, T3, N3, ms3, ?_, t2, t3, t4⟩
    unfold fairB
    rw [q1]
    dsimp only
    rw [if_neg hgo, who_dr, s1]
    exact t1
end
end Go.Proofs.YtfbambemjokmgaaGreat
namespace Go.Proofs.YtfbambemjokmgaaGreat
def sceneK (ds : List Dk) : List Dn := ds.map Dk.dn
def chkB (ds : List Dk) (ms : List Ml) : Bool := ds.all chkK && chkT (sceneK ds) ms
def stepBB (ds : List Dk) (ms : List Ml) (k a b : Int) (Q : List Int) : (List Dk × List Ml) × Int := if chkB ds ms = true then stepB ds ms k a b Q else (noB, 160)
def GoodBE (N : Int) (E : List Edge) (ds : List Dk) (ms : List Ml) : Prop := GoodB N.toNat (nbE N E) 1 ds ms
def firstB (ds : List Dn) : List Dk := ds.map fun d => ⟨d.id, d.phase, d.sides, 0, []⟩
section
variable {N : Int} {E : List Edge} {ds : List Dk} {ms : List Ml} {X : Nat → Nat → Sd} {P T : Nat → Int} {M : Nat → List Int}
theorem scene_dr {n : Nat} {nb : Nat → List Nat} : sceneK (drOf n nb X P T M) = dsOf n nb X P := by
  unfold sceneK drOf dsOf
  rw [List.map_map]
  rfl
theorem GoodBE.new {c : List Int} (h : rightB N E c = true) : GoodBE N E (firstB (tableL N E c)) [] := by
  have hc : ∀ i k : Nat, i < N.toNat → k ∈ nbE N E i → col c i ≠ col c k := fun i k _ hk => right_ne h _ _ (mem_nbE.1 hk).2
  refine ⟨_, _, _, _, ?_, BB.first hc, NoR.first (NB.ofE (right_okG h)) (fun i hi => right_pos h hi) hc⟩
  rw [table_is]
  unfold firstB dsOf drOf
  rw [List.map_map]
  rfl
theorem GoodBE.graph (ok : OkG N E) (h : GoodBE N E ds ms) : graphR (sceneK ds) = (N, E, true) := by
  obtain ⟨X, P, T, M, rfl, hb, hr⟩ := h
  rw [scene_dr]
  exact graph_scene ok fun i k hi hk => (hb.c.pr i k hi hk).1
theorem GoodBE.len (h : GoodBE N E ds ms) : ds.length = N.toNat := by
  obtain ⟨X, P, T, M, rfl, hb, hr⟩ := h
  exact dr_len
theorem GoodBE.chk (ok : OkG N E) (h : GoodBE N E ds ms) : chkB ds ms = true := by
  have hg := h.graph ok
  obtain ⟨X, P, T, M, rfl, hb, hr⟩ := h
  have n64 := ok.n64
  have hn := NB.ofE ok
  rw [scene_dr] at hg
  unfold chkB chkT
  rw [scene_dr, Bool.and_eq_true, Bool.and_eq_true, Bool.and_eq_true, List.all_eq_true, List.all_eq_true, List.all_eq_true]
  refine ⟨fun d hd => ?_, ⟨?_, fun d hd => ?_⟩, fun m hm => ?_⟩
  · unfold drOf at hd
    obtain ⟨i, hi, rfl⟩ := List.mem_map.1 hd
    exact hb.chk hn (by omega) (by omega) (by omega) (List.mem_range.1 hi)
  · unfold graphR at hg
    cases e : graphB (dsOf N.toNat (nbE N E) X P)
    · rw [e, if_neg (by simp)] at hg; cases hg
    · rfl
  · unfold dsOf at hd
    obtain ⟨i, hi, rfl⟩ := List.mem_map.1 hd
    have := hb.chk hn (by omega) (by omega) (by omega) (List.mem_range.1 hi)
    unfold chkK at this
    simp only [Bool.and_eq_true] at this
    exact this.1.1.1.1
  · obtain ⟨⟨i, k, hi, hk, e1, e2⟩, _⟩ := hb.c.mail m hm
    have := hn.back i k hi hk
    unfold nodeB
    rw [dsOf_len, e1, e2]
    simp only [Bool.and_eq_true, decide_eq_true_eq, Bool.not_eq_true', decide_eq_false_iff_not]
    omega
theorem GoodBE.stepBB (ok : OkG N E) {k a b : Int} {Q : List Int} (h : GoodBE N E ds ms) : stepBB ds ms k a b Q = stepB ds ms k a b Q := by
  unfold Go.Proofs.YtfbambemjokmgaaGreat.stepBB
  rw [if_pos (h.chk ok)]
theorem GoodBE.step (ok : OkG N E) {k a b : Int} {Q : List Int} (hk : k = 0 ∨ k = 1 ∨ k = 2) (h : GoodBE N E ds ms) :
    (stepB ds ms k a b Q).2 = 0 ∧ GoodBE N E (stepB ds ms k a b Q).1.1 (stepB ds ms k a b Q).1.2 ∨ (stepB ds ms k a b Q).1 = noB ∧ ((stepB ds ms k a b Q).2 = 151 ∨ (stepB ds ms k a b Q).2 = 152 ∨ (stepB ds ms k a b Q).2 = 161 ∨ (stepB ds ms k a b Q).2 = 162) := by
  have n64 := ok.n64
  exact GoodB.step (NB.ofE ok) (by omega) (by omega) (by omega) hk h
theorem mem_who {n : Nat} {nb : Nat → List Nat} {t a : Int} : a ∈ whoK (drOf n nb X P T M) t ↔ ∃ i : Nat, a = i ∧ i < n ∧ T i = t := by
  rw [who_dr, List.mem_map]
  constructor
  · rintro ⟨i, hi, rfl⟩
    exact ⟨i, rfl, mem_phN.1 hi⟩
  · rintro ⟨i, rfl, hi, ht⟩
    exact ⟨i, mem_phN.2 ⟨hi, ht⟩, rfl⟩
theorem dr_getD {n : Nat} {nb : Nat → List Nat} {i : Nat} (hi : i < n) : (drOf n nb X P T M).getD i noK = dkOf nb X P T M i := by
  rw [List.getD_eq_getElem?_getD, dr_get hi]; rfl
theorem GoodBE.apart (ok : OkG N E) (h : GoodBE N E ds ms) {a : Int} (ha : a ∈ whoK ds 2) : (0 ≤ a ∧ a < N) ∧ (ds.getD a.toNat noK).id = a ∧ ∀ p ∈ (ds.getD a.toNat noK).need, (0 ≤ p ∧ p < N) ∧ ∃ s, sideR (ds.getD a.toNat noK).sides p = (s, true) ∧ s.bottle = true ∧ ¬ ((ds.getD p.toNat noK).thirst = 2 ∧ a ∈ (ds.getD p.toNat noK).need) := by
  obtain ⟨X, P, T, M, rfl, hb, hr⟩ := h
  have hn := NB.ofE ok
  obtain ⟨i, rfl, hi, ht⟩ := mem_who.1 ha
  refine ⟨by omega, ?_⟩
  rw [Int.toNat_natCast, dr_getD hi]
  refine ⟨rfl, fun p hp => ?_⟩
  obtain ⟨k, hk, rfl⟩ := (hb.c.nd i hi).2.2 p hp
  obtain ⟨b1, b2, b3⟩ := hn.back i k hi hk
  obtain ⟨q1, q2⟩ := hb.apart hn hi ht hk hp
  refine ⟨by omega, X i k, hb.c.sideR hn hi hk, q1, ?_⟩
  rw [Int.toNat_natCast, dr_getD b1]
  exact q2
theorem arc2_bar (ok : OkG N E) (h : BB N.toNat (nbE N E) 1 X P T M ms) {i k : Nat} (hi : i < N.toNat) (hk : k < N.toNat) (hik : i < k) :
    arc2 ms ⟨i, P i, (nbE N E i).map (X i)⟩ ⟨k, P k, (nbE N E k).map (X k)⟩ = if (⟨i, k⟩ : Edge) ∈ E then [turnX X ms ⟨i, k⟩] else [] := by
  have hn := NB.ofE ok
  have hb : btw (i : Int) (k : Int) = ⟨i, k⟩ := by simp only [btw, Edge.mk.injEq]; omega
  unfold arc2
  dsimp only
  by_cases he : (⟨(i : Int), (k : Int)⟩ : Edge) ∈ E
  · have h1 : k ∈ nbE N E i := mem_nbE.2 ⟨hk, by rw [hb]; exact he⟩
    have h2 : i ∈ nbE N E k := (hn.back i k hi h1).2.2
    rw [h.c.sideR hn hi h1, h.c.sideR hn hk h2, if_pos he]
    have e1 := (h.c.pr i k hi h1).2.1
    have e2 := (h.c.pr k i hk h2).2.1
    dsimp only
    rw [e1, e2, decide_eq_true rfl, if_pos (by rfl)]
    obtain ⟨p1, n1⟩ := h.c.told i k
    obtain ⟨p2, n2⟩ := h.c.told k i
    rw [goes_chan p2 n2, goes_chan p1 n1]
    have hone : ahd (X k i) (X i k) (chan ms i k) = !ahd (X i k) (X k i) (chan ms k i) := h.oneAhead hi h1
    have hff : ((X i k).fork && (X k i).fork) = false := by
      have h1' : bn (X i k).fork + bn (X k i).fork + (cntN 1 (eg X P T M ms i k).m + cntN 1 (eg X P T M ms i k).n) = 1 := (Ed.good (h.edge i k hi h1)).one1
      cases h3 : (X i k).fork <;> cases h4 : (X k i).fork
      · rfl
      · rfl
      · rfl
      · rw [h3, h4, show bn true = 1 from rfl] at h1'; omega
    have hah : ah X ms i k = ahd (X i k) (X k i) (chan ms k i) := rfl
    unfold ahd at hone hah
    rw [firstI_ahd _ _ _ _ _ _ hff hone, ← hah]
    unfold turnX
    dsimp only
    rw [Int.toNat_natCast, Int.toNat_natCast]
    cases ah X ms i k <;> rfl
  · have h1 : k ∉ nbE N E i := fun h => he (by have := (mem_nbE.1 h).2; rwa [hb] at this)
    rw [sideR_no (fun i k hi hk => (h.c.pr i k hi hk).1) hi h1, if_neg he]
    rfl
theorem arcs_bar_prs (ok : OkG N E) (h : BB N.toNat (nbE N E) 1 X P T M ms) : ∀ l : List Nat, l.Pairwise (· < ·) → (∀ i ∈ l, i < N.toNat) →
    arcsOf ms (l.map fun i : Nat => (⟨(i : Int), P i, (nbE N E i).map (X i)⟩ : Dn)) = (prs l).flatMap fun e => if decide (e ∈ E) = true then [turnX X ms e] else []
  | [], _, _ => rfl
  | i :: l, hp, hl => by
    have h' := List.pairwise_cons.1 hp
    rw [List.map_cons]
    show (l.map _).flatMap (arc2 ms _) ++ arcsOf ms (l.map _) = _
    unfold prs
    rw [arcs_bar_prs ok h l h'.2 fun j hj => hl j (by simp [hj]), List.flatMap_append, List.flatMap_map, List.flatMap_map]
    congr 1
    refine flat_congr fun k hk => ?_
    rw [arc2_bar ok h (hl i (by simp)) (hl k (by simp [hk])) (h'.1 k hk)]
    simp
theorem turnX_bar (ok : OkG N E) (h : BB N.toNat (nbE N E) 1 X P T M ms) {e : Edge} (he : e ∈ E) : ∃ i k : Nat, i < N.toNat ∧ k ∈ nbE N E i ∧ turnX X ms e = ⟨i, k⟩ ∧ ah X ms i k = true := by
  obtain ⟨i, k, rfl, hi, hk, h1, h2⟩ := edge_nb ok he
  unfold turnX
  dsimp only
  rw [Int.toNat_natCast, Int.toNat_natCast]
  cases hh : ah X ms i k
  · exact ⟨k, i, hk, h2, by rw [if_neg (by simp)], by rw [h.oneAhead hi h1, hh]; rfl⟩
  · exact ⟨i, k, hi, h1, by rw [if_pos rfl], hh⟩
theorem GoodBE.arcs (ok : OkG N E) (h : GoodBE N E ds ms) : OkD N (arcsOf ms (sceneK ds)) ∧ Ranked (arcsOf ms (sceneK ds)) ∧ (arcsOf ms (sceneK ds)).length = E.length := by
  obtain ⟨X, P, T, M, rfl, hb, hr⟩ := h
  have e : arcsOf ms (sceneK (drOf N.toNat (nbE N E) X P T M)) = E.map (turnX X ms) := by
    rw [scene_dr]
    unfold dsOf
    rw [arcs_bar_prs ok hb _ (range_up _) fun i hi => List.mem_range.1 hi, flat_if, edges_prs ok]
  rw [e]
  refine ⟨turnX_ok ok X ms, ?_, List.length_map ..⟩
  obtain ⟨r, hr⟩ := hr.round
  refine ⟨fun v => r v.toNat, fun x hx => ?_⟩
  obtain ⟨e, he, rfl⟩ := List.mem_map.1 hx
  obtain ⟨i, k, hi, hk, e1, e2⟩ := turnX_bar ok hb he
  rw [e1]
  exact hr i k hi hk e2
theorem edges_two (ok : OkG N E) : (∀ e ∈ E.map (fun e => (e.a.toNat, e.b.toNat)), e.1 < N.toNat ∧ e.2 ∈ nbE N E e.1) ∧ ∀ i k, i < N.toNat → k ∈ nbE N E i → (i, k) ∈ E.map (fun e => (e.a.toNat, e.b.toNat)) ∨ (k, i) ∈ E.map (fun e => (e.a.toNat, e.b.toNat)) := by
  refine ⟨fun e he => ?_, fun i k hi hk => ?_⟩
  · obtain ⟨x, hx, rfl⟩ := List.mem_map.1 he
    obtain ⟨i, k, rfl, hi, hk, h1, h2⟩ := edge_nb ok hx
    exact ⟨hi, h1⟩
  · have hm := (mem_nbE.1 hk).2
    rcases Nat.lt_or_ge i k with hik | hik
    · left
      have : btw (i : Int) (k : Int) = ⟨i, k⟩ := by simp only [btw, Edge.mk.injEq]; omega
      rw [this] at hm
      exact List.mem_map.2 ⟨_, hm, rfl⟩
    · right
      have : btw (i : Int) (k : Int) = ⟨k, i⟩ := by simp only [btw, Edge.mk.injEq]; omega
      rw [this] at hm
      exact List.mem_map.2 ⟨_, hm, rfl⟩
theorem GoodBE.fair (ok : OkG N E) (h : GoodBE N E ds ms) {f : Nat} (hf : 11 * E.length ≤ f) : ∃ ds' ms', fairB f (N.toNat + 1) ds ms = some (ds', ms') ∧ GoodBE N E ds' ms' ∧ whoK ds' 0 = (List.range N.toNat).map fun i : Nat => (i : Int) := by
  obtain ⟨X, P, T, M, rfl, ht, hr⟩ := h
  have n64 := ok.n64
  have hn := NB.ofE ok
  obtain ⟨q1, q2⟩ := edges_two ok
  have ha := act_le N.toNat T
  obtain ⟨X', P', T', M', ms', r1, r2, r3, r4⟩ := BB.fair hn (by omega) (by omega) (by omega) q1 q2 (f := f) (by rw [List.length_map]; exact hf) (r := N.toNat + 1) ht hr (by omega)
  refine ⟨_, _, r1, ⟨X', P', T', M', rfl, r3, r4⟩, ?_⟩
  rw [who_dr]
  unfold phN
  rw [List.filter_eq_self.2 fun i hi => by rw [beq_iff_eq]; exact r2 i (List.mem_range.1 hi)]
theorem GoodBE.quiet (ok : OkG N E) (h : GoodBE N E ds ms) {f : Nat} (hf : 11 * E.length ≤ f) : ∃ ds', quietB f ds ms = some (ds', []) ∧ GoodBE N E ds' [] ∧ (whoK ds' 2 = [] → whoK ds' 1 = []) ∧ ∀ a : Int, (0 ≤ a ∧ a < N) → (ds'.getD a.toNat noK).need = (ds.getD a.toNat noK).need ∧ ((ds'.getD a.toNat noK).thirst = (ds.getD a.toNat noK).thirst ∨ (ds.getD a.toNat noK).thirst = 1 ∧ (ds'.getD a.toNat noK).thirst = 2) := by
  obtain ⟨X, P, T, M, rfl, ht, hr⟩ := h
  have n64 := ok.n64
  have hn := NB.ofE ok
  obtain ⟨q1, q2⟩ := edges_two ok
  have hw := totB_few q1 ht
  rw [List.length_map] at hw
  obtain ⟨X', P', T', r1, r2, r3, r4⟩ := BB.quiet hn (by omega) (by omega) (by omega) q1 q2 f ht hr (Nat.le_trans hw hf)
  refine ⟨_, r1, ⟨X', P', T', M, rfl, r3, r4⟩, fun h2 => ?_, fun a ha => ?_⟩
  · rw [List.eq_nil_iff_forall_not_mem]
    intro a hm
    obtain ⟨i, rfl, hi, hti⟩ := mem_who.1 hm
    obtain ⟨k, hk, hk2⟩ := r3.progress hn r4 hi hti
    have := mem_who (X := X') (P := P') (M := M) (nb := nbE N E).2 ⟨k, rfl, hk, hk2⟩
    rw [h2] at this
    cases this
  · have hi : a.toNat < N.toNat := by omega
    rw [dr_getD hi, dr_getD hi]
    exact ⟨rfl, r2 a.toNat hi⟩
theorem GoodBE.free (ok : OkG N E) (h : GoodBE N E ds []) {a : Int} (ha : 0 ≤ a ∧ a < N) (hf : ∀ p ∈ (ds.getD a.toNat noK).need, a ∉ (ds.getD p.toNat noK).need) : (ds.getD a.toNat noK).thirst ≠ 1 := by
  obtain ⟨X, P, T, M, rfl, hb, hr⟩ := h
  have hn := NB.ofE ok
  have hi : a.toNat < N.toNat := by omega
  rw [dr_getD hi] at hf ⊢
  refine hb.free hn hi fun k hk hN hc => ?_
  have := hf k hN
  rw [Int.toNat_natCast, dr_getD (hn.back _ k hi hk).1] at this
  exact this (by have e : ((a.toNat : Nat) : Int) = a := by omega
                 rw [← e]; exact hc)
end
end Go.Proofs.YtfbambemjokmgaaGreat
namespace Go.Proofs.YtfbambemjokmgaaGreat
open Go.RowKit
structure KV where
  id : Int
  phase : Int
  ao : Option Addr
  n : Nat
  c : Nat
  thirst : Int
  bo : Option Addr
  m : Nat
  d : Nat
instance : Elem KV where
  e := 63
  t := 22
  k := 5
  bytes := 72
  z := .agg #[.int .i64 0, .int .i64 0, .slice none 0 0, .int .i64 0, .slice none 0 0]
  enc := fun x => [.int .i64 x.id, .int .i64 x.phase, .slice x.ao x.n x.c, .int .i64 x.thirst, .slice x.bo x.m x.d]
  dflt := ⟨0, 0, none, 0, 0, 0, none, 0, 0⟩
  len := fun _ => rfl
  pos := by decide
  one := fun x u hu => by simp at hu; rcases hu with rfl | rfl | rfl | rfl | rfl <;> rfl
  row := by kernel_rfl
  info := by kernel_rfl
  zsize := rfl
  few := by decide
structure RdK (F : Nat → Prop) (w : World) (x : KV) (d : Dk) : Prop where
  id : x.id = d.id
  phase : x.phase = d.phase
  sides : Sa F w (.slice x.ao x.n x.c) d.sides
  thirst : x.thirst = d.thirst
  need : Sa F w (.slice x.bo x.m x.d) d.need
instance : Nest KV Dk where
  rd := RdK
  off := fun h o g => ⟨h.id, h.phase, h.sides.off o g, h.thirst, h.need.off o g⟩
theorem Ns.drinkerAt {F : Nat → Prop} {w : World} {ao : Option Addr} {n c : Nat} {L : List Dk} (h : Ns KV F w (.slice ao n c) L) {k : Nat} (hk : k < L.length) :
    ∃ b off so sc no nc, ∃ d : Dk, L[k]? = some d ∧ ao = some ⟨b, off, none⟩ ∧ n = L.length ∧ n ≤ c ∧ c ≤ 9223372036854775807 ∧ b < w.heap.size ∧ Sa F w (.slice so d.sides.length sc) d.sides ∧ Sa F w (.slice no d.need.length nc) d.need ∧
      ∀ W, Ext w W → (W.cell? ⟨b, off + k * 5, none⟩ = some (.int .i64 d.id) ∧ W.cell? ⟨b, off + k * 5 + 1, none⟩ = some (.int .i64 d.phase) ∧ W.cell? ⟨b, off + k * 5 + 2, none⟩ = some (.slice so d.sides.length sc)) ∧ W.cell? ⟨b, off + k * 5 + 3, none⟩ = some (.int .i64 d.thirst) ∧ W.cell? ⟨b, off + k * 5 + 4, none⟩ = some (.slice no d.need.length nc) := by
  obtain ⟨b, off, x, d, h1, h2, h3, h4, h5, h6, h7, h8⟩ := h.at hk
  obtain ⟨e1, e2, e3, e4, e5⟩ : RdK F w x d := h8
  obtain ⟨so, sc, hv⟩ := e3.sl.len
  obtain ⟨no, nc, hu⟩ := e5.sl.len
  refine ⟨b, off, so, sc, no, nc, d, h1, h2, h3, h4, h5, h6, hv ▸ e3, hu ▸ e5, fun W hW => ?_⟩
  have g : ∀ i u, (Elem.enc x)[i]? = some u → W.cell? ⟨b, off + k * 5 + i, none⟩ = some u := fun i u hu => by
    have := h7 i u hu
    rw [show off + (k * Elem.k KV + i) = off + k * 5 + i from by show off + (k * 5 + i) = _; omega] at this
    exact (hW.cell (p := ⟨b, off + k * 5 + i, none⟩) h6).trans this
  have q0 := g 0 _ rfl
  have q1 := g 1 _ rfl
  have q2 := g 2 _ rfl
  have q3 := g 3 _ rfl
  have q4 := g 4 _ rfl
  rw [e1] at q0
  rw [e2] at q1
  rw [hv] at q2
  rw [e4] at q3
  rw [hu] at q4
  exact ⟨⟨q0, q1, q2⟩, q3, q4⟩
structure BV (w : World) (vk vm : Value) (ds : List Dk) (ms : List Ml) : Prop where
  ds : Ns KV Non w vk ds
  ms : Sl w vm ms
def GivesBar (w : World) (r : (List Dk × List Ml) × Int) (e : Ending) (w' : World) : Prop := ∃ vk vm, e = .returned (.tuple #[.agg #[vk, vm], .int .i64 r.2]) ∧ BV w' vk vm r.1.1 r.1.2 ∧ Ext w w'
section
variable {w w' : World} {vk vm : Value} {ds : List Dk} {ms : List Ml}
theorem BV.ext (h : BV w vk vm ds ms) (e : Ext w w') : BV w' vk vm ds ms := ⟨h.ds.ext e, h.ms.ext e⟩
theorem BV.len (h : BV w vk vm ds ms) : ∃ ao c bo d, vk = .slice ao ds.length c ∧ vm = .slice bo ms.length d := by
  obtain ⟨ao, c, e1⟩ := h.ds.len
  obtain ⟨bo, d, e2⟩ := h.ms.len
  exact ⟨ao, c, bo, d, e1, e2⟩
theorem BV.sh (h : BV w vk vm ds ms) : ∃ ao n c bo m d, vk = .slice ao n c ∧ vm = .slice bo m d := by
  obtain ⟨ao, c, bo, d, e1, e2⟩ := h.len
  exact ⟨ao, _, c, bo, _, d, e1, e2⟩
theorem BV.nil (w : World) : BV w (.slice none 0 0) (.slice none 0 0) [] [] := ⟨Ns.nil _ _, slNoneU _⟩
theorem BV.off {g : Nat} {a a' : Option Addr} {n c n' c' : Nat} {t : TypeId} {fr : Nat × Nat} (h : BV w vk vm ds ms) (hg : w.heap[g]? = some (.cells #[.slice a n c, .slice a' n' c'] t fr)) (o : Off (fun k => k = g) w w') : BV w' vk vm ds ms := by
  have hn : Grows (fun k => k = g) Non w := fun k hk => hk.elim
  refine ⟨?_, ?_⟩
  · obtain ⟨xs, h1, h2, h3⟩ := h.ds
    refine ⟨xs, (apart_box h1.sl hg (two_slices _ _ _ _ _ _) fun x => ⟨x.id, rfl⟩).off o hn, h2, fun j x d hx hd => ?_⟩
    obtain ⟨e1, e2, e3, e4, e5⟩ : RdK Non w x d := h3 j x d hx hd
    exact (⟨e1, e2, (apart_box e3.sl hg (two_slices _ _ _ _ _ _) fun x => ⟨x.peer, rfl⟩).off o hn, e4, (apart_box e5.sl hg (two_slices _ _ _ _ _ _) fun x => ⟨x, rfl⟩).off o hn⟩ : RdK Non w' x d)
  · exact ((apart_box h.ms hg (two_slices _ _ _ _ _ _) fun x => ⟨x.from_, rfl⟩).off o hn).sl
end
theorem givesBar_no {w W : World} {r : (List Dk × List Ml) × Int} {er : Int} (h : r = (noB, er)) (x : Ext w W) : GivesBar w r (.returned (.tuple #[.agg #[.slice none 0 0, .slice none 0 0], .int .i64 er])) W := by
  subst h
  exact ⟨_, _, rfl, BV.nil _, x⟩
theorem uBar : ∃ fs, Tryz.prog.underlying 25 = some (.struct fs) := ⟨_, Tryz.underlying25⟩
theorem Nw.putK {F : Nat → Prop} {w : World} {B k : Nat} {ao : Option Addr} {n c : Nat} {L : List Dk} (h : Nw KV F w B (.slice ao n c) L) (hk : k < L.length) (x : KV) (d : Dk) (hx : Nest.rd (Own1 F (.slice ao n c)) w x d) :
    ∃ g cur, ao = some ⟨g, 0, none⟩ ∧ B ≤ g ∧ n = L.length ∧ n ≤ c ∧ c ≤ 9223372036854775807 ∧ w.heap[g]? = some (.cells cur (Elem.e KV) (0, 0)) ∧ k * Elem.k KV + Elem.k KV ≤ cur.size ∧
      ∀ W, W.heap[g]? = some (.cells (cur.toList.take (k * Elem.k KV) ++ Elem.enc x ++ cur.toList.drop (k * Elem.k KV + Elem.k KV)).toArray (Elem.e KV) (0, 0)) → Off (fun b => b = g) w W → Nw KV F W B (.slice ao n c) (L.set k d) := by
  obtain ⟨xs, h1, h2, h3⟩ := h.any
  obtain ⟨g, cur, rfl, q1, q2, q3, q4, q5, q6, q7⟩ := h1.setAt (k := k) (by omega) x
  refine ⟨g, cur, rfl, q1, by omega, q3, q4, q5, q6, fun W hW o => ⟨xs.set k x, q7 W hW, by rw [List.length_set, List.length_set, h2], fun j y e hy he => ?_⟩⟩
  have o' : Off (Own1 F (.slice (some ⟨g, 0, none⟩) n c)) w W := o.mono fun b hb => .inr (by rw [hb]; rfl)
  by_cases e1 : k = j
  · subst e1
    rw [List.getElem?_set] at hy he
    rw [if_pos rfl, if_pos (by omega)] at hy
    rw [if_pos rfl, if_pos (by omega)] at he
    simp only [Option.some.injEq] at hy he
    subst hy he
    exact Nest.off hx o' (Grows.refl _ _)
  · rw [List.getElem?_set, if_neg e1] at hy he
    exact Nest.off (h3 j y e hy he) o' (Grows.refl _ _)
theorem Nw.lessN {α δ : Type} [Elem α] [Nest α δ] {F G : Nat → Prop} {w : World} {B : Nat} {v : Value} {L : List δ} (h : Nw α F w B v L) (hG : ∀ k, G k → F k) : Nw α G w B v L := by
  obtain ⟨xs, h1, h2, h3⟩ := h.any
  exact ⟨xs, h1, h2, fun j x d hx hd => Nest.grow (h3 j x d hx hd) fun k hk => .inl (hk.imp (hG k) id)⟩
structure SmB (L : List Dk) (M : List Ml) : Prop where
  n : L.length ≤ 100
  s : ∀ d ∈ L, d.sides.length ≤ 100
  k : ∀ d ∈ L, d.need.length ≤ 100
  m : M.length ≤ 1000
end Go.Proofs.YtfbambemjokmgaaGreat
namespace Go.Proofs.YtfbambemjokmgaaGreat
def hasK (L : List Dk) (a : Int) : Bool := decide (0 ≤ a) && decide (a < (L.length : Int))
theorem hasK_iff {L : List Dk} {a : Int} : hasK L a = true ↔ 0 ≤ a ∧ a < L.length := by unfold hasK; simp
def faultB (L : List Dk) (M : List Ml) (xs : List Int) : Int := if chkB L M = true then (if xs.all (hasK L) = true then 0 else 161) else 160
def behB (L : List Dk) (M : List Ml) (A : Nat) (r : Dk × Int) : (List Dk × List Ml) × Int := if r.2 = 0 then (if chkK r.1 = true then ((L.set A (fireAll r.1).1, M ++ (fireAll r.1).2), 0) else (noB, 150)) else (noB, r.2)
theorem peersL_all {p : Sd → Bool} {L : List Sd} {x : Int} (h : x ∈ peersL p L) : (L.any fun s => s.peer == x) = true := by
  unfold peersL at h
  obtain ⟨s, hs, rfl⟩ := List.mem_map.1 h
  exact List.any_eq_true.2 ⟨s, (List.mem_filter.1 hs).1, by simp⟩
theorem chk_open {d : Dk} {Q : List Int} (h0 : (openR d Q).2 = 0) : chkK (openR d Q).1 = true := by
  unfold openR at *
  by_cases hc : chkK d = true
  · rw [if_pos hc] at h0 ⊢
    by_cases ht : d.thirst ≠ 0
    · rw [if_pos ht] at h0; simp at h0
    · rw [if_neg ht] at h0 ⊢
      by_cases hq : (Q.all fun p => decide (p ∈ peersL (fun s => decide (s.state = 0)) d.sides)) = true
      · rw [if_pos hq]
        dsimp only
        unfold chkK at *
        simp only [Bool.and_eq_true] at hc ⊢
        refine ⟨⟨⟨⟨hc.1.1.1.1, by simp⟩, by simp⟩, ?_⟩, (riseB_iff _).2 (norm_SS Q)⟩
        rw [List.all_eq_true] at hq ⊢
        intro p hp
        exact peersL_all (of_decide_eq_true (hq p ((mem_norm _ _).1 hp)))
      · rw [if_neg hq] at h0; simp at h0
  · rw [if_neg hc] at h0; simp at h0
theorem chk_close {d : Dk} (h0 : (closeR d).2 = 0) : chkK (closeR d).1 = true := by
  unfold closeR at *
  by_cases hc : chkK d = true
  · rw [if_pos hc] at h0 ⊢
    by_cases ht : d.thirst = 0
    · rw [if_pos ht] at h0; simp at h0
    · rw [if_neg ht]
      dsimp only
      unfold chkK at *
      simp only [Bool.and_eq_true] at hc ⊢
      exact ⟨⟨⟨⟨hc.1.1.1.1, by simp⟩, by simp⟩, by simp⟩, rfl⟩
  · rw [if_neg hc] at h0; simp at h0
theorem any_put {L : List Sd} {i : Nat} {s t : Sd} (hs : L[i]? = some s) (ht : t.peer = s.peer) {x : Int} (h : (L.any fun s => s.peer == x) = true) : ((L.set i t).any fun s => s.peer == x) = true := by
  obtain ⟨u, hu, hx⟩ := List.any_eq_true.1 h
  obtain ⟨j, hj⟩ := List.getElem?_of_mem hu
  refine List.any_eq_true.2 ?_
  by_cases e : i = j
  · subst e
    have := hs.symm.trans hj
    simp only [Option.some.injEq] at this
    subst this
    exact ⟨t, List.mem_of_getElem? (by rw [List.getElem?_set_self (List.getElem?_eq_some_iff.1 hs).1]), by rw [ht]; exact hx⟩
  · exact ⟨u, List.mem_of_getElem? (i := j) (by rw [List.getElem?_set_ne e]; exact hj), hx⟩
theorem chk_put {d : Dk} {i : Nat} {s t : Sd} (hc : chkK d = true) (hs : d.sides[i]? = some s) (ht : t.peer = s.peer) (hd : ∀ la, sideD d.id la s = true → sideD d.id la t = true) : chkK ⟨d.id, d.phase, d.sides.set i t, d.thirst, d.need⟩ = true := by
  unfold chkK at *
  simp only [Bool.and_eq_true] at hc ⊢
  refine ⟨⟨⟨⟨?_, hc.1.1.1.2⟩, hc.1.1.2⟩, ?_⟩, hc.2⟩
  · have h1 := hc.1.1.1.1
    unfold Dk.dn at *
    unfold dnOk at *
    rw [Bool.and_eq_true] at *
    exact ⟨head_len h1.1 (by rw [List.length_set]), sidesD_put hs ht hd h1.2⟩
  · have h2 := hc.1.2
    rw [List.all_eq_true] at h2 ⊢
    exact fun p hp => any_put hs ht (h2 p hp)
theorem chk_get {d : Dk} {p k me n : Int} (h0 : (getK d p k me n).2 = 0) : chkK (getK d p k me n).1 = true := by
  unfold getK at *
  by_cases hc : chkK d = true
  · rw [if_pos hc] at h0 ⊢
    cases hf : findS (fun s => s.peer == p && s.epoch == me) d.sides with
    | none => rw [hf] at h0; simp at h0
    | some x =>
      obtain ⟨i, s⟩ := x
      rw [hf] at h0
      dsimp only at h0 ⊢
      obtain ⟨h1, _⟩ := findS_spec hf
      split
      · next q =>
        rw [if_pos q] at h0
        split
        · next q2 => rw [if_pos q2] at h0; simp at h0
        · exact chk_put hc h1 rfl fun la hla => hla
      · next q =>
        rw [if_neg q] at h0
        split
        · next q2 =>
          rw [if_pos q2] at h0
          split
          · next q3 => rw [if_pos q3] at h0; simp at h0
          · exact chk_put hc h1 rfl fun la hla => hla
        · next q2 =>
          rw [if_neg q2] at h0
          split
          · next q3 => exact chk_put hc h1 (with_peer q3) (fun la hla => (with_side q3 hla).1)
          · next q3 => rw [if_neg q3] at h0; exact absurd h0 q3
  · rw [if_neg hc] at h0; simp at h0
theorem beh_open {L : List Dk} {M : List Ml} {A : Nat} {d : Dk} (hA : L[A]? = some d) (b : Int) (Q : List Int) : behB L M A (openR d Q) = stepB L M 0 A b Q := by
  have hAL := (List.getElem?_eq_some_iff.1 hA).1
  unfold stepB
  rw [if_neg (show ¬ (¬ (0 ≤ (A : Int) ∧ (A : Int) < (L.length : Int)) ∨ (0 : Int) = 2 ∧ ¬ (0 ≤ b ∧ b < (L.length : Int))) from by omega), if_neg (show ¬ ((0 : Int) = 2) from by omega), Int.toNat_natCast, hA]
  dsimp only
  rw [if_pos (show (0 : Int) = 0 from rfl)]
  unfold behB
  by_cases e : (openR d Q).2 = 0
  · rw [if_pos e, if_pos e, if_pos (chk_open e)]
    rfl
  · rw [if_neg e, if_neg e]
theorem beh_close {L : List Dk} {M : List Ml} {A : Nat} {d : Dk} (hA : L[A]? = some d) (b : Int) (Q : List Int) : behB L M A (closeR d) = stepB L M 1 A b Q := by
  have hAL := (List.getElem?_eq_some_iff.1 hA).1
  unfold stepB
  rw [if_neg (show ¬ (¬ (0 ≤ (A : Int) ∧ (A : Int) < (L.length : Int)) ∨ (1 : Int) = 2 ∧ ¬ (0 ≤ b ∧ b < (L.length : Int))) from by omega), if_neg (show ¬ ((1 : Int) = 2) from by omega), Int.toNat_natCast, hA]
  dsimp only
  rw [if_neg (show ¬ ((1 : Int) = 0) from by omega)]
  unfold behB
  by_cases e : (closeR d).2 = 0
  · rw [if_pos e, if_pos e, if_pos (chk_close e)]
    rfl
  · rw [if_neg e, if_neg e]
theorem beh_getK {L : List Dk} {M : List Ml} {B : Nat} {d : Dk} (hB : L[B]? = some d) {a : Int} (ha : 0 ≤ a ∧ a < L.length) {l1 l2 : List Ml} {m : Ml} (hp : pick a B M = some (l1, m, l2)) (Q : List Int) :
    behB L (l1 ++ l2) B (getK d a m.kind m.epoch m.num) = stepB L M 2 a B Q := by
  have hBL := (List.getElem?_eq_some_iff.1 hB).1
  unfold stepB
  rw [if_neg (by omega), if_pos rfl, hp]
  dsimp only
  rw [Int.toNat_natCast, hB]
  dsimp only
  unfold behB
  by_cases e : (getK d a m.kind m.epoch m.num).2 = 0
  · rw [if_pos e, if_pos e, if_pos (chk_get e)]
    rfl
  · rw [if_neg e, if_neg e]
theorem stepBB_no {L : List Dk} {M : List Ml} (h : chkB L M = false) (k a b : Int) (Q : List Int) : stepBB L M k a b Q = (noB, 160) := by unfold stepBB; rw [h]; rfl
theorem stepBB_yes {L : List Dk} {M : List Ml} (h : chkB L M = true) (k a b : Int) (Q : List Int) : stepBB L M k a b Q = stepB L M k a b Q := by unfold stepBB; rw [if_pos h]
theorem stepB_node {L : List Dk} {M : List Ml} {k a b : Int} {Q : List Int} (hn : ¬ (0 ≤ a ∧ a < L.length) ∨ k = 2 ∧ ¬ (0 ≤ b ∧ b < L.length)) : stepB L M k a b Q = (noB, 161) := by
  unfold stepB; rw [if_pos hn]
theorem stepB_mail {L : List Dk} {M : List Ml} {a b : Int} {Q : List Int} (hn : ¬ (¬ (0 ≤ a ∧ a < L.length) ∨ (2 : Int) = 2 ∧ ¬ (0 ≤ b ∧ b < L.length))) (hp : pick a b M = none) : stepB L M 2 a b Q = (noB, 162) := by
  unfold stepB; rw [if_neg hn, if_pos rfl, hp]
theorem getK_few {d : Dk} {p k me n : Int} : (getK d p k me n).1.sides.length ≤ d.sides.length ∧ (getK d p k me n).1.need.length ≤ d.need.length := by
  unfold getK
  split
  · split
    · simp [noK]
    · split
      · split <;> simp [noK]
      · split
        · split <;> simp [noK]
        · split <;> simp [noK]
  · simp [noK]
theorem closeR_few {d : Dk} : (closeR d).1.sides.length ≤ d.sides.length ∧ (closeR d).1.need.length ≤ 0 := by
  unfold closeR
  split
  · split <;> simp [noK]
  · simp [noK]
theorem openR_few {d : Dk} {Q : List Int} : (openR d Q).1.sides.length ≤ d.sides.length ∧ (openR d Q).1.need.length ≤ Q.length := by
  unfold openR
  split
  · split
    · simp [noK]
    · split
      · exact ⟨Nat.le_refl _, norm_length _⟩
      · simp [noK]
  · simp [noK]
end Go.Proofs.YtfbambemjokmgaaGreat
