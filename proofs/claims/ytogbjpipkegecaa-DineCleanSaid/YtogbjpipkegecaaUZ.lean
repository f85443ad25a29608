/- Layer 13 (mathematics): a fork that comes is kept till one has eaten. -/
import Derived.Test.YtogbjpipkegecaaUX
namespace Go.Proofs.Ytogbjpipkegecaa

theorem sidesD_low {id : Int} : ∀ {L : List Sd} {last : Int}, sidesD id last L = true → ∀ (k : Nat) (b : Sd), L[k]? = some b → last < b.peer
  | [], _, _, _, _, hb => by simp at hb
  | s :: L, last, h, 0, b, hb => by
    obtain rfl : s = b := by simpa using hb
    exact sideD_low (sidesD_cons.1 h).1
  | s :: L, last, h, k + 1, b, hb => by
    have h1 := sideD_low (sidesD_cons.1 h).1
    have h2 := sidesD_low (sidesD_cons.1 h).2 k b (by simpa using hb)
    omega
theorem sidesD_lt {id : Int} : ∀ {L : List Sd} {last : Int}, sidesD id last L = true → ∀ (j k : Nat) (a b : Sd), j < k → L[j]? = some a → L[k]? = some b → a.peer < b.peer
  | [], _, _, _, _, _, _, _, ha, _ => by simp at ha
  | s :: L, last, h, 0, 0, a, b, hj, _, _ => by omega
  | s :: L, last, h, 0, k + 1, a, b, _, ha, hb => by
    obtain rfl : s = a := by simpa using ha
    exact sidesD_low (sidesD_cons.1 h).2 k b (by simpa using hb)
  | s :: L, last, h, j + 1, 0, a, b, hj, _, _ => by omega
  | s :: L, last, h, j + 1, k + 1, a, b, hj, ha, hb => sidesD_lt (sidesD_cons.1 h).2 j k a b (by omega) (by simpa using ha) (by simpa using hb)
theorem side_of {id last : Int} {L : List Sd} (h : sidesD id last L = true) {k : Nat} {u : Sd} (hu : L[k]? = some u) : sideR L u.peer = (u, true) := by
  refine sideR_at (k := k) ?_ hu (by simp)
  rw [List.any_eq_false]
  intro x hx
  obtain ⟨j, hj⟩ := List.getElem?_of_mem hx
  have hjk : j < k := by
    have := (List.getElem?_eq_some_iff.1 hj).1
    rw [List.length_take] at this; omega
  rw [List.getElem?_take_of_lt hjk] at hj
  have := sidesD_lt h j k x u hjk hj hu
  simp only [beq_iff_eq]
  omega
theorem sidesD_set {id : Int} : ∀ {L : List Sd} {last : Int} {k : Nat} {s t : Sd}, sidesD id last L = true → L[k]? = some s → t.peer = s.peer → t.epoch = s.epoch → t.state = s.state → (t.dirty && !t.fork) = false → sidesD id last (L.set k t) = true
  | [], _, _, _, _, _, hs, _, _, _, _ => by simp at hs
  | a :: L, last, 0, s, t, h, hs, e1, e2, e3, e4 => by
    obtain rfl : a = s := by simpa using hs
    rw [List.set_cons_zero]
    refine sidesD_cons.2 ⟨sideD_of (sidesD_cons.1 h).1 e1 e2 e3 e4, ?_⟩
    rw [e1]; exact (sidesD_cons.1 h).2
  | a :: L, last, k + 1, s, t, h, hs, e1, e2, e3, e4 => by
    rw [List.set_cons_succ]
    exact sidesD_cons.2 ⟨(sidesD_cons.1 h).1, sidesD_set (sidesD_cons.1 h).2 (by simpa using hs) e1 e2 e3 e4⟩
theorem dnOk_set {id ph : Int} {L : List Sd} {k : Nat} {s t : Sd} (h : dnOk ⟨id, ph, L⟩ = true) (hs : L[k]? = some s) (e1 : t.peer = s.peer) (e2 : t.epoch = s.epoch) (e3 : t.state = s.state) (e4 : (t.dirty && !t.fork) = false) : dnOk ⟨id, ph, L.set k t⟩ = true := by
  unfold dnOk at *
  rw [Bool.and_eq_true] at *
  exact ⟨head_of h.1 rfl (.inl rfl) (List.length_set ..), sidesD_set h.2 hs e1 e2 e3 e4⟩
theorem findS_spec {q : Sd → Bool} : ∀ {L : List Sd} {k : Nat} {s : Sd}, findS q L = some (k, s) → L[k]? = some s ∧ q s = true
  | [], _, _, h => by simp [findS] at h
  | t :: L, k, s, h => by
    unfold findS at h
    split at h
    · next hq =>
      simp only [Option.some.injEq, Prod.mk.injEq] at h
      obtain ⟨rfl, rfl⟩ := h
      exact ⟨rfl, hq⟩
    · rw [Option.map_eq_some_iff] at h
      obtain ⟨⟨k', s'⟩, h1, h2⟩ := h
      simp only [Prod.mk.injEq] at h2
      obtain ⟨rfl, rfl⟩ := h2
      have := findS_spec h1
      exact ⟨by simpa using this.1, this.2⟩
theorem noD_ok : dnOk noD = true := by decide
/-- what Get may answer -/
theorem getR_ways (d : Dn) (p k me : Int) (hk : k = 1 ∨ k = 2) : (∃ er, er ≠ 0 ∧ getR d p k me 0 = (noD, er)) ∨ (dnOk d = true ∧ ∃ (j : Nat) (s : Sd), d.sides[j]? = some s ∧ s.peer = p ∧ s.epoch = me ∧ (k = 1 → s.fork = false) ∧ getR d p k me 0 = (⟨d.id, d.phase, d.sides.set j (if k = 1 then { s with fork := true } else { s with token := true })⟩, 0)) := by
  unfold getR
  cases h : dnOk d
  · exact .inl ⟨130, by decide, by rw [if_neg (by simp)]⟩
  · rw [if_pos rfl]
    cases hf : findS (fun s => s.peer == p && s.epoch == me) d.sides with
    | none => exact .inl ⟨131, by decide, rfl⟩
    | some x =>
      obtain ⟨j, s⟩ := x
      obtain ⟨h1, h2⟩ := findS_spec hf
      simp only [Bool.and_eq_true, beq_iff_eq] at h2
      dsimp only
      by_cases hb : (k = 1 ∧ s.fork = true) ∨ (k = 2 ∧ s.token = true)
      · have hw : withR s k 0 = (Sd.zero, 132) := by
          unfold withR
          rw [if_neg (by omega), if_pos hb]
        rw [hw]
        exact .inl ⟨132, by decide, rfl⟩
      · have hw : withR s k 0 = ((if k = 1 then { s with fork := true } else { s with token := true }), 0) := by
          unfold withR
          rw [if_neg (by omega), if_neg hb]
          split <;> rfl
        rw [hw]
        refine .inr ⟨rfl, j, s, h1, h2.1, h2.2, fun e => ?_, rfl⟩
        cases hs : s.fork
        · rfl
        · exact absurd (.inl ⟨e, hs⟩) hb

theorem clean_vals {d x : Dn} {p me : Int} (h : getR d p 1 me 0 = (x, 0)) : ∃ (y z w : Dn) (ly lw : List Ml) (ez : Int) (u v : Sd) (bt : Bool), fireR x = (y, ly, 0) ∧ getR y p 2 me 0 = (z, ez) ∧ fireR z = (w, lw, 0) ∧ sideR y.sides p = (u, true) ∧ sideR w.sides p = (v, bt) ∧ u.fork = true ∧ (z.sides = [] ∨ v.fork = true) ∧ u.dirty = ((y.phase == 2) && (d.phase == 1)) ∧ x.sides.length = d.sides.length ∧ y.sides.length = d.sides.length ∧ z.sides.length ≤ d.sides.length := by
  rcases getR_ways d p 1 me (.inl rfl) with ⟨er, h1, h2⟩ | ⟨hd, k, s, hs, rfl, rfl, hf, h2⟩
  · rw [h2] at h
    simp only [Prod.mk.injEq] at h
    exact absurd h.2 h1
  rw [h2] at h
  simp only [if_true, Prod.mk.injEq, and_true] at h
  subst h
  obtain ⟨id, ph, L⟩ := d
  dsimp only at hs ⊢
  have hsf := hf rfl
  have hsd : s.dirty = false := by
    unfold dnOk at hd
    rw [Bool.and_eq_true] at hd
    have hk := (List.getElem?_eq_some_iff.1 hs).1
    have e : L = L.take k ++ s :: L.drop (k + 1) := by rw [← (List.getElem?_eq_some_iff.1 hs).2, List.getElem_cons_drop hk, List.take_append_drop]
    cases hc : s.dirty
    · rfl
    · have hd2 := hd.2
      dsimp only at hd2
      exfalso
      have hbad : sidesD id (-1) L = false := sides_bad id L (-1) k s hs (by
        unfold sideD; rw [hc, hsf]; simp)
      rw [hbad] at hd2; cases hd2
  have hx : dnOk ⟨id, ph, L.set k { s with fork := true }⟩ = true := dnOk_set hd hs rfl rfl rfl (by simp)
  have hsx : (L.set k { s with fork := true })[k]? = some { s with fork := true } := by
    rw [List.getElem?_set_self (List.getElem?_eq_some_iff.1 hs).1]
  have hlx : (L.set k { s with fork := true }).length = L.length := List.length_set ..
  obtain ⟨X, hX⟩ : ∃ X : Dn, X = ⟨id, ph, L.set k { s with fork := true }⟩ := ⟨_, rfl⟩
  rw [← hX] at hx ⊢
  have hXs : X.sides[k]? = some { s with fork := true } := by rw [hX]; exact hsx
  have hXp : X.phase = ph := by rw [hX]
  have hXl : X.sides.length = L.length := by rw [hX]; exact hlx
  have hnh : hot X.phase { s with fork := true } = false := by unfold hot; rw [hsd]; simp
  have hng : gone X.phase { s with fork := true } = { s with fork := true } := by unfold gone; rw [if_neg (by rw [hnh]; simp)]
  obtain ⟨u, hu, u1, u2, u3, u4, u5, u6, u7⟩ := fireD_at hXs
  have hyk := dnOk_fire hx
  have hyl := (fireD_len X).1
  have hud : u.dirty = (((fireD X).phase == 2) && (ph == 1)) := by
    have e0 : fireS1 X.phase { s with fork := true } = { s with fork := true } := by
      unfold fireS1 asked
      rw [hng, if_neg (by unfold wants; simp)]
    have hu2 := hu
    unfold fireD at hu2 ⊢
    split at hu2
    · next he =>
      rw [if_pos he]
      have hq : (dirtyAll (fireSs X.phase X.sides))[k]? = some { (fireS1 X.phase { s with fork := true }) with dirty := true } := by
        unfold dirtyAll fireSs
        rw [List.getElem?_map, List.getElem?_map, hXs]; rfl
      have hp1 : ph = 1 := by unfold eats at he; rw [Bool.and_eq_true, decide_eq_true_eq, hXp] at he; exact he.1
      have : u = { (fireS1 X.phase { s with fork := true }) with dirty := true } := by
        have := hu2.symm.trans hq; simpa using this
      rw [this, hp1]; rfl
    · next he =>
      rw [if_neg he]
      have hq : (fireSs X.phase X.sides)[k]? = some (fireS1 X.phase { s with fork := true }) := by
        unfold fireSs
        rw [List.getElem?_map, hXs]; rfl
      have : u = fireS1 X.phase { s with fork := true } := by
        have := hu2.symm.trans hq; simpa using this
      rw [this, e0]
      show s.dirty = _
      rw [hsd]
      show false = ((X.phase == 2) && (ph == 1))
      rw [hXp]
      by_cases e : ph = 1
      · rw [e]; rfl
      · simp [e]
  have huf : u.fork = true := by rw [u6, hnh]; rfl
  have hside : sideR (fireD X).sides s.peer = (u, true) := by
    have h1 : sidesD (fireD X).id (-1) (fireD X).sides = true := by unfold dnOk at hyk; rw [Bool.and_eq_true] at hyk; exact hyk.2
    have := side_of h1 hu
    rw [u1] at this
    exact this
  have hfx : fireR X = (fireD X, fireMl X, 0) := by unfold fireR; rw [if_pos hx]
  rcases getR_ways (fireD X) s.peer 2 s.epoch (.inr rfl) with ⟨er, h3, h4⟩ | ⟨_, k2, s2, hs2, hp2, he2, _, h4⟩
  · obtain ⟨⟨v, bt⟩, hv⟩ : ∃ r, sideR (fireD noD).sides s.peer = r := ⟨_, rfl⟩
    exact ⟨fireD X, noD, fireD noD, fireMl X, fireMl noD, er, u, v, bt, hfx, h4, by unfold fireR; rw [if_pos noD_ok], hside, hv, huf, .inl rfl, hud, hlx, hyl.trans hXl, Nat.zero_le _⟩
  · have h1 : sidesD (fireD X).id (-1) (fireD X).sides = true := by unfold dnOk at hyk; rw [Bool.and_eq_true] at hyk; exact hyk.2
    have hkk : k2 = k := by
      rcases Nat.lt_trichotomy k2 k with e | e | e
      · have := sidesD_lt h1 k2 k s2 u e hs2 hu; rw [u1] at this; change s2.peer < s.peer at this; omega
      · exact e
      · have := sidesD_lt h1 k k2 u s2 e hu hs2; rw [u1] at this; change s.peer < s2.peer at this; omega
    subst hkk
    obtain rfl : s2 = u := by have := hs2.symm.trans hu; simpa using this
    rw [if_neg (by decide)] at h4
    have hz : dnOk ⟨(fireD X).id, (fireD X).phase, (fireD X).sides.set k2 { s2 with token := true }⟩ = true := dnOk_set (by exact hyk) hu rfl rfl rfl (by rw [huf]; simp)
    obtain ⟨Z, hZ⟩ : ∃ Z : Dn, Z = ⟨(fireD X).id, (fireD X).phase, (fireD X).sides.set k2 { s2 with token := true }⟩ := ⟨_, rfl⟩
    rw [← hZ] at hz h4
    have hZs : Z.sides[k2]? = some { s2 with token := true } := by rw [hZ]; exact List.getElem?_set_self (List.getElem?_eq_some_iff.1 hu).1
    have hZp : Z.phase = (fireD X).phase := by rw [hZ]
    have hZl : Z.sides.length = (fireD X).sides.length := by rw [hZ]; exact List.length_set ..
    have hnz : hot Z.phase { s2 with token := true } = false := by
      rw [hot_bits, hZp]
      show ((s2.fork && s2.dirty && true) && ((fireD X).phase != 2)) = false
      rw [hud]
      cases hq : (fireD X).phase == 2
      · simp
      · have : ((fireD X).phase != 2) = false := by unfold bne; rw [hq]; rfl
        rw [this]; simp
    obtain ⟨v, hv, v1, v2, v3, v4, v5, v6, v7⟩ := fireD_at hZs
    have hwk := dnOk_fire hz
    have h5 : sidesD (fireD Z).id (-1) (fireD Z).sides = true := by unfold dnOk at hwk; rw [Bool.and_eq_true] at hwk; exact hwk.2
    have hvs := side_of h5 hv
    rw [v1] at hvs
    change sideR (fireD Z).sides s2.peer = (v, true) at hvs
    rw [hp2] at hvs
    refine ⟨fireD X, Z, fireD Z, fireMl X, fireMl Z, 0, s2, v, true, hfx, h4, by unfold fireR; rw [if_pos hz], hside, hvs, huf, .inr ?_, hud, hlx, hyl.trans hXl, ?_⟩
    · rw [v6, hnz]
      show (s2.fork && true) = true
      rw [huf]; rfl
    · rw [hZl, hyl, hXl]; exact Nat.le_refl _

end Go.Proofs.Ytogbjpipkegecaa
