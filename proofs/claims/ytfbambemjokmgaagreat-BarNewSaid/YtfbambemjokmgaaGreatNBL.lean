/- Texts of this seat. -/
import Derived.Test.YtfbambemjokmgaaGreatNBC
import Derived.Test.YtfbambemjokmgaaGreatNBK
namespace Go.Proofs.YtfbambemjokmgaaGreat
section
variable {n : Nat} {nb : Nat → List Nat} {ep : Int} {X : Nat → Nat → Sd} {P T : Nat → Int} {N : Nat → List Int} {ms : List Ml} {i : Nat}
theorem BB.look (h : BB n nb ep X P T N ms) (hi : i < n) : BW n nb ep X P T N ms i := ⟨h.c, fun k hk => h.edge i k hi hk, fun a k ha hk _ _ => h.edge a k ha hk, fun a ha _ => h.calm a ha⟩
theorem BB.still (hn : NB n nb) (h : BB n nb ep X P T N ms) (hi : i < n) {k : Nat} (hk : k ∈ nb i) : (eg X P T N ms i k).once false false = eg X P T N ms i k := ((h.look hi).done hn hi (h.calm i hi)).2 k hk
def updN (N : Nat → List Int) (i : Nat) (l : List Int) : Nat → List Int := fun a => if a = i then l else N a
theorem dk_upd {t : Int} {l : List Int} {a : Nat} (h : a ≠ i) : dkOf nb X P (updP T i t) (updN N i l) a = dkOf nb X P T N a := by
  unfold dkOf updP updN
  rw [if_neg h, if_neg h]
theorem eg_upd_o {t : Int} {l : List Int} {a k : Nat} (h : a ≠ i) (hk : k ≠ i) : eg X P (updP T i t) (updN N i l) ms a k = eg X P T N ms a k := by
  unfold eg updP updN
  rw [if_neg h, if_neg h, if_neg hk, if_neg hk]
theorem eg_upd {t : Int} {l : List Int} {k : Nat} (hk : k ≠ i) : eg X P (updP T i t) (updN N i l) ms i k = { eg X P T N ms i k with ta := t.toNat, na := decide ((k : Int) ∈ l) } := by
  unfold eg updP updN
  rw [if_pos rfl, if_pos rfl, if_neg hk, if_neg hk]
  rfl
theorem BB.open_ (hn : NB n nb) (hi : i < n) (h : BB n nb ep X P T N ms) (h0 : T i = 0) {Q : List Int} (hQ : riseB Q = true) (hq : ∀ p ∈ Q, ∃ k : Nat, k ∈ nb i ∧ p = k) : BW n nb ep X P (updP T i 1) (updN N i Q) ms i := by
  refine ⟨⟨h.c.pr, h.c.ph, fun a ha => ?_, fun a ha => ?_, h.c.mail⟩, fun k hk => ?_, fun a k ha hk n1 n2 => ?_, fun a ha n1 => ?_⟩
  · unfold updP; split
    · exact .inr (.inl rfl)
    · exact h.c.th a ha
  · by_cases e : a = i
    · subst e
      unfold updP updN
      rw [if_pos rfl, if_pos rfl]
      exact ⟨(fun h => by cases h), hQ, hq⟩
    · unfold updP updN
      rw [if_neg e, if_neg e]; exact h.c.nd a ha
  · have b2 := (hn.back i k hi hk).2.1
    rw [eg_upd b2]
    have hr := (Ed.rest (h.edge i k hi hk) (h.still hn hi hk)).2.2.1 (by show (T i).toNat = 0; rw [h0]; rfl)
    cases hd : decide ((k : Int) ∈ Q)
    · exact hr.2
    · exact hr.1
  · rw [eg_upd_o n1 n2]; exact h.edge a k ha hk
  · rw [dk_upd n1]; exact h.calm a ha
theorem BB.close_ (hn : NB n nb) (hi : i < n) (h : BB n nb ep X P T N ms) (h0 : T i ≠ 0) : BW n nb ep X P (updP T i 0) (updN N i []) ms i := by
  refine ⟨⟨h.c.pr, h.c.ph, fun a ha => ?_, fun a ha => ?_, h.c.mail⟩, fun k hk => ?_, fun a k ha hk n1 n2 => ?_, fun a ha n1 => ?_⟩
  · unfold updP; split
    · exact .inl rfl
    · exact h.c.th a ha
  · by_cases e : a = i
    · subst e
      unfold updP updN
      rw [if_pos rfl, if_pos rfl]
      exact ⟨fun _ => rfl, rfl, fun p hp => by cases hp⟩
    · unfold updP updN
      rw [if_neg e, if_neg e]; exact h.c.nd a ha
  · have b2 := (hn.back i k hi hk).2.1
    rw [eg_upd b2]
    exact (Ed.rest (h.edge i k hi hk) (h.still hn hi hk)).2.2.2 (by show (T i).toNat ≠ 0; have := h.c.th i hi; omega)
  · rw [eg_upd_o n1 n2]; exact h.edge a k ha hk
  · rw [dk_upd n1]; exact h.calm a ha
def comeS (s : Sd) (k : Int) : Sd := if k = 1 then { s with fork := true } else if k = 2 then { s with token := true } else if k = 3 then { s with bottle := true } else { s with ask := true }
def hasS (s : Sd) (k : Int) : Bool := if k = 1 then s.fork else if k = 2 then s.token else if k = 3 then s.bottle else s.ask
theorem comeS_keeps (s : Sd) (k : Int) : (comeS s k).peer = s.peer ∧ (comeS s k).epoch = s.epoch ∧ (comeS s k).state = s.state := by
  unfold comeS
  split
  · exact ⟨rfl, rfl, rfl⟩
  · split
    · exact ⟨rfl, rfl, rfl⟩
    · split <;> exact ⟨rfl, rfl, rfl⟩
theorem BB.come (hn : NB n nb) (hi : i < n) {k : Nat} {l1 l2 : List Ml} {m : Ml} (h : BB n nb ep X P T N (l1 ++ m :: l2)) (hm : m.from_ = k ∧ m.to_ = i) (hno : ∀ x ∈ l1, ¬ (x.from_ = k ∧ x.to_ = i)) :
    k ∈ nb i ∧ (m.kind = 1 ∨ m.kind = 2 ∨ m.kind = 3 ∨ m.kind = 4) ∧ m.epoch = ep ∧ m.num = 0 ∧ hasS (X i k) m.kind = false ∧
      BW n nb ep (updX X i k (comeS (X i k) m.kind)) P T N (l1 ++ l2) i ∧
      (eg (updX X i k (comeS (X i k) m.kind)) P T N (l1 ++ l2) i k).left < (eg X P T N (l1 ++ m :: l2) i k).left ∧
      (∀ a j : Nat, ¬ (a = i ∧ j = k) → ¬ (a = k ∧ j = i) → eg (updX X i k (comeS (X i k) m.kind)) P T N (l1 ++ l2) a j = eg X P T N (l1 ++ m :: l2) a j) ∧
      (NoR n nb X P T N (l1 ++ m :: l2) → NoR n nb (updX X i k (comeS (X i k) m.kind)) P T N (l1 ++ l2)) := by
  obtain ⟨⟨a, b, ha, hb, e1, e2⟩, hme, hmn⟩ := h.c.mail m (by simp)
  obtain rfl : a = k := by omega
  obtain rfl : b = i := by omega
  obtain ⟨b1, b2, hk⟩ := hn.back a b ha hb
  have hR := Ed.rest (h.edge b a hi hk) (h.still hn hi hk)
  have hG := Ed.good (h.edge b a hi hk)
  have hch : chan (l1 ++ m :: l2) a b = m :: chan (l1 ++ l2) a b := chan_first hm hno
  have hco : chan (l1 ++ m :: l2) b a = chan (l1 ++ l2) b a := chan_cut (by rw [hm.1, hm.2]; omega)
  have hen : (eg X P T N (l1 ++ m :: l2) b a).n = kn m :: (chan (l1 ++ l2) a b).map kn := by show (chan (l1 ++ m :: l2) a b).map kn = _; rw [hch]; rfl
  obtain ⟨f1, f2, f3⟩ := hR.2.1 (by rw [hen]; simp)
  -- what it is
  have hkind : (m.kind = 1 ∨ m.kind = 2 ∨ m.kind = 3 ∨ m.kind = 4) ∧ hasS (X b a) m.kind = false := by
    unfold Ed.free at f1
    rw [hen] at f1
    dsimp only at f1
    have hx : (eg X P T N (l1 ++ m :: l2) b a).x = esOf (X b a) := rfl
    rw [hx] at f1
    have hkn : kn m = m.kind.toNat := rfl
    split at f1
    · next q =>
      have q : kn m = 1 := by simpa using q
      have : m.kind = 1 := by omega
      rw [this]; exact ⟨.inl rfl, by simpa [hasS, esOf] using f1⟩
    · split at f1
      · next q =>
        have q : kn m = 2 := by simpa using q
        have : m.kind = 2 := by omega
        rw [this]; exact ⟨.inr (.inl rfl), by simpa [hasS, esOf] using f1⟩
      · split at f1
        · next q =>
          have q : kn m = 3 := by simpa using q
          have : m.kind = 3 := by omega
          rw [this]; exact ⟨.inr (.inr (.inl rfl)), by simpa [hasS, esOf] using f1⟩
        · rw [Bool.and_eq_true] at f1
          have q : kn m = 4 := by simpa using f1.1
          have : m.kind = 4 := by omega
          rw [this]; exact ⟨.inr (.inr (.inr rfl)), by simpa [hasS, esOf] using f1.2⟩
  obtain ⟨hk4, hfree⟩ := hkind
  have hu : updX X b a (comeS (X b a) m.kind) b a = comeS (X b a) m.kind := by unfold updX; rw [if_pos ⟨rfl, rfl⟩]
  have hv : ∀ (c d : Nat), ¬ (c = b ∧ d = a) → updX X b a (comeS (X b a) m.kind) c d = X c d := fun c d e => by unfold updX; rw [if_neg e]
  have hes : (eg X P T N (l1 ++ m :: l2) b a).come.x = esOf (comeS (X b a) m.kind) := by
    unfold Ed.come
    rw [hen]
    dsimp only
    have hx : (eg X P T N (l1 ++ m :: l2) b a).x = esOf (X b a) := rfl
    rw [hx]
    have hkn : kn m = m.kind.toNat := rfl
    rcases hk4 with q | q | q | q
    · have q2 : kn m = 1 := by rw [hkn, q]; rfl
      have q3 : (X b a).dirty = false := by
        rw [q] at hfree
        have q4 : (X b a).fork = false := hfree
        cases hd : (X b a).dirty
        · rfl
        · have := hG.dx hd
          have : (X b a).fork = true := this
          rw [q4] at this; cases this
      rw [q2, q]
      unfold comeS esOf
      simp [q3]
    · have q2 : kn m = 2 := by rw [hkn, q]; rfl
      rw [q2, q]; rfl
    · have q2 : kn m = 3 := by rw [hkn, q]; rfl
      rw [q2, q]; rfl
    · have q2 : kn m = 4 := by rw [hkn, q]; rfl
      rw [q2, q]; rfl
  have heg : eg (updX X b a (comeS (X b a) m.kind)) P T N (l1 ++ l2) b a = (eg X P T N (l1 ++ m :: l2) b a).come := by
    have hc : (eg X P T N (l1 ++ m :: l2) b a).come = { eg X P T N (l1 ++ m :: l2) b a with n := (chan (l1 ++ l2) a b).map kn, x := (eg X P T N (l1 ++ m :: l2) b a).come.x } := by
      unfold Ed.come
      rw [hen]
    rw [hc, hes]
    unfold eg edOf
    rw [hu, hv a b (by omega), hco]
  have hego : ∀ c d : Nat, ¬ (c = b ∧ d = a) → ¬ (c = a ∧ d = b) → eg (updX X b a (comeS (X b a) m.kind)) P T N (l1 ++ l2) c d = eg X P T N (l1 ++ m :: l2) c d := fun c d n1 n2 => by
    unfold eg
    rw [hv c d n1, hv d c (by omega), chan_cut (l1 := l1) (a := c) (b := d) (by rw [hm.1, hm.2]; omega), chan_cut (l1 := l1) (a := d) (b := c) (by rw [hm.1, hm.2]; omega)]
  refine ⟨hk, hk4, hme, hmn, hfree, ⟨⟨fun c d hc hd => ?_, h.c.ph, h.c.th, h.c.nd, fun x hx => h.c.mail x (by simp only [List.mem_append, List.mem_cons] at hx ⊢; rcases hx with e | e; exact .inl e; exact .inr (.inr e))⟩, fun j hj => ?_, fun c d hc hd n1 n2 => ?_, fun c hc n1 => ?_⟩, by rw [heg]; exact f3, hego, fun ⟨r, hr⟩ => ⟨r, fun c d hc hd hah => ?_⟩⟩
  · by_cases e : c = b ∧ d = a
    · obtain ⟨rfl, rfl⟩ := e
      obtain ⟨q1, q2, q3⟩ := comeS_keeps (X c d) m.kind
      rw [hu, q1, q2, q3]; exact h.c.pr c d hc hd
    · rw [hv c d e]; exact h.c.pr c d hc hd
  · by_cases e : j = a
    · subst e; rw [heg]; exact f2
    · rw [hego b j (fun q => e q.2) (by omega)]; exact h.edge b j hi hj
  · rw [hego c d (fun q => n1 q.1) (fun q => n2 q.2)]; exact h.edge c d hc hd
  · have : dkOf nb (updX X b a (comeS (X b a) m.kind)) P T N c = dkOf nb X P T N c := by
      unfold dkOf
      rw [List.map_congr_left fun d _ => hv c d fun q => n1 q.1]
    rw [this]; exact h.calm c hc
  · have hsame : (eg (updX X b a (comeS (X b a) m.kind)) P T N (l1 ++ l2) b a).ah = (eg X P T N (l1 ++ m :: l2) b a).ah := by
      rw [heg]; exact hG.come (h.still hn hi hk) (by rw [hen]; simp)
    by_cases e : c = b ∧ d = a
    · obtain ⟨rfl, rfl⟩ := e
      rw [hsame] at hah; exact hr c d hc hd hah
    · by_cases e2 : c = a ∧ d = b
      · obtain ⟨rfl, rfl⟩ := e2
        rw [← eg_swap, (Ed.good (by rw [heg]; exact f2)).anti, hsame, ← hG.anti, eg_swap] at hah
        exact hr c d hc hd hah
      · rw [hego c d e e2] at hah; exact hr c d hc hd hah
theorem BC.dn (hn : NB n nb) (h64 : n ≤ 64) (h0 : 0 ≤ ep) (h1 : ep ≤ 65535) (h : BC n nb ep X P T N ms) (hi : i < n) (hdx : ∀ k, k ∈ nb i → ((X i k).dirty && !(X i k).fork) = false) : dnOk ⟨i, P i, (nb i).map (X i)⟩ = true := by
  unfold dnOk headD
  dsimp only
  have hl := nb_len hn hi
  rw [Bool.and_eq_true, Bool.and_eq_true, Bool.and_eq_true]
  refine ⟨⟨by rw [decide_eq_true_eq]; omega, ?_, by rw [decide_eq_true_eq, List.length_map]; omega⟩, ?_⟩
  · have := h.ph i hi
    simp only [Bool.or_eq_true, decide_eq_true_eq]
    omega
  · refine sidesD_nb (X i) (hn.up i) fun k hk => ?_
    have q := h.pr i k hi hk
    have b := hn.back i k hi hk
    exact ⟨by omega, q.1, by omega, by rw [q.2.1]; exact h0, by rw [q.2.1]; exact h1, q.2.2, hdx k hk⟩
theorem BC.chk (hn : NB n nb) (h64 : n ≤ 64) (h0 : 0 ≤ ep) (h1 : ep ≤ 65535) (h : BC n nb ep X P T N ms) (hi : i < n) (hdx : ∀ k, k ∈ nb i → ((X i k).dirty && !(X i k).fork) = false) : chkK (dkOf nb X P T N i) = true := by
  have hd := h.dn hn h64 h0 h1 hi hdx
  obtain ⟨n1, n2, n3⟩ := h.nd i hi
  have ht := h.th i hi
  have e1 : (dkOf nb X P T N i).dn = ⟨i, P i, (nb i).map (X i)⟩ := rfl
  have e2 : (dkOf nb X P T N i).thirst = T i := rfl
  have e3 : (dkOf nb X P T N i).need = N i := rfl
  have e4 : (dkOf nb X P T N i).sides = (nb i).map (X i) := rfl
  unfold chkK
  rw [e1, e2, e3, e4, hd, n2]
  simp only [Bool.and_eq_true, Bool.true_and, Bool.and_true, decide_eq_true_eq, Bool.not_eq_true', Bool.and_eq_false_iff, decide_eq_false_iff_not, Bool.not_eq_false', List.isEmpty_iff, List.all_eq_true, List.any_eq_true]
  refine ⟨⟨by omega, ?_⟩, fun p hp => ?_⟩
  · by_cases e : T i = 0
    · exact .inr (n1 e)
    · exact .inl e
  · obtain ⟨k, hk, rfl⟩ := n3 p hp
    exact ⟨X i k, List.mem_map.2 ⟨k, hk, rfl⟩, by rw [(h.pr i k hi hk).1]; exact beq_self_eq_true _⟩
theorem BB.chk (hn : NB n nb) (h64 : n ≤ 64) (h0 : 0 ≤ ep) (h1 : ep ≤ 65535) (h : BB n nb ep X P T N ms) (hi : i < n) : chkK (dkOf nb X P T N i) = true :=
  h.c.chk hn h64 h0 h1 hi fun k hk => by
    have hG := Ed.good (h.edge i k hi hk)
    cases hd : (X i k).dirty
    · rfl
    · have : (X i k).fork = true := hG.dx hd
      rw [this]; rfl
end
end Go.Proofs.YtfbambemjokmgaaGreat
namespace Go.Proofs.YtfbambemjokmgaaGreat
def drOf (n : Nat) (nb : Nat → List Nat) (X : Nat → Nat → Sd) (P T : Nat → Int) (N : Nat → List Int) : List Dk := (List.range n).map (dkOf nb X P T N)
def noB : List Dk × List Ml := ([], [])
def fireKt (ds : List Dk) (ms : List Ml) (who : Nat) (d : Dk) : List Dk × List Ml := (ds.set who (fireAll d).1, ms ++ (fireAll d).2)
def stepB (ds : List Dk) (ms : List Ml) (k a b : Int) (Q : List Int) : (List Dk × List Ml) × Int :=
  if ¬ (0 ≤ a ∧ a < ds.length) ∨ k = 2 ∧ ¬ (0 ≤ b ∧ b < ds.length) then (noB, 161) else
  if k = 2 then (match pick a b ms with
    | none => (noB, 162)
    | some (l1, m, l2) => match ds[b.toNat]? with
      | none => (noB, 161)
      | some d => if (getK d a m.kind m.epoch m.num).2 = 0 then (fireKt ds (l1 ++ l2) b.toNat (getK d a m.kind m.epoch m.num).1, 0) else (noB, (getK d a m.kind m.epoch m.num).2))
  else match ds[a.toNat]? with
    | none => (noB, 161)
    | some d => if (if k = 0 then openR d Q else closeR d).2 = 0 then (fireKt ds ms a.toNat (if k = 0 then openR d Q else closeR d).1, 0) else (noB, (if k = 0 then openR d Q else closeR d).2)
section
variable {n : Nat} {nb : Nat → List Nat} {ep : Int} {X : Nat → Nat → Sd} {P T : Nat → Int} {N : Nat → List Int} {ms : List Ml} {i : Nat}
theorem dr_len : (drOf n nb X P T N).length = n := by unfold drOf; rw [List.length_map, List.length_range]
theorem dr_get (hi : i < n) : (drOf n nb X P T N)[i]? = some (dkOf nb X P T N i) := by
  unfold drOf
  rw [List.getElem?_map, List.getElem?_range hi]
  rfl
theorem dr_set {X' : Nat → Nat → Sd} {P' T' : Nat → Int} {N' : Nat → List Int} (h : ∀ a, a ≠ i → X' a = X a ∧ P' a = P a ∧ T' a = T a ∧ N' a = N a) :
    (drOf n nb X P T N).set i (dkOf nb X' P' T' N' i) = drOf n nb X' P' T' N' := by
  refine List.ext_getElem? fun a => ?_
  by_cases ha : a < n
  · rw [dr_get ha, List.getElem?_set]
    by_cases e : i = a
    · subst e
      rw [if_pos rfl, if_pos (by rw [dr_len]; exact ha)]
    · have e2 : a ≠ i := fun h => e h.symm
      obtain ⟨q1, q2, q3, q4⟩ := h a e2
      rw [if_neg e, dr_get ha]
      unfold dkOf
      rw [q1, q2, q3, q4]
  · rw [List.getElem?_eq_none (by rw [List.length_set, dr_len]; omega), List.getElem?_eq_none (by rw [dr_len]; omega)]
def totB (Es : List (Nat × Nat)) (X : Nat → Nat → Sd) (P T : Nat → Int) (N : Nat → List Int) (ms : List Ml) : Nat := (Es.map fun e => (eg X P T N ms e.1 e.2).left).sum
theorem totB_lt {Es : List (Nat × Nat)} {X X' : Nat → Nat → Sd} {P P' T T' : Nat → Int} {N N' : Nat → List Int} {ms ms' : List Ml} {i k : Nat} (he : (i, k) ∈ Es ∨ (k, i) ∈ Es) (h1 : (eg X' P' T' N' ms' i k).left < (eg X P T N ms i k).left) (h2 : (eg X' P' T' N' ms' k i).left < (eg X P T N ms k i).left)
    (hall : ∀ e ∈ Es, (eg X' P' T' N' ms' e.1 e.2).left ≤ (eg X P T N ms e.1 e.2).left) : totB Es X' P' T' N' ms' < totB Es X P T N ms := by
  rcases he with e | e
  · exact sum_lt (f := fun e : Nat × Nat => (eg X' P' T' N' ms' e.1 e.2).left) (g := fun e : Nat × Nat => (eg X P T N ms e.1 e.2).left) (e := (i, k)) h1 hall e
  · exact sum_lt (f := fun e : Nat × Nat => (eg X' P' T' N' ms' e.1 e.2).left) (g := fun e : Nat × Nat => (eg X P T N ms e.1 e.2).left) (e := (k, i)) h2 hall e
theorem BB.sym (hn : NB n nb) (h : BB n nb ep X P T N ms) (hi : i < n) {k : Nat} (hk : k ∈ nb i) : (eg X P T N ms k i).left = (eg X P T N ms i k).left := by
  obtain ⟨b1, b2, b3⟩ := hn.back i k hi hk
  have q1 := (Ed.rest (h.edge i k hi hk) (h.still hn hi hk)).1.2
  have q2 := (Ed.rest (h.edge k i b1 b3) (h.still hn b1 b3)).1.2
  rw [eg_swap] at q1 q2
  exact Nat.le_antisymm q1 q2
theorem getK_nb (hn : NB n nb) (hi : i < n) (hc : BC n nb ep X P T N ms) (hok : chkK (dkOf nb X P T N i) = true) {k : Nat} (hk : k ∈ nb i) {m : Ml}
    (h4 : m.kind = 1 ∨ m.kind = 2 ∨ m.kind = 3 ∨ m.kind = 4) (he : m.epoch = ep) (hm : m.num = 0) (hf : hasS (X i k) m.kind = false) :
    getK (dkOf nb X P T N i) k m.kind m.epoch m.num = (dkOf nb (updX X i k (comeS (X i k) m.kind)) P T N i, 0) := by
  obtain ⟨j, hj, hfi⟩ := find_nb (X i) (fun s => s.peer == k && s.epoch == m.epoch) hk (hn.up i) (by rw [(hc.pr i k hi hk).1, (hc.pr i k hi hk).2.1, he]; simp) fun a ha hne => by
    rw [(hc.pr i a hi ha).1]
    have : ((a : Int) == (k : Int)) = false := by simp; omega
    rw [this]; rfl
  have hset : ((nb i).map (X i)).set j (comeS (X i k) m.kind) = (nb i).map (updX X i k (comeS (X i k) m.kind) i) := by
    rw [set_nb (X i) _ (hn.up i) hj]
    refine List.map_congr_left fun a _ => ?_
    unfold updX
    by_cases e : a = k
    · rw [if_pos e, if_pos ⟨rfl, e⟩]
    · rw [if_neg e, if_neg (fun h => e h.2)]
  have hs : (dkOf nb X P T N i).sides = (nb i).map (X i) := rfl
  unfold getK
  rw [if_pos hok, hs, hfi]
  dsimp only
  rw [hm]
  rcases h4 with q | q | q | q
  · rw [q] at hf hset ⊢
    have hf : (X i k).fork = false := hf
    have hw : withR (X i k) 1 0 = (comeS (X i k) 1, 0) := by unfold withR comeS; simp [hf]
    rw [if_neg (by omega), if_neg (by omega), hw, if_pos rfl, hset]; rfl
  · rw [q] at hf hset ⊢
    have hf : (X i k).token = false := hf
    have hw : withR (X i k) 2 0 = (comeS (X i k) 2, 0) := by unfold withR comeS; simp [hf]
    rw [if_neg (by omega), if_neg (by omega), hw, if_pos rfl, hset]; rfl
  · rw [q] at hf hset ⊢
    have hf : (X i k).bottle = false := hf
    rw [if_pos ⟨rfl, rfl⟩, hf, if_neg (by simp)]
    have e : comeS (X i k) 3 = { X i k with bottle := true } := rfl
    rw [← e, hset]; rfl
  · rw [q] at hf hset ⊢
    have hf : (X i k).ask = false := hf
    rw [if_neg (by omega), if_pos ⟨rfl, rfl⟩, hf, if_neg (by simp)]
    have e : comeS (X i k) 4 = { X i k with ask := true } := rfl
    rw [← e, hset]; rfl
theorem BB.stepDel (hn : NB n nb) (h64 : n ≤ 64) (h0 : 0 ≤ ep) (h1 : ep ≤ 65535) {k : Nat} (hk : k < n) (hi : i < n) (Q : List Int) (h : BB n nb ep X P T N ms) (hr : NoR n nb X P T N ms) {Es : List (Nat × Nat)} (he1 : ∀ e ∈ Es, e.1 < n ∧ e.2 ∈ nb e.1) (he2 : ∀ i k, i < n → k ∈ nb i → (i, k) ∈ Es ∨ (k, i) ∈ Es) :
    (pick k i ms = none ∧ stepB (drOf n nb X P T N) ms 2 k i Q = (noB, 162)) ∨
    ∃ (X' : Nat → Nat → Sd) (P' T' : Nat → Int) (ms' : List Ml), stepB (drOf n nb X P T N) ms 2 k i Q = ((drOf n nb X' P' T' N, ms'), 0) ∧ (∀ a, a < n → T' a = T a ∨ T a = 1 ∧ T' a = 2) ∧
      BB n nb ep X' P' T' N ms' ∧ NoR n nb X' P' T' N ms' ∧ totB Es X' P' T' N ms' < totB Es X P T N ms := by
  have hnode : ¬ (¬ ((0 : Int) ≤ k ∧ (k : Int) < (drOf n nb X P T N).length) ∨ (2 : Int) = 2 ∧ ¬ ((0 : Int) ≤ i ∧ (i : Int) < (drOf n nb X P T N).length)) := by rw [dr_len]; omega
  unfold stepB
  rw [if_neg hnode, if_pos rfl]
  cases hp : pick k i ms with
  | none => exact .inl ⟨rfl, rfl⟩
  | some t =>
    obtain ⟨l1, m, l2⟩ := t
    obtain ⟨q1, q2, q3⟩ := pick_some hp
    subst q1
    obtain ⟨hki, c1, c2, c3, c4, c5, c6, c7, c8⟩ := h.come hn hi q2 q3
    have hg := getK_nb hn hi h.c (h.chk hn h64 h0 h1 hi) hki c1 c2 c3 c4
    obtain ⟨X', P', T', f1, f2, f3, f4, f5, f6⟩ := c5.fire hn hi (Nat.lt_succ_self _)
    have hX : ∀ a, a ≠ i → updX X i k (comeS (X i k) m.kind) a = X a := fun a ha => by
      funext j; unfold updX; rw [if_neg (fun e => ha e.1)]
    refine .inr ⟨X', P', T', _, ?_, fun a ha => ?_, f3, f6 (c8 hr), ?_⟩
    · dsimp only
      rw [Int.toNat_natCast, dr_get hi]
      dsimp only
      rw [hg]
      dsimp only
      rw [if_pos rfl]
      unfold fireKt
      rw [f1, dr_set fun a ha => ⟨(f2 a ha).1.trans (hX a ha), (f2 a ha).2.1, (f2 a ha).2.2, rfl⟩]
    · by_cases e : a = i
      · subst e
        have ht : T' a = (fireAll (dkOf nb (updX X a k (comeS (X a k) m.kind)) P T N a)).1.thirst := by rw [f1]; rfl
        rw [ht]
        by_cases h1 : T a = 1
        · have := f3.c.th a ha
          have hk12 : (fireAll (dkOf nb (updX X a k (comeS (X a k) m.kind)) P T N a)).1.thirst = 1 ∨ (fireAll (dkOf nb (updX X a k (comeS (X a k) m.kind)) P T N a)).1.thirst = 2 :=
            fireAll_keeps (I := fun d => d.thirst = 1 ∨ d.thirst = 2) (fun d hd => by
              rcases once_thirst d with q | ⟨_, q, _⟩
              · rw [q]; exact hd
              · exact .inr q) (Nat.lt_succ_self _) (.inl h1)
          rcases hk12 with q | q
          · exact .inl (q.trans h1.symm)
          · exact .inr ⟨h1, q⟩
        · exact .inl (fire_thirst (d := dkOf nb (updX X a k (comeS (X a k) m.kind)) P T N a) h1)
      · exact .inl (f2 a e).2.2
    · -- less is to come
      have hle : (eg X' P' T' N (l1 ++ l2 ++ (fireAll (dkOf nb (updX X i k (comeS (X i k) m.kind)) P T N i)).2) i k).left < (eg X P T N (l1 ++ m :: l2) i k).left := Nat.lt_of_le_of_lt (f4 k hki) c6
      have hall : ∀ j, j ∈ nb i → (eg X' P' T' N (l1 ++ l2 ++ (fireAll (dkOf nb (updX X i k (comeS (X i k) m.kind)) P T N i)).2) i j).left ≤ (eg X P T N (l1 ++ m :: l2) i j).left := fun j hj => by
        by_cases e : j = k
        · subst e; omega
        · have := f4 j hj
          rw [c7 i j (fun q => e q.2) (fun q => by have := (hn.back i j hi hj).2.1; omega)] at this
          exact this
      have key : ∀ e ∈ Es, (eg X' P' T' N (l1 ++ l2 ++ (fireAll (dkOf nb (updX X i k (comeS (X i k) m.kind)) P T N i)).2) e.1 e.2).left ≤ (eg X P T N (l1 ++ m :: l2) e.1 e.2).left := fun e he => by
        obtain ⟨u1, u2⟩ := he1 e he
        obtain ⟨b1, b2, b3⟩ := hn.back e.1 e.2 u1 u2
        by_cases x1 : e.1 = i
        · rw [x1] at u2 ⊢; exact hall e.2 u2
        · by_cases x2 : e.2 = i
          · rw [x2] at b3 ⊢
            rw [f3.sym hn hi b3, h.sym hn hi b3]
            exact hall e.1 b3
          · rw [f5 e.1 e.2 x1 x2, c7 e.1 e.2 (fun q => x1 q.1) (fun q => x2 q.2)]
            exact Nat.le_refl _
      have hle2 := hle
      rw [← f3.sym hn hi hki, ← h.sym hn hi hki] at hle2
      exact totB_lt (he2 i k hi hki) hle hle2 key
theorem BB.stepOpen (hn : NB n nb) (h64 : n ≤ 64) (h0 : 0 ≤ ep) (h1 : ep ≤ 65535) (hi : i < n) (b : Int) (Q : List Int) (h : BB n nb ep X P T N ms) (hr : NoR n nb X P T N ms) :
    (T i ≠ 0 ∧ stepB (drOf n nb X P T N) ms 0 i b Q = (noB, 152)) ∨ (T i = 0 ∧ ¬ (∀ p ∈ Q, ∃ k : Nat, k ∈ nb i ∧ p = k) ∧ stepB (drOf n nb X P T N) ms 0 i b Q = (noB, 151)) ∨
    ∃ (X' : Nat → Nat → Sd) (P' T' : Nat → Int) (ms' : List Ml), stepB (drOf n nb X P T N) ms 0 i b Q = ((drOf n nb X' P' T' (updN N i (norm Q)), ms'), 0) ∧ T i = 0 ∧ (∀ p ∈ Q, ∃ k : Nat, k ∈ nb i ∧ p = k) ∧ (T' i = 1 ∨ T' i = 2) ∧ (Q = [] → T' i = 2) ∧ (∀ a, a ≠ i → T' a = T a) ∧
      BB n nb ep X' P' T' (updN N i (norm Q)) ms' ∧ NoR n nb X' P' T' (updN N i (norm Q)) ms' := by
  have hnode : ¬ (¬ ((0 : Int) ≤ i ∧ (i : Int) < (drOf n nb X P T N).length) ∨ (0 : Int) = 2 ∧ ¬ (0 ≤ b ∧ b < (drOf n nb X P T N).length)) := by rw [dr_len]; omega
  have hl : ∀ p : Int, p ∈ peersL (fun s => decide (s.state = 0)) ((nb i).map (X i)) ↔ ∃ k : Nat, k ∈ nb i ∧ p = k := fun p => by
    unfold peersL
    simp only [List.mem_map, List.mem_filter, decide_eq_true_eq]
    constructor
    · rintro ⟨s, ⟨⟨k, hk, rfl⟩, _⟩, rfl⟩
      exact ⟨k, hk, (h.c.pr i k hi hk).1⟩
    · rintro ⟨k, hk, rfl⟩
      exact ⟨X i k, ⟨⟨k, hk, rfl⟩, (h.c.pr i k hi hk).2.2⟩, (h.c.pr i k hi hk).1⟩
  have hs : (dkOf nb X P T N i).sides = (nb i).map (X i) := rfl
  have ht : (dkOf nb X P T N i).thirst = T i := rfl
  have hB : stepB (drOf n nb X P T N) ms 0 i b Q = if (openR (dkOf nb X P T N i) Q).2 = 0 then (fireKt (drOf n nb X P T N) ms i (openR (dkOf nb X P T N i) Q).1, 0) else (noB, (openR (dkOf nb X P T N i) Q).2) := by
    unfold stepB
    rw [if_neg hnode, if_neg (by omega), Int.toNat_natCast, dr_get hi]
    rfl
  by_cases e0 : T i = 0
  · by_cases eq : ∀ p ∈ Q, ∃ k : Nat, k ∈ nb i ∧ p = k
    · have hO : openR (dkOf nb X P T N i) Q = (⟨(dkOf nb X P T N i).id, (dkOf nb X P T N i).phase, (nb i).map (X i), 1, norm Q⟩, 0) := by
        unfold openR
        rw [if_pos (h.chk hn h64 h0 h1 hi), hs, ht, if_neg (fun c => c e0), if_pos (by rw [List.all_eq_true]; intro p hp; rw [decide_eq_true_eq, hl]; exact eq p hp)]
      have hd : (⟨(dkOf nb X P T N i).id, (dkOf nb X P T N i).phase, (nb i).map (X i), 1, norm Q⟩ : Dk) = dkOf nb X P (updP T i 1) (updN N i (norm Q)) i := by
        unfold dkOf updP updN
        rw [if_pos rfl, if_pos rfl]
      rw [hd] at hO
      rw [hO] at hB
      have hB : stepB (drOf n nb X P T N) ms 0 i b Q = (fireKt (drOf n nb X P T N) ms i (dkOf nb X P (updP T i 1) (updN N i (norm Q)) i), 0) := hB
      rw [hB]
      have hw := h.open_ hn hi e0 (Q := norm Q) ((riseB_iff _).2 (norm_SS Q)) fun p hp => eq p ((mem_norm Q p).1 hp)
      obtain ⟨X', P', T', f1, f2, f3, f4, f5, f6⟩ := hw.fire hn hi (Nat.lt_succ_self _)
      have hti : T' i = (fireAll (dkOf nb X P (updP T i 1) (updN N i (norm Q)) i)).1.thirst := by rw [f1]; rfl
      have ht1 : (dkOf nb X P (updP T i 1) (updN N i (norm Q)) i).thirst = 1 := by unfold dkOf updP; rw [if_pos rfl]
      refine .inr (.inr ⟨X', P', T', _, ?_, e0, eq, ?_, fun hq => ?_, fun a ha => ?_, f3, f6 hr⟩)
      · unfold fireKt
        rw [f1, dr_set fun a ha => ?_]
        obtain ⟨g1, g2, g3⟩ := f2 a ha
        exact ⟨g1, g2, g3.trans (by unfold updP; rw [if_neg ha]), by unfold updN; rw [if_neg ha]⟩
      · rw [hti]
        exact fireAll_keeps (I := fun d => d.thirst = 1 ∨ d.thirst = 2) (fun d hd => by
          rcases once_thirst d with q | ⟨_, q, _⟩
          · rw [q]; exact hd
          · exact .inr q) (Nat.lt_succ_self _) (.inl ht1)
      · rw [hti]
        refine fire_none ht1 ?_
        unfold dkOf updN
        rw [if_pos rfl, hq, norm_nil]
      · rw [(f2 a ha).2.2]; unfold updP; rw [if_neg ha]
    · have hO : openR (dkOf nb X P T N i) Q = (noK, 151) := by
        unfold openR
        rw [if_pos (h.chk hn h64 h0 h1 hi), hs, ht, if_neg (fun c => c e0), if_neg (by rw [List.all_eq_true]; intro hc; exact eq fun p hp => (hl p).1 (by simpa using hc p hp))]
      rw [hO] at hB
      exact .inr (.inl ⟨e0, eq, hB⟩)
  · have hO : openR (dkOf nb X P T N i) Q = (noK, 152) := by
      unfold openR
      rw [if_pos (h.chk hn h64 h0 h1 hi), ht, if_pos e0]
    rw [hO] at hB
    exact .inl ⟨e0, hB⟩
theorem BB.stepClose (hn : NB n nb) (h64 : n ≤ 64) (h0 : 0 ≤ ep) (h1 : ep ≤ 65535) (hi : i < n) (b : Int) (Q : List Int) (h : BB n nb ep X P T N ms) (hr : NoR n nb X P T N ms) :
    (T i = 0 ∧ stepB (drOf n nb X P T N) ms 1 i b Q = (noB, 152)) ∨
    ∃ (X' : Nat → Nat → Sd) (P' T' : Nat → Int) (ms' : List Ml), stepB (drOf n nb X P T N) ms 1 i b Q = ((drOf n nb X' P' T' (updN N i []), ms'), 0) ∧ T i ≠ 0 ∧ T' i = 0 ∧ (∀ a, a ≠ i → T' a = T a) ∧
      BB n nb ep X' P' T' (updN N i []) ms' ∧ NoR n nb X' P' T' (updN N i []) ms' := by
  have hnode : ¬ (¬ ((0 : Int) ≤ i ∧ (i : Int) < (drOf n nb X P T N).length) ∨ (1 : Int) = 2 ∧ ¬ (0 ≤ b ∧ b < (drOf n nb X P T N).length)) := by rw [dr_len]; omega
  have ht : (dkOf nb X P T N i).thirst = T i := rfl
  have hB : stepB (drOf n nb X P T N) ms 1 i b Q = if (closeR (dkOf nb X P T N i)).2 = 0 then (fireKt (drOf n nb X P T N) ms i (closeR (dkOf nb X P T N i)).1, 0) else (noB, (closeR (dkOf nb X P T N i)).2) := by
    unfold stepB
    rw [if_neg hnode, if_neg (by omega), Int.toNat_natCast, dr_get hi]
    rfl
  by_cases e0 : T i = 0
  · have hO : closeR (dkOf nb X P T N i) = (noK, 152) := by
      unfold closeR
      rw [if_pos (h.chk hn h64 h0 h1 hi), ht, if_pos e0]
    rw [hO] at hB
    exact .inl ⟨e0, hB⟩
  · have hO : closeR (dkOf nb X P T N i) = (⟨(dkOf nb X P T N i).id, (dkOf nb X P T N i).phase, (dkOf nb X P T N i).sides, 0, []⟩, 0) := by
      unfold closeR
      rw [if_pos (h.chk hn h64 h0 h1 hi), ht, if_neg e0]
    have hd : (⟨(dkOf nb X P T N i).id, (dkOf nb X P T N i).phase, (dkOf nb X P T N i).sides, 0, []⟩ : Dk) = dkOf nb X P (updP T i 0) (updN N i []) i := by
      unfold dkOf updP updN
      rw [if_pos rfl, if_pos rfl]
    rw [hd] at hO
    rw [hO] at hB
    have hB : stepB (drOf n nb X P T N) ms 1 i b Q = (fireKt (drOf n nb X P T N) ms i (dkOf nb X P (updP T i 0) (updN N i []) i), 0) := hB
    rw [hB]
    have hw := h.close_ hn hi e0
    obtain ⟨X', P', T', f1, f2, f3, f4, f5, f6⟩ := hw.fire hn hi (Nat.lt_succ_self _)
    have hti : T' i = (fireAll (dkOf nb X P (updP T i 0) (updN N i []) i)).1.thirst := by rw [f1]; rfl
    have ht0 : (dkOf nb X P (updP T i 0) (updN N i []) i).thirst = 0 := by unfold dkOf updP; rw [if_pos rfl]
    refine .inr ⟨X', P', T', _, ?_, e0, ?_, fun a ha => ?_, f3, f6 hr⟩
    · unfold fireKt
      rw [f1, dr_set fun a ha => ?_]
      obtain ⟨g1, g2, g3⟩ := f2 a ha
      exact ⟨g1, g2, g3.trans (by unfold updP; rw [if_neg ha]), by unfold updN; rw [if_neg ha]⟩
    · rw [hti, fire_thirst (by rw [ht0]; omega), ht0]
    · rw [(f2 a ha).2.2]; unfold updP; rw [if_neg ha]
end
end Go.Proofs.YtfbambemjokmgaaGreat
namespace Go.Proofs.YtfbambemjokmgaaGreat
theorem init_ok : (edOf ⟨0, 0, 0, true, true, false, true, false⟩ ⟨0, 0, 0, false, false, true, false, true⟩ [] [] 0 0 0 0 false false).ok = true ∧ (edOf ⟨0, 0, 0, false, false, true, false, true⟩ ⟨0, 0, 0, true, true, false, true, false⟩ [] [] 0 0 0 0 false false).ok = true := ⟨by kernel_rfl, by kernel_rfl⟩
section
variable {n : Nat} {nb : Nat → List Nat} {ep : Int} {X : Nat → Nat → Sd} {P T : Nat → Int} {N : Nat → List Int} {ms : List Ml} {i : Nat}
theorem kn_one (m : Ml) (q : Nat) (hq : 1 ≤ q) : (kn m == q) = (m.kind == (q : Int)) := by
  have : kn m = m.kind.toNat := rfl
  rw [Bool.eq_iff_iff, beq_iff_eq, beq_iff_eq]
  omega
theorem ah_eg (X : Nat → Nat → Sd) (P T : Nat → Int) (N : Nat → List Int) (ms : List Ml) (i k : Nat) : (eg X P T N ms i k).ah = ah X ms i k := by
  have e : ((chan ms k i).map kn).any (fun q => q == 1) = (chan ms k i).any fun m => m.kind == 1 := by
    rw [List.any_map]
    congr 1
    funext m
    exact kn_one m 1 (Nat.le_refl _)
  unfold ah ahd Ed.ah
  show (((X i k).fork && !(X i k).dirty) || (((X k i).fork && (X k i).dirty) || (!(X i k).fork && (!(X k i).fork && ((chan ms k i).map kn).any (fun q => q == 1))))) = _
  rw [e, ← Bool.or_assoc, Bool.and_assoc (!(X i k).fork)]
theorem BB.oneAhead (h : BB n nb ep X P T N ms) (hi : i < n) {k : Nat} (hk : k ∈ nb i) : ah X ms k i = !ah X ms i k := by
  rw [← ah_eg X P T N ms i k, ← (Ed.good (h.edge i k hi hk)).anti, eg_swap, ah_eg]
theorem NoR.round (h : NoR n nb X P T N ms) : NoRound n nb X ms := by
  obtain ⟨r, hr⟩ := h
  exact ⟨r, fun a k ha hk q => hr a k ha hk (by rw [ah_eg]; exact q)⟩
theorem BC.told (h : BC n nb ep X P T N ms) (a b : Int) : (∀ m ∈ chan ms a b, m.epoch = ep) ∧ ∀ m ∈ chan ms a b, m.num = 0 :=
  ⟨fun m hm => (h.mail m (List.mem_filter.1 hm).1).2.1, fun m hm => (h.mail m (List.mem_filter.1 hm).1).2.2⟩
theorem BC.sideR (hn : NB n nb) (h : BC n nb ep X P T N ms) {k : Nat} (hi : i < n) (hk : k ∈ nb i) : sideR ((nb i).map (X i)) k = (X i k, true) := by
  have : ((nb i).map (X i)).find? (fun s => s.peer == (k : Int)) = some (X i k) := by
    rw [List.find?_map]
    have e : (nb i).find? ((fun s : Sd => s.peer == (k : Int)) ∘ X i) = some k := by
      rw [List.find?_eq_some_iff_append]
      obtain ⟨l1, l2, hl⟩ := List.append_of_mem hk
      refine ⟨by simp [(h.pr i k hi hk).1], l1, l2, hl, fun a ha => ?_⟩
      have ham : a ∈ nb i := by rw [hl]; exact List.mem_append_left _ ha
      have hlt : a < k := by
        have := hn.up i
        rw [hl] at this
        exact (List.pairwise_append.1 this).2.2 a ha k (List.mem_cons_self ..)
      have := (h.pr i a hi ham).1
      simp only [Function.comp, this, Bool.not_eq_true', beq_eq_false_iff_ne, ne_eq]
      omega
    rw [e]; rfl
  unfold Go.Proofs.YtfbambemjokmgaaGreat.sideR
  rw [this]
def cntB (x y : Sd) (ms : List Ml) (a b q : Int) : Nat := cond (hasS x q) 1 0 + cond (hasS y q) 1 0 + ms.countP fun m => betweenB a b m && (m.kind == q && m.epoch == x.epoch)
theorem cntN_map (q : Nat) (hq : 1 ≤ q) : ∀ l : List Ml, cntN q (l.map kn) = l.countP fun m => m.kind == (q : Int)
  | [] => rfl
  | m :: l => by
    rw [List.map_cons, List.countP_cons, ← cntN_map q hq l]
    show bn (kn m == q) + _ = _
    rw [kn_one m q hq]
    cases m.kind == (q : Int)
    · show 0 + _ = _; simp
    · show 1 + _ = _; simp; omega
theorem BB.count (hn : NB n nb) (h : BB n nb ep X P T N ms) {k : Nat} (hi : i < n) (hk : k ∈ nb i) {q : Int} (hq : q = 1 ∨ q = 2 ∨ q = 3 ∨ q = 4) : cntB (X i k) (X k i) ms i k q = 1 := by
  have hne : (i : Int) ≠ k := by have := (hn.back i k hi hk).2.1; omega
  have hG := Ed.good (h.edge i k hi hk)
  have hep := (h.c.pr i k hi hk).2.1
  have key : ∀ {c : Nat}, 1 ≤ c → q = c → (ms.countP fun m => betweenB i k m && (m.kind == q && m.epoch == (X i k).epoch)) = cntN c (eg X P T N ms i k).m + cntN c (eg X P T N ms i k).n := fun {c} hc hqc => by
    rw [countP_chan hne (fun m => m.kind == q && m.epoch == (X i k).epoch) ms]
    have f : ∀ a b : Int, (chan ms a b).countP (fun m => m.kind == q && m.epoch == (X i k).epoch) = cntN c ((chan ms a b).map kn) := fun a b => by
      rw [cntN_map c hc, hqc]
      refine List.countP_congr fun m hm => ?_
      rw [hep, (h.c.told a b).1 m hm]; simp
    rw [f, f]; rfl
  unfold cntB
  rcases hq with rfl | rfl | rfl | rfl
  · rw [key (c := 1) (by omega) rfl]; exact hG.one1
  · rw [key (c := 2) (by omega) rfl]; exact hG.one2
  · rw [key (c := 3) (by omega) rfl]; exact hG.one3
  · rw [key (c := 4) (by omega) rfl]; exact hG.one4
theorem BB.first {c : Nat → Int} (hc : ∀ i k, i < n → k ∈ nb i → c i ≠ c k) : BB n nb 1 (sideN c) (fun _ => 0) (fun _ => 0) (fun _ => []) [] := by
  have hC : BC n nb 1 (sideN c) (fun _ => 0) (fun _ => 0) (fun _ => []) [] :=
    ⟨fun i k hi hk => by unfold sideN; split <;> exact ⟨rfl, rfl, rfl⟩, fun _ _ => .inl rfl, fun _ _ => .inl rfl, fun _ _ => ⟨fun _ => rfl, rfl, fun p hp => by cases hp⟩, fun m hm => by cases hm⟩
  refine ⟨hC, fun i k hi hk => ?_, fun i hi => ?_⟩
  · have hne := hc i k hi hk
    by_cases h : c i < c k
    · have h' : ¬ c k < c i := by omega
      have e1 : sideN c i k = ⟨k, 1, 0, false, false, true, false, true⟩ := if_pos h
      have e2 : sideN c k i = ⟨i, 1, 0, true, true, false, true, false⟩ := if_neg h'
      unfold eg
      rw [e1, e2]
      exact init_ok.2
    · have h' : c k < c i := by omega
      have e1 : sideN c i k = ⟨k, 1, 0, true, true, false, true, false⟩ := if_neg h
      have e2 : sideN c k i = ⟨i, 1, 0, false, false, true, false, true⟩ := if_pos h'
      unfold eg
      rw [e1, e2]
      exact init_ok.1
  · rw [once_dk nb _ _ _ _ i (hC.hop hi)]
    have he : eK nb (sideN c) (fun _ => 0) (fun _ => 0) i = false := rfl
    have hd : drK nb (sideN c) (fun _ => 0) (fun _ => 0) (fun _ => []) i = false := rfl
    have hX : ∀ k, XO nb (sideN c) (fun _ => 0) (fun _ => 0) (fun _ => []) i i k = sideN c i k := fun k => by
      rw [XO_i, he]
      by_cases h : c i < c k
      · have e1 : sideN c i k = ⟨k, 1, 0, false, false, true, false, true⟩ := if_pos h
        rw [e1]; rfl
      · have e1 : sideN c i k = ⟨k, 1, 0, true, true, false, true, false⟩ := if_neg h
        rw [e1]; rfl
    unfold dkOf
    rw [PO_i, TO_i, he, hd, List.map_congr_left fun k _ => hX k]
    rfl
theorem NoR.first {c : Nat → Int} (hn : NB n nb) (h0 : ∀ i, i < n → 0 ≤ c i) (hc : ∀ i k, i < n → k ∈ nb i → c i ≠ c k) : NoR n nb (sideN c) (fun _ => 0) (fun _ => 0) (fun _ => []) [] := by
  obtain ⟨r, hr⟩ := NoRound.first hn h0 hc
  exact ⟨r, fun a k ha hk h => hr a k ha hk (by rw [← ah_eg (sideN c) (fun _ => 0) (fun _ => 0) (fun _ => [])]; exact h)⟩
def GoodB (n : Nat) (nb : Nat → List Nat) (ep : Int) (ds : List Dk) (ms : List Ml) : Prop := ∃ (X : Nat → Nat → Sd) (P T : Nat → Int) (N : Nat → List Int), ds = drOf n nb X P T N ∧ BB n nb ep X P T N ms ∧ NoR n nb X P T N ms
theorem GoodB.step (hn : NB n nb) (h64 : n ≤ 64) (h0 : 0 ≤ ep) (h1 : ep ≤ 65535) {ds : List Dk} {k a b : Int} {Q : List Int} (hk : k = 0 ∨ k = 1 ∨ k = 2) (h : GoodB n nb ep ds ms) :
    (stepB ds ms k a b Q).2 = 0 ∧ GoodB n nb ep (stepB ds ms k a b Q).1.1 (stepB ds ms k a b Q).1.2 ∨ (stepB ds ms k a b Q).1 = noB ∧ ((stepB ds ms k a b Q).2 = 151 ∨ (stepB ds ms k a b Q).2 = 152 ∨ (stepB ds ms k a b Q).2 = 161 ∨ (stepB ds ms k a b Q).2 = 162) := by
  obtain ⟨X, P, T, N, rfl, hb, hr⟩ := h
  by_cases hnode : ¬ (0 ≤ a ∧ a < (drOf n nb X P T N).length) ∨ k = 2 ∧ ¬ (0 ≤ b ∧ b < (drOf n nb X P T N).length)
  · unfold stepB
    rw [if_pos hnode]
    exact .inr ⟨rfl, .inr (.inr (.inl rfl))⟩
  · have hnode' := hnode
    rw [dr_len] at hnode'
    obtain ⟨a, rfl⟩ : ∃ c : Nat, a = c := ⟨a.toNat, by omega⟩
    have ha : a < n := by omega
    rcases hk with rfl | rfl | rfl
    · rcases hb.stepOpen hn h64 h0 h1 ha b Q hr with ⟨_, e⟩ | ⟨_, _, e⟩ | ⟨X', P', T', ms', e, _, _, _, _, _, q1, q2⟩ <;> rw [e]
      · exact .inr ⟨rfl, .inr (.inl rfl)⟩
      · exact .inr ⟨rfl, .inl rfl⟩
      · exact .inl ⟨rfl, X', P', T', _, rfl, q1, q2⟩
    · rcases hb.stepClose hn h64 h0 h1 ha b Q hr with ⟨_, e⟩ | ⟨X', P', T', ms', e, _, _, _, q1, q2⟩ <;> rw [e]
      · exact .inr ⟨rfl, .inr (.inl rfl)⟩
      · exact .inl ⟨rfl, X', P', T', _, rfl, q1, q2⟩
    · obtain ⟨b, rfl⟩ : ∃ c : Nat, b = c := ⟨b.toNat, by omega⟩
      have hEs1 : ∀ e ∈ (List.range n).flatMap (fun i => (nb i).map fun k => (i, k)), e.1 < n ∧ e.2 ∈ nb e.1 := fun e he => by
        obtain ⟨i, hi, he⟩ := List.mem_flatMap.1 he
        obtain ⟨k, hk, rfl⟩ := List.mem_map.1 he
        exact ⟨List.mem_range.1 hi, hk⟩
      have hEs2 : ∀ i k, i < n → k ∈ nb i → (i, k) ∈ (List.range n).flatMap (fun i => (nb i).map fun k => (i, k)) ∨ (k, i) ∈ (List.range n).flatMap (fun i => (nb i).map fun k => (i, k)) := fun i k hi hk =>
        .inl (List.mem_flatMap.2 ⟨i, List.mem_range.2 hi, List.mem_map.2 ⟨k, hk, rfl⟩⟩)
      rcases hb.stepDel hn h64 h0 h1 ha (by omega : b < n) Q hr hEs1 hEs2 with ⟨_, e⟩ | ⟨X', P', T', ms', e, _, q1, q2, _⟩ <;> rw [e]
      · exact .inr ⟨rfl, .inr (.inr (.inr rfl))⟩
      · exact .inl ⟨rfl, X', P', T', N, rfl, q1, q2⟩
end
end Go.Proofs.YtfbambemjokmgaaGreat
