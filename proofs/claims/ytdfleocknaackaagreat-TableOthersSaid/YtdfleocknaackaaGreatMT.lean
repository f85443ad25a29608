/- Layer 14 (mathematics): one edge: where its fork and its token are; what an act at one of its ends makes of it. -/
import Derived.Test.YtdfleocknaackaaGreatMUL
import Derived.Test.YtdfleocknaackaaGreatDR1
import Derived.Test.YtdfleocknaackaaGreatMPM
namespace Go.Proofs.YtdfleocknaackaaGreat

def fk (a b ep : Int) : Ml := ⟨a, b, 1, ep, 0⟩
def tk (a b ep : Int) : Ml := ⟨a, b, 2, ep, 0⟩
/-- the fork is with a, or on its way from a; x: a's side, y: b's; mab, mba: what is on its way; pa, pb: the phases -/
inductive E1 (a b ep : Int) (x y : Sd) (mab mba : List Ml) (pa pb : Int) : Prop
  | f1 (xf : x.fork = true) (xt : x.token = false) (yt : y.token = true) (m : mab = []) (n : mba = []) (hb : pb = 0)
  | f2 (xf : x.fork = true) (xt : x.token = true) (yt : y.token = false) (m : mab = []) (n : mba = []) (hb : pb = 1) (hc : x.dirty = true → pa = 2)
  | f3 (xf : x.fork = true) (xt : x.token = false) (yt : y.token = false) (m : mab = []) (n : mba = [tk b a ep]) (hb : pb = 1)
  | f4 (xf : x.fork = false) (xt : x.token = true) (yt : y.token = false) (m : mab = [fk a b ep]) (n : mba = []) (hb : pb = 1) (ha : pa = 0)
  | f5 (xf : x.fork = false) (xt : x.token = false) (yt : y.token = false) (m : mab = [fk a b ep, tk a b ep]) (n : mba = []) (hb : pb = 1) (ha : pa = 1)
/-- .. a is about to look what is to be done -/
inductive E1A (a b ep : Int) (x y : Sd) (mab mba : List Ml) (pa pb : Int) : Prop
  | f1 (xf : x.fork = true) (xt : x.token = false) (yt : y.token = true) (m : mab = []) (n : mba = []) (hb : pb = 0)
  | f2 (xf : x.fork = true) (xt : x.token = true) (yt : y.token = false) (m : mab = []) (n : mba = []) (hb : pb = 1)
  | f3 (xf : x.fork = true) (xt : x.token = false) (yt : y.token = false) (m : mab = []) (n : mba = [tk b a ep]) (hb : pb = 1)
  | f4 (xf : x.fork = false) (xt : x.token = true) (yt : y.token = false) (m : mab = [fk a b ep]) (n : mba = []) (hb : pb = 1) (ha : pa = 0 ∨ pa = 1)
  | f5 (xf : x.fork = false) (xt : x.token = false) (yt : y.token = false) (m : mab = [fk a b ep, tk a b ep]) (n : mba = []) (hb : pb = 1) (ha : pa = 1)
/-- .. b is -/
inductive E1B (a b ep : Int) (x y : Sd) (mab mba : List Ml) (pa pb : Int) : Prop
  | f1 (xf : x.fork = true) (xt : x.token = false) (yt : y.token = true) (m : mab = []) (n : mba = []) (hb : pb = 0 ∨ pb = 1)
  | f2 (xf : x.fork = true) (xt : x.token = true) (yt : y.token = false) (m : mab = []) (n : mba = []) (hb : pb = 1) (hc : x.dirty = true → pa = 2)
  | f3 (xf : x.fork = true) (xt : x.token = false) (yt : y.token = false) (m : mab = []) (n : mba = [tk b a ep]) (hb : pb = 1)
  | f4 (xf : x.fork = false) (xt : x.token = true) (yt : y.token = false) (m : mab = [fk a b ep]) (n : mba = []) (hb : pb = 1) (ha : pa = 0)
  | f5 (xf : x.fork = false) (xt : x.token = false) (yt : y.token = false) (m : mab = [fk a b ep, tk a b ep]) (n : mba = []) (hb : pb = 1) (ha : pa = 1)
/-- what goes for both: y has no fork; nothing is dirty without a fork; a clean fork is with one who is hungry; who eats has it, dirty -/
structure Cl (x y : Sd) (pa : Int) : Prop where
  yf : y.fork = false
  yd : y.dirty = false
  xd : x.fork = false → x.dirty = false
  cl : x.fork = true → x.dirty = false → pa = 1
  ea : pa = 2 → x.fork = true ∧ x.dirty = true
/-- an edge, the fork on a's side -/
structure EA (a b ep : Int) (x y : Sd) (mab mba : List Ml) (pa pb : Int) : Prop where
  st : E1 a b ep x y mab mba pa pb
  c : Cl x y pa
/-- an edge -/
def EO (a b ep : Int) (x y : Sd) (mab mba : List Ml) (pa pb : Int) : Prop := EA a b ep x y mab mba pa pb ∨ EA b a ep y x mba mab pb pa
theorem EO.swap {a b ep : Int} {x y : Sd} {mab mba : List Ml} {pa pb : Int} (h : EO a b ep x y mab mba pa pb) : EO b a ep y x mba mab pb pa := h.symm

section
variable {a b ep : Int} {x y : Sd} {mab mba : List Ml} {pa pb : Int}
/-- what a's looking makes of its side: e says that it eats then -/
def fireX (pa : Int) (e : Bool) (x : Sd) : Sd := if e = true then { fireS1 pa x with dirty := true } else fireS1 pa x
def fireP (pa : Int) (e : Bool) : Int := if e = true then 2 else pa
theorem fireS1_calm {ph : Int} {s : Sd} (h1 : hot ph s = false) (h2 : wants ph s = false) (id : Int) : fireS1 ph s = s ∧ fireM1 id ph s = [] := calm_fire (by unfold calm; rw [h1, h2]; rfl) id
theorem fire_send (ph : Int) (s : Sd) (hf : s.fork = true) (hd : s.dirty = true) (ht : s.token = true) (h2 : ph ≠ 2) (h1 : ph ≠ 1) (id : Int) : fireS1 ph s = { s with fork := false, dirty := false } ∧ fireM1 id ph s = [forkM id s] := by
  have hh : hot ph s = true := by rw [hot_bits, hf, hd, ht]; simpa using h2
  have hg : gone ph s = { s with fork := false, dirty := false } := by unfold gone; rw [if_pos hh]
  have hw : wants ph (gone ph s) = false := by rw [hg, wants_bits]; simp [h1]
  unfold fireS1 fireM1 asked
  rw [hh, hw, hg]
  exact ⟨rfl, rfl⟩
theorem fire_both (s : Sd) (hf : s.fork = true) (hd : s.dirty = true) (ht : s.token = true) (id : Int) : fireS1 1 s = { s with fork := false, dirty := false, token := false } ∧ fireM1 id 1 s = [forkM id s, tokenM id s] := by
  have hh : hot 1 s = true := by rw [hot_bits, hf, hd, ht]; rfl
  have hg : gone 1 s = { s with fork := false, dirty := false } := by unfold gone; rw [if_pos hh]
  have hw : wants 1 (gone 1 s) = true := by rw [hg, wants_bits]; simp [ht]
  unfold fireS1 fireM1 asked
  rw [hh, hw, hg]
  exact ⟨rfl, rfl⟩
theorem fire_ask (s : Sd) (hf : s.fork = false) (ht : s.token = true) (id : Int) : fireS1 1 s = { s with token := false } ∧ fireM1 id 1 s = [tokenM id s] := by
  have hh : hot 1 s = false := by rw [hot_bits, hf]; rfl
  have hg : gone 1 s = s := by unfold gone; rw [if_neg (by rw [hh]; simp)]
  have hw : wants 1 (gone 1 s) = true := by rw [hg, wants_bits, hf, ht]; rfl
  unfold fireS1 fireM1 asked
  rw [hh, hw, hg]
  exact ⟨rfl, rfl⟩
theorem not_hot_token {ph : Int} {s : Sd} (h : s.token = false) : hot ph s = false ∧ wants ph s = false := by
  rw [hot_bits, wants_bits, h]; simp
theorem not_wants_fork {ph : Int} {s : Sd} (h : s.fork = true) : wants ph s = false := by rw [wants_bits, h]; simp
theorem not_hot_dirty {ph : Int} {s : Sd} (h : s.dirty = false) : hot ph s = false := by rw [hot_bits, h]; simp
theorem not_hot_fork {ph : Int} {s : Sd} (h : s.fork = false) : hot ph s = false := by rw [hot_bits, h]; simp

/-- a looks what is to be done: the fork was on its side -/
theorem EA.fireA {e : Bool} (st : E1A a b ep x y mab mba pa pb) (c : Cl x y pa) (he : e = true → pa = 1 ∧ (fireS1 pa x).fork = true) (hp : pa = 0 ∨ pa = 1 ∨ pa = 2) (hx1 : x.peer = b) (hx2 : x.epoch = ep) :
    EA a b ep (fireX pa e x) y (mab ++ fireM1 a pa x) mba (fireP pa e) pb := by
  -- nothing goes out
  have quiet : fireS1 pa x = x → fireM1 a pa x = [] → (∀ z : Sd, z.fork = x.fork → z.token = x.token → (z.dirty = true → fireP pa e = 2 ∨ z.dirty = x.dirty) → E1 a b ep z y mab mba (fireP pa e) pb) → EA a b ep (fireX pa e x) y (mab ++ fireM1 a pa x) mba (fireP pa e) pb := by
    intro h1 h2 h3
    rw [h2, List.append_nil]
    unfold fireX
    rw [h1]
    cases e with
    | false =>
      refine ⟨h3 x rfl rfl (fun _ => .inr rfl), ?_⟩
      exact c
    | true =>
      obtain ⟨q1, q2⟩ := he rfl
      rw [h1] at q2
      refine ⟨h3 { x with dirty := true } rfl rfl (fun _ => .inl rfl), ⟨c.yf, c.yd, fun h => ?_, fun _ h => ?_, fun _ => ⟨q2, rfl⟩⟩⟩
      · change x.fork = false at h; rw [q2] at h; cases h
      · cases h
  cases st with
  | f1 xf xt yt m n hb =>
    obtain ⟨q1, q2⟩ := fireS1_calm (not_hot_token (ph := pa) xt).1 (not_hot_token (ph := pa) xt).2 a
    exact quiet q1 q2 fun z zf zt _ => .f1 (zf.trans xf) (zt.trans xt) yt m n hb
  | f3 xf xt yt m n hb =>
    obtain ⟨q1, q2⟩ := fireS1_calm (not_hot_token (ph := pa) xt).1 (not_hot_token (ph := pa) xt).2 a
    exact quiet q1 q2 fun z zf zt _ => .f3 (zf.trans xf) (zt.trans xt) yt m n hb
  | f2 xf xt yt m n hb =>
    by_cases hd : x.dirty = true
    · by_cases h2 : pa = 2
      · obtain ⟨q1, q2⟩ := fireS1_calm (ph := pa) (s := x) (by rw [hot_bits, h2]; simp) (not_wants_fork xf) a
        refine quiet q1 q2 fun z zf zt _ => .f2 (zf.trans xf) (zt.trans xt) yt m n hb fun _ => ?_
        unfold fireP; split
        · rfl
        · exact h2
      · by_cases h1 : pa = 1
        · subst h1
          obtain ⟨q1, q2⟩ := fire_both x xf hd xt a
          have hne : e = false := by
            cases e with
            | false => rfl
            | true => have := (he rfl).2; rw [q1] at this; cases this
          subst hne
          rw [q2, m]
          unfold fireX fireP
          rw [q1]
          exact ⟨.f5 rfl rfl yt (by unfold forkM tokenM fk tk; rw [hx1, hx2]; rfl) n hb rfl, ⟨c.yf, c.yd, fun _ => rfl, (fun h => by cases h), fun h => by cases h⟩⟩
        · obtain ⟨q1, q2⟩ := fire_send pa x xf hd xt h2 h1 a
          have hne : e = false := by
            cases e with
            | false => rfl
            | true => exact absurd (he rfl).1 h1
          subst hne
          rw [q2, m]
          unfold fireX fireP
          rw [q1]
          exact ⟨.f4 rfl xt yt (by unfold forkM fk; rw [hx1, hx2]; rfl) n hb (by show pa = 0; omega), ⟨c.yf, c.yd, fun _ => rfl, (fun h => by cases h), fun h => absurd h h2⟩⟩
    · have hd : x.dirty = false := by simpa using hd
      obtain ⟨q1, q2⟩ := fireS1_calm (ph := pa) (s := x) (not_hot_dirty hd) (not_wants_fork xf) a
      refine quiet q1 q2 fun z zf zt zd => .f2 (zf.trans xf) (zt.trans xt) yt m n hb fun h => ?_
      rcases zd h with h2 | h2
      · exact h2
      · rw [h2, hd] at h; cases h
  | f4 xf xt yt m n hb ha =>
    have hxd := c.xd xf
    rcases ha with h0 | h1
    · subst h0
      obtain ⟨q1, q2⟩ := fireS1_calm (ph := 0) (s := x) (not_hot_fork xf) (by rw [wants_bits]; rfl) a
      have hne : e = false := by
        cases e with
        | false => rfl
        | true => have := (he rfl).1; cases this
      subst hne
      exact quiet q1 q2 fun z zf zt _ => .f4 (zf.trans xf) (zt.trans xt) yt m n hb rfl
    · subst h1
      obtain ⟨q1, q2⟩ := fire_ask x xf xt a
      have hne : e = false := by
        cases e with
        | false => rfl
        | true => have := (he rfl).2; rw [q1] at this; change x.fork = true at this; rw [xf] at this; cases this
      subst hne
      rw [q2, m]
      unfold fireX fireP
      rw [q1]
      exact ⟨.f5 xf rfl yt (by unfold tokenM fk tk; rw [hx1, hx2]; rfl) n hb rfl, ⟨c.yf, c.yd, fun _ => hxd, (fun h => by change x.fork = true at h; rw [xf] at h; cases h), fun h => by cases h⟩⟩
  | f5 xf xt yt m n hb ha =>
    obtain ⟨q1, q2⟩ := fireS1_calm (not_hot_token (ph := pa) xt).1 (not_hot_token (ph := pa) xt).2 a
    have hne : e = false := by
      cases e with
      | false => rfl
      | true => have := (he rfl).2; rw [q1, xf] at this; cases this
    subst hne
    exact quiet q1 q2 fun z zf zt _ => .f5 (zf.trans xf) (zt.trans xt) yt m n hb ha
/-- b looks what is to be done: the fork was on a's side -/
theorem EA.fireB {e : Bool} (st : E1B a b ep x y mab mba pa pb) (c : Cl x y pa) (he : e = true → (fireS1 pb y).fork = true) (hy1 : y.peer = a) (hy2 : y.epoch = ep) :
    EA a b ep x (fireX pb e y) mab (mba ++ fireM1 b pb y) pa (fireP pb e) ∧ e = false := by
  have nofork : (fireS1 pb y).fork = false := by
    unfold fireS1 asked
    have : (gone pb y).fork = false := by unfold gone; split; rfl; exact c.yf
    split
    · exact this
    · exact this
  have hne : e = false := by
    cases e with
    | false => rfl
    | true => have := he rfl; rw [nofork] at this; cases this
  subst hne
  refine ⟨?_, rfl⟩
  unfold fireX fireP
  rw [if_neg (by simp), if_neg (by simp)]
  have quiet : fireS1 pb y = y → fireM1 b pb y = [] → E1 a b ep x y mab mba pa pb → EA a b ep x (fireS1 pb y) mab (mba ++ fireM1 b pb y) pa pb := fun h1 h2 h3 => by
    rw [h1, h2, List.append_nil]; exact ⟨h3, c⟩
  cases st with
  | f1 xf xt yt m n hb =>
    rcases hb with h0 | h1
    · subst h0
      obtain ⟨q1, q2⟩ := fireS1_calm (ph := 0) (s := y) (not_hot_fork c.yf) (by rw [wants_bits]; rfl) b
      exact quiet q1 q2 (.f1 xf xt yt m n rfl)
    · subst h1
      obtain ⟨q1, q2⟩ := fire_ask y c.yf yt b
      rw [q1, q2, n]
      exact ⟨.f3 xf xt rfl m (by unfold tokenM tk; rw [hy1, hy2]; rfl) rfl, ⟨c.yf, c.yd, c.xd, c.cl, c.ea⟩⟩
  | f2 xf xt yt m n hb hc =>
    obtain ⟨q1, q2⟩ := fireS1_calm (not_hot_token (ph := pb) yt).1 (not_hot_token (ph := pb) yt).2 b
    exact quiet q1 q2 (.f2 xf xt yt m n hb hc)
  | f3 xf xt yt m n hb =>
    obtain ⟨q1, q2⟩ := fireS1_calm (not_hot_token (ph := pb) yt).1 (not_hot_token (ph := pb) yt).2 b
    exact quiet q1 q2 (.f3 xf xt yt m n hb)
  | f4 xf xt yt m n hb ha =>
    obtain ⟨q1, q2⟩ := fireS1_calm (not_hot_token (ph := pb) yt).1 (not_hot_token (ph := pb) yt).2 b
    exact quiet q1 q2 (.f4 xf xt yt m n hb ha)
  | f5 xf xt yt m n hb ha =>
    obtain ⟨q1, q2⟩ := fireS1_calm (not_hot_token (ph := pb) yt).1 (not_hot_token (ph := pb) yt).2 b
    exact quiet q1 q2 (.f5 xf xt yt m n hb ha)
end

end Go.Proofs.YtdfleocknaackaaGreat

/- Layer 14 (mathematics): one edge: who is hungry, who stops, what comes; who goes ahead. -/
namespace Go.Proofs.YtdfleocknaackaaGreat

/-- an edge one of whose ends, a, is about to look what is to be done -/
def WA (a b ep : Int) (x y : Sd) (mab mba : List Ml) (pa pb : Int) : Prop := (E1A a b ep x y mab mba pa pb ∧ Cl x y pa) ∨ (E1B b a ep y x mba mab pb pa ∧ Cl y x pb)
section
variable {a b ep : Int} {x y : Sd} {mab mba : List Ml} {pa pb : Int}
theorem E1.wA (h : E1 a b ep x y mab mba pa pb) : E1A a b ep x y mab mba pa pb := by
  cases h with
  | f1 xf xt yt m n hb => exact .f1 xf xt yt m n hb
  | f2 xf xt yt m n hb hc => exact .f2 xf xt yt m n hb
  | f3 xf xt yt m n hb => exact .f3 xf xt yt m n hb
  | f4 xf xt yt m n hb ha => exact .f4 xf xt yt m n hb (.inl ha)
  | f5 xf xt yt m n hb ha => exact .f5 xf xt yt m n hb ha
theorem E1.wB (h : E1 a b ep x y mab mba pa pb) : E1B a b ep x y mab mba pa pb := by
  cases h with
  | f1 xf xt yt m n hb => exact .f1 xf xt yt m n (.inl hb)
  | f2 xf xt yt m n hb hc => exact .f2 xf xt yt m n hb hc
  | f3 xf xt yt m n hb => exact .f3 xf xt yt m n hb
  | f4 xf xt yt m n hb ha => exact .f4 xf xt yt m n hb ha
  | f5 xf xt yt m n hb ha => exact .f5 xf xt yt m n hb ha
/-- something else happens at a -/
theorem EO.idle (h : EO a b ep x y mab mba pa pb) : WA a b ep x y mab mba pa pb := by
  rcases h with h | h
  · exact .inl ⟨h.st.wA, h.c⟩
  · exact .inr ⟨h.st.wB, h.c⟩
/-- a is hungry -/
theorem EO.start (h : EO a b ep x y mab mba 0 pb) : WA a b ep x y mab mba 1 pb := by
  rcases h with h | h
  · obtain ⟨st, c⟩ := h
    have c' : Cl x y 1 := ⟨c.yf, c.yd, c.xd, fun _ _ => rfl, fun h => by cases h⟩
    refine .inl ⟨?_, c'⟩
    cases st with
    | f1 xf xt yt m n hb => exact .f1 xf xt yt m n hb
    | f2 xf xt yt m n hb hc => exact .f2 xf xt yt m n hb
    | f3 xf xt yt m n hb => exact .f3 xf xt yt m n hb
    | f4 xf xt yt m n hb ha => exact .f4 xf xt yt m n hb (.inr rfl)
    | f5 xf xt yt m n hb ha => cases ha
  · obtain ⟨st, c⟩ := h
    refine .inr ⟨?_, c⟩
    cases st with
    | f1 xf xt yt m n hb => exact .f1 xf xt yt m n (.inr rfl)
    | f2 xf xt yt m n hb hc => cases hb
    | f3 xf xt yt m n hb => cases hb
    | f4 xf xt yt m n hb ha => cases hb
    | f5 xf xt yt m n hb ha => cases hb
/-- a eats no more -/
theorem EO.stop (h : EO a b ep x y mab mba 2 pb) : WA a b ep x y mab mba 0 pb := by
  rcases h with h | h
  · obtain ⟨st, c⟩ := h
    obtain ⟨e1, e2⟩ := c.ea rfl
    have c' : Cl x y 0 := ⟨c.yf, c.yd, c.xd, fun _ h => (by rw [e2] at h; cases h), fun h => by cases h⟩
    refine .inl ⟨?_, c'⟩
    cases st with
    | f1 xf xt yt m n hb => exact .f1 xf xt yt m n hb
    | f2 xf xt yt m n hb hc => exact .f2 xf xt yt m n hb
    | f3 xf xt yt m n hb => exact .f3 xf xt yt m n hb
    | f4 xf xt yt m n hb ha => cases ha
    | f5 xf xt yt m n hb ha => cases ha
  · obtain ⟨st, c⟩ := h
    cases st with
    | f1 xf xt yt m n hb => cases hb
    | f2 xf xt yt m n hb hc => cases hb
    | f3 xf xt yt m n hb => cases hb
    | f4 xf xt yt m n hb ha => cases hb
    | f5 xf xt yt m n hb ha => cases hb
/-- what comes from b is a fork where none lies, or a token where none lies -/
theorem EO.come {m : Ml} {rest : List Ml} (h : EO a b ep x y mab (m :: rest) pa pb) :
    (m = fk b a ep ∧ x.fork = false ∧ WA a b ep { x with fork := true } y mab rest pa pb) ∨ (m = tk b a ep ∧ x.token = false ∧ WA a b ep { x with token := true } y mab rest pa pb) := by
  rcases h with h | h
  · obtain ⟨st, c⟩ := h
    cases st with
    | f1 xf xt yt m n hb => cases n
    | f2 xf xt yt m n hb hc => cases n
    | f3 xf xt yt m n hb =>
      cases n
      exact .inr ⟨rfl, xt, .inl ⟨.f2 xf rfl yt m rfl hb, ⟨c.yf, c.yd, c.xd, c.cl, c.ea⟩⟩⟩
    | f4 xf xt yt m n hb ha => cases n
    | f5 xf xt yt m n hb ha => cases n
  · obtain ⟨st, c⟩ := h
    cases st with
    | f1 xf xt yt m n hb => cases m
    | f2 xf xt yt m n hb hc => cases m
    | f3 xf xt yt m n hb => cases m
    | f4 xf xt yt m n hb ha =>
      cases m
      exact .inl ⟨rfl, c.yf, .inl ⟨.f1 rfl yt xt n rfl ha, ⟨xf, c.xd xf, (fun h => by cases h), (fun _ _ => hb), (fun h => by rw [hb] at h; cases h)⟩⟩⟩
    | f5 xf xt yt m n hb ha =>
      cases m
      exact .inl ⟨rfl, c.yf, .inl ⟨.f3 rfl yt xt n rfl ha, ⟨xf, c.xd xf, (fun h => by cases h), (fun _ _ => hb), (fun h => by rw [hb] at h; cases h)⟩⟩⟩
/-- a looks what is to be done -/
theorem WA.fire {e : Bool} (h : WA a b ep x y mab mba pa pb) (he : e = true → pa = 1 ∧ (fireS1 pa x).fork = true) (hp : pa = 0 ∨ pa = 1 ∨ pa = 2) (hx1 : x.peer = b) (hx2 : x.epoch = ep) :
    EO a b ep (fireX pa e x) y (mab ++ fireM1 a pa x) mba (fireP pa e) pb := by
  rcases h with ⟨st, c⟩ | ⟨st, c⟩
  · exact .inl (EA.fireA st c he hp hx1 hx2)
  · exact .inr (EA.fireB st c (fun h => (he h).2) hx1 hx2).1

/-- who goes ahead: a does -/
def ahd (x y : Sd) (mba : List Ml) : Bool := (x.fork && !x.dirty) || (y.fork && y.dirty) || (!x.fork && !y.fork && mba.any fun m => m.kind == 1)
theorem WA.same (h : WA a b ep x y mab mba pa pb) : ahd (fireX pa false x) y mba = ahd x y mba := by
  have key : (fireX pa false x).fork = x.fork → (fireX pa false x).dirty = x.dirty → ahd (fireX pa false x) y mba = ahd x y mba := fun h1 h2 => by unfold ahd; rw [h1, h2]
  have calm' : hot pa x = false → ahd (fireX pa false x) y mba = ahd x y mba := fun hh => by
    have hg : gone pa x = x := by unfold gone; rw [if_neg (by rw [hh]; simp)]
    refine key ?_ ?_
    · unfold fireX fireS1 asked; rw [hg, if_neg (by simp)]; split <;> rfl
    · unfold fireX fireS1 asked; rw [hg, if_neg (by simp)]; split <;> rfl
  rcases h with ⟨st, c⟩ | ⟨st, c⟩
  · cases st with
    | f1 xf xt yt m n hb => exact calm' (not_hot_token xt).1
    | f3 xf xt yt m n hb => exact calm' (not_hot_token xt).1
    | f2 xf xt yt m n hb =>
      cases hh : hot pa x
      · exact calm' hh
      · rw [hot_bits] at hh
        simp only [Bool.and_eq_true] at hh
        have hd := hh.1.1.2
        have hf : (fireX pa false x).fork = false := by
          unfold fireX fireS1 asked
          have hgf : (gone pa x).fork = false := by
            unfold gone
            rw [if_pos (by rw [hot_bits]; simp only [Bool.and_eq_true]; exact hh)]
          rw [if_neg (by simp)]
          split
          · exact hgf
          · exact hgf
        unfold ahd
        rw [hf, c.yf, xf, hd, n]; rfl
    | f4 xf xt yt m n hb ha => exact calm' (not_hot_fork xf)
    | f5 xf xt yt m n hb ha => exact calm' (not_hot_token xt).1
  · exact calm' (not_hot_fork c.yf)
theorem one_of (c : Cl x y pa) (h : x.fork = true ∨ (x.fork = false ∧ (mab.any fun m => m.kind == 1) = true ∧ mba = [])) : ahd x y mba = (x.fork && !x.dirty) ∧ ahd y x mab = !(x.fork && !x.dirty) := by
  unfold ahd
  rw [c.yf]
  rcases h with h | ⟨h1, h2, h3⟩
  · rw [h]; cases x.dirty <;> simp
  · rw [h1, h2, h3]; simp
theorem E1A.one (h : E1A a b ep x y mab mba pa pb) (c : Cl x y pa) : ahd x y mba = (x.fork && !x.dirty) ∧ ahd y x mab = !(x.fork && !x.dirty) := by
  cases h with
  | f1 xf xt yt m n hb => exact one_of c (.inl xf)
  | f2 xf xt yt m n hb => exact one_of c (.inl xf)
  | f3 xf xt yt m n hb => exact one_of c (.inl xf)
  | f4 xf xt yt m n hb ha => exact one_of c (.inr ⟨xf, by rw [m]; rfl, n⟩)
  | f5 xf xt yt m n hb ha => exact one_of c (.inr ⟨xf, by rw [m]; rfl, n⟩)
theorem E1B.one (h : E1B a b ep x y mab mba pa pb) (c : Cl x y pa) : ahd x y mba = (x.fork && !x.dirty) ∧ ahd y x mab = !(x.fork && !x.dirty) := by
  cases h with
  | f1 xf xt yt m n hb => exact one_of c (.inl xf)
  | f2 xf xt yt m n hb hc => exact one_of c (.inl xf)
  | f3 xf xt yt m n hb => exact one_of c (.inl xf)
  | f4 xf xt yt m n hb ha => exact one_of c (.inr ⟨xf, by rw [m]; rfl, n⟩)
  | f5 xf xt yt m n hb ha => exact one_of c (.inr ⟨xf, by rw [m]; rfl, n⟩)
theorem WA.one (h : WA a b ep x y mab mba pa pb) : ahd y x mab = !ahd x y mba := by
  rcases h with ⟨st, c⟩ | ⟨st, c⟩
  · rw [(st.one c).1, (st.one c).2]
  · rw [(st.one c).1, (st.one c).2]; simp
theorem EO.comeSame {m : Ml} {rest : List Ml} (h : EO a b ep x y mab (m :: rest) pa pb) : (m = fk b a ep → ahd { x with fork := true } y rest = ahd x y (m :: rest)) ∧ (m = tk b a ep → ahd { x with token := true } y rest = ahd x y (m :: rest)) := by
  rcases h with h | h
  · obtain ⟨st, c⟩ := h
    cases st with
    | f1 xf xt yt m n hb => cases n
    | f2 xf xt yt m n hb hc => cases n
    | f3 xf xt yt m n hb =>
      cases n
      refine ⟨(fun e => by cases e), fun _ => ?_⟩
      unfold ahd
      change ((x.fork && !x.dirty) || (y.fork && y.dirty) || (!x.fork && !y.fork && false)) = _
      rw [xf]; rfl
    | f4 xf xt yt m n hb ha => cases n
    | f5 xf xt yt m n hb ha => cases n
  · obtain ⟨st, c⟩ := h
    cases st with
    | f1 xf xt yt m n hb => cases m
    | f2 xf xt yt m n hb hc => cases m
    | f3 xf xt yt m n hb => cases m
    | f4 xf xt yt m n hb ha =>
      cases m
      refine ⟨fun _ => ?_, fun e => by cases e⟩
      unfold ahd
      change ((true && !x.dirty) || _ || _) = _
      rw [c.yd, c.yf, xf]; rfl
    | f5 xf xt yt m n hb ha =>
      cases m
      refine ⟨fun _ => ?_, fun e => by cases e⟩
      unfold ahd
      change ((true && !x.dirty) || _ || _) = _
      rw [c.yd, c.yf, xf]; rfl

/-- one fork, one token -/
def cnt (k : Int) (l : List Ml) : Nat := l.countP fun m => m.kind == k
theorem EA.ones (h : EA a b ep x y mab mba pa pb) : (cond x.fork 1 0) + (cond y.fork 1 0) + cnt 1 mab + cnt 1 mba = 1 ∧ (cond x.token 1 0) + (cond y.token 1 0) + cnt 2 mab + cnt 2 mba = 1 := by
  obtain ⟨st, c⟩ := h
  rw [c.yf]
  cases st with
  | f1 xf xt yt m n hb => rw [xf, xt, yt, m, n]; exact ⟨rfl, rfl⟩
  | f2 xf xt yt m n hb hc => rw [xf, xt, yt, m, n]; exact ⟨rfl, rfl⟩
  | f3 xf xt yt m n hb => rw [xf, xt, yt, m, n]; exact ⟨rfl, rfl⟩
  | f4 xf xt yt m n hb ha => rw [xf, xt, yt, m, n]; exact ⟨rfl, rfl⟩
  | f5 xf xt yt m n hb ha => rw [xf, xt, yt, m, n]; exact ⟨rfl, rfl⟩
theorem EO.ones (h : EO a b ep x y mab mba pa pb) : (cond x.fork 1 0) + (cond y.fork 1 0) + cnt 1 mab + cnt 1 mba = 1 ∧ (cond x.token 1 0) + (cond y.token 1 0) + cnt 2 mab + cnt 2 mba = 1 := by
  rcases h with h | h
  · exact h.ones
  · have := h.ones; omega
/-- both don't eat at once; who eats has the fork, dirty -/
theorem EO.eats (h : EO a b ep x y mab mba pa pb) : (pa = 2 → x.fork = true ∧ x.dirty = true) ∧ ¬ (pa = 2 ∧ pb = 2) := by
  rcases h with h | h
  · refine ⟨h.c.ea, fun ⟨_, h2⟩ => ?_⟩
    cases h.st with
    | f1 xf xt yt m n hb => omega
    | f2 xf xt yt m n hb hc => omega
    | f3 xf xt yt m n hb => omega
    | f4 xf xt yt m n hb ha => omega
    | f5 xf xt yt m n hb ha => omega
  · have hb : pa ≠ 2 := by
      cases h.st with
      | f1 xf xt yt m n hb => omega
      | f2 xf xt yt m n hb hc => omega
      | f3 xf xt yt m n hb => omega
      | f4 xf xt yt m n hb ha => omega
      | f5 xf xt yt m n hb ha => omega
    exact ⟨fun h2 => absurd h2 hb, fun ⟨h2, _⟩ => hb h2⟩
/-- on an edge just one goes ahead -/
theorem EA.one (h : EA a b ep x y mab mba pa pb) : ahd x y mba = (x.fork && !x.dirty) ∧ ahd y x mab = !(x.fork && !x.dirty) := by
  obtain ⟨st, c⟩ := h
  unfold ahd
  rw [c.yf]
  cases hd : x.dirty <;> cases st with
  | f1 xf xt yt m n hb => rw [xf, m, n]; exact ⟨rfl, rfl⟩
  | f2 xf xt yt m n hb hc => rw [xf, m, n]; exact ⟨rfl, rfl⟩
  | f3 xf xt yt m n hb => rw [xf, m, n]; exact ⟨rfl, rfl⟩
  | f4 xf xt yt m n hb ha => rw [xf, m, n]; exact ⟨rfl, rfl⟩
  | f5 xf xt yt m n hb ha => rw [xf, m, n]; exact ⟨rfl, rfl⟩
theorem EO.one (h : EO a b ep x y mab mba pa pb) : ahd y x mab = !ahd x y mba := by
  rcases h with h | h
  · rw [h.one.1, h.one.2]
  · rw [h.one.1, h.one.2]; simp
/-- who eats goes ahead of nobody -/
theorem EO.last (h : EO a b ep x y mab mba 2 pb) : ahd x y mba = false := by
  obtain ⟨h1, h2⟩ := h.eats.1 rfl
  rcases h with h | h
  · rw [h.one.1, h2]; simp
  · have := h.c.yf; rw [h1] at this; cases this
end

end Go.Proofs.YtdfleocknaackaaGreat

/- Layer 14 (mathematics): scenes: every side by its two ends, every phase by its node; one node looks what is to be done. -/
namespace Go.Proofs.YtdfleocknaackaaGreat

def chan (l : List Ml) (i k : Int) : List Ml := l.filter fun m => m.from_ == i && m.to_ == k
theorem chan_app (l m : List Ml) (i k : Int) : chan (l ++ m) i k = chan l i k ++ chan m i k := List.filter_append ..
/-- who is near to whom -/
structure NB (n : Nat) (nb : Nat → List Nat) : Prop where
  up : ∀ i, (nb i).Pairwise (· < ·)
  back : ∀ i k, i < n → k ∈ nb i → k < n ∧ k ≠ i ∧ i ∈ nb k
/-- the diners of a scene -/
def dsOf (n : Nat) (nb : Nat → List Nat) (X : Nat → Nat → Sd) (P : Nat → Int) : List Dn := (List.range n).map fun i : Nat => (⟨(i : Int), P i, (nb i).map (X i)⟩ : Dn)
/-- all goes well -/
structure TB (n : Nat) (nb : Nat → List Nat) (ep : Int) (X : Nat → Nat → Sd) (P : Nat → Int) (ms : List Ml) : Prop where
  pr : ∀ i k, i < n → k ∈ nb i → (X i k).peer = k ∧ (X i k).epoch = ep
  lv : ∀ i k, i < n → k ∈ nb i → (X i k).state = 0
  ph : ∀ i, i < n → P i = 0 ∨ P i = 1 ∨ P i = 2
  edge : ∀ i k, i < n → k ∈ nb i → EO i k ep (X i k) (X k i) (chan ms i k) (chan ms k i) (P i) (P k)
  calm : ∀ i, i < n → eats (P i) ((nb i).map (X i)) = false
  mail : ∀ m ∈ ms, ∃ i k : Nat, i < n ∧ k ∈ nb i ∧ m.from_ = i ∧ m.to_ = k
/-- .. i is about to look what is to be done -/
structure TW (n : Nat) (nb : Nat → List Nat) (ep : Int) (X : Nat → Nat → Sd) (P : Nat → Int) (ms : List Ml) (i : Nat) : Prop where
  pr : ∀ i k, i < n → k ∈ nb i → (X i k).peer = k ∧ (X i k).epoch = ep
  lv : ∀ i k, i < n → k ∈ nb i → (X i k).state = 0
  ph : ∀ i, i < n → P i = 0 ∨ P i = 1 ∨ P i = 2
  mine : ∀ k, k ∈ nb i → WA i k ep (X i k) (X k i) (chan ms i k) (chan ms k i) (P i) (P k)
  edge : ∀ a k, a < n → k ∈ nb a → a ≠ i → k ≠ i → EO a k ep (X a k) (X k a) (chan ms a k) (chan ms k a) (P a) (P k)
  calm : ∀ a, a < n → a ≠ i → eats (P a) ((nb a).map (X a)) = false
  mail : ∀ m ∈ ms, ∃ i k : Nat, i < n ∧ k ∈ nb i ∧ m.from_ = i ∧ m.to_ = k

def eatsNow (nb : Nat → List Nat) (X : Nat → Nat → Sd) (P : Nat → Int) (i : Nat) : Bool := eats (P i) (fireSs (P i) ((nb i).map (X i)))
def XF (nb : Nat → List Nat) (X : Nat → Nat → Sd) (P : Nat → Int) (i : Nat) : Nat → Nat → Sd := fun a k => if a = i then fireX (P i) (eatsNow nb X P i) (X i k) else X a k
def PF (nb : Nat → List Nat) (X : Nat → Nat → Sd) (P : Nat → Int) (i : Nat) : Nat → Int := fun a => if a = i then fireP (P i) (eatsNow nb X P i) else P a
def MF (nb : Nat → List Nat) (X : Nat → Nat → Sd) (P : Nat → Int) (i : Nat) : List Ml := fireMl ⟨i, P i, (nb i).map (X i)⟩

theorem fire_is (nb : Nat → List Nat) (X : Nat → Nat → Sd) (P : Nat → Int) (i : Nat) : fireD ⟨i, P i, (nb i).map (X i)⟩ = ⟨i, PF nb X P i i, (nb i).map (XF nb X P i i)⟩ := by
  have e1 : ∀ k, XF nb X P i i k = fireX (P i) (eatsNow nb X P i) (X i k) := fun k => by unfold XF; rw [if_pos rfl]
  have e2 : PF nb X P i i = fireP (P i) (eatsNow nb X P i) := by unfold PF; rw [if_pos rfl]
  have e3 : (nb i).map (XF nb X P i i) = (nb i).map fun k => fireX (P i) (eatsNow nb X P i) (X i k) := List.map_congr_left fun k _ => e1 k
  rw [e2, e3]
  unfold fireD
  dsimp only
  cases he : eatsNow nb X P i
  · have he' : eats (P i) (fireSs (P i) ((nb i).map (X i))) = false := he
    rw [he', if_neg (by simp)]
    unfold fireP fireX fireSs
    simp
  · have he' : eats (P i) (fireSs (P i) ((nb i).map (X i))) = true := he
    rw [he', if_pos rfl]
    unfold fireP fireX fireSs dirtyAll
    simp

theorem chan_fire (i : Nat) (p : Int) (f : Nat → Sd) (hf : ∀ k, (f k).peer = k) : ∀ (l : List Nat), l.Pairwise (· < ·) → ∀ k : Nat, chan (fireMs i p (l.map f)) i k = if k ∈ l then fireM1 i p (f k) else []
  | [], _, k => by simp [fireMs, chan]
  | j :: l, h, k => by
    obtain ⟨h1, h2⟩ := List.pairwise_cons.1 h
    have ih := chan_fire i p f hf l h2 k
    have e : fireMs i p ((j :: l).map f) = fireM1 i p (f j) ++ fireMs i p (l.map f) := by unfold fireMs; rw [List.map_cons, List.flatMap_cons]
    rw [e, chan_app, ih]
    have hfrom : ∀ m ∈ fireM1 (i : Int) p (f j), m.from_ = i ∧ m.to_ = j := fun m hm => by
      refine ⟨?_, (fireM1_to _ _ _ m hm).trans (hf j)⟩
      unfold fireM1 at hm
      rw [List.mem_append] at hm
      rcases hm with hm | hm
      · cases h : hot p (f j)
        · rw [h] at hm; cases hm
        · rw [h] at hm; simp only [if_true, List.mem_singleton] at hm; rw [hm]; rfl
      · cases h : wants p (gone p (f j))
        · rw [h] at hm; cases hm
        · rw [h] at hm; simp only [if_true, List.mem_singleton] at hm; rw [hm]; rfl
    by_cases hk : k = j
    · subst hk
      have hn : k ∉ l := fun hm => by have := h1 k hm; omega
      rw [if_neg hn, if_pos (List.mem_cons_self ..), List.append_nil]
      unfold chan
      rw [List.filter_eq_self]
      intro m hm
      obtain ⟨q1, q2⟩ := hfrom m hm
      simp [q1, q2]
    · have e2 : chan (fireM1 (i : Int) p (f j)) i k = [] := by
        unfold chan
        rw [List.filter_eq_nil_iff]
        intro m hm
        obtain ⟨q1, q2⟩ := hfrom m hm
        simp only [q1, q2, Bool.and_eq_true, beq_iff_eq, not_and]
        omega
      rw [e2, List.nil_append]
      by_cases hl : k ∈ l
      · rw [if_pos hl, if_pos (List.mem_cons_of_mem _ hl)]
      · rw [if_neg hl, if_neg (by simp [hk, hl])]
theorem fireMs_from {id p : Int} {L : List Sd} : ∀ m ∈ fireMs id p L, m.from_ = id ∧ ∃ s ∈ L, m.to_ = s.peer := by
  intro m hm
  unfold fireMs at hm
  rw [List.mem_flatMap] at hm
  obtain ⟨s, hs, hm⟩ := hm
  refine ⟨?_, s, hs, fireM1_to _ _ _ m hm⟩
  unfold fireM1 at hm
  rw [List.mem_append] at hm
  rcases hm with hm | hm
  · cases h : hot p s
    · rw [h] at hm; cases hm
    · rw [h] at hm; simp only [if_true, List.mem_singleton] at hm; rw [hm]; rfl
  · cases h : wants p (gone p s)
    · rw [h] at hm; cases hm
    · rw [h] at hm; simp only [if_true, List.mem_singleton] at hm; rw [hm]; rfl
theorem chan_other {id p : Int} {L : List Sd} {a k : Int} (h : a ≠ id) : chan (fireMs id p L) a k = [] := by
  unfold chan
  rw [List.filter_eq_nil_iff]
  intro m hm
  simp only [(fireMs_from m hm).1, Bool.and_eq_true, beq_iff_eq, not_and]
  intro e
  exact absurd e.symm h

/-- i looks what is to be done -/
theorem TW.fire {n : Nat} {nb : Nat → List Nat} {ep : Int} {X : Nat → Nat → Sd} {P : Nat → Int} {ms : List Ml} {i : Nat} (hn : NB n nb) (hi : i < n) (h : TW n nb ep X P ms i) :
    TB n nb ep (XF nb X P i) (PF nb X P i) (ms ++ MF nb X P i) := by
  have hX : ∀ a k, a ≠ i → XF nb X P i a k = X a k := fun a k ha => by unfold XF; rw [if_neg ha]
  have hXi : ∀ k, XF nb X P i i k = fireX (P i) (eatsNow nb X P i) (X i k) := fun k => by unfold XF; rw [if_pos rfl]
  have hP : ∀ a, a ≠ i → PF nb X P i a = P a := fun a ha => by unfold PF; rw [if_neg ha]
  have hPi : PF nb X P i i = fireP (P i) (eatsNow nb X P i) := by unfold PF; rw [if_pos rfl]
  have keepsX : ∀ (p : Int) (e : Bool) (x : Sd), (fireX p e x).peer = x.peer ∧ (fireX p e x).epoch = x.epoch := fun p e x => by
    obtain ⟨q1, q2, _⟩ := fireS1_keeps p x
    unfold fireX; split
    · exact ⟨q1, q2⟩
    · exact ⟨q1, q2⟩
  have keepsS : ∀ (p : Int) (e : Bool) (x : Sd), (fireX p e x).state = x.state := fun p e x => by
    obtain ⟨_, _, q3, _⟩ := fireS1_keeps p x
    unfold fireX; split
    · exact q3
    · exact q3
  have hchi : ∀ k, k ∈ nb i → chan (ms ++ MF nb X P i) i k = chan ms i k ++ fireM1 i (P i) (X i k) := fun k hk => by
    rw [chan_app]
    congr 1
    -- only what goes to k
    let f : Nat → Sd := fun j => if j ∈ nb i then X i j else { X i j with peer := j }
    have hf : ∀ j, (f j).peer = j := fun j => by
      show (if j ∈ nb i then X i j else { X i j with peer := j }).peer = j
      by_cases hj : j ∈ nb i
      · rw [if_pos hj]; exact (h.pr i j hi hj).1
      · rw [if_neg hj]
    have hmap : (nb i).map (X i) = (nb i).map f := List.map_congr_left fun j hj => by show X i j = (if j ∈ nb i then X i j else { X i j with peer := j }); rw [if_pos hj]
    have hfk : f k = X i k := by show (if k ∈ nb i then X i k else { X i k with peer := k }) = X i k; rw [if_pos hk]
    unfold MF fireMl
    dsimp only
    rw [hmap, chan_fire i (P i) f hf (nb i) (hn.up i) k, if_pos hk, hfk]
  have hcho : ∀ (a : Nat) (k : Int), a ≠ i → chan (ms ++ MF nb X P i) a k = chan ms a k := fun a k ha => by
    rw [chan_app]
    unfold MF fireMl
    dsimp only
    rw [chan_other (by omega), List.append_nil]
  have he : ∀ k, k ∈ nb i → eatsNow nb X P i = true → P i = 1 ∧ (fireS1 (P i) (X i k)).fork = true := fun k hk e => by
    unfold eatsNow eats at e
    rw [Bool.and_eq_true, decide_eq_true_eq, List.all_eq_true] at e
    refine ⟨e.1, e.2 _ ?_⟩
    unfold fireSs
    rw [List.map_map]
    exact List.mem_map.2 ⟨k, hk, rfl⟩
  have main : ∀ k, k ∈ nb i → EO i k ep (XF nb X P i i k) (XF nb X P i k i) (chan (ms ++ MF nb X P i) i k) (chan (ms ++ MF nb X P i) k i) (PF nb X P i i) (PF nb X P i k) := fun k hk => by
    obtain ⟨b1, b2, b3⟩ := hn.back i k hi hk
    rw [hXi, hX k i b2, hchi k hk, hcho k i b2, hPi, hP k b2]
    exact (h.mine k hk).fire (he k hk) (h.ph i hi) (h.pr i k hi hk).1 (h.pr i k hi hk).2
  refine ⟨fun a k ha hk => ?_, fun a k ha hk => ?_, fun a ha => ?_, fun a k ha hk => ?_, fun a ha => ?_, fun m hm => ?_⟩
  · by_cases e : a = i
    · subst e; rw [hXi]; exact ⟨(keepsX _ _ _).1.trans (h.pr a k ha hk).1, (keepsX _ _ _).2.trans (h.pr a k ha hk).2⟩
    · rw [hX a k e]; exact h.pr a k ha hk
  · by_cases e : a = i
    · subst e; rw [hXi]; exact (keepsS _ _ _).trans (h.lv a k ha hk)
    · rw [hX a k e]; exact h.lv a k ha hk
  · by_cases e : a = i
    · subst e; rw [hPi]; unfold fireP; split
      · exact .inr (.inr rfl)
      · exact h.ph a ha
    · rw [hP a e]; exact h.ph a ha
  · by_cases e : a = i
    · subst e; exact main k hk
    · by_cases e2 : k = i
      · subst e2
        obtain ⟨b1, b2, b3⟩ := hn.back a k ha hk
        exact (main a b3).swap
      · rw [hX a k e, hX k a e2, hcho a k e, hcho k a e2, hP a e, hP k e2]
        exact h.edge a k ha hk e e2
  · by_cases e : a = i
    · subst e
      have := fireD_stays ⟨a, P a, (nb a).map (X a)⟩
      rw [fire_is] at this
      exact this
    · have e3 : (nb a).map (XF nb X P i a) = (nb a).map (X a) := List.map_congr_left fun k _ => hX a k e
      rw [hP a e, e3]
      exact h.calm a ha e
  · rw [List.mem_append] at hm
    rcases hm with hm | hm
    · exact h.mail m hm
    · unfold MF fireMl at hm
      obtain ⟨q1, s, hs, q2⟩ := fireMs_from m hm
      obtain ⟨k, hk, rfl⟩ := List.mem_map.1 hs
      exact ⟨i, k, hi, hk, q1, q2.trans (h.pr i k hi hk).1⟩

end Go.Proofs.YtdfleocknaackaaGreat

/- Layer 14 (mathematics): who is hungry, who stops, what comes: each leaves a scene in which one node is about to look. -/
namespace Go.Proofs.YtdfleocknaackaaGreat

def updP (P : Nat → Int) (i : Nat) (p : Int) : Nat → Int := fun a => if a = i then p else P a
def updX (X : Nat → Nat → Sd) (i k : Nat) (s : Sd) : Nat → Nat → Sd := fun a b => if a = i ∧ b = k then s else X a b
section
variable {n : Nat} {nb : Nat → List Nat} {ep : Int} {X : Nat → Nat → Sd} {P : Nat → Int} {ms : List Ml} {i : Nat}
theorem TB.phase (hn : NB n nb) (hi : i < n) (h : TB n nb ep X P ms) (p : Int) (hp : p = 0 ∨ p = 1 ∨ p = 2) (hw : ∀ k, k ∈ nb i → WA i k ep (X i k) (X k i) (chan ms i k) (chan ms k i) p (P k)) : TW n nb ep X (updP P i p) ms i := by
  have e1 : ∀ a, a ≠ i → updP P i p a = P a := fun a ha => by unfold updP; rw [if_neg ha]
  have e2 : updP P i p i = p := by unfold updP; rw [if_pos rfl]
  refine ⟨h.pr, h.lv, fun a ha => ?_, fun k hk => ?_, fun a k ha hk n1 n2 => ?_, fun a ha n1 => ?_, h.mail⟩
  · by_cases e : a = i
    · subst e; rw [e2]; exact hp
    · rw [e1 a e]; exact h.ph a ha
  · rw [e2, e1 k (hn.back i k hi hk).2.1]; exact hw k hk
  · rw [e1 a n1, e1 k n2]; exact h.edge a k ha hk
  · rw [e1 a n1]; exact h.calm a ha
theorem TB.start (hn : NB n nb) (hi : i < n) (h : TB n nb ep X P ms) (hp : P i = 0) : TW n nb ep X (updP P i 1) ms i :=
  h.phase hn hi 1 (.inr (.inl rfl)) fun k hk => by have := h.edge i k hi hk; rw [hp] at this; exact this.start
theorem TB.stop (hn : NB n nb) (hi : i < n) (h : TB n nb ep X P ms) (hp : P i = 2) : TW n nb ep X (updP P i 0) ms i :=
  h.phase hn hi 0 (.inl rfl) fun k hk => by have := h.edge i k hi hk; rw [hp] at this; exact this.stop

theorem chan_cut {l1 l2 : List Ml} {m : Ml} {a b : Int} (h : ¬ (m.from_ = a ∧ m.to_ = b)) : chan (l1 ++ m :: l2) a b = chan (l1 ++ l2) a b := by
  unfold chan
  rw [List.filter_append, List.filter_append, List.filter_cons, if_neg]
  intro e
  simp only [Bool.and_eq_true, beq_iff_eq] at e
  exact h e
theorem chan_first {l1 l2 : List Ml} {m : Ml} {a b : Int} (h : m.from_ = a ∧ m.to_ = b) (hno : ∀ x ∈ l1, ¬ (x.from_ = a ∧ x.to_ = b)) : chan (l1 ++ m :: l2) a b = m :: chan (l1 ++ l2) a b := by
  have e1 : l1.filter (fun m => m.from_ == a && m.to_ == b) = [] := by
    rw [List.filter_eq_nil_iff]
    intro x hx e
    simp only [Bool.and_eq_true, beq_iff_eq] at e
    exact hno x hx e
  unfold chan
  rw [List.filter_append, List.filter_append, List.filter_cons, e1, if_pos (by simp [h.1, h.2]), List.nil_append, List.nil_append]
/-- the oldest mail from k comes to i -/
theorem TB.come (hn : NB n nb) (hi : i < n) {k : Nat} {l1 l2 : List Ml} {m : Ml} (h : TB n nb ep X P (l1 ++ m :: l2)) (hm : m.from_ = k ∧ m.to_ = i) (hno : ∀ x ∈ l1, ¬ (x.from_ = k ∧ x.to_ = i)) :
    k ∈ nb i ∧ ∃ s, ((m = fk k i ep ∧ (X i k).fork = false ∧ s = { X i k with fork := true }) ∨ (m = tk k i ep ∧ (X i k).token = false ∧ s = { X i k with token := true })) ∧
      TW n nb ep (updX X i k s) P (l1 ++ l2) i ∧ ahd s (X k i) (chan (l1 ++ l2) k i) = ahd (X i k) (X k i) (chan (l1 ++ m :: l2) k i) := by
  have hki : k ∈ nb i ∧ k < n := by
    obtain ⟨a, b, ha, hb, e1, e2⟩ := h.mail m (by simp)
    have q1 : a = k := by omega
    have q2 : b = i := by omega
    subst q1 q2
    exact ⟨(hn.back a b ha hb).2.2, ha⟩
  obtain ⟨hk, hkn⟩ := hki
  refine ⟨hk, ?_⟩
  obtain ⟨b1, b2, b3⟩ := hn.back i k hi hk
  have hE := h.edge i k hi hk
  rw [chan_first hm hno] at hE
  rw [chan_first hm hno]
  have hcik : chan (l1 ++ m :: l2) i k = chan (l1 ++ l2) i k := chan_cut (by rw [hm.1, hm.2]; omega)
  rw [hcik] at hE
  have hu : ∀ s : Sd, updX X i k s i k = s := fun s => by unfold updX; rw [if_pos ⟨rfl, rfl⟩]
  have hv : ∀ (s : Sd) (a b : Nat), ¬ (a = i ∧ b = k) → updX X i k s a b = X a b := fun s a b e => by unfold updX; rw [if_neg e]
  have rest : ∀ s : Sd, s.peer = (X i k).peer → s.epoch = (X i k).epoch → s.state = (X i k).state → WA i k ep s (X k i) (chan (l1 ++ l2) i k) (chan (l1 ++ l2) k i) (P i) (P k) → TW n nb ep (updX X i k s) P (l1 ++ l2) i := fun s h1 h2 h3 hw => by
    refine ⟨fun a b ha hb => ?_, fun a b ha hb => ?_, h.ph, fun j hj => ?_, fun a j ha hj n1 n2 => ?_, fun a ha n1 => ?_, fun x hx => h.mail x (by simp only [List.mem_append, List.mem_cons] at hx ⊢; rcases hx with e | e; exact .inl e; exact .inr (.inr e))⟩
    · by_cases e : a = i ∧ b = k
      · obtain ⟨rfl, rfl⟩ := e
        rw [hu, h1, h2]; exact h.pr a b ha hb
      · rw [hv s a b e]; exact h.pr a b ha hb
    · by_cases e : a = i ∧ b = k
      · obtain ⟨rfl, rfl⟩ := e
        rw [hu, h3]; exact h.lv a b ha hb
      · rw [hv s a b e]; exact h.lv a b ha hb
    · by_cases e : j = k
      · subst e
        rw [hu, hv s j i (by omega)]
        exact hw
      · have hji := (hn.back i j hi hj).2.1
        have := h.edge i j hi hj
        rw [chan_cut (by rw [hm.1, hm.2]; omega), chan_cut (by rw [hm.1, hm.2]; omega)] at this
        rw [hv s i j (by omega), hv s j i (by omega)]
        exact this.idle
    · have := h.edge a j ha hj
      rw [chan_cut (by rw [hm.1, hm.2]; omega), chan_cut (by rw [hm.1, hm.2]; omega)] at this
      rw [hv s a j (by omega), hv s j a (by omega)]
      exact this
    · have e3 : (nb a).map (updX X i k s a) = (nb a).map (X a) := List.map_congr_left fun b _ => hv s a b (by omega)
      rw [e3]; exact h.calm a ha
  obtain ⟨c1, c2⟩ := hE.comeSame
  rcases hE.come with ⟨q1, q2, q3⟩ | ⟨q1, q2, q3⟩
  · exact ⟨_, .inl ⟨q1, q2, rfl⟩, rest _ rfl rfl rfl q3, c1 q1⟩
  · exact ⟨_, .inr ⟨q1, q2, rfl⟩, rest _ rfl rfl rfl q3, c2 q1⟩

/-- who goes ahead of whom: i of k -/
def ah (X : Nat → Nat → Sd) (ms : List Ml) (i k : Nat) : Bool := ahd (X i k) (X k i) (chan ms k i)
theorem TB.one (hi : i < n) (h : TB n nb ep X P ms) {k : Nat} (hk : k ∈ nb i) : ah X ms k i = !ah X ms i k := (h.edge i k hi hk).one
theorem TB.last (hi : i < n) (h : TB n nb ep X P ms) {k : Nat} (hk : k ∈ nb i) (hp : P i = 2) : ah X ms i k = false := by
  have := h.edge i k hi hk
  rw [hp] at this
  exact this.last
/-- what i does turns them only so that all go ahead of it -/
theorem TW.turns (hn : NB n nb) (hi : i < n) (h : TW n nb ep X P ms i) : ∀ a k, a < n → k ∈ nb a → ah (XF nb X P i) (ms ++ MF nb X P i) a k = true → ah X ms a k = true ∨ k = i ∧ eatsNow nb X P i = true := by
  have hB := h.fire hn hi
  have hX : ∀ a k, a ≠ i → XF nb X P i a k = X a k := fun a k ha => by unfold XF; rw [if_neg ha]
  have hXi : ∀ k, XF nb X P i i k = fireX (P i) (eatsNow nb X P i) (X i k) := fun k => by unfold XF; rw [if_pos rfl]
  have hcho : ∀ (a : Nat) (k : Int), a ≠ i → chan (ms ++ MF nb X P i) a k = chan ms a k := fun a k ha => by
    rw [chan_app]
    unfold MF fireMl
    dsimp only
    rw [chan_other (by omega), List.append_nil]
  have mine : ∀ k, k ∈ nb i → eatsNow nb X P i = false → ah (XF nb X P i) (ms ++ MF nb X P i) i k = ah X ms i k := fun k hk he => by
    have b2 := (hn.back i k hi hk).2.1
    unfold ah
    rw [hXi, hX k i b2, hcho k i b2, he]
    exact (h.mine k hk).same
  have eaten : ∀ k, k ∈ nb i → eatsNow nb X P i = true → ah (XF nb X P i) (ms ++ MF nb X P i) i k = false := fun k hk he => hB.last hi hk (by unfold PF; rw [if_pos rfl, he]; rfl)
  intro a k ha hk hh
  by_cases e : a = i
  · subst e
    cases he : eatsNow nb X P a
    · rw [mine k hk he] at hh; exact .inl hh
    · rw [eaten k hk he] at hh; cases hh
  · by_cases e2 : k = i
    · subst e2
      cases he : eatsNow nb X P k
      · obtain ⟨b1, b2, b3⟩ := hn.back a k ha hk
        left
        have q1 := hB.one hi b3
        rw [q1, mine a b3 he] at hh
        have hm := (h.mine a b3).one
        unfold ah at hh ⊢
        rw [hm]
        exact hh
      · exact .inr ⟨rfl, rfl⟩
    · left
      unfold ah at hh ⊢
      rw [hX a k e, hX k a e2, hcho k a e2] at hh
      exact hh
/-- they don't lead round -/
def NoRound (n : Nat) (nb : Nat → List Nat) (X : Nat → Nat → Sd) (ms : List Ml) : Prop := ∃ r : Nat → Nat, ∀ a k, a < n → k ∈ nb a → ah X ms a k = true → r a < r k
theorem top_of (r : Nat → Nat) : ∀ n, ∃ t, ∀ a, a < n → r a < t
  | 0 => ⟨0, fun a h => by omega⟩
  | n + 1 => by
    obtain ⟨t, ht⟩ := top_of r n
    refine ⟨max t (r n + 1), fun a h => ?_⟩
    by_cases e : a = n
    · subst e; omega
    · have := ht a (by omega); omega
theorem TW.noRound (hn : NB n nb) (hi : i < n) (h : TW n nb ep X P ms i) (hr : NoRound n nb X ms) : NoRound n nb (XF nb X P i) (ms ++ MF nb X P i) := by
  obtain ⟨r, hr⟩ := hr
  have ht := h.turns hn hi
  have hB := h.fire hn hi
  cases he : eatsNow nb X P i
  · refine ⟨r, fun a k ha hk hh => ?_⟩
    rcases ht a k ha hk hh with q | q
    · exact hr a k ha hk q
    · rw [he] at q; cases q.2
  · obtain ⟨t, htop⟩ := top_of r n
    refine ⟨fun a => if a = i then t else r a, fun a k ha hk hh => ?_⟩
    have hai : a ≠ i := fun e => by
      subst e
      have := hB.last hi hk (by unfold PF; rw [if_pos rfl, he]; rfl)
      rw [this] at hh; cases hh
    show (if a = i then t else r a) < (if k = i then t else r k)
    rw [if_neg hai]
    by_cases e2 : k = i
    · rw [if_pos e2]; exact htop a ha
    · rw [if_neg e2]
      rcases ht a k ha hk hh with q | q
      · exact hr a k ha hk q
      · exact absurd q.1 e2
end

end Go.Proofs.YtdfleocknaackaaGreat

/- Layer 14 (mathematics): where no mail is left and somebody is hungry, somebody eats; each mail that comes leaves less to come. -/
namespace Go.Proofs.YtdfleocknaackaaGreat

section
variable {n : Nat} {nb : Nat → List Nat} {ep : Int} {X : Nat → Nat → Sd} {P : Nat → Int} {ms : List Ml} {i : Nat}
theorem TB.progress (h : TB n nb ep X P []) (hr : NoRound n nb X []) (hn : NB n nb) : ∀ i, i < n → P i = 1 → ∃ k, k < n ∧ P k = 2 := by
  obtain ⟨r, hr⟩ := hr
  have key : ∀ (t i : Nat), r i ≤ t → i < n → P i = 1 → ∃ k, k < n ∧ P k = 2 := by
    intro t
    induction t with
    | zero =>
      intro i hri hi hp
      have hc := h.calm i hi
      unfold eats at hc
      rw [hp, decide_eq_true rfl, Bool.true_and, List.all_eq_false] at hc
      obtain ⟨s, hs, hf⟩ := hc
      obtain ⟨k, hk, rfl⟩ := List.mem_map.1 hs
      have hf : (X i k).fork = false := by simpa using hf
      obtain ⟨b1, b2, b3⟩ := hn.back i k hi hk
      have hE := h.edge i k hi hk
      have hch : ∀ a b : Int, chan [] a b = [] := fun _ _ => rfl
      rw [hch, hch] at hE
      rcases hE with ⟨st, c⟩ | ⟨st, c⟩
      · cases st with
        | f1 xf xt yt m n hb => rw [hf] at xf; cases xf
        | f2 xf xt yt m n hb hc => rw [hf] at xf; cases xf
        | f3 xf xt yt m n hb => rw [hf] at xf; cases xf
        | f4 xf xt yt m n hb ha => cases m
        | f5 xf xt yt m n hb ha => cases m
      · cases st with
        | f1 xf xt yt m n hb => omega
        | f2 xf xt yt m n hb hc =>
          cases hd : (X k i).dirty
          · have ha : ah X [] k i = true := by unfold ah ahd; rw [xf, hd]; rfl
            have := hr k i b1 b3 ha
            omega
          · exact ⟨k, b1, hc hd⟩
        | f3 xf xt yt m n hb => cases n
        | f4 xf xt yt m n hb ha => cases m
        | f5 xf xt yt m n hb ha => cases m
    | succ t ih =>
      intro i hri hi hp
      have hc := h.calm i hi
      unfold eats at hc
      rw [hp, decide_eq_true rfl, Bool.true_and, List.all_eq_false] at hc
      obtain ⟨s, hs, hf⟩ := hc
      obtain ⟨k, hk, rfl⟩ := List.mem_map.1 hs
      have hf : (X i k).fork = false := by simpa using hf
      obtain ⟨b1, b2, b3⟩ := hn.back i k hi hk
      have hE := h.edge i k hi hk
      have hch : ∀ a b : Int, chan [] a b = [] := fun _ _ => rfl
      rw [hch, hch] at hE
      rcases hE with ⟨st, c⟩ | ⟨st, c⟩
      · cases st with
        | f1 xf xt yt m n hb => rw [hf] at xf; cases xf
        | f2 xf xt yt m n hb hc => rw [hf] at xf; cases xf
        | f3 xf xt yt m n hb => rw [hf] at xf; cases xf
        | f4 xf xt yt m n hb ha => cases m
        | f5 xf xt yt m n hb ha => cases m
      · cases st with
        | f1 xf xt yt m n hb => omega
        | f2 xf xt yt m n hb hc =>
          cases hd : (X k i).dirty
          · have ha : ah X [] k i = true := by unfold ah ahd; rw [xf, hd]; rfl
            have := hr k i b1 b3 ha
            exact ih k (by omega) b1 (c.cl xf hd)
          · exact ⟨k, b1, hc hd⟩
        | f3 xf xt yt m n hb => cases n
        | f4 xf xt yt m n hb ha => cases m
        | f5 xf xt yt m n hb ha => cases m
  exact fun i hi hp => key (r i) i (Nat.le_refl _) hi hp

/-- nothing is to be done on an edge of which all goes well -/
theorem EO.quiet {a b ep : Int} {x y : Sd} {mab mba : List Ml} {pa pb : Int} (h : EO a b ep x y mab mba pa pb) (id : Int) : fireS1 pa x = x ∧ fireM1 id pa x = [] := by
  rcases h with ⟨st, c⟩ | ⟨st, c⟩
  · cases st with
    | f1 xf xt yt m n hb => exact fireS1_calm (not_hot_token xt).1 (not_hot_token xt).2 id
    | f2 xf xt yt m n hb hc =>
      refine fireS1_calm ?_ (not_wants_fork xf) id
      cases hd : x.dirty
      · exact not_hot_dirty hd
      · rw [hot_bits, hc hd]; simp
    | f3 xf xt yt m n hb => exact fireS1_calm (not_hot_token xt).1 (not_hot_token xt).2 id
    | f4 xf xt yt m n hb ha => exact fireS1_calm (not_hot_fork xf) (by rw [wants_bits, ha]; rfl) id
    | f5 xf xt yt m n hb ha => exact fireS1_calm (not_hot_token xt).1 (not_hot_token xt).2 id
  · cases st with
    | f1 xf xt yt m n hb => exact fireS1_calm (not_hot_fork c.yf) (by rw [wants_bits, hb]; rfl) id
    | f2 xf xt yt m n hb hc => exact fireS1_calm (not_hot_token yt).1 (not_hot_token yt).2 id
    | f3 xf xt yt m n hb => exact fireS1_calm (not_hot_token yt).1 (not_hot_token yt).2 id
    | f4 xf xt yt m n hb ha => exact fireS1_calm (not_hot_token yt).1 (not_hot_token yt).2 id
    | f5 xf xt yt m n hb ha => exact fireS1_calm (not_hot_token yt).1 (not_hot_token yt).2 id

/-- how much may come of a piece of mail -/
def wm (X : Nat → Nat → Sd) (P : Nat → Int) (m : Ml) : Nat := if (m.kind == 2 && ((X m.to_.toNat m.from_.toNat).fork && (X m.to_.toNat m.from_.toNat).dirty) && (P m.to_.toNat != 2)) = true then 3 else 1
def wt (X : Nat → Nat → Sd) (P : Nat → Int) (ms : List Ml) : Nat := (ms.map (wm X P)).sum
theorem wt_app (X : Nat → Nat → Sd) (P : Nat → Int) (l m : List Ml) : wt X P (l ++ m) = wt X P l + wt X P m := by unfold wt; rw [List.map_append, List.sum_append]
theorem wt_cons (X : Nat → Nat → Sd) (P : Nat → Int) (m : Ml) (l : List Ml) : wt X P (m :: l) = wm X P m + wt X P l := by unfold wt; rw [List.map_cons, List.sum_cons]
theorem wt_le {X X' : Nat → Nat → Sd} {P P' : Nat → Int} : ∀ {l : List Ml}, (∀ m ∈ l, wm X' P' m ≤ wm X P m) → wt X' P' l ≤ wt X P l
  | [], _ => Nat.le_refl _
  | m :: l, h => by
    rw [wt_cons, wt_cons]
    have h1 := h m (List.mem_cons_self ..)
    have h2 := wt_le (l := l) fun x hx => h x (List.mem_cons_of_mem _ hx)
    omega
theorem wm_one {X : Nat → Nat → Sd} {P : Nat → Int} {m : Ml} : 1 ≤ wm X P m := by unfold wm; split <;> omega
theorem wt_len (X : Nat → Nat → Sd) (P : Nat → Int) : ∀ l : List Ml, l.length ≤ wt X P l ∧ wt X P l ≤ 3 * l.length
  | [] => ⟨Nat.le_refl _, Nat.le_refl _⟩
  | m :: l => by
    have h1 := wt_len X P l
    have h2 : wm X P m ≤ 3 := by unfold wm; split <;> omega
    have h3 := wm_one (X := X) (P := P) (m := m)
    rw [wt_cons, List.length_cons]
    omega
theorem fireMs_one {id p : Int} (f : Nat → Sd) {k : Nat} : ∀ (l : List Nat), l.Pairwise (· < ·) → k ∈ l → (∀ j, j ∈ l → j ≠ k → fireM1 id p (f j) = []) → fireMs id p (l.map f) = fireM1 id p (f k)
  | [], _, hk, _ => by cases hk
  | j :: l, h, hk, hq => by
    obtain ⟨h1, h2⟩ := List.pairwise_cons.1 h
    have e : fireMs id p ((j :: l).map f) = fireM1 id p (f j) ++ fireMs id p (l.map f) := by unfold fireMs; rw [List.map_cons, List.flatMap_cons]
    rw [e]
    by_cases hj : j = k
    · subst hj
      have : fireMs id p (l.map f) = [] := by
        unfold fireMs
        rw [List.flatMap_eq_nil_iff]
        intro s hs
        obtain ⟨a, ha, rfl⟩ := List.mem_map.1 hs
        have := h1 a ha
        exact hq a (List.mem_cons_of_mem _ ha) (by omega)
      rw [this, List.append_nil]
    · rw [hq j (List.mem_cons_self ..) hj, List.nil_append]
      exact fireMs_one f l h2 ((List.mem_cons.1 hk).resolve_left (fun e => hj e.symm)) fun a ha hne => hq a (List.mem_cons_of_mem _ ha) hne

/-- each mail that comes leaves less to come -/
theorem TB.less (hn : NB n nb) (hi : i < n) {k : Nat} {l1 l2 : List Ml} {m : Ml} (h : TB n nb ep X P (l1 ++ m :: l2)) (hm : m.from_ = k ∧ m.to_ = i) (hno : ∀ x ∈ l1, ¬ (x.from_ = k ∧ x.to_ = i)) (hk : k ∈ nb i) {s : Sd}
    (hs : (m = fk k i ep ∧ (X i k).fork = false ∧ s = { X i k with fork := true }) ∨ (m = tk k i ep ∧ (X i k).token = false ∧ s = { X i k with token := true })) :
    wt (XF nb (updX X i k s) P i) (PF nb (updX X i k s) P i) ((l1 ++ l2) ++ MF nb (updX X i k s) P i) < wt X P (l1 ++ m :: l2) := by
  obtain ⟨b1, b2, b3⟩ := hn.back i k hi hk
  have hE := h.edge i k hi hk
  rw [chan_first hm hno] at hE
  have hu : updX X i k s i k = s := by unfold updX; rw [if_pos ⟨rfl, rfl⟩]
  have hv : ∀ (a b : Nat), ¬ (a = i ∧ b = k) → updX X i k s a b = X a b := fun a b e => by unfold updX; rw [if_neg e]
  obtain ⟨Y, hY⟩ : ∃ Y, Y = updX X i k s := ⟨_, rfl⟩
  rw [← hY] at hu hv ⊢
  have hXi : ∀ j, XF nb Y P i i j = fireX (P i) (eatsNow nb Y P i) (Y i j) := fun j => by unfold XF; rw [if_pos rfl]
  have hX : ∀ a j, a ≠ i → XF nb Y P i a j = X a j := fun a j ha => by unfold XF; rw [if_neg ha]; exact hv a j (by omega)
  have hPi : PF nb Y P i i = fireP (P i) (eatsNow nb Y P i) := by unfold PF; rw [if_pos rfl]
  have hP : ∀ a, a ≠ i → PF nb Y P i a = P a := fun a ha => by unfold PF; rw [if_neg ha]
  have hquiet : ∀ j, j ∈ nb i → j ≠ k → fireS1 (P i) (Y i j) = Y i j ∧ fireM1 i (P i) (Y i j) = [] := fun j hj hne => by
    rw [hv i j (by omega)]
    exact (h.edge i j hi hj).quiet i
  have hMF : MF nb Y P i = fireM1 i (P i) s := by
    unfold MF fireMl
    dsimp only
    rw [fireMs_one (Y i) (nb i) (hn.up i) hk fun j hj hne => (hquiet j hj hne).2, hu]
  -- what stays on its way
  have stays : ∀ x ∈ l1 ++ l2, wm (XF nb Y P i) (PF nb Y P i) x ≤ wm X P x := fun x hx => by
    obtain ⟨a, b, ha, hb, e1, e2⟩ := h.mail x (by simp only [List.mem_append, List.mem_cons] at hx ⊢; rcases hx with e | e; exact .inl e; exact .inr (.inr e))
    obtain ⟨c1, c2, c3⟩ := hn.back a b ha hb
    have t1 : x.to_.toNat = b := by omega
    have t2 : x.from_.toNat = a := by omega
    by_cases hbi : b = i
    · subst hbi
      unfold wm
      rw [t1, t2, hXi, hPi]
      cases he : eatsNow nb Y P b
      · have e3 : fireP (P b) false = P b := by unfold fireP; rw [if_neg (by simp)]
        have e4 : fireX (P b) false (Y b a) = fireS1 (P b) (Y b a) := by unfold fireX; rw [if_neg (by simp)]
        rw [e3, e4]
        by_cases hak : a = k
        · subst hak
          -- the mail that came was ahead of it: it was a fork
          rw [hu]
          rcases hs with ⟨q1, q2, q3⟩ | ⟨q1, q2, q3⟩
          · have hd : (X b a).dirty = false := by
              rcases hE with ⟨st, c⟩ | ⟨st, c⟩
              · exact c.xd q2
              · exact c.yd
            have h5 : (fireS1 (P b) s).dirty = false := by
              rw [q3]
              unfold fireS1 asked gone
              split <;> split <;> first | rfl | exact hd
            rw [h5]
            simp only [Bool.and_false, Bool.false_and, Bool.false_eq_true, if_false]
            split <;> omega
          · -- behind a token nothing is on its way there
            exfalso
            have hc : chan (l1 ++ l2) a b = [] := by
              rcases hE with ⟨st, c⟩ | ⟨st, c⟩
              · cases st with
                | f1 xf xt yt m n hb => cases n
                | f2 xf xt yt m n hb hc => cases n
                | f3 xf xt yt m n hb => exact (List.cons.inj n).2
                | f4 xf xt yt m n hb ha => cases n
                | f5 xf xt yt m n hb ha => cases n
              · cases st with
                | f1 xf xt yt m n hb => cases m
                | f2 xf xt yt m n hb hc => cases m
                | f3 xf xt yt m n hb => cases m
                | f4 xf xt yt m' n hb ha => have := (List.cons.inj m').1; rw [q1] at this; cases this
                | f5 xf xt yt m' n hb ha => have := (List.cons.inj m').1; rw [q1] at this; cases this
            have : x ∈ chan (l1 ++ l2) a b := by
              unfold chan
              rw [List.mem_filter]
              exact ⟨hx, by simp [e1, e2]⟩
            rw [hc] at this
            cases this
        · rw [(hquiet a c3 hak).1, hv b a (by omega)]
          exact Nat.le_refl _
      · have e3 : fireP (P b) true = 2 := by unfold fireP; rw [if_pos rfl]
        rw [e3]
        simp only [bne_self_eq_false, Bool.and_false, Bool.false_eq_true, if_false]
        split <;> omega
    · unfold wm
      rw [t1, t2, hX b a hbi, hP b hbi]
      exact Nat.le_refl _
  have hw := wt_le stays
  rw [wt_app] at hw ⊢
  rw [wt_app, wt_app, wt_cons]
  rw [wt_app] at hw
  -- what goes out
  have out : wt (XF nb Y P i) (PF nb Y P i) (MF nb Y P i) < wm X P m := by
    rw [hMF]
    rcases hs with ⟨q1, q2, q3⟩ | ⟨q1, q2, q3⟩
    · -- a fork came: the token isn't there
      have ht : s.token = false := by
        rw [q3]
        rcases hE with ⟨st, c⟩ | ⟨st, c⟩
        · cases st with
          | f1 xf xt yt m n hb => cases n
          | f2 xf xt yt m n hb hc => cases n
          | f3 xf xt yt m n hb => have := (List.cons.inj n).1; rw [q1] at this; cases this
          | f4 xf xt yt m n hb ha => cases n
          | f5 xf xt yt m n hb ha => cases n
        · cases st with
          | f1 xf xt yt m n hb => cases m
          | f2 xf xt yt m n hb hc => cases m
          | f3 xf xt yt m n hb => cases m
          | f4 xf xt yt m' n hb ha => exact yt
          | f5 xf xt yt m' n hb ha => exact yt
      rw [(fireS1_calm (not_hot_token (ph := P i) ht).1 (not_hot_token (ph := P i) ht).2 i).2]
      exact wm_one
    · -- a token came: the fork lies there
      have hf : (X i k).fork = true ∧ (X k i).fork = false := by
        rcases hE with ⟨st, c⟩ | ⟨st, c⟩
        · cases st with
          | f1 xf xt yt m n hb => cases n
          | f2 xf xt yt m n hb hc => cases n
          | f3 xf xt yt m n hb => exact ⟨xf, c.yf⟩
          | f4 xf xt yt m n hb ha => cases n
          | f5 xf xt yt m n hb ha => cases n
        · cases st with
          | f1 xf xt yt m n hb => cases m
          | f2 xf xt yt m n hb hc => cases m
          | f3 xf xt yt m n hb => cases m
          | f4 xf xt yt m' n hb ha => have := (List.cons.inj m').1; rw [q1] at this; cases this
          | f5 xf xt yt m' n hb ha => have := (List.cons.inj m').1; rw [q1] at this; cases this
      by_cases hh : hot (P i) s = true
      · have h3 : wm X P m = 3 := by
          have hh2 := hh
          rw [hot_bits, q3] at hh2
          simp only [Bool.and_eq_true] at hh2
          unfold wm
          rw [if_pos]
          have t1 : m.to_.toNat = i := by omega
          have t2 : m.from_.toNat = k := by omega
          rw [t1, t2, q1]
          simp only [Bool.and_eq_true]
          exact ⟨⟨rfl, hf.1, hh2.1.1.2⟩, hh2.2⟩
        rw [h3]
        have hk2 : ∀ x : Ml, x.kind = 1 ∨ (x.to_ = k ∧ x.from_ = i) → wm (XF nb Y P i) (PF nb Y P i) x = 1 := fun x hx => by
          unfold wm
          rw [if_neg]
          rcases hx with hx | ⟨hx1, hx2⟩
          · rw [hx]; simp
          · have t1 : x.to_.toNat = k := by omega
            have t2 : x.from_.toNat = i := by omega
            rw [t1, t2, hX k i b2, hf.2]; simp
        have hp := (h.pr i k hi hk).1
        have hsp : s.peer = k := by rw [q3]; exact hp
        have hall : ∀ x ∈ fireM1 (i : Int) (P i) s, wm (XF nb Y P i) (PF nb Y P i) x = 1 := fun x hx => by
          refine hk2 x (.inr ⟨(fireM1_to _ _ _ x hx).trans hsp, ?_⟩)
          have := fireMs_from (id := (i : Int)) (p := P i) (L := [s]) x (by unfold fireMs; rw [List.flatMap_cons]; exact List.mem_append_left _ hx)
          exact this.1
        have hlen := fireM1_len i (P i) s
        have : ∀ l : List Ml, (∀ x ∈ l, wm (XF nb Y P i) (PF nb Y P i) x = 1) → wt (XF nb Y P i) (PF nb Y P i) l = l.length := by
          intro l
          induction l with
          | nil => intro _; rfl
          | cons a l ih => intro hl; rw [wt_cons, hl a (List.mem_cons_self ..), ih fun x hx => hl x (List.mem_cons_of_mem _ hx), List.length_cons, Nat.add_comm]
        rw [this _ hall]
        omega
      · have hh : hot (P i) s = false := by simpa using hh
        have hsf : s.fork = true := by rw [q3]; exact hf.1
        rw [(fireS1_calm hh (not_wants_fork hsf) i).2]
        exact wm_one
  omega
end

end Go.Proofs.YtdfleocknaackaaGreat

/- Layer 14 (mathematics): what the diners of a scene answer; a mail that comes, as a step of the scene. -/
namespace Go.Proofs.YtdfleocknaackaaGreat

section
variable {n : Nat} {nb : Nat → List Nat} {ep : Int} {X : Nat → Nat → Sd} {P : Nat → Int} {ms : List Ml} {i : Nat}
theorem up_len : ∀ {l : List Nat} {a b : Nat}, l.Pairwise (· < ·) → (∀ x ∈ l, a ≤ x ∧ x < b) → l.length ≤ b - a
  | [], _, _, _, _ => Nat.zero_le _
  | x :: l, a, b, h, hx => by
    obtain ⟨h1, h2⟩ := List.pairwise_cons.1 h
    have q := hx x (List.mem_cons_self ..)
    have := up_len (a := x + 1) (b := b) h2 fun y hy => ⟨h1 y hy, (hx y (List.mem_cons_of_mem _ hy)).2⟩
    rw [List.length_cons]
    omega
theorem nb_len (hn : NB n nb) (hi : i < n) : (nb i).length ≤ n - 1 := by
  -- all are below n, and i isn't one
  have h1 : (nb i).length = ((nb i).map fun k => if k < i then k else k - 1).length := by rw [List.length_map]
  rw [h1]
  refine up_len (a := 0) (b := n - 1) ?_ fun x hx => ?_
  · rw [List.pairwise_map]
    refine (hn.up i).imp_of_mem fun {a b} ha hb hab => ?_
    have q1 := (hn.back i a hi ha).2.1
    have q2 := (hn.back i b hi hb).2.1
    split <;> split <;> omega
  · obtain ⟨k, hk, rfl⟩ := List.mem_map.1 hx
    have q := hn.back i k hi hk
    split <;> omega
theorem sidesD_nb {id : Int} (f : Nat → Sd) : ∀ {l : List Nat} {last : Int}, l.Pairwise (· < ·) → (∀ k ∈ l, last < k ∧ (f k).peer = k ∧ (k : Int) ≠ id ∧ 0 ≤ (f k).epoch ∧ (f k).epoch ≤ 65535 ∧ (f k).state = 0 ∧ ((f k).dirty && !(f k).fork) = false) → sidesD id last (l.map f) = true
  | [], _, _, _ => rfl
  | k :: l, last, h, hf => by
    obtain ⟨h1, h2⟩ := List.pairwise_cons.1 h
    obtain ⟨q1, q2, q3, q4, q5, q6, q7⟩ := hf k (List.mem_cons_self ..)
    rw [List.map_cons]
    refine sidesD_cons.2 ⟨?_, ?_⟩
    · unfold sideD
      rw [q2, q6, q7]
      simp only [Bool.and_eq_true, decide_eq_true_eq]
      exact ⟨q1, q3, q4, q5, by decide, by decide, rfl⟩
    · rw [q2]
      exact sidesD_nb f h2 fun j hj => ⟨by have := h1 j hj; omega, (hf j (List.mem_cons_of_mem _ hj)).2⟩
theorem Cl.dx {x y : Sd} {pa : Int} (c : Cl x y pa) : (x.dirty && !x.fork) = false ∧ (y.dirty && !y.fork) = false := by
  refine ⟨?_, by rw [c.yd]; rfl⟩
  cases h : x.fork
  · rw [c.xd h]; rfl
  · simp
theorem EO.dx {a b ep : Int} {x y : Sd} {mab mba : List Ml} {pa pb : Int} (h : EO a b ep x y mab mba pa pb) : (x.dirty && !x.fork) = false := by
  rcases h with h | h
  · exact h.c.dx.1
  · exact h.c.dx.2
theorem TB.ok (hn : NB n nb) (h64 : n ≤ 64) (h0 : 0 ≤ ep) (h1 : ep ≤ 65535) (h : TB n nb ep X P ms) (hi : i < n) : dnOk ⟨i, P i, (nb i).map (X i)⟩ = true := by
  unfold dnOk headD
  dsimp only
  have hl := nb_len hn hi
  rw [Bool.and_eq_true, Bool.and_eq_true, Bool.and_eq_true]
  refine ⟨⟨by rw [decide_eq_true_eq]; omega, ?_, by rw [decide_eq_true_eq, List.length_map]; omega⟩, ?_⟩
  · have := h.ph i hi
    simp only [Bool.or_eq_true, decide_eq_true_eq]
    omega
  · refine sidesD_nb (X i) (hn.up i) fun k hk => ?_
    have q := h.pr i k hi hk
    have b := hn.back i k hi hk
    exact ⟨by omega, q.1, by omega, by rw [q.2]; exact h0, by rw [q.2]; exact h1, h.lv i k hi hk, (h.edge i k hi hk).dx⟩

theorem set_nb (f : Nat → Sd) (s : Sd) {k : Nat} : ∀ {l : List Nat} {j : Nat}, l.Pairwise (· < ·) → l[j]? = some k → (l.map f).set j s = l.map fun a => if a = k then s else f a
  | [], _, _, h => by simp at h
  | a :: l, 0, hp, h => by
    obtain rfl : a = k := by simpa using h
    obtain ⟨h1, h2⟩ := List.pairwise_cons.1 hp
    rw [List.map_cons, List.set_cons_zero, List.map_cons, if_pos rfl]
    congr 1
    refine List.map_congr_left fun b hb => ?_
    rw [if_neg (by have := h1 b hb; omega)]
  | a :: l, j + 1, hp, h => by
    obtain ⟨h1, h2⟩ := List.pairwise_cons.1 hp
    have h' : l[j]? = some k := by simpa using h
    have hk : a ≠ k := by have := h1 k (List.mem_of_getElem? h'); omega
    rw [List.map_cons, List.set_cons_succ, List.map_cons, if_neg hk, set_nb f s h2 h']
theorem find_nb (f : Nat → Sd) (q : Sd → Bool) {k : Nat} {l : List Nat} (hk : k ∈ l) (hp : l.Pairwise (· < ·)) (h1 : q (f k) = true) (h2 : ∀ j, j ∈ l → j ≠ k → q (f j) = false) : ∃ j, l[j]? = some k ∧ findS q (l.map f) = some (j, f k) := by
  obtain ⟨j, hj⟩ := List.getElem?_of_mem hk
  refine ⟨j, hj, findS_some (by rw [List.getElem?_map, hj]; rfl) h1 fun a u ha hu => ?_⟩
  rw [List.getElem?_map, Option.map_eq_some_iff] at hu
  obtain ⟨b, hb, rfl⟩ := hu
  refine h2 b (List.mem_of_getElem? hb) fun e => ?_
  subst e
  obtain ⟨q1, e1⟩ := List.getElem?_eq_some_iff.1 hb
  obtain ⟨q2, e2⟩ := List.getElem?_eq_some_iff.1 hj
  have := List.pairwise_iff_getElem.1 hp a j q1 q2 ha
  omega
/-- what comes to a diner of a scene -/
theorem getR_nb (hn : NB n nb) (hok : dnOk ⟨i, P i, (nb i).map (X i)⟩ = true) (hpr : ∀ k, k ∈ nb i → (X i k).peer = k ∧ (X i k).epoch = ep) {k : Nat} (hk : k ∈ nb i) {m : Ml} {s : Sd}
    (hs : (m = fk k i ep ∧ (X i k).fork = false ∧ s = { X i k with fork := true }) ∨ (m = tk k i ep ∧ (X i k).token = false ∧ s = { X i k with token := true })) :
    getR ⟨i, P i, (nb i).map (X i)⟩ k m.kind m.epoch m.num = (⟨i, P i, (nb i).map (updX X i k s i)⟩, 0) := by
  have hme : m.epoch = ep ∧ m.num = 0 := by rcases hs with ⟨q, _, _⟩ | ⟨q, _, _⟩ <;> rw [q] <;> exact ⟨rfl, rfl⟩
  obtain ⟨j, hj, hf⟩ := find_nb (X i) (fun s => s.peer == k && s.epoch == m.epoch) hk (hn.up i) (by rw [(hpr k hk).1, (hpr k hk).2, hme.1]; simp) fun a ha hne => by
    rw [(hpr a ha).1]
    have : ((a : Int) == (k : Int)) = false := by simp; omega
    rw [this]; rfl
  have hw : withR (X i k) m.kind m.num = (s, 0) := by
    unfold withR
    rcases hs with ⟨q1, q2, q3⟩ | ⟨q1, q2, q3⟩
    · rw [q1, q3]; simp [fk, q2]
    · rw [q1, q3]; simp [tk, q2]
  have hset : ((nb i).map (X i)).set j s = (nb i).map (updX X i k s i) := by
    rw [set_nb (X i) s (hn.up i) hj]
    refine List.map_congr_left fun a _ => ?_
    unfold updX
    by_cases e : a = k
    · rw [if_pos e, if_pos ⟨rfl, e⟩]
    · rw [if_neg e, if_neg (fun h => e h.2)]
  unfold getR
  rw [if_pos hok]
  dsimp only
  rw [hf]
  dsimp only
  rw [hw, if_pos rfl, hset]

/-- a step: the oldest mail from k comes to i -/
theorem TB.deliver (hn : NB n nb) (h64 : n ≤ 64) (h0 : 0 ≤ ep) (h1 : ep ≤ 65535) (hi : i < n) {k : Nat} {l1 l2 : List Ml} {m : Ml} (h : TB n nb ep X P (l1 ++ m :: l2)) (hr : NoRound n nb X (l1 ++ m :: l2)) (hm : m.from_ = k ∧ m.to_ = i) (hno : ∀ x ∈ l1, ¬ (x.from_ = k ∧ x.to_ = i)) :
    ∃ (X' : Nat → Nat → Sd) (P' : Nat → Int) (d : Dn), getR ⟨i, P i, (nb i).map (X i)⟩ k m.kind m.epoch m.num = (d, 0) ∧ dnOk d = true ∧ fireD d = ⟨i, P' i, (nb i).map (X' i)⟩ ∧ (∀ a j, a ≠ i → X' a j = X a j) ∧ (∀ a, a ≠ i → P' a = P a) ∧ (P' i = P i ∨ P i = 1 ∧ P' i = 2) ∧
      TB n nb ep X' P' ((l1 ++ l2) ++ fireMl d) ∧ NoRound n nb X' ((l1 ++ l2) ++ fireMl d) ∧ wt X' P' ((l1 ++ l2) ++ fireMl d) < wt X P (l1 ++ m :: l2) := by
  obtain ⟨hk, s, hs, hw, ha⟩ := h.come hn hi hm hno
  have hv : ∀ (a b : Nat), ¬ (a = i ∧ b = k) → updX X i k s a b = X a b := fun a b e => by unfold updX; rw [if_neg e]
  have hg := getR_nb hn (h.ok hn h64 h0 h1 hi) (fun j hj => h.pr i j hi hj) hk hs
  have hnr : NoRound n nb (updX X i k s) (l1 ++ l2) := by
    obtain ⟨r, hr⟩ := hr
    refine ⟨r, fun a j haa hj hh => ?_⟩
    obtain ⟨b1, b2, b3⟩ := hn.back i k hi hk
    by_cases e : a = i ∧ j = k
    · obtain ⟨rfl, rfl⟩ := e
      refine hr a j haa hj ?_
      unfold ah at hh ⊢
      have e1 : updX X a j s a j = s := by unfold updX; rw [if_pos ⟨rfl, rfl⟩]
      rw [e1, hv j a (by omega), ha] at hh
      exact hh
    · by_cases e2 : a = k ∧ j = i
      · obtain ⟨rfl, rfl⟩ := e2
        -- the same edge from the other end
        refine hr a j haa hj ?_
        have o1 := (hw.mine a hk).one
        have o2 := (h.edge j a hi hk).one
        have e1 : updX X j a s j a = s := by unfold updX; rw [if_pos ⟨rfl, rfl⟩]
        rw [e1, hv a j (by omega)] at o1
        unfold ah at hh ⊢
        rw [e1, hv a j (by omega)] at hh
        rw [o1, ha] at hh
        rw [o2]; exact hh
      · refine hr a j haa hj ?_
        unfold ah at hh ⊢
        rw [hv a j e, hv j a (by omega)] at hh
        rw [chan_cut (by rw [hm.1, hm.2]; omega)]
        exact hh
  refine ⟨XF nb (updX X i k s) P i, PF nb (updX X i k s) P i, _, hg, ?_, ?_, fun a j hne => ?_, fun a hne => ?_, ?_, hw.fire hn hi, hw.noRound hn hi hnr, h.less hn hi hm hno hk hs⟩
  · have hd := h.ok hn h64 h0 h1 hi
    obtain ⟨j, hj⟩ := List.getElem?_of_mem hk
    have hset : ((nb i).map (X i)).set j s = (nb i).map (updX X i k s i) := by
      rw [set_nb (X i) s (hn.up i) hj]
      refine List.map_congr_left fun a _ => ?_
      unfold updX
      by_cases e : a = k
      · rw [if_pos e, if_pos ⟨rfl, e⟩]
      · rw [if_neg e, if_neg (fun h => e h.2)]
    have hdx : (s.dirty && !s.fork) = false := by
      have := (h.edge i k hi hk).dx
      rcases hs with ⟨_, _, q3⟩ | ⟨_, _, q3⟩
      · rw [q3]; simp
      · rw [q3]; exact this
    have hsk : s.peer = (X i k).peer ∧ s.epoch = (X i k).epoch ∧ s.state = (X i k).state := by
      rcases hs with ⟨_, _, q3⟩ | ⟨_, _, q3⟩ <;> rw [q3] <;> exact ⟨rfl, rfl, rfl⟩
    rw [← hset]
    exact dnOk_set hd (by rw [List.getElem?_map, hj]; rfl) hsk.1 hsk.2.1 hsk.2.2 hdx
  · exact fire_is nb (updX X i k s) P i
  · unfold XF; rw [if_neg hne]; exact hv a j (by omega)
  · unfold PF; rw [if_neg hne]
  · unfold PF fireP
    rw [if_pos rfl]
    cases he : eatsNow nb (updX X i k s) P i
    · left; rw [if_neg (by simp)]
    · right
      rw [if_pos rfl]
      unfold eatsNow eats at he
      rw [Bool.and_eq_true, decide_eq_true_eq] at he
      exact ⟨he.1, rfl⟩
end

end Go.Proofs.YtdfleocknaackaaGreat

/- Layer 14 (mathematics): who is hungry, who stops, as steps of the scene; how much mail there may be; how many aren't at rest. -/
namespace Go.Proofs.YtdfleocknaackaaGreat

section
variable {n : Nat} {nb : Nat → List Nat} {ep : Int} {X : Nat → Nat → Sd} {P : Nat → Int} {ms : List Ml} {i : Nat}
theorem dnOk_phase {id p q : Int} {L : List Sd} (h : dnOk ⟨id, p, L⟩ = true) (hq : q = 0 ∨ q = 1 ∨ q = 2) : dnOk ⟨id, q, L⟩ = true := by
  unfold dnOk headD at *
  simp only [Bool.and_eq_true, Bool.or_eq_true, decide_eq_true_eq] at *
  exact ⟨⟨h.1.1, by omega, h.1.2.2⟩, h.2⟩
/-- one of those who think is hungry -/
theorem TB.startS (hn : NB n nb) (h64 : n ≤ 64) (h0 : 0 ≤ ep) (h1 : ep ≤ 65535) (hi : i < n) (h : TB n nb ep X P ms) (hr : NoRound n nb X ms) (hp : P i = 0) :
    ∃ (X' : Nat → Nat → Sd) (P' : Nat → Int), dnOk ⟨i, P i, (nb i).map (X i)⟩ = true ∧ fireD ⟨i, 1, (nb i).map (X i)⟩ = ⟨i, P' i, (nb i).map (X' i)⟩ ∧ dnOk ⟨i, 1, (nb i).map (X i)⟩ = true ∧ (∀ a j, a ≠ i → X' a j = X a j) ∧ (∀ a, a ≠ i → P' a = P a) ∧ (P' i = 1 ∨ P' i = 2) ∧
      TB n nb ep X' P' (ms ++ fireMl ⟨i, 1, (nb i).map (X i)⟩) ∧ NoRound n nb X' (ms ++ fireMl ⟨i, 1, (nb i).map (X i)⟩) := by
  have hw := h.start hn hi hp
  have e1 : updP P i 1 i = 1 := by unfold updP; rw [if_pos rfl]
  have hM : MF nb X (updP P i 1) i = fireMl ⟨i, 1, (nb i).map (X i)⟩ := by unfold MF; rw [e1]
  have hF := fire_is nb X (updP P i 1) i
  rw [e1] at hF
  have hB := hw.fire hn hi
  have hR := hw.noRound hn hi hr
  rw [hM] at hB hR
  have hd := h.ok hn h64 h0 h1 hi
  refine ⟨_, _, hd, hF, dnOk_phase hd (.inr (.inl rfl)), fun a j hne => ?_, fun a hne => ?_, ?_, hB, hR⟩
  · unfold XF; rw [if_neg hne]
  · unfold PF; rw [if_neg hne]; unfold updP; rw [if_neg hne]
  · unfold PF fireP
    rw [if_pos rfl, e1]
    split
    · exact .inr rfl
    · exact .inl rfl
/-- one of those who eat stops -/
theorem TB.stopS (hn : NB n nb) (h64 : n ≤ 64) (h0 : 0 ≤ ep) (h1 : ep ≤ 65535) (hi : i < n) (h : TB n nb ep X P ms) (hr : NoRound n nb X ms) (hp : P i = 2) :
    ∃ (X' : Nat → Nat → Sd) (P' : Nat → Int), dnOk ⟨i, P i, (nb i).map (X i)⟩ = true ∧ fireD ⟨i, 0, (nb i).map (X i)⟩ = ⟨i, P' i, (nb i).map (X' i)⟩ ∧ dnOk ⟨i, 0, (nb i).map (X i)⟩ = true ∧ (∀ a j, a ≠ i → X' a j = X a j) ∧ (∀ a, a ≠ i → P' a = P a) ∧ P' i = 0 ∧
      TB n nb ep X' P' (ms ++ fireMl ⟨i, 0, (nb i).map (X i)⟩) ∧ NoRound n nb X' (ms ++ fireMl ⟨i, 0, (nb i).map (X i)⟩) := by
  have hw := h.stop hn hi hp
  have e1 : updP P i 0 i = 0 := by unfold updP; rw [if_pos rfl]
  have hM : MF nb X (updP P i 0) i = fireMl ⟨i, 0, (nb i).map (X i)⟩ := by unfold MF; rw [e1]
  have hF := fire_is nb X (updP P i 0) i
  rw [e1] at hF
  have hB := hw.fire hn hi
  have hR := hw.noRound hn hi hr
  rw [hM] at hB hR
  have hd := h.ok hn h64 h0 h1 hi
  refine ⟨_, _, hd, hF, dnOk_phase hd (.inl rfl), fun a j hne => ?_, fun a hne => ?_, ?_, hB, hR⟩
  · unfold XF; rw [if_neg hne]
  · unfold PF; rw [if_neg hne]; unfold updP; rw [if_neg hne]
  · have he : eatsNow nb X (updP P i 0) i = false := by unfold eatsNow eats; rw [e1]; rfl
    unfold PF fireP
    rw [if_pos rfl, he, if_neg (by simp), e1]

/-- how many aren't at rest -/
def act (n : Nat) (P : Nat → Int) : Nat := (List.range n).countP fun i => P i != 0
theorem act_same {P P' : Nat → Int} (h : ∀ i, i < n → (P' i = 0 ↔ P i = 0)) : act n P' = act n P := by
  unfold act
  refine List.countP_congr fun i hi => ?_
  have := h i (List.mem_range.1 hi)
  simp only [bne_iff_ne, ne_eq]
  rw [this]
theorem act_le (n : Nat) (P : Nat → Int) : act n P ≤ n := by
  unfold act
  have := List.countP_le_length (p := fun i => P i != 0) (l := List.range n)
  rwa [List.length_range] at this
theorem countP_one {α : Type} [DecidableEq α] {p q : α → Bool} {x : α} (hq : q x = true) (hp : p x = false) : ∀ {l : List α}, l.Nodup → (∀ y ∈ l, y ≠ x → p y = q y) → x ∈ l → l.countP p + 1 = l.countP q
  | [], _, _, hx => by cases hx
  | y :: l, hn, h, hx => by
    obtain ⟨h1, h2⟩ := List.nodup_cons.1 hn
    rw [List.countP_cons, List.countP_cons]
    by_cases e : y = x
    · subst e
      have : l.countP p = l.countP q := List.countP_congr fun z hz => by
        rw [h z (List.mem_cons_of_mem _ hz) (fun e => h1 (e ▸ hz))]
      rw [this, hq, hp]; simp
    · have ih := countP_one hq hp h2 (fun z hz => h z (List.mem_cons_of_mem _ hz)) ((List.mem_cons.1 hx).resolve_left fun e2 => e e2.symm)
      rw [h y (List.mem_cons_self ..) e]
      omega
theorem act_less {P P' : Nat → Int} (hi : i < n) (h : P i ≠ 0) (h' : P' i = 0) (hs : ∀ a, a ≠ i → P' a = P a) : act n P' + 1 = act n P := by
  unfold act
  refine countP_one (by simpa using h) (by simp [h']) List.nodup_range (fun a _ hne => by rw [hs a hne]) (List.mem_range.2 hi)
theorem act_none {P : Nat → Int} : act n P = 0 ↔ ∀ i, i < n → P i = 0 := by
  unfold act
  rw [List.countP_eq_zero]
  constructor
  · intro h i hi
    have := h i (List.mem_range.2 hi)
    simpa using this
  · intro h i hi
    have := h i (List.mem_range.1 hi)
    simp [this]

/-- on an edge at most two things are on their way -/
theorem EO.few {a b ep : Int} {x y : Sd} {mab mba : List Ml} {pa pb : Int} (h : EO a b ep x y mab mba pa pb) : mab.length + mba.length ≤ 2 := by
  rcases h with ⟨st, c⟩ | ⟨st, c⟩ <;> cases st with
  | f1 xf xt yt m n hb => rw [m, n]; simp
  | f2 xf xt yt m n hb hc => rw [m, n]; simp
  | f3 xf xt yt m n hb => rw [m, n]; simp
  | f4 xf xt yt m n hb ha => rw [m, n]; simp
  | f5 xf xt yt m n hb ha => rw [m, n]; simp
def tot (Es : List (Nat × Nat)) (ms : List Ml) : Nat := (Es.map fun e => (chan ms e.1 e.2).length + (chan ms e.2 e.1).length).sum
theorem chan_more (m : Ml) (ms : List Ml) (a b : Int) : (chan ms a b).length ≤ (chan (m :: ms) a b).length ∧ (m.from_ = a ∧ m.to_ = b → (chan ms a b).length + 1 = (chan (m :: ms) a b).length) := by
  unfold chan
  rw [List.filter_cons]
  constructor
  · split
    · rw [List.length_cons]; omega
    · exact Nat.le_refl _
  · intro h
    rw [if_pos (by simp [h.1, h.2]), List.length_cons]
theorem sum_le {α : Type} {f g : α → Nat} : ∀ {l : List α}, (∀ x ∈ l, f x ≤ g x) → (l.map f).sum ≤ (l.map g).sum
  | [], _ => Nat.le_refl _
  | x :: l, h => by
    rw [List.map_cons, List.map_cons, List.sum_cons, List.sum_cons]
    have := h x (List.mem_cons_self ..)
    have := sum_le (l := l) fun y hy => h y (List.mem_cons_of_mem _ hy)
    omega
theorem sum_lt {α : Type} {f g : α → Nat} {e : α} (he : f e < g e) : ∀ {l : List α}, (∀ x ∈ l, f x ≤ g x) → e ∈ l → (l.map f).sum < (l.map g).sum
  | [], _, hm => by cases hm
  | x :: l, h, hm => by
    rw [List.map_cons, List.map_cons, List.sum_cons, List.sum_cons]
    have h1 := h x (List.mem_cons_self ..)
    rcases List.mem_cons.1 hm with rfl | hm
    · have := sum_le (l := l) fun y hy => h y (List.mem_cons_of_mem _ hy)
      omega
    · have := sum_lt he (l := l) (fun y hy => h y (List.mem_cons_of_mem _ hy)) hm
      omega
theorem len_tot {Es : List (Nat × Nat)} : ∀ {ms : List Ml}, (∀ m ∈ ms, ∃ e ∈ Es, (m.from_ = (e.1 : Int) ∧ m.to_ = (e.2 : Int)) ∨ (m.from_ = (e.2 : Int) ∧ m.to_ = (e.1 : Int))) → ms.length ≤ tot Es ms
  | [], _ => Nat.zero_le _
  | m :: ms, h => by
    have ih := len_tot (Es := Es) (ms := ms) fun x hx => h x (List.mem_cons_of_mem _ hx)
    obtain ⟨e, he, hm⟩ := h m (List.mem_cons_self ..)
    have : tot Es ms < tot Es (m :: ms) := by
      refine sum_lt (e := e) ?_ (fun x _ => ?_) he
      · have q1 := chan_more m ms e.1 e.2
        have q2 := chan_more m ms e.2 e.1
        rcases hm with hm | hm
        · have := q1.2 hm; omega
        · have := q2.2 hm; omega
      · have q1 := chan_more m ms x.1 x.2
        have q2 := chan_more m ms x.2 x.1
        omega
    rw [List.length_cons]
    omega
theorem sum_const {α : Type} {f : α → Nat} {c : Nat} : ∀ {l : List α}, (∀ x ∈ l, f x ≤ c) → (l.map f).sum ≤ c * l.length
  | [], _ => Nat.zero_le _
  | x :: l, h => by
    rw [List.map_cons, List.sum_cons, List.length_cons, Nat.mul_succ]
    have := h x (List.mem_cons_self ..)
    have := sum_const (l := l) fun y hy => h y (List.mem_cons_of_mem _ hy)
    omega
/-- how much mail there may be -/
theorem TB.mailFew (h : TB n nb ep X P ms) {Es : List (Nat × Nat)} (h1 : ∀ e ∈ Es, e.1 < n ∧ e.2 ∈ nb e.1) (h2 : ∀ i k, i < n → k ∈ nb i → (i, k) ∈ Es ∨ (k, i) ∈ Es) : ms.length ≤ 2 * Es.length ∧ wt X P ms ≤ 6 * Es.length := by
  have q : ms.length ≤ tot Es ms := len_tot fun m hm => by
    obtain ⟨i, k, hi, hk, e1, e2⟩ := h.mail m hm
    rcases h2 i k hi hk with e | e
    · exact ⟨_, e, .inl ⟨e1, e2⟩⟩
    · exact ⟨_, e, .inr ⟨e1, e2⟩⟩
  have q2 : tot Es ms ≤ 2 * Es.length := sum_const fun e he => (h.edge e.1 e.2 (h1 e he).1 (h1 e he).2).few
  have q3 := (wt_len X P ms).2
  omega
end

end Go.Proofs.YtdfleocknaackaaGreat

/- Layer 14 (mathematics): the steps of a scene as a list of diners and one of mail; all mail comes; all who eat stop; who is hungry eats. -/
namespace Go.Proofs.YtdfleocknaackaaGreat

/-- the oldest mail from a to b, what was sent ahead of it, and behind it -/
def pick (a b : Int) : List Ml → Option (List Ml × Ml × List Ml)
  | [] => none
  | m :: l => if m.from_ = a ∧ m.to_ = b then some ([], m, l) else (pick a b l).map fun x => (m :: x.1, x.2.1, x.2.2)
theorem pick_some {a b : Int} : ∀ {ms : List Ml} {l1 : List Ml} {m : Ml} {l2 : List Ml}, pick a b ms = some (l1, m, l2) → ms = l1 ++ m :: l2 ∧ (m.from_ = a ∧ m.to_ = b) ∧ ∀ x ∈ l1, ¬ (x.from_ = a ∧ x.to_ = b)
  | [], _, _, _, h => by cases h
  | y :: l, l1, m, l2, h => by
    unfold pick at h
    by_cases e : y.from_ = a ∧ y.to_ = b
    · rw [if_pos e] at h
      cases h
      exact ⟨rfl, e, fun x hx => by cases hx⟩
    · rw [if_neg e] at h
      cases hp : pick a b l with
      | none => rw [hp] at h; cases h
      | some t =>
        obtain ⟨u1, v, u2⟩ := t
        rw [hp] at h
        cases h
        obtain ⟨q1, q2, q3⟩ := pick_some hp
        refine ⟨by rw [q1]; rfl, q2, fun x hx => ?_⟩
        rcases List.mem_cons.1 hx with rfl | hx
        · exact e
        · exact q3 x hx

def noS : List Dn × List Ml := ([], [])
def fireAt (ds : List Dn) (ms : List Ml) (who : Nat) (d : Dn) : List Dn × List Ml := (ds.set who (fireD d), ms ++ fireMl d)
/-- what becomes of a scene that may be, or what is wrong: k = 0: a is hungry; 1: a stops; 2: the oldest mail from a to b comes -/
def stepS (ds : List Dn) (ms : List Ml) (k a b : Int) : (List Dn × List Ml) × Int :=
  if ¬ (0 ≤ a ∧ a < ds.length) ∨ k = 2 ∧ ¬ (0 ≤ b ∧ b < ds.length) then (noS, 140) else
  if k = 2 then (match pick a b ms with
    | none => (noS, 141)
    | some (l1, m, l2) => match ds[b.toNat]? with
      | none => (noS, 140)
      | some d => if (getR d a m.kind m.epoch m.num).2 = 0 then (fireAt ds (l1 ++ l2) b.toNat (getR d a m.kind m.epoch m.num).1, 0) else (noS, (getR d a m.kind m.epoch m.num).2))
  else match ds[a.toNat]? with
    | none => (noS, 140)
    | some d => if d.phase = (if k = 1 then 2 else 0) then (fireAt ds ms a.toNat ⟨d.id, if k = 1 then 0 else 1, d.sides⟩, 0) else (noS, 134)

section
variable {n : Nat} {nb : Nat → List Nat} {ep : Int} {X : Nat → Nat → Sd} {P : Nat → Int} {ms : List Ml} {i : Nat}
theorem dsOf_len : (dsOf n nb X P).length = n := by unfold dsOf; rw [List.length_map, List.length_range]
theorem dsOf_get (hi : i < n) : (dsOf n nb X P)[i]? = some ⟨i, P i, (nb i).map (X i)⟩ := by
  unfold dsOf
  rw [List.getElem?_map, List.getElem?_range hi]
  rfl
theorem dsOf_set {X' : Nat → Nat → Sd} {P' : Nat → Int} (hX : ∀ a j, a ≠ i → X' a j = X a j) (hP : ∀ a, a ≠ i → P' a = P a) :
    (dsOf n nb X P).set i ⟨i, P' i, (nb i).map (X' i)⟩ = dsOf n nb X' P' := by
  refine List.ext_getElem? fun a => ?_
  by_cases ha : a < n
  · rw [dsOf_get ha, List.getElem?_set]
    by_cases e : i = a
    · subst e
      rw [if_pos rfl, if_pos (by rw [dsOf_len]; exact ha)]
    · have e2 : a ≠ i := fun h => e h.symm
      rw [if_neg e, dsOf_get ha, hP a e2, List.map_congr_left fun j _ => hX a j e2]
  · rw [List.getElem?_eq_none (by rw [List.length_set, dsOf_len]; omega), List.getElem?_eq_none (by rw [dsOf_len]; omega)]

/-- mail comes -/
theorem TB.stepDel (hn : NB n nb) (h64 : n ≤ 64) (h0 : 0 ≤ ep) (h1 : ep ≤ 65535) {k : Nat} (hk : k < n) (hi : i < n) (h : TB n nb ep X P ms) (hr : NoRound n nb X ms) :
    (pick k i ms = none ∧ stepS (dsOf n nb X P) ms 2 k i = (noS, 141)) ∨
    ∃ (X' : Nat → Nat → Sd) (P' : Nat → Int) (ms' : List Ml), stepS (dsOf n nb X P) ms 2 k i = ((dsOf n nb X' P', ms'), 0) ∧ (∀ a, P' a = P a ∨ P a = 1 ∧ P' a = 2) ∧
      TB n nb ep X' P' ms' ∧ NoRound n nb X' ms' ∧ wt X' P' ms' < wt X P ms := by
  have hnode : ¬ (¬ ((0 : Int) ≤ k ∧ (k : Int) < (dsOf n nb X P).length) ∨ (2 : Int) = 2 ∧ ¬ ((0 : Int) ≤ i ∧ (i : Int) < (dsOf n nb X P).length)) := by rw [dsOf_len]; omega
  unfold stepS
  rw [if_neg hnode, if_pos rfl]
  cases hp : pick k i ms with
  | none => exact .inl ⟨rfl, rfl⟩
  | some t =>
    obtain ⟨l1, m, l2⟩ := t
    obtain ⟨q1, q2, q3⟩ := pick_some hp
    subst q1
    obtain ⟨X', P', d, g1, g2, g3, g4, g5, g6, g7, g8, g9⟩ := TB.deliver hn h64 h0 h1 hi h hr q2 q3
    refine .inr ⟨X', P', (l1 ++ l2) ++ fireMl d, ?_, fun a => ?_, g7, g8, g9⟩
    · dsimp only
      rw [Int.toNat_natCast, dsOf_get hi]
      dsimp only
      rw [g1]
      dsimp only
      rw [if_pos rfl]
      unfold fireAt
      rw [g3, dsOf_set g4 g5]
    · by_cases e : a = i
      · subst e; exact g6
      · exact .inl (g5 a e)
/-- one is hungry -/
theorem TB.stepStart (hn : NB n nb) (h64 : n ≤ 64) (h0 : 0 ≤ ep) (h1 : ep ≤ 65535) (hi : i < n) (b : Int) (h : TB n nb ep X P ms) (hr : NoRound n nb X ms) :
    (P i ≠ 0 ∧ stepS (dsOf n nb X P) ms 0 i b = (noS, 134)) ∨
    ∃ (X' : Nat → Nat → Sd) (P' : Nat → Int) (ms' : List Ml), stepS (dsOf n nb X P) ms 0 i b = ((dsOf n nb X' P', ms'), 0) ∧ P i = 0 ∧ (P' i = 1 ∨ P' i = 2) ∧ (∀ a, a ≠ i → P' a = P a) ∧
      TB n nb ep X' P' ms' ∧ NoRound n nb X' ms' := by
  have hnode : ¬ (¬ ((0 : Int) ≤ i ∧ (i : Int) < (dsOf n nb X P).length) ∨ (0 : Int) = 2 ∧ ¬ (0 ≤ b ∧ b < (dsOf n nb X P).length)) := by rw [dsOf_len]; omega
  unfold stepS
  rw [if_neg hnode, if_neg (by omega), Int.toNat_natCast, dsOf_get hi]
  dsimp only
  rw [if_neg (by omega : ¬ (0 : Int) = 1)]
  by_cases e : P i = 0
  · obtain ⟨X', P', g1, g2, g3, g4, g5, g6, g7, g8⟩ := h.startS hn h64 h0 h1 hi hr e
    refine .inr ⟨X', P', _, ?_, e, g6, g5, g7, g8⟩
    rw [if_pos e]
    rw [if_neg (by omega : ¬ (0 : Int) = 1)]
    unfold fireAt
    rw [g2, dsOf_set g4 g5]
  · exact .inl ⟨e, by rw [if_neg e]⟩
/-- one stops -/
theorem TB.stepStop (hn : NB n nb) (h64 : n ≤ 64) (h0 : 0 ≤ ep) (h1 : ep ≤ 65535) (hi : i < n) (b : Int) (h : TB n nb ep X P ms) (hr : NoRound n nb X ms) :
    (P i ≠ 2 ∧ stepS (dsOf n nb X P) ms 1 i b = (noS, 134)) ∨
    ∃ (X' : Nat → Nat → Sd) (P' : Nat → Int) (ms' : List Ml), stepS (dsOf n nb X P) ms 1 i b = ((dsOf n nb X' P', ms'), 0) ∧ P i = 2 ∧ P' i = 0 ∧ (∀ a, a ≠ i → P' a = P a) ∧
      TB n nb ep X' P' ms' ∧ NoRound n nb X' ms' := by
  have hnode : ¬ (¬ ((0 : Int) ≤ i ∧ (i : Int) < (dsOf n nb X P).length) ∨ (1 : Int) = 2 ∧ ¬ (0 ≤ b ∧ b < (dsOf n nb X P).length)) := by rw [dsOf_len]; omega
  unfold stepS
  rw [if_neg hnode, if_neg (by omega), Int.toNat_natCast, dsOf_get hi]
  dsimp only
  rw [if_pos rfl]
  by_cases e : P i = 2
  · obtain ⟨X', P', g1, g2, g3, g4, g5, g6, g7, g8⟩ := h.stopS hn h64 h0 h1 hi hr e
    refine .inr ⟨X', P', _, ?_, e, g6, g5, g7, g8⟩
    rw [if_pos e]
    rw [if_pos rfl]
    unfold fireAt
    rw [g2, dsOf_set g4 g5]
  · exact .inl ⟨e, by rw [if_neg e]⟩

/-- all goes well in a scene of a graph -/
def Good (n : Nat) (nb : Nat → List Nat) (ep : Int) (ds : List Dn) (ms : List Ml) : Prop := ∃ (X : Nat → Nat → Sd) (P : Nat → Int), ds = dsOf n nb X P ∧ TB n nb ep X P ms ∧ NoRound n nb X ms
/-- whatever is done, all goes on well -/
theorem Good.step (hn : NB n nb) (h64 : n ≤ 64) (h0 : 0 ≤ ep) (h1 : ep ≤ 65535) {ds : List Dn} {k a b : Int} (hk : k = 0 ∨ k = 1 ∨ k = 2) (h : Good n nb ep ds ms) :
    (stepS ds ms k a b).2 = 0 ∧ Good n nb ep (stepS ds ms k a b).1.1 (stepS ds ms k a b).1.2 ∨ (stepS ds ms k a b).1 = noS ∧ ((stepS ds ms k a b).2 = 134 ∨ (stepS ds ms k a b).2 = 140 ∨ (stepS ds ms k a b).2 = 141) := by
  obtain ⟨X, P, rfl, hb, hr⟩ := h
  by_cases hnode : ¬ (0 ≤ a ∧ a < (dsOf n nb X P).length) ∨ k = 2 ∧ ¬ (0 ≤ b ∧ b < (dsOf n nb X P).length)
  · unfold stepS
    rw [if_pos hnode]
    exact .inr ⟨rfl, .inr (.inl rfl)⟩
  · have hnode' := hnode
    rw [dsOf_len] at hnode'
    obtain ⟨a, rfl⟩ : ∃ c : Nat, a = c := ⟨a.toNat, by omega⟩
    have ha : a < n := by omega
    rcases hk with rfl | rfl | rfl
    · rcases hb.stepStart hn h64 h0 h1 ha b hr with ⟨_, e⟩ | ⟨X', P', ms', e, _, _, _, q1, q2⟩ <;> rw [e]
      · exact .inr ⟨rfl, .inl rfl⟩
      · exact .inl ⟨rfl, X', P', rfl, q1, q2⟩
    · rcases hb.stepStop hn h64 h0 h1 ha b hr with ⟨_, e⟩ | ⟨X', P', ms', e, _, _, _, q1, q2⟩ <;> rw [e]
      · exact .inr ⟨rfl, .inl rfl⟩
      · exact .inl ⟨rfl, X', P', rfl, q1, q2⟩
    · obtain ⟨b, rfl⟩ : ∃ c : Nat, b = c := ⟨b.toNat, by omega⟩
      rcases hb.stepDel hn h64 h0 h1 ha (by omega : b < n) hr with ⟨_, e⟩ | ⟨X', P', ms', e, _, q1, q2, _⟩ <;> rw [e]
      · exact .inr ⟨rfl, .inr (.inr rfl)⟩
      · exact .inl ⟨rfl, X', P', rfl, q1, q2⟩

/-- all mail comes, oldest first -/
def quietS : Nat → List Dn → List Ml → Option (List Dn × List Ml)
  | 0, ds, ms => some (ds, ms)
  | _ + 1, ds, [] => some (ds, [])
  | f + 1, ds, m :: l => if (stepS ds (m :: l) 2 m.from_ m.to_).2 = 0 then quietS f (stepS ds (m :: l) 2 m.from_ m.to_).1.1 (stepS ds (m :: l) 2 m.from_ m.to_).1.2 else none
theorem TB.quietS (hn : NB n nb) (h64 : n ≤ 64) (h0 : 0 ≤ ep) (h1 : ep ≤ 65535) : ∀ {f : Nat} {X : Nat → Nat → Sd} {P : Nat → Int} {ms : List Ml}, TB n nb ep X P ms → NoRound n nb X ms → wt X P ms ≤ f →
    ∃ (X' : Nat → Nat → Sd) (P' : Nat → Int), quietS f (dsOf n nb X P) ms = some (dsOf n nb X' P', []) ∧ (∀ a, P' a = P a ∨ P a = 1 ∧ P' a = 2) ∧ TB n nb ep X' P' [] ∧ NoRound n nb X' []
  | f, X, P, [], h, hr, _ => ⟨X, P, by cases f <;> rfl, fun _ => .inl rfl, h, hr⟩
  | 0, X, P, m :: l, h, hr, hw => by
    have := (wt_len X P (m :: l)).1
    rw [List.length_cons] at this
    omega
  | f + 1, X, P, m :: l, h, hr, hw => by
    obtain ⟨k, i, hk, hi, e1, e2⟩ := h.mail m (List.mem_cons_self ..)
    have hi := (hn.back k i hk hi).1
    have hp : pick k i (m :: l) ≠ none := by
      unfold pick
      rw [if_pos ⟨e1, e2⟩]
      simp
    rcases h.stepDel hn h64 h0 h1 hk hi hr with ⟨q, _⟩ | ⟨X', P', ms', e, q1, q2, q3, q4⟩
    · exact absurd q hp
    · obtain ⟨X2, P2, r1, r2, r3, r4⟩ := TB.quietS hn h64 h0 h1 (f := f) q2 q3 (by omega)
      refine ⟨X2, P2, ?_, fun a => ?_, r3, r4⟩
      · unfold Go.Proofs.YtdfleocknaackaaGreat.quietS
        rw [e1, e2, e, if_pos rfl]
        exact r1
      · rcases q1 a with c | ⟨c, c'⟩ <;> rcases r2 a with d | ⟨d, d'⟩
        · exact .inl (by rw [d, c])
        · exact .inr ⟨by rw [← c]; exact d, d'⟩
        · exact .inr ⟨c, by rw [d, c']⟩
        · omega

/-- the numbers of those of a phase -/
def phs (ds : List Dn) (p : Int) : List Int := (ds.filter fun d => d.phase == p).map fun d => d.id
def phN (n : Nat) (P : Nat → Int) (p : Int) : List Nat := (List.range n).filter fun i => P i == p
theorem phs_dsOf (p : Int) : phs (dsOf n nb X P) p = (phN n P p).map fun i : Nat => (i : Int) := by
  unfold phs dsOf phN
  rw [List.filter_map, List.map_map]
  rfl
theorem mem_phN {p : Int} : i ∈ phN n P p ↔ i < n ∧ P i = p := by
  unfold phN
  rw [List.mem_filter, List.mem_range]
  simp
theorem phN_nodup (n : Nat) (P : Nat → Int) (p : Int) : (phN n P p).Nodup := List.Nodup.sublist List.filter_sublist List.nodup_range

/-- all of these stop -/
def stopsS : List Int → List Dn → List Ml → Option (List Dn × List Ml)
  | [], ds, ms => some (ds, ms)
  | a :: l, ds, ms => if (stepS ds ms 1 a 0).2 = 0 then stopsS l (stepS ds ms 1 a 0).1.1 (stepS ds ms 1 a 0).1.2 else none
theorem TB.stopsS (hn : NB n nb) (h64 : n ≤ 64) (h0 : 0 ≤ ep) (h1 : ep ≤ 65535) : ∀ {l : List Nat} {X : Nat → Nat → Sd} {P : Nat → Int} {ms : List Ml}, TB n nb ep X P ms → NoRound n nb X ms → l.Nodup → (∀ i ∈ l, i < n ∧ P i = 2) →
    ∃ (X' : Nat → Nat → Sd) (P' : Nat → Int) (ms' : List Ml), stopsS (l.map fun i : Nat => (i : Int)) (dsOf n nb X P) ms = some (dsOf n nb X' P', ms') ∧ act n P' + l.length = act n P ∧ (∀ a, a ∉ l → P' a = P a) ∧ (∀ a ∈ l, P' a = 0) ∧ TB n nb ep X' P' ms' ∧ NoRound n nb X' ms'
  | [], X, P, ms, h, hr, _, _ => ⟨X, P, ms, rfl, rfl, fun _ _ => rfl, fun a ha => (by cases ha), h, hr⟩
  | i :: l, X, P, ms, h, hr, hd, hl => by
    obtain ⟨hd1, hd2⟩ := List.nodup_cons.1 hd
    obtain ⟨hi, hp⟩ := hl i (List.mem_cons_self ..)
    rcases h.stepStop hn h64 h0 h1 hi 0 hr with ⟨q, _⟩ | ⟨X', P', ms', e, _, q1, q2, q3, q4⟩
    · exact absurd hp q
    · have hne : ∀ a ∈ l, a ≠ i := fun a ha e => hd1 (e ▸ ha)
      obtain ⟨X2, P2, ms2, r1, r2, r3, r4, r5, r6⟩ := TB.stopsS hn h64 h0 h1 (l := l) q3 q4 hd2 fun a ha => ⟨(hl a (List.mem_cons_of_mem _ ha)).1, by rw [q2 a (hne a ha)]; exact (hl a (List.mem_cons_of_mem _ ha)).2⟩
      have hact := act_less (P := P) (P' := P') hi (by omega) q1 q2
      refine ⟨X2, P2, ms2, ?_, by rw [List.length_cons]; omega, fun a ha => ?_, fun a ha => ?_, r5, r6⟩
      · rw [List.map_cons]
        unfold Go.Proofs.YtdfleocknaackaaGreat.stopsS
        rw [e, if_pos rfl]
        exact r1
      · rw [r3 a (fun hc => ha (List.mem_cons_of_mem _ hc)), q2 a (fun hc => ha (by rw [hc]; exact List.mem_cons_self ..))]
      · rcases List.mem_cons.1 ha with rfl | ha
        · rw [r3 a hd1, q1]
        · exact r4 a ha

/-- again and again: all mail comes, and all who eat stop -/
def fairS (f : Nat) : Nat → List Dn → List Ml → Option (List Dn × List Ml)
  | 0, ds, ms => some (ds, ms)
  | r + 1, ds, ms => match quietS f ds ms with
    | none => none
    | some (ds1, ms1) => if ms1 ≠ [] ∨ phs ds1 2 = [] ∧ phs ds1 1 ≠ [] then none else match stopsS (phs ds1 2) ds1 ms1 with
      | none => none
      | some (ds2, ms2) => fairS f r ds2 ms2
theorem TB.fairS (hn : NB n nb) (h64 : n ≤ 64) (h0 : 0 ≤ ep) (h1 : ep ≤ 65535) {Es : List (Nat × Nat)} (he1 : ∀ e ∈ Es, e.1 < n ∧ e.2 ∈ nb e.1) (he2 : ∀ i k, i < n → k ∈ nb i → (i, k) ∈ Es ∨ (k, i) ∈ Es) {f : Nat} (hf : 6 * Es.length ≤ f) :
    ∀ {r : Nat} {X : Nat → Nat → Sd} {P : Nat → Int} {ms : List Ml}, TB n nb ep X P ms → NoRound n nb X ms → act n P ≤ r →
    ∃ (X' : Nat → Nat → Sd) (P' : Nat → Int) (ms' : List Ml), fairS f r (dsOf n nb X P) ms = some (dsOf n nb X' P', ms') ∧ (∀ i, i < n → P' i = 0) ∧ TB n nb ep X' P' ms' ∧ NoRound n nb X' ms'
  | 0, X, P, ms, h, hr, ha => ⟨X, P, ms, rfl, act_none.1 (by omega), h, hr⟩
  | r + 1, X, P, ms, h, hr, ha => by
    have hw := (h.mailFew he1 he2).2
    obtain ⟨X1, P1, q1, q2, q3, q4⟩ := TB.quietS hn h64 h0 h1 (f := f) h hr (by omega)
    have hact : act n P1 = act n P := act_same fun a _ => by rcases q2 a with c | ⟨c, c'⟩ <;> omega
    have hgo : ¬ (([] : List Ml) ≠ [] ∨ phs (dsOf n nb X1 P1) 2 = [] ∧ phs (dsOf n nb X1 P1) 1 ≠ []) := by
      rintro (h | ⟨c1, c2⟩)
      · exact h rfl
      · rw [phs_dsOf] at c1 c2
        cases hh : phN n P1 1 with
        | nil => rw [hh] at c2; exact c2 rfl
        | cons i l =>
          have hm := mem_phN.1 (by rw [hh]; exact List.mem_cons_self .. : i ∈ phN n P1 1)
          obtain ⟨k, hk, hk2⟩ := q3.progress q4 hn i hm.1 hm.2
          have hm2 : k ∈ phN n P1 2 := mem_phN.2 ⟨hk, hk2⟩
          rw [List.map_eq_nil_iff.1 c1] at hm2
          cases hm2
    obtain ⟨X2, P2, ms2, s1, s2, s3, s4, s5, s6⟩ := TB.stopsS hn h64 h0 h1 (l := phN n P1 2) q3 q4 (phN_nodup ..) fun a ha => mem_phN.1 ha
    have hless : act n P2 ≤ r := by
      by_cases hz : act n P1 = 0
      · omega
      · have hne : phN n P1 2 ≠ [] := by
          intro hnil
          refine hz (act_none.2 fun i hi => ?_)
          have hp := q3.ph i hi
          rcases hp with hp | hp | hp
          · exact hp
          · exfalso
            apply hgo
            right
            rw [phs_dsOf, phs_dsOf, hnil]
            refine ⟨rfl, fun hc => ?_⟩
            have hm : i ∈ phN n P1 1 := mem_phN.2 ⟨hi, hp⟩
            rw [List.map_eq_nil_iff.1 hc] at hm
            cases hm
          · have hm : i ∈ phN n P1 2 := mem_phN.2 ⟨hi, hp⟩
            rw [hnil] at hm
            cases hm
        have := List.length_pos_iff.2 hne
        omega
    obtain ⟨X3, P3, ms3, t1, t2, t3, t4⟩ := TB.fairS hn h64 h0 h1 he1 he2 hf (r := r) s5 s6 hless
    refine ⟨X3, P3, ms3, ?_, t2, t3, t4⟩
    unfold Go.Proofs.YtdfleocknaackaaGreat.fairS
    rw [q1]
    dsimp only
    rw [if_neg hgo, phs_dsOf, s1]
    exact t1
end

end Go.Proofs.YtdfleocknaackaaGreat

/- Layer 14 (mathematics): a graph's own scene; what holds of every scene that comes of it: one fork and one token, who eats, who goes ahead. -/
namespace Go.Proofs.YtdfleocknaackaaGreat

/-- the side of i to k, by colours -/
def sideN (c : Nat → Int) (i k : Nat) : Sd := if c i < c k then ⟨k, 1, 0, false, false, true, false, true⟩ else ⟨k, 1, 0, true, true, false, true, false⟩
section
variable {n : Nat} {nb : Nat → List Nat} {ep : Int} {X : Nat → Nat → Sd} {P : Nat → Int} {ms : List Ml} {i : Nat}
theorem NB.of {q : Nat → Nat → Bool} (hs : ∀ i k, q i k = q k i) (hi : ∀ i, q i i = false) : NB n fun i => (List.range n).filter (q i) where
  up i := List.Pairwise.sublist List.filter_sublist List.pairwise_lt_range
  back i k hin hk := by
    obtain ⟨h1, h2⟩ := List.mem_filter.1 hk
    refine ⟨List.mem_range.1 h1, fun e => ?_, List.mem_filter.2 ⟨List.mem_range.2 hin, by rw [hs]; exact h2⟩⟩
    rw [e, hi] at h2
    cases h2
theorem sideN_bits (c : Nat → Int) (i k : Nat) : (sideN c i k).fork = !decide (c i < c k) ∧ (sideN c i k).dirty = !decide (c i < c k) ∧ (sideN c i k).token = decide (c i < c k) := by
  unfold sideN
  by_cases h : c i < c k
  · rw [if_pos h, decide_eq_true h]; exact ⟨rfl, rfl, rfl⟩
  · rw [if_neg h, decide_eq_false h]; exact ⟨rfl, rfl, rfl⟩
/-- a graph's own scene -/
theorem TB.first {c : Nat → Int} (hc : ∀ i k, i < n → k ∈ nb i → c i ≠ c k) : TB n nb 1 (sideN c) (fun _ => 0) [] where
  pr i k hi hk := by unfold sideN; split <;> exact ⟨rfl, rfl⟩
  lv i k hi hk := by unfold sideN; split <;> rfl
  ph i hi := .inl rfl
  edge i k hi hk := by
    have hne := hc i k hi hk
    obtain ⟨a1, a2, a3⟩ := sideN_bits c i k
    obtain ⟨b1, b2, b3⟩ := sideN_bits c k i
    by_cases h : c i < c k
    · have h' : ¬ c k < c i := by omega
      rw [decide_eq_true h] at a1 a2 a3
      rw [decide_eq_false h'] at b1 b2 b3
      refine .inr ⟨.f1 b1 b3 a3 rfl rfl rfl, ⟨a1, a2, fun e => ?_, fun _ e => ?_, fun e => ?_⟩⟩
      · rw [b1] at e; cases e
      · rw [b2] at e; cases e
      · omega
    · have h' : c k < c i := by omega
      rw [decide_eq_false h] at a1 a2 a3
      rw [decide_eq_true h'] at b1 b2 b3
      refine .inl ⟨.f1 a1 a3 b3 rfl rfl rfl, ⟨b1, b2, fun e => ?_, fun _ e => ?_, fun e => ?_⟩⟩
      · rw [a1] at e; cases e
      · rw [a2] at e; cases e
      · omega
  calm i hi := by unfold eats; simp
  mail m hm := by cases hm
theorem NoRound.first {c : Nat → Int} (hn : NB n nb) (h0 : ∀ i, i < n → 0 ≤ c i) (hc : ∀ i k, i < n → k ∈ nb i → c i ≠ c k) : NoRound n nb (sideN c) [] := by
  refine ⟨fun i => (c i).toNat, fun a k ha hk h => ?_⟩
  obtain ⟨a1, a2, _⟩ := sideN_bits c a k
  obtain ⟨b1, b2, _⟩ := sideN_bits c k a
  unfold ah ahd chan at h
  rw [a1, a2, b1, b2] at h
  have q1 := h0 a ha
  have q2 := h0 k (hn.back a k ha hk).1
  simp only [List.filter_nil, List.any_nil, Bool.and_false, Bool.or_false, Bool.not_not, Bool.and_self, Bool.or_eq_true, Bool.and_eq_true, Bool.not_eq_true', decide_eq_false_iff_not, decide_eq_true_eq] at h
  show (c a).toNat < (c k).toNat
  by_cases e : c a < c k
  · omega
  · exfalso
    by_cases e2 : c k < c a
    · omega
    · have := hc a k ha hk
      omega

/-- no two neighbours eat at once; who eats has all forks, dirty -/
theorem TB.apart (h : TB n nb ep X P ms) {k : Nat} (hi : i < n) (hk : k ∈ nb i) : ¬ (P i = 2 ∧ P k = 2) := (h.edge i k hi hk).eats.2
theorem TB.hasAll (h : TB n nb ep X P ms) (hi : i < n) (hp : P i = 2) : ∀ s ∈ (nb i).map (X i), s.fork = true ∧ s.dirty = true := fun s hs => by
  obtain ⟨k, hk, rfl⟩ := List.mem_map.1 hs
  exact (h.edge i k hi hk).eats.1 hp
/-- on each edge one goes ahead -/
theorem TB.oneAhead (h : TB n nb ep X P ms) {k : Nat} (hi : i < n) (hk : k ∈ nb i) : ah X ms k i = !ah X ms i k := (h.edge i k hi hk).one

theorem EO.epochs {a b ep : Int} {x y : Sd} {mab mba : List Ml} {pa pb : Int} (h : EO a b ep x y mab mba pa pb) : (∀ m ∈ mab, m.epoch = ep) ∧ ∀ m ∈ mba, m.epoch = ep := by
  rcases h with ⟨st, c⟩ | ⟨st, c⟩ <;> cases st with
  | f1 xf xt yt m n hb => rw [m, n]; simp
  | f2 xf xt yt m n hb hc => rw [m, n]; simp
  | f3 xf xt yt m n hb => rw [m, n]; simp [tk]
  | f4 xf xt yt m n hb ha => rw [m, n]; simp [fk]
  | f5 xf xt yt m n hb ha => rw [m, n]; simp [fk, tk]
/-- how many things of kind k there are of an edge -/
def betweenB (a b : Int) (m : Ml) : Bool := (m.from_ == a && m.to_ == b) || (m.from_ == b && m.to_ == a)
def cntS (x y : Sd) (ms : List Ml) (a b k : Int) : Nat :=
  (cond ((k == 1 && x.fork) || (k == 2 && x.token)) 1 0) + (cond ((k == 1 && y.fork) || (k == 2 && y.token)) 1 0) + ms.countP fun m => betweenB a b m && m.kind == k && m.epoch == x.epoch
theorem countP_chan {a b : Int} (hne : a ≠ b) (q : Ml → Bool) : ∀ ms : List Ml, (ms.countP fun m => betweenB a b m && q m) = (chan ms a b).countP q + (chan ms b a).countP q
  | [] => rfl
  | m :: l => by
    have ih := countP_chan hne q l
    unfold chan at *
    rw [List.countP_cons, List.filter_cons, List.filter_cons, ih]
    unfold betweenB
    by_cases h1 : m.from_ = a ∧ m.to_ = b
    · have e1 : (m.from_ == a && m.to_ == b) = true := by simp [h1.1, h1.2]
      have e2 : (m.from_ == b && m.to_ == a) = false := by
        rw [h1.1]; simp [hne]
      simp only [e1, e2, Bool.or_false, Bool.true_and, if_true, Bool.false_eq_true, if_false, List.countP_cons]
      omega
    · have e1 : (m.from_ == a && m.to_ == b) = false := by
        by_cases h2 : m.from_ = a
        · simp [h2]; exact fun h3 => h1 ⟨h2, h3⟩
        · simp [h2]
      rw [e1]
      by_cases h2 : m.from_ = b ∧ m.to_ = a
      · have e2 : (m.from_ == b && m.to_ == a) = true := by simp [h2.1, h2.2]
        simp only [e2, Bool.false_or, Bool.true_and, if_true, Bool.false_eq_true, if_false, List.countP_cons]
        omega
      · have e2 : (m.from_ == b && m.to_ == a) = false := by
          by_cases h3 : m.from_ = b
          · simp [h3]; exact fun h4 => h2 ⟨h3, h4⟩
          · simp [h3]
        simp [e2]
theorem TB.count (hn : NB n nb) (h : TB n nb ep X P ms) {k : Nat} (hi : i < n) (hk : k ∈ nb i) : cntS (X i k) (X k i) ms i k 1 = 1 ∧ cntS (X i k) (X k i) ms i k 2 = 1 := by
  have hne : (i : Int) ≠ k := by have := (hn.back i k hi hk).2.1; omega
  have he := h.edge i k hi hk
  obtain ⟨o1, o2⟩ := he.ones
  obtain ⟨p1, p2⟩ := he.epochs
  have hep := (h.pr i k hi hk).2
  have key : ∀ kd : Int, (ms.countP fun m => betweenB i k m && m.kind == kd && m.epoch == (X i k).epoch) = cnt kd (chan ms i k) + cnt kd (chan ms k i) := fun kd => by
    have e := countP_chan hne (fun m => m.kind == kd && m.epoch == (X i k).epoch) ms
    have f : ∀ {l : List Ml}, (∀ m ∈ l, m.epoch = ep) → (l.countP fun m => m.kind == kd && m.epoch == (X i k).epoch) = cnt kd l := fun {l} hl => by
      unfold cnt
      refine List.countP_congr fun m hm => ?_
      rw [hep, hl m hm]; simp
    rw [f p1, f p2] at e
    rw [← e]
    congr 1
    funext m
    rw [Bool.and_assoc]
  unfold cntS
  rw [key 1, key 2]
  simp only [beq_self_eq_true, Bool.true_and, show ((1 : Int) == 2) = false from rfl, show ((2 : Int) == 1) = false from rfl, Bool.false_and, Bool.or_false, Bool.false_or]
  omega
/-- a diner's side -/
theorem TB.sideR (hn : NB n nb) (h : TB n nb ep X P ms) {k : Nat} (hi : i < n) (hk : k ∈ nb i) : sideR ((nb i).map (X i)) k = (X i k, true) := by
  have : ((nb i).map (X i)).find? (fun s => s.peer == (k : Int)) = some (X i k) := by
    rw [List.find?_map]
    have e : (nb i).find? ((fun s : Sd => s.peer == (k : Int)) ∘ X i) = some k := by
      rw [List.find?_eq_some_iff_append]
      obtain ⟨l1, l2, hl⟩ := List.append_of_mem hk
      refine ⟨by simp [(h.pr i k hi hk).1], l1, l2, hl, fun a ha => ?_⟩
      have ham : a ∈ nb i := by rw [hl]; exact List.mem_append_left _ ha
      have hlt : a < k := by
        have := hn.up i
        rw [hl] at this
        exact (List.pairwise_append.1 this).2.2 a ha k (List.mem_cons_self ..)
      have := (h.pr i a hi ham).1
      simp only [Function.comp, this, Bool.not_eq_true', beq_eq_false_iff_ne, ne_eq]
      omega
    rw [e]; rfl
  unfold Go.Proofs.YtdfleocknaackaaGreat.sideR
  rw [this]
end

end Go.Proofs.YtdfleocknaackaaGreat

/- Layer 14 (mathematics): a scene's graph and arcs as lists: the graph stays, on each edge one goes ahead, they don't lead round, who eats goes ahead of none. -/
namespace Go.Proofs.YtdfleocknaackaaGreat

/-- the neighbours of a node, in order -/
def nbE (N : Int) (E : List Edge) (i : Nat) : List Nat := (List.range N.toNat).filter fun k => decide (btw i k ∈ E)
theorem mem_nbE {N : Int} {E : List Edge} {i k : Nat} : k ∈ nbE N E i ↔ k < N.toNat ∧ btw i k ∈ E := by
  unfold nbE
  rw [List.mem_filter, List.mem_range, decide_eq_true_eq]
theorem NB.ofE {N : Int} {E : List Edge} (ok : OkG N E) : NB N.toNat (nbE N E) :=
  NB.of (q := fun i k => decide (btw i k ∈ E)) (fun i k => by rw [btw_comm]) fun i => decide_eq_false fun h => (near_in ok h).2.2.2.2 rfl
/-- a table is a graph's own scene -/
theorem table_is (N : Int) (E : List Edge) (c : List Int) : tableL N E c = dsOf N.toNat (nbE N E) (sideN fun a => col c a) fun _ => 0 := by
  unfold tableL dsOf
  refine List.map_congr_left fun i _ => ?_
  unfold dinerC sidesTo nbE
  rw [List.filter_map, List.map_map]
  rfl

/-- what a scene's graph hangs on -/
def pq (L : List Dn) : List (Int × List Int) := L.map fun d => (d.id, d.sides.map fun s => s.peer)
theorem pq_at {L L' : List Dn} (h : pq L = pq L') (i : Nat) : (L.getD i ⟨0, 0, []⟩).id = (L'.getD i ⟨0, 0, []⟩).id ∧ (L.getD i ⟨0, 0, []⟩).sides.map (fun s => s.peer) = (L'.getD i ⟨0, 0, []⟩).sides.map fun s => s.peer := by
  have h1 : (pq L)[i]? = (pq L')[i]? := by rw [h]
  unfold pq at h1
  rw [List.getElem?_map, List.getElem?_map] at h1
  rw [List.getD_eq_getElem?_getD, List.getD_eq_getElem?_getD]
  cases e1 : L[i]? <;> cases e2 : L'[i]? <;> rw [e1, e2] at h1
  · exact ⟨rfl, rfl⟩
  · cases h1
  · cases h1
  · simpa using h1
theorem sideR_peers {p : Int} : ∀ {l l' : List Sd}, l.map (fun s => s.peer) = l'.map (fun s => s.peer) → (sideR l p).2 = (sideR l' p).2
  | [], [], _ => rfl
  | [], _ :: _, h => by cases h
  | _ :: _, [], h => by cases h
  | s :: l, s' :: l', h => by
    rw [List.map_cons, List.map_cons, List.cons.injEq] at h
    have ih := sideR_peers (p := p) h.2
    unfold sideR at ih ⊢
    rw [List.find?_cons, List.find?_cons, h.1]
    cases s'.peer == p
    · exact ih
    · rfl
theorem edgesS_peers {i : Nat} : ∀ {l l' : List Sd}, l.map (fun s => s.peer) = l'.map (fun s => s.peer) → edgesS i l = edgesS i l'
  | [], [], _ => rfl
  | [], _ :: _, h => by cases h
  | _ :: _, [], h => by cases h
  | s :: l, s' :: l', h => by
    rw [List.map_cons, List.map_cons, List.cons.injEq] at h
    have ih := edgesS_peers (i := i) h.2
    unfold edgesS at ih ⊢
    rw [List.filter_cons, List.filter_cons, h.1]
    split
    · rw [List.map_cons, List.map_cons, ih, h.1]
    · exact ih
theorem sidesOk_peers {L L' : List Dn} (hL : pq L = pq L') {i : Nat} : ∀ {l l' : List Sd} {last : Int}, l.map (fun s => s.peer) = l'.map (fun s => s.peer) → sidesOk L i last l = sidesOk L' i last l'
  | [], [], _, _ => rfl
  | [], _ :: _, _, h => by cases h
  | _ :: _, [], _, h => by cases h
  | s :: l, s' :: l', last, h => by
    rw [List.map_cons, List.map_cons, List.cons.injEq] at h
    show (sideOk L i last s && sidesOk L i s.peer l) = (sideOk L' i last s' && sidesOk L' i s'.peer l')
    have hlen : L.length = L'.length := by have := congrArg List.length hL; unfold pq at this; rwa [List.length_map, List.length_map] at this
    have h1 : sideOk L i last s = sideOk L' i last s' := by
      unfold sideOk
      rw [h.1, hlen, sideR_peers (pq_at hL s'.peer.toNat).2]
    rw [h1, h.1, sidesOk_peers hL h.2]
theorem graph_peers {L L' : List Dn} (h : pq L = pq L') : graphR L = graphR L' := by
  have hlen : L.length = L'.length := by have := congrArg List.length h; unfold pq at this; rwa [List.length_map, List.length_map] at this
  have h1 : nodesOk L L.length = nodesOk L' L'.length := by
    unfold nodesOk
    rw [hlen]
    congr 1
    funext i
    rw [(pq_at h i).1, sidesOk_peers h (pq_at h i).2]
  have h2 : edgesD L L.length = edgesD L' L'.length := by
    unfold edgesD
    rw [hlen]
    congr 1
    funext i
    exact edgesS_peers (pq_at h i).2
  unfold graphR graphB
  rw [h1, h2, hlen]
section
variable {N : Int} {E : List Edge} {ep : Int} {X : Nat → Nat → Sd} {P : Nat → Int} {ms : List Ml}
/-- the graph stays -/
theorem graph_scene (ok : OkG N E) (hp : ∀ i k, i < N.toNat → k ∈ nbE N E i → (X i k).peer = k) : graphR (dsOf N.toNat (nbE N E) X P) = (N, E, true) := by
  rw [← graph_table (c := []) ok, table_is]
  refine graph_peers ?_
  unfold pq dsOf
  rw [List.map_map, List.map_map]
  refine List.map_congr_left fun i hi => ?_
  have hi := List.mem_range.1 hi
  simp only [Function.comp, List.map_map, Prod.mk.injEq, true_and]
  refine List.map_congr_left fun k hk => ?_
  simp only [Function.comp]
  rw [hp i k hi hk]
  unfold sideN
  split <;> rfl

/-- who goes ahead, by the document's rule -/
theorem firstI_ahd : ∀ (xf xd yf yd tf to_ : Bool), (xf && yf) = false → ((yf && !yd) || (xf && xd) || (!yf && !xf && to_)) = !((xf && !xd) || (yf && yd) || (!xf && !yf && tf)) →
    firstI xf xd yf yd tf to_ = if ((xf && !xd) || (yf && yd) || (!xf && !yf && tf)) = true then 1 else 2 := by decide
theorem EO.nums {a b ep : Int} {x y : Sd} {mab mba : List Ml} {pa pb : Int} (h : EO a b ep x y mab mba pa pb) : (∀ m ∈ mab, m.num = 0) ∧ ∀ m ∈ mba, m.num = 0 := by
  rcases h with ⟨st, c⟩ | ⟨st, c⟩ <;> cases st with
  | f1 xf xt yt m n hb => rw [m, n]; simp
  | f2 xf xt yt m n hb hc => rw [m, n]; simp
  | f3 xf xt yt m n hb => rw [m, n]; simp [tk]
  | f4 xf xt yt m n hb ha => rw [m, n]; simp [fk]
  | f5 xf xt yt m n hb ha => rw [m, n]; simp [fk, tk]
theorem goes_chan {a b : Int} (h1 : ∀ m ∈ chan ms a b, m.epoch = ep) (h2 : ∀ m ∈ chan ms a b, m.num = 0) : goesB ms a b ep = (chan ms a b).any fun m => m.kind == 1 := by
  unfold goesB
  rw [Bool.eq_iff_iff, List.any_eq_true, List.any_eq_true]
  constructor
  · rintro ⟨m, hm, h⟩
    unfold hitM at h
    simp only [Bool.and_eq_true] at h
    exact ⟨m, List.mem_filter.2 ⟨hm, by rw [Bool.and_eq_true]; exact h.1.1.1⟩, h.1.1.2⟩
  · rintro ⟨m, hm, h⟩
    have e1 := h1 m hm
    have e2 := h2 m hm
    obtain ⟨hm, hab⟩ := List.mem_filter.1 hm
    refine ⟨m, hm, ?_⟩
    unfold hitM
    rw [hab, h, e1, e2]
    simp
theorem sideR_no {n : Nat} {nb : Nat → List Nat} (hpr : ∀ i k, i < n → k ∈ nb i → (X i k).peer = k) {i k : Nat} (hi : i < n) (hk : k ∉ nb i) : sideR ((nb i).map (X i)) k = (Sd.zero, false) := by
  have : ((nb i).map (X i)).find? (fun s => s.peer == (k : Int)) = none := by
    rw [List.find?_eq_none]
    intro s hs
    obtain ⟨j, hj, rfl⟩ := List.mem_map.1 hs
    rw [hpr i j hi hj]
    simp only [beq_iff_eq]
    intro e
    have : j = k := by omega
    exact hk (this ▸ hj)
  unfold sideR
  rw [this]
/-- an edge as an arc: from the one that goes ahead -/
def turnX (X : Nat → Nat → Sd) (ms : List Ml) (e : Edge) : Arc := if ah X ms e.a.toNat e.b.toNat = true then ⟨e.a, e.b⟩ else ⟨e.b, e.a⟩
theorem arc2_scene (ok : OkG N E) (h : TB N.toNat (nbE N E) ep X P ms) {i k : Nat} (hi : i < N.toNat) (hk : k < N.toNat) (hik : i < k) :
    arc2 ms ⟨i, P i, (nbE N E i).map (X i)⟩ ⟨k, P k, (nbE N E k).map (X k)⟩ = if (⟨i, k⟩ : Edge) ∈ E then [turnX X ms ⟨i, k⟩] else [] := by
  have hn := NB.ofE ok
  have hb : btw (i : Int) (k : Int) = ⟨i, k⟩ := by simp only [btw, Edge.mk.injEq]; omega
  unfold arc2
  dsimp only
  by_cases he : (⟨(i : Int), (k : Int)⟩ : Edge) ∈ E
  · have h1 : k ∈ nbE N E i := mem_nbE.2 ⟨hk, by rw [hb]; exact he⟩
    have h2 : i ∈ nbE N E k := (hn.back i k hi h1).2.2
    have hE := h.edge i k hi h1
    rw [h.sideR hn hi h1, h.sideR hn hk h2, if_pos he]
    have e1 := (h.pr i k hi h1).2
    have e2 := (h.pr k i hk h2).2
    dsimp only
    rw [e1, e2, decide_eq_true rfl, if_pos (by rfl)]
    obtain ⟨p1, p2⟩ := hE.epochs
    obtain ⟨n1, n2⟩ := hE.nums
    rw [goes_chan p2 n2, goes_chan p1 n1]
    have hone := hE.one
    have hff : ((X i k).fork && (X k i).fork) = false := by
      have := hE.ones.1
      cases h3 : (X i k).fork <;> cases h4 : (X k i).fork <;> rw [h3, h4] at this <;> simp at this ⊢
      omega
    have hah : ah X ms i k = ahd (X i k) (X k i) (chan ms k i) := rfl
    unfold ahd at hone hah
    rw [firstI_ahd _ _ _ _ _ _ hff hone, ← hah]
    unfold turnX
    dsimp only
    rw [Int.toNat_natCast, Int.toNat_natCast]
    cases ah X ms i k <;> rfl
  · have h1 : k ∉ nbE N E i := fun h => he (by have := (mem_nbE.1 h).2; rwa [hb] at this)
    rw [sideR_no (fun i k hi hk => (h.pr i k hi hk).1) hi h1, if_neg he]
    rfl
theorem arcs_scene_prs (ok : OkG N E) (h : TB N.toNat (nbE N E) ep X P ms) : ∀ l : List Nat, l.Pairwise (· < ·) → (∀ i ∈ l, i < N.toNat) →
    arcsOf ms (l.map fun i : Nat => (⟨(i : Int), P i, (nbE N E i).map (X i)⟩ : Dn)) = (prs l).flatMap fun e => if decide (e ∈ E) = true then [turnX X ms e] else []
  | [], _, _ => rfl
  | i :: l, hp, hl => by
    have h' := List.pairwise_cons.1 hp
    rw [List.map_cons]
    show (l.map _).flatMap (arc2 ms _) ++ arcsOf ms (l.map _) = _
    unfold prs
    rw [arcs_scene_prs ok h l h'.2 fun j hj => hl j (by simp [hj]), List.flatMap_append, List.flatMap_map, List.flatMap_map]
    congr 1
    refine flat_congr fun k hk => ?_
    rw [arc2_scene ok h (hl i (by simp)) (hl k (by simp [hk])) (h'.1 k hk)]
    simp
/-- a scene's arcs are its edges, each from the one that goes ahead -/
theorem arcs_scene (ok : OkG N E) (h : TB N.toNat (nbE N E) ep X P ms) : arcsOf ms (dsOf N.toNat (nbE N E) X P) = E.map (turnX X ms) := by
  unfold dsOf
  rw [arcs_scene_prs ok h _ (range_up _) fun i hi => List.mem_range.1 hi, flat_if, edges_prs ok]
theorem turnX_ends (X : Nat → Nat → Sd) (ms : List Ml) (e : Edge) : ((turnX X ms e).a = e.a ∧ (turnX X ms e).b = e.b) ∨ ((turnX X ms e).a = e.b ∧ (turnX X ms e).b = e.a) := by
  unfold turnX
  split
  · exact .inl ⟨rfl, rfl⟩
  · exact .inr ⟨rfl, rfl⟩
theorem turnX_ok (ok : OkG N E) (X : Nat → Nat → Sd) (ms : List Ml) : OkD N (E.map (turnX X ms)) := by
  refine ⟨ok.n0, ok.n64, by rw [List.length_map]; exact ok.few, fun x hx => ?_, ?_⟩
  · obtain ⟨e, he, rfl⟩ := List.mem_map.1 hx
    have := ok.each e he
    rcases turnX_ends X ms e with ⟨h1, h2⟩ | ⟨h1, h2⟩ <;> rw [h1, h2] <;> omega
  · unfold List.Nodup
    rw [List.pairwise_map]
    refine (ok.rise.imp_of_mem fun {x y} hx hy hxy => ?_)
    intro e
    have hX := ok.each x hx
    have hY := ok.each y hy
    have e1 : (turnX X ms x).a = (turnX X ms y).a := by rw [e]
    have e2 : (turnX X ms x).b = (turnX X ms y).b := by rw [e]
    have : x = y := by
      obtain ⟨p, q⟩ := x
      obtain ⟨r, s⟩ := y
      rcases turnX_ends X ms ⟨p, q⟩ with ⟨h1, h2⟩ | ⟨h1, h2⟩ <;> rcases turnX_ends X ms ⟨r, s⟩ with ⟨h3, h4⟩ | ⟨h3, h4⟩ <;> rw [h1, h3] at e1 <;> rw [h2, h4] at e2 <;> simp only [Edge.mk.injEq] <;> dsimp only at hX hY e1 e2 <;> omega
    rw [this, ahead_irr] at hxy
    cases hxy
/-- from the one that goes ahead -/
theorem turnX_ah (ok : OkG N E) (h : TB N.toNat (nbE N E) ep X P ms) {e : Edge} (he : e ∈ E) : ∃ i k : Nat, i < N.toNat ∧ k ∈ nbE N E i ∧ turnX X ms e = ⟨i, k⟩ ∧ ah X ms i k = true := by
  obtain ⟨a, b⟩ := e
  have hE := ok.each _ he
  dsimp only at hE
  have ea : ((a.toNat : Nat) : Int) = a := by omega
  have eb : ((b.toNat : Nat) : Int) = b := by omega
  have hm : b.toNat ∈ nbE N E a.toNat := mem_nbE.2 ⟨by omega, by
    rw [ea, eb]
    have : btw a b = ⟨a, b⟩ := by simp only [btw, Edge.mk.injEq]; omega
    rw [this]; exact he⟩
  have ha : a.toNat < N.toNat := by omega
  unfold turnX
  dsimp only
  cases hh : ah X ms a.toNat b.toNat
  · refine ⟨b.toNat, a.toNat, by omega, ((NB.ofE ok).back _ _ ha hm).2.2, ?_, ?_⟩
    · rw [if_neg (by simp), ea, eb]
    · rw [h.oneAhead ha hm, hh]; rfl
  · refine ⟨a.toNat, b.toNat, ha, hm, ?_, hh⟩
    rw [if_pos rfl, ea, eb]
/-- they don't lead round -/
theorem turnX_ranked (ok : OkG N E) (h : TB N.toNat (nbE N E) ep X P ms) (hr : NoRound N.toNat (nbE N E) X ms) : Ranked (E.map (turnX X ms)) := by
  obtain ⟨r, hr⟩ := hr
  refine ⟨fun v => r v.toNat, fun x hx => ?_⟩
  obtain ⟨e, he, rfl⟩ := List.mem_map.1 hx
  obtain ⟨i, k, hi, hk, e1, e2⟩ := turnX_ah ok h he
  rw [e1]
  exact hr i k hi hk e2
/-- who eats goes ahead of none -/
theorem turnX_eats (ok : OkG N E) (h : TB N.toNat (nbE N E) ep X P ms) {i : Nat} (hp : P i = 2) : ∀ x ∈ E.map (turnX X ms), x.a ≠ i := by
  intro x hx hxi
  obtain ⟨e, he, rfl⟩ := List.mem_map.1 hx
  obtain ⟨j, k, hj, hk, e1, e2⟩ := turnX_ah ok h he
  rw [e1] at hxi
  have : j = i := by have : (j : Int) = i := hxi; omega
  subst this
  have hE := h.edge j k hj hk
  rw [hp] at hE
  have := hE.last
  unfold ah at e2
  rw [this] at e2
  cases e2
end

end Go.Proofs.YtdfleocknaackaaGreat

/- Layer 14 (mathematics): a graph's scene behind acts: what the statements ask of it, as lists. -/
namespace Go.Proofs.YtdfleocknaackaaGreat

def nodeB (ds : List Dn) (a : Int) : Bool := decide (0 ≤ a) && decide (a < ds.length)
/-- may a scene be? -/
def chkT (ds : List Dn) (ms : List Ml) : Bool := graphB ds && ds.all dnOk && ms.all fun m => nodeB ds m.from_ && nodeB ds m.to_ && !decide (m.from_ = m.to_)
/-- what becomes of any scene -/
def stepT (ds : List Dn) (ms : List Ml) (k a b : Int) : (List Dn × List Ml) × Int := if chkT ds ms = true then stepS ds ms k a b else (noS, 142)
/-- a graph's scene -/
def GoodE (N : Int) (E : List Edge) (ds : List Dn) (ms : List Ml) : Prop := Good N.toNat (nbE N E) 1 ds ms
section
variable {N : Int} {E : List Edge} {ds : List Dn} {ms : List Ml}
theorem right_pos {c : List Int} (h : rightB N E c = true) {i : Nat} (hi : i < N.toNat) : 0 ≤ col c i := by
  unfold rightB at h
  simp only [Bool.and_eq_true, List.all_eq_true, decide_eq_true_eq, List.mem_range] at h
  have := (h.2 i (by omega)).1
  omega
theorem right_okG {c : List Int} (h : rightB N E c = true) : OkG N E := by
  unfold rightB at h
  simp only [Bool.and_eq_true] at h
  exact okG_iff.1 h.1.1
theorem GoodE.new {c : List Int} (h : rightB N E c = true) : GoodE N E (tableL N E c) [] := by
  have hc : ∀ i k : Nat, i < N.toNat → k ∈ nbE N E i → col c i ≠ col c k := fun i k _ hk => right_ne h _ _ (mem_nbE.1 hk).2
  exact ⟨_, _, table_is N E c, TB.first hc, NoRound.first (NB.ofE (right_okG h)) (fun i hi => right_pos h hi) hc⟩
theorem GoodE.graph (ok : OkG N E) (h : GoodE N E ds ms) : graphR ds = (N, E, true) := by
  obtain ⟨X, P, rfl, hb, hr⟩ := h
  exact graph_scene ok fun i k hi hk => (hb.pr i k hi hk).1
theorem GoodE.len (h : GoodE N E ds ms) : ds.length = N.toNat := by
  obtain ⟨X, P, rfl, hb, hr⟩ := h
  exact dsOf_len
theorem GoodE.chk (ok : OkG N E) (h : GoodE N E ds ms) : chkT ds ms = true := by
  have hg := h.graph ok
  have hlen := h.len
  obtain ⟨X, P, rfl, hb, hr⟩ := h
  have n64 := ok.n64
  have hn := NB.ofE ok
  unfold chkT
  rw [Bool.and_eq_true, Bool.and_eq_true, List.all_eq_true, List.all_eq_true]
  refine ⟨⟨?_, fun d hd => ?_⟩, fun m hm => ?_⟩
  · unfold graphR at hg
    cases e : graphB (dsOf N.toNat (nbE N E) X P)
    · rw [e, if_neg (by simp)] at hg; cases hg
    · rfl
  · unfold dsOf at hd
    obtain ⟨i, hi, rfl⟩ := List.mem_map.1 hd
    exact hb.ok hn (by omega) (by omega) (by omega) (List.mem_range.1 hi)
  · obtain ⟨i, k, hi, hk, e1, e2⟩ := hb.mail m hm
    have := hn.back i k hi hk
    unfold nodeB
    rw [hlen, e1, e2]
    simp only [Bool.and_eq_true, decide_eq_true_eq, Bool.not_eq_true', decide_eq_false_iff_not]
    omega
theorem GoodE.stepT (ok : OkG N E) {k a b : Int} (h : GoodE N E ds ms) : stepT ds ms k a b = stepS ds ms k a b := by
  unfold Go.Proofs.YtdfleocknaackaaGreat.stepT
  rw [if_pos (h.chk ok)]
theorem GoodE.step (ok : OkG N E) {k a b : Int} (hk : k = 0 ∨ k = 1 ∨ k = 2) (h : GoodE N E ds ms) :
    (Go.Proofs.YtdfleocknaackaaGreat.stepT ds ms k a b).2 = 0 ∧ GoodE N E (Go.Proofs.YtdfleocknaackaaGreat.stepT ds ms k a b).1.1 (Go.Proofs.YtdfleocknaackaaGreat.stepT ds ms k a b).1.2 ∨ (Go.Proofs.YtdfleocknaackaaGreat.stepT ds ms k a b).1 = noS ∧ ((Go.Proofs.YtdfleocknaackaaGreat.stepT ds ms k a b).2 = 134 ∨ (Go.Proofs.YtdfleocknaackaaGreat.stepT ds ms k a b).2 = 140 ∨ (Go.Proofs.YtdfleocknaackaaGreat.stepT ds ms k a b).2 = 141) := by
  rw [h.stepT ok]
  have n64 := ok.n64
  exact Good.step (NB.ofE ok) (by omega) (by omega) (by omega) hk h

/-- behind acts -/
def actN (k : Int) : Int := if k = 0 then 0 else if k = 1 then 1 else 2
theorem actN_is (k : Int) : actN k = 0 ∨ actN k = 1 ∨ actN k = 2 := by
  unfold actN
  split
  · exact .inl rfl
  · split
    · exact .inr (.inl rfl)
    · exact .inr (.inr rfl)
/-- the scene behind an act, as far as it may be -/
def goS (s : List Dn × List Ml) (x : Int × Int × Int) : List Dn × List Ml := if (stepT s.1 s.2 (actN x.1) x.2.1 x.2.2).2 = 0 then (stepT s.1 s.2 (actN x.1) x.2.1 x.2.2).1 else s
def runS (l : List (Int × Int × Int)) (s : List Dn × List Ml) : List Dn × List Ml := l.foldl goS s
theorem GoodE.go (ok : OkG N E) {s : List Dn × List Ml} (x : Int × Int × Int) (h : GoodE N E s.1 s.2) :
    ((Go.Proofs.YtdfleocknaackaaGreat.stepT s.1 s.2 (actN x.1) x.2.1 x.2.2).2 = 0 ∨ (Go.Proofs.YtdfleocknaackaaGreat.stepT s.1 s.2 (actN x.1) x.2.1 x.2.2).2 = 134 ∨ (Go.Proofs.YtdfleocknaackaaGreat.stepT s.1 s.2 (actN x.1) x.2.1 x.2.2).2 = 141 ∨ (Go.Proofs.YtdfleocknaackaaGreat.stepT s.1 s.2 (actN x.1) x.2.1 x.2.2).2 = 140) ∧
    GoodE N E (goS s x).1 (goS s x).2 := by
  unfold goS
  rcases h.step ok (a := x.2.1) (b := x.2.2) (actN_is x.1) with ⟨e, g⟩ | ⟨_, e⟩
  · rw [if_pos e]; exact ⟨.inl e, g⟩
  · rw [if_neg (by omega)]; exact ⟨by omega, h⟩
theorem GoodE.run (ok : OkG N E) : ∀ (l : List (Int × Int × Int)) {s : List Dn × List Ml}, GoodE N E s.1 s.2 → GoodE N E (runS l s).1 (runS l s).2
  | [], _, h => h
  | x :: l, s, h => GoodE.run ok l (s := goS s x) (h.go ok x).2

/-- how many of an edge -/
def countT (ds : List Dn) (ms : List Ml) (a b k : Int) : Nat :=
  if (!nodeB ds a || !nodeB ds b || (!decide (k = 1) && !decide (k = 2))) = true then 0 else
  let x := sideR (ds.getD a.toNat ⟨0, 0, []⟩).sides b
  let y := sideR (ds.getD b.toNat ⟨0, 0, []⟩).sides a
  if (!x.2 || !y.2 || !decide (x.1.epoch = y.1.epoch)) = true then 0 else cntS x.1 y.1 ms a b k
theorem dsOf_getD {n : Nat} {nb : Nat → List Nat} {X : Nat → Nat → Sd} {P : Nat → Int} {i : Nat} (hi : i < n) : (dsOf n nb X P).getD i ⟨0, 0, []⟩ = ⟨i, P i, (nb i).map (X i)⟩ := by
  rw [List.getD_eq_getElem?_getD, dsOf_get hi]; rfl
theorem edge_nb (ok : OkG N E) {e : Edge} (he : e ∈ E) : ∃ i k : Nat, e = ⟨i, k⟩ ∧ i < N.toNat ∧ k < N.toNat ∧ k ∈ nbE N E i ∧ i ∈ nbE N E k := by
  obtain ⟨a, b⟩ := e
  have hE := ok.each _ he
  dsimp only at hE
  have ea : ((a.toNat : Nat) : Int) = a := by omega
  have eb : ((b.toNat : Nat) : Int) = b := by omega
  have hm : b.toNat ∈ nbE N E a.toNat := mem_nbE.2 ⟨by omega, by
    rw [ea, eb]
    have : btw a b = ⟨a, b⟩ := by simp only [btw, Edge.mk.injEq]; omega
    rw [this]; exact he⟩
  exact ⟨a.toNat, b.toNat, by rw [ea, eb], by omega, by omega, hm, ((NB.ofE ok).back _ _ (by omega) hm).2.2⟩
/-- of each edge one fork, and one token -/
theorem GoodE.count (ok : OkG N E) (h : GoodE N E ds ms) {e : Edge} (he : e ∈ E) : countT ds ms e.a e.b 1 = 1 ∧ countT ds ms e.a e.b 2 = 1 := by
  obtain ⟨X, P, rfl, hb, hr⟩ := h
  have hn := NB.ofE ok
  obtain ⟨i, k, rfl, hi, hk, h1, h2⟩ := edge_nb ok he
  have key : ∀ kd : Int, kd = 1 ∨ kd = 2 → countT (dsOf N.toNat (nbE N E) X P) ms i k kd = cntS (X i k) (X k i) ms i k kd := fun kd hkd => by
    have c1 : nodeB (dsOf N.toNat (nbE N E) X P) i = true := by unfold nodeB; rw [dsOf_len]; simp only [Bool.and_eq_true, decide_eq_true_eq]; omega
    have c2 : nodeB (dsOf N.toNat (nbE N E) X P) k = true := by unfold nodeB; rw [dsOf_len]; simp only [Bool.and_eq_true, decide_eq_true_eq]; omega
    have c3 : (!decide (kd = 1) && !decide (kd = 2)) = false := by rcases hkd with rfl | rfl <;> rfl
    unfold countT
    rw [c1, c2, c3, if_neg (by simp), Int.toNat_natCast, Int.toNat_natCast, dsOf_getD hi, dsOf_getD hk]
    dsimp only
    rw [hb.sideR hn hi h1, hb.sideR hn hk h2]
    dsimp only
    rw [(hb.pr i k hi h1).2, (hb.pr k i hk h2).2, decide_eq_true rfl, if_neg (by simp)]
  have := hb.count hn hi h1
  exact ⟨by rw [key 1 (.inl rfl)]; exact this.1, by rw [key 2 (.inr rfl)]; exact this.2⟩
theorem mem_phs {n : Nat} {nb : Nat → List Nat} {X : Nat → Nat → Sd} {P : Nat → Int} {p a : Int} (h : a ∈ phs (dsOf n nb X P) p) : ∃ i : Nat, a = i ∧ i < n ∧ P i = p := by
  rw [phs_dsOf] at h
  obtain ⟨i, hi, rfl⟩ := List.mem_map.1 h
  exact ⟨i, rfl, mem_phN.1 hi⟩
/-- no two neighbours eat at once -/
theorem GoodE.apart (h : GoodE N E ds ms) {a b : Int} (ha : a ∈ phs ds 2) (hb : b ∈ phs ds 2) : btw a b ∉ E := by
  obtain ⟨X, P, rfl, ht, hr⟩ := h
  obtain ⟨i, rfl, hi, hpi⟩ := mem_phs ha
  obtain ⟨k, rfl, hk, hpk⟩ := mem_phs hb
  exact fun he => ht.apart hi (mem_nbE.2 ⟨hk, he⟩) ⟨hpi, hpk⟩
/-- who eats has all forks, dirty -/
theorem GoodE.hasAll (h : GoodE N E ds ms) {a : Int} (ha : a ∈ phs ds 2) : 0 ≤ a ∧ a < N ∧ ∀ s ∈ (ds.getD a.toNat ⟨0, 0, []⟩).sides, s.fork = true ∧ s.dirty = true := by
  obtain ⟨X, P, rfl, ht, hr⟩ := h
  obtain ⟨i, rfl, hi, hpi⟩ := mem_phs ha
  refine ⟨by omega, by omega, ?_⟩
  rw [Int.toNat_natCast, dsOf_getD hi]
  exact ht.hasAll hi hpi
/-- on each edge one goes ahead, and they don't lead round -/
theorem GoodE.arcs (ok : OkG N E) (h : GoodE N E ds ms) : OkD N (arcsOf ms ds) ∧ Ranked (arcsOf ms ds) ∧ (arcsOf ms ds).length = E.length ∧ ∀ a ∈ phs ds 2, (0 ≤ a ∧ a < N) ∧ (arcsOf ms ds).any (fun x => decide (x.a = a)) = false := by
  obtain ⟨X, P, rfl, ht, hr⟩ := h
  rw [arcs_scene ok ht]
  refine ⟨turnX_ok ok X ms, turnX_ranked ok ht hr, List.length_map .., fun a ha => ?_⟩
  obtain ⟨i, rfl, hi, hpi⟩ := mem_phs ha
  refine ⟨by omega, ?_⟩
  rw [List.any_eq_false]
  intro x hx
  have := turnX_eats ok ht hpi x hx
  simpa using this
/-- who is hungry eats -/
theorem GoodE.fair (ok : OkG N E) (h : GoodE N E ds ms) {f : Nat} (hf : 6 * E.length ≤ f) : ∃ ds' ms', fairS f (N.toNat + 1) ds ms = some (ds', ms') ∧ GoodE N E ds' ms' ∧ phs ds' 1 = [] ∧ phs ds' 2 = [] := by
  obtain ⟨X, P, rfl, ht, hr⟩ := h
  have n64 := ok.n64
  have hn := NB.ofE ok
  have q1 : ∀ e ∈ E.map (fun e => (e.a.toNat, e.b.toNat)), e.1 < N.toNat ∧ e.2 ∈ nbE N E e.1 := fun e he => by
    obtain ⟨x, hx, rfl⟩ := List.mem_map.1 he
    obtain ⟨i, k, rfl, hi, hk, h1, h2⟩ := edge_nb ok hx
    exact ⟨hi, h1⟩
  have q2 : ∀ i k, i < N.toNat → k ∈ nbE N E i → (i, k) ∈ E.map (fun e => (e.a.toNat, e.b.toNat)) ∨ (k, i) ∈ E.map (fun e => (e.a.toNat, e.b.toNat)) := fun i k hi hk => by
    have hm := (mem_nbE.1 hk).2
    rcases Nat.lt_or_ge i k with hik | hik
    · left
      have : btw (i : Int) (k : Int) = ⟨i, k⟩ := by simp only [btw, Edge.mk.injEq]; omega
      rw [this] at hm
      exact List.mem_map.2 ⟨_, hm, rfl⟩
    · right
      have : btw (i : Int) (k : Int) = ⟨k, i⟩ := by simp only [btw, Edge.mk.injEq]; omega
      rw [this] at hm
      exact List.mem_map.2 ⟨_, hm, rfl⟩
  have ha := act_le N.toNat P
  obtain ⟨X', P', ms', r1, r2, r3, r4⟩ := TB.fairS hn (by omega) (by omega) (by omega) q1 q2 (f := f) (by rw [List.length_map]; exact hf) (r := N.toNat + 1) ht hr (by omega)
  have none : ∀ p : Int, p ≠ 0 → phs (dsOf N.toNat (nbE N E) X' P') p = [] := fun p hp => by
    rw [List.eq_nil_iff_forall_not_mem]
    intro a hm
    obtain ⟨i, _, hi, hpi⟩ := mem_phs hm
    have := r2 i hi
    omega
  exact ⟨_, _, r1, ⟨X', P', rfl, r3, r4⟩, none 1 (by omega), none 2 (by omega)⟩
end

end Go.Proofs.YtdfleocknaackaaGreat
