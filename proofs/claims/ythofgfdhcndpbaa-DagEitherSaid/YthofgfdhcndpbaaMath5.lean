/- How deep nodes lie: by the order, and by going through the arcs again and again; who reaches whom: plain facts, of no program. -/
import Derived.Test.YthofgfdhcndpbaaMath4
namespace Go.Proofs.Ythofgfdhcndpbaa

/-- One more than the deepest of those that point to v, as d has them. -/
def mostOf (d : List Int) (v : Int) (L : List Arc) : Int := L.foldl (fun m x => if x.b = v then max m (d.getD x.a.toNat 0 + 1) else m) 0
structure IsMost (L : List Arc) (d : List Int) (v m : Int) : Prop where
  nn : 0 ≤ m
  ge : ∀ x ∈ L, x.b = v → d.getD x.a.toNat 0 + 1 ≤ m
  is : m = 0 ∨ ∃ x ∈ L, x.b = v ∧ m = d.getD x.a.toNat 0 + 1
theorem IsMost.uniq {L : List Arc} {d : List Int} {v m k : Int} (h : IsMost L d v m) (g : IsMost L d v k) : m = k := by
  have h1 := h.nn
  have h2 := g.nn
  rcases h.is with h3 | ⟨x, hx, hb, h3⟩
  · rcases g.is with g3 | ⟨y, hy, hyb, g3⟩
    · omega
    · have := h.ge y hy hyb; omega
  · have h4 := g.ge x hx hb
    rcases g.is with g3 | ⟨y, hy, hyb, g3⟩
    · omega
    · have := h.ge y hy hyb; omega
theorem mostOf_snoc (d : List Int) (v : Int) (L : List Arc) (x : Arc) : mostOf d v (L ++ [x]) = if x.b = v then max (mostOf d v L) (d.getD x.a.toNat 0 + 1) else mostOf d v L := by
  unfold mostOf
  rw [List.foldl_append]
  rfl
theorem snoc_ind {α : Type} {P : List α → Prop} (h0 : P []) (hs : ∀ l x, P l → P (l ++ [x])) (l : List α) : P l := by
  rw [← List.reverse_reverse l]
  generalize l.reverse = r
  induction r with
  | nil => exact h0
  | cons x r ih => rw [List.reverse_cons]; exact hs _ _ ih
theorem mostOf_is (d : List Int) (v : Int) (L : List Arc) : IsMost L d v (mostOf d v L) := by
  refine snoc_ind (P := fun L => IsMost L d v (mostOf d v L)) ⟨by simp [mostOf], by simp, .inl (by simp [mostOf])⟩ (fun L x ih => ?_) L
  rw [mostOf_snoc]
  have h1 := ih.nn
  split
  · next hb =>
    refine ⟨by omega, fun y hy hyb => ?_, ?_⟩
    · rcases List.mem_append.1 hy with hy | hy
      · have := ih.ge y hy hyb; omega
      · rw [List.mem_singleton] at hy; subst hy; omega
    · by_cases hle : mostOf d v L ≤ d.getD x.a.toNat 0 + 1
      · exact .inr ⟨x, by simp, hb, by omega⟩
      · rcases ih.is with h | ⟨y, hy, hyb, h⟩
        · exact .inl (by omega)
        · exact .inr ⟨y, by simp [hy], hyb, by omega⟩
  · next hb =>
    refine ⟨h1, fun y hy hyb => ?_, ?_⟩
    · rcases List.mem_append.1 hy with hy | hy
      · exact ih.ge y hy hyb
      · rw [List.mem_singleton] at hy; subst hy; exact absurd hyb hb
    · rcases ih.is with h | ⟨y, hy, hyb, h⟩
      · exact .inl h
      · exact .inr ⟨y, by simp [hy], hyb, h⟩

structure IsDepth (n : Nat) (L : List Arc) (d : List Int) : Prop where
  len : d.length = n
  at_ : ∀ v : Nat, v < n → IsMost L d v (d.getD v 0)

theorem IsDepth.uniq {N : Int} {L : List Arc} {t d e : List Int} (ok : OkD N L) (h : PI N.toNat L t []) (hd : IsDepth N.toNat L d) (he : IsDepth N.toNat L e) : d = e := by
  have key := ord_all h (fun v => 0 ≤ v → v < N → d.getD v.toNat 0 = e.getD v.toNat 0) (fun v hv h0 hN => by
    have a := hd.at_ v.toNat (by omega)
    have b := he.at_ v.toNat (by omega)
    rw [show ((v.toNat : Nat) : Int) = v from by omega] at a b
    have eq : ∀ x ∈ L, x.b = v → d.getD x.a.toNat 0 = e.getD x.a.toNat 0 := fun x hx hb => hv x hx hb (ok.each x hx).1 (ok.each x hx).2.1
    exact a.uniq ⟨b.nn, fun x hx hb => by rw [eq x hx hb]; exact b.ge x hx hb, by
      rcases b.is with h | ⟨x, hx, hb, h⟩
      · exact .inl h
      · exact .inr ⟨x, hx, hb, by rw [eq x hx hb]; exact h⟩⟩)
  refine List.ext_getElem (by rw [hd.len, he.len]) fun i h1 h2 => ?_
  have hi : i < N.toNat := by rw [← hd.len]; exact h1
  have := key i ((h.mem.2 ⟨by omega, by omega⟩).resolve_right (by simp)) (by omega) (by omega)
  rw [show ((i : Int)).toNat = i from by omega, getD_at h1, getD_at h2] at this
  exact this
theorem IsDepth.mono {N : Int} {L M : List Arc} {t d e : List Int} (ok : OkD N M) (h : PI N.toNat M t []) (hs : ∀ x ∈ M, x ∈ L) (hd : IsDepth N.toNat L d) (he : IsDepth N.toNat M e) : ∀ v : Nat, v < N.toNat → e.getD v 0 ≤ d.getD v 0 := by
  have key := ord_all h (fun v => 0 ≤ v → v < N → e.getD v.toNat 0 ≤ d.getD v.toNat 0) (fun v hv h0 hN => by
    have a := hd.at_ v.toNat (by omega)
    have b := he.at_ v.toNat (by omega)
    rw [show ((v.toNat : Nat) : Int) = v from by omega] at a b
    have a1 := a.nn
    rcases b.is with h | ⟨x, hx, hb, h⟩
    · omega
    · have h1 := hv x hx hb (ok.each x hx).1 (ok.each x hx).2.1
      have h2 := a.ge x (hs x hx) hb
      omega)
  intro v hv
  have := key v ((h.mem.2 ⟨by omega, by omega⟩).resolve_right (by simp)) (by omega) (by omega)
  rwa [show ((v : Int)).toNat = v from by omega] at this
theorem IsDepth.less {N : Int} {L : List Arc} {t d : List Int} (ok : OkD N L) (h : PI N.toNat L t []) (hd : IsDepth N.toNat L d) : ∀ v : Nat, v < N.toNat → d.getD v 0 < N := by
  have hn : t.Nodup := by have := h.nodup; simpa using this
  have hl : t.length = N.toNat := by have := h.len; simpa using this
  have key := ord_all h (fun v => 0 ≤ v → v < N → d.getD v.toNat 0 ≤ t.idxOf v) (fun v hv h0 hN => by
    have b := hd.at_ v.toNat (by omega)
    rw [show ((v.toNat : Nat) : Int) = v from by omega] at b
    rcases b.is with h1 | ⟨x, hx, hb, h1⟩
    · omega
    · have h2 := hv x hx hb (ok.each x hx).1 (ok.each x hx).2.1
      have h3 := order_idx ok h x hx
      rw [hb] at h3
      omega)
  intro v hv
  have hm := (h.mem (x := v)).2 ⟨by omega, by omega⟩ |>.resolve_right (by simp)
  have := key v hm (by omega) (by omega)
  rw [show ((v : Int)).toNat = v from by omega] at this
  have h4 := List.idxOf_lt_length_of_mem hm
  omega

/-! depths by the order told -/
/-- .. of those told, of which it goes to v. -/
def mostAt (L : List Arc) (d : List Int) (v : Int) (l : List Int) : Int := l.foldl (fun m u => if (⟨u, v⟩ : Arc) ∈ L then max m (d.getD u.toNat 0 + 1) else m) 0
theorem mostAt_snoc (L : List Arc) (d : List Int) (v : Int) (l : List Int) (u : Int) : mostAt L d v (l ++ [u]) = if (⟨u, v⟩ : Arc) ∈ L then max (mostAt L d v l) (d.getD u.toNat 0 + 1) else mostAt L d v l := by
  unfold mostAt
  rw [List.foldl_append]
  rfl
theorem mostAt_is (L : List Arc) (d : List Int) (v : Int) (l : List Int) (hl : ∀ x ∈ L, x.b = v → x.a ∈ l) : IsMost L d v (mostAt L d v l) := by
  have key : ∀ l : List Int, 0 ≤ mostAt L d v l ∧ (∀ u ∈ l, (⟨u, v⟩ : Arc) ∈ L → d.getD u.toNat 0 + 1 ≤ mostAt L d v l) ∧ (mostAt L d v l = 0 ∨ ∃ u ∈ l, (⟨u, v⟩ : Arc) ∈ L ∧ mostAt L d v l = d.getD u.toNat 0 + 1) := by
    refine snoc_ind ⟨by simp [mostAt], by simp, .inl (by simp [mostAt])⟩ fun l u ih => ?_
    rw [mostAt_snoc]
    obtain ⟨i1, i2, i3⟩ := ih
    split
    · next hb =>
      refine ⟨by omega, fun y hy hyb => ?_, ?_⟩
      · rcases List.mem_append.1 hy with hy | hy
        · have := i2 y hy hyb; omega
        · rw [List.mem_singleton] at hy; subst hy; omega
      · by_cases hle : mostAt L d v l ≤ d.getD u.toNat 0 + 1
        · exact .inr ⟨u, by simp, hb, by omega⟩
        · rcases i3 with h | ⟨y, hy, hyb, h⟩
          · exact .inl (by omega)
          · exact .inr ⟨y, by simp [hy], hyb, by omega⟩
    · next hb =>
      refine ⟨i1, fun y hy hyb => ?_, ?_⟩
      · rcases List.mem_append.1 hy with hy | hy
        · exact i2 y hy hyb
        · rw [List.mem_singleton] at hy; subst hy; exact absurd hyb hb
      · rcases i3 with h | ⟨y, hy, hyb, h⟩
        · exact .inl h
        · exact .inr ⟨y, by simp [hy], hyb, h⟩
  obtain ⟨k1, k2, k3⟩ := key l
  refine ⟨k1, ?_, ?_⟩
  · rintro ⟨a, b⟩ hx hb
    simp only at hb
    subst hb
    exact k2 a (hl _ hx rfl) hx
  · rcases k3 with h | ⟨u, hu, huv, h⟩
    · exact .inl h
    · exact .inr ⟨⟨u, v⟩, huv, rfl, h⟩

/-- What holds of the depths when the first ones of the order are through. -/
structure Deep (n : Nat) (L : List Arc) (p d : List Int) : Prop where
  len : d.length = n
  at_ : ∀ v ∈ p, IsMost L d v (d.getD v.toNat 0)
theorem getD_set_self {l : List Int} {i : Nat} (h : i < l.length) (x : Int) : (l.set i x).getD i 0 = x := by simp [h]
theorem getD_set_ne {l : List Int} {i j : Nat} (h : i ≠ j) (x : Int) : (l.set i x).getD j 0 = l.getD j 0 := by simp [List.getElem?_set_ne h]
theorem toNat_ne {a b : Int} (ha : 0 ≤ a) (hb : 0 ≤ b) (h : a ≠ b) : a.toNat ≠ b.toNat := by omega
theorem Deep.next {N : Int} {L : List Arc} {t p q d : List Int} {v : Int} (h : PI N.toNat L t []) (e : t = p ++ v :: q) (hd : Deep N.toNat L p d) : Deep N.toNat L (p ++ [v]) (d.set v.toNat (mostAt L d v p)) := by
  have hn : t.Nodup := by have := h.nodup; simpa using this
  have hnn : ∀ u ∈ t, 0 ≤ u ∧ u < N := fun u hu => by have := (h.mem (x := u)).1 (.inl hu); omega
  have hv : 0 ≤ v ∧ v < N := hnn v (by rw [e]; simp)
  have hvp : v ∉ p := fun hm => by rw [e] at hn; exact (List.nodup_append.1 hn).2.2 v hm v (by simp) rfl
  have hsame : ∀ u ∈ p, (d.set v.toNat (mostAt L d v p)).getD u.toNat 0 = d.getD u.toNat 0 := fun u hu =>
    getD_set_ne (toNat_ne hv.1 (hnn u (by rw [e]; simp [hu])).1 (fun c => hvp (c ▸ hu))) _
  have hself : (d.set v.toNat (mostAt L d v p)).getD v.toNat 0 = mostAt L d v p := getD_set_self (by rw [hd.len]; omega) _
  refine ⟨by rw [List.length_set]; exact hd.len, fun u hu => ?_⟩
  have trans : ∀ (u m : Int), (∀ x ∈ L, x.b = u → x.a ∈ p) → IsMost L d u m → IsMost L (d.set v.toNat (mostAt L d v p)) u m := fun u m hp hm =>
    ⟨hm.nn, fun x hx hb => by rw [hsame _ (hp x hx hb)]; exact hm.ge x hx hb, by
      rcases hm.is with h | ⟨x, hx, hb, h⟩
      · exact .inl h
      · exact .inr ⟨x, hx, hb, by rw [hsame _ (hp x hx hb)]; exact h⟩⟩
  rcases List.mem_append.1 hu with hu | hu
  · rw [hsame u hu]
    refine trans u _ (fun x hx hb => ?_) (hd.at_ u hu)
    obtain ⟨p1, p2, rfl⟩ := List.append_of_mem hu
    exact List.mem_append_left _ (h.pre p1 u (p2 ++ v :: q) (by rw [e]; simp) x.a (by rw [← hb]; exact hx))
  · rw [List.mem_singleton] at hu
    subst hu
    rw [hself]
    have hp : ∀ x ∈ L, x.b = u → x.a ∈ p := fun x hx hb => h.pre p u q e x.a (by rw [← hb]; exact hx)
    exact trans u _ hp (mostAt_is L d u p hp)
theorem Deep.all {N : Int} {L : List Arc} {t d : List Int} (h : PI N.toNat L t []) (hd : Deep N.toNat L t d) : IsDepth N.toNat L d :=
  ⟨hd.len, fun v hv => by
    have := hd.at_ v ((h.mem.2 ⟨by omega, by omega⟩).resolve_right (by simp))
    rwa [show ((v : Int)).toNat = v from by omega] at this⟩

theorem depth_exists {N : Int} {L : List Arc} {t : List Int} (h : PI N.toNat L t []) : ∃ d, IsDepth N.toNat L d := by
  have key : ∀ p : List Int, (∃ q, t = p ++ q) → ∃ d, Deep N.toNat L p d := by
    refine snoc_ind (fun _ => ⟨List.replicate N.toNat 0, by simp, by simp⟩) fun p v ih => ?_
    rintro ⟨q, e⟩
    obtain ⟨d, hd⟩ := ih ⟨[v] ++ q, by rw [e]; simp⟩
    exact ⟨_, hd.next h (by rw [e]; simp : t = p ++ v :: q)⟩
  obtain ⟨d, hd⟩ := key t ⟨[], by simp⟩
  exact ⟨d, hd.all h⟩

/-! depths by going through the arcs again and again -/
def relax (d : List Int) (x : Arc) : List Int := d.set x.b.toNat (max (d.getD x.b.toNat 0) (d.getD x.a.toNat 0 + 1))
def pass (L : List Arc) (d : List Int) : List Int := L.foldl relax d
def passes (L : List Arc) : Nat → List Int → List Int
  | 0, d => d
  | k + 1, d => pass L (passes L k d)
theorem relax_len (d : List Int) (x : Arc) : (relax d x).length = d.length := by simp [relax]
theorem pass_snoc (L : List Arc) (x : Arc) (d : List Int) : pass (L ++ [x]) d = relax (pass L d) x := by unfold pass; rw [List.foldl_append]; rfl
theorem pass_len (L : List Arc) (d : List Int) : (pass L d).length = d.length := snoc_ind (P := fun L => (pass L d).length = d.length) rfl (fun L x ih => by rw [pass_snoc, relax_len, ih]) L
theorem passes_len (L : List Arc) (k : Nat) (d : List Int) : (passes L k d).length = d.length := by
  induction k with
  | zero => rfl
  | succ k ih => show (pass L _).length = _; rw [pass_len, ih]

theorem passes_is {N : Int} {L : List Arc} {t D : List Int} (ok : OkD N L) (h : PI N.toNat L t []) (hD : IsDepth N.toNat L D) : passes L N.toNat (List.replicate N.toNat 0) = D := by
  have hn0 := ok.n0
  -- one pass
  have one : ∀ (k : Int) (e : List Int), e.length = N.toNat → (∀ v : Nat, v < N.toNat → e.getD v 0 ≤ D.getD v 0) → (∀ v : Nat, v < N.toNat → D.getD v 0 ≤ k → e.getD v 0 = D.getD v 0) → (∀ v : Nat, v < N.toNat → 0 ≤ e.getD v 0) →
      ∀ M : List Arc, (∀ x ∈ M, x ∈ L) → (∀ v : Nat, v < N.toNat → (pass M e).getD v 0 ≤ D.getD v 0) ∧ (∀ v : Nat, v < N.toNat → e.getD v 0 ≤ (pass M e).getD v 0) ∧ ∀ x ∈ M, D.getD x.a.toNat 0 ≤ k → D.getD x.a.toNat 0 + 1 ≤ (pass M e).getD x.b.toNat 0 := by
    intro k e hl hle hk hnn M
    refine snoc_ind (P := fun M => (∀ x ∈ M, x ∈ L) → (∀ v : Nat, v < N.toNat → (pass M e).getD v 0 ≤ D.getD v 0) ∧ (∀ v : Nat, v < N.toNat → e.getD v 0 ≤ (pass M e).getD v 0) ∧ ∀ x ∈ M, D.getD x.a.toNat 0 ≤ k → D.getD x.a.toNat 0 + 1 ≤ (pass M e).getD x.b.toNat 0) (fun _ => ⟨hle, fun _ _ => Int.le_refl _, by simp⟩) (fun M x ih hM => ?_) M
    obtain ⟨i1, i2, i3⟩ := ih (fun y hy => hM y (by simp [hy]))
    have hx := hM x (by simp)
    have hr := ok.each x hx
    have hbl : x.b.toNat < (pass M e).length := by rw [pass_len, hl]; omega
    have hself := getD_set_self hbl (max ((pass M e).getD x.b.toNat 0) ((pass M e).getD x.a.toNat 0 + 1))
    have hDx := (hD.at_ x.b.toNat (by omega)).ge x hx (by omega)
    have ha := i1 x.a.toNat (by omega)
    have hb := i1 x.b.toNat (by omega)
    have ga := i2 x.a.toNat (by omega)
    have gb := i2 x.b.toNat (by omega)
    rw [pass_snoc]
    unfold relax
    refine ⟨fun v hv => ?_, fun v hv => ?_, fun y hy hyk => ?_⟩
    · by_cases e1 : x.b.toNat = v
      · subst e1; rw [hself]; omega
      · rw [getD_set_ne e1]; exact i1 v hv
    · by_cases e1 : x.b.toNat = v
      · subst e1; rw [hself]; omega
      · rw [getD_set_ne e1]; exact i2 v hv
    · have hry := ok.each y (hM y hy)
      by_cases e1 : x.b.toNat = y.b.toNat
      · rw [← e1, hself]
        rcases List.mem_append.1 hy with hy | hy
        · have := i3 y hy hyk; rw [← e1] at this; omega
        · rw [List.mem_singleton] at hy
          subst hy
          have := hk y.a.toNat (by omega) hyk
          omega
      · rw [getD_set_ne e1]
        rcases List.mem_append.1 hy with hy | hy
        · exact i3 y hy hyk
        · rw [List.mem_singleton] at hy
          subst hy
          exact absurd rfl e1
  have key : ∀ k : Nat, (∀ v : Nat, v < N.toNat → (passes L k (List.replicate N.toNat 0)).getD v 0 ≤ D.getD v 0) ∧ (∀ v : Nat, v < N.toNat → D.getD v 0 ≤ k → (passes L k (List.replicate N.toNat 0)).getD v 0 = D.getD v 0) ∧ (∀ v : Nat, v < N.toNat → 0 ≤ (passes L k (List.replicate N.toNat 0)).getD v 0) := by
    intro k
    induction k with
    | zero =>
      have z : ∀ v : Nat, v < N.toNat → (List.replicate N.toNat (0 : Int)).getD v 0 = 0 := fun v hv => by simp [hv]
      refine ⟨fun v hv => ?_, fun v hv hk => ?_, fun v hv => ?_⟩
      · show (List.replicate N.toNat (0 : Int)).getD v 0 ≤ _
        rw [z v hv]; exact (hD.at_ v hv).nn
      · show (List.replicate N.toNat (0 : Int)).getD v 0 = _
        rw [z v hv]; have := (hD.at_ v hv).nn; omega
      · show 0 ≤ (List.replicate N.toNat (0 : Int)).getD v 0
        rw [z v hv]; omega
    | succ k ih =>
      obtain ⟨i1, i2, i3⟩ := ih
      have hl : (passes L k (List.replicate N.toNat 0)).length = N.toNat := by rw [passes_len]; simp
      obtain ⟨o1, o2, o3⟩ := one k _ hl i1 i2 i3 L (fun x hx => hx)
      refine ⟨o1, fun v hv hk => ?_, fun v hv => Int.le_trans (i3 v hv) (o2 v hv)⟩
      show (pass L (passes L k (List.replicate N.toNat 0))).getD v 0 = D.getD v 0
      have a1 := o1 v hv
      have a2 := o2 v hv
      have a3 := i3 v hv
      rcases (hD.at_ v hv).is with h | ⟨x, hx, hb, h⟩
      · omega
      · have h2 := o3 x hx (by omega)
        rw [show x.b.toNat = v from by omega] at h2
        omega
  obtain ⟨k1, k2, k3⟩ := key N.toNat
  refine List.ext_getElem (by rw [passes_len, hD.len]; simp) fun i h1 h2 => ?_
  have hi : i < N.toNat := by rw [← hD.len]; exact h2
  have := k2 i hi (by have := hD.less ok h i hi; omega)
  rwa [getD_at h1, getD_at h2] at this

/-! who reaches whom -/
def reachS (x0 : Int) (out : List Int) (x : Arc) : List Int := if (x.a = x0 ∨ x.a ∈ out) ∧ x.b ∉ out then out ++ [x.b] else out
def reachP (L : List Arc) (x0 : Int) (out : List Int) : List Int := L.foldl (reachS x0) out
def reachN (L : List Arc) (x0 : Int) : Nat → List Int
  | 0 => []
  | k + 1 => reachP L x0 (reachN L x0 k)
def reach (N : Int) (L : List Arc) (x0 : Int) : List Int := reachN L x0 (N.toNat + 1)
def roundD (N : Int) (L : List Arc) : Bool := (upto N.toNat).any fun a => decide (a ∈ reach N L a)
theorem reachP_snoc (L : List Arc) (x : Arc) (x0 : Int) (out : List Int) : reachP (L ++ [x]) x0 out = reachS x0 (reachP L x0 out) x := by unfold reachP; rw [List.foldl_append]; rfl

theorem reachS_len (x0 : Int) (out : List Int) (x : Arc) : out.length ≤ (reachS x0 out x).length ∧ ((reachS x0 out x).length = out.length → reachS x0 out x = out) := by
  unfold reachS
  split
  · simp
  · simp
theorem reachP_len (x0 : Int) (L : List Arc) (out : List Int) : out.length ≤ (reachP L x0 out).length ∧ ((reachP L x0 out).length = out.length → reachP L x0 out = out ∧ ∀ x ∈ L, (x.a = x0 ∨ x.a ∈ out) → x.b ∈ out) := by
  refine snoc_ind (P := fun L => out.length ≤ (reachP L x0 out).length ∧ ((reachP L x0 out).length = out.length → reachP L x0 out = out ∧ ∀ x ∈ L, (x.a = x0 ∨ x.a ∈ out) → x.b ∈ out)) ⟨Nat.le_refl _, fun _ => ⟨rfl, by simp⟩⟩ (fun L x ih => ?_) L
  rw [reachP_snoc]
  have h1 := reachS_len x0 (reachP L x0 out) x
  refine ⟨Nat.le_trans ih.1 h1.1, fun he => ?_⟩
  have hp := ih.2 (by have := h1.1; have := ih.1; omega)
  have hq := h1.2 (by rw [hp.1]; rw [hp.1] at he; exact he)
  rw [hp.1] at hq
  refine ⟨by rw [hp.1]; exact hq, fun y hy hya => ?_⟩
  rcases List.mem_append.1 hy with hy | hy
  · exact hp.2 y hy hya
  · rw [List.mem_singleton] at hy
    subst hy
    apply Classical.byContradiction
    intro hn
    unfold reachS at hq
    rw [if_pos ⟨hya, hn⟩] at hq
    have := congrArg List.length hq
    simp at this
theorem reachP_ok {N : Int} {L : List Arc} (ok : OkD N L) (x0 : Int) : ∀ M : List Arc, (∀ x ∈ M, x ∈ L) → ∀ out : List Int, out.Nodup → (∀ v ∈ out, 0 ≤ v ∧ v < N) → (reachP M x0 out).Nodup ∧ ∀ v ∈ reachP M x0 out, 0 ≤ v ∧ v < N := by
  intro M hM out hn hr
  refine snoc_ind (P := fun M => (∀ x ∈ M, x ∈ L) → (reachP M x0 out).Nodup ∧ ∀ v ∈ reachP M x0 out, 0 ≤ v ∧ v < N) (fun _ => ⟨hn, hr⟩) (fun M x ih hM => ?_) M hM
  obtain ⟨i1, i2⟩ := ih (fun y hy => hM y (by simp [hy]))
  rw [reachP_snoc]
  unfold reachS
  split
  · next hc =>
    refine ⟨List.nodup_append.2 ⟨i1, by simp, fun a ha b hb => ?_⟩, fun v hv => ?_⟩
    · rw [List.mem_singleton] at hb
      subst hb
      exact fun e => hc.2 (e ▸ ha)
    · rcases List.mem_append.1 hv with hv | hv
      · exact i2 v hv
      · rw [List.mem_singleton] at hv
        subst hv
        have := ok.each x (hM x (by simp))
        omega
  · exact ⟨i1, i2⟩
theorem reachN_ok {N : Int} {L : List Arc} (ok : OkD N L) (x0 : Int) (k : Nat) : (reachN L x0 k).Nodup ∧ ∀ v ∈ reachN L x0 k, 0 ≤ v ∧ v < N := by
  induction k with
  | zero => simp [reachN]
  | succ k ih => exact reachP_ok ok x0 L (fun _ h => h) _ ih.1 ih.2
theorem reachN_few {N : Int} {L : List Arc} (ok : OkD N L) (x0 : Int) (k : Nat) : (reachN L x0 k).length ≤ N.toNat := by
  obtain ⟨h1, h2⟩ := reachN_ok ok x0 k
  have := length_le_of_sub (ys := upto N.toNat) h1 (fun x hx => by rw [mem_upto]; have := h2 x hx; omega)
  rwa [upto_length] at this
theorem reach_closed {N : Int} {L : List Arc} (ok : OkD N L) (x0 : Int) : ∀ x ∈ L, (x.a = x0 ∨ x.a ∈ reach N L x0) → x.b ∈ reach N L x0 := by
  -- some pass adds none, and then none does
  have key : ∀ k, (∀ x ∈ L, (x.a = x0 ∨ x.a ∈ reachN L x0 k) → x.b ∈ reachN L x0 k) ∨ k ≤ (reachN L x0 k).length := by
    intro k
    induction k with
    | zero => exact .inr (Nat.zero_le _)
    | succ k ih =>
      have h := reachP_len x0 L (reachN L x0 k)
      by_cases he : (reachP L x0 (reachN L x0 k)).length = (reachN L x0 k).length
      · obtain ⟨h1, h2⟩ := h.2 he
        left
        show ∀ x ∈ L, (x.a = x0 ∨ x.a ∈ reachP L x0 (reachN L x0 k)) → x.b ∈ reachP L x0 (reachN L x0 k)
        rw [h1]
        exact h2
      · rcases ih with ih | ih
        · exfalso
          apply he
          have : reachP L x0 (reachN L x0 k) = reachN L x0 k := by
            have : ∀ M : List Arc, (∀ x ∈ M, x ∈ L) → reachP M x0 (reachN L x0 k) = reachN L x0 k := by
              refine snoc_ind (fun _ => rfl) fun M x ihm hM => ?_
              rw [reachP_snoc, ihm (fun y hy => hM y (by simp [hy]))]
              unfold reachS
              rw [if_neg]
              rintro ⟨a, b⟩
              exact b (ih x (hM x (by simp)) a)
            exact this L (fun _ h => h)
          rw [this]
        · right
          show k + 1 ≤ (reachP L x0 (reachN L x0 k)).length
          have := h.1
          omega
  have := key (N.toNat + 1)
  rcases this with h | h
  · exact h
  · have := reachN_few ok x0 (N.toNat + 1); omega
theorem reach_rank {L : List Arc} {r : Int → Nat} (hr : ∀ x ∈ L, r x.a < r x.b) (x0 : Int) (k : Nat) : ∀ v ∈ reachN L x0 k, r x0 < r v := by
  induction k with
  | zero => simp [reachN]
  | succ k ih =>
    have : ∀ M : List Arc, (∀ x ∈ M, x ∈ L) → ∀ v ∈ reachP M x0 (reachN L x0 k), r x0 < r v := by
      refine snoc_ind (fun _ => ih) fun M x ihm hM => ?_
      have i := ihm (fun y hy => hM y (by simp [hy]))
      rw [reachP_snoc]
      unfold reachS
      split
      · next hc =>
        intro v hv
        rcases List.mem_append.1 hv with hv | hv
        · exact i v hv
        · rw [List.mem_singleton] at hv
          subst hv
          have h1 := hr x (hM x (by simp))
          rcases hc.1 with h | h
          · rw [h] at h1; exact h1
          · have := i _ h; omega
      · exact i
    exact this L (fun _ h => h)
theorem countP_lt {l : List Int} {p q : Int → Bool} (h : ∀ u ∈ l, p u = true → q u = true) {z : Int} (hz : z ∈ l) (hp : p z = false) (hq : q z = true) : l.countP p < l.countP q := by
  induction l with
  | nil => simp at hz
  | cons u l ih =>
    have hle : l.countP p ≤ l.countP q := List.countP_mono_left fun v hv => h v (List.mem_cons_of_mem _ hv)
    rw [List.countP_cons, List.countP_cons]
    rcases List.mem_cons.1 hz with rfl | hz
    · rw [hp, hq]; simp; omega
    · have := ih (fun v hv => h v (List.mem_cons_of_mem _ hv)) hz
      have hu := h u (by simp)
      by_cases e : p u = true
      · rw [e, hu e]; simp; omega
      · rw [if_neg e]; split <;> omega
theorem round_iff {N : Int} {L : List Arc} (ok : OkD N L) : roundD N L = false ↔ Ranked L := by
  constructor
  · intro h
    have hno : ∀ a : Int, 0 ≤ a → a < N → a ∉ reach N L a := fun a h0 h1 hm => by
      have := List.any_eq_false.1 h a (by rw [mem_upto]; omega)
      simp [hm] at this
    refine ⟨fun v => (upto N.toNat).countP fun u => decide (v ∈ reach N L u), fun x hx => ?_⟩
    have hr := ok.each x hx
    refine countP_lt (z := x.a) (fun u hu hp => ?_) (by rw [mem_upto]; omega) (by simpa using hno x.a hr.1 hr.2.1) (by simpa using reach_closed ok x.a x hx (.inl rfl))
    rw [decide_eq_true_eq] at hp ⊢
    exact reach_closed ok u x hx (.inr hp)
  · rintro ⟨r, hr⟩
    refine List.any_eq_false.2 fun a ha => ?_
    rw [decide_eq_true_eq]
    intro hm
    exact Nat.lt_irrefl _ (reach_rank hr a _ a hm)

end Go.Proofs.Ythofgfdhcndpbaa
