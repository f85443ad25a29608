/- Layer 12: what a table's sides, arcs and graph are (mathematics). -/
import Derived.Test.YtdfleocknaackaaGreatMDR4
import Derived.Test.YtdfleocknaackaaGreatDR6
import Derived.Test.YtdfleocknaackaaGreatDR7
import Derived.Test.YtdfleocknaackaaGreatMM
namespace Go.Proofs.YtdfleocknaackaaGreat

theorem find_is {α : Type} {L : List α} {p : α → Bool} {s : α} (hs : s ∈ L) (hp : p s = true) (hu : ∀ x ∈ L, p x = true → x = s) : L.find? p = some s := by
  cases h : L.find? p with
  | none => have := (List.find?_eq_none.1 h) s hs; rw [hp] at this; exact absurd rfl this
  | some x => rw [hu x (List.mem_of_find?_eq_some h) (List.find?_some h)]
theorem sideC_peer (c : List Int) (a b : Int) : (sideC c a b).peer = b := by unfold sideC; split <;> rfl
theorem mem_sidesTo {E : List Edge} {c : List Int} {a : Int} {n : Nat} {x : Sd} : x ∈ sidesTo E c a n ↔ ∃ k : Nat, k < n ∧ btw a k ∈ E ∧ x = sideC c a k := by
  unfold sidesTo
  simp only [List.mem_map, List.mem_filter, List.mem_range, decide_eq_true_eq]
  constructor
  · rintro ⟨y, ⟨⟨k, hk, rfl⟩, h⟩, rfl⟩
    exact ⟨k, hk, h, rfl⟩
  · rintro ⟨k, hk, h, rfl⟩
    exact ⟨k, ⟨⟨k, hk, rfl⟩, h⟩, rfl⟩
/-- a node's side to a peer, in a table -/
theorem side_is {E : List Edge} {c : List Int} {a : Int} {n k : Nat} (hk : k < n) : sideR (sidesTo E c a n) k = if btw a k ∈ E then (sideC c a k, true) else (Sd.zero, false) := by
  unfold sideR
  by_cases h : btw a k ∈ E
  · rw [if_pos h, find_is (s := sideC c a k) (mem_sidesTo.2 ⟨k, hk, h, rfl⟩) (by rw [sideC_peer]; simp) fun x hx hp => ?_]
    obtain ⟨j, hj, _, rfl⟩ := mem_sidesTo.1 hx
    rw [sideC_peer] at hp
    have : (j : Int) = (k : Int) := by simpa using hp
    rw [this]
  · rw [if_neg h]
    have : (sidesTo E c a n).find? (fun s => s.peer == (k : Int)) = none := by
      rw [List.find?_eq_none]
      intro x hx hp
      obtain ⟨j, hj, hb, rfl⟩ := mem_sidesTo.1 hx
      rw [sideC_peer] at hp
      have : (j : Int) = (k : Int) := by simpa using hp
      rw [this] at hb
      exact h hb
    rw [this]

/-- an edge as an arc: from the lesser colour -/
def turnC (c : List Int) (e : Edge) : Arc := if col c e.a < col c e.b then ⟨e.a, e.b⟩ else ⟨e.b, e.a⟩
theorem arc2_table {N : Int} {E : List Edge} {c : List Int} (hne : ∀ a b : Int, btw a b ∈ E → col c a ≠ col c b) {i k : Nat} (hi : i < N.toNat) (hk : k < N.toNat) (hik : i < k) :
    arc2 [] (dinerC N E c i) (dinerC N E c k) = if (⟨i, k⟩ : Edge) ∈ E then [turnC c ⟨i, k⟩] else [] := by
  have hb : btw (i : Int) (k : Int) = ⟨i, k⟩ := by simp only [btw, Edge.mk.injEq]; omega
  have hb2 : btw (k : Int) (i : Int) = ⟨i, k⟩ := by rw [btw_comm]; exact hb
  unfold arc2 dinerC
  dsimp only
  rw [side_is hk, side_is hi, hb, hb2]
  by_cases h : (⟨(i : Int), (k : Int)⟩ : Edge) ∈ E
  · have hn := hne i k (by rw [hb]; exact h)
    rw [if_pos h, if_pos h, if_pos h]
    unfold turnC sideC
    by_cases h1 : col c i < col c k
    · have h2 : ¬ col c k < col c i := by omega
      simp [h1, h2, firstI]
    · have h2 : col c k < col c i := by omega
      simp [h1, h2, firstI]
  · rw [if_neg h, if_neg h, if_neg h]
    rfl

/-- all pairs, in order -/
def prs : List Nat → List Edge
  | [] => []
  | i :: l => l.map (fun k : Nat => (⟨i, k⟩ : Edge)) ++ prs l
theorem mem_prs {x : Edge} : ∀ {l : List Nat}, l.Pairwise (· < ·) → (x ∈ prs l ↔ ∃ i k : Nat, i ∈ l ∧ k ∈ l ∧ i < k ∧ x = ⟨i, k⟩)
  | [], _ => by simp [prs]
  | i :: l, h => by
    have h' := List.pairwise_cons.1 h
    unfold prs
    rw [List.mem_append, mem_prs h'.2, List.mem_map]
    constructor
    · rintro (⟨k, hk, rfl⟩ | ⟨a, b, ha, hb, hab, rfl⟩)
      · exact ⟨i, k, by simp, by simp [hk], h'.1 k hk, rfl⟩
      · exact ⟨a, b, by simp [ha], by simp [hb], hab, rfl⟩
    · rintro ⟨a, b, ha, hb, hab, rfl⟩
      rcases List.mem_cons.1 ha with e1 | ha2
      · rcases List.mem_cons.1 hb with e2 | hb2
        · omega
        · exact .inl ⟨b, hb2, by rw [e1]⟩
      · rcases List.mem_cons.1 hb with e2 | hb2
        · have := h'.1 a ha2; omega
        · exact .inr ⟨a, b, ha2, hb2, hab, rfl⟩
theorem rises_prs : ∀ {l : List Nat}, l.Pairwise (· < ·) → Rises (prs l)
  | [], _ => List.Pairwise.nil
  | i :: l, h => by
    have h' := List.pairwise_cons.1 h
    unfold prs
    refine List.pairwise_append.2 ⟨?_, rises_prs h'.2, fun x hx y hy => ?_⟩
    · rw [List.pairwise_map]
      exact h'.2.imp fun {a b} hab => by simp [ahead, hab]
    · obtain ⟨k, hk, rfl⟩ := List.mem_map.1 hx
      obtain ⟨a, b, ha, _, _, rfl⟩ := (mem_prs h'.2).1 hy
      have := h'.1 a ha
      simp [ahead]
      omega
theorem range_up (n : Nat) : (List.range n).Pairwise (· < ·) := List.pairwise_lt_range
theorem edges_prs {N : Int} {E : List Edge} (ok : OkG N E) : (prs (List.range N.toNat)).filter (fun e => decide (e ∈ E)) = E := by
  refine rises_ext (rises_filter (rises_prs (range_up _)) _) ok.rise fun x => ?_
  rw [List.mem_filter, mem_prs (range_up _), decide_eq_true_eq]
  constructor
  · exact fun h => h.2
  · intro h
    obtain ⟨a, b⟩ := x
    have := ok.each _ h
    dsimp only at this
    exact ⟨⟨a.toNat, b.toNat, List.mem_range.2 (by omega), List.mem_range.2 (by omega), by omega, by simp only [Edge.mk.injEq]; omega⟩, h⟩
theorem flat_if {α β : Type} (p : α → Bool) (f : α → β) : ∀ l : List α, (l.flatMap fun x => if p x = true then [f x] else []) = (l.filter p).map f
  | [] => rfl
  | x :: l => by
    rw [List.flatMap_cons, List.filter_cons, flat_if p f l]
    split <;> simp_all
theorem flat_congr {α β : Type} {f g : α → List β} : ∀ {l : List α}, (∀ x ∈ l, f x = g x) → l.flatMap f = l.flatMap g
  | [], _ => rfl
  | x :: l, h => by rw [List.flatMap_cons, List.flatMap_cons, h x (by simp), flat_congr fun y hy => h y (by simp [hy])]
theorem arcs_prs {N : Int} {E : List Edge} {c : List Int} (hne : ∀ a b : Int, btw a b ∈ E → col c a ≠ col c b) : ∀ l : List Nat, l.Pairwise (· < ·) → (∀ i ∈ l, i < N.toNat) →
    arcsOf [] (l.map (dinerC N E c)) = (prs l).flatMap fun e => if decide (e ∈ E) = true then [turnC c e] else []
  | [], _, _ => rfl
  | i :: l, h, hl => by
    have h' := List.pairwise_cons.1 h
    show (l.map (dinerC N E c)).flatMap (arc2 [] (dinerC N E c i)) ++ arcsOf [] (l.map (dinerC N E c)) = _
    unfold prs
    rw [arcs_prs hne l h'.2 fun j hj => hl j (by simp [hj]), List.flatMap_append, List.flatMap_map, List.flatMap_map]
    congr 1
    refine flat_congr fun k hk => ?_
    rw [arc2_table hne (hl i (by simp)) (hl k (by simp [hk])) (h'.1 k hk)]
    simp
/-- a table's arcs are its edges, each from the lesser colour -/
theorem arcs_table {N : Int} {E : List Edge} {c : List Int} (ok : OkG N E) (hne : ∀ a b : Int, btw a b ∈ E → col c a ≠ col c b) : arcsOf [] (tableL N E c) = E.map (turnC c) := by
  unfold tableL
  rw [arcs_prs hne _ (range_up _) fun i hi => List.mem_range.1 hi, flat_if, edges_prs ok]
theorem right_ne {N : Int} {E : List Edge} {c : List Int} (h : rightB N E c = true) : ∀ a b : Int, btw a b ∈ E → col c a ≠ col c b := fun a b hb e => by
  rw [right_eq] at h
  unfold rightD at h
  simp only [Bool.and_eq_true, List.all_eq_true] at h
  have h1 := h.2 _ hb
  simp only [btw, Bool.not_eq_true', beq_eq_false_iff_ne, ne_eq] at h1
  rcases Int.le_total a b with hab | hab
  · rw [Int.min_eq_left hab, Int.max_eq_right hab] at h1; exact h1 e
  · rw [Int.min_eq_right hab, Int.max_eq_left hab] at h1; exact h1 e.symm

theorem tableL_at {N : Int} {E : List Edge} {c : List Int} {i : Nat} (hi : i < N.toNat) : (tableL N E c).getD i ⟨0, 0, []⟩ = dinerC N E c i := by
  unfold tableL
  rw [List.getD_eq_getElem?_getD, List.getElem?_map, List.getElem?_range hi]
  rfl
theorem tableL_length (N : Int) (E : List Edge) (c : List Int) : (tableL N E c).length = N.toNat := by simp [tableL]
theorem sidesOk_table {N : Int} {E : List Edge} {c : List Int} (ok : OkG N E) {i : Nat} (hi : i < N.toNat) : ∀ (l : List Nat) (last : Int), l.Pairwise (· < ·) → (∀ k ∈ l, last < (k : Int) ∧ k < N.toNat) →
    sidesOk (tableL N E c) i last (((l.map fun k : Nat => (k : Int)).filter fun b => decide (btw i b ∈ E)).map (sideC c i)) = true
  | [], _, _, _ => rfl
  | k :: l, last, h, hl => by
    have h' := List.pairwise_cons.1 h
    have hk := hl k (by simp)
    rw [List.map_cons, List.filter_cons]
    by_cases hb : btw (i : Int) (k : Int) ∈ E
    · rw [if_pos (decide_eq_true hb), List.map_cons]
      show (sideOk _ i last (sideC c i k) && sidesOk _ i (sideC c i k).peer _) = true
      rw [sideC_peer, sidesOk_table ok hi l k h'.2 fun j hj => ⟨by have := h'.1 j hj; omega, (hl j (by simp [hj])).2⟩, Bool.and_true]
      have hin := near_in ok hb
      unfold sideOk
      rw [sideC_peer, tableL_length, Int.toNat_natCast, tableL_at hk.2, decide_eq_true hk.1, decide_eq_true (show (k : Int) < ((N.toNat : Nat) : Int) by omega), decide_eq_true (show (k : Int) ≠ (i : Int) by omega)]
      show (true && (true && (true && (sideR (sidesTo E c k N.toNat) i).2))) = true
      rw [side_is hi, if_pos (btw_swap hb)]
      rfl
    · rw [if_neg (by simp [hb])]
      exact sidesOk_table ok hi l last h'.2 fun j hj => ⟨by have := h'.1 j hj; omega, (hl j (by simp [hj])).2⟩
theorem edgesS_table {E : List Edge} {c : List Int} {i : Nat} (l : List Nat) :
    edgesS i (((l.map fun k : Nat => (k : Int)).filter fun b => decide (btw i b ∈ E)).map (sideC c i)) = ((l.filter fun k => decide (i < k)).map fun k : Nat => (⟨i, k⟩ : Edge)).filter fun e => decide (e ∈ E) := by
  induction l with
  | nil => rfl
  | cons k l ih =>
    unfold edgesS at ih ⊢
    rw [List.map_cons, List.filter_cons, List.filter_cons (x := k)]
    by_cases hik : i < k
    · have hb : btw (i : Int) (k : Int) = ⟨i, k⟩ := by simp only [btw, Edge.mk.injEq]; omega
      rw [hb, decide_eq_true hik]
      by_cases h : (⟨(i : Int), (k : Int)⟩ : Edge) ∈ E
      · rw [if_pos (decide_eq_true h), List.map_cons, List.filter_cons, sideC_peer, if_pos (decide_eq_true (by omega)), List.map_cons, ih]
        simp [h, sideC_peer]
      · rw [if_neg (by simp [h]), ih]
        simp [h]
    · rw [decide_eq_false hik]
      split
      · rw [List.map_cons, List.filter_cons, sideC_peer, if_neg (by simp; omega), ih]; simp
      · rw [ih]; simp
/-- the graph of a table is its graph -/
theorem graph_table {N : Int} {E : List Edge} {c : List Int} (ok : OkG N E) : graphR (tableL N E c) = (N, E, true) := by
  have n0 := ok.n0
  have hn : ((N.toNat : Nat) : Int) = N := by omega
  have h1 : nodesOk (tableL N E c) (tableL N E c).length = true := by
    unfold nodesOk
    rw [List.all_eq_true]
    intro i hi
    rw [tableL_length] at hi
    have hi := List.mem_range.1 hi
    rw [tableL_at hi, Bool.and_eq_true]
    refine ⟨decide_eq_true rfl, ?_⟩
    exact sidesOk_table ok hi (List.range N.toNat) (-1) (range_up _) fun k hk => ⟨by omega, List.mem_range.1 hk⟩
  have h2 : edgesD (tableL N E c) (tableL N E c).length = E := by
    rw [tableL_length]
    refine rises_ext ?_ ok.rise fun x => ?_
    · unfold edgesD Rises
      rw [List.pairwise_flatMap]
      refine ⟨fun i hi => ?_, ?_⟩
      · rw [tableL_at (List.mem_range.1 hi)]
        show (edgesS i (sidesTo E c i N.toNat)).Pairwise _
        unfold sidesTo
        rw [edgesS_table]
        refine List.Pairwise.filter _ ?_
        rw [List.pairwise_map]
        exact (List.Pairwise.filter _ (range_up _)).imp fun {a b} hab => by simp [ahead, hab]
      · refine (range_up N.toNat).imp_of_mem fun {a b} ha hb hab x hx y hy => ?_
        rw [tableL_at (List.mem_range.1 ha)] at hx
        rw [tableL_at (List.mem_range.1 hb)] at hy
        unfold edgesS at hx hy
        obtain ⟨s, _, rfl⟩ := List.mem_map.1 hx
        obtain ⟨t, _, rfl⟩ := List.mem_map.1 hy
        simp [ahead]
        omega
    · unfold edgesD
      rw [List.mem_flatMap]
      constructor
      · rintro ⟨i, hi, hx⟩
        rw [tableL_at (List.mem_range.1 hi)] at hx
        have hx : x ∈ edgesS i (sidesTo E c i N.toNat) := hx
        unfold sidesTo at hx
        rw [edgesS_table] at hx
        simpa using (List.mem_filter.1 hx).2
      · intro hx
        obtain ⟨a, b⟩ := x
        have hb := ok.each _ hx
        dsimp only at hb
        refine ⟨a.toNat, List.mem_range.2 (by omega), ?_⟩
        rw [tableL_at (by omega)]
        show _ ∈ edgesS a.toNat (sidesTo E c a.toNat N.toNat)
        unfold sidesTo
        rw [edgesS_table, List.mem_filter]
        exact ⟨List.mem_map.2 ⟨b.toNat, List.mem_filter.2 ⟨List.mem_range.2 (by omega), by simp; omega⟩, by simp only [Edge.mk.injEq]; omega⟩, by simpa using hx⟩
  unfold graphR graphB
  rw [h1, h2, tableL_length, hn, okG_iff.2 ok]
  rfl

/-- only the order of colours counts -/
theorem col_map3 (c : List Int) (a : Int) : col (c.map fun x => 3 * x) a = 3 * col c a := by
  unfold col
  rw [List.getD_eq_getElem?_getD, List.getD_eq_getElem?_getD, List.getElem?_map]
  cases c[a.toNat]? <;> simp
theorem table3 (N : Int) (E : List Edge) (c : List Int) : tableL N E (c.map fun x => 3 * x) = tableL N E c := by
  have h : ∀ a b, sideC (c.map fun x => 3 * x) a b = sideC c a b := fun a b => by
    unfold sideC
    rw [col_map3, col_map3]
    by_cases h : col c a < col c b
    · rw [if_pos h, if_pos (by omega)]
    · rw [if_neg h, if_neg (by omega)]
  unfold tableL dinerC sidesTo
  simp only [show sideC (c.map fun x => 3 * x) = sideC c from funext fun a => funext fun b => h a b]
theorem right3 (N : Int) (E : List Edge) (c : List Int) : rightB N E (c.map fun x => 3 * x) = rightB N E c := by
  rw [Bool.eq_iff_iff]
  unfold rightB takenB
  simp only [List.length_map, col_map3, Bool.and_eq_true, List.all_eq_true, decide_eq_true_eq, Bool.not_eq_true', List.any_eq_false, beq_iff_eq]
  constructor
  · rintro ⟨h1, h2⟩
    exact ⟨h1, fun i hi => ⟨by have := (h2 i hi).1; omega, fun x hx e => (h2 i hi).2 x hx (by rw [e])⟩⟩
  · rintro ⟨h1, h2⟩
    exact ⟨h1, fun i hi => ⟨by have := (h2 i hi).1; omega, fun x hx e => (h2 i hi).2 x hx (by omega)⟩⟩

end Go.Proofs.YtdfleocknaackaaGreat

/- Layer 12: by a table the arcs don't lead round, and no depth is as great as the greatest colour (mathematics, by layers 4 and 11). -/
namespace Go.Proofs.YtdfleocknaackaaGreat

theorem turn_ends (c : List Int) (e : Edge) : ((turnC c e).a = e.a ∧ (turnC c e).b = e.b) ∨ ((turnC c e).a = e.b ∧ (turnC c e).b = e.a) := by
  unfold turnC
  split
  · exact .inl ⟨rfl, rfl⟩
  · exact .inr ⟨rfl, rfl⟩
theorem turn_up {N : Int} {E : List Edge} {c : List Int} (ok : OkG N E) (hne : ∀ a b : Int, btw a b ∈ E → col c a ≠ col c b) {e : Edge} (he : e ∈ E) : col c (turnC c e).a < col c (turnC c e).b := by
  have hb := ok.each e he
  have hn := hne e.a e.b (by rw [show btw e.a e.b = e by obtain ⟨p, q⟩ := e; simp only [btw, Edge.mk.injEq] at *; omega]; exact he)
  unfold turnC
  split
  · assumption
  · show col c e.b < col c e.a
    omega
theorem turn_ok {N : Int} {E : List Edge} {c : List Int} (ok : OkG N E) : OkD N (E.map (turnC c)) := by
  refine ⟨ok.n0, ok.n64, by rw [List.length_map]; exact ok.few, fun x hx => ?_, ?_⟩
  · obtain ⟨e, he, rfl⟩ := List.mem_map.1 hx
    have := ok.each e he
    rcases turn_ends c e with ⟨h1, h2⟩ | ⟨h1, h2⟩ <;> rw [h1, h2] <;> omega
  · unfold List.Nodup
    rw [List.pairwise_map]
    refine (ok.rise.imp_of_mem fun {x y} hx hy hxy => ?_)
    intro e
    have hX := ok.each x hx
    have hY := ok.each y hy
    have e1 : (turnC c x).a = (turnC c y).a := by rw [e]
    have e2 : (turnC c x).b = (turnC c y).b := by rw [e]
    have : x = y := by
      obtain ⟨p, q⟩ := x
      obtain ⟨r, s⟩ := y
      rcases turn_ends c ⟨p, q⟩ with ⟨h1, h2⟩ | ⟨h1, h2⟩ <;> rcases turn_ends c ⟨r, s⟩ with ⟨h3, h4⟩ | ⟨h3, h4⟩ <;> rw [h1, h3] at e1 <;> rw [h2, h4] at e2 <;> simp only [Edge.mk.injEq] <;> dsimp only at hX hY e1 e2 <;> omega
    rw [this, ahead_irr] at hxy
    cases hxy
theorem turn_ranked {N : Int} {E : List Edge} {c : List Int} (ok : OkG N E) (hne : ∀ a b : Int, btw a b ∈ E → col c a ≠ col c b) (h0 : ∀ a : Int, 0 ≤ a → a < N → 0 ≤ col c a) : Ranked (E.map (turnC c)) := by
  refine ⟨fun v => (col c v).toNat, fun x hx => ?_⟩
  obtain ⟨e, he, rfl⟩ := List.mem_map.1 hx
  have h1 := turn_up ok hne he
  have hb := ok.each e he
  have h2 : 0 ≤ col c (turnC c e).a := by
    rcases turn_ends c e with ⟨h, _⟩ | ⟨h, _⟩ <;> rw [h]
    · exact h0 _ (by omega) (by omega)
    · exact h0 _ (by omega) (by omega)
  show (col c (turnC c e).a).toNat < (col c (turnC c e).b).toNat
  omega
/-- a node's depth is less than its colour -/
theorem turn_deep {N : Int} {E : List Edge} {c d : List Int} (ok : OkG N E) (hne : ∀ a b : Int, btw a b ∈ E → col c a ≠ col c b) (h1 : ∀ a : Int, 0 ≤ a → a < N → 1 ≤ col c a) (hd : IsDepth N.toNat (E.map (turnC c)) d) :
    ∀ v : Nat, v < N.toNat → d.getD v 0 < col c v := by
  have key : ∀ (k : Nat) (v : Nat), v < N.toNat → col c v ≤ k → d.getD v 0 < col c v := by
    intro k
    induction k with
    | zero => intro v hv hc; have := h1 v (by omega) (by omega); omega
    | succ k ih =>
      intro v hv hc
      have hm := hd.at_ v hv
      have hv1 := h1 v (by omega) (by omega)
      rcases hm.is with h | ⟨x, hx, hxb, h⟩
      · omega
      · obtain ⟨e, he, rfl⟩ := List.mem_map.1 hx
        have hu := turn_up ok hne he
        have hb := ok.each e he
        have ha : 0 ≤ (turnC c e).a ∧ (turnC c e).a < N := by
          rcases turn_ends c e with ⟨h, _⟩ | ⟨h, _⟩ <;> rw [h] <;> omega
        rw [hxb] at hu
        have hcast : (((turnC c e).a.toNat : Nat) : Int) = (turnC c e).a := by omega
        have := ih (turnC c e).a.toNat (by omega) (by rw [hcast]; omega)
        rw [hcast] at this
        omega
  exact fun v hv => key (col c v).toNat v hv (by omega)
theorem le_most {c : List Int} : ∀ (i : Nat), i < c.length → c.getD i 0 ≤ mostL c := by
  have key : ∀ k, k ≤ c.length → ∀ i, i < k → c.getD i 0 ≤ mostL (c.take k) := by
    intro k
    induction k with
    | zero => intro _ i hi; omega
    | succ k ih =>
      intro hk i hi
      rw [mostL_next (by omega)]
      by_cases e : i = k
      · subst e; omega
      · have := ih (by omega) i (by omega); omega
  intro i hi
  have := key c.length (Nat.le_refl _) i hi
  rwa [List.take_length] at this

end Go.Proofs.YtdfleocknaackaaGreat
