/- Texts of this seat. -/
import Derived.Test.YtfbambemjokmgaaGreatNAJ
import Derived.Test.YtfbambemjokmgaaGreatNAN
namespace Go.Proofs.YtfbambemjokmgaaGreat
theorem find_is {α : Type} {L : List α} {p : α → Bool} {s : α} (hs : s ∈ L) (hp : p s = true) (hu : ∀ x ∈ L, p x = true → x = s) : L.find? p = some s := by
  cases h : L.find? p with
  | none => have := (List.find?_eq_none.1 h) s hs; rw [hp] at this; exact absurd rfl this
  | some x => rw [hu x (List.mem_of_find?_eq_some h) (List.find?_some h)]
theorem sideC_peer (c : List Int) (a b : Int) : (sideC c a b).peer = b := by unfold sideC; split <;> rfl
theorem mem_sidesTo {E : List Edge} {c : List Int} {a : Int} {n : Nat} {x : Sd} : x ∈ sidesTo E c a n ↔ ∃ k : Nat, k < n ∧ btw a k ∈ E ∧ x = sideC c a k := by
  unfold sidesTo
  simp only [List.mem_map, List.mem_filter, List.mem_range, decide_eq_true_eq]
  constructor
  · rintro ⟨y, ⟨⟨k, hk, rfl⟩, h⟩, rfl⟩
    exact ⟨k, hk, h, rfl⟩
  · rintro ⟨k, hk, h, rfl⟩
    exact ⟨k, ⟨⟨k, hk, rfl⟩, h⟩, rfl⟩
theorem side_is {E : List Edge} {c : List Int} {a : Int} {n k : Nat} (hk : k < n) : sideR (sidesTo E c a n) k = if btw a k ∈ E then (sideC c a k, true) else (Sd.zero, false) := by
  unfold sideR
  by_cases h : btw a k ∈ E
  · rw [if_pos h, find_is (s := sideC c a k) (mem_sidesTo.2 ⟨k, hk, h, rfl⟩) (by rw [sideC_peer]; simp) fun x hx hp => ?_]
    obtain ⟨j, hj, _, rfl⟩ := mem_sidesTo.1 hx
    rw [sideC_peer] at hp
    have : (j : Int) = (k : Int) := by simpa using hp
    rw [this]
  · rw [if_neg h]
    have : (sidesTo E c a n).find? (fun s => s.peer == (k : Int)) = none := by
      rw [List.find?_eq_none]
      intro x hx hp
      obtain ⟨j, hj, hb, rfl⟩ := mem_sidesTo.1 hx
      rw [sideC_peer] at hp
      have : (j : Int) = (k : Int) := by simpa using hp
      rw [this] at hb
      exact h hb
    rw [this]
def prs : List Nat → List Edge
  | [] => []
  | i :: l => l.map (fun k : Nat => (⟨i, k⟩ : Edge)) ++ prs l
theorem mem_prs {x : Edge} : ∀ {l : List Nat}, l.Pairwise (· < ·) → (x ∈ prs l ↔ ∃ i k : Nat, i ∈ l ∧ k ∈ l ∧ i < k ∧ x = ⟨i, k⟩)
  | [], _ => by simp [prs]
  | i :: l, h => by
    have h' := List.pairwise_cons.1 h
    unfold prs
    rw [List.mem_append, mem_prs h'.2, List.mem_map]
    constructor
    · rintro (⟨k, hk, rfl⟩ | ⟨a, b, ha, hb, hab, rfl⟩)
      · exact ⟨i, k, by simp, by simp [hk], h'.1 k hk, rfl⟩
      · exact ⟨a, b, by simp [ha], by simp [hb], hab, rfl⟩
    · rintro ⟨a, b, ha, hb, hab, rfl⟩
      rcases List.mem_cons.1 ha with e1 | ha2
      · rcases List.mem_cons.1 hb with e2 | hb2
        · omega
        · exact .inl ⟨b, hb2, by rw [e1]⟩
      · rcases List.mem_cons.1 hb with e2 | hb2
        · have := h'.1 a ha2; omega
        · exact .inr ⟨a, b, ha2, hb2, hab, rfl⟩
theorem rises_prs : ∀ {l : List Nat}, l.Pairwise (· < ·) → Rises (prs l)
  | [], _ => List.Pairwise.nil
  | i :: l, h => by
    have h' := List.pairwise_cons.1 h
    unfold prs
    refine List.pairwise_append.2 ⟨?_, rises_prs h'.2, fun x hx y hy => ?_⟩
    · rw [List.pairwise_map]
      exact h'.2.imp fun {a b} hab => by simp [ahead, hab]
    · obtain ⟨k, hk, rfl⟩ := List.mem_map.1 hx
      obtain ⟨a, b, ha, _, _, rfl⟩ := (mem_prs h'.2).1 hy
      have := h'.1 a ha
      simp [ahead]
      omega
theorem range_up (n : Nat) : (List.range n).Pairwise (· < ·) := List.pairwise_lt_range
theorem edges_prs {N : Int} {E : List Edge} (ok : OkG N E) : (prs (List.range N.toNat)).filter (fun e => decide (e ∈ E)) = E := by
  refine rises_ext (rises_filter (rises_prs (range_up _)) _) ok.rise fun x => ?_
  rw [List.mem_filter, mem_prs (range_up _), decide_eq_true_eq]
  constructor
  · exact fun h => h.2
  · intro h
    obtain ⟨a, b⟩ := x
    have := ok.each _ h
    dsimp only at this
    exact ⟨⟨a.toNat, b.toNat, List.mem_range.2 (by omega), List.mem_range.2 (by omega), by omega, by simp only [Edge.mk.injEq]; omega⟩, h⟩
theorem flat_if {α β : Type} (p : α → Bool) (f : α → β) : ∀ l : List α, (l.flatMap fun x => if p x = true then [f x] else []) = (l.filter p).map f
  | [] => rfl
  | x :: l => by
    rw [List.flatMap_cons, List.filter_cons, flat_if p f l]
    split <;> simp_all
theorem flat_congr {α β : Type} {f g : α → List β} : ∀ {l : List α}, (∀ x ∈ l, f x = g x) → l.flatMap f = l.flatMap g
  | [], _ => rfl
  | x :: l, h => by rw [List.flatMap_cons, List.flatMap_cons, h x (by simp), flat_congr fun y hy => h y (by simp [hy])]
theorem right_ne {N : Int} {E : List Edge} {c : List Int} (h : rightB N E c = true) : ∀ a b : Int, btw a b ∈ E → col c a ≠ col c b := fun a b hb e => by
  rw [right_eq] at h
  unfold rightD at h
  simp only [Bool.and_eq_true, List.all_eq_true] at h
  have h1 := h.2 _ hb
  simp only [btw, Bool.not_eq_true', beq_eq_false_iff_ne, ne_eq] at h1
  rcases Int.le_total a b with hab | hab
  · rw [Int.min_eq_left hab, Int.max_eq_right hab] at h1; exact h1 e
  · rw [Int.min_eq_right hab, Int.max_eq_left hab] at h1; exact h1 e.symm
theorem tableL_at {N : Int} {E : List Edge} {c : List Int} {i : Nat} (hi : i < N.toNat) : (tableL N E c).getD i ⟨0, 0, []⟩ = dinerC N E c i := by
  unfold tableL
  rw [List.getD_eq_getElem?_getD, List.getElem?_map, List.getElem?_range hi]
  rfl
theorem tableL_length (N : Int) (E : List Edge) (c : List Int) : (tableL N E c).length = N.toNat := by simp [tableL]
theorem sidesOk_table {N : Int} {E : List Edge} {c : List Int} (ok : OkG N E) {i : Nat} (hi : i < N.toNat) : ∀ (l : List Nat) (last : Int), l.Pairwise (· < ·) → (∀ k ∈ l, last < (k : Int) ∧ k < N.toNat) →
    sidesOk (tableL N E c) i last (((l.map fun k : Nat => (k : Int)).filter fun b => decide (btw i b ∈ E)).map (sideC c i)) = true
  | [], _, _, _ => rfl
  | k :: l, last, h, hl => by
    have h' := List.pairwise_cons.1 h
    have hk := hl k (by simp)
    rw [List.map_cons, List.filter_cons]
    by_cases hb : btw (i : Int) (k : Int) ∈ E
    · rw [if_pos (decide_eq_true hb), List.map_cons]
      show (sideOk _ i last (sideC c i k) && sidesOk _ i (sideC c i k).peer _) = true
      rw [sideC_peer, sidesOk_table ok hi l k h'.2 fun j hj => ⟨by have := h'.1 j hj; omega, (hl j (by simp [hj])).2⟩, Bool.and_true]
      have hin := near_in ok hb
      unfold sideOk
      rw [sideC_peer, tableL_length, Int.toNat_natCast, tableL_at hk.2, decide_eq_true hk.1, decide_eq_true (show (k : Int) < ((N.toNat : Nat) : Int) by omega), decide_eq_true (show (k : Int) ≠ (i : Int) by omega)]
      show (true && (true && (true && (sideR (sidesTo E c k N.toNat) i).2))) = true
      rw [side_is hi, if_pos (btw_swap hb)]
      rfl
    · rw [if_neg (by simp [hb])]
      exact sidesOk_table ok hi l last h'.2 fun j hj => ⟨by have := h'.1 j hj; omega, (hl j (by simp [hj])).2⟩
theorem edgesS_table {E : List Edge} {c : List Int} {i : Nat} (l : List Nat) :
    edgesS i (((l.map fun k : Nat => (k : Int)).filter fun b => decide (btw i b ∈ E)).map (sideC c i)) = ((l.filter fun k => decide (i < k)).map fun k : Nat => (⟨i, k⟩ : Edge)).filter fun e => decide (e ∈ E) := by
  induction l with
  | nil => rfl
  | cons k l ih =>
    unfold edgesS at ih ⊢
    rw [List.map_cons, List.filter_cons, List.filter_cons (x := k)]
    by_cases hik : i < k
    · have hb : btw (i : Int) (k : Int) = ⟨i, k⟩ := by simp only [btw, Edge.mk.injEq]; omega
      rw [hb, decide_eq_true hik]
      by_cases h : (⟨(i : Int), (k : Int)⟩ : Edge) ∈ E
      · rw [if_pos (decide_eq_true h), List.map_cons, List.filter_cons, sideC_peer, if_pos (decide_eq_true (by omega)), List.map_cons, ih]
        simp [h, sideC_peer]
      · rw [if_neg (by simp [h]), ih]
        simp [h]
    · rw [decide_eq_false hik]
      split
      · rw [List.map_cons, List.filter_cons, sideC_peer, if_neg (by simp; omega), ih]; simp
      · rw [ih]; simp
theorem graph_table {N : Int} {E : List Edge} {c : List Int} (ok : OkG N E) : graphR (tableL N E c) = (N, E, true) := by
  have n0 := ok.n0
  have hn : ((N.toNat : Nat) : Int) = N := by omega
  have h1 : nodesOk (tableL N E c) (tableL N E c).length = true := by
    unfold nodesOk
    rw [List.all_eq_true]
    intro i hi
    rw [tableL_length] at hi
    have hi := List.mem_range.1 hi
    rw [tableL_at hi, Bool.and_eq_true]
    refine ⟨decide_eq_true rfl, ?_⟩
    exact sidesOk_table ok hi (List.range N.toNat) (-1) (range_up _) fun k hk => ⟨by omega, List.mem_range.1 hk⟩
  have h2 : edgesD (tableL N E c) (tableL N E c).length = E := by
    rw [tableL_length]
    refine rises_ext ?_ ok.rise fun x => ?_
    · unfold edgesD Rises
      rw [List.pairwise_flatMap]
      refine ⟨fun i hi => ?_, ?_⟩
      · rw [tableL_at (List.mem_range.1 hi)]
        show (edgesS i (sidesTo E c i N.toNat)).Pairwise _
        unfold sidesTo
        rw [edgesS_table]
        refine List.Pairwise.filter _ ?_
        rw [List.pairwise_map]
        exact (List.Pairwise.filter _ (range_up _)).imp fun {a b} hab => by simp [ahead, hab]
      · refine (range_up N.toNat).imp_of_mem fun {a b} ha hb hab x hx y hy => ?_
        rw [tableL_at (List.mem_range.1 ha)] at hx
        rw [tableL_at (List.mem_range.1 hb)] at hy
        unfold edgesS at hx hy
        obtain ⟨s, _, rfl⟩ := List.mem_map.1 hx
        obtain ⟨t, _, rfl⟩ := List.mem_map.1 hy
        simp [ahead]
        omega
    · unfold edgesD
      rw [List.mem_flatMap]
      constructor
      · rintro ⟨i, hi, hx⟩
        rw [tableL_at (List.mem_range.1 hi)] at hx
        have hx : x ∈ edgesS i (sidesTo E c i N.toNat) := hx
        unfold sidesTo at hx
        rw [edgesS_table] at hx
        simpa using (List.mem_filter.1 hx).2
      · intro hx
        obtain ⟨a, b⟩ := x
        have hb := ok.each _ hx
        dsimp only at hb
        refine ⟨a.toNat, List.mem_range.2 (by omega), ?_⟩
        rw [tableL_at (by omega)]
        show _ ∈ edgesS a.toNat (sidesTo E c a.toNat N.toNat)
        unfold sidesTo
        rw [edgesS_table, List.mem_filter]
        exact ⟨List.mem_map.2 ⟨b.toNat, List.mem_filter.2 ⟨List.mem_range.2 (by omega), by simp; omega⟩, by simp only [Edge.mk.injEq]; omega⟩, by simpa using hx⟩
  unfold graphR graphB
  rw [h1, h2, tableL_length, hn, okG_iff.2 ok]
  rfl
end Go.Proofs.YtfbambemjokmgaaGreat
namespace Go.Proofs.YtfbambemjokmgaaGreat
def nbE (N : Int) (E : List Edge) (i : Nat) : List Nat := (List.range N.toNat).filter fun k => decide (btw i k ∈ E)
theorem mem_nbE {N : Int} {E : List Edge} {i k : Nat} : k ∈ nbE N E i ↔ k < N.toNat ∧ btw i k ∈ E := by
  unfold nbE
  rw [List.mem_filter, List.mem_range, decide_eq_true_eq]
theorem NB.ofE {N : Int} {E : List Edge} (ok : OkG N E) : NB N.toNat (nbE N E) :=
  NB.of (q := fun i k => decide (btw i k ∈ E)) (fun i k => by rw [btw_comm]) fun i => decide_eq_false fun h => (near_in ok h).2.2.2.2 rfl
theorem table_is (N : Int) (E : List Edge) (c : List Int) : tableL N E c = dsOf N.toNat (nbE N E) (sideN fun a => col c a) fun _ => 0 := by
  unfold tableL dsOf
  refine List.map_congr_left fun i _ => ?_
  unfold dinerC sidesTo nbE
  rw [List.filter_map, List.map_map]
  rfl
def pq (L : List Dn) : List (Int × List Int) := L.map fun d => (d.id, d.sides.map fun s => s.peer)
theorem pq_at {L L' : List Dn} (h : pq L = pq L') (i : Nat) : (L.getD i ⟨0, 0, []⟩).id = (L'.getD i ⟨0, 0, []⟩).id ∧ (L.getD i ⟨0, 0, []⟩).sides.map (fun s => s.peer) = (L'.getD i ⟨0, 0, []⟩).sides.map fun s => s.peer := by
  have h1 : (pq L)[i]? = (pq L')[i]? := by rw [h]
  unfold pq at h1
  rw [List.getElem?_map, List.getElem?_map] at h1
  rw [List.getD_eq_getElem?_getD, List.getD_eq_getElem?_getD]
  cases e1 : L[i]? <;> cases e2 : L'[i]? <;> rw [e1, e2] at h1
  · exact ⟨rfl, rfl⟩
  · cases h1
  · cases h1
  · simpa using h1
theorem sideR_peers {p : Int} : ∀ {l l' : List Sd}, l.map (fun s => s.peer) = l'.map (fun s => s.peer) → (sideR l p).2 = (sideR l' p).2
  | [], [], _ => rfl
  | [], _ :: _, h => by cases h
  | _ :: _, [], h => by cases h
  | s :: l, s' :: l', h => by
    rw [List.map_cons, List.map_cons, List.cons.injEq] at h
    have ih := sideR_peers (p := p) h.2
    unfold sideR at ih ⊢
    rw [List.find?_cons, List.find?_cons, h.1]
    cases s'.peer == p
    · exact ih
    · rfl
theorem edgesS_peers {i : Nat} : ∀ {l l' : List Sd}, l.map (fun s => s.peer) = l'.map (fun s => s.peer) → edgesS i l = edgesS i l'
  | [], [], _ => rfl
  | [], _ :: _, h => by cases h
  | _ :: _, [], h => by cases h
  | s :: l, s' :: l', h => by
    rw [List.map_cons, List.map_cons, List.cons.injEq] at h
    have ih := edgesS_peers (i := i) h.2
    unfold edgesS at ih ⊢
    rw [List.filter_cons, List.filter_cons, h.1]
    split
    · rw [List.map_cons, List.map_cons, ih, h.1]
    · exact ih
theorem sidesOk_peers {L L' : List Dn} (hL : pq L = pq L') {i : Nat} : ∀ {l l' : List Sd} {last : Int}, l.map (fun s => s.peer) = l'.map (fun s => s.peer) → sidesOk L i last l = sidesOk L' i last l'
  | [], [], _, _ => rfl
  | [], _ :: _, _, h => by cases h
  | _ :: _, [], _, h => by cases h
  | s :: l, s' :: l', last, h => by
    rw [List.map_cons, List.map_cons, List.cons.injEq] at h
    show (sideOk L i last s && sidesOk L i s.peer l) = (sideOk L' i last s' && sidesOk L' i s'.peer l')
    have hlen : L.length = L'.length := by have := congrArg List.length hL; unfold pq at this; rwa [List.length_map, List.length_map] at this
    have h1 : sideOk L i last s = sideOk L' i last s' := by
      unfold sideOk
      rw [h.1, hlen, sideR_peers (pq_at hL s'.peer.toNat).2]
    rw [h1, h.1, sidesOk_peers hL h.2]
theorem graph_peers {L L' : List Dn} (h : pq L = pq L') : graphR L = graphR L' := by
  have hlen : L.length = L'.length := by have := congrArg List.length h; unfold pq at this; rwa [List.length_map, List.length_map] at this
  have h1 : nodesOk L L.length = nodesOk L' L'.length := by
    unfold nodesOk
    rw [hlen]
    congr 1
    funext i
    rw [(pq_at h i).1, sidesOk_peers h (pq_at h i).2]
  have h2 : edgesD L L.length = edgesD L' L'.length := by
    unfold edgesD
    rw [hlen]
    congr 1
    funext i
    exact edgesS_peers (pq_at h i).2
  unfold graphR graphB
  rw [h1, h2, hlen]
section
variable {N : Int} {E : List Edge} {ep : Int} {X : Nat → Nat → Sd} {P : Nat → Int} {ms : List Ml}
theorem graph_scene (ok : OkG N E) (hp : ∀ i k, i < N.toNat → k ∈ nbE N E i → (X i k).peer = k) : graphR (dsOf N.toNat (nbE N E) X P) = (N, E, true) := by
  rw [← graph_table (c := []) ok, table_is]
  refine graph_peers ?_
  unfold pq dsOf
  rw [List.map_map, List.map_map]
  refine List.map_congr_left fun i hi => ?_
  have hi := List.mem_range.1 hi
  simp only [Function.comp, List.map_map, Prod.mk.injEq, true_and]
  refine List.map_congr_left fun k hk => ?_
  simp only [Function.comp]
  rw [hp i k hi hk]
  unfold sideN
  split <;> rfl
theorem firstI_ahd : ∀ (xf xd yf yd tf to_ : Bool), (xf && yf) = false → ((yf && !yd) || (xf && xd) || (!yf && !xf && to_)) = !((xf && !xd) || (yf && yd) || (!xf && !yf && tf)) →
    firstI xf xd yf yd tf to_ = if ((xf && !xd) || (yf && yd) || (!xf && !yf && tf)) = true then 1 else 2 := by decide
theorem goes_chan {a b : Int} (h1 : ∀ m ∈ chan ms a b, m.epoch = ep) (h2 : ∀ m ∈ chan ms a b, m.num = 0) : goesB ms a b ep = (chan ms a b).any fun m => m.kind == 1 := by
  unfold goesB
  rw [Bool.eq_iff_iff, List.any_eq_true, List.any_eq_true]
  constructor
  · rintro ⟨m, hm, h⟩
    unfold hitM at h
    simp only [Bool.and_eq_true] at h
    exact ⟨m, List.mem_filter.2 ⟨hm, by rw [Bool.and_eq_true]; exact h.1.1.1⟩, h.1.1.2⟩
  · rintro ⟨m, hm, h⟩
    have e1 := h1 m hm
    have e2 := h2 m hm
    obtain ⟨hm, hab⟩ := List.mem_filter.1 hm
    refine ⟨m, hm, ?_⟩
    unfold hitM
    rw [hab, h, e1, e2]
    simp
theorem sideR_no {n : Nat} {nb : Nat → List Nat} (hpr : ∀ i k, i < n → k ∈ nb i → (X i k).peer = k) {i k : Nat} (hi : i < n) (hk : k ∉ nb i) : sideR ((nb i).map (X i)) k = (Sd.zero, false) := by
  have : ((nb i).map (X i)).find? (fun s => s.peer == (k : Int)) = none := by
    rw [List.find?_eq_none]
    intro s hs
    obtain ⟨j, hj, rfl⟩ := List.mem_map.1 hs
    rw [hpr i j hi hj]
    simp only [beq_iff_eq]
    intro e
    have : j = k := by omega
    exact hk (this ▸ hj)
  unfold sideR
  rw [this]
def turnX (X : Nat → Nat → Sd) (ms : List Ml) (e : Edge) : Arc := if ah X ms e.a.toNat e.b.toNat = true then ⟨e.a, e.b⟩ else ⟨e.b, e.a⟩
theorem turnX_ends (X : Nat → Nat → Sd) (ms : List Ml) (e : Edge) : ((turnX X ms e).a = e.a ∧ (turnX X ms e).b = e.b) ∨ ((turnX X ms e).a = e.b ∧ (turnX X ms e).b = e.a) := by
  unfold turnX
  split
  · exact .inl ⟨rfl, rfl⟩
  · exact .inr ⟨rfl, rfl⟩
theorem turnX_ok (ok : OkG N E) (X : Nat → Nat → Sd) (ms : List Ml) : OkD N (E.map (turnX X ms)) := by
  refine ⟨ok.n0, ok.n64, by rw [List.length_map]; exact ok.few, fun x hx => ?_, ?_⟩
  · obtain ⟨e, he, rfl⟩ := List.mem_map.1 hx
    have := ok.each e he
    rcases turnX_ends X ms e with ⟨h1, h2⟩ | ⟨h1, h2⟩ <;> rw [h1, h2] <;> omega
  · unfold List.Nodup
    rw [List.pairwise_map]
    refine (ok.rise.imp_of_mem fun {x y} hx hy hxy => ?_)
    intro e
    have hX := ok.each x hx
    have hY := ok.each y hy
    have e1 : (turnX X ms x).a = (turnX X ms y).a := by rw [e]
    have e2 : (turnX X ms x).b = (turnX X ms y).b := by rw [e]
    have : x = y := by
      obtain ⟨p, q⟩ := x
      obtain ⟨r, s⟩ := y
      rcases turnX_ends X ms ⟨p, q⟩ with ⟨h1, h2⟩ | ⟨h1, h2⟩ <;> rcases turnX_ends X ms ⟨r, s⟩ with ⟨h3, h4⟩ | ⟨h3, h4⟩ <;> rw [h1, h3] at e1 <;> rw [h2, h4] at e2 <;> simp only [Edge.mk.injEq] <;> dsimp only at hX hY e1 e2 <;> omega
    rw [this, ahead_irr] at hxy
    cases hxy
end
end Go.Proofs.YtfbambemjokmgaaGreat
namespace Go.Proofs.YtfbambemjokmgaaGreat
def nodeB (ds : List Dn) (a : Int) : Bool := decide (0 ≤ a) && decide (a < ds.length)
def chkT (ds : List Dn) (ms : List Ml) : Bool := graphB ds && ds.all dnOk && ms.all fun m => nodeB ds m.from_ && nodeB ds m.to_ && !decide (m.from_ = m.to_)
def GoodE (N : Int) (E : List Edge) (ds : List Dn) (ms : List Ml) : Prop := Good N.toNat (nbE N E) 1 ds ms
section
variable {N : Int} {E : List Edge} {ds : List Dn} {ms : List Ml}
theorem right_pos {c : List Int} (h : rightB N E c = true) {i : Nat} (hi : i < N.toNat) : 0 ≤ col c i := by
  unfold rightB at h
  simp only [Bool.and_eq_true, List.all_eq_true, decide_eq_true_eq, List.mem_range] at h
  have := (h.2 i (by omega)).1
  omega
theorem right_okG {c : List Int} (h : rightB N E c = true) : OkG N E := by
  unfold rightB at h
  simp only [Bool.and_eq_true] at h
  exact okG_iff.1 h.1.1
theorem GoodE.new {c : List Int} (h : rightB N E c = true) : GoodE N E (tableL N E c) [] := by
  have hc : ∀ i k : Nat, i < N.toNat → k ∈ nbE N E i → col c i ≠ col c k := fun i k _ hk => right_ne h _ _ (mem_nbE.1 hk).2
  exact ⟨_, _, table_is N E c, TB.first hc, NoRound.first (NB.ofE (right_okG h)) (fun i hi => right_pos h hi) hc⟩
theorem GoodE.graph (ok : OkG N E) (h : GoodE N E ds ms) : graphR ds = (N, E, true) := by
  obtain ⟨X, P, rfl, hb, hr⟩ := h
  exact graph_scene ok fun i k hi hk => (hb.pr i k hi hk).1
theorem GoodE.len (h : GoodE N E ds ms) : ds.length = N.toNat := by
  obtain ⟨X, P, rfl, hb, hr⟩ := h
  exact dsOf_len
theorem GoodE.chk (ok : OkG N E) (h : GoodE N E ds ms) : chkT ds ms = true := by
  have hg := h.graph ok
  have hlen := h.len
  obtain ⟨X, P, rfl, hb, hr⟩ := h
  have n64 := ok.n64
  have hn := NB.ofE ok
  unfold chkT
  rw [Bool.and_eq_true, Bool.and_eq_true, List.all_eq_true, List.all_eq_true]
  refine ⟨⟨?_, fun d hd => ?_⟩, fun m hm => ?_⟩
  · unfold graphR at hg
    cases e : graphB (dsOf N.toNat (nbE N E) X P)
    · rw [e, if_neg (by simp)] at hg; cases hg
    · rfl
  · unfold dsOf at hd
    obtain ⟨i, hi, rfl⟩ := List.mem_map.1 hd
    exact hb.ok hn (by omega) (by omega) (by omega) (List.mem_range.1 hi)
  · obtain ⟨i, k, hi, hk, e1, e2⟩ := hb.mail m hm
    have := hn.back i k hi hk
    unfold nodeB
    rw [hlen, e1, e2]
    simp only [Bool.and_eq_true, decide_eq_true_eq, Bool.not_eq_true', decide_eq_false_iff_not]
    omega
def actN (k : Int) : Int := if k = 0 then 0 else if k = 1 then 1 else 2
theorem actN_is (k : Int) : actN k = 0 ∨ actN k = 1 ∨ actN k = 2 := by
  unfold actN
  split
  · exact .inl rfl
  · split
    · exact .inr (.inl rfl)
    · exact .inr (.inr rfl)
theorem edge_nb (ok : OkG N E) {e : Edge} (he : e ∈ E) : ∃ i k : Nat, e = ⟨i, k⟩ ∧ i < N.toNat ∧ k < N.toNat ∧ k ∈ nbE N E i ∧ i ∈ nbE N E k := by
  obtain ⟨a, b⟩ := e
  have hE := ok.each _ he
  dsimp only at hE
  have ea : ((a.toNat : Nat) : Int) = a := by omega
  have eb : ((b.toNat : Nat) : Int) = b := by omega
  have hm : b.toNat ∈ nbE N E a.toNat := mem_nbE.2 ⟨by omega, by
    rw [ea, eb]
    have : btw a b = ⟨a, b⟩ := by simp only [btw, Edge.mk.injEq]; omega
    rw [this]; exact he⟩
  exact ⟨a.toNat, b.toNat, by rw [ea, eb], by omega, by omega, hm, ((NB.ofE ok).back _ _ (by omega) hm).2.2⟩
end
end Go.Proofs.YtfbambemjokmgaaGreat
namespace Go.Proofs.YtfbambemjokmgaaGreat
structure Dk where
  id : Int
  phase : Int
  sides : List Sd
  thirst : Int
  need : List Int
deriving DecidableEq
def Dk.dn (d : Dk) : Dn := ⟨d.id, d.phase, d.sides⟩
def isOpening (L : List Sd) : Bool := L.any fun s => decide (s.state = 1)
def turnK (t : Int) (op : Bool) (ph : Int) : Int := if t = 1 ∧ ph = 0 then 1 else if t ≠ 1 ∧ ph = 2 ∧ op = false then 0 else ph
def needsB (need : List Int) (s : Sd) : Bool := decide (s.peer ∈ need)
def keptB (t : Int) (need : List Int) (s : Sd) : Bool := needsB need s && (decide (t = 2) || (decide (t = 1) && s.fork))
def pours (t : Int) (need : List Int) (s : Sd) : Bool := s.bottle && s.ask && !keptB t need s
def poured (t : Int) (need : List Int) (s : Sd) : Sd := if pours t need s = true then { s with bottle := false } else s
def asksK (t : Int) (need : List Int) (s : Sd) : Bool := needsB need s && decide (t = 1) && s.ask && !s.bottle
def bottleS (t : Int) (need : List Int) (s : Sd) : Sd := if asksK t need (poured t need s) = true then { poured t need s with ask := false } else poured t need s
def bottleM (id t : Int) (need : List Int) (s : Sd) : List Ml := (if pours t need s = true then [⟨id, s.peer, 3, s.epoch, 0⟩] else []) ++ (if asksK t need (poured t need s) = true then [⟨id, s.peer, 4, s.epoch, 0⟩] else [])
def missB (need : List Int) (L : List Sd) : Bool := L.any fun s => needsB need s && !s.bottle
def preK (d : Dk) : Dn := ⟨d.id, turnK d.thirst (isOpening d.sides) d.phase, d.sides⟩
def onceK (d : Dk) : Dk × List Ml :=
  (⟨(fireD (preK d)).id, (fireD (preK d)).phase, (fireD (preK d)).sides.map (bottleS d.thirst d.need), if d.thirst = 1 ∧ missB d.need ((fireD (preK d)).sides.map (bottleS d.thirst d.need)) = false then 2 else d.thirst, d.need⟩,
    fireMl (preK d) ++ (fireD (preK d)).sides.flatMap (bottleM d.id d.thirst d.need))
def thing (s : Sd) : Nat := cond s.fork 1 0 + cond s.token 1 0 + cond s.bottle 1 0 + cond s.ask 1 0
def things (L : List Sd) : Nat := (L.map thing).sum
def rankK (t ph : Int) : Nat := if t = 1 then (if ph = 0 then 6 else if ph = 1 then 5 else 4) else (if ph = 1 then 3 else if ph = 2 then 2 else 1)
def leftK (d : Dk) : Nat := 7 * things d.sides + rankK d.thirst d.phase
theorem fireS1_thing (id ph : Int) (s : Sd) : thing (fireS1 ph s) + (fireM1 id ph s).length = thing s ∧ ((fireM1 id ph s) = [] → fireS1 ph s = s) := by
  obtain ⟨p, e, t, f, di, k, b, a⟩ := s
  by_cases h1 : ph = 1
  · subst h1
    cases f <;> cases di <;> cases k <;> cases b <;> cases a <;> simp [fireS1, fireM1, gone, asked, hot, wants, thing]
  · by_cases h2 : ph = 2
    · subst h2
      cases f <;> cases di <;> cases k <;> cases b <;> cases a <;> simp [fireS1, fireM1, gone, asked, hot, wants, thing]
    · cases f <;> cases di <;> cases k <;> cases b <;> cases a <;> simp [fireS1, fireM1, gone, asked, hot, wants, thing, h1, h2]
theorem bottleS_thing (id t : Int) (need : List Int) (s : Sd) : thing (bottleS t need s) + (bottleM id t need s).length = thing s ∧ ((bottleM id t need s) = [] → bottleS t need s = s) := by
  unfold bottleS bottleM
  by_cases h1 : pours t need s = true
  · have hb : s.bottle = true := by unfold pours at h1; simp only [Bool.and_eq_true] at h1; exact h1.1.1
    have hp : poured t need s = { s with bottle := false } := by unfold poured; rw [if_pos h1]
    rw [if_pos h1, hp]
    have hth : thing { s with bottle := false } + 1 = thing s := by unfold thing; rw [hb]; simp; omega
    by_cases h2 : asksK t need { s with bottle := false } = true
    · have ha : s.ask = true := by unfold asksK at h2; simp only [Bool.and_eq_true] at h2; exact h2.1.2
      rw [if_pos h2, if_pos h2]
      refine ⟨?_, fun h => by simp at h⟩
      unfold thing at *
      rw [ha, hb]; simp <;> omega
    · rw [if_neg h2, if_neg h2]
      exact ⟨by simpa using hth, fun h => by simp at h⟩
  · have hp : poured t need s = s := by unfold poured; rw [if_neg h1]
    rw [if_neg h1, hp]
    by_cases h2 : asksK t need s = true
    · have ha : s.ask = true := by unfold asksK at h2; simp only [Bool.and_eq_true] at h2; exact h2.1.2
      rw [if_pos h2, if_pos h2]
      refine ⟨?_, fun h => by simp at h⟩
      unfold thing; rw [ha]; simp
    · rw [if_neg h2, if_neg h2]
      exact ⟨rfl, fun _ => rfl⟩
theorem things_map {f : Sd → Sd} {g : Sd → List Ml} (h : ∀ s, thing (f s) + (g s).length = thing s) : ∀ L : List Sd, things (L.map f) + (L.flatMap g).length = things L
  | [] => rfl
  | s :: L => by
    have ih := things_map h L
    have hs := h s
    unfold things at *
    rw [List.map_cons, List.map_cons, List.sum_cons, List.flatMap_cons, List.length_append, List.map_cons, List.sum_cons]
    omega
theorem flatK_nil {f : Sd → Sd} {g : Sd → List Ml} (h : ∀ s, g s = [] → f s = s) : ∀ {L : List Sd}, L.flatMap g = [] → L.map f = L
  | [], _ => rfl
  | s :: L, e => by
    rw [List.flatMap_cons, List.append_eq_nil_iff] at e
    rw [List.map_cons, h s e.1, flatK_nil h e.2]
theorem things_dirty (L : List Sd) : things (dirtyAll L) = things L := by
  unfold things dirtyAll
  rw [List.map_map]; rfl
theorem fireD_things (d : Dn) : things (fireD d).sides + (fireMl d).length = things d.sides := by
  have h := things_map (f := fireS1 d.phase) (g := fireM1 d.id d.phase) (fun s => (fireS1_thing d.id d.phase s).1) d.sides
  unfold fireD
  split
  · dsimp only
    rw [things_dirty]; exact h
  · exact h
theorem once_things (d : Dk) : things (onceK d).1.sides + (onceK d).2.length = things d.sides := by
  have h1 := fireD_things (preK d)
  have h2 := things_map (f := bottleS d.thirst d.need) (g := bottleM d.id d.thirst d.need) (fun s => (bottleS_thing d.id d.thirst d.need s).1) (fireD (preK d)).sides
  unfold onceK
  dsimp only
  rw [List.length_append]
  have : (preK d).sides = d.sides := rfl
  rw [this] at h1
  omega
theorem fireD_ways (d : Dn) : (fireD d).id = d.id ∧ ((fireD d).phase = d.phase ∧ (fireD d).sides = fireSs d.phase d.sides ∨ d.phase = 1 ∧ (fireD d).phase = 2 ∧ (fireD d).sides = dirtyAll (fireSs d.phase d.sides)) := by
  unfold fireD
  split
  · next h =>
    refine ⟨rfl, .inr ⟨?_, rfl, rfl⟩⟩
    unfold eats at h
    simp only [Bool.and_eq_true, decide_eq_true_eq] at h
    exact h.1
  · exact ⟨rfl, .inl ⟨rfl, rfl⟩⟩
theorem once_rank (d : Dk) : rankK (onceK d).1.thirst (onceK d).1.phase < rankK d.thirst d.phase ∨ ((onceK d).1.thirst = d.thirst ∧ (onceK d).1.phase = d.phase ∧ (preK d).phase = d.phase ∧ (fireD (preK d)).sides = fireSs d.phase d.sides) := by
  obtain ⟨_, hw⟩ := fireD_ways (preK d)
  have ht : (onceK d).1.thirst = d.thirst ∨ d.thirst = 1 ∧ (onceK d).1.thirst = 2 := by
    unfold onceK
    dsimp only
    split
    · next h => exact .inr ⟨h.1, rfl⟩
    · exact .inl rfl
  have hp : (onceK d).1.phase = (fireD (preK d)).phase := rfl
  have hpre : (preK d).phase = d.phase ∨ d.thirst = 1 ∧ d.phase = 0 ∧ (preK d).phase = 1 ∨ d.thirst ≠ 1 ∧ d.phase = 2 ∧ (preK d).phase = 0 := by
    unfold preK turnK
    dsimp only
    split
    · next h => exact .inr (.inl ⟨h.1, h.2, rfl⟩)
    · split
      · next h => exact .inr (.inr ⟨h.1, h.2.1, rfl⟩)
      · exact .inl rfl
  rw [hp]
  have hsd : (preK d).sides = d.sides := rfl
  rcases ht with ht | ⟨ht1, ht2⟩
  · rw [ht]
    rcases hw with ⟨w1, w2⟩ | ⟨w1, w2, w3⟩
    · rcases hpre with e | ⟨e1, e2, e3⟩ | ⟨e1, e2, e3⟩
      · exact .inr ⟨rfl, w1.trans e, e, by rw [w2, e, hsd]⟩
      · left; rw [w1, e3, e1, e2]; decide
      · left; rw [w1, e3, e2]; unfold rankK; rw [if_neg e1, if_neg e1]; decide
    · left
      rw [w2]
      rcases hpre with e | ⟨e1, e2, e3⟩ | ⟨e1, e2, e3⟩
      · rw [← e, w1]; unfold rankK; split <;> decide
      · rw [e1, e2]; decide
      · rw [w1] at e3; omega
  · left
    rw [ht2, ht1]
    unfold rankK
    rw [if_neg (by omega), if_pos rfl]
    split <;> split <;> (try split) <;> (try split) <;> omega
theorem once_less {d : Dk} (h : (onceK d).1 ≠ d) : leftK (onceK d).1 < leftK d := by
  have h1 := once_things d
  unfold leftK
  have hr : ∀ t ph, rankK t ph ≤ 6 := fun t ph => by unfold rankK; split <;> split <;> (try split) <;> omega
  have hr1 : ∀ t ph, 1 ≤ rankK t ph := fun t ph => by unfold rankK; split <;> split <;> (try split) <;> omega
  rcases once_rank d with h2 | ⟨e1, e2, e3, e4⟩
  · omega
  · rw [e1, e2]
    by_cases hl : (onceK d).2.length = 0
    · exfalso
      have hnil := List.eq_nil_of_length_eq_zero hl
      unfold onceK at hnil
      dsimp only at hnil
      rw [List.append_eq_nil_iff] at hnil
      have s1 : fireSs d.phase d.sides = d.sides := by
        have hm : d.sides.flatMap (fireM1 d.id d.phase) = [] := by
          have := hnil.1
          unfold fireMl fireMs at this
          rw [e3] at this
          exact this
        exact flatK_nil (fun s hs => (fireS1_thing d.id d.phase s).2 hs) hm
      have s2 : (fireD (preK d)).sides.map (bottleS d.thirst d.need) = (fireD (preK d)).sides := flatK_nil (fun s hs => (bottleS_thing d.id d.thirst d.need s).2 hs) hnil.2
      apply h
      have i1 : (onceK d).1.sides = d.sides := by
        show (fireD (preK d)).sides.map (bottleS d.thirst d.need) = d.sides
        rw [s2, e4, s1]
      have i2 : (onceK d).1.id = d.id := (fireD_ways (preK d)).1
      have i3 : (onceK d).1.need = d.need := rfl
      generalize onceK d = q at *
      obtain ⟨⟨q1, q2, q3, q4, q5⟩, q6⟩ := q
      obtain ⟨d1, d2, d3, d4, d5⟩ := d
      dsimp only at *
      subst i1 i2 i3 e1 e2
      rfl
    · omega
theorem once_nil {d : Dk} (h : (onceK d).1 = d) : (onceK d).2 = [] := by
  have := once_things d
  rw [h] at this
  exact List.eq_nil_of_length_eq_zero (by omega)
def fireN : Nat → Dk → Dk × List Ml
  | 0, d => (d, [])
  | n + 1, d => if (onceK d).1 = d then (d, []) else ((fireN n (onceK d).1).1, (onceK d).2 ++ (fireN n (onceK d).1).2)
theorem fireN_same : ∀ {n m : Nat} {d : Dk}, leftK d < n → leftK d < m → fireN n d = fireN m d
  | 0, _, _, h, _ => by omega
  | _ + 1, 0, _, _, h => by omega
  | n + 1, m + 1, d, h1, h2 => by
    unfold fireN
    by_cases e : (onceK d).1 = d
    · rw [if_pos e, if_pos e]
    · have := once_less e
      rw [if_neg e, if_neg e, fireN_same (n := n) (m := m) (by omega) (by omega)]
def fireAll (d : Dk) : Dk × List Ml := fireN (leftK d + 1) d
theorem fireAll_end {d : Dk} (h : (onceK d).1 = d) : fireAll d = (d, []) := by
  unfold fireAll fireN
  rw [if_pos h]
theorem fireAll_on {d : Dk} (h : (onceK d).1 ≠ d) : fireAll d = ((fireAll (onceK d).1).1, (onceK d).2 ++ (fireAll (onceK d).1).2) := by
  have hl := once_less h
  have e : fireAll d = fireN (leftK d + 1) d := rfl
  rw [e]
  unfold fireN
  rw [if_neg h, fireN_same (n := leftK d) (m := leftK (onceK d).1 + 1) hl (by omega)]
  rfl
theorem fireAll_keeps {I : Dk → Prop} (hI : ∀ d, I d → I (onceK d).1) : ∀ {n : Nat} {d : Dk}, leftK d < n → I d → I (fireAll d).1
  | 0, _, h, _ => by omega
  | n + 1, d, h, hd => by
    by_cases e : (onceK d).1 = d
    · rw [fireAll_end e]; exact hd
    · have := once_less e
      rw [fireAll_on e]
      exact fireAll_keeps hI (n := n) (by omega) (hI d hd)
theorem fireAll_still : ∀ {n : Nat} {d : Dk}, leftK d < n → (onceK (fireAll d).1).1 = (fireAll d).1
  | 0, _, h => by omega
  | n + 1, d, h => by
    by_cases e : (onceK d).1 = d
    · rw [fireAll_end e]; exact e
    · have := once_less e
      rw [fireAll_on e]
      exact fireAll_still (n := n) (by omega)
theorem fireAll_things : ∀ {n : Nat} {d : Dk}, leftK d < n → things (fireAll d).1.sides + (fireAll d).2.length = things d.sides
  | 0, _, h => by omega
  | n + 1, d, h => by
    by_cases e : (onceK d).1 = d
    · rw [fireAll_end e]; rfl
    · have hl := once_less e
      have h1 := once_things d
      have h2 := fireAll_things (n := n) (d := (onceK d).1) (by omega)
      rw [fireAll_on e, List.length_append]
      dsimp only
      omega
end Go.Proofs.YtfbambemjokmgaaGreat
namespace Go.Proofs.YtfbambemjokmgaaGreat
def riseB : List Int → Bool
  | [] => true
  | [_] => true
  | a :: b :: l => decide (a < b) && riseB (b :: l)
def chkK (d : Dk) : Bool := dnOk d.dn && (decide (0 ≤ d.thirst) && decide (d.thirst ≤ 2)) && !(decide (d.thirst = 0) && !d.need.isEmpty) && (d.need.all fun p => d.sides.any fun s => s.peer == p) && riseB d.need
theorem bottleS_keeps (t : Int) (need : List Int) (s : Sd) : (bottleS t need s).peer = s.peer ∧ (bottleS t need s).epoch = s.epoch ∧ (bottleS t need s).state = s.state ∧ (bottleS t need s).fork = s.fork ∧ (bottleS t need s).dirty = s.dirty ∧ (bottleS t need s).token = s.token := by
  unfold bottleS poured
  split <;> split <;> exact ⟨rfl, rfl, rfl, rfl, rfl, rfl⟩
theorem dnOk_turn {d : Dn} {q : Int} (h : dnOk d = true) (hq : q = d.phase ∨ q = 0 ∨ q = 1) : dnOk ⟨d.id, q, d.sides⟩ = true := by
  rcases hq with rfl | hq
  · exact h
  · unfold dnOk headD at *
    dsimp only at *
    simp only [Bool.and_eq_true, Bool.or_eq_true, decide_eq_true_eq] at *
    exact ⟨⟨h.1.1, by rcases hq with rfl | rfl <;> simp, h.1.2.2⟩, h.2⟩
theorem preK_ok {d : Dk} (h : dnOk d.dn = true) : dnOk (preK d) = true := by
  unfold preK turnK
  refine dnOk_turn (d := d.dn) h ?_
  split
  · exact .inr (.inr rfl)
  · split
    · exact .inr (.inl rfl)
    · exact .inl rfl
theorem dnOk_map {d : Dn} {f : Sd → Sd} (hf : ∀ s, (f s).peer = s.peer ∧ (f s).epoch = s.epoch ∧ (f s).state = s.state ∧ (f s).fork = s.fork ∧ (f s).dirty = s.dirty) (h : dnOk d = true) : dnOk ⟨d.id, d.phase, d.sides.map f⟩ = true := by
  unfold dnOk at *
  rw [Bool.and_eq_true] at *
  refine ⟨head_of h.1 rfl (.inl rfl) (by dsimp only; rw [List.length_map]), ?_⟩
  have key : ∀ (L : List Sd) (last : Int), sidesD d.id last L = true → sidesD d.id last (L.map f) = true := by
    intro L
    induction L with
    | nil => intro _ _; rfl
    | cons s L ih =>
      intro last h
      rw [sidesD_cons] at h
      rw [List.map_cons, sidesD_cons]
      obtain ⟨e1, e2, e3, e4, e5⟩ := hf s
      refine ⟨sideD_of h.1 e1 e2 e3 (by rw [e4, e5]; exact sideD_dirty h.1), ?_⟩
      rw [e1]
      exact ih _ h.2
  exact key _ _ h.2
theorem once_ok {d : Dk} (h : dnOk d.dn = true) : dnOk (onceK d).1.dn = true := by
  have h1 := dnOk_fire (preK_ok h)
  exact dnOk_map (f := bottleS d.thirst d.need) (fun s => by obtain ⟨e1, e2, e3, e4, e5, _⟩ := bottleS_keeps d.thirst d.need s; exact ⟨e1, e2, e3, e4, e5⟩) h1
theorem once_len (d : Dk) : (onceK d).1.sides.length = d.sides.length := by
  show ((fireD (preK d)).sides.map _).length = _
  rw [List.length_map, (fireD_len _).1]; rfl
theorem once_thirst (d : Dk) : (onceK d).1.thirst = d.thirst ∨ d.thirst = 1 ∧ (onceK d).1.thirst = 2 ∧ missB d.need (onceK d).1.sides = false := by
  show (if d.thirst = 1 ∧ missB d.need ((fireD (preK d)).sides.map (bottleS d.thirst d.need)) = false then (2 : Int) else d.thirst) = _ ∨ _
  by_cases h : d.thirst = 1 ∧ missB d.need ((fireD (preK d)).sides.map (bottleS d.thirst d.need)) = false
  · right
    refine ⟨h.1, ?_, h.2⟩
    show (if _ then (2 : Int) else d.thirst) = 2
    rw [if_pos h]
  · left; rw [if_neg h]
theorem fire_drinks {d : Dk} (h : d.thirst = 2) : (fireAll d).1.thirst = 2 := fireAll_keeps (I := fun d => d.thirst = 2) (fun d h => by
  rcases once_thirst d with e | ⟨_, e, _⟩
  · rw [e]; exact h
  · exact e) (Nat.lt_succ_self _) h
theorem fire_thirst {d : Dk} (h : d.thirst ≠ 1) : (fireAll d).1.thirst = d.thirst := fireAll_keeps (I := fun e => e.thirst = d.thirst) (fun e he => by
  rcases once_thirst e with q | ⟨q, _, _⟩
  · rw [q]; exact he
  · rw [he] at q; exact absurd q h) (Nat.lt_succ_self _) rfl
theorem fire_none {d : Dk} (h : d.thirst = 1) (hn : d.need = []) : (fireAll d).1.thirst = 2 := by
  have hm : ∀ L, missB d.need L = false := fun L => by
    unfold missB needsB
    rw [hn]
    simp
  have h1 : (onceK d).1.thirst = 2 := by
    show (if d.thirst = 1 ∧ missB d.need _ = false then (2 : Int) else d.thirst) = 2
    rw [if_pos ⟨h, hm _⟩]
  have hne : (onceK d).1 ≠ d := fun e => by rw [e] at h1; omega
  rw [fireAll_on hne]
  exact fire_drinks h1
end Go.Proofs.YtfbambemjokmgaaGreat
namespace Go.Proofs.YtfbambemjokmgaaGreat
open Go.RowKit
variable {w W W' : World} {id ph th : Int} {sv nv ov : Value} {s : Sd} {M : List Ml}
theorem bottle_out {id th : Int} {N : List Int} {s s1 s2 : Sd} {q q2 : Bool} (h1 : pours th N s = q) (hs1 : s1 = cond q { s with bottle := false } s) (h2 : asksK th N s1 = q2) (hs2 : s2 = cond q2 { s1 with ask := false } s1) :
    bottleS th N s = s2 ∧ bottleM id th N s = cond q [⟨id, s.peer, 3, s.epoch, 0⟩] [] ++ cond q2 [⟨id, s.peer, 4, s.epoch, 0⟩] [] := by
  have hp : poured th N s = s1 := by rw [hs1]; unfold poured; rw [h1]; cases q <;> rfl
  unfold bottleS bottleM
  rw [hp, h1, h2, hs2]
  cases q <;> cases q2 <;> exact ⟨rfl, rfl⟩
end Go.Proofs.YtfbambemjokmgaaGreat
namespace Go.Proofs.YtfbambemjokmgaaGreat
open Go.RowKit
theorem dk_eq (id1 ph1 th1 id2 ph2 th2 : Int) (L M : List Sd) (N K : List Int) : decide ((⟨id1, ph1, L, th1, N⟩ : Dk) = ⟨id2, ph2, M, th2, K⟩) = (decide ((⟨id1, ph1, L⟩ : Dn) = ⟨id2, ph2, M⟩) && decide (th1 = th2) && decide (N = K)) := by
  simp only [Dk.mk.injEq, Dn.mk.injEq, Bool.decide_and, Bool.and_assoc]
set_option maxRecDepth 100000 in
set_option maxHeartbeats 4000000 in
theorem refDkSame_any (w : World) (id1 ph1 th1 id2 ph2 th2 : Int) (v1 v2 n1 n2 : Value) (L M : List Sd) (N K : List Int) (h : Sl w v1 L) (g : Sl w v2 M) (hn : Sl w n1 N) (gn : Sl w n2 K) (t : Bool) (ht : decide ((⟨id1, ph1, L, th1, N⟩ : Dk) = ⟨id2, ph2, M, th2, K⟩) = t) :
    Calls Tryz.prog 47 #[.agg #[.int .i64 id1, .int .i64 ph1, v1, .int .i64 th1, n1], .agg #[.int .i64 id2, .int .i64 ph2, v2, .int .i64 th2, n2]] w fun e w' => e = .returned (.bool t) ∧ Ext w w' := by
  rw [dk_eq] at ht
  obtain ⟨ao, c, rfl⟩ := h.len
  obtain ⟨bo, c2, rfl⟩ := g.len
  obtain ⟨na, nc, rfl⟩ := hn.len
  obtain ⟨nb, nc2, rfl⟩ := gn.len
  obtain ⟨W0, hW0⟩ : ∃ W0, W0 = (w.alloc (.cells #[.int .i64 id1, .int .i64 ph1, .slice ao L.length c, .int .i64 th1, .slice na N.length nc] 63)).alloc (.cells #[.int .i64 id2, .int .i64 ph2, .slice bo M.length c2, .int .i64 th2, .slice nb K.length nc2] 63) := ⟨_, rfl⟩
  have X0 : Hid (Ext w W0) := Lib.hid (hW0 ▸ ((Ext.refl w).alloc _).alloc _)
  have b1 : W0.heap[w.heap.size]? = _ := hW0 ▸ old1 (at0 w _) _
  have b2 : W0.heap[w.heap.size + 1]? = _ := hW0 ▸ at1 w _ _
  have HK : Hid (∀ V, Ext W0 V → ((V.cell? ⟨w.heap.size, 0, none⟩ = some (.int .i64 id1) ∧ V.cell? ⟨w.heap.size, 1, none⟩ = some (.int .i64 ph1) ∧ V.cell? ⟨w.heap.size, 2, none⟩ = some (.slice ao L.length c)) ∧ V.cell? ⟨w.heap.size, 3, none⟩ = some (.int .i64 th1) ∧ V.cell? ⟨w.heap.size, 4, none⟩ = some (.slice na N.length nc)) ∧
      (V.cell? ⟨w.heap.size + 1, 0, none⟩ = some (.int .i64 id2) ∧ V.cell? ⟨w.heap.size + 1, 1, none⟩ = some (.int .i64 ph2) ∧ V.cell? ⟨w.heap.size + 1, 2, none⟩ = some (.slice bo M.length c2)) ∧ V.cell? ⟨w.heap.size + 1, 3, none⟩ = some (.int .i64 th2) ∧ V.cell? ⟨w.heap.size + 1, 4, none⟩ = some (.slice nb K.length nc2)) := Lib.hid fun V hV => by
    have q1 := keepU b1 hV
    have q2 := keepU b2 hV
    exact ⟨⟨⟨blk_cell q1 0 rfl, blk_cell q1 1 rfl, blk_cell q1 2 rfl⟩, blk_cell q1 3 rfl, blk_cell q1 4 rfl⟩, ⟨blk_cell q2 0 rfl, blk_cell q2 1 rfl, blk_cell q2 2 rfl⟩, blk_cell q2 3 rfl, blk_cell q2 4 rfl⟩
  have HS := Lib.hid (h.ext X0.out)
  have HG := Lib.hid (g.ext X0.out)
  have HN := Lib.hid (hn.ext X0.out)
  have HM := Lib.hid (gn.ext X0.out)
  have HW0 := Lib.hid hW0
  obtain ⟨s, hs⟩ : ∃ s, decide ((⟨id1, ph1, L⟩ : Dn) = ⟨id2, ph2, M⟩) = s := ⟨_, rfl⟩
  obtain ⟨r, hr⟩ : ∃ r, decide (N = K) = r := ⟨_, rfl⟩
  rw [hs, hr] at ht
  have HD := Lib.hid hs
  have HR := Lib.hid hr
  have HT := Lib.hid ht
  clear h g hn gn hW0 b1 b2 hs hr ht
  cases s
  · go_enter Tryz.func47, Tryz.ntmps47
    go_upto_region 1 with (fail)
    rw [← HW0.out]
    obtain ⟨⟨⟨a0, a1, a2⟩, a3, a4⟩, ⟨c0, c1, c2⟩, c3, c4⟩ := HK.out W0 (Ext.refl _)
    go_wp2_with (go_at_call 87; refine (refSameOne_any W0 id1 ph1 id2 ph2 _ _ L M HS.out HG.out false HD.out).mono ?_; rintro e w1 ⟨rfl, x1⟩; have X1 := Lib.hid x1; clear x1)
    go_ret
    exact ⟨ret_bool (by rw [← HT.out]; rfl), X0.out.trans X1.out⟩
  by_cases e : th1 = th2
  · have hd : (th1 == th2) = true := by simpa using e
    have HE : Hid (decide (th1 = th2) = true) := Lib.hid (decide_eq_true e)
    clear e
    go_enter Tryz.func47, Tryz.ntmps47
    go_upto_region 1 with (fail)
    rw [← HW0.out]
    obtain ⟨⟨⟨a0, a1, a2⟩, a3, a4⟩, ⟨c0, c1, c2⟩, c3, c4⟩ := HK.out W0 (Ext.refl _)
    go_wp2_with (first
      | (go_at_call 87; refine (refSameOne_any W0 id1 ph1 id2 ph2 _ _ L M HS.out HG.out true HD.out).mono ?_; rintro e w1 ⟨rfl, x1⟩; have X1 := Lib.hid x1; clear a0 a1 a2 a3 a4 c0 c1 c2 c3 c4; obtain ⟨⟨⟨a0, a1, a2⟩, a3, a4⟩, ⟨c0, c1, c2⟩, c3, c4⟩ := HK.out w1 x1; clear x1)
      | (go_at_call 21; refine (refSame_val r _ _ _ N K (HN.out.ext X1.out) (HM.out.ext X1.out) HR.out).mono ?_; rintro e w2 ⟨rfl, x2⟩; have X2 := Lib.hid x2; clear x2))
    go_ret
    exact ⟨ret_bool (by rw [← HT.out, HE.out]; rfl), (X0.out.trans X1.out).trans (Drew.below X2.out _)⟩
  · have hd : (th1 == th2) = false := by simpa using e
    have HE : Hid (decide (th1 = th2) = false) := Lib.hid (decide_eq_false e)
    clear e
    go_enter Tryz.func47, Tryz.ntmps47
    go_upto_region 1 with (fail)
    rw [← HW0.out]
    obtain ⟨⟨⟨a0, a1, a2⟩, a3, a4⟩, ⟨c0, c1, c2⟩, c3, c4⟩ := HK.out W0 (Ext.refl _)
    go_wp2_with (go_at_call 87; refine (refSameOne_any W0 id1 ph1 id2 ph2 _ _ L M HS.out HG.out true HD.out).mono ?_; rintro e w1 ⟨rfl, x1⟩; have X1 := Lib.hid x1; clear a0 a1 a2 a3 a4 c0 c1 c2 c3 c4; obtain ⟨⟨⟨a0, a1, a2⟩, a3, a4⟩, ⟨c0, c1, c2⟩, c3, c4⟩ := HK.out w1 x1; clear x1)
    go_ret
    exact ⟨ret_bool (by rw [← HT.out, HE.out]; rfl), X0.out.trans X1.out⟩
end Go.Proofs.YtfbambemjokmgaaGreat
namespace Go.Proofs.YtfbambemjokmgaaGreat
open Go.RowKit
theorem chk_dn {d : Dk} (h : chkK d = true) : dnOk d.dn = true := by
  unfold chkK at h
  simp only [Bool.and_eq_true] at h
  exact h.1.1.1.1
end Go.Proofs.YtfbambemjokmgaaGreat
