/- Layer 13 (mathematics): which diner may be, what comes to it, what it does. -/
import Derived.Test.YtpjpjchnfllcmaaMN
import Derived.Test.YtpjpjchnfllcmaaMDR
import Derived.Deep.DeepCutAuto
import Derived.Deep.CutBlock
namespace Go.Proofs.Ytpjpjchnfllcmaa

def sideD (id last : Int) (s : Sd) : Bool := decide (last < s.peer) && (decide (s.peer ≠ id) && (decide (0 ≤ s.epoch) && (decide (s.epoch ≤ 65535) && (decide (0 ≤ s.state) && (decide (s.state ≤ 3) && !(s.dirty && !s.fork))))))
def sidesD (id : Int) : Int → List Sd → Bool
  | _, [] => true
  | last, s :: l => sideD id last s && sidesD id s.peer l
def lastD : Int → List Sd → Int
  | last, [] => last
  | _, s :: l => lastD s.peer l
def headD (d : Dn) : Bool := decide (0 ≤ d.id) && ((decide (d.phase = 0) || decide (d.phase = 1) || decide (d.phase = 2)) && decide (d.sides.length ≤ 63))
def dnOk (d : Dn) : Bool := headD d && sidesD d.id (-1) d.sides
theorem sidesD_app (id : Int) : ∀ (l : List Sd) (last : Int) (s : Sd), sidesD id last (l ++ [s]) = (sidesD id last l && sideD id (lastD last l) s)
  | [], last, s => by simp [sidesD, lastD]
  | t :: l, last, s => by
    show (sideD id last t && sidesD id t.peer (l ++ [s])) = (sideD id last t && sidesD id t.peer l && sideD id (lastD t.peer l) s)
    rw [sidesD_app id l t.peer s, Bool.and_assoc]
theorem sidesD_pre (id : Int) : ∀ (l r : List Sd) (last : Int), sidesD id last l = false → sidesD id last (l ++ r) = false
  | [], _, _, h => by simp [sidesD] at h
  | t :: l, r, last, h => by
    show (sideD id last t && sidesD id t.peer (l ++ r)) = false
    have h : (sideD id last t && sidesD id t.peer l) = false := h
    cases e : sideD id last t with
    | false => rfl
    | true =>
      rw [e, Bool.true_and] at h
      rw [sidesD_pre id l r t.peer h]; rfl
theorem lastD_app (l : List Sd) (last : Int) (s : Sd) : lastD last (l ++ [s]) = s.peer := by
  induction l generalizing last with
  | nil => rfl
  | cons t l ih => exact ih t.peer
theorem lastD_low (id : Int) : ∀ (l : List Sd) (last : Int), sidesD id last l = true → last ≤ lastD last l
  | [], _, _ => Int.le_refl _
  | s :: l, last, h => by
    have h : (sideD id last s && sidesD id s.peer l) = true := h
    rw [Bool.and_eq_true] at h
    have h1 := lastD_low id l s.peer h.2
    have h2 := h.1
    unfold sideD at h2
    rw [Bool.and_eq_true, decide_eq_true_eq] at h2
    show last ≤ lastD last (s :: l)
    show last ≤ lastD s.peer l
    omega

-- what goes out of a side, and what is left of it
def hot (ph : Int) (s : Sd) : Bool := s.fork && (s.dirty && (s.token && decide (ph ≠ 2)))
def gone (ph : Int) (s : Sd) : Sd := if hot ph s = true then { s with fork := false, dirty := false } else s
def wants (ph : Int) (s : Sd) : Bool := !s.fork && (s.token && decide (ph = 1))
def asked (ph : Int) (s : Sd) : Sd := if wants ph s = true then { s with token := false } else s
def fireS1 (ph : Int) (s : Sd) : Sd := asked ph (gone ph s)
def forkM (id : Int) (s : Sd) : Ml := ⟨id, s.peer, 1, s.epoch, 0⟩
def tokenM (id : Int) (s : Sd) : Ml := ⟨id, s.peer, 2, s.epoch, 0⟩
def fireM1 (id ph : Int) (s : Sd) : List Ml := (if hot ph s = true then [forkM id s] else []) ++ (if wants ph (gone ph s) = true then [tokenM id s] else [])
def fireSs (ph : Int) (L : List Sd) : List Sd := L.map (fireS1 ph)
def fireMs (id ph : Int) (L : List Sd) : List Ml := L.flatMap (fireM1 id ph)
def dirtyAll (L : List Sd) : List Sd := L.map fun s => { s with dirty := true }
def eats (ph : Int) (L : List Sd) : Bool := decide (ph = 1) && L.all (·.fork)
def fireD (d : Dn) : Dn := if eats d.phase (fireSs d.phase d.sides) = true then ⟨d.id, 2, dirtyAll (fireSs d.phase d.sides)⟩ else ⟨d.id, d.phase, fireSs d.phase d.sides⟩
def fireMl (d : Dn) : List Ml := fireMs d.id d.phase d.sides

/-- nothing is to be done there -/
def calm (ph : Int) (s : Sd) : Bool := !hot ph s && !wants ph s
theorem calm_fire {ph : Int} {s : Sd} (h : calm ph s = true) (id : Int) : fireS1 ph s = s ∧ fireM1 id ph s = [] := by
  unfold calm at h
  simp only [Bool.and_eq_true, Bool.not_eq_true'] at h
  have hg : gone ph s = s := by unfold gone; rw [if_neg (by rw [h.1]; simp)]
  unfold fireS1 fireM1
  rw [hg]
  unfold asked
  rw [h.1, h.2]
  exact ⟨rfl, rfl⟩
theorem fire_calm (ph : Int) (s : Sd) : calm ph (fireS1 ph s) = true := by
  obtain ⟨p, e, t, f, di, k, b, a⟩ := s
  by_cases h1 : ph = 1
  · subst h1
    cases f <;> cases di <;> cases k <;> rfl
  · by_cases h2 : ph = 2
    · subst h2
      cases f <;> cases di <;> cases k <;> rfl
    · cases f <;> cases di <;> cases k <;> simp [fireS1, gone, asked, hot, wants, calm, h1, h2]
/-- one rule: the fork of a side goes -/
theorem fire_hot {ph : Int} {s : Sd} (h : hot ph s = true) (id : Int) : fireS1 ph { s with fork := false, dirty := false } = fireS1 ph s ∧ fireM1 id ph s = forkM id s :: fireM1 id ph { s with fork := false, dirty := false } := by
  have hg : gone ph s = { s with fork := false, dirty := false } := by unfold gone; rw [if_pos h]
  have hn : hot ph { s with fork := false, dirty := false } = false := by unfold hot; rfl
  have hg2 : gone ph { s with fork := false, dirty := false } = { s with fork := false, dirty := false } := by unfold gone; rw [if_neg (by rw [hn]; simp)]
  unfold fireS1 fireM1
  rw [hg, hg2, h, hn]
  exact ⟨rfl, rfl⟩
/-- .. the wish for it goes -/
theorem fire_wants {ph : Int} {s : Sd} (h : hot ph s = false) (hw : wants ph s = true) (id : Int) : fireS1 ph { s with token := false } = fireS1 ph s ∧ fireM1 id ph s = tokenM id s :: fireM1 id ph { s with token := false } := by
  have hg : gone ph s = s := by unfold gone; rw [if_neg (by rw [h]; simp)]
  have hn : hot ph { s with token := false } = false := by unfold hot; simp
  have hg2 : gone ph { s with token := false } = { s with token := false } := by unfold gone; rw [if_neg (by rw [hn]; simp)]
  have hw2 : wants ph { s with token := false } = false := by unfold wants; simp
  unfold fireS1 fireM1
  rw [hg, hg2, h, hn]
  unfold asked
  rw [hw, hw2]
  exact ⟨rfl, rfl⟩
theorem fireSs_calm {ph : Int} {L : List Sd} (h : L.all (calm ph) = true) (id : Int) : fireSs ph L = L ∧ fireMs id ph L = [] := by
  induction L with
  | nil => exact ⟨rfl, rfl⟩
  | cons s L ih =>
    rw [List.all_cons, Bool.and_eq_true] at h
    obtain ⟨h1, h2⟩ := calm_fire h.1 id
    obtain ⟨h3, h4⟩ := ih h.2
    unfold fireSs fireMs at *
    rw [List.map_cons, List.flatMap_cons, h1, h2, h3, h4]
    exact ⟨rfl, rfl⟩
theorem fireSs_all (ph : Int) (L : List Sd) : (fireSs ph L).all (calm ph) = true := by
  unfold fireSs
  rw [List.all_map, List.all_eq_true]
  intro s _
  exact fire_calm ph s

/-- the first side at which a rule applies: its place -/
theorem fire_at {ph : Int} {L : List Sd} {k : Nat} {s t : Sd} {m : Ml} (id : Int) (hp : (L.take k).all (calm ph) = true) (hs : L[k]? = some s) (h1 : fireS1 ph t = fireS1 ph s) (h2 : fireM1 id ph s = m :: fireM1 id ph t) :
    fireSs ph (L.set k t) = fireSs ph L ∧ fireMs id ph L = m :: fireMs id ph (L.set k t) := by
  have hk := (List.getElem?_eq_some_iff.1 hs).1
  have e : L = L.take k ++ s :: L.drop (k + 1) := by
    have := (List.getElem?_eq_some_iff.1 hs).2
    rw [← this, List.getElem_cons_drop hk, List.take_append_drop]
  have e2 : L.set k t = L.take k ++ t :: L.drop (k + 1) := by
    rw [List.set_eq_take_append_cons_drop, if_pos hk]
  obtain ⟨c1, c2⟩ := fireSs_calm hp id
  rw [e2]
  constructor
  · conv => rhs; rw [e]
    unfold fireSs at *
    rw [List.map_append, List.map_append, List.map_cons, List.map_cons, h1]
  · conv => lhs; rw [e]
    unfold fireMs at *
    rw [List.flatMap_append, List.flatMap_append, c2, List.flatMap_cons, List.flatMap_cons, h2]
    rfl

/-- the first rule that applies -/
inductive One (d : Dn) : Dn → List Ml → Bool → Prop
  | fork (k : Nat) (s : Sd) (hp : (d.sides.take k).all (calm d.phase) = true) (hs : d.sides[k]? = some s) (h : hot d.phase s = true) : One d ⟨d.id, d.phase, d.sides.set k { s with fork := false, dirty := false }⟩ [forkM d.id s] true
  | token (k : Nat) (s : Sd) (hp : (d.sides.take k).all (calm d.phase) = true) (hs : d.sides[k]? = some s) (h : hot d.phase s = false) (hw : wants d.phase s = true) : One d ⟨d.id, d.phase, d.sides.set k { s with token := false }⟩ [tokenM d.id s] true
  | eat (hc : d.sides.all (calm d.phase) = true) (h : eats d.phase d.sides = true) : One d ⟨d.id, 2, dirtyAll d.sides⟩ [] true
  | none (hc : d.sides.all (calm d.phase) = true) (h : eats d.phase d.sides = false) : One d d [] false
theorem eating_calm (L : List Sd) : L.all (calm 2) = true := by
  rw [List.all_eq_true]
  intro s _
  obtain ⟨p, e, t, f, di, k, b, a⟩ := s
  cases f <;> cases di <;> cases k <;> rfl
theorem eats_two (L : List Sd) : eats 2 L = false := rfl
/-- a rule is a part of all that is to be done -/
theorem One.fire {d e : Dn} {l : List Ml} {b : Bool} (h : One d e l b) : fireD e = fireD d ∧ fireMl d = l ++ fireMl e ∧ (b = false → fireD d = d ∧ fireMl d = []) := by
  cases h with
  | fork k s hp hs h =>
    obtain ⟨a1, a2⟩ := fire_hot h d.id
    obtain ⟨b1, b2⟩ := fire_at d.id hp hs a1 a2
    refine ⟨?_, b2, fun e => by cases e⟩
    unfold fireD
    dsimp only
    rw [b1]
  | token k s hp hs h hw =>
    obtain ⟨a1, a2⟩ := fire_wants h hw d.id
    obtain ⟨b1, b2⟩ := fire_at d.id hp hs a1 a2
    refine ⟨?_, b2, fun e => by cases e⟩
    unfold fireD
    dsimp only
    rw [b1]
  | eat hc h =>
    obtain ⟨c1, c2⟩ := fireSs_calm hc d.id
    obtain ⟨c3, c4⟩ := fireSs_calm (eating_calm (dirtyAll d.sides)) d.id
    refine ⟨?_, ?_, fun e => by cases e⟩
    · unfold fireD
      dsimp only
      rw [c1, c3, h, eats_two]
      rfl
    · unfold fireMl
      dsimp only
      rw [c2, c4]
      rfl
  | none hc h =>
    obtain ⟨c1, c2⟩ := fireSs_calm hc d.id
    refine ⟨rfl, rfl, fun _ => ⟨?_, c2⟩⟩
    unfold fireD
    rw [c1, h]
    rfl
/-- how many rules may still apply, at most -/
def todo (d : Dn) : Nat := 2 * (d.sides.countP (·.fork) + d.sides.countP (·.token)) + (if d.phase = 1 then 1 else 0)
theorem countP_set_less {L : List Sd} {k : Nat} {s t : Sd} (p : Sd → Bool) (hs : L[k]? = some s) (h1 : p s = true) (h2 : p t = false) : (L.set k t).countP p + 1 = L.countP p := by
  have hk := (List.getElem?_eq_some_iff.1 hs).1
  have e : L = L.take k ++ s :: L.drop (k + 1) := by
    have := (List.getElem?_eq_some_iff.1 hs).2
    rw [← this, List.getElem_cons_drop hk, List.take_append_drop]
  have e2 : L.set k t = L.take k ++ t :: L.drop (k + 1) := by
    rw [List.set_eq_take_append_cons_drop, if_pos hk]
  rw [e2]
  conv => rhs; rw [e]
  rw [List.countP_append, List.countP_append, List.countP_cons, List.countP_cons, h1, h2]
  simp only [if_true, Bool.false_eq_true, if_false]
  omega
theorem countP_set_same {L : List Sd} {k : Nat} {s t : Sd} (p : Sd → Bool) (hs : L[k]? = some s) (h : p t = p s) : (L.set k t).countP p = L.countP p := by
  have hk := (List.getElem?_eq_some_iff.1 hs).1
  have e : L = L.take k ++ s :: L.drop (k + 1) := by
    have := (List.getElem?_eq_some_iff.1 hs).2
    rw [← this, List.getElem_cons_drop hk, List.take_append_drop]
  have e2 : L.set k t = L.take k ++ t :: L.drop (k + 1) := by
    rw [List.set_eq_take_append_cons_drop, if_pos hk]
  rw [e2]
  conv => rhs; rw [e]
  rw [List.countP_append, List.countP_append, List.countP_cons, List.countP_cons, h]
theorem countP_dirty (L : List Sd) (p : Sd → Bool) (h : ∀ s : Sd, p { s with dirty := true } = p s) : (dirtyAll L).countP p = L.countP p := by
  unfold dirtyAll
  rw [List.countP_map]
  congr 1
  funext s
  exact h s
theorem One.less {d e : Dn} {l : List Ml} (h : One d e l true) : todo e < todo d := by
  cases h with
  | fork k s hp hs h =>
    unfold hot at h
    simp only [Bool.and_eq_true] at h
    have c1 := countP_set_less (·.fork) hs h.1 (t := { s with fork := false, dirty := false }) rfl
    have c2 := countP_set_same (·.token) hs (t := { s with fork := false, dirty := false }) rfl
    unfold todo
    dsimp only
    split <;> omega
  | token k s hp hs h hw =>
    unfold wants at hw
    simp only [Bool.and_eq_true] at hw
    have c1 := countP_set_less (·.token) hs hw.2.1 (t := { s with token := false }) rfl
    have c2 := countP_set_same (·.fork) hs (t := { s with token := false }) rfl
    unfold todo
    dsimp only
    split <;> omega
  | eat hc h =>
    have hp : d.phase = 1 := by unfold eats at h; simp only [Bool.and_eq_true, decide_eq_true_eq] at h; exact h.1
    unfold todo
    dsimp only
    rw [countP_dirty _ _ (fun s => rfl), countP_dirty _ _ (fun s => rfl), hp]
    simp
theorem One.len {d e : Dn} {l : List Ml} {b : Bool} (h : One d e l b) : e.id = d.id ∧ e.sides.length = d.sides.length ∧ l.length ≤ 1 := by
  cases h <;> simp [dirtyAll]

end Go.Proofs.Ytpjpjchnfllcmaa

/- Layer 13, the document's answers: whether two rows of mail are the same; a message of a side; a diner with another side. -/
namespace Go.Proofs.Ytpjpjchnfllcmaa
open Go.RowKit

theorem neq_Ml (y0 y1 y2 y3 y4 z0 z1 z2 z3 z4 : Int) (s : Bool) (hs : decide ((⟨y0, y1, y2, y3, y4⟩ : Ml) = ⟨z0, z1, z2, z3, z4⟩) = s) :
    (∀ w : World, (binOp .neq 61 (.agg #[.int .i64 y0, .int .i64 y1, .int .i64 y2, .int .i64 y3, .int .i64 y4]) (.agg #[.int .i64 z0, .int .i64 z1, .int .i64 z2, .int .i64 z3, .int .i64 z4])).run Try.prog w = .ok (.bool (!s)) w) ∧ ∀ (a b : Operand) (w : World), (eqGuard .neq 61 a b (.agg #[.int .i64 y0, .int .i64 y1, .int .i64 y2, .int .i64 y3, .int .i64 y4]) (.agg #[.int .i64 z0, .int .i64 z1, .int .i64 z2, .int .i64 z3, .int .i64 z4])).run Try.prog w = .ok () w := by
  refine ⟨fun w => ?_, fun a b w => run_eqGuard_agg w _ _ a b _ _ (by kernel_rfl)⟩
  have u3 := Try.underlying3
  have a3 := Try.isAgg3
  have z3' := Try.sizeOf3
  have uK := Try.underlying42
  have aK := Try.isAgg42
  have zK := Try.sizeOf42
  have aM := Try.isAgg44
  have zM := Try.sizeOf44
  have hS : Try.prog.underlying 61 = some (.struct (Try.prog.fieldsOf 61)) := by kernel_rfl
  have hp : Try.prog.stoodInHeld 61 = false := by kernel_rfl
  have hS2 : Try.prog.underlying 44 = some (.struct (Try.prog.fieldsOf 44)) := by kernel_rfl
  have hp2 : Try.prog.stoodInHeld 44 = false := by kernel_rfl
  have hq : ∀ (w : World) (b0 b1 b2 c0 c1 c2 : Int), (Op.equalIn 9999 44 (.agg #[.int .i64 b0, .int .i64 b1, .int .i64 b2]) (.agg #[.int .i64 c0, .int .i64 c1, .int .i64 c2])).run Try.prog w = .ok (decide (b0 = c0) && decide (b1 = c1) && decide (b2 = c2)) w := by
    intro w b0 b1 b2 c0 c1 c2
    rw [show (9999 : Nat) = 9998 + 1 from rfl, run_equalIn_agg w 9998 44 _ _ hS2 hp2]
    simp only [Program.fieldsOf, Try.underlying44]
    go_simp
    by_cases h0 : b0 = c0 <;> by_cases h1 : b1 = c1 <;> by_cases h2 : b2 = c2 <;> simp [h0, h1, h2]
  rw [run_neq_struct, show (10000 : Nat) = 9999 + 1 from rfl, run_equalIn_agg w 9999 61 _ _ hS hp]
  simp only [Program.fieldsOf, Try.underlying61]
  go_simp
  subst hs
  by_cases h0 : y0 = z0 <;> by_cases h1 : y1 = z1 <;> simp [h0, h1]
  by_cases h2 : y2 = z2 <;> by_cases h3 : y3 = z3 <;> by_cases h4 : y4 = z4 <;> simp [h2, h3, h4]

set_option maxRecDepth 100000 in
set_option maxHeartbeats 2000000 in
theorem refSameMail_any (w : World) (v1 v2 : Value) (L M : List Ml) (h : Sl w v1 L) (g : Sl w v2 M) (t : Bool) (ht : decide (L = M) = t) :
    Calls Try.prog 19 #[v1, v2] w fun e w' => e = .returned (.bool t) ∧ Ext w w' := by
  obtain ⟨ao1, c1, rfl⟩ := h.len
  obtain ⟨ao2, c2, rfl⟩ := g.len
  have l1 := h.length_le
  have l2 := g.length_le
  have HS := Lib.hid h
  have HM := Lib.hid g
  have HE := Lib.hid ht
  clear h g ht
  by_cases e3 : L.length = M.length
  · have q3 : ((L.length : Int) != (M.length : Int)) = false := by simp [e3]
    have HL3 := Lib.hid e3
    clear e3
    go_enter Try.func19, Try.ntmps19
    go_wp2
    go_loopw [5] (fun i wr => ∃ k : Nat, k ≤ L.length ∧ i = .int .i64 k ∧ Hid (L.take k = M.take k) ∧ Hid (Ext w wr)) (fun i _ => L.length - (intOf i).toNat)
    case atStart => exact ⟨0, Nat.zero_le _, rfl, Lib.hid rfl, Lib.hid (Ext.refl _)⟩
    case round =>
      obtain ⟨k, hk, rfl, HQ, HX⟩ := hrel
      by_cases hlt : k < L.length
      · have hltM : k < M.length := by have := HL3.out; omega
        obtain ⟨b1, o1, y, _, hyk, rfl, hn, hnc, hc63, hb, hcell⟩ := HS.out.mailAt hlt
        obtain ⟨b2, o2, z, _, hzk, rfl, hn', hnc', hc63', hb', hcell'⟩ := HM.out.mailAt hltM
        have HCY : Hid (∀ V, Ext wr V → _) := Lib.hid fun V hV => hcell V (HX.out.trans hV)
        have HCZ : Hid (∀ V, Ext wr V → _) := Lib.hid fun V hV => hcell' V (HX.out.trans hV)
        have HN := Lib.hid (take_eqD hyk hzk)
        obtain ⟨s, hs⟩ : ∃ s, decide (y = z) = s := ⟨_, rfl⟩
        have HYZ := Lib.hid hs
        obtain ⟨y0, y1, y2, y3, y4⟩ := y
        obtain ⟨z0, z1, z2, z3, z4⟩ := z
        have HNQ := Lib.hid (neq_Ml y0 y1 y2 y3 y4 z0 z1 z2 z3 z4 s hs)
        clear hcell hcell' hyk hzk hn hn' hs
        dsimp only at HCY HCZ
        cases s
        all_goals
          go_wp2_with fail
          (refine wp_region_X_lit (K := fun W => Ext wr W) (by kernel_rfl) (fun w1 hw1 => ?_))
          have HX1 := Lib.hid (HX.out.trans hw1)
          have HW1 := Lib.hid hw1
          clear hw1
          refine xtv 0 (h := ?_)
          refine xtv 1 (h := ?_)
          refine xtv 2 (h := ?_)
          refine xtv 3 (hv := by intro w' hw'; obtain ⟨⟨a0, a1⟩, a2, a3, a4⟩ := HCY.out w' hw'; go_simp; first | done | with_reducible rfl) (h := ?_)
          refine xtv 4 (h := ?_)
          refine xtv 5 (h := ?_)
          refine xtv 6 (h := ?_)
          refine xtv 7 (hv := by intro w' hw'; obtain ⟨⟨a0, a1⟩, a2, a3, a4⟩ := HCZ.out w' hw'; go_simp; first | done | with_reducible rfl) (h := ?_)
          refine xtv 8 (hv := by intro w' hw'; obtain ⟨q1, q2⟩ := HNQ.out; go_simp; first | done | with_reducible rfl) (h := ?_)
          (refine xdone (by kernel_rfl) (HW1.out) ?_)
        · go_wp2
          go_ret
          exact ⟨ret_bool (by
            rw [← HE.out]
            exact (decide_eq_false fun e => of_decide_eq_false HYZ.out ((HN.out.1 (by rw [e])).2)).symm), HX1.out⟩
        · go_wp2
          go_roundw
          case rel => exact ⟨k + 1, by omega, by go_num, Lib.hid (HN.out.2 ⟨HQ.out, of_decide_eq_true HYZ.out⟩), HX1⟩
          case measure => simp [intOf]; omega
      · have hkl : k = L.length := by omega
        have HF : Hid (true = t) := Lib.hid (by
          have hq := HQ.out
          rw [hkl, List.take_length, HL3.out, List.take_length] at hq
          rw [← HE.out, decide_eq_true hq])
        go_wp2
        go_ret
        exact ⟨ret_bool HF.out, HX.out⟩
  · have q3 : ((L.length : Int) != (M.length : Int)) = true := by simp; omega
    have HF : Hid (false = t) := Lib.hid (by rw [← HE.out, decide_eq_false fun e => e3 (by rw [e])])
    clear e3
    go_enter Try.func19, Try.ntmps19
    go_wp2
    go_ret
    exact ⟨ret_bool HF.out, Ext.refl _⟩

theorem cells8U {w : World} {g : Nat} {u0 u1 u2 u3 u4 u5 u6 u7 : Value} {t : TypeId} (h : w.heap[g]? = some (.cells #[u0, u1, u2, u3, u4, u5, u6, u7] t (0, 0))) :
    ((w.cell? ⟨g, 0, none⟩ = some u0 ∧ w.cell? ⟨g, 1, none⟩ = some u1) ∧ w.cell? ⟨g, 2, none⟩ = some u2 ∧ w.cell? ⟨g, 3, none⟩ = some u3) ∧ (w.cell? ⟨g, 4, none⟩ = some u4 ∧ w.cell? ⟨g, 5, none⟩ = some u5) ∧ w.cell? ⟨g, 6, none⟩ = some u6 ∧ w.cell? ⟨g, 7, none⟩ = some u7 :=
  ⟨⟨⟨blk_cell h 0 rfl, blk_cell h 1 rfl⟩, blk_cell h 2 rfl, blk_cell h 3 rfl⟩, ⟨blk_cell h 4 rfl, blk_cell h 5 rfl⟩, blk_cell h 6 rfl, blk_cell h 7 rfl⟩
theorem keepU {w W : World} {g : Nat} {o : Obj} (h : w.heap[g]? = some o) (e : Ext w W) : W.heap[g]? = some o := (e.block _ (blk_lt h)).trans h
theorem owU {α : Type} [Elem α] {w w' : World} {B : Nat} {v : Value} {xs : List α} (h : Ow w B v xs) (hq : ∀ b, v.ownBlock = some b → w'.heap[b]? = w.heap[b]?) : Ow w' B v xs := by
  refine ⟨h.1, ?_⟩
  rcases h.2 with h2 | ⟨g, cap, cur, rfl, hg, hh, r⟩
  · exact .inl h2
  · exact .inr ⟨g, cap, cur, rfl, hg, (hq g rfl).trans hh, r⟩
theorem uMail : ∃ fs, Try.prog.underlying 61 = some (.struct fs) := ⟨_, Try.underlying61⟩
theorem uDiner : ∃ fs, Try.prog.underlying 25 = some (.struct fs) := ⟨_, Try.underlying25⟩

set_option maxRecDepth 100000 in
set_option maxHeartbeats 2000000 in
theorem refMail_any (w : World) (id ph : Int) (v : Value) (L : List Sd) (x : Sd) (kd : Int) (h : Sl w v L) :
    Calls Try.prog 89 #[.agg #[.int .i64 id, .int .i64 ph, v], .agg x.cs, .int .i64 kd] w fun e w' => e = .returned (.agg #[.int .i64 id, .int .i64 x.peer, .int .i64 kd, .int .i64 x.epoch, .int .i64 0]) ∧ Ext w w' := by
  obtain ⟨ao, c, rfl⟩ := h.len
  obtain ⟨x0, x1, x2, x3, x4, x5, x6, x7⟩ := x
  unfold Sd.cs
  dsimp only
  have HR := Lib.hid (at2 w (.cells #[.int .i64 id, .int .i64 ph, .slice ao L.length c] 25) (.cells #[.int .i64 x0, .int .i64 x1, .int .i64 x2, .bool x3, .bool x4, .bool x5, .bool x6, .bool x7] 53) (.cells #[.int .i64 0, .int .i64 0, .int .i64 0, .int .i64 0, .int .i64 0] 61))
  have X0 : Hid (Ext w (((w.alloc (.cells #[.int .i64 id, .int .i64 ph, .slice ao L.length c] 25)).alloc (.cells #[.int .i64 x0, .int .i64 x1, .int .i64 x2, .bool x3, .bool x4, .bool x5, .bool x6, .bool x7] 53)).alloc (.cells #[.int .i64 0, .int .i64 0, .int .i64 0, .int .i64 0, .int .i64 0] 61))) := Lib.hid ((((Ext.refl w).alloc _).alloc _).alloc _)
  clear h
  go_enter Try.func89, Try.ntmps89
  go_wp2_with (first | refine haltst 61 ?_)
  refine .inl ?_
  refine st_l 61 (.tmp 6) (.tmp 15) (w.heap.size + 2) 0 61 #[.int .i64 0, .int .i64 0, .int .i64 0, .int .i64 0, .int .i64 0] #[.int .i64 id, .int .i64 x0, .int .i64 kd, .int .i64 x1, .int .i64 0] #[.int .i64 id, .int .i64 x0, .int .i64 kd, .int .i64 x1, .int .i64 0] rfl rfl HR.out (by kernel_rfl) (by simp) rfl rfl ?_
  intro W hW oW
  simp only [Act.put]
  go_wp2
  exact bodyPost_ret (v := .agg #[.int .i64 id, .int .i64 x0, .int .i64 kd, .int .i64 x1, .int .i64 0]) (res_c rfl rfl hW uMail (by kernel_rfl)) rfl ⟨rfl, ext_off X0.out oW (fun k hk => by omega)⟩

theorem cellsOf_set {α : Type} [Elem α] : ∀ (xs : List α) (k : Nat) (x : α), k < xs.length → cellsOf (xs.set k x) = (cellsOf xs).take (k * Elem.k α) ++ Elem.enc x ++ (cellsOf xs).drop (k * Elem.k α + Elem.k α) := by
  intro xs k x hk
  rw [List.set_eq_take_append_cons_drop, if_pos hk, cellsOf_append, ← cellsOf_take, List.append_assoc]
  congr 1
  show Elem.enc x ++ cellsOf (xs.drop (k + 1)) = _
  rw [cellsOf_drop, Nat.succ_mul]
/-- where an element of a call's own row lies, and what the row is when it has been stored to -/
theorem Ow.setAt {α : Type} [Elem α] {w : World} {B : Nat} {ao : Option Addr} {n c k : Nat} {xs : List α} (h : Ow w B (.slice ao n c) xs) (hk : k < xs.length) (x : α) :
    ∃ g cur, ao = some ⟨g, 0, none⟩ ∧ B ≤ g ∧ n = xs.length ∧ n ≤ c ∧ c ≤ 9223372036854775807 ∧ w.heap[g]? = some (.cells cur (Elem.e α) (0, 0)) ∧ k * Elem.k α + Elem.k α ≤ cur.size ∧
      ∀ W, W.heap[g]? = some (.cells (cur.toList.take (k * Elem.k α) ++ Elem.enc x ++ cur.toList.drop (k * Elem.k α + Elem.k α)).toArray (Elem.e α) (0, 0)) → Ow W B (.slice ao n c) (xs.set k x) := by
  obtain ⟨h1, h2⟩ := h
  rcases h2 with ⟨h2, h3⟩ | ⟨g, cap, cur, hv, hg, hh, hnc, hc63, hsz, htk⟩
  · rw [h3] at hk; omega
  · simp only [Value.slice.injEq] at hv
    obtain ⟨rfl, rfl, rfl⟩ := hv
    have hpos : (k + 1) * Elem.k α ≤ xs.length * Elem.k α := Nat.mul_le_mul_right _ hk
    have hcap : xs.length * Elem.k α ≤ c * Elem.k α := Nat.mul_le_mul_right _ hnc
    have hk1 : (k + 1) * Elem.k α = k * Elem.k α + Elem.k α := Nat.succ_mul _ _
    have hle : (Elem.enc x).length = Elem.k α := Elem.len x
    have hcl : cur.toList.length = c * Elem.k α := by rw [Array.length_toList]; exact hsz
    have e1 : List.take (k * Elem.k α) (List.take (xs.length * Elem.k α) cur.toList) = List.take (k * Elem.k α) cur.toList := by rw [List.take_take, Nat.min_eq_left (by omega)]
    have e2 : List.drop (k * Elem.k α + Elem.k α) (List.take (xs.length * Elem.k α) cur.toList) = List.take (xs.length * Elem.k α - (k * Elem.k α + Elem.k α)) (List.drop (k * Elem.k α + Elem.k α) cur.toList) := List.drop_take ..
    have e3 : (List.take (k * Elem.k α) cur.toList ++ Elem.enc x).length = k * Elem.k α + Elem.k α := by rw [List.length_append, List.length_take, hle, hcl, Nat.min_eq_left (by omega)]
    refine ⟨g, cur, rfl, hg, rfl, hnc, hc63, hh, by omega, fun W hW => ⟨?_, .inr ⟨g, c, _, ?_, hg, hW, ?_, hc63, ?_, ?_⟩⟩⟩
    · rw [cellsOf_length, List.length_set]
    · rw [List.length_set]
    · rw [List.length_set]; exact hnc
    · rw [List.size_toArray, List.length_append, e3, List.length_drop, hcl]
      omega
    · rw [cellsOf_set xs k x hk, ← htk, List.length_set, e1, e2]
      show List.take _ (_ ++ List.drop _ _) = _
      rw [List.take_append, e3, List.take_of_length_le (by rw [e3]; omega)]

set_option maxRecDepth 100000 in
set_option maxHeartbeats 4000000 in
theorem refSet_any (w : World) (id ph : Int) (v : Value) (L : List Sd) (k : Nat) (x : Sd) (h : Sl w v L) (hk : k < L.length) (hl : L.length ≤ 1000) :
    Calls Try.prog 45 #[.agg #[.int .i64 id, .int .i64 ph, v], .int .i64 k, .agg x.cs] w fun e w' => ∃ v', e = .returned (.agg #[.int .i64 id, .int .i64 ph, v']) ∧ Ow w' w.heap.size v' (L.set k x) ∧ Ext w w' := by
  obtain ⟨ao, c, rfl⟩ := h.len
  obtain ⟨x0, x1, x2, x3, x4, x5, x6, x7⟩ := x
  unfold Sd.cs
  dsimp only
  obtain ⟨W0, hW0⟩ : ∃ W0, W0 = ((w.alloc (.cells #[.int .i64 id, .int .i64 ph, .slice ao L.length c] 25)).alloc (.cells #[.int .i64 x0, .int .i64 x1, .int .i64 x2, .bool x3, .bool x4, .bool x5, .bool x6, .bool x7] 53)).alloc (.cells #[.int .i64 0, .int .i64 0, .slice none 0 0] 25) := ⟨_, rfl⟩
  have hs0 : W0.heap.size = w.heap.size + 3 := by rw [hW0, size_alloc, size_alloc, size_alloc]
  have X0 : Hid (Ext w W0) := Lib.hid (hW0 ▸ (((Ext.refl w).alloc _).alloc _).alloc _)
  have hB0 : W0.heap[w.heap.size]? = some (.cells #[.int .i64 id, .int .i64 ph, .slice ao L.length c] 25 (0, 0)) := hW0 ▸ old1 (old1 (at0 w _) _) _
  have hB1 : W0.heap[w.heap.size + 1]? = some (.cells #[.int .i64 x0, .int .i64 x1, .int .i64 x2, .bool x3, .bool x4, .bool x5, .bool x6, .bool x7] 53 (0, 0)) := hW0 ▸ old1 (at1 w _ _) _
  have hB2 : W0.heap[w.heap.size + 2]? = some (.cells #[.int .i64 0, .int .i64 0, .slice none 0 0] 25 (0, 0)) := hW0 ▸ at2 w _ _ _
  have HW0 := Lib.hid hW0
  have HB0 := Lib.hid hB0
  have HB1 := Lib.hid hB1
  have HB2 := Lib.hid hB2
  have HS := Lib.hid (h.ext X0.out)
  clear h hW0 hB0 hB1 hB2
  go_enter Try.func45, Try.ntmps45
  go_upto_region 1 with (fail)
  rw [← HW0.out]
  have q2 : (W0.alloc (.cells #[] 53)).cell? ⟨w.heap.size, 2, none⟩ = some (.slice ao L.length c) := blk_cell (old1 HB0.out _) 2 rfl
  go_upto_region 2 with (first
    | (at_builtin; refine wpList_append_sl (α := Sd) rfl (.tmp 7) (.tmp 9) rfl (w.heap.size + 3) (.slice (some ⟨_, 0, none⟩) 0 0) [] rfl ?_ _ L rfl ?_ ?_ ?_ ?_; exact (Ow.litAt W0 _ _ hs0.symm (by omega) [] (by simp)); exact (HS.out.alloc _); (first | omega | (simp; omega)); exact (by rw [size_alloc]; omega); intro v6 W6 ho6 ha6; obtain ⟨a6, n6, c6, rfl⟩ := ho6.sh; have O6 : Hid (Ow W6 (w.heap.size + 3) (.slice a6 n6 c6) L) := Lib.hid ho6; have X6 : Hid (Below (w.heap.size + 3) W0 W6) := Lib.hid (Below.trans (hs0 ▸ Ext.alloc (Ext.refl W0) _) ha6.below); have b60 := blk_cell ((X6.out.block w.heap.size (by omega)).trans HB0.out) 2 rfl; have f60 := blk_free ((X6.out.block w.heap.size (by omega)).trans HB0.out) 2; clear ho6 ha6))
  obtain ⟨W7, hW7⟩ : ∃ W7, W7 = W6.setCell ⟨w.heap.size, 2, none⟩ (.slice a6 n6 c6) := ⟨_, rfl⟩
  have hb6 := (X6.out.block w.heap.size (by omega)).trans HB0.out
  have hd7 : W7.heap[w.heap.size]? = some (.cells #[.int .i64 id, .int .i64 ph, .slice a6 n6 c6] 25 (0, 0)) := by rw [hW7, blk_set hb6]; rfl
  have hx7 : W7.heap[w.heap.size + 1]? = some (.cells #[.int .i64 x0, .int .i64 x1, .int .i64 x2, .bool x3, .bool x4, .bool x5, .bool x6, .bool x7] 53 (0, 0)) := by rw [hW7, set_other _ _ _ _ (by show w.heap.size + 1 ≠ w.heap.size; omega)]; exact (X6.out.block _ (by omega)).trans HB1.out
  have hr7 : W7.heap[w.heap.size + 2]? = some (.cells #[.int .i64 0, .int .i64 0, .slice none 0 0] 25 (0, 0)) := by rw [hW7, set_other _ _ _ _ (by show w.heap.size + 2 ≠ w.heap.size; omega)]; exact (X6.out.block _ (by omega)).trans HB2.out
  have O7 : Ow W7 (w.heap.size + 3) (.slice a6 n6 c6) L := hW7 ▸ O6.out.set (d := ⟨w.heap.size, 2, none⟩) (by show w.heap.size < _; omega) _
  have X7 : Hid (Ext w W7) := Lib.hid (hW7 ▸ below_set (Below.trans X0.out (Below.mono X6.out (by omega))) (Nat.le_refl _) _)
  rw [← hW7]
  obtain ⟨g, cur, rfl, hg, rfl, hnc, hc63, hcur, hcsz, hput⟩ := O7.setAt hk ⟨x0, x1, x2, x3, x4, x5, x6, x7⟩
  have HD7 := Lib.hid hd7
  have HR7 := Lib.hid hr7
  have HCUR := Lib.hid hcur
  have HPUT := Lib.hid hput
  have HCS : Hid (k * 8 + 8 ≤ cur.size) := Lib.hid hcsz
  have d2 := blk_cell hd7 2 rfl
  obtain ⟨⟨⟨y0, y1⟩, y2, y3⟩, ⟨y4, y5⟩, y6, y7⟩ := cells8U hx7
  clear hW7 hb6 hd7 hx7 hr7 O7 O6 hcur hput hcsz q2 b60 f60 X6
  go_wp2_with (first | refine haltst 53 ?_)
  refine .inl ?_
  refine st_l 53 (.tmp 16) (.tmp 15) g (k * 8) 53 cur #[.int .i64 x0, .int .i64 x1, .int .i64 x2, .bool x3, .bool x4, .bool x5, .bool x6, .bool x7] _ rfl rfl HCUR.out (by kernel_rfl) HCS.out rfl rfl ?_
  intro W8 hW8 o8
  simp only [Act.put]
  have O8 := Lib.hid (HPUT.out W8 hW8)
  have X8 := Lib.hid (ext_off X7.out o8 (fun b hb => by omega))
  have hd8 := (o8.block w.heap.size (blk_lt HD7.out) (by omega)).trans HD7.out
  have HR8 := Lib.hid ((o8.block (w.heap.size + 2) (blk_lt HR7.out) (by omega)).trans HR7.out)
  have e0 := blk_cell hd8 0 rfl
  have e1 := blk_cell hd8 1 rfl
  have e2 := blk_cell hd8 2 rfl
  clear hW8 o8 hd8 d2 y0 y1 y2 y3 y4 y5 y6 y7
  go_wp2_with (first | refine haltst 25 ?_)
  refine .inl ?_
  refine st_l 25 (.tmp 6) (.tmp 17) (w.heap.size + 2) 0 25 #[.int .i64 0, .int .i64 0, .slice none 0 0] #[.int .i64 id, .int .i64 ph, .slice (some ⟨g, 0, none⟩) L.length c6] #[.int .i64 id, .int .i64 ph, .slice (some ⟨g, 0, none⟩) L.length c6] rfl rfl HR8.out (by kernel_rfl) (by simp) rfl rfl ?_
  intro W9 hW9 o9
  simp only [Act.put]
  go_wp2
  exact bodyPost_ret (v := .agg #[.int .i64 id, .int .i64 ph, .slice (some ⟨g, 0, none⟩) L.length c6]) (res_c rfl rfl hW9 uDiner (by kernel_rfl)) rfl ⟨_, rfl, Ow.mono (owU O8.out (fun b hb => o9.block b ((O8.out.low b hb).2) (by have := (O8.out.low b hb).1; omega))) (by omega), ext_off X8.out o9 (fun b hb => by omega)⟩

end Go.Proofs.Ytpjpjchnfllcmaa
