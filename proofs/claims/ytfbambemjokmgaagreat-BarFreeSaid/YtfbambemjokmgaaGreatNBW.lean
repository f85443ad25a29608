/- Texts of this seat. -/
import Derived.Test.YtfbambemjokmgaaGreatNAC
import Derived.Test.YtfbambemjokmgaaGreatNBR
import Derived.Test.YtfbambemjokmgaaGreatNBU
import Derived.Test.YtfbambemjokmgaaGreatNBV
namespace Go.Proofs.YtfbambemjokmgaaGreat
open Go.RowKit
theorem un8_len : ∀ f c : Nat, (un8 f c).length ≤ f
  | 0, _ => Nat.le_refl _
  | f + 1, c => by
    unfold un8
    split
    · exact Nat.zero_le _
    · rw [List.length_cons]; exact Nat.succ_le_succ (un8_len f _)
theorem Ed.fewOn {s : Ed} (h : s.ok = true) : s.m.length ≤ 4 ∧ s.n.length ≤ 4 := by
  unfold Ed.ok at h
  rw [Bool.and_eq_true, decide_eq_true_eq] at h
  have h2 := h.2
  rw [← h2]
  exact ⟨un8_len 4 _, un8_len 4 _⟩
theorem ss_few : ∀ {l : List Int} {a b : Int}, SS l → (∀ x ∈ l, a ≤ x ∧ x < b) → (l.length : Int) ≤ max 0 (b - a)
  | [], a, b, _, _ => by simp; omega
  | x :: l, a, b, h, hr => by
    obtain ⟨h1, h2⟩ := List.pairwise_cons.1 h
    have hx := hr x (List.mem_cons_self ..)
    have ih := ss_few (l := l) (a := x + 1) (b := b) h2 fun y hy => ⟨by have := h1 y hy; omega, (hr y (List.mem_cons_of_mem _ hy)).2⟩
    rw [List.length_cons]
    omega
theorem edges_ten {N : Int} {E : List Edge} (ok : OkG N E) (hN : N ≤ 10) : E.length ≤ 100 := by
  have h1 : SS (E.map fun e => e.a * 10 + e.b) := by
    unfold SS
    rw [List.pairwise_map]
    refine ok.rise.imp_of_mem fun {x y} hx hy h => ?_
    have q1 := ok.each x hx
    have q2 := ok.each y hy
    unfold ahead at h
    simp only [Bool.or_eq_true, Bool.and_eq_true, decide_eq_true_eq] at h
    omega
  have h2 := ss_few (a := 0) (b := 100) h1 fun x hx => by
    obtain ⟨e, he, rfl⟩ := List.mem_map.1 hx
    have q1 := ok.each e he
    omega
  rw [List.length_map] at h2
  omega
section
variable {N : Int} {E : List Edge} {ds : List Dk} {ms : List Ml}
theorem GoodBE.sm (ok : OkG N E) (hN : N ≤ 10) (h : GoodBE N E ds ms) : SmB ds ms := by
  have hlen := h.len
  have n64 := ok.n64
  have hn := NB.ofE ok
  obtain ⟨X, P, T, M, rfl, hb, hr⟩ := h
  have hd : ∀ d ∈ drOf N.toNat (nbE N E) X P T M, ∃ i, i < N.toNat ∧ d = dkOf (nbE N E) X P T M i := fun d hd => by
    unfold drOf at hd
    obtain ⟨i, hi, rfl⟩ := List.mem_map.1 hd
    exact ⟨i, List.mem_range.1 hi, rfl⟩
  refine ⟨by omega, fun d hdm => ?_, fun d hdm => ?_, ?_⟩
  · obtain ⟨i, hi, rfl⟩ := hd d hdm
    have := chk_dn (hb.chk hn (by omega) (by omega) (by omega) hi)
    unfold Dk.dn dnOk headD at this
    simp only [Bool.and_eq_true, decide_eq_true_eq] at this
    omega
  · obtain ⟨i, hi, rfl⟩ := hd d hdm
    have hs := (riseB_iff _).1 (hb.c.nd i hi).2.1
    have := ss_few (a := 0) (b := 64) hs fun x hx => by
      obtain ⟨k, hk, rfl⟩ := (hb.c.nd i hi).2.2 x hx
      have := (hn.back i k hi hk).1
      omega
    show (M i).length ≤ 100
    omega
  · obtain ⟨e1, e2⟩ := edges_two ok
    have q : ms.length ≤ tot (E.map fun e => (e.a.toNat, e.b.toNat)) ms := len_tot fun m hm => by
      obtain ⟨i, k, hi, hk, m1, m2⟩ := (hb.c.mail m hm).1
      rcases e2 i k hi hk with e | e
      · exact ⟨_, e, .inl ⟨m1, m2⟩⟩
      · exact ⟨_, e, .inr ⟨m1, m2⟩⟩
    have q2 : tot (E.map fun e => (e.a.toNat, e.b.toNat)) ms ≤ 8 * (E.map fun e => (e.a.toNat, e.b.toNat)).length := sum_const fun e he => by
      have := Ed.fewOn (hb.edge e.1 e.2 (e1 e he).1 (e1 e he).2)
      have f1 : (eg X P T M ms e.1 e.2).m.length = (chan ms e.1 e.2).length := List.length_map ..
      have f2 : (eg X P T M ms e.1 e.2).n.length = (chan ms e.2 e.1).length := List.length_map ..
      rw [f1, f2] at this
      omega
    have q3 := edges_ten ok hN
    rw [List.length_map] at q2
    omega
theorem GoodBE.edge (ok : OkG N E) (h : GoodBE N E ds ms) {e : Edge} (he : e ∈ E) : ∃ (A B : Nat) (iA pA tA iB pB tB : Int) (SA SB : List Sd) (NA NB : List Int) (x y : Sd), e = ⟨A, B⟩ ∧ ds[A]? = some ⟨iA, pA, SA, tA, NA⟩ ∧ ds[B]? = some ⟨iB, pB, SB, tB, NB⟩ ∧ A ≠ B ∧
    sideR SA B = (x, true) ∧ sideR SB A = (y, true) ∧ x.epoch = y.epoch ∧ ∀ q : Int, (q = 1 ∨ q = 2 ∨ q = 3 ∨ q = 4) → cntB x y ms A B q = 1 := by
  obtain ⟨X, P, T, M, rfl, hb, hr⟩ := h
  have hn := NB.ofE ok
  obtain ⟨i, k, rfl, hi, hk, h1, h2⟩ := edge_nb ok he
  have hne := (hn.back i k hi h1).2.1
  exact ⟨i, k, i, P i, T i, k, P k, T k, _, _, _, _, X i k, X k i, rfl, dr_get hi, dr_get hk, fun q => hne q.symm, hb.c.sideR hn hi h1, hb.c.sideR hn hk h2, by rw [(hb.c.pr i k hi h1).2.1, (hb.c.pr k i hk h2).2.1], fun q hq => hb.count hn hi h1 hq⟩
theorem cntS_cntB (x y : Sd) (ms : List Ml) (a b : Int) : cntS x y ms a b 1 = cntB x y ms a b 1 ∧ cntS x y ms a b 2 = cntB x y ms a b 2 := by
  unfold cntS cntB
  have h : ∀ q : Int, (fun m : Ml => betweenB a b m && m.kind == q && m.epoch == x.epoch) = fun m => betweenB a b m && (m.kind == q && m.epoch == x.epoch) := fun q => funext fun m => Bool.and_assoc _ _ _
  constructor
  · simp [hasS, Bool.and_assoc]
  · simp [hasS, Bool.and_assoc]
end
end Go.Proofs.YtfbambemjokmgaaGreat
namespace Go.Proofs.YtfbambemjokmgaaGreat
open Go.RowKit
def BRt (W : World) (g : Nat) (ds : List Dk) (ms : List Ml) : Prop := ∃ a n c b m d, W.heap[g]? = some (.cells #[.slice a n c, .slice b m d] 25 (0, 0)) ∧ BV W (.slice a n c) (.slice b m d) ds ms
def YesB (w : World) (N : Int) (E : List Edge) (g : FuncId) (lb : Array Value) : Prop := ∀ W vd vm ds ms, Ext w W → BV W vd vm ds ms → GoodBE N E ds ms → Calls Tryz.prog g (#[.agg #[vd, vm]] ++ lb) W fun e W' => e = .returned (.bool true) ∧ Ext W W'
def GivesYB (w : World) (N : Int) (E : List Edge) (e : Ending) (w' : World) : Prop := ∃ vd vm ds ms, e = .returned (.tuple #[.agg #[vd, vm], .bool true]) ∧ BV w' vd vm ds ms ∧ GoodBE N E ds ms ∧ Ext w w'
set_option maxRecDepth 100000 in
set_option maxHeartbeats 32000000 in
theorem runB_any (w : World) (N : Int) (gv lv : Value) (E : List Edge) (l : List Akt) (h : Sl w gv E) (hl : Ns AV Non w lv l) (ok : OkG N E) (hN10 : N ≤ 10) (hf20 : ∀ x ∈ l, x.2.2.2.length ≤ 20) (g : FuncId) (lb : Array Value)
    (eg : ∀ args w, (callFunc g args).run Tryz.prog w = .ok (.enter g args) w) (hy : YesB w N E g lb) :
    Calls Tryz.prog 29 #[.agg #[.int .i64 N, gv], lv, .func (.func g) #[] lb] w (GivesYB w N E) := by
  obtain ⟨vo, vn, vc, rfl⟩ := h.sh
  obtain ⟨lo, lc, rfl⟩ := hl.len
  have hll := hl.length_le
  obtain ⟨K, hK⟩ := ends_some ok
  obtain ⟨W0, hW0⟩ : ∃ W0, W0 = (w.alloc (.cells #[.int .i64 N, .slice vo vn vc] 53)).alloc (.cells #[.slice none 0 0, .slice none 0 0] 25) := ⟨_, rfl⟩
  have X0 : Hid (Ext w W0) := Lib.hid (hW0 ▸ ((Ext.refl w).alloc _).alloc _)
  have B0 : Hid (W0.heap[w.heap.size]? = some (.cells #[.int .i64 N, .slice vo vn vc] 53 (0, 0))) := Lib.hid (hW0 ▸ old1 (at0 w _) _)
  have R0 : Hid (W0.heap[w.heap.size + 1]? = some (.cells #[.slice none 0 0, .slice none 0 0] 25 (0, 0))) := Lib.hid (hW0 ▸ at1 w _ _)
  have HW0 := Lib.hid hW0
  have HG := Lib.hid (h.ext X0.out)
  have HL := Lib.hid hl
  have HOK := Lib.hid ok
  have HKE := Lib.hid hK
  have HN10 := Lib.hid hN10
  have HF20 := Lib.hid hf20
  have HY := Lib.hid hy
  obtain ⟨k0, k1⟩ := cells2S B0.out
  have hfew := ok.few
  clear h hl hW0 ok hK hy hN10 hf20
  go_enter Tryz.func29, Tryz.ntmps29
  go_upto_region 1 with (fail)
  rw [← HW0.out]
  go_wp2_with (first
    | (go_at_call 44; refine (own_any W0 N _ E HG.out (by omega)).mono ?_; rintro e u1 ⟨v1, rfl, s1, hx⟩; obtain ⟨go_, gn, gc, rfl⟩ := s1.sh; have S1 := Lib.hid s1; have Y1 : Hid (Ext W0 u1) := Lib.hid hx; clear s1 hx)
    | (go_at_call 43; refine (bNew_ok u1 N _ E S1.out HOK.out K HKE.out).mono ?_; rintro e u2 ⟨vd, vm, rfl, sv, hx⟩; dsimp only at sv ⊢; obtain ⟨a1, n1, c1, b1, m1, d1, rfl, rfl⟩ := sv.sh; have U2 := Lib.hid sv; have Y2 := Lib.hid (Y1.out.trans hx); clear sv hx)
    | refine haltst 25 ?_)
  refine .inl ?_
  obtain ⟨g8, hg8⟩ : ∃ g, g = u2.heap.size := ⟨_, rfl⟩
  have hg8w : W0.heap.size ≤ g8 := hg8 ▸ Below.size Y2.out
  have G8 := Lib.hid (at0 u2 (.cells #[.slice none 0 0, .slice none 0 0] 25))
  rw [← hg8] at G8 ⊢
  replace hg8 := Lib.hid hg8
  refine st_l 25 (.tmp 8) (.tmp 17) g8 0 25 _ #[.slice a1 n1 c1, .slice b1 m1 d1] _ rfl rfl G8.out (by kernel_rfl) (by simp) rfl rfl ?_
  intro W1 hW1 o1
  simp only [Act.put]
  have X1 : Hid (Ext W0 W1) := Lib.hid (ext_off (Y2.out.alloc _) o1 (fun b hb => by omega))
  obtain ⟨ds0, hds0⟩ : ∃ ds, ds = firstB (tableL N E (itr N E K)) := ⟨_, rfl⟩
  have HG0 : Hid (GoodBE N E ds0 []) := Lib.hid (hds0 ▸ GoodBE.new (HKE.out.right HOK.out))
  rw [← hds0] at U2
  have V1 := Lib.hid ((U2.out.ext ((Ext.refl _).alloc _)).off G8.out o1)
  have B1 := Lib.hid hW1
  have hw0 : W0.heap.size = w.heap.size + 2 := by rw [HW0.out, size_alloc, size_alloc]
  replace hw0 := Lib.hid hw0
  clear hW1 o1 U2 G8 hds0 S1 k0 k1
  obtain ⟨k0, k1⟩ := cells2S B1.out
  have HY1 := Lib.hid (HY.out W1 _ _ ds0 [] (X0.out.trans X1.out) V1.out HG0.out)
  go_upto_region 4 with (first
    | (go_at_fn g; refine HY1.out.mono ?_; rintro e u3 ⟨rfl, hx⟩; have Y3 := Lib.hid hx; clear hx))
  have HI : Hid (∃ ds ms, GoodBE N E ds ms ∧ BRt u3 g8 ds ms) := Lib.hid ⟨ds0, [], HG0.out, _, _, _, _, _, _, keepU B1.out Y3.out, V1.out.ext Y3.out⟩
  have XI : Hid (Ext W0 u3) := Lib.hid (X1.out.trans Y3.out)
  have RI := Lib.hid (keepU R0.out XI.out)
  clear k0 k1 HY1 V1 B1
  go_wp2
  go_loopw [10] (fun i wr => ∃ k : Nat, k ≤ l.length ∧ i = .int .i64 k ∧ Hid (∃ ds ms, GoodBE N E ds ms ∧ BRt wr g8 ds ms) ∧ Hid (wr.heap[w.heap.size + 1]? = some (.cells #[.slice none 0 0, .slice none 0 0] 25 (0, 0))) ∧ Hid (Ext w wr)) (fun i _ => l.length - (intOf i).toNat)
  case atStart => exact ⟨0, Nat.zero_le _, rfl, HI, RI, Lib.hid (X0.out.trans XI.out)⟩
  case round =>
    obtain ⟨k, hk, rfl, HS, HR, HX⟩ := hrel
    obtain ⟨ds, ms, hgd, sa, sn, sc, sb, sm, sd, hbx, hsv⟩ := HS.out
    have HGD := Lib.hid hgd
    have HBX := Lib.hid hbx
    have HSV := Lib.hid hsv
    have HSM := Lib.hid (hgd.sm HOK.out HN10.out)
    clear hgd hbx hsv HS
    by_cases hlt : k < l.length
    · obtain ⟨ba, oa, aso, asc, y, hyk, hlo, hn0, hnc, hc63, hba, hasl, hcell⟩ := HL.out.actAt hlt
      subst hlo
      have haq : y.2.2.2.length ≤ 20 := HF20.out y (List.mem_of_getElem? hyk)
      obtain ⟨ak, aa, ab, aq⟩ := y
      dsimp only at hcell hasl haq
      have HAS := Lib.hid (hasl.sl.ext HX.out)
      have HAC : Hid (∀ V, Ext wr V → _) := Lib.hid fun V hV => hcell V (HX.out.trans hV)
      obtain ⟨⟨⟨ds2, ms2⟩, er⟩, hq⟩ : ∃ q, stepBB ds ms (actN ak) aa ab aq = q := ⟨_, rfl⟩
      have HQ := Lib.hid hq
      have HER : Hid (er = 0 ∧ GoodBE N E ds2 ms2 ∨ er = 151 ∨ er = 152 ∨ er = 161 ∨ er = 162) := Lib.hid (by
        rw [HGD.out.stepBB HOK.out] at hq
        rcases HGD.out.step HOK.out (a := aa) (b := ab) (Q := aq) (actN_is ak) with ⟨e, h⟩ | ⟨_, e⟩
        · rw [hq] at e h; exact .inl ⟨e, h⟩
        · rw [hq] at e; exact .inr e)
      have hki : (k : Int) < (l.length : Int) := by omega
      clear hcell hyk hn0 hq hasl
      go_upto_region 7 with (fail)
      go_cut [11, 12] (fun s11 s12 wx => ∃ g, s11 = .pointer (some ⟨g, 0, none⟩) ∧ s12 = .int .i64 er ∧ Hid (BRt wx g ds2 ms2) ∧ Hid (Ext wr wx) ∧ wr.heap.size ≤ g)
      case first =>
        go_wp2_with fail
        (refine wp_region_X_lit (K := fun V => Ext wr V) (by kernel_rfl) (fun w1 hw1 => ?_))
        have Z1 : Hid (Ext wr w1) := Lib.hid hw1
        clear hw1
        refine xtv 0 (hv := by intro w' hw'; obtain ⟨c0, c1⟩ := cells2S (keepU HBX.out hw'); go_simp; first | done | with_reducible rfl) (h := ?_)
        refine xtv 2 (h := ?_)
        refine xtv 3 (h := ?_)
        refine xtv 4 (hv := by intro w' hw'; have hz := hki; go_simp; first | done | with_reducible rfl) (h := ?_)
        refine xtv 5 (hv := by intro w' hw'; obtain ⟨⟨c0, c1⟩, c2, c3⟩ := HAC.out w' hw'; go_simp; first | done | with_reducible rfl) (h := ?_)
        refine xtwo 1 10 (hk := Z1.out) (h := RunX.of 1 (h := ?_)) (h' := RunX.of 10 (h := ?_))
        · go_simp
          refine (ownB_any w1 _ _ ds ms (HSV.out.ext Z1.out) HSM.out).mono ?_
          rintro e3 w3 ⟨vd3, vm3, rfl, sv3, x3⟩
          obtain ⟨a3, n3, c3, b3, m3, d3, rfl, rfl⟩ := sv3.sh
          have S3 := Lib.hid sv3
          have Y3 : Hid (Ext wr w3) := Lib.hid (Ext.trans Z1.out x3)
          clear sv3 x3
          dsimp only
          (try (simp only [Act.put, List.setIfInBounds_toArray, List.set]))
          refine xtwo 6 10 (hk := Y3.out) (h := RunX.of 6 (h := ?_)) (h' := RunX.of 10 (h := ?_))
          · go_simp
            refine (HQ.out ▸ actB_any w3 _ _ _ ds ms (S3.out.ext (Ext.refl _)) HSM.out ak aa ab aq (HAS.out.ext Y3.out) (by omega)).mono ?_
            rintro e4 w4 ⟨vd4, vm4, rfl, sv4, x4⟩
            dsimp only at sv4 ⊢
            obtain ⟨a4, n4, c4, b4, m4, d4, rfl, rfl⟩ := sv4.sh
            have S4 := Lib.hid sv4
            have Y4 : Hid (Ext wr w4) := Lib.hid (Ext.trans Y3.out x4)
            have Z4 := Lib.hid x4
            clear sv4 x4
            (try (simp only [Act.put, List.setIfInBounds_toArray, List.set]))
            refine xtv 7 (h := ?_)
            refine xtv 8 (h := ?_)
            refine xtv 9 (h := ?_)
            refine xone 10 (hk := Y4.out) (h := RunX.of 10 (h := ?_))
            go_simp
            (try (simp only [Act.put, List.setIfInBounds_toArray, List.set]))
            obtain ⟨gx, hgx⟩ : ∃ g, g = w4.heap.size := ⟨_, rfl⟩
            obtain ⟨w5, hw5⟩ : ∃ q, q = w4.alloc (.cells #[.slice none 0 0, .slice none 0 0] 25) := ⟨_, rfl⟩
            have B5 : Hid (w5.heap[gx]? = some (.cells #[.slice none 0 0, .slice none 0 0] 25 (0, 0))) := Lib.hid (hw5 ▸ hgx ▸ at0 w4 _)
            have Y5 : Hid (Ext wr w5) := Lib.hid (hw5 ▸ Y4.out.alloc _)
            have Z5 : Hid (Ext w4 w5) := Lib.hid (hw5 ▸ (Ext.refl _).alloc _)
            have hgw : wr.heap.size ≤ gx := hgx ▸ Below.size Y4.out
            rw [← hw5, ← hgx]
            clear hw5 hgx
            refine xone 11 (hk := Y5.out) (h := RunX.of 11 (h := ?_))
            refine wp_st 25 (.tmp 11) (.tmp 42) rfl gx 0 25 #[.slice none 0 0, .slice none 0 0] #[.slice a4 n4 c4, .slice b4 m4 d4] _ rfl rfl B5.out (by kernel_rfl) (by simp) rfl rfl ?_
            intro WB hWB oB
            simp only [Act.put]
            have YB : Hid (Ext wr WB) := Lib.hid (ext_off Y5.out oB (fun b hb => by omega))
            have SB1 : Hid (BRt WB gx ds2 ms2) := Lib.hid ⟨_, _, _, _, _, _, hWB, BV.off (S4.out.ext Z5.out) B5.out oB⟩
            clear hWB oB
            refine xtv 12 (h := ?_)
            (refine xdone (by kernel_rfl) (YB.out) ?_)
            go_wp2_with fail
            go_meet
            exact ⟨gx, rfl, rfl, SB1, YB, hgw⟩
          · go_simp
            (try (simp only [Act.put, List.setIfInBounds_toArray, List.set]))
            obtain ⟨gx, hgx⟩ : ∃ g, g = w3.heap.size := ⟨_, rfl⟩
            obtain ⟨w5, hw5⟩ : ∃ q, q = w3.alloc (.cells #[.slice none 0 0, .slice none 0 0] 25) := ⟨_, rfl⟩
            have B5 : Hid (w5.heap[gx]? = some (.cells #[.slice none 0 0, .slice none 0 0] 25 (0, 0))) := Lib.hid (hw5 ▸ hgx ▸ at0 w3 _)
            have Y5 : Hid (Ext wr w5) := Lib.hid (hw5 ▸ Y3.out.alloc _)
            have Z5 : Hid (Ext w3 w5) := Lib.hid (hw5 ▸ (Ext.refl _).alloc _)
            have hgw : wr.heap.size ≤ gx := hgx ▸ Below.size Y3.out
            rw [← hw5, ← hgx]
            clear hw5 hgx
            refine xone 6 (hk := Y5.out) (h := RunX.of 6 (h := ?_))
            go_simp
            refine (HQ.out ▸ actB_any w5 _ _ _ ds ms (S3.out.ext Z5.out) HSM.out ak aa ab aq (HAS.out.ext Y5.out) (by omega)).mono ?_
            rintro e4 w4 ⟨vd4, vm4, rfl, sv4, x4⟩
            dsimp only at sv4 ⊢
            obtain ⟨a4, n4, c4, b4, m4, d4, rfl, rfl⟩ := sv4.sh
            have S4 := Lib.hid sv4
            have Y4 : Hid (Ext wr w4) := Lib.hid (Ext.trans Y5.out x4)
            have Z4 := Lib.hid x4
            clear sv4 x4
            (try (simp only [Act.put, List.setIfInBounds_toArray, List.set]))
            refine xtv 7 (h := ?_)
            refine xtv 8 (h := ?_)
            refine xtv 9 (h := ?_)
            refine xone 11 (hk := Y4.out) (h := RunX.of 11 (h := ?_))
            refine wp_st 25 (.tmp 11) (.tmp 42) rfl gx 0 25 #[.slice none 0 0, .slice none 0 0] #[.slice a4 n4 c4, .slice b4 m4 d4] _ rfl rfl (keepU B5.out Z4.out) (by kernel_rfl) (by simp) rfl rfl ?_
            intro WB hWB oB
            simp only [Act.put]
            have YB : Hid (Ext wr WB) := Lib.hid (ext_off Y4.out oB (fun b hb => by omega))
            have SB1 : Hid (BRt WB gx ds2 ms2) := Lib.hid ⟨_, _, _, _, _, _, hWB, BV.off S4.out (keepU B5.out Z4.out) oB⟩
            clear hWB oB
            refine xtv 12 (h := ?_)
            (refine xdone (by kernel_rfl) (YB.out) ?_)
            go_wp2_with fail
            go_meet
            exact ⟨gx, rfl, rfl, SB1, YB, hgw⟩
        · go_simp
          (try (simp only [Act.put, List.setIfInBounds_toArray, List.set]))
          obtain ⟨gx, hgx⟩ : ∃ g, g = w1.heap.size := ⟨_, rfl⟩
          obtain ⟨w2, hw2⟩ : ∃ q, q = w1.alloc (.cells #[.slice none 0 0, .slice none 0 0] 25) := ⟨_, rfl⟩
          have B2 : Hid (w2.heap[gx]? = some (.cells #[.slice none 0 0, .slice none 0 0] 25 (0, 0))) := Lib.hid (hw2 ▸ hgx ▸ at0 w1 _)
          have Y2 : Hid (Ext wr w2) := Lib.hid (hw2 ▸ Z1.out.alloc _)
          have Z2 : Hid (Ext w1 w2) := Lib.hid (hw2 ▸ (Ext.refl _).alloc _)
          have hgw : wr.heap.size ≤ gx := hgx ▸ Below.size Z1.out
          rw [← hw2, ← hgx]
          clear hw2 hgx
          refine xone 1 (hk := Y2.out) (h := RunX.of 1 (h := ?_))
          go_simp
          refine (ownB_any w2 _ _ ds ms (HSV.out.ext Y2.out) HSM.out).mono ?_
          rintro e3 w3 ⟨vd3, vm3, rfl, sv3, x3⟩
          obtain ⟨a3, n3, c3, b3, m3, d3, rfl, rfl⟩ := sv3.sh
          have S3 := Lib.hid sv3
          have Y3 : Hid (Ext wr w3) := Lib.hid (Ext.trans Y2.out x3)
          have Z3 := Lib.hid x3
          clear sv3 x3
          dsimp only
          (try (simp only [Act.put, List.setIfInBounds_toArray, List.set]))
          refine xone 6 (hk := Y3.out) (h := RunX.of 6 (h := ?_))
          go_simp
          refine (HQ.out ▸ actB_any w3 _ _ _ ds ms (S3.out.ext (Ext.refl _)) HSM.out ak aa ab aq (HAS.out.ext Y3.out) (by omega)).mono ?_
          rintro e4 w4 ⟨vd4, vm4, rfl, sv4, x4⟩
          dsimp only at sv4 ⊢
          obtain ⟨a4, n4, c4, b4, m4, d4, rfl, rfl⟩ := sv4.sh
          have S4 := Lib.hid sv4
          have Y4 : Hid (Ext wr w4) := Lib.hid (Ext.trans Y3.out x4)
          have Z4 := Lib.hid x4
          clear sv4 x4
          (try (simp only [Act.put, List.setIfInBounds_toArray, List.set]))
          refine xtv 7 (h := ?_)
          refine xtv 8 (h := ?_)
          refine xtv 9 (h := ?_)
          refine xone 11 (hk := Y4.out) (h := RunX.of 11 (h := ?_))
          refine wp_st 25 (.tmp 11) (.tmp 42) rfl gx 0 25 #[.slice none 0 0, .slice none 0 0] #[.slice a4 n4 c4, .slice b4 m4 d4] _ rfl rfl (keepU (keepU B2.out Z3.out) Z4.out) (by kernel_rfl) (by simp) rfl rfl ?_
          intro WB hWB oB
          simp only [Act.put]
          have YB : Hid (Ext wr WB) := Lib.hid (ext_off Y4.out oB (fun b hb => by omega))
          have SB1 : Hid (BRt WB gx ds2 ms2) := Lib.hid ⟨_, _, _, _, _, _, hWB, BV.off S4.out (keepU (keepU B2.out Z3.out) Z4.out) oB⟩
          clear hWB oB
          refine xtv 12 (h := ?_)
          (refine xdone (by kernel_rfl) (YB.out) ?_)
          go_wp2_with fail
          go_meet
          exact ⟨gx, rfl, rfl, SB1, YB, hgw⟩
      case rest =>
        obtain ⟨gt, rfl, rfl, HT, HX2, hgt⟩ := hcut
        obtain ⟨WC, hWC⟩ : ∃ q, q = wc := ⟨_, rfl⟩
        rw [← hWC] at HT HX2 ⊢
        clear hWC
        have hg8r : g8 < wr.heap.size := blk_lt HBX.out
        have XC : Hid (Ext w WC) := Lib.hid (HX.out.trans HX2.out)
        have BC := Lib.hid (keepU HBX.out HX2.out)
        have RC := Lib.hid (keepU HR.out HX2.out)
        have VC := Lib.hid (HSV.out.ext HX2.out)
        obtain ⟨k0, k1⟩ := cells2S BC.out
        by_cases he : er = 0
        · subst he
          have HG2 : Hid (GoodBE N E ds2 ms2) := Lib.hid (by
            rcases HER.out with ⟨_, h⟩ | h | h | h | h
            · exact h
            all_goals omega)
          obtain ⟨ta, tn, tc, tb, tm, td, htb, htv⟩ := HT.out
          obtain ⟨j0, j1⟩ := cells2S htb
          have HTV := Lib.hid htv
          clear htb htv
          go_wp2_with (first | refine haltst 25 ?_)
          refine .inl ?_
          refine st_l 25 (.tmp 8) (.tmp 65) g8 0 25 _ #[.slice ta tn tc, .slice tb tm td] _ rfl rfl BC.out (by kernel_rfl) (by simp) rfl rfl ?_
          intro W5 hW5 o5
          simp only [Act.put]
          have X5 : Hid (Ext w W5) := Lib.hid (ext_off XC.out o5 (fun b hb => by have := hw0.out; omega))
          have R5 := Lib.hid (o5.blk RC.out (by have := hw0.out; omega))
          have V5 := Lib.hid (HTV.out.off BC.out o5)
          have B5 := Lib.hid hW5
          clear hW5 o5 k0 k1 j0 j1
          obtain ⟨k0, k1⟩ := cells2S B5.out
          have HY5 := Lib.hid (HY.out W5 _ _ ds2 ms2 X5.out V5.out HG2.out)
          go_wp2_with (first
            | (go_at_fn g; refine HY5.out.mono ?_; rintro e u6 ⟨rfl, hx⟩; have Y6 := Lib.hid hx; clear hx))
          go_roundw
          case rel => exact ⟨k + 1, by omega, by go_num, Lib.hid ⟨ds2, ms2, HG2.out, _, _, _, _, _, _, keepU B5.out Y6.out, V5.out.ext Y6.out⟩, Lib.hid (keepU R5.out Y6.out), Lib.hid (X5.out.trans Y6.out)⟩
          case measure => simp [intOf]; omega
        · have HER2 : er = 151 ∨ er = 152 ∨ er = 161 ∨ er = 162 := by
            rcases HER.out with ⟨h, _⟩ | h
            · exact absurd h he
            · exact h
          have HY5 := Lib.hid (HY.out WC _ _ ds ms XC.out VC.out HGD.out)
          clear HER
          rcases HER2 with rfl | rfl | rfl | rfl
          all_goals
            clear he
            go_wp2_with (first
              | (go_at_fn g; refine HY5.out.mono ?_; rintro e u6 ⟨rfl, hx⟩; have Y6 := Lib.hid hx; clear hx))
            go_roundw
            case rel => exact ⟨k + 1, by omega, by go_num, Lib.hid ⟨ds, ms, HGD.out, _, _, _, _, _, _, keepU BC.out Y6.out, VC.out.ext Y6.out⟩, Lib.hid (keepU RC.out Y6.out), Lib.hid (XC.out.trans Y6.out)⟩
            case measure => simp [intOf]; omega
    · obtain ⟨k0, k1⟩ := cells2S HBX.out
      go_upto_region 14 with (fail)
      go_wp2_with (first | refine haltst 25 ?_)
      refine .inl ?_
      refine st_l 25 (.tmp 6) (.tmp 71) (w.heap.size + 1) 0 25 _ #[.slice sa sn sc, .slice sb sm sd] _ rfl rfl HR.out (by kernel_rfl) (by simp) rfl rfl ?_
      intro W9 hW9 o9
      simp only [Act.put]
      go_wp2
      exact bodyPost_ret (v := .tuple #[.agg #[.slice sa sn sc, .slice sb sm sd], .bool true]) (res_ct 7 rfl rfl hW9 uBar (by kernel_rfl)) rfl ⟨_, _, ds, ms, rfl, HSV.out.off HR.out o9, HGD.out, ext_off HX.out o9 (fun b hb => by omega)⟩
end Go.Proofs.YtfbambemjokmgaaGreat
