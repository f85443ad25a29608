/- Layer 14, the law: a graph's scene behind acts, and a question asked of it act by act. -/
import Derived.Test.YtdfleocknaackaaGreatMVA
import Derived.Test.YtdfleocknaackaaGreatMG7
namespace Go.Proofs.YtdfleocknaackaaGreat
open Go.RowKit

/-- an act -/
structure Ak where
  k : Int
  a : Int
  b : Int
instance : Elem Ak where
  e := 70
  t := 25
  k := 3
  bytes := 24
  z := .agg #[.int .i64 0, .int .i64 0, .int .i64 0]
  enc := fun x => [.int .i64 x.k, .int .i64 x.a, .int .i64 x.b]
  dflt := ⟨0, 0, 0⟩
  len := fun _ => rfl
  pos := by decide
  one := fun x u hu => by simp at hu; rcases hu with rfl | rfl | rfl <;> rfl
  row := by kernel_rfl
  info := by kernel_rfl
  zsize := rfl
  few := by decide
theorem acts_at {w : World} {ao : Option Addr} {n c : Nat} {L : List Ak} (h : Sl w (.slice ao n c) L) {k : Nat} (hk : k < L.length) :
    ∃ b off, ∃ y : Ak, L[k]? = some y ∧ ao = some ⟨b, off, none⟩ ∧ n = L.length ∧ n ≤ c ∧ c ≤ 9223372036854775807 ∧ b < w.heap.size ∧
      ∀ W, Ext w W → W.cell? ⟨b, off + k * 3, none⟩ = some (.int .i64 y.k) ∧ W.cell? ⟨b, off + k * 3 + 1, none⟩ = some (.int .i64 y.a) ∧ W.cell? ⟨b, off + k * 3 + 2, none⟩ = some (.int .i64 y.b) := by
  rcases h.parts with ⟨rfl, _⟩ | ⟨b, off, c', hv, h1, h2, h3, _, h4⟩
  · simp at hk
  · simp only [Value.slice.injEq] at hv
    obtain ⟨rfl, rfl, rfl⟩ := hv
    refine ⟨b, off, L[k], List.getElem?_eq_getElem hk, rfl, rfl, h1, h2, h3, fun W hW => ?_⟩
    have g : ∀ i u, (Elem.enc L[k])[i]? = some u → W.cell? ⟨b, off + k * 3 + i, none⟩ = some u := fun i u hu => by
      have := h4 k _ (List.getElem?_eq_getElem hk) i u hu
      rw [show off + (k * Elem.k Ak + i) = off + k * 3 + i from by show off + (k * 3 + i) = _; omega] at this
      exact (hW.cell (p := ⟨b, off + k * 3 + i, none⟩) h3).trans this
    exact ⟨g 0 _ rfl, g 1 _ rfl, g 2 _ rfl⟩

/-- a scene's block -/
def SB (W : World) (g : Nat) (ds : List Dn) (ms : List Ml) : Prop := ∃ a n c b m d, W.heap[g]? = some (.cells #[.slice a n c, .slice b m d] 31 (0, 0)) ∧ SV W (.slice a n c) (.slice b m d) ds ms
theorem SB.ext {W W' : World} {g : Nat} {ds : List Dn} {ms : List Ml} (h : SB W g ds ms) (x : Ext W W') : SB W' g ds ms := by
  obtain ⟨a, n, c, b, m, d, h1, h2⟩ := h
  exact ⟨a, n, c, b, m, d, keepU h1 x, h2.ext x⟩
/-- what a question, asked of good scenes, answers: yes -/
def Yes (w : World) (N : Int) (E : List Edge) (g : FuncId) (lb : Array Value) : Prop := ∀ W vd vm ds ms, Ext w W → SV W vd vm ds ms → GoodE N E ds ms → Calls Tryz.prog g (#[.agg #[vd, vm]] ++ lb) W fun e W' => e = .returned (.bool true) ∧ Ext W W'

/-- a good scene is answered, and yes -/
def GivesY (w : World) (N : Int) (E : List Edge) (e : Ending) (w' : World) : Prop := ∃ vd vm ds ms, e = .returned (.tuple #[.agg #[vd, vm], .bool true]) ∧ SV w' vd vm ds ms ∧ GoodE N E ds ms ∧ Ext w w'

set_option maxRecDepth 100000 in
set_option maxHeartbeats 32000000 in
theorem runT_any (w : World) (N : Int) (gv lv : Value) (E : List Edge) (l : List Ak) (h : Sl w gv E) (hl : Sl w lv l) (ok : OkG N E) (g : FuncId) (lb : Array Value)
    (eg : ∀ args w, (callFunc g args).run Tryz.prog w = .ok (.enter g args) w) (hy : Yes w N E g lb) :
    Calls Tryz.prog 11 #[.agg #[.int .i64 N, gv], lv, .func (.func g) #[] lb] w (GivesY w N E) := by
  obtain ⟨vo, vn, vc, rfl⟩ := h.sh
  obtain ⟨lo, lc, rfl⟩ := hl.len
  have hll := hl.length_le
  obtain ⟨K, hK⟩ := ends_some ok
  obtain ⟨W0, hW0⟩ : ∃ W0, W0 = (w.alloc (.cells #[.int .i64 N, .slice vo vn vc] 24)).alloc (.cells #[.slice none 0 0, .slice none 0 0] 31) := ⟨_, rfl⟩
  have X0 : Hid (Ext w W0) := Lib.hid (hW0 ▸ ((Ext.refl w).alloc _).alloc _)
  have B0 : Hid (W0.heap[w.heap.size]? = some (.cells #[.int .i64 N, .slice vo vn vc] 24 (0, 0))) := Lib.hid (hW0 ▸ old1 (at0 w _) _)
  have R0 : Hid (W0.heap[w.heap.size + 1]? = some (.cells #[.slice none 0 0, .slice none 0 0] 31 (0, 0))) := Lib.hid (hW0 ▸ at1 w _ _)
  have HW0 := Lib.hid hW0
  have HG := Lib.hid (h.ext X0.out)
  have HL := Lib.hid hl
  have HOK := Lib.hid ok
  have HKE := Lib.hid hK
  have HY := Lib.hid hy
  obtain ⟨k0, k1⟩ := cells2S B0.out
  have hfew := ok.few
  clear h hl hW0 ok hK hy
  go_enter Tryz.func11, Tryz.ntmps11
  go_upto_region 1 with (fail)
  rw [← HW0.out]
  go_wp2_with (first
    | (go_at_call 29; refine (own_any W0 N _ E HG.out (by omega)).mono ?_; rintro e u1 ⟨v1, rfl, s1, hx⟩; obtain ⟨go_, gn, gc, rfl⟩ := s1.sh; have S1 := Lib.hid s1; have Y1 : Hid (Ext W0 u1) := Lib.hid hx; clear s1 hx)
    | (go_at_call 28; refine (tNew_ok u1 N _ E S1.out HOK.out K HKE.out).mono ?_; rintro e u2 ⟨vd, vm, rfl, sv, hx⟩; dsimp only at sv ⊢; obtain ⟨a1, n1, c1, b1, m1, d1, rfl, rfl⟩ := sv.sh; have U2 := Lib.hid sv; have Y2 := Lib.hid (Y1.out.trans hx); clear sv hx)
    | refine haltst 31 ?_)
  refine .inl ?_
  obtain ⟨g8, hg8⟩ : ∃ g, g = u2.heap.size := ⟨_, rfl⟩
  have hg8w : W0.heap.size ≤ g8 := hg8 ▸ Below.size Y2.out
  have G8 := Lib.hid (at0 u2 (.cells #[.slice none 0 0, .slice none 0 0] 31))
  rw [← hg8] at G8 ⊢
  replace hg8 := Lib.hid hg8
  refine st_l 31 (.tmp 8) (.tmp 17) g8 0 31 _ #[.slice a1 n1 c1, .slice b1 m1 d1] _ rfl rfl G8.out (by kernel_rfl) (by simp) rfl rfl ?_
  intro W1 hW1 o1
  simp only [Act.put]
  have X1 : Hid (Ext W0 W1) := Lib.hid (ext_off (Y2.out.alloc _) o1 (fun b hb => by omega))
  obtain ⟨ds0, hds0⟩ : ∃ ds, ds = tableL N E (itr N E K) := ⟨_, rfl⟩
  have HG0 : Hid (GoodE N E ds0 []) := Lib.hid (hds0 ▸ GoodE.new (HKE.out.right HOK.out))
  rw [← hds0] at U2
  have V1 := Lib.hid ((U2.out.ext ((Ext.refl _).alloc _)).off G8.out o1)
  have B1 := Lib.hid hW1
  have hw0 : W0.heap.size = w.heap.size + 2 := by rw [HW0.out, size_alloc, size_alloc]
  replace hw0 := Lib.hid hw0
  clear hW1 o1 U2 G8 hds0 S1 k0 k1
  obtain ⟨k0, k1⟩ := cells2S B1.out
  have HY1 := Lib.hid (HY.out W1 _ _ ds0 [] (X0.out.trans X1.out) V1.out HG0.out)
  go_upto_region 4 with (first
    | (go_at_fn g; refine HY1.out.mono ?_; rintro e u3 ⟨rfl, hx⟩; have Y3 := Lib.hid hx; clear hx))
  have HI : Hid (∃ ds ms, GoodE N E ds ms ∧ SB u3 g8 ds ms) := Lib.hid ⟨ds0, [], HG0.out, _, _, _, _, _, _, keepU B1.out Y3.out, V1.out.ext Y3.out⟩
  have XI : Hid (Ext W0 u3) := Lib.hid (X1.out.trans Y3.out)
  have RI := Lib.hid (keepU R0.out XI.out)
  clear k0 k1 HY1 V1 B1
  go_wp2
  go_loopw [10] (fun i wr => ∃ k : Nat, k ≤ l.length ∧ i = .int .i64 k ∧ Hid (∃ ds ms, GoodE N E ds ms ∧ SB wr g8 ds ms) ∧ Hid (wr.heap[w.heap.size + 1]? = some (.cells #[.slice none 0 0, .slice none 0 0] 31 (0, 0))) ∧ Hid (Ext w wr)) (fun i _ => l.length - (intOf i).toNat)
  case atStart => exact ⟨0, Nat.zero_le _, rfl, HI, RI, Lib.hid (X0.out.trans XI.out)⟩
  case round =>
    obtain ⟨k, hk, rfl, HS, HR, HX⟩ := hrel
    obtain ⟨ds, ms, hgd, sa, sn, sc, sb, sm, sd, hbx, hsv⟩ := HS.out
    have HGD := Lib.hid hgd
    have HBX := Lib.hid hbx
    have HSV := Lib.hid hsv
    have HSM := Lib.hid (hgd.sm HOK.out)
    clear hgd hbx hsv HS
    by_cases hlt : k < l.length
    · obtain ⟨ba, oa, y, hyk, hlo, hn0, hnc, hc63, hba, hcell⟩ := acts_at HL.out hlt
      subst hlo
      obtain ⟨ak, aa, ab⟩ := y
      dsimp only at hcell
      have HAC : Hid (∀ V, Ext wr V → _) := Lib.hid fun V hV => hcell V (HX.out.trans hV)
      obtain ⟨⟨⟨ds2, ms2⟩, er⟩, hq⟩ : ∃ q, stepT ds ms (actN ak) aa ab = q := ⟨_, rfl⟩
      have HQ := Lib.hid hq
      have HER : Hid (er = 0 ∧ GoodE N E ds2 ms2 ∨ er = 134 ∨ er = 140 ∨ er = 141) := Lib.hid (by
        rcases HGD.out.step HOK.out (a := aa) (b := ab) (actN_is ak) with ⟨e, h⟩ | ⟨_, e⟩
        · rw [hq] at e h; exact .inl ⟨e, h⟩
        · rw [hq] at e; exact .inr e)
      have hki : (k : Int) < (l.length : Int) := by omega
      clear hcell hyk hn0 hq
      go_upto_region 7 with (fail)
      go_cut [11, 12] (fun s11 s12 wx => ∃ g, s11 = .pointer (some ⟨g, 0, none⟩) ∧ s12 = .int .i64 er ∧ Hid (SB wx g ds2 ms2) ∧ Hid (Ext wr wx) ∧ wr.heap.size ≤ g)
      case first =>
        go_wp2_with fail
        (refine wp_region_X_lit (K := fun V => Ext wr V) (by kernel_rfl) (fun w1 hw1 => ?_))
        have Z1 : Hid (Ext wr w1) := Lib.hid hw1
        clear hw1
        refine xtv 0 (hv := by intro w' hw'; obtain ⟨c0, c1⟩ := cells2S (keepU HBX.out hw'); go_simp; first | done | with_reducible rfl) (h := ?_)
        refine xtv 2 (h := ?_)
        refine xtv 3 (h := ?_)
        refine xtv 4 (hv := by intro w' hw'; have hz := hki; go_simp; first | done | with_reducible rfl) (h := ?_)
        refine xtv 5 (hv := by intro w' hw'; obtain ⟨c0, c1, c2⟩ := HAC.out w' hw'; go_simp; first | done | with_reducible rfl) (h := ?_)
        refine xtwo 1 10 (hk := Z1.out) (h := RunX.of 1 (h := ?_)) (h' := RunX.of 10 (h := ?_))
        · go_simp
          refine (ownT_any w1 _ _ ds ms (HSV.out.ext Z1.out) HSM.out).mono ?_
          rintro e3 w3 ⟨vd3, vm3, rfl, sv3, x3⟩
          obtain ⟨a3, n3, c3, b3, m3, d3, rfl, rfl⟩ := sv3.sh
          have S3 := Lib.hid sv3
          have Y3 : Hid (Ext wr w3) := Lib.hid (Ext.trans Z1.out x3)
          clear sv3 x3
          dsimp only
          (try (simp only [Act.put, List.setIfInBounds_toArray, List.set]))
          refine xtwo 6 10 (hk := Y3.out) (h := RunX.of 6 (h := ?_)) (h' := RunX.of 10 (h := ?_))
          · go_simp
            refine (HQ.out ▸ act_any w3 _ _ ds ms (S3.out.ext (Ext.refl _)) HSM.out ak aa ab).mono ?_
            rintro e4 w4 ⟨vd4, vm4, rfl, sv4, x4⟩
            dsimp only at sv4 ⊢
            obtain ⟨a4, n4, c4, b4, m4, d4, rfl, rfl⟩ := sv4.sh
            have S4 := Lib.hid sv4
            have Y4 : Hid (Ext wr w4) := Lib.hid (Ext.trans Y3.out x4)
            have Z4 := Lib.hid x4
            clear sv4 x4
            (try (simp only [Act.put, List.setIfInBounds_toArray, List.set]))
            refine xtv 7 (h := ?_)
            refine xtv 8 (h := ?_)
            refine xtv 9 (h := ?_)
            refine xone 10 (hk := Y4.out) (h := RunX.of 10 (h := ?_))
            go_simp
            (try (simp only [Act.put, List.setIfInBounds_toArray, List.set]))
            obtain ⟨gx, hgx⟩ : ∃ g, g = w4.heap.size := ⟨_, rfl⟩
            obtain ⟨w5, hw5⟩ : ∃ q, q = w4.alloc (.cells #[.slice none 0 0, .slice none 0 0] 31) := ⟨_, rfl⟩
            have B5 : Hid (w5.heap[gx]? = some (.cells #[.slice none 0 0, .slice none 0 0] 31 (0, 0))) := Lib.hid (hw5 ▸ hgx ▸ at0 w4 _)
            have Y5 : Hid (Ext wr w5) := Lib.hid (hw5 ▸ Y4.out.alloc _)
            have Z5 : Hid (Ext w4 w5) := Lib.hid (hw5 ▸ (Ext.refl _).alloc _)
            have hgw : wr.heap.size ≤ gx := hgx ▸ Below.size Y4.out
            rw [← hw5, ← hgx]
            clear hw5 hgx
            refine xone 11 (hk := Y5.out) (h := RunX.of 11 (h := ?_))
            refine wp_st 31 (.tmp 11) (.tmp 42) rfl gx 0 31 #[.slice none 0 0, .slice none 0 0] #[.slice a4 n4 c4, .slice b4 m4 d4] _ rfl rfl B5.out (by kernel_rfl) (by simp) rfl rfl ?_
            intro WB hWB oB
            simp only [Act.put]
            have YB : Hid (Ext wr WB) := Lib.hid (ext_off Y5.out oB (fun b hb => by omega))
            have SB1 : Hid (SB WB gx ds2 ms2) := Lib.hid ⟨_, _, _, _, _, _, hWB, SV.off (S4.out.ext Z5.out) B5.out oB⟩
            clear hWB oB
            refine xtv 12 (h := ?_)
            (refine xdone (by kernel_rfl) (YB.out) ?_)
            go_wp2_with fail
            go_meet
            exact ⟨gx, rfl, rfl, SB1, YB, hgw⟩
          · go_simp
            (try (simp only [Act.put, List.setIfInBounds_toArray, List.set]))
            obtain ⟨gx, hgx⟩ : ∃ g, g = w3.heap.size := ⟨_, rfl⟩
            obtain ⟨w5, hw5⟩ : ∃ q, q = w3.alloc (.cells #[.slice none 0 0, .slice none 0 0] 31) := ⟨_, rfl⟩
            have B5 : Hid (w5.heap[gx]? = some (.cells #[.slice none 0 0, .slice none 0 0] 31 (0, 0))) := Lib.hid (hw5 ▸ hgx ▸ at0 w3 _)
            have Y5 : Hid (Ext wr w5) := Lib.hid (hw5 ▸ Y3.out.alloc _)
            have Z5 : Hid (Ext w3 w5) := Lib.hid (hw5 ▸ (Ext.refl _).alloc _)
            have hgw : wr.heap.size ≤ gx := hgx ▸ Below.size Y3.out
            rw [← hw5, ← hgx]
            clear hw5 hgx
            refine xone 6 (hk := Y5.out) (h := RunX.of 6 (h := ?_))
            go_simp
            refine (HQ.out ▸ act_any w5 _ _ ds ms (S3.out.ext Z5.out) HSM.out ak aa ab).mono ?_
            rintro e4 w4 ⟨vd4, vm4, rfl, sv4, x4⟩
            dsimp only at sv4 ⊢
            obtain ⟨a4, n4, c4, b4, m4, d4, rfl, rfl⟩ := sv4.sh
            have S4 := Lib.hid sv4
            have Y4 : Hid (Ext wr w4) := Lib.hid (Ext.trans Y5.out x4)
            have Z4 := Lib.hid x4
            clear sv4 x4
            (try (simp only [Act.put, List.setIfInBounds_toArray, List.set]))
            refine xtv 7 (h := ?_)
            refine xtv 8 (h := ?_)
            refine xtv 9 (h := ?_)
            refine xone 11 (hk := Y4.out) (h := RunX.of 11 (h := ?_))
            refine wp_st 31 (.tmp 11) (.tmp 42) rfl gx 0 31 #[.slice none 0 0, .slice none 0 0] #[.slice a4 n4 c4, .slice b4 m4 d4] _ rfl rfl (keepU B5.out Z4.out) (by kernel_rfl) (by simp) rfl rfl ?_
            intro WB hWB oB
            simp only [Act.put]
            have YB : Hid (Ext wr WB) := Lib.hid (ext_off Y4.out oB (fun b hb => by omega))
            have SB1 : Hid (SB WB gx ds2 ms2) := Lib.hid ⟨_, _, _, _, _, _, hWB, SV.off S4.out (keepU B5.out Z4.out) oB⟩
            clear hWB oB
            refine xtv 12 (h := ?_)
            (refine xdone (by kernel_rfl) (YB.out) ?_)
            go_wp2_with fail
            go_meet
            exact ⟨gx, rfl, rfl, SB1, YB, hgw⟩
        · go_simp
          (try (simp only [Act.put, List.setIfInBounds_toArray, List.set]))
          obtain ⟨gx, hgx⟩ : ∃ g, g = w1.heap.size := ⟨_, rfl⟩
          obtain ⟨w2, hw2⟩ : ∃ q, q = w1.alloc (.cells #[.slice none 0 0, .slice none 0 0] 31) := ⟨_, rfl⟩
          have B2 : Hid (w2.heap[gx]? = some (.cells #[.slice none 0 0, .slice none 0 0] 31 (0, 0))) := Lib.hid (hw2 ▸ hgx ▸ at0 w1 _)
          have Y2 : Hid (Ext wr w2) := Lib.hid (hw2 ▸ Z1.out.alloc _)
          have Z2 : Hid (Ext w1 w2) := Lib.hid (hw2 ▸ (Ext.refl _).alloc _)
          have hgw : wr.heap.size ≤ gx := hgx ▸ Below.size Z1.out
          rw [← hw2, ← hgx]
          clear hw2 hgx
          refine xone 1 (hk := Y2.out) (h := RunX.of 1 (h := ?_))
          go_simp
          refine (ownT_any w2 _ _ ds ms (HSV.out.ext Y2.out) HSM.out).mono ?_
          rintro e3 w3 ⟨vd3, vm3, rfl, sv3, x3⟩
          obtain ⟨a3, n3, c3, b3, m3, d3, rfl, rfl⟩ := sv3.sh
          have S3 := Lib.hid sv3
          have Y3 : Hid (Ext wr w3) := Lib.hid (Ext.trans Y2.out x3)
          have Z3 := Lib.hid x3
          clear sv3 x3
          dsimp only
          (try (simp only [Act.put, List.setIfInBounds_toArray, List.set]))
          refine xone 6 (hk := Y3.out) (h := RunX.of 6 (h := ?_))
          go_simp
          refine (HQ.out ▸ act_any w3 _ _ ds ms (S3.out.ext (Ext.refl _)) HSM.out ak aa ab).mono ?_
          rintro e4 w4 ⟨vd4, vm4, rfl, sv4, x4⟩
          dsimp only at sv4 ⊢
          obtain ⟨a4, n4, c4, b4, m4, d4, rfl, rfl⟩ := sv4.sh
          have S4 := Lib.hid sv4
          have Y4 : Hid (Ext wr w4) := Lib.hid (Ext.trans Y3.out x4)
          have Z4 := Lib.hid x4
          clear sv4 x4
          (try (simp only [Act.put, List.setIfInBounds_toArray, List.set]))
          refine xtv 7 (h := ?_)
          refine xtv 8 (h := ?_)
          refine xtv 9 (h := ?_)
          refine xone 11 (hk := Y4.out) (h := RunX.of 11 (h := ?_))
          refine wp_st 31 (.tmp 11) (.tmp 42) rfl gx 0 31 #[.slice none 0 0, .slice none 0 0] #[.slice a4 n4 c4, .slice b4 m4 d4] _ rfl rfl (keepU (keepU B2.out Z3.out) Z4.out) (by kernel_rfl) (by simp) rfl rfl ?_
          intro WB hWB oB
          simp only [Act.put]
          have YB : Hid (Ext wr WB) := Lib.hid (ext_off Y4.out oB (fun b hb => by omega))
          have SB1 : Hid (SB WB gx ds2 ms2) := Lib.hid ⟨_, _, _, _, _, _, hWB, SV.off S4.out (keepU (keepU B2.out Z3.out) Z4.out) oB⟩
          clear hWB oB
          refine xtv 12 (h := ?_)
          (refine xdone (by kernel_rfl) (YB.out) ?_)
          go_wp2_with fail
          go_meet
          exact ⟨gx, rfl, rfl, SB1, YB, hgw⟩
      case rest =>
        obtain ⟨gt, rfl, rfl, HT, HX2, hgt⟩ := hcut
        obtain ⟨WC, hWC⟩ : ∃ q, q = wc := ⟨_, rfl⟩
        rw [← hWC] at HT HX2 ⊢
        clear hWC
        have hg8r : g8 < wr.heap.size := blk_lt HBX.out
        have XC : Hid (Ext w WC) := Lib.hid (HX.out.trans HX2.out)
        have BC := Lib.hid (keepU HBX.out HX2.out)
        have RC := Lib.hid (keepU HR.out HX2.out)
        have VC := Lib.hid (HSV.out.ext HX2.out)
        obtain ⟨k0, k1⟩ := cells2S BC.out
        by_cases he : er = 0
        · subst he
          have HG2 : Hid (GoodE N E ds2 ms2) := Lib.hid (by
            rcases HER.out with ⟨_, h⟩ | h | h | h
            · exact h
            all_goals omega)
          obtain ⟨ta, tn, tc, tb, tm, td, htb, htv⟩ := HT.out
          obtain ⟨j0, j1⟩ := cells2S htb
          have HTV := Lib.hid htv
          clear htb htv
          go_wp2_with (first | refine haltst 31 ?_)
          refine .inl ?_
          refine st_l 31 (.tmp 8) (.tmp 61) g8 0 31 _ #[.slice ta tn tc, .slice tb tm td] _ rfl rfl BC.out (by kernel_rfl) (by simp) rfl rfl ?_
          intro W5 hW5 o5
          simp only [Act.put]
          have X5 : Hid (Ext w W5) := Lib.hid (ext_off XC.out o5 (fun b hb => by have := hw0.out; omega))
          have R5 := Lib.hid (o5.blk RC.out (by have := hw0.out; omega))
          have V5 := Lib.hid (HTV.out.off BC.out o5)
          have B5 := Lib.hid hW5
          clear hW5 o5 k0 k1 j0 j1
          obtain ⟨k0, k1⟩ := cells2S B5.out
          have HY5 := Lib.hid (HY.out W5 _ _ ds2 ms2 X5.out V5.out HG2.out)
          go_wp2_with (first
            | (go_at_fn g; refine HY5.out.mono ?_; rintro e u6 ⟨rfl, hx⟩; have Y6 := Lib.hid hx; clear hx))
          go_roundw
          case rel => exact ⟨k + 1, by omega, by go_num, Lib.hid ⟨ds2, ms2, HG2.out, _, _, _, _, _, _, keepU B5.out Y6.out, V5.out.ext Y6.out⟩, Lib.hid (keepU R5.out Y6.out), Lib.hid (X5.out.trans Y6.out)⟩
          case measure => simp [intOf]; omega
        · have HER2 : er = 134 ∨ er = 140 ∨ er = 141 := by
            rcases HER.out with ⟨h, _⟩ | h
            · exact absurd h he
            · exact h
          have HY5 := Lib.hid (HY.out WC _ _ ds ms XC.out VC.out HGD.out)
          clear HER
          rcases HER2 with rfl | rfl | rfl
          all_goals
            clear he
            go_wp2_with (first
              | (go_at_fn g; refine HY5.out.mono ?_; rintro e u6 ⟨rfl, hx⟩; have Y6 := Lib.hid hx; clear hx))
            go_roundw
            case rel => exact ⟨k + 1, by omega, by go_num, Lib.hid ⟨ds, ms, HGD.out, _, _, _, _, _, _, keepU BC.out Y6.out, VC.out.ext Y6.out⟩, Lib.hid (keepU RC.out Y6.out), Lib.hid (XC.out.trans Y6.out)⟩
            case measure => simp [intOf]; omega
    · obtain ⟨k0, k1⟩ := cells2S HBX.out
      go_upto_region 14 with (fail)
      go_wp2_with (first | refine haltst 31 ?_)
      refine .inl ?_
      refine st_l 31 (.tmp 6) (.tmp 67) (w.heap.size + 1) 0 31 _ #[.slice sa sn sc, .slice sb sm sd] _ rfl rfl HR.out (by kernel_rfl) (by simp) rfl rfl ?_
      intro W9 hW9 o9
      simp only [Act.put]
      go_wp2
      exact bodyPost_ret (v := .tuple #[.agg #[.slice sa sn sc, .slice sb sm sd], .bool true]) (res_ct 7 rfl rfl hW9 uScene (by kernel_rfl)) rfl ⟨_, _, ds, ms, rfl, HSV.out.off HR.out o9, HGD.out, ext_off HX.out o9 (fun b hb => by omega)⟩
end Go.Proofs.YtdfleocknaackaaGreat
