/- Layer 17, the program: who waits and needs a peer that is gone ends; whether two books are the same. -/
import Derived.Test.YtgcnjkabpcbkgaaHP7
namespace Go.Proofs.Ytgcnjkabpcbkgaa
open Go.RowKit

theorem goes_iff {n p : Int} {L : List Se} (h : chkH (n, L) = true) {s : Se} (hs : s ∈ L) : (!decide (s.state = 1) && decide (p ∈ s.need)) = goesH p s := by
  obtain ⟨k, hk, e⟩ := List.getElem_of_mem hs
  have := ((chk_at.1 h).2.2 k s (by show L[k]? = _; rw [List.getElem?_eq_getElem hk, e])).way
  unfold goesH
  rcases this with ⟨q, _⟩ | ⟨q, _⟩
  · rw [q]; rfl
  · rw [q]; rfl

set_option maxRecDepth 100000 in
set_option maxHeartbeats 8000000 in
theorem sessGone_any (F : Nat → Prop) (w : World) (n p : Int) (v : Value) (L : List Se) (h : Ns HV F w v L) (hl : L.length ≤ 1000) (hF : ∀ b, F b → b < w.heap.size) :
    Calls Try.prog 25 #[.agg #[.int .i64 n, v], .int .i64 p] w (GivesBkL F w (goneH (n, L) p)) := by
  have hmf : ∀ (fn : Fn) (first cap : Array Value) (w : World), (Instr.makeFunc fn first cap).run Try.prog w = .ok (.func fn first cap) w := fun _ _ _ _ => rfl
  obtain ⟨ao, c, rfl⟩ := h.len
  obtain ⟨W0, hW0⟩ : ∃ W0, W0 = ((w.alloc (.cells #[.int .i64 n, .slice ao L.length c] 24)).alloc (.cells #[.int .i64 p] 3)).alloc (.cells #[.int .i64 0, .slice none 0 0] 24) := ⟨_, rfl⟩
  have X0 : Hid (Ext w W0) := Lib.hid (hW0 ▸ (((Ext.refl w).alloc _).alloc _).alloc _)
  have B0 : Hid (W0.heap[w.heap.size]? = some (.cells #[.int .i64 n, .slice ao L.length c] 24 (0, 0))) := Lib.hid (hW0 ▸ old1 (old1 (at0 w _) _) _)
  have P0 : Hid (W0.heap[w.heap.size + 1]? = some (.cells #[.int .i64 p] 3 (0, 0))) := Lib.hid (hW0 ▸ old1 (at1 w _ _) _)
  have R0 : Hid (W0.heap[w.heap.size + 2]? = some (.cells #[.int .i64 0, .slice none 0 0] 24 (0, 0))) := Lib.hid (hW0 ▸ at2 w _ _ _)
  have HZ0 : Hid (W0.heap.size = w.heap.size + 3) := Lib.hid (by rw [hW0, size_alloc, size_alloc, size_alloc])
  have HW0 := Lib.hid hW0
  have HS := Lib.hid (h.ext X0.out)
  have HFB : Hid (∀ V, Ext W0 V → ∀ b, OrB F w 3 b → b < V.heap.size) := Lib.hid fun V hV b hb => by
    have h1 := Below.size hV
    have h2 := HZ0.out
    rcases hb with hb | hb
    · have := hF b hb; omega
    · have := hb.2; omega
  have HK : Hid (∀ V, Ext W0 V → V.cell? ⟨w.heap.size, 0, none⟩ = some (.int .i64 n) ∧ V.cell? ⟨w.heap.size, 1, none⟩ = some (.slice ao L.length c)) := Lib.hid fun V hV => ⟨blk_cell (keepU B0.out hV) 0 rfl, blk_cell (keepU B0.out hV) 1 rfl⟩
  have RK : Hid (∀ V, Ext W0 V → V.heap[w.heap.size + 2]? = some (.cells #[.int .i64 0, .slice none 0 0] 24 (0, 0))) := Lib.hid fun V hV => keepU R0.out hV
  clear hW0
  obtain ⟨t, ht⟩ : ∃ t, chkH (n, L) = t := ⟨_, rfl⟩
  have HCK := Lib.hid (sessCheck_any _ W0 n _ L HS.out hl t ht)
  obtain ⟨k0, k1⟩ := HK.out W0 (Ext.refl _)
  clear h
  cases t
  · have HR : Hid (goneH (n, L) p = (noH, [], 170)) := Lib.hid (by unfold goneH; rw [if_neg (by rw [ht]; exact Bool.false_ne_true)])
    have HCC : Hid (Calls Try.prog 20 #[.agg #[.int .i64 n, .slice ao L.length c]] W0 fun e w' => e = .returned (.int .i64 170) ∧ Ext W0 w') := HCK
    clear ht HCK
    go_enter Try.func25, Try.ntmps25
    go_upto_region 1 with (fail)
    rw [← HW0.out]
    go_wp2_with (first
      | (go_at_call 20; refine (HCC.out).mono ?_; rintro e w2 ⟨rfl, x2⟩; have X2 : Hid (Ext W0 w2) := Lib.hid x2; clear x2 k0 k1)
      | refine haltst 24 ?_)
    refine .inl ?_
    refine st_l 24 (.tmp 4) (.tmp 14) (w.heap.size + 2) 0 24 _ #[.int .i64 0, .slice none 0 0] _ rfl rfl (RK.out _ X2.out) (by kernel_rfl) (by simp) rfl rfl ?_
    intro W9 hW9 o9
    simp only [Act.put]
    go_wp2
    exact bodyPost_ret (v := .tuple #[.agg #[.int .i64 0, .slice none 0 0], .slice none 0 0, .int .i64 170]) (res_ctt 5 6 rfl rfl hW9 uBook (by kernel_rfl)) rfl (by rw [HR.out]; exact ⟨_, _, _, _, _, _, rfl, Ns.nil _ _, Sa.nil _ _, ext_off (X0.out.trans X2.out) o9 (fun b hb => by omega)⟩)
  have HCC : Hid (Calls Try.prog 20 #[.agg #[.int .i64 n, .slice ao L.length c]] W0 fun e w' => e = .returned (.int .i64 0) ∧ Ext W0 w') := HCK
  have HLS := Lib.hid (chk_needs ht)
  have HR : Hid (goneH (n, L) p = ((n, L.filter fun s => !(!decide (s.state = 1) && decide (p ∈ s.need))), (L.filter fun s => !decide (s.state = 1) && decide (p ∈ s.need)).map Se.id, 0)) := Lib.hid (by
    unfold goneH
    rw [if_pos ht]
    dsimp only
    rw [List.filter_congr (q := goesH p) (fun s hs => goes_iff ht hs), List.filter_congr (p := fun s => !(!decide (s.state = 1) && decide (p ∈ s.need))) (q := fun s => !goesH p s) (fun s hs => by rw [goes_iff ht hs])])
  obtain ⟨L1, hL1⟩ : ∃ q, q = L.filter fun s => !(!decide (s.state = 1) && decide (p ∈ s.need)) := ⟨_, rfl⟩
  obtain ⟨L2, hL2⟩ : ∃ q, q = (L.filter fun s => !decide (s.state = 1) && decide (p ∈ s.need)).map Se.id := ⟨_, rfl⟩
  have HWI : Hid (∀ V, Ext W0 V → Calls Try.prog 44 #[.agg #[.int .i64 n, .slice ao L.length c], .func (.func 45) #[] #[.pointer (some ⟨w.heap.size + 1, 0, none⟩)]] V fun e w' => ∃ a2 m2 c2 b2 i2 j2, e = .returned (.tuple #[.agg #[.int .i64 n, .slice a2 m2 c2], .slice b2 i2 j2]) ∧ Nw HV (OrB F w 3) w' V.heap.size (.slice a2 m2 c2) L1 ∧ Sa (OrB F w 3) w' (.slice b2 i2 j2) L2 ∧ Ext V w') := Lib.hid fun V hV => by
    rw [hL1, hL2]
    exact without_any (OrB F w 3) _ V n _ _ L _ (HS.out.ext hV) (gone1_tells V _ p (keepU P0.out hV)) hl HLS.out (HFB.out _ hV)
  rw [← hL1, ← hL2] at HR
  clear HCK ht hL1 hL2
  go_enter Try.func25, Try.ntmps25
  go_upto_region 1 with (fail)
  rw [← HW0.out]
  go_wp2_with (first
    | (go_at_call 20; refine (HCC.out).mono ?_; rintro e w2 ⟨rfl, x2⟩; have X2 : Hid (Ext W0 w2) := Lib.hid x2; clear x2 k0 k1; obtain ⟨d0, d1⟩ := HK.out w2 X2.out)
    | (go_at_call 44; refine (HWI.out w2 X2.out).mono ?_; rintro e w4 ⟨a4, m4, c4, b4, i4, j4, rfl, n4, s4, x4⟩; have N4 := Lib.hid n4; have S4 := Lib.hid s4; have X4 : Hid (Ext W0 w4) := Lib.hid (X2.out.trans x4); have HZ2 : Hid (w.heap.size + 3 ≤ w2.heap.size) := Lib.hid (by have := Below.size X2.out; have := HZ0.out; omega); clear n4 s4 x4 d0 d1)
    | refine haltst 24 ?_)
  refine .inl ?_
  refine st_l 24 (.tmp 2) (.tmp 21) w.heap.size 0 24 _ #[.int .i64 n, .slice a4 m4 c4] _ rfl rfl (keepU B0.out X4.out) (by kernel_rfl) (by simp) rfl rfl ?_
  intro W5 hW5 o5
  simp only [Act.put]
  have hz2 := HZ2.out
  have B5 := Lib.hid hW5
  have R5 := Lib.hid (o5.blk (RK.out _ X4.out) (by omega))
  have N5 : Hid (Nw HV (OrB F w 3) W5 w2.heap.size (.slice a4 m4 c4) L1) := Lib.hid (N4.out.off (o5.mono fun b hb => .inr ⟨by omega, by omega⟩) (fun b hb => o5.block b (N4.out.low b hb).2 (fun e => by have := (N4.out.low b hb).1; omega)) (Grows.refl _ _))
  have S5 : Hid (Sa (OrB F w 3) W5 (.slice b4 i4 j4) L2) := Lib.hid (S4.out.off (o5.mono fun b hb => .inr ⟨by omega, by omega⟩) (Grows.refl _ _))
  have X5 : Hid (Ext w W5) := Lib.hid (ext_off (X0.out.trans X4.out) o5 (fun b hb => by omega))
  clear hW5 o5 hz2
  obtain ⟨d0, d1⟩ : W5.cell? ⟨w.heap.size, 0, none⟩ = some (.int .i64 n) ∧ W5.cell? ⟨w.heap.size, 1, none⟩ = some (.slice a4 m4 c4) := ⟨blk_cell B5.out 0 rfl, blk_cell B5.out 1 rfl⟩
  go_wp2_with (first
    | refine haltst 24 ?_)
  refine .inl ?_
  refine st_l 24 (.tmp 4) (.tmp 23) (w.heap.size + 2) 0 24 _ #[.int .i64 n, .slice a4 m4 c4] _ rfl rfl R5.out (by kernel_rfl) (by simp) rfl rfl ?_
  intro W9 hW9 o9
  simp only [Act.put]
  go_wp2
  exact bodyPost_ret (v := .tuple #[.agg #[.int .i64 n, .slice a4 m4 c4], .slice b4 i4 j4, .int .i64 0]) (res_ctt 5 6 rfl rfl hW9 uBook (by kernel_rfl)) rfl (by rw [HR.out]; exact ⟨_, _, _, _, _, _, rfl, ns_orB' ((N5.out.ns (G := OrB F w 3) (fun _ q => q) (fun b hb => by have hz := HZ2.out; rcases hb with hb | hb; (have := hF b hb; omega); (have := hb.2; omega))).off (o9.mono fun b hb => .inr ⟨by omega, by omega⟩) (Grows.refl _ _)), sa_orB' (S5.out.off (o9.mono fun b hb => .inr ⟨by omega, by omega⟩) (Grows.refl _ _)), ext_off X5.out o9 (fun b hb => by omega)⟩)

theorem take_eqS {L M : List Se} {k : Nat} {d e : Se} (h : L[k]? = some d) (g : M[k]? = some e) : L.take (k + 1) = M.take (k + 1) ↔ L.take k = M.take k ∧ d = e := by
  obtain ⟨hk, rfl⟩ := List.getElem?_eq_some_iff.1 h
  obtain ⟨hk', rfl⟩ := List.getElem?_eq_some_iff.1 g
  rw [List.take_succ_eq_append_getElem hk, List.take_succ_eq_append_getElem hk']
  constructor
  · intro q
    have := List.append_inj q (by rw [List.length_take, List.length_take, Nat.min_eq_left (by omega), Nat.min_eq_left (by omega)])
    exact ⟨this.1, by simpa using this.2⟩
  · rintro ⟨a, b⟩
    rw [a, b]

set_option maxRecDepth 100000 in
set_option maxHeartbeats 4000000 in
theorem same1H_any (W : World) (i1 s1 a1 i2 s2 a2 : Int) (u1 u2 : Value) (A B : List Int) (h1 : Sl W u1 A) (h2 : Sl W u2 B) (t : Bool) (ht : decide ((⟨i1, A, s1, a1⟩ : Se) = ⟨i2, B, s2, a2⟩) = t) :
    Calls Try.prog 39 #[.agg #[.int .i64 i1, u1, .int .i64 s1, .int .i64 a1], .agg #[.int .i64 i2, u2, .int .i64 s2, .int .i64 a2]] W fun e w' => e = .returned (.bool t) ∧ Ext W w' := by
  obtain ⟨ao, c, rfl⟩ := h1.len
  obtain ⟨bo, d, rfl⟩ := h2.len
  obtain ⟨W0, hW0⟩ : ∃ W0, W0 = (W.alloc (.cells #[.int .i64 i1, .slice ao A.length c, .int .i64 s1, .int .i64 a1] 41)).alloc (.cells #[.int .i64 i2, .slice bo B.length d, .int .i64 s2, .int .i64 a2] 41) := ⟨_, rfl⟩
  have X0 : Hid (Ext W W0) := Lib.hid (hW0 ▸ ((Ext.refl W).alloc _).alloc _)
  have B0 : Hid (W0.heap[W.heap.size]? = some (.cells #[.int .i64 i1, .slice ao A.length c, .int .i64 s1, .int .i64 a1] 41 (0, 0))) := Lib.hid (hW0 ▸ old1 (at0 W _) _)
  have C0 : Hid (W0.heap[W.heap.size + 1]? = some (.cells #[.int .i64 i2, .slice bo B.length d, .int .i64 s2, .int .i64 a2] 41 (0, 0))) := Lib.hid (hW0 ▸ at1 W _ _)
  obtain ⟨⟨x0, x1⟩, x2, x3⟩ : (W0.cell? ⟨W.heap.size, 0, none⟩ = some (.int .i64 i1) ∧ W0.cell? ⟨W.heap.size, 1, none⟩ = some (.slice ao A.length c)) ∧ W0.cell? ⟨W.heap.size, 2, none⟩ = some (.int .i64 s1) ∧ W0.cell? ⟨W.heap.size, 3, none⟩ = some (.int .i64 a1) := ⟨⟨blk_cell B0.out 0 rfl, blk_cell B0.out 1 rfl⟩, blk_cell B0.out 2 rfl, blk_cell B0.out 3 rfl⟩
  obtain ⟨⟨z0, z1⟩, z2, z3⟩ : (W0.cell? ⟨W.heap.size + 1, 0, none⟩ = some (.int .i64 i2) ∧ W0.cell? ⟨W.heap.size + 1, 1, none⟩ = some (.slice bo B.length d)) ∧ W0.cell? ⟨W.heap.size + 1, 2, none⟩ = some (.int .i64 s2) ∧ W0.cell? ⟨W.heap.size + 1, 3, none⟩ = some (.int .i64 a2) := ⟨⟨blk_cell C0.out 0 rfl, blk_cell C0.out 1 rfl⟩, blk_cell C0.out 2 rfl, blk_cell C0.out 3 rfl⟩
  have HA := Lib.hid (h1.ext X0.out)
  have HB := Lib.hid (h2.ext X0.out)
  obtain ⟨q, hq⟩ : ∃ q, decide (A = B) = q := ⟨_, rfl⟩
  have HQ := Lib.hid hq
  have hT : (((i1 == i2) && (s1 == s2)) && (a1 == a2) && q) = t := by
    rw [← ht, ← hq, Bool.eq_iff_iff]
    simp only [Bool.and_eq_true, beq_iff_eq, decide_eq_true_eq, Se.mk.injEq]
    constructor
    · rintro ⟨⟨⟨a, b⟩, c⟩, d⟩; exact ⟨a, d, b, c⟩
    · rintro ⟨a, d, b, c⟩; exact ⟨⟨⟨a, b⟩, c⟩, d⟩
  have HW0 := Lib.hid hW0
  clear h1 h2 ht hW0 hq
  obtain ⟨e1, he1⟩ : ∃ b, (i1 == i2) = b := ⟨_, rfl⟩
  obtain ⟨e2, he2⟩ : ∃ b, (s1 == s2) = b := ⟨_, rfl⟩
  obtain ⟨e3, he3⟩ : ∃ b, (a1 == a2) = b := ⟨_, rfl⟩
  rw [he1, he2, he3] at hT
  have HT := Lib.hid hT
  clear hT
  cases e1
  · go_enter Try.func39, Try.ntmps39
    go_upto_region 1 with (fail)
    rw [← HW0.out]
    go_wp2
    go_ret
    exact ⟨ret_bool HT.out, X0.out⟩
  cases e2
  · go_enter Try.func39, Try.ntmps39
    go_upto_region 1 with (fail)
    rw [← HW0.out]
    go_wp2
    go_ret
    exact ⟨ret_bool HT.out, X0.out⟩
  cases e3
  · go_enter Try.func39, Try.ntmps39
    go_upto_region 1 with (fail)
    rw [← HW0.out]
    go_wp2
    go_ret
    exact ⟨ret_bool HT.out, X0.out⟩
  go_enter Try.func39, Try.ntmps39
  go_upto_region 1 with (fail)
  rw [← HW0.out]
  go_wp2_with (go_at_call 40; refine (equal_i W0 _ _ A B HA.out HB.out _ HQ.out).mono ?_; rintro e w1 ⟨rfl, hx⟩; have X1 := Lib.hid (X0.out.trans hx); clear hx)
  go_ret
  exact ⟨ret_bool HT.out, X1.out⟩

set_option maxRecDepth 100000 in
set_option maxHeartbeats 4000000 in
theorem equalFunc_se (F G : Nat → Prop) (w : World) (v1 v2 fv : Value) (L M : List Se) (h : Ns HV F w v1 L) (h' : Ns HV G w v2 M) (g : FuncId) (hfv : fv = .func (.func g) #[] #[]) (eg : ∀ args w, (callFunc g args).run Try.prog w = .ok (.enter g args) w)
    (hp : ∀ (W : World) (i1 s1 a1 i2 s2 a2 : Int) (u1 u2 : Value) (A B : List Int) (t : Bool), Sl W u1 A → Sl W u2 B → decide ((⟨i1, A, s1, a1⟩ : Se) = ⟨i2, B, s2, a2⟩) = t → Calls Try.prog g #[.agg #[.int .i64 i1, u1, .int .i64 s1, .int .i64 a1], .agg #[.int .i64 i2, u2, .int .i64 s2, .int .i64 a2]] W fun e w' => e = .returned (.bool t) ∧ Ext W w') (t : Bool) (ht : decide (L = M) = t) :
    Calls Try.prog 41 #[v1, v2, fv] w fun e w' => e = .returned (.bool t) ∧ Ext w w' := by
  subst hfv
  obtain ⟨ao1, c1, rfl⟩ := h.len
  obtain ⟨ao2, c2, rfl⟩ := h'.len
  have l1 := h.length_le
  have l2 := h'.length_le
  have HS := Lib.hid h
  have HM := Lib.hid h'
  have HP := Lib.hid hp
  have HE := Lib.hid ht
  clear h h' hp ht
  by_cases e3 : L.length = M.length
  · have q3 : ((L.length : Int) != (M.length : Int)) = false := by simp [e3]
    have HL3 := Lib.hid e3
    clear e3
    go_enter Try.func41, Try.ntmps41
    go_wp2
    go_loopw [17] (fun i wr => ∃ k : Nat, k ≤ L.length ∧ i = .int .i64 k ∧ Hid (L.take k = M.take k) ∧ Hid (Ext w wr)) (fun i _ => L.length - (intOf i).toNat)
    case atStart => exact ⟨0, Nat.zero_le _, rfl, Lib.hid rfl, Lib.hid (Ext.refl _)⟩
    case round =>
      obtain ⟨k, hk, rfl, HQ, HX⟩ := hrel
      by_cases hlt : k < L.length
      · have hltM : k < M.length := by have := HL3.out; omega
        obtain ⟨b1, o1, so1, sc1, d, hyk, rfl, hn, hnc, hc63, hb, hsl, hcell⟩ := HS.out.sessAt hlt
        obtain ⟨b2, o2, so2, sc2, f, hzk, rfl, hn', hnc', hc63', hb', hsl', hcell'⟩ := HM.out.sessAt hltM
        have HN := Lib.hid (take_eqS hyk hzk)
        obtain ⟨s, hs⟩ : ∃ s, decide (d = f) = s := ⟨_, rfl⟩
        have HYZ := Lib.hid hs
        obtain ⟨d0, d1, d2, d3⟩ := d
        obtain ⟨f0, f1, f2, f3⟩ := f
        dsimp only at hcell hcell' hsl hsl'
        obtain ⟨W1, hW1⟩ : ∃ W1, W1 = wr.alloc (.cells #[.int .i64 d0, .slice so1 d1.length sc1, .int .i64 d2, .int .i64 d3] 41) := ⟨_, rfl⟩
        have x1 : Ext wr W1 := hW1 ▸ (Ext.refl _).alloc _
        have b1' : W1.heap[wr.heap.size]? = some (.cells #[.int .i64 d0, .slice so1 d1.length sc1, .int .i64 d2, .int .i64 d3] 41 (0, 0)) := hW1 ▸ at0 wr _
        obtain ⟨W2, hW2⟩ : ∃ W2, W2 = W1.alloc (.cells #[.int .i64 f0, .slice so2 f1.length sc2, .int .i64 f2, .int .i64 f3] 41) := ⟨_, rfl⟩
        have x2 : Ext W1 W2 := hW2 ▸ (Ext.refl _).alloc _
        have b2' : W2.heap[W1.heap.size]? = some (.cells #[.int .i64 f0, .slice so2 f1.length sc2, .int .i64 f2, .int .i64 f3] 41 (0, 0)) := hW2 ▸ at0 W1 _
        have b3' := keepU b1' x2
        have HX1 := Lib.hid (HX.out.trans x1)
        have HX2 := Lib.hid (HX1.out.trans x2)
        have HSL := Lib.hid (And.intro (hsl.sl.ext HX2.out) (hsl'.sl.ext HX2.out))
        obtain ⟨⟨a0, a1⟩, a2, a3⟩ := hcell wr HX.out
        obtain ⟨⟨z0, z1⟩, z2, z3⟩ := hcell' W1 HX1.out
        have j0 := blk_cell b3' 0 rfl
        have j1 := blk_cell b3' 1 rfl
        have j2 := blk_cell b3' 2 rfl
        have j3 := blk_cell b3' 3 rfl
        have i0 := blk_cell b2' 0 rfl
        have i1 := blk_cell b2' 1 rfl
        have i2 := blk_cell b2' 2 rfl
        have i3 := blk_cell b2' 3 rfl
        have HW1 := Lib.hid hW1
        have HW2 := Lib.hid hW2
        clear hcell hcell' hyk hzk hn hn' hs hsl hsl' x1 x2 b1' b2' b3' hW1 hW2
        go_upto_region 6 with (fail)
        rw [← HW1.out]
        go_upto_region 7 with (fail)
        rw [← HW2.out]
        cases s
        · go_wp2_with (go_at_fn g; refine (HP.out W2 d0 d2 d3 f0 f2 f3 _ _ d1 f1 _ HSL.out.1 HSL.out.2 HYZ.out).mono ?_; rintro e w1 ⟨rfl, hx⟩; have HX3 := Lib.hid (HX2.out.trans hx); clear hx)
          go_ret
          exact ⟨ret_bool (by
            rw [← HE.out]
            exact (decide_eq_false fun e => of_decide_eq_false HYZ.out ((HN.out.1 (by rw [e])).2)).symm), HX3.out⟩
        · go_wp2_with (go_at_fn g; refine (HP.out W2 d0 d2 d3 f0 f2 f3 _ _ d1 f1 _ HSL.out.1 HSL.out.2 HYZ.out).mono ?_; rintro e w1 ⟨rfl, hx⟩; have HX3 := Lib.hid (HX2.out.trans hx); clear hx)
          go_roundw
          case rel => exact ⟨k + 1, by omega, by go_num, Lib.hid (HN.out.2 ⟨HQ.out, of_decide_eq_true HYZ.out⟩), HX3⟩
          case measure => simp [intOf]; omega
      · have hkl : k = L.length := by omega
        have HF : Hid (true = t) := Lib.hid (by
          have hq := HQ.out
          rw [hkl, List.take_length, HL3.out, List.take_length] at hq
          rw [← HE.out, decide_eq_true hq])
        go_wp2
        go_ret
        exact ⟨ret_bool HF.out, HX.out⟩
  · have q3 : ((L.length : Int) != (M.length : Int)) = true := by simp; omega
    have HF : Hid (false = t) := Lib.hid (by rw [← HE.out, decide_eq_false fun e => e3 (by rw [e])])
    clear e3
    go_enter Try.func41, Try.ntmps41
    go_wp2
    go_ret
    exact ⟨ret_bool HF.out, Ext.refl _⟩

set_option maxRecDepth 100000 in
set_option maxHeartbeats 4000000 in
theorem sessSame_any (F G : Nat → Prop) (w : World) (n m : Int) (v u : Value) (L M : List Se) (h : Ns HV F w v L) (g : Ns HV G w u M) (hl : L.length ≤ 1000) (hm : M.length ≤ 1000) (t : Bool) (ht : decide (((n, L) : Bk) = (m, M)) = t) :
    Calls Try.prog 21 #[.agg #[.int .i64 n, v], .agg #[.int .i64 m, u]] w fun e w' => e = .returned (.bool t) ∧ Ext w w' := by
  have hlm := And.intro hl hm
  clear hlm hl hm
  obtain ⟨ao, c, rfl⟩ := h.len
  obtain ⟨bo, d, rfl⟩ := g.len
  obtain ⟨W0, hW0⟩ : ∃ W0, W0 = (w.alloc (.cells #[.int .i64 n, .slice ao L.length c] 24)).alloc (.cells #[.int .i64 m, .slice bo M.length d] 24) := ⟨_, rfl⟩
  have X0 : Hid (Ext w W0) := Lib.hid (hW0 ▸ ((Ext.refl w).alloc _).alloc _)
  have B0 : Hid (W0.heap[w.heap.size]? = some (.cells #[.int .i64 n, .slice ao L.length c] 24 (0, 0))) := Lib.hid (hW0 ▸ old1 (at0 w _) _)
  have C0 : Hid (W0.heap[w.heap.size + 1]? = some (.cells #[.int .i64 m, .slice bo M.length d] 24 (0, 0))) := Lib.hid (hW0 ▸ at1 w _ _)
  have HV := Lib.hid (h.ext X0.out)
  have HG := Lib.hid (g.ext X0.out)
  obtain ⟨q, hq⟩ : ∃ q, decide (L = M) = q := ⟨_, rfl⟩
  obtain ⟨e1, he1⟩ : ∃ b, (n == m) = b := ⟨_, rfl⟩
  have HT : Hid ((e1 && q) = t) := Lib.hid (by
    rw [← ht, ← hq, ← he1, Bool.eq_iff_iff]
    simp only [Bool.and_eq_true, beq_iff_eq, decide_eq_true_eq, Prod.mk.injEq])
  have H1 := Lib.hid (equalFunc_se F G W0 _ _ _ L M HV.out HG.out 39 rfl (enters_of Try.func39 (by kernel_rfl) rfl) (fun W i1 s1 a1 i2 s2 a2 u1 u2 A B t h1 h2 h3 => same1H_any W i1 s1 a1 i2 s2 a2 u1 u2 A B h1 h2 t h3) q hq)
  have HW0 := Lib.hid hW0
  obtain ⟨k0, k1⟩ : W0.cell? ⟨w.heap.size, 0, none⟩ = some (.int .i64 n) ∧ W0.cell? ⟨w.heap.size, 1, none⟩ = some (.slice ao L.length c) := ⟨blk_cell B0.out 0 rfl, blk_cell B0.out 1 rfl⟩
  obtain ⟨k2, k3⟩ : W0.cell? ⟨w.heap.size + 1, 0, none⟩ = some (.int .i64 m) ∧ W0.cell? ⟨w.heap.size + 1, 1, none⟩ = some (.slice bo M.length d) := ⟨blk_cell C0.out 0 rfl, blk_cell C0.out 1 rfl⟩
  clear h g hW0 ht hq
  cases e1
  · go_enter Try.func21, Try.ntmps21
    go_upto_region 1 with (fail)
    rw [← HW0.out]
    go_wp2
    go_ret
    exact ⟨ret_bool HT.out, X0.out⟩
  · go_enter Try.func21, Try.ntmps21
    go_upto_region 1 with (fail)
    rw [← HW0.out]
    go_wp2_with (go_at_call 41; refine H1.out.mono ?_; rintro e w1 ⟨rfl, hx⟩; have X1 := Lib.hid (X0.out.trans hx); clear hx)
    go_ret
    exact ⟨ret_bool HT.out, X1.out⟩
end Go.Proofs.Ytgcnjkabpcbkgaa
