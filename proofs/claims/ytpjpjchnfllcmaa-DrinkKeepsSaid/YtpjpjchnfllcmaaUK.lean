/- Layer 13, the document's answers: Fire. -/
import Derived.Test.YtpjpjchnfllcmaaUJ
import Derived.Test.YtpjpjchnfllcmaaMUF
namespace Go.Proofs.Ytpjpjchnfllcmaa
open Go.RowKit

set_option maxRecDepth 100000 in
set_option maxHeartbeats 8000000 in
theorem refFireO_any (w : World) (id ph : Int) (v : Value) (L : List Sd) (h : Sl w v L) (hl : L.length ≤ 1000) :
    Calls Try.prog 64 #[.agg #[.int .i64 id, .int .i64 ph, v]] w fun e w' => ∃ v' vl, e = .returned (.tuple #[.agg #[.int .i64 (fireD ⟨id, ph, L⟩).id, .int .i64 (fireD ⟨id, ph, L⟩).phase, v'], vl]) ∧ Sl w' v' (fireD ⟨id, ph, L⟩).sides ∧ Ow w' w.heap.size vl (fireMl ⟨id, ph, L⟩) ∧ Ext w w' ∧ Av (fun k => vl.ownBlock = some k) v' (fireD ⟨id, ph, L⟩).sides := by
  obtain ⟨ao, c, rfl⟩ := h.len
  obtain ⟨W0, hW0⟩ : ∃ W0, W0 = (w.alloc (.cells #[.int .i64 id, .int .i64 ph, .slice ao L.length c] 25)).alloc (.cells #[.int .i64 0, .int .i64 0, .slice none 0 0] 25) := ⟨_, rfl⟩
  have X0 : Hid (Ext w W0) := Lib.hid (hW0 ▸ ((Ext.refl w).alloc _).alloc _)
  have D0 : Hid (W0.heap[w.heap.size]? = some (.cells #[.int .i64 id, .int .i64 ph, .slice ao L.length c] 25 (0, 0))) := Lib.hid (hW0 ▸ old1 (at0 w _) _)
  have R0 : Hid (W0.heap[w.heap.size + 1]? = some (.cells #[.int .i64 0, .int .i64 0, .slice none 0 0] 25 (0, 0))) := Lib.hid (hW0 ▸ at1 w _ _)
  have hs0 : W0.heap.size = w.heap.size + 2 := by rw [hW0, size_alloc, size_alloc]
  have HW0 := Lib.hid hW0
  have HSw := Lib.hid h
  obtain ⟨W1, hW1⟩ : ∃ W1, W1 = W0.alloc (.cells #[] 61) := ⟨_, rfl⟩
  have X1 : Hid (Ext W0 W1) := Lib.hid (hW1 ▸ (Ext.refl _).alloc _)
  have O1 : Hid (Ow W1 (w.heap.size + 2) (.slice (some ⟨w.heap.size + 2, 0, none⟩) 0 0) ([] : List Ml)) := Lib.hid (hW1 ▸ Ow.litAt W0 _ _ hs0.symm (by omega) [] (by simp))
  have hs1 : W1.heap.size = w.heap.size + 3 := by rw [hW1, size_alloc, hs0]
  have HW1 := Lib.hid hW1
  have HLV : Hid (L = [] ∨ ∀ b, (Value.slice ao L.length c).ownBlock = some b → b < w.heap.size) := Lib.hid h.low
  clear h hW0 hW1
  obtain ⟨d0, d1, d2⟩ := cells3U (keepU D0.out X1.out)
  go_enter Try.func64, Try.ntmps64
  go_upto_region 1 with (fail)
  rw [← HW0.out]
  go_upto_region 2 with (fail)
  try rw [hs0]
  rw [← HW1.out]
  go_wp2_with (first
    | (go_at_call 82; refine (refOne_any W1 id ph _ L (HSw.out.ext (X0.out.trans X1.out)) hl).mono ?_; rintro e w2 ⟨d', l', b', v', vl', rfl, one', s', sl', x', hv', hvl'⟩; obtain ⟨va, vc, rfl⟩ := s'.len; obtain ⟨la, lc, rfl⟩ := sl'.len; have ONE := Lib.hid one'; have S' := Lib.hid s'; have SL' := Lib.hid sl'; have X2 : Hid (Ext W1 w2) := Lib.hid x'; have HV' := Lib.hid hv'; have HVL' := Lib.hid hvl'; clear one' s' sl' x' hv' hvl'))
  obtain ⟨nx, hnx⟩ : ∃ nx, nx = w2.heap.size := ⟨_, rfl⟩
  obtain ⟨W3, hW3⟩ : ∃ W3, W3 = w2.alloc (.cells #[.int .i64 d'.id, .int .i64 d'.phase, .slice va d'.sides.length vc] 25) := ⟨_, rfl⟩
  have X3 : Hid (Ext w2 W3) := Lib.hid (hW3 ▸ (Ext.refl _).alloc _)
  have N3 : Hid (W3.heap[nx]? = some (.cells #[.int .i64 d'.id, .int .i64 d'.phase, .slice va d'.sides.length vc] 25 (0, 0))) := Lib.hid (by rw [hW3, hnx]; exact at0 w2 _)
  have hz2 : w.heap.size + 3 ≤ nx := by have := Below.size X2.out; omega
  have F3 : Hid (RF w nx ⟨id, ph, L⟩ ⟨id, ph, L⟩ d' l' [] b' (.slice ao L.length c) (.slice va d'.sides.length vc) (.slice la l'.length lc) (.slice (some ⟨w.heap.size + 2, 0, none⟩) 0 0) W3) := Lib.hid (by
    have hF : ∀ k, OwF w nx (.slice (some ⟨w.heap.size + 2, 0, none⟩) 0 0) k → w.heap.size ≤ k ∧ (k < W1.heap.size ∨ k = nx) := fun k hk => by
      rcases hk with e | e | e | e
      · omega
      · omega
      · omega
      · simp only [Value.ownBlock, Option.some.injEq] at e; omega
    have x1 : Ext w W1 := X0.out.trans X1.out
    have x2 : Ext w w2 := x1.trans X2.out
    have sa1 : Sa (OwF w nx (.slice (some ⟨w.heap.size + 2, 0, none⟩) 0 0)) w (.slice ao L.length c) L := ⟨HSw.out, HLV.out.imp (fun h => h) fun h b hb hf => by have := h b hb; have := (hF b hf).1; omega⟩
    have hlow1 : ∀ b, ¬ (b < W1.heap.size) → b < w2.heap.size → ¬ OwF w nx (.slice (some ⟨w.heap.size + 2, 0, none⟩) 0 0) b := fun b h1 h2 hf => by rcases (hF b hf).2 with e | e <;> omega
    refine ⟨x2.trans X3.out, keepU (keepU (keepU D0.out X1.out) X2.out) X3.out, keepU (keepU (keepU R0.out X1.out) X2.out) X3.out, N3.out, ONE.out, ⟨rfl, rfl⟩, sa1.ext (x2.trans X3.out), ?_, ?_, O1.out.ext (X2.out.trans X3.out), by simp only [Value.ownBlock, ne_eq, Option.some.injEq]; omega, by omega, rfl⟩
    · refine ⟨S'.out.ext X3.out, ?_⟩
      rcases HV'.out with e | e
      · rcases sa1.2 with e2 | e2
        · exact .inl (List.eq_nil_of_length_eq_zero (by rw [ONE.out.len.2.1]; show L.length = 0; rw [e2]; rfl))
        · rw [e]; exact .inr e2
      · rcases S'.out.low with e2 | e2
        · exact .inl e2
        · exact .inr fun b hb => hlow1 b (by have := e b hb; omega) (e2 b hb)
    · refine ⟨SL'.out.ext X3.out, ?_⟩
      rcases SL'.out.low with e2 | e2
      · exact .inl e2
      · exact .inr fun b hb => hlow1 b (by have := HVL'.out b hb; omega) (e2 b hb))
  rw [← hW3, ← hnx]
  clear hW3 hnx d0 d1 d2 ONE S' SL' HV' HVL' N3 O1
  go_loopg [4, 6, 7] (todo ⟨id, ph, L⟩) (fun n s4 s6 s7 wr => ∃ (dc dn : Dn) (l M : List Ml) (ok : Bool) (ca : Option Addr) (cn cc : Nat) (na : Option Addr) (nn nc : Nat) (la : Option Addr) (ln lc : Nat) (oa : Option Addr) (on oc : Nat), s4 = .slice oa on oc ∧ s6 = .slice la ln lc ∧ s7 = .bool ok ∧ Hid (RF w nx ⟨id, ph, L⟩ dc dn l M ok (.slice ca cn cc) (.slice na nn nc) (.slice la ln lc) (.slice oa on oc) wr) ∧ Hid (todo dc ≤ n))
  case atStart => exact ⟨_, d', l', [], b', _, _, _, _, _, _, _, _, _, _, _, _, rfl, rfl, rfl, F3, Lib.hid (Nat.le_refl _)⟩
  case round =>
    obtain ⟨dc, dn, l, M, ok, ca, cn, cc, na, nn, nc, la2, ln, lc2, oa, on, oc, rfl, rfl, rfl, HF, HN⟩ := hrel
    cases ok
    · obtain ⟨q1, q2, q3⟩ := HF.out.one.fire
      obtain ⟨e1, e2⟩ := q3 rfl
      have HE : Hid (fireD ⟨id, ph, L⟩ = dc ∧ fireMl ⟨id, ph, L⟩ = M) := Lib.hid ⟨HF.out.fire.1.symm.trans e1, by rw [HF.out.fire.2, e2, List.append_nil]⟩
      clear q1 q2 q3 e1 e2
      obtain ⟨d0, d1, d2⟩ := cells3U HF.out.dbox
      go_wp2_with (first | refine haltst 25 ?_)
      refine .inl ?_
      refine st_l 25 (.tmp 2) (.tmp 26) (w.heap.size + 1) 0 25 #[.int .i64 0, .int .i64 0, .slice none 0 0] #[.int .i64 dc.id, .int .i64 dc.phase, .slice ca cn cc] #[.int .i64 dc.id, .int .i64 dc.phase, .slice ca cn cc] rfl rfl HF.out.rbox (by kernel_rfl) (by simp) rfl rfl ?_
      intro W9 hW9 o9
      simp only [Act.put]
      go_wp2
      exact bodyPost_ret (v := .tuple #[.agg #[.int .i64 dc.id, .int .i64 dc.phase, .slice ca cn cc], .slice oa on oc]) (res_ct 3 rfl rfl hW9 uDiner (by kernel_rfl)) rfl (by
        rw [HE.out.1, HE.out.2]
        have o9' : Off (OwF w nx (.slice oa on oc)) _ W9 := o9.mono fun k hk => .inr (.inl hk)
        exact ⟨_, _, rfl, HF.out.sc.sl.off HF.out.sc.2 o9', (owU HF.out.out (fun b hb => o9.block b (HF.out.out.low b hb).2 (by have := (HF.out.out.low b hb).1; omega))).mono (by omega), ext_off HF.out.ext o9 (fun b hb => by omega), HF.out.sc.2.imp (fun h => h) fun h b hb hf => h b hb (.inr (.inr (.inr hf)))⟩)
    · obtain ⟨d0, d1, d2⟩ := cells3U HF.out.nbox
      have hMl : M.length + l.length ≤ 4000 := by
        have h1 := HF.out.fire.2
        have h2 := congrArg List.length h1
        have h3 := fireMs_len id ph L
        have h4 := HF.out.one.len.2.2
        have h5 : (fireMl ⟨id, ph, L⟩).length ≤ 2 * L.length := h3
        rw [h1, List.length_append] at h5
        omega
      have hlow := HF.out.low
      have hz := blk_lt HF.out.nbox
      go_upto_region 4 with (fail)
      go_wp2_with (first | refine haltst 25 ?_)
      refine .inl ?_
      refine st_l 25 (.tmp 1) (.tmp 16) w.heap.size 0 25 #[.int .i64 dc.id, .int .i64 dc.phase, .slice ca cn cc] #[.int .i64 dn.id, .int .i64 dn.phase, .slice na nn nc] #[.int .i64 dn.id, .int .i64 dn.phase, .slice na nn nc] rfl rfl HF.out.dbox (by kernel_rfl) (by simp) rfl rfl ?_
      intro W4 hW4 o4
      simp only [Act.put]
      have HB4 := Lib.hid hW4
      have O4 : Hid (Off (fun b => b = w.heap.size) wr W4) := Lib.hid o4
      have OW4 : Hid (Ow W4 (w.heap.size + 2) (.slice oa on oc) M) := Lib.hid (owU HF.out.out (fun b hb => o4.block b (HF.out.out.low b hb).2 (by have := (HF.out.out.low b hb).1; omega)))
      have SL4 : Hid (Sl W4 (.slice la2 ln lc2) l) := Lib.hid (HF.out.sl.sl.off HF.out.sl.2 (o4.mono fun k hk => .inl hk))
      have SN4 : Hid (Sl W4 (.slice na nn nc) dn.sides) := Lib.hid (HF.out.sn.sl.off HF.out.sn.2 (o4.mono fun k hk => .inl hk))
      have SA4 : Hid (Sa (OwF w nx (.slice oa on oc)) W4 (.slice na nn nc) dn.sides) := Lib.hid (HF.out.sn.off (o4.mono fun k hk => .inl hk) (Grows.refl _ _))
      have hz4 := o4.size
      clear hW4 o4 d0 d1 d2
      go_upto_region 6 with (first
        | (at_builtin; refine wpList_append_sl (α := Ml) rfl (.tmp 17) (.tmp 18) rfl (w.heap.size + 2) (.slice oa on oc) M rfl ?_ (.slice la2 ln lc2) l rfl ?_ ?_ ?_ ?_; exact OW4.out; exact SL4.out; (first | omega | (simp; omega)); omega; intro v5 W5 ho5 ha5; obtain ⟨a5, n5, c5, rfl⟩ := ho5.sh; have O5 := Lib.hid ho5; have A5 := Lib.hid ha5; clear ho5 ha5))
      have hb5 := (A5.out.below.block w.heap.size (by omega)).trans HB4.out
      obtain ⟨d0, d1, d2⟩ := cells3U hb5
      have SN5 : Hid (Sl W5 (.slice na nn nc) dn.sides) := Lib.hid (SN4.out.off SA4.out.2 ((off_grown A5.out.grown).mono fun k hk => .inr (.inr (.inr hk))))
      have N5 : Hid (W5.heap[nx]? = some (.cells #[.int .i64 dn.id, .int .i64 dn.phase, .slice na nn nc] 25 (0, 0))) := Lib.hid ((A5.out.grown.block nx (by omega) (fun e => HF.out.nvo e.symm)).trans ((O4.out.block nx hz (by omega)).trans HF.out.nbox))
      have hnl : dn.sides.length ≤ 1000 := by rw [HF.out.one.len.2.1, HF.out.len]; exact hl
      clear hb5
      go_wp2_with (first
        | (go_at_call 82; refine (refOne_any W5 dn.id dn.phase _ dn.sides SN5.out hnl).mono ?_; rintro e w6 ⟨d7, l7, b7, v7, vl7, rfl, one', s', sl', x', hv', hvl'⟩; obtain ⟨a7, c7, rfl⟩ := s'.len; obtain ⟨e7, f7, rfl⟩ := sl'.len; have ONE := Lib.hid one'; have S' := Lib.hid s'; have SL' := Lib.hid sl'; have X6 : Hid (Ext W5 w6) := Lib.hid x'; have HV' := Lib.hid hv'; have HVL' := Lib.hid hvl'; clear one' s' sl' x' hv' hvl')
        | refine haltst 25 ?_)
      refine .inl ?_
      refine st_l 25 (.tmp 5) (.tmp 23) nx 0 25 #[.int .i64 dn.id, .int .i64 dn.phase, .slice na nn nc] #[.int .i64 d7.id, .int .i64 d7.phase, .slice a7 d7.sides.length c7] #[.int .i64 d7.id, .int .i64 d7.phase, .slice a7 d7.sides.length c7] rfl rfl (keepU N5.out X6.out) (by kernel_rfl) (by simp) rfl rfl ?_
      intro W8 hW8 o8
      simp only [Act.put]
      have F8 := Lib.hid (HF.out.next HB4.out O4.out O5.out A5.out ONE.out S'.out SL'.out X6.out HV'.out HVL'.out hW8 o8)
      have HLS := HF.out.one.less
      have HNN := HN.out
      go_wp2
      go_roundg (todo dn)
      case measure => omega
      case rel => exact ⟨dn, d7, l7, M ++ l, b7, _, _, _, _, _, _, _, _, _, _, _, _, rfl, rfl, rfl, F8, Lib.hid (Nat.le_refl _)⟩

theorem refFire_any (w : World) (id ph : Int) (v : Value) (L : List Sd) (h : Sl w v L) (hl : L.length ≤ 1000) :
    Calls Try.prog 64 #[.agg #[.int .i64 id, .int .i64 ph, v]] w fun e w' => ∃ v' vl, e = .returned (.tuple #[.agg #[.int .i64 (fireD ⟨id, ph, L⟩).id, .int .i64 (fireD ⟨id, ph, L⟩).phase, v'], vl]) ∧ Sl w' v' (fireD ⟨id, ph, L⟩).sides ∧ Sl w' vl (fireMl ⟨id, ph, L⟩) ∧ Ext w w' := by
  refine (refFireO_any w id ph v L h hl).mono ?_
  rintro e w' ⟨v', vl, rfl, h1, h2, x, _⟩
  exact ⟨v', vl, rfl, h1, h2.sl, x⟩

end Go.Proofs.Ytpjpjchnfllcmaa
