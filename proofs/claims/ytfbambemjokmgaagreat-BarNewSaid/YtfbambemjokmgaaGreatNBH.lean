/- Texts of this seat. -/
import Derived.Test.YtfbambemjokmgaaGreatNBG
namespace Go.Proofs.YtfbambemjokmgaaGreat
open Go.RowKit
def fireKR (d : Dk) : Dk × List Ml × Int := if chkK d = true then ((fireAll d).1, (fireAll d).2, 0) else (noK, [], 150)
def GivesFD (w : World) (r : Dk × List Ml × Int) (e : Ending) (w' : World) : Prop := ∃ v' nv' vl, e = .returned (.tuple #[.agg #[.int .i64 r.1.id, .int .i64 r.1.phase, v', .int .i64 r.1.thirst, nv'], vl, .int .i64 r.2.2]) ∧ Sl w' v' r.1.sides ∧ Sl w' nv' r.1.need ∧ Sl w' vl r.2.1 ∧ Ext w w' ∧ ∀ b, nv'.ownBlock = some b → w.heap.size ≤ b
set_option maxRecDepth 100000 in
set_option maxHeartbeats 16000000 in
theorem fireK_any (w : World) (id ph th : Int) (v nv : Value) (L : List Sd) (N : List Int) (h : Sl w v L) (hN : Sl w nv N) (hl : L.length ≤ 1000) (hlN : N.length ≤ 1000) :
    Calls Tryz.prog 126 #[.agg #[.int .i64 id, .int .i64 ph, v, .int .i64 th, nv]] w (GivesFD w (fireKR ⟨id, ph, L, th, N⟩)) := by
  obtain ⟨ao, c, rfl⟩ := h.len
  obtain ⟨na, nc, rfl⟩ := hN.len
  have hlen := h.length_le
  obtain ⟨W0, hW0⟩ : ∃ W0, W0 = (w.alloc (.cells #[.int .i64 id, .int .i64 ph, .slice ao L.length c, .int .i64 th, .slice na N.length nc] 63)).alloc (.cells #[.int .i64 0, .int .i64 0, .slice none 0 0, .int .i64 0, .slice none 0 0] 63) := ⟨_, rfl⟩
  have X0 : Hid (Ext w W0) := Lib.hid (hW0 ▸ ((Ext.refl w).alloc _).alloc _)
  have D0 : Hid (W0.heap[w.heap.size]? = some (.cells #[.int .i64 id, .int .i64 ph, .slice ao L.length c, .int .i64 th, .slice na N.length nc] 63 (0, 0))) := Lib.hid (hW0 ▸ old1 (at0 w _) _)
  have R0 : Hid (W0.heap[w.heap.size + 1]? = some (.cells #[.int .i64 0, .int .i64 0, .slice none 0 0, .int .i64 0, .slice none 0 0] 63 (0, 0))) := Lib.hid (hW0 ▸ at1 w _ _)
  have HW0 := Lib.hid hW0
  have HS := Lib.hid (h.ext X0.out)
  have HN := Lib.hid hN
  have HN0 := Lib.hid (hN.ext X0.out)
  have F0 : Hid (OnceAt w id ph th (.slice na N.length nc) (.slice ao L.length c) L (.slice none 0 0) [] W0) := Lib.hid (by
    refine ⟨X0.out, D0.out, R0.out, HS.out, ?_, Ow.nil _ _⟩
    exact h.low.imp (fun h => h) fun h b hb hf => by
      have := h b hb
      rcases hf with e | e | e
      · omega
      · omega
      · simp [Value.ownBlock] at e)
  obtain ⟨t, ht⟩ : ∃ t, chkK ⟨id, ph, L, th, N⟩ = t := ⟨_, rfl⟩
  have HT := Lib.hid ht
  have HC := Lib.hid (dkCheck_any W0 id ph th _ _ L N HS.out HN0.out hl t HT.out)
  clear h hN hW0 ht
  obtain ⟨⟨d0, d1, d2⟩, d3, d4⟩ := cells5 D0.out
  go_enter Tryz.func126, Tryz.ntmps126
  go_upto_region 1 with (fail)
  rw [← HW0.out]
  cases t
  · have HR : Hid (fireKR ⟨id, ph, L, th, N⟩ = (noK, [], 150)) := Lib.hid (by unfold fireKR; rw [HT.out]; rfl)
    go_upto_region 3 with (first
      | (go_at_call 58; refine HC.out.mono ?_; rintro e w1 ⟨rfl, hx⟩; dsimp only [cond]; have X1 : Hid (Ext W0 w1) := Lib.hid hx; clear hx))
    go_wp2_with (first | refine haltst 63 ?_)
    refine .inl ?_
    refine st_l 63 (.tmp 2) (.tmp 14) (w.heap.size + 1) 0 63 #[.int .i64 0, .int .i64 0, .slice none 0 0, .int .i64 0, .slice none 0 0] #[.int .i64 0, .int .i64 0, .slice none 0 0, .int .i64 0, .slice none 0 0] #[.int .i64 0, .int .i64 0, .slice none 0 0, .int .i64 0, .slice none 0 0] rfl rfl (keepU R0.out X1.out) (by kernel_rfl) (by simp) rfl rfl ?_
    intro W9 hW9 o9
    simp only [Act.put]
    go_wp2
    exact bodyPost_ret (v := .tuple #[.agg #[.int .i64 0, .int .i64 0, .slice none 0 0, .int .i64 0, .slice none 0 0], .slice none 0 0, .int .i64 150]) (res_ctt 3 4 rfl rfl hW9 uDrinker (by kernel_rfl)) rfl (by rw [HR.out]; exact ⟨_, _, _, rfl, slNoneU _, slNoneU _, slNoneU _, ext_off (X0.out.trans X1.out) o9 (fun b hb => by omega), fun b hb => by simp [Value.ownBlock] at hb⟩)
  · have HRR : Hid (∀ d' M', fireAll ⟨id, ph, L, th, N⟩ = (d', M') → fireKR ⟨id, ph, L, th, N⟩ = (d', M', 0)) := Lib.hid (fun d' M' q => by unfold fireKR; rw [HT.out, if_pos rfl, q])
    have HD0 : Hid (dnOk ⟨id, ph, L⟩ = true) := Lib.hid (by have := HT.out; unfold chkK at this; simp only [Bool.and_eq_true] at this; exact this.1.1.1.1)
    go_upto_region 4 with (first
      | (go_at_call 58; refine HC.out.mono ?_; rintro e w1 ⟨rfl, hx⟩; dsimp only [cond]; have X1 : Hid (Ext W0 w1) := Lib.hid hx; have F1 := Lib.hid (F0.out.ext' hx); clear hx))
    clear d0 d1 d2 d3 d4 HC HS HN0 D0 R0 HW0 F0
    go_wp2
    go_loopg [6] (leftK ⟨id, ph, L, th, N⟩) (fun n s6 wr => ∃ (d : Dk) (M : List Ml) (va : Option Addr) (vn vc : Nat) (oa : Option Addr) (on oc : Nat), s6 = .slice oa on oc ∧ Hid (OnceAt w d.id d.phase d.thirst (.slice na N.length nc) (.slice va vn vc) d.sides (.slice oa on oc) M wr) ∧ Hid (AlongK ⟨id, ph, L, th, N⟩ d M ∧ dnOk d.dn = true) ∧ Hid (leftK d ≤ n))
    case atStart => exact ⟨⟨id, ph, L, th, N⟩, [], _, _, _, _, _, _, rfl, F1, Lib.hid ⟨AlongK.start _, HD0.out⟩, Lib.hid (Nat.le_refl _)⟩
    case round =>
      obtain ⟨⟨di, dp, dS, dt, dN⟩, M, va, vn, vc, oa, on, oc, rfl, HF, HA, HL⟩ := hrel
      dsimp only at HF
      obtain rfl : dN = N := HA.out.1.need
      have hlS : dS.length ≤ 1000 := by have := HA.out.1.len; dsimp only at this; omega
      obtain ⟨⟨⟨oi, op, oS, ot, oN⟩, om⟩, hO⟩ : ∃ r, onceK ⟨di, dp, dS, dt, dN⟩ = r := ⟨_, rfl⟩
      have hoN : oN = dN := by have : (onceK ⟨di, dp, dS, dt, dN⟩).1.need = dN := rfl; rw [hO] at this; exact this
      subst hoN
      have hfew : M.length + om.length ≤ 8000 := by have := HA.out.1.few; rw [hO] at this; dsimp only at this; have := HA.out.1.len; dsimp only at this; omega
      have HON : Hid (Calls Tryz.prog 151 #[.agg #[.int .i64 di, .int .i64 dp, .slice va vn vc, .int .i64 dt, .slice na oN.length nc]] wr (GivesKR wr (.slice na oN.length nc) (⟨oi, op, oS, ot, oN⟩, om))) := Lib.hid (by
        rw [← hO]
        exact round_any wr di dp dt _ _ dS oN HF.out.sides (HN.out.ext HF.out.ext) hlS HA.out.2)
      have HO := Lib.hid hO
      have HOK : Hid (dnOk ⟨oi, op, oS⟩ = true) := Lib.hid (by have := once_ok HA.out.2; rw [hO] at this; exact this)
      clear hO hlS
      obtain ⟨⟨d0, d1, d2⟩, d3, d4⟩ := cells5 HF.out.dbox
      go_upto_region 6 with (first
        | (go_at_call 151; refine HON.out.mono ?_; rintro e w2 ⟨v2, vl, rfl, h1, h2, x2, h3⟩; obtain ⟨a2, c2, rfl⟩ := h1.len; obtain ⟨la, lc, rfl⟩ := h2.len; dsimp only at h1 h2 h3; have S2 := Lib.hid h1; have M2 := Lib.hid h2; have X2 : Hid (Ext wr w2) := Lib.hid x2; have A2 := Lib.hid h3; clear h1 h2 x2 h3))
      obtain ⟨nx, hnx⟩ : ∃ nx, nx = w2.heap.size := ⟨_, rfl⟩
      obtain ⟨W3, hW3⟩ : ∃ W3, W3 = w2.alloc (.cells #[.int .i64 oi, .int .i64 op, .slice a2 oS.length c2, .int .i64 ot, .slice na oN.length nc] 63) := ⟨_, rfl⟩
      have X3 : Hid (Ext wr W3) := Lib.hid (hW3 ▸ X2.out.alloc _)
      have N3 : Hid (W3.heap[nx]? = some (.cells #[.int .i64 oi, .int .i64 op, .slice a2 oS.length c2, .int .i64 ot, .slice na oN.length nc] 63 (0, 0))) := Lib.hid (by rw [hW3, hnx]; exact at0 w2 _)
      have S3 := Lib.hid (hW3 ▸ S2.out.alloc _ : Sl W3 (.slice a2 oS.length c2) oS)
      have M3 := Lib.hid (hW3 ▸ M2.out.alloc _ : Sl W3 (.slice la om.length lc) om)
      have hnr : wr.heap.size ≤ nx := by rw [hnx]; exact Below.size X2.out
      have HVN : Hid (∀ b, (Value.slice a2 oS.length c2).ownBlock = some b → b ≠ nx ∨ oS = []) := Lib.hid (fun b hb => by
        rcases S2.out.low with e | e
        · exact .inr e
        · exact .inl (by have := e b hb; omega))
      rw [← hW3]
      try rw [← hnx]
      clear hW3 hnx S2 M2 X2 d0 d1 d2 d3 d4 HON
      have F3 := Lib.hid (HF.out.ext' X3.out)
      have hz3 : w.heap.size + 2 ≤ W3.heap.size := by have := blk_lt F3.out.rbox; omega
      go_upto_region 9 with (first
        | (at_builtin; refine wpList_append_sl (α := Ml) rfl (.tmp 26) (.tmp 27) rfl (w.heap.size + 2) (.slice oa on oc) M rfl ?_ (.slice la om.length lc) om rfl ?_ ?_ ?_ ?_; exact F3.out.out; exact M3.out; (first | omega | (simp; omega)); omega; intro v5 W5 ho5 ha5; obtain ⟨a5, n5, c5, rfl⟩ := ho5.sh; have F5 := Lib.hid (F3.out.more ho5 ha5); have N5 := Lib.hid ((ha5.grown.block nx (blk_lt N3.out) (fun e => by have := (HF.out.out.low nx e.symm).2; omega)).trans N3.out); have S5 := Lib.hid (S3.out.off (.inr fun b hb hf => by have := A2.out b hb; have := (HF.out.out.low b hf).2; omega) (off_grown ha5.grown)); have HV5 : Hid (oS = [] ∨ ∀ b, (Value.slice a2 oS.length c2).ownBlock = some b → w.heap.size + 2 ≤ b ∧ (Value.slice a5 n5 c5).ownBlock ≠ some b) := Lib.hid (newApart (.inr A2.out) S3.out.low (by have := blk_lt HF.out.rbox; omega) (fun b hb => (HF.out.out.low b hb).2) ha5.block); have HX5 : Hid ((Value.slice a5 n5 c5).ownBlock ≠ some nx) := Lib.hid (by rcases ha5.block with e | e; rw [e]; intro e2; have := (HF.out.out.low nx e2).2; omega; intro e2; have := e nx e2; have := blk_lt N3.out; omega); clear ho5 ha5))
      obtain ⟨t, ht⟩ : ∃ t, decide ((⟨oi, op, oS, ot, oN⟩ : Dk) = ⟨di, dp, dS, dt, oN⟩) = t := ⟨_, rfl⟩
      have HSM := Lib.hid (dkSame_any W5 oi op ot di dp dt _ _ _ _ oS dS oN oN S5.out F5.out.sides (HN.out.ext F5.out.ext) (HN.out.ext F5.out.ext) t ht)
      have HTT := Lib.hid ht
      obtain ⟨⟨d0, d1, d2⟩, d3, d4⟩ := cells5 F5.out.dbox
      obtain ⟨⟨e0, e1, e2⟩, e3, e4⟩ := cells5 N5.out
      clear ht F3 hz3
      cases t
      · have HNE : Hid ((onceK ⟨di, dp, dS, dt, oN⟩).1 ≠ ⟨di, dp, dS, dt, oN⟩) := Lib.hid (by rw [HO.out]; exact of_decide_eq_false HTT.out)
        have HA2 : Hid (AlongK ⟨id, ph, L, th, oN⟩ ⟨oi, op, oS, ot, oN⟩ (M ++ om)) := Lib.hid (by have := HA.out.1.next HNE.out; rw [HO.out] at this; exact this)
        have hless : leftK ⟨oi, op, oS, ot, oN⟩ < leftK ⟨di, dp, dS, dt, oN⟩ := by have := once_less HNE.out; rw [HO.out] at this; exact this
        clear HTT
        go_upto_region 12 with (first
          | (go_at_call 69; refine HSM.out.mono ?_; rintro e w6 ⟨rfl, x6⟩; have X6 : Hid (Ext W5 w6) := Lib.hid x6; clear d0 d1 d2 d3 d4 e0 e1 e2 e3 e4; obtain ⟨⟨d0, d1, d2⟩, d3, d4⟩ := cells5 (keepU F5.out.dbox x6); obtain ⟨⟨e0, e1, e2⟩, e3, e4⟩ := cells5 (keepU N5.out x6); clear x6))
        go_wp2_with (first | refine haltst 63 ?_)
        refine .inl ?_
        refine st_l 63 (.tmp 1) (.tmp 38) w.heap.size 0 63 #[.int .i64 di, .int .i64 dp, .slice va vn vc, .int .i64 dt, .slice na oN.length nc] #[.int .i64 oi, .int .i64 op, .slice a2 oS.length c2, .int .i64 ot, .slice na oN.length nc] #[.int .i64 oi, .int .i64 op, .slice a2 oS.length c2, .int .i64 ot, .slice na oN.length nc] rfl rfl (keepU F5.out.dbox X6.out) (by kernel_rfl) (by simp) rfl rfl ?_
        intro W9 hW9 o9
        simp only [Act.put]
        have F9 := Lib.hid (F5.out.swap2 X6.out (S5.out.ext X6.out) HV5.out hW9 o9)
        have HNN := HL.out
        go_wp2
        go_roundg (leftK ⟨oi, op, oS, ot, oN⟩)
        case measure => omega
        case rel => exact ⟨⟨oi, op, oS, ot, oN⟩, _, _, _, _, _, _, _, rfl, F9, Lib.hid ⟨HA2.out, HOK.out⟩, Lib.hid (Nat.le_refl _)⟩
      · have HDD : Hid ((⟨oi, op, oS, ot, oN⟩ : Dk) = ⟨di, dp, dS, dt, oN⟩) := Lib.hid (of_decide_eq_true HTT.out)
        have HEE : Hid ((onceK ⟨di, dp, dS, dt, oN⟩).1 = ⟨di, dp, dS, dt, oN⟩) := Lib.hid (by rw [HO.out]; exact HDD.out)
        have HR : Hid (fireKR ⟨id, ph, L, th, oN⟩ = (⟨oi, op, oS, ot, oN⟩, M ++ om, 0)) := Lib.hid (HRR.out _ _ (by obtain ⟨q1, q2⟩ := HA.out.1.ends HEE.out; rw [q1]; rw [HO.out] at q2; dsimp only at q2; rw [q2, List.append_nil, HDD.out]))
        clear HTT
        go_upto_region 10 with (first
          | (go_at_call 69; refine HSM.out.mono ?_; rintro e w6 ⟨rfl, x6⟩; have X6 : Hid (Ext W5 w6) := Lib.hid x6; clear d0 d1 d2 d3 d4 e0 e1 e2 e3 e4; obtain ⟨⟨e0, e1, e2⟩, e3, e4⟩ := cells5 (keepU N5.out x6); clear x6))
        have F6 := Lib.hid (F5.out.ext' X6.out)
        have N6 := Lib.hid (keepU N5.out X6.out)
        have S6 := Lib.hid (S5.out.ext X6.out)
        have hz6 : wr.heap.size ≤ w6.heap.size := Nat.le_trans hnr (Nat.le_of_lt (blk_lt N6.out))
        go_upto_region 11 with (first
          | (go_at_call 127; refine (clone_i w6 _ oN (HN.out.ext F6.out.ext) hlN).mono ?_; rintro e w7 ⟨v7, rfl, o7, x7⟩; obtain ⟨ma, mn, mc, rfl⟩ := o7.sh; have X7 : Hid (Ext w6 w7) := Lib.hid x7; have O7 := Lib.hid o7; have c4 := blk_cell (keepU N6.out x7) 4 rfl; have f4 := blk_free (keepU N6.out x7) 4; clear o7 x7))
        obtain ⟨W8, hW8⟩ : ∃ W8, W8 = w7.setCell ⟨nx, 4, none⟩ (.slice ma mn mc) := ⟨_, rfl⟩
        have o8 : Off (fun k => k = nx) w7 W8 := hW8 ▸ off_set w7 ⟨nx, 4, none⟩ _
        have hnz : nx < w6.heap.size := blk_lt N6.out
        have hwz : w.heap.size + 2 ≤ wr.heap.size := by have := blk_lt HF.out.rbox; omega
        have N8 : Hid (W8.heap[nx]? = some (.cells #[.int .i64 oi, .int .i64 op, .slice a2 oS.length c2, .int .i64 ot, .slice ma mn mc] 63 (0, 0))) := Lib.hid (by rw [hW8, blk_set (keepU N6.out X7.out)]; rfl)
        have R8 : Hid (W8.heap[w.heap.size + 1]? = some (.cells #[.int .i64 0, .int .i64 0, .slice none 0 0, .int .i64 0, .slice none 0 0] 63 (0, 0))) := Lib.hid (o8.blk (keepU F6.out.rbox X7.out) (by omega))
        have X8 : Hid (Ext w W8) := Lib.hid (ext_off (F6.out.ext.trans X7.out) o8 (fun b hb => by omega))
        have S8 : Hid (Sl W8 (.slice a2 oS.length c2) oS) := Lib.hid (by
          have h7 := S6.out.ext X7.out
          by_cases e : oS = []
          · exact h7.off (.inl e) o8
          · exact h7.off (.inr fun b hb hf => (HVN.out b hb).elim (fun q => q hf) e) o8)
        have T8 : Hid (Ow W8 (w.heap.size + 2) (.slice a5 n5 c5) (M ++ om)) := Lib.hid (owU (F6.out.out.ext X7.out) (fun b hb => o8.block b ((F6.out.out.ext X7.out).low b hb).2 (fun e => HX5.out (by rw [hb, e]))))
        have O8 : Hid (Ow W8 w6.heap.size (.slice ma mn mc) oN) := Lib.hid (owU O7.out (fun b hb => o8.block b (O7.out.low b hb).2 (by have := (O7.out.low b hb).1; omega)))
        have HSN : Hid (oS = [] ∨ ∀ b, (Value.slice a2 oS.length c2).ownBlock = some b → w.heap.size + 2 ≤ b) := Lib.hid (HV5.out.imp (fun q => q) fun q b hb => (q b hb).1)
        rw [← hW8]
        clear hW8 o8 e0 e1 e2 e3 e4 c4 f4
        obtain ⟨⟨e0, e1, e2⟩, e3, e4⟩ := cells5 N8.out
        go_wp2_with (first | refine haltst 63 ?_)
        refine .inl ?_
        refine st_l 63 (.tmp 2) (.tmp 36) (w.heap.size + 1) 0 63 #[.int .i64 0, .int .i64 0, .slice none 0 0, .int .i64 0, .slice none 0 0] #[.int .i64 oi, .int .i64 op, .slice a2 oS.length c2, .int .i64 ot, .slice ma mn mc] #[.int .i64 oi, .int .i64 op, .slice a2 oS.length c2, .int .i64 ot, .slice ma mn mc] rfl rfl R8.out (by kernel_rfl) (by simp) rfl rfl ?_
        intro W9 hW9 o9
        simp only [Act.put]
        go_wp2
        exact bodyPost_ret (v := .tuple #[.agg #[.int .i64 oi, .int .i64 op, .slice a2 oS.length c2, .int .i64 ot, .slice ma mn mc], .slice a5 n5 c5, .int .i64 0]) (res_ctt 3 4 rfl rfl hW9 uDrinker (by kernel_rfl)) rfl (by
          rw [HR.out]
          exact ⟨_, _, _, rfl, S8.out.off (HSN.out.imp (fun q => q) fun q b hb hf => by have := q b hb; omega) o9, (owU O8.out (fun b hb => o9.block b (O8.out.low b hb).2 (by have := (O8.out.low b hb).1; omega))).sl, (owU T8.out (fun b hb => o9.block b (T8.out.low b hb).2 (by have := (T8.out.low b hb).1; omega))).sl, ext_off X8.out o9 (fun b hb => by omega), fun b hb => by have := (O8.out.low b hb).1; omega⟩)
end Go.Proofs.YtfbambemjokmgaaGreat
