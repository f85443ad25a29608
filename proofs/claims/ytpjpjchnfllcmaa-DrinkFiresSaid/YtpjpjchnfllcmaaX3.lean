/- Layer 15, the document's answers: Fire. -/
import Derived.Test.YtpjpjchnfllcmaaX2
import Derived.Test.YtpjpjchnfllcmaaW3
import Derived.Deep.LoopGhost
namespace Go.Proofs.Ytpjpjchnfllcmaa
open Go.RowKit

theorem things_le (L : List Sd) : things L ≤ 4 * L.length := by
  unfold things
  induction L with
  | nil => simp
  | cons s L ih =>
    rw [List.map_cons, List.sum_cons, List.length_cons]
    have : thing s ≤ 4 := by unfold thing; cases s.fork <;> cases s.token <;> cases s.bottle <;> cases s.ask <;> decide
    omega
/-- while rules are gone by again and again -/
structure AlongK (d0 d : Dk) (M : List Ml) : Prop where
  all : fireAll d0 = ((fireAll d).1, M ++ (fireAll d).2)
  len : d.sides.length = d0.sides.length
  need : d.need = d0.need
theorem AlongK.start (d : Dk) : AlongK d d [] := ⟨rfl, rfl, rfl⟩
theorem AlongK.next {d0 d : Dk} {M : List Ml} (h : AlongK d0 d M) (hn : (onceK d).1 ≠ d) : AlongK d0 (onceK d).1 (M ++ (onceK d).2) :=
  ⟨by rw [h.all, fireAll_on hn, List.append_assoc], (once_len d).trans h.len, h.need⟩
theorem AlongK.ends {d0 d : Dk} {M : List Ml} (h : AlongK d0 d M) (he : (onceK d).1 = d) : fireAll d0 = (d, M) ∧ (onceK d).2 = [] := by
  have := h.all
  rw [fireAll_end he] at this
  exact ⟨by rw [this, List.append_nil], once_nil he⟩
theorem AlongK.few {d0 d : Dk} {M : List Ml} (h : AlongK d0 d M) : M.length + (onceK d).2.length ≤ 8 * d0.sides.length := by
  have h1 := fireAll_things (n := leftK d0 + 1) (d := d0) (Nat.lt_succ_self _)
  have h2 := once_things d
  have h3 := things_le d0.sides
  have h4 := things_le d.sides
  rw [h.all] at h1
  dsimp only at h1
  rw [List.length_append] at h1
  have := h.len
  omega
theorem OnceAt.swap {w W W2 W' : World} {id ph th id2 ph2 th2 : Int} {nv vk v2 vo : Value} {S S2 : List Sd} {M : List Ml} (h : OnceAt w id ph th nv vk S vo M W) (x : Ext W W2) (hs : Sl W2 v2 S2) (hv : S2 = [] ∨ ∀ b, v2.ownBlock = some b → W.heap.size ≤ b)
    (hb : W'.heap[w.heap.size]? = some (.cells #[.int .i64 id2, .int .i64 ph2, v2, .int .i64 th2, nv] 29 (0, 0))) (o : Off (fun k => k = w.heap.size) W2 W') : OnceAt w id2 ph2 th2 nv v2 S2 vo M W' := by
  have h2 := h.ext' x
  have z := blk_lt h.rbox
  have z2 := Below.size x
  refine ⟨ext_off h2.ext o (fun k hk => by omega), hb, (o.block _ (blk_lt h2.rbox) (by omega)).trans h2.rbox, ?_, ?_, owU h2.out fun b hb2 => o.block b (h2.out.low b hb2).2 (by have := (h2.out.low b hb2).1; omega)⟩
  · exact hs.off (hv.imp (fun h => h) fun h b hb hf => by have := h b hb; omega) o
  · refine hv.imp (fun q => q) fun q b hb2 hf => ?_
    have h1 := q b hb2
    rcases hf with e | e | e
    · omega
    · omega
    · have := (h.out.low b e).2; omega

theorem OnceAt.swap2 {w W W2 W' : World} {id ph th id2 ph2 th2 : Int} {nv vk v2 vo : Value} {S S2 : List Sd} {M : List Ml} (h : OnceAt w id ph th nv vk S vo M W) (x : Ext W W2) (hs : Sl W2 v2 S2) (hv : S2 = [] ∨ ∀ b, v2.ownBlock = some b → w.heap.size + 2 ≤ b ∧ vo.ownBlock ≠ some b)
    (hb : W'.heap[w.heap.size]? = some (.cells #[.int .i64 id2, .int .i64 ph2, v2, .int .i64 th2, nv] 29 (0, 0))) (o : Off (fun k => k = w.heap.size) W2 W') : OnceAt w id2 ph2 th2 nv v2 S2 vo M W' := by
  have h2 := h.ext' x
  have z2 := Below.size x
  refine ⟨ext_off h2.ext o (fun k hk => by omega), hb, (o.block _ (blk_lt h2.rbox) (by omega)).trans h2.rbox, ?_, ?_, owU h2.out fun b hb2 => o.block b (h2.out.low b hb2).2 (by have := (h2.out.low b hb2).1; omega)⟩
  · exact hs.off (hv.imp (fun h => h) fun h b hb hf => by have := h b hb; omega) o
  · refine hv.imp (fun q => q) fun q b hb2 hf => ?_
    have h1 := q b hb2
    rcases hf with e | e | e
    · omega
    · omega
    · exact h1.2 e

theorem newApart {S : List Sd} {v vo vo' : Value} {n m k : Nat} (h1 : S = [] ∨ ∀ b, v.ownBlock = some b → n ≤ b) (h2 : S = [] ∨ ∀ b, v.ownBlock = some b → b < m) (hk : k ≤ n) (h3 : ∀ b, vo.ownBlock = some b → b < n)
    (h4 : vo'.ownBlock = vo.ownBlock ∨ ∀ b, vo'.ownBlock = some b → m ≤ b) : S = [] ∨ ∀ b, v.ownBlock = some b → k ≤ b ∧ vo'.ownBlock ≠ some b := by
  rcases h1 with e | h1
  · exact .inl e
  rcases h2 with e | h2
  · exact .inl e
  refine .inr fun b hb => ⟨by have := h1 b hb; omega, fun e => ?_⟩
  have := h1 b hb
  have := h2 b hb
  rcases h4 with h4 | h4
  · rw [h4] at e; have := h3 b e; omega
  · have := h4 b e; omega

/-- what Fire answers -/
def GivesFK (w : World) (r : Dk × List Ml) (e : Ending) (w' : World) : Prop := ∃ v' nv' vl, e = .returned (.tuple #[.agg #[.int .i64 r.1.id, .int .i64 r.1.phase, v', .int .i64 r.1.thirst, nv'], vl]) ∧ Sl w' v' r.1.sides ∧ Sl w' nv' r.1.need ∧ Sl w' vl r.2 ∧ Ext w w'

set_option maxRecDepth 100000 in
set_option maxHeartbeats 16000000 in
theorem refFireK_any (w : World) (id ph th : Int) (v nv : Value) (L : List Sd) (N : List Int) (h : Sl w v L) (hN : Sl w nv N) (hl : L.length ≤ 1000) :
    Calls Try.prog 18 #[.agg #[.int .i64 id, .int .i64 ph, v, .int .i64 th, nv]] w (GivesFK w (fireAll ⟨id, ph, L, th, N⟩)) := by
  obtain ⟨ao, c, rfl⟩ := h.len
  obtain ⟨na, nc, rfl⟩ := hN.len
  have hlen := h.length_le
  obtain ⟨W0, hW0⟩ : ∃ W0, W0 = (w.alloc (.cells #[.int .i64 id, .int .i64 ph, .slice ao L.length c, .int .i64 th, .slice na N.length nc] 29)).alloc (.cells #[.int .i64 0, .int .i64 0, .slice none 0 0, .int .i64 0, .slice none 0 0] 29) := ⟨_, rfl⟩
  have X0 : Hid (Ext w W0) := Lib.hid (hW0 ▸ ((Ext.refl w).alloc _).alloc _)
  have D0 : Hid (W0.heap[w.heap.size]? = some (.cells #[.int .i64 id, .int .i64 ph, .slice ao L.length c, .int .i64 th, .slice na N.length nc] 29 (0, 0))) := Lib.hid (hW0 ▸ old1 (at0 w _) _)
  have R0 : Hid (W0.heap[w.heap.size + 1]? = some (.cells #[.int .i64 0, .int .i64 0, .slice none 0 0, .int .i64 0, .slice none 0 0] 29 (0, 0))) := Lib.hid (hW0 ▸ at1 w _ _)
  have hz0 : W0.heap.size = w.heap.size + 2 := by rw [hW0, size_alloc, size_alloc]
  have HW0 := Lib.hid hW0
  have HN := Lib.hid hN
  obtain ⟨W1, hW1⟩ : ∃ W1, W1 = W0.alloc (.cells #[] 61) := ⟨_, rfl⟩
  have X1 : Hid (Ext W0 W1) := Lib.hid (hW1 ▸ (Ext.refl _).alloc _)
  have F1 : Hid (OnceAt w id ph th (.slice na N.length nc) (.slice ao L.length c) L (.slice (some ⟨w.heap.size + 2, 0, none⟩) 0 0) [] W1) := Lib.hid (by
    refine ⟨X0.out.trans X1.out, keepU D0.out X1.out, keepU R0.out X1.out, h.ext (X0.out.trans X1.out), ?_, hW1 ▸ Ow.litAt W0 _ _ hz0.symm (by omega) [] (by simp)⟩
    exact h.low.imp (fun h => h) fun h b hb hf => by
      have := h b hb
      rcases hf with e | e | e
      · omega
      · omega
      · simp only [Value.ownBlock, Option.some.injEq] at e; omega)
  have HW1 := Lib.hid hW1
  have HZ0 := Lib.hid hz0
  clear h hN hW0 hW1 hz0 D0 R0
  go_enter Try.func18, Try.ntmps18
  go_upto_region 1 with (fail)
  rw [← HW0.out]
  go_upto_region 2 with (fail)
  try rw [HZ0.out]
  rw [← HW1.out]
  clear HW0 HW1 HZ0
  go_wp2
  go_loopg [4] (leftK ⟨id, ph, L, th, N⟩) (fun n s4 wr => ∃ (d : Dk) (M : List Ml) (va : Option Addr) (vn vc : Nat) (oa : Option Addr) (on oc : Nat), s4 = .slice oa on oc ∧ Hid (OnceAt w d.id d.phase d.thirst (.slice na N.length nc) (.slice va vn vc) d.sides (.slice oa on oc) M wr) ∧ Hid (AlongK ⟨id, ph, L, th, N⟩ d M) ∧ Hid (leftK d ≤ n))
  case atStart => exact ⟨⟨id, ph, L, th, N⟩, [], _, _, _, _, _, _, rfl, F1, Lib.hid (AlongK.start _), Lib.hid (Nat.le_refl _)⟩
  case round =>
    obtain ⟨⟨di, dp, dS, dt, dN⟩, M, va, vn, vc, oa, on, oc, rfl, HF, HA, HL⟩ := hrel
    dsimp only at HF
    obtain rfl : dN = N := HA.out.need
    have hlS : dS.length ≤ 1000 := by have := HA.out.len; dsimp only at this; omega
    obtain ⟨⟨⟨oi, op, oS, ot, oN⟩, om⟩, hO⟩ : ∃ r, onceK ⟨di, dp, dS, dt, dN⟩ = r := ⟨_, rfl⟩
    have hoN : oN = dN := by have : (onceK ⟨di, dp, dS, dt, dN⟩).1.need = dN := rfl; rw [hO] at this; exact this
    subst hoN
    have hfew : M.length + om.length ≤ 8000 := by have := HA.out.few; rw [hO] at this; dsimp only at this; have := HA.out.len; dsimp only at this; omega
    have HON : Hid (Calls Try.prog 42 #[.agg #[.int .i64 di, .int .i64 dp, .slice va vn vc, .int .i64 dt, .slice na oN.length nc]] wr (GivesK wr (.slice na oN.length nc) (⟨oi, op, oS, ot, oN⟩, om))) := Lib.hid (by
      rw [← hO]
      exact refOnce_any wr di dp dt _ _ dS oN HF.out.sides (HN.out.ext HF.out.ext) hlS)
    have HO := Lib.hid hO
    clear hO hlS
    obtain ⟨⟨d0, d1, d2⟩, d3, d4⟩ := cells5 HF.out.dbox
    go_upto_region 3 with (first
      | (go_at_call 42; refine HON.out.mono ?_; rintro e w2 ⟨v2, vl, rfl, h1, h2, x2, h3⟩; obtain ⟨a2, c2, rfl⟩ := h1.len; obtain ⟨la, lc, rfl⟩ := h2.len; dsimp only at h1 h2 h3; have S2 := Lib.hid h1; have M2 := Lib.hid h2; have X2 : Hid (Ext wr w2) := Lib.hid x2; have A2 := Lib.hid h3; clear h1 h2 x2 h3))
    obtain ⟨nx, hnx⟩ : ∃ nx, nx = w2.heap.size := ⟨_, rfl⟩
    obtain ⟨W3, hW3⟩ : ∃ W3, W3 = w2.alloc (.cells #[.int .i64 oi, .int .i64 op, .slice a2 oS.length c2, .int .i64 ot, .slice na oN.length nc] 29) := ⟨_, rfl⟩
    have X3 : Hid (Ext wr W3) := Lib.hid (hW3 ▸ X2.out.alloc _)
    have N3 : Hid (W3.heap[nx]? = some (.cells #[.int .i64 oi, .int .i64 op, .slice a2 oS.length c2, .int .i64 ot, .slice na oN.length nc] 29 (0, 0))) := Lib.hid (by rw [hW3, hnx]; exact at0 w2 _)
    have S3 := Lib.hid (hW3 ▸ S2.out.alloc _ : Sl W3 (.slice a2 oS.length c2) oS)
    have M3 := Lib.hid (hW3 ▸ M2.out.alloc _ : Sl W3 (.slice la om.length lc) om)
    have hnr : wr.heap.size ≤ nx := by rw [hnx]; exact Below.size X2.out
    rw [← hW3]
    try rw [← hnx]
    clear hW3 hnx S2 M2 X2 d0 d1 d2 d3 d4 HON
    have F3 := Lib.hid (HF.out.ext' X3.out)
    have hz3 : w.heap.size + 2 ≤ W3.heap.size := by have := blk_lt F3.out.rbox; omega
    go_upto_region 4 with (first
      | (at_builtin; refine wpList_append_sl (α := Ml) rfl (.tmp 13) (.tmp 14) rfl (w.heap.size + 2) (.slice oa on oc) M rfl ?_ (.slice la om.length lc) om rfl ?_ ?_ ?_ ?_; exact F3.out.out; exact M3.out; (first | omega | (simp; omega)); omega; intro v5 W5 ho5 ha5; obtain ⟨a5, n5, c5, rfl⟩ := ho5.sh; have F5 := Lib.hid (F3.out.more ho5 ha5); have N5 := Lib.hid ((ha5.grown.block nx (blk_lt N3.out) (fun e => by have := (HF.out.out.low nx e.symm).2; omega)).trans N3.out); have S5 := Lib.hid (S3.out.off (A2.out.imp (fun h => h) fun h b hb hf => by have := h b hb; have := (HF.out.out.low b hf).2; omega) (off_grown ha5.grown)); have HV5 : Hid (oS = [] ∨ ∀ b, (Value.slice a2 oS.length c2).ownBlock = some b → w.heap.size + 2 ≤ b ∧ (Value.slice a5 n5 c5).ownBlock ≠ some b) := Lib.hid (newApart A2.out S3.out.low (by have := blk_lt HF.out.rbox; omega) (fun b hb => (HF.out.out.low b hb).2) ha5.block); clear ho5 ha5))
    obtain ⟨t, ht⟩ : ∃ t, decide ((⟨oi, op, oS, ot, oN⟩ : Dk) = ⟨di, dp, dS, dt, oN⟩) = t := ⟨_, rfl⟩
    have HSM := Lib.hid (refDkSame_any W5 oi op ot di dp dt _ _ _ _ oS dS oN oN S5.out F5.out.sides (HN.out.ext F5.out.ext) (HN.out.ext F5.out.ext) t ht)
    have HT := Lib.hid ht
    obtain ⟨⟨d0, d1, d2⟩, d3, d4⟩ := cells5 F5.out.dbox
    obtain ⟨⟨e0, e1, e2⟩, e3, e4⟩ := cells5 N5.out
    clear ht F3 hz3
    cases t
    · have HNE : Hid ((onceK ⟨di, dp, dS, dt, oN⟩).1 ≠ ⟨di, dp, dS, dt, oN⟩) := Lib.hid (by rw [HO.out]; exact of_decide_eq_false HT.out)
      have HA2 : Hid (AlongK ⟨id, ph, L, th, oN⟩ ⟨oi, op, oS, ot, oN⟩ (M ++ om)) := Lib.hid (by have := HA.out.next HNE.out; rw [HO.out] at this; exact this)
      have hless : leftK ⟨oi, op, oS, ot, oN⟩ < leftK ⟨di, dp, dS, dt, oN⟩ := by have := once_less HNE.out; rw [HO.out] at this; exact this
      clear HT
      go_upto_region 6 with (first
        | (go_at_call 15; refine HSM.out.mono ?_; rintro e w6 ⟨rfl, x6⟩; have X6 : Hid (Ext W5 w6) := Lib.hid x6; clear d0 d1 d2 d3 d4 e0 e1 e2 e3 e4; obtain ⟨⟨d0, d1, d2⟩, d3, d4⟩ := cells5 (keepU F5.out.dbox x6); obtain ⟨⟨e0, e1, e2⟩, e3, e4⟩ := cells5 (keepU N5.out x6); clear x6))
      go_wp2_with (first | refine haltst 29 ?_)
      refine .inl ?_
      refine st_l 29 (.tmp 1) (.tmp 21) w.heap.size 0 29 #[.int .i64 di, .int .i64 dp, .slice va vn vc, .int .i64 dt, .slice na oN.length nc] #[.int .i64 oi, .int .i64 op, .slice a2 oS.length c2, .int .i64 ot, .slice na oN.length nc] #[.int .i64 oi, .int .i64 op, .slice a2 oS.length c2, .int .i64 ot, .slice na oN.length nc] rfl rfl (keepU F5.out.dbox X6.out) (by kernel_rfl) (by simp) rfl rfl ?_
      intro W9 hW9 o9
      simp only [Act.put]
      have F9 := Lib.hid (F5.out.swap2 X6.out (S5.out.ext X6.out) HV5.out hW9 o9)
      have HNN := HL.out
      go_wp2
      go_roundg (leftK ⟨oi, op, oS, ot, oN⟩)
      case measure => omega
      case rel => exact ⟨⟨oi, op, oS, ot, oN⟩, _, _, _, _, _, _, _, rfl, F9, HA2, Lib.hid (Nat.le_refl _)⟩
    · have HEE : Hid ((onceK ⟨di, dp, dS, dt, oN⟩).1 = ⟨di, dp, dS, dt, oN⟩) := Lib.hid (by rw [HO.out]; exact of_decide_eq_true HT.out)
      have HR : Hid (fireAll ⟨id, ph, L, th, oN⟩ = (⟨di, dp, dS, dt, oN⟩, M ++ om)) := Lib.hid (by obtain ⟨q1, q2⟩ := HA.out.ends HEE.out; rw [q1]; rw [HO.out] at q2; dsimp only at q2; rw [q2, List.append_nil])
      clear HT
      go_upto_region 5 with (first
        | (go_at_call 15; refine HSM.out.mono ?_; rintro e w6 ⟨rfl, x6⟩; have X6 : Hid (Ext W5 w6) := Lib.hid x6; clear d0 d1 d2 d3 d4 e0 e1 e2 e3 e4; obtain ⟨⟨d0, d1, d2⟩, d3, d4⟩ := cells5 (keepU F5.out.dbox x6); clear x6))
      have FE := Lib.hid (F5.out.ext' X6.out)
      go_wp2_with (first | refine haltst 29 ?_)
      refine .inl ?_
      refine st_l 29 (.tmp 2) (.tmp 19) (w.heap.size + 1) 0 29 #[.int .i64 0, .int .i64 0, .slice none 0 0, .int .i64 0, .slice none 0 0] #[.int .i64 di, .int .i64 dp, .slice va vn vc, .int .i64 dt, .slice na oN.length nc] #[.int .i64 di, .int .i64 dp, .slice va vn vc, .int .i64 dt, .slice na oN.length nc] rfl rfl FE.out.rbox (by kernel_rfl) (by simp) rfl rfl ?_
      intro W9 hW9 o9
      simp only [Act.put]
      go_wp2
      exact bodyPost_ret (v := .tuple #[.agg #[.int .i64 di, .int .i64 dp, .slice va vn vc, .int .i64 dt, .slice na oN.length nc], .slice a5 n5 c5]) (res_ct 3 rfl rfl hW9 uDrinker (by kernel_rfl)) rfl (by
        rw [HR.out]
        have x9 := ext_off FE.out.ext o9 (fun b hb => by omega)
        exact ⟨_, _, _, rfl, FE.out.sides.off (FE.out.av.imp (fun h => h) fun h b hb hf => h b hb (.inr (.inl hf))) o9, HN.out.ext x9, (owU FE.out.out (fun b hb => o9.block b (FE.out.out.low b hb).2 (by have := (FE.out.out.low b hb).1; omega))).sl, x9⟩)
end Go.Proofs.Ytpjpjchnfllcmaa
