/- Layer 17, the program: a book without the sessions of which something is told, in its own memory; a copy. -/
import Derived.Test.YtgcnjkabpcbkgaaHP4
import Derived.Test.YtgcnjkabpcbkgaaHG
namespace Go.Proofs.Ytgcnjkabpcbkgaa
open Go.RowKit

theorem Nw.off {α δ : Type} [Elem α] [Nest α δ] {F F2 : Nat → Prop} {w W : World} {B : Nat} {v : Value} {L : List δ} (h : Nw α F w B v L) (o : Off F w W) (hv : ∀ b, v.ownBlock = some b → W.heap[b]? = w.heap[b]?) (g : Grows F F2 w) : Nw α F2 W B v L := by
  obtain ⟨xs, h1, h2, h3⟩ := h.any
  refine ⟨xs, owU h1 hv, h2, fun j x d hx hd => Nest.off (h3 j x d hx hd) (o.mono fun k hk => .inl hk) fun k hk => ?_⟩
  rcases hk with hk | hk
  · rcases g k hk with q | q
    · exact .inl (.inl q)
    · exact .inr q
  · exact .inl (.inr hk)
theorem Nw.low {α δ : Type} [Elem α] [Nest α δ] {F : Nat → Prop} {w : World} {B : Nat} {v : Value} {L : List δ} (h : Nw α F w B v L) : ∀ b, v.ownBlock = some b → B ≤ b ∧ b < w.heap.size := by
  obtain ⟨xs, h1, h2, h3⟩ := h.any
  exact h1.low
theorem filter_takeH {p : Se → Bool} {L : List Se} {k : Nat} {s : Se} (h : L[k]? = some s) (hp : p s = true) : ((L.take (k + 1)).filter p).map Se.id = ((L.take k).filter p).map Se.id ++ [s.id] ∧ (L.take (k + 1)).filter (fun s => !p s) = (L.take k).filter (fun s => !p s) := by
  rw [filter_nextH h, filter_nextH (p := fun s => !p s) h, hp, if_pos rfl, List.map_append]
  exact ⟨rfl, by simp⟩
theorem filter_keepH {p : Se → Bool} {L : List Se} {k : Nat} {s : Se} (h : L[k]? = some s) (hp : p s = false) : ((L.take (k + 1)).filter p).map Se.id = ((L.take k).filter p).map Se.id ∧ (L.take (k + 1)).filter (fun s => !p s) = (L.take k).filter (fun s => !p s) ++ [s] := by
  rw [filter_nextH h, filter_nextH (p := fun s => !p s) h, hp]
  exact ⟨by simp, by simp⟩

set_option maxRecDepth 100000 in
set_option maxHeartbeats 16000000 in
theorem without_any (F G : Nat → Prop) (w : World) (n : Int) (v fv : Value) (L : List Se) (p : Se → Bool) (h : Ns HV G w v L) (ht : TellsH w fv p) (hl : L.length ≤ 1000) (hls : ∀ s ∈ L, s.need.length ≤ 1000) (hF : ∀ b, F b → b < w.heap.size) :
    Calls Try.prog 44 #[.agg #[.int .i64 n, v], fv] w fun e w' => ∃ ao m c bo k d, e = .returned (.tuple #[.agg #[.int .i64 n, .slice ao m c], .slice bo k d]) ∧ Nw HV F w' w.heap.size (.slice ao m c) (L.filter fun s => !p s) ∧ Sa F w' (.slice bo k d) ((L.filter p).map Se.id) ∧ Ext w w' := by
  obtain ⟨ao, c, rfl⟩ := h.len
  obtain ⟨g, lb, rfl, eg, hp⟩ := ht
  obtain ⟨W0, hW0⟩ : ∃ W0, W0 = (w.alloc (.cells #[.int .i64 n, .slice ao L.length c] 24)).alloc (.cells #[.int .i64 0, .slice none 0 0] 24) := ⟨_, rfl⟩
  have X0 : Hid (Ext w W0) := Lib.hid (hW0 ▸ ((Ext.refl w).alloc _).alloc _)
  have B0 : Hid (W0.heap[w.heap.size]? = some (.cells #[.int .i64 n, .slice ao L.length c] 24 (0, 0))) := Lib.hid (hW0 ▸ old1 (at0 w _) _)
  have R0 : Hid (W0.heap[w.heap.size + 1]? = some (.cells #[.int .i64 0, .slice none 0 0] 24 (0, 0))) := Lib.hid (hW0 ▸ at1 w _ _)
  have HZ0 : Hid (W0.heap.size = w.heap.size + 2) := Lib.hid (by rw [hW0, size_alloc, size_alloc])
  have HW0 := Lib.hid hW0
  have hlen := h.length_le
  have HS := Lib.hid h
  have HLS := Lib.hid hls
  have HP := Lib.hid hp
  have k1 := blk_cell B0.out 1 rfl
  clear hW0 h hls hp
  go_enter Try.func44, Try.ntmps44
  go_upto_region 1 with (fail)
  rw [← HW0.out]
  go_wp2
  clear k1
  go_loopw [6, 7, 13] (fun q ids i wr => ∃ k : Nat, k ≤ L.length ∧ i = .int .i64 k ∧ ∃ ia im ic qa qn qc, ids = .slice ia im ic ∧ q = .slice qa qn qc ∧ Hid (Nw HV (Own1 (OrB F w 2) (.slice ia im ic)) wr (w.heap.size + 2) (.slice qa qn qc) ((L.take k).filter fun s => !p s)) ∧ Hid (Ow wr (w.heap.size + 2) (.slice ia im ic) (((L.take k).filter p).map Se.id)) ∧ Hid (∀ b, (Value.slice ia im ic).ownBlock = some b → (Value.slice qa qn qc).ownBlock ≠ some b) ∧ Hid (Ext W0 wr)) (fun _ _ i _ => L.length - (intOf i).toNat)
  case atStart => exact ⟨0, Nat.zero_le _, rfl, none, 0, 0, none, 0, 0, rfl, rfl, Lib.hid (Nw.nil _ _ _), Lib.hid (Ow.nil _ _), Lib.hid (fun b hb => by simp [Value.ownBlock] at hb), Lib.hid (Ext.refl _)⟩
  case round =>
    obtain ⟨k, hk, rfl, ia, im, ic, qa, qn, qc, rfl, rfl, NQ, OI, DI, XR⟩ := hrel
    by_cases hlt : k < L.length
    · obtain ⟨b1, off, so, sc, s, hsj, rfl, hn, hnc, hc63, hb, hsn, hcs⟩ := HS.out.sessAt hlt
      have HXW : Hid (Ext w wr) := Lib.hid (X0.out.trans XR.out)
      obtain ⟨⟨x0, x1⟩, x2, x3⟩ := hcs wr HXW.out
      have HSN := Lib.hid (hsn.sl.ext HXW.out)
      have hdn : s.need.length ≤ 1000 := HLS.out s (List.mem_of_getElem? hsj)
      obtain ⟨r, hr⟩ : ∃ r, p s = r := ⟨_, rfl⟩
      have HJ := Lib.hid hsj
      have hidl : (((L.take k).filter p).map Se.id).length ≤ 1000 := by rw [List.length_map]; exact Nat.le_trans (List.length_filter_le _ _) (by rw [List.length_take]; omega)
      obtain ⟨xs, hown, hxl, hel⟩ := NQ.out.any
      have HOW := Lib.hid hown
      have HXL := Lib.hid hxl
      have HEL := Lib.hid hel
      have hxs : xs.length ≤ 1000 := by rw [hxl]; exact Nat.le_trans (List.length_filter_le _ _) (by rw [List.length_take]; omega)
      have hz : w.heap.size + 2 ≤ wr.heap.size := by have := Below.size XR.out; have := HZ0.out; omega
      clear hcs hsj hn hsn hown hxl hel
      obtain ⟨I, hI⟩ : ∃ I, I = ((L.take k).filter p).map Se.id := ⟨_, rfl⟩
      rw [← hI] at OI hidl
      have HI := Lib.hid hI
      clear hI
      obtain ⟨y0, y1, y2, y3⟩ := s
      dsimp only at x0 x1 x2 x3 HSN hdn
      obtain ⟨W5, hW5⟩ : ∃ W5, W5 = wr.alloc (.cells #[.int .i64 y0, .slice so y1.length sc, .int .i64 y2, .int .i64 y3] 41) := ⟨_, rfl⟩
      have J5 : Hid (W5.heap[wr.heap.size]? = some (.cells #[.int .i64 y0, .slice so y1.length sc, .int .i64 y2, .int .i64 y3] 41 (0, 0))) := Lib.hid (hW5 ▸ at0 wr _)
      have X5 : Hid (Ext wr W5) := Lib.hid (hW5 ▸ (Ext.refl wr).alloc _)
      have HZ5 : Hid (W5.heap.size = wr.heap.size + 1) := Lib.hid (by rw [hW5, size_alloc])
      have HC := Lib.hid (hr ▸ HP.out y0 y2 y3 (.slice so y1.length sc) y1 W5 (HXW.out.trans X5.out) (HSN.out.ext X5.out))
      have HR := Lib.hid hr
      have HW5 := Lib.hid hW5
      clear hW5 hr
      go_upto_region 6 with (fail)
      rw [← HW5.out]
      clear x0 x1 x2 x3
      obtain ⟨⟨i0, i1⟩, i2, i3⟩ : (W5.cell? ⟨wr.heap.size, 0, none⟩ = some (.int .i64 y0) ∧ W5.cell? ⟨wr.heap.size, 1, none⟩ = some (.slice so y1.length sc)) ∧ W5.cell? ⟨wr.heap.size, 2, none⟩ = some (.int .i64 y2) ∧ W5.cell? ⟨wr.heap.size, 3, none⟩ = some (.int .i64 y3) := ⟨⟨blk_cell J5.out 0 rfl, blk_cell J5.out 1 rfl⟩, blk_cell J5.out 2 rfl, blk_cell J5.out 3 rfl⟩
      cases r
      · have HFK := Lib.hid (filter_keepH HJ.out HR.out)
        go_upto_region 9 with (first
          | (go_at_fn g; refine HC.out.mono ?_; rintro e w6 ⟨rfl, x6⟩; have X6 : Hid (Ext W5 w6) := Lib.hid x6; clear x6 i0 i1 i2 i3; have i1 := blk_cell (keepU J5.out X6.out) 1 rfl)
          | (go_at_call 57; refine (clone_i w6 _ y1 ((HSN.out.ext X5.out).ext X6.out) hdn).mono ?_; rintro e w7 ⟨v7, rfl, o7, x7⟩; obtain ⟨a7, n7, c7, rfl⟩ := o7.sh; have O7 := Lib.hid o7; have X7 : Hid (Ext w6 w7) := Lib.hid x7; have c71 := blk_cell (keepU J5.out (X6.out.trans x7)) 1 rfl; have f71 := blk_free (keepU J5.out (X6.out.trans x7)) 1; clear o7 x7 i1))
        obtain ⟨W8, hW8⟩ : ∃ q, q = w7.setCell ⟨wr.heap.size, 1, none⟩ (.slice a7 n7 c7) := ⟨_, rfl⟩
        have hz6 : wr.heap.size + 1 ≤ w6.heap.size := by have := Below.size X6.out; have := HZ5.out; omega
        have J8 : Hid (W8.heap[wr.heap.size]? = some (.cells #[.int .i64 y0, .slice a7 n7 c7, .int .i64 y2, .int .i64 y3] 41 (0, 0))) := Lib.hid (by rw [hW8, blk_set (keepU J5.out (X6.out.trans X7.out))]; rfl)
        have O8 : Hid (Ow W8 w6.heap.size (.slice a7 n7 c7) y1) := Lib.hid (hW8 ▸ O7.out.set (d := ⟨wr.heap.size, 1, none⟩) (by show wr.heap.size < _; omega) _)
        have X8 : Hid (Ext wr W8) := Lib.hid (hW8 ▸ below_set (X5.out.trans (X6.out.trans X7.out)) (Nat.le_refl _) _)
        rw [← hW8]
        clear hW8 O7 c71 f71
        obtain ⟨⟨i0, i1⟩, i2, i3⟩ : (W8.cell? ⟨wr.heap.size, 0, none⟩ = some (.int .i64 y0) ∧ W8.cell? ⟨wr.heap.size, 1, none⟩ = some (.slice a7 n7 c7)) ∧ W8.cell? ⟨wr.heap.size, 2, none⟩ = some (.int .i64 y2) ∧ W8.cell? ⟨wr.heap.size, 3, none⟩ = some (.int .i64 y3) := ⟨⟨blk_cell J8.out 0 rfl, blk_cell J8.out 1 rfl⟩, blk_cell J8.out 2 rfl, blk_cell J8.out 3 rfl⟩
        have L8 : Hid (Sl (W8.alloc (.cells #[.int .i64 y0, .slice a7 n7 c7, .int .i64 y2, .int .i64 y3] 41)) (.slice (some ⟨W8.heap.size, 0, none⟩) 1 1) [(⟨y0, a7, n7, c7, y2, y3⟩ : HV)]) := Lib.hid (Sl.litAt W8 _ rfl [(⟨y0, a7, n7, c7, y2, y3⟩ : HV)] (show (1 : Nat) ≤ 1000000 by decide))
        have HRX : Hid (∀ V, Ext W8 V → Nest.rd (Own1 (Own1 (OrB F w 2) (.slice ia im ic)) (.slice qa qn qc)) V (⟨y0, a7, n7, c7, y2, y3⟩ : HV) (⟨y0, y1, y2, y3⟩ : Se)) := Lib.hid fun V hV => (⟨rfl, Sa.new (O8.out.ext hV) (fun b hb => by
          rcases hb with ((hb | hb) | hb) | hb
          · have := hF b hb; omega
          · have := hb.2; omega
          · have := (OI.out.low b hb).2; omega
          · have := (HOW.out.low b hb).2; omega), rfl, rfl⟩ : RdH _ _ _ _)
        go_wp2_with (first
          | (at_builtin; refine wpList_append_sl (α := HV) rfl (.tmp 29) (.tmp 31) rfl (w.heap.size + 2) _ xs rfl ?_ (.slice (some ⟨_, 0, none⟩) 1 1) [(⟨y0, a7, n7, c7, y2, y3⟩ : HV)] rfl ?_ ?_ ?_ ?_; exact (HOW.out.ext (X8.out.alloc _)); exact L8.out; (first | omega | (simp; omega)); exact (by rw [size_alloc]; have := Below.size X8.out; omega); intro v9 W9 ho9 ha9; obtain ⟨a9, n9, c9, rfl⟩ := ho9.sh; have hq9 := ha9.block; have og := off_grown ha9.grown; have hst := Nw.step (α := HV) (δ := Se) (F := Own1 (OrB F w 2) (.slice ia im ic)) (L := (L.take k).filter fun s => !p s) HXL.out (fun j x e hx he => Nest.ext (HEL.out j x e hx he) (X8.out.alloc _)) (HRX.out _ ((Ext.refl W8).alloc _)) ho9 ha9; have HST := Lib.hid hst; have X9 : Hid (Ext W0 W9) := Lib.hid (Below.trans (XR.out.trans (X8.out.alloc _)) (ha9.below.mono (by have := HZ0.out; omega))); have I9 : Hid (Ow W9 (w.heap.size + 2) (.slice ia im ic) I) := Lib.hid (owU (OI.out.ext (X8.out.alloc _)) (fun b hb => og.block b ((OI.out.ext (X8.out.alloc _)).low b hb).2 (fun e => DI.out b hb e))); have D9 : Hid (∀ b, (Value.slice ia im ic).ownBlock = some b → (Value.slice a9 n9 c9).ownBlock ≠ some b) := Lib.hid (fun b hb e => by rcases hq9 with q | q; (exact DI.out b hb (q.symm.trans e)); (have h1 := q b e; have h2 := (OI.out.low b hb).2; have h3 := Below.size (X8.out.alloc (.cells #[.int .i64 y0, .slice a7 n7 c7, .int .i64 y2, .int .i64 y3] 41)); omega)); clear ho9 ha9 hst hq9 og))
        go_roundw
        case rel => exact ⟨k + 1, by omega, by go_num, _, _, _, _, _, _, rfl, rfl, Lib.hid (by rw [HFK.out.2]; exact HST.out), Lib.hid (by rw [HFK.out.1, ← HI.out]; exact I9.out), D9, X9⟩
        case measure => simp [intOf]; omega
      · have HFT := Lib.hid (filter_takeH HJ.out HR.out)
        have L6 : Hid (∀ V : World, Sl (V.alloc (.cells #[.int .i64 y0] 3)) (.slice (some ⟨V.heap.size, 0, none⟩) 1 1) [y0]) := Lib.hid fun V => Sl.litAt V _ rfl [y0] (show (1 : Nat) ≤ 1000000 by decide)
        go_wp2_with (first
          | (go_at_fn g; refine HC.out.mono ?_; rintro e w6 ⟨rfl, x6⟩; have X6 : Hid (Ext wr w6) := Lib.hid (X5.out.trans x6); have j0 := blk_cell (keepU J5.out x6) 0 rfl; clear x6 i0 i1 i2 i3)
          | (at_builtin; refine wpList_append_sl (α := Int) rfl (.tmp 20) (.tmp 23) rfl (w.heap.size + 2) _ I rfl ?_ (.slice (some ⟨_, 0, none⟩) 1 1) [y0] rfl ?_ ?_ ?_ ?_; exact (OI.out.ext (X6.out.alloc _)); exact (L6.out w6); (first | omega | (simp; omega)); exact (by rw [size_alloc]; have := Below.size X6.out; omega); intro v9 W9 ho9 ha9; obtain ⟨a9, n9, c9, rfl⟩ := ho9.sh; have hq9 := ha9.block; have og := off_grown ha9.grown; have X9 : Hid (Ext W0 W9) := Lib.hid (Below.trans (XR.out.trans (X6.out.alloc _)) (ha9.below.mono (by have := HZ0.out; omega))); have I9 : Hid (Ow W9 (w.heap.size + 2) (.slice a9 n9 c9) (I ++ [y0])) := Lib.hid ho9; have N9 : Hid (Nw HV (Own1 (OrB F w 2) (.slice a9 n9 c9)) W9 (w.heap.size + 2) (.slice qa qn qc) ((L.take k).filter fun s => !p s)) := Lib.hid ((NQ.out.ext (X6.out.alloc _)).off (og.mono fun b hb => .inr hb) (fun b hb => og.block b ((HOW.out.ext (X6.out.alloc _)).low b hb).2 (fun e => DI.out b e hb)) (fun b hb => by rcases hb with hb | hb; (exact .inl (.inl hb)); (rcases hq9 with q | q; (exact .inl (.inr (q.symm.trans hb))); (exact .inr (q b hb))))); have D9 : Hid (∀ b, (Value.slice a9 n9 c9).ownBlock = some b → (Value.slice qa qn qc).ownBlock ≠ some b) := Lib.hid (fun b hb e => by rcases hq9 with q | q; (exact DI.out b (q.symm.trans hb) e); (have h1 := q b hb; have h2 := ((HOW.out.ext (X6.out.alloc (.cells #[.int .i64 y0] 3))).low b e).2; omega)); clear ho9 ha9 hq9 og))
        go_roundw
        case rel => exact ⟨k + 1, by omega, by go_num, _, _, _, _, _, _, rfl, rfl, Lib.hid (by rw [HFT.out.2]; exact N9.out), Lib.hid (by rw [HFT.out.1, ← HI.out]; exact I9.out), D9, X9⟩
        case measure => simp [intOf]; omega
    · have hkl : k = L.length := by omega
      have hq := NQ.out
      have hi := OI.out
      rw [hkl, List.take_length] at hq hi
      have HQ := Lib.hid hq
      have HI := Lib.hid hi
      have BR := Lib.hid (keepU B0.out XR.out)
      have RR := Lib.hid (keepU R0.out XR.out)
      have hz : w.heap.size + 2 ≤ wr.heap.size := by have := Below.size XR.out; have := HZ0.out; omega
      have j1 := blk_cell BR.out 1 rfl
      have f1 := blk_free BR.out 1
      clear hq hi hkl
      go_upto_region 12 with (fail)
      obtain ⟨W8, hW8⟩ : ∃ q, q = wr.setCell ⟨w.heap.size, 1, none⟩ (.slice qa qn qc) := ⟨_, rfl⟩
      have oB : Off (fun k => k = w.heap.size) wr W8 := hW8 ▸ off_set wr ⟨w.heap.size, 1, none⟩ _
      have B8 : Hid (W8.heap[w.heap.size]? = some (.cells #[.int .i64 n, .slice qa qn qc] 24 (0, 0))) := Lib.hid (by rw [hW8, blk_set BR.out]; rfl)
      have R8 : Hid (W8.heap[w.heap.size + 1]? = some (.cells #[.int .i64 0, .slice none 0 0] 24 (0, 0))) := Lib.hid (oB.blk RR.out (by omega))
      have N8 : Hid (Nw HV (Own1 (OrB F w 2) (.slice ia im ic)) W8 (w.heap.size + 2) (.slice qa qn qc) (L.filter fun s => !p s)) := Lib.hid (hW8 ▸ HQ.out.set (d := ⟨w.heap.size, 1, none⟩) (.inl (.inr ⟨Nat.le_refl _, by show w.heap.size < _; omega⟩)) (by show w.heap.size < _; omega) _)
      have I8 : Hid (Ow W8 (w.heap.size + 2) (.slice ia im ic) ((L.filter p).map Se.id)) := Lib.hid (hW8 ▸ HI.out.set (d := ⟨w.heap.size, 1, none⟩) (by show w.heap.size < _; omega) _)
      have X8 : Hid (Ext w W8) := Lib.hid (ext_off (X0.out.trans XR.out) oB (fun b hb => by omega))
      rw [← hW8]
      clear hW8 oB j1 f1
      obtain ⟨j0, j1⟩ : W8.cell? ⟨w.heap.size, 0, none⟩ = some (.int .i64 n) ∧ W8.cell? ⟨w.heap.size, 1, none⟩ = some (.slice qa qn qc) := ⟨blk_cell B8.out 0 rfl, blk_cell B8.out 1 rfl⟩
      go_wp2_with (first | refine haltst 24 ?_)
      refine .inl ?_
      refine st_l 24 (.tmp 4) (.tmp 36) (w.heap.size + 1) 0 24 _ #[.int .i64 n, .slice qa qn qc] _ rfl rfl R8.out (by kernel_rfl) (by simp) rfl rfl ?_
      intro W9 hW9 o9
      simp only [Act.put]
      go_wp2
      exact bodyPost_ret (v := .tuple #[.agg #[.int .i64 n, .slice qa qn qc], .slice ia im ic]) (res_ct 5 rfl rfl hW9 uBook (by kernel_rfl)) rfl ⟨_, _, _, _, _, _, rfl, (N8.out.off (o9.mono fun b hb => .inl (.inr ⟨by omega, by omega⟩)) (fun b hb => o9.block b (N8.out.low b hb).2 (fun e => by have := (N8.out.low b hb).1; omega)) (fun b hb => .inl (.inl (.inl hb)))).mono (by omega), sa_orB' ((Sa.new (F := OrB F w 2) I8.out (fun b hb => hb.elim (fun q => by have := hF b q; omega) (fun q => by have := q.2; omega))).off (o9.mono fun b hb => .inr ⟨by omega, by omega⟩) (Grows.refl _ _)), ext_off X8.out o9 (fun b hb => by omega)⟩
end Go.Proofs.Ytgcnjkabpcbkgaa
