/- Layer 10's document: PipeDoes. -/
import Derived.Test.YtlakolkpfkakoaaGreatDoorMJC
import Derived.Deep.CutBlock
import Derived.Deep.DeepCutAuto
namespace Go.Proofs.YtlakolkpfkakoaaGreatDoor
open Go.RowKit

set_option linter.unusedVariables false

set_option maxRecDepth 100000 in
set_option maxHeartbeats 64000000 in
theorem pdoes_any (w : World) (hs : Std w) (v : Value) (l : List Act10) (h : Sl w v l) (hin : ∀ y ∈ l, (-9223372036854775808 ≤ y.x ∧ y.x ≤ 9223372036854775807) ∧ -9223372036854775808 ≤ y.sd ∧ y.sd ≤ 9223372036854775807) (e : Int) (first : Nat) (hf : first < 18446744073709551616) (win qn wait room : Int) :
    Calls Tryz.prog 3 #[.int .i64 e, .int .u64 first, .int .i64 win, .int .i64 qn, .int .i64 wait, .int .i64 room, v] w (GivesB w (.bool true)) := by
  have hlen := h.length_le
  have HS := Lib.hid h
  have HST := Lib.hid hs
  have HIN := Lib.hid hin
  obtain ⟨ao, c, rfl⟩ := h.len
  clear h hs hin
  go_enter Tryz.func3, Tryz.ntmps3
  (try dsimp only [List.append])
  go_wp2_with fail
  refine (iNew (w := w) HST.out e first win qn wait room hf).mono ?_
  rintro ev w0 ⟨p, F0, rfl, n, o, g⟩
  have N0 := Lib.hid n
  have O0 := Lib.hid o
  have X0 := Lib.hid g
  clear n o g
  go_wp2_with fail
  refine (awake_any w0 (HST.out.ext X0.out)).mono ?_
  rintro ev w1 ⟨rfl, x1⟩
  have N1 := Lib.hid (N0.out.off (Off.of_ext (F := fun _ => False) x1) (fun _ _ hf => hf))
  have X1 := Lib.hid (Ext.trans X0.out x1)
  clear x1 N0 X0
  go_wp2_with fail
  refine (few_any w1 _ l (HS.out.ext X1.out)).mono ?_
  rintro ev w2 ⟨r, rfl, hr, rfl⟩
  cases r
  · clear hr
    go_wp2_with fail
    refine (awake_any w1 (HST.out.ext X1.out)).mono ?_
    rintro ev w2 ⟨rfl, x2⟩
    have X2 := Lib.hid (Ext.trans X1.out x2)
    clear x2
    go_wp2
    go_ret
    exact ⟨rfl, X2.out⟩
  have HR := Lib.hid (hr rfl)
  clear hr
  go_wp2_with fail
  refine (rNew_any F0 w1 N1.out.low e first win qn wait room).mono ?_
  rintro ev w3 ⟨v3, rfl, ⟨⟨qa0, qn0, qc0⟩, ⟨qa1, qn1, qc1⟩, ⟨qa2, qn2, qc2⟩, ⟨qa3, qn3, qc3⟩, ⟨qa4, qn4, qc4⟩, rfl, r3⟩, x3⟩
  have L0 : LenG (PipeS.new e first win qn wait room) 0 := ⟨Nat.le_refl _, Nat.le_refl _⟩
  obtain ⟨Q0, hQ0⟩ : ∃ Q0, Q0 = PipeS.new e first win qn wait room := ⟨_, rfl⟩
  rw [← hQ0] at r3 N1 L0 ⊢
  have HL0 := Lib.hid L0
  unfold pcs
  dsimp only [SV.v]
  go_wp2_with (first | refine haltst 35 ?_ | refine haltld 35 ?_)
  refine .inl ?_
  refine st_l 35 (.tmp 16) (.tmp 68) (w3.heap.size) 0 35 #[.int .i64 0, .int .i64 0, .int .i64 0, .int .i64 0, .slice none 0 0, .int .u64 0, .int .i64 0, .int .i64 0, .int .u64 0, .bool false, .int .i64 0, .int .i64 0, .int .i64 0, .int .i64 0, .int .i64 0, .slice none 0 0, .int .u64 0, .int .i64 0, .int .i64 0, .int .u64 0, .bool false, .int .i64 0, .slice none 0 0, .slice none 0 0, .int .i64 0, .int .i64 0, .slice none 0 0] #[.int .i64 Q0.e0.e, .int .i64 Q0.e0.win, .int .i64 Q0.e0.qn, .int .i64 Q0.e0.wait, .slice qa0 qn0 qc0, .int .u64 Q0.e0.first, .int .i64 Q0.e0.out, .int .i64 Q0.e0.ever, .int .u64 Q0.e0.want, .bool Q0.e0.owes, .int .i64 Q0.e0.age, .int .i64 Q0.e1.e, .int .i64 Q0.e1.win, .int .i64 Q0.e1.qn, .int .i64 Q0.e1.wait, .slice qa1 qn1 qc1, .int .u64 Q0.e1.first, .int .i64 Q0.e1.out, .int .i64 Q0.e1.ever, .int .u64 Q0.e1.want, .bool Q0.e1.owes, .int .i64 Q0.e1.age, .slice qa2 qn2 qc2, .slice qa3 qn3 qc3, .int .i64 Q0.net.n, .int .i64 Q0.net.room, .slice qa4 qn4 qc4] #[.int .i64 Q0.e0.e, .int .i64 Q0.e0.win, .int .i64 Q0.e0.qn, .int .i64 Q0.e0.wait, .slice qa0 qn0 qc0, .int .u64 Q0.e0.first, .int .i64 Q0.e0.out, .int .i64 Q0.e0.ever, .int .u64 Q0.e0.want, .bool Q0.e0.owes, .int .i64 Q0.e0.age, .int .i64 Q0.e1.e, .int .i64 Q0.e1.win, .int .i64 Q0.e1.qn, .int .i64 Q0.e1.wait, .slice qa1 qn1 qc1, .int .u64 Q0.e1.first, .int .i64 Q0.e1.out, .int .i64 Q0.e1.ever, .int .u64 Q0.e1.want, .bool Q0.e1.owes, .int .i64 Q0.e1.age, .slice qa2 qn2 qc2, .slice qa3 qn3 qc3, .int .i64 Q0.net.n, .int .i64 Q0.net.room, .slice qa4 qn4 qc4] rfl rfl (get_alloc_new w3 _) (by kernel_rfl) (by simp) rfl rfl ?_
  intro WA hbA hoA
  have D0 : Hid (Dq w WA p Q0 w3.heap.size 0) := Lib.hid (by
    have x4 : Ext w3 WA := ext_off (Ext.alloc (Ext.refl w3) _) hoA (fun k hk => by omega)
    have n3 := N1.out.off (Off.of_ext (F := fun _ => False) (Ext.trans x3 x4)) (fun _ _ hf => hf)
    have hl3 : ∀ k, F0 k → k < w3.heap.size := fun k hk => Nat.lt_of_lt_of_le (N1.out.low k hk) x3.size
    exact ⟨F0, ⟨qa0, qn0, qc0⟩, ⟨qa1, qn1, qc1⟩, ⟨qa2, qn2, qc2⟩, ⟨qa3, qn3, qc3⟩, ⟨qa4, qn4, qc4⟩, ⟨n3, O0.out, fun hf => Nat.lt_irrefl _ (hl3 _ hf), hbA, (r3.wide (fun k h1 h2 => by rcases h2 with h2 | h2; exact h2; omega)).ext x4, Ext.trans X1.out (Ext.trans x3 x4), Nat.le_trans X1.out.size x3.size⟩⟩)
  obtain ⟨g, hg⟩ : ∃ g, g = w3.heap.size := ⟨_, rfl⟩
  rw [← hg] at D0 ⊢
  clear hbA hoA r3 x3 N1 O0 X1 hQ0 L0 hg
  go_wp2
  go_loopw [17] (fun i wr => ∃ (k : Nat) (Q : PipeS), k ≤ l.length ∧ i = .int .i64 k ∧ Hid (LenG Q k) ∧ Hid (Dq w wr p Q g (10 * k))) (fun i _ => l.length - (intOf i).toNat)
  case atStart => exact ⟨0, Q0, Nat.zero_le _, rfl, HL0, D0⟩
  case round =>
    obtain ⟨k, Q, hk, rfl, HLQ, HDQ⟩ := hrel
    clear D0 HL0
    by_cases hlt : k < l.length
    · have hm9 : l.getD k dA ∈ l := by simp [hlt]
      have hsz := HR.out.2 _ hm9
      have hx := (HIN.out _ hm9).1
      have h80 := HR.out.1
      obtain ⟨F, ⟨sa0, sn0, sc0⟩, ⟨sa1, sn1, sc1⟩, ⟨sa2, sn2, sc2⟩, ⟨sa3, sn3, sc3⟩, ⟨sa4, sn4, sc4⟩, hd⟩ := HDQ.out
      have HD := Lib.hid hd
      have okQ := hd.at'.ok
      have hl := HLQ.out
      obtain ⟨mm, hmm⟩ : ∃ mm, mm = 10 * k := ⟨_, rfl⟩
      rw [← hmm] at HD
      obtain ⟨b, off, rfl, _, hcl, hbl, hat⟩ := act_here HS.out hd.ext hlt
      obtain ⟨Y, hY⟩ : ∃ Y, Y = l.getD k dA := ⟨_, rfl⟩
      rw [← hY] at hat hsz hx
      obtain ⟨yk, ysd, yn, yx, ys⟩ := Y
      dsimp only at hsz hx
      have hkc : (k : Int) ≤ (c : Int) := by omega
      have hn2 : IntKind.i64.wrap ((k : Int) + 1) = (k : Int) + 1 := wrapN _ (by omega) (by omega)
      obtain ⟨c0, c1, c2', c3, c4⟩ := hat
      dsimp only at c0 c1 c2' c3 c4
      clear hd hY hm9 HDQ hcl hbl
      go_upto_block 2 with (fail)
      go_cut [19, 20] (fun s19 s20 wx => ∃ (ok : Bool) (Q' : PipeS), s19 = .bool ok ∧ s20 = .bool ok ∧ Hid (LenG Q' (k + 1)) ∧ Hid (Dq w wx p Q' g (10 * (k + 1))))
      by_cases h0 : yk = 0
      · subst h0
        as_aux_lemma =>
          have hl9 : LenG (Q.send ysd ys) (k + 1) := (hl.setE _ _).more
          have cP := fun (D1 : Hid (DoP w (wr.alloc (.cells #[.int .i64 0, .int .i64 ysd, .int .i64 yn, .int .i64 yx, .string ys] 38)) p Q Q F g ⟨sa0, sn0, sc0⟩ ⟨sa1, sn1, sc1⟩ ⟨sa2, sn2, sc2⟩ ⟨sa3, sn3, sc3⟩ ⟨sa4, sn4, sc4⟩ mm)) => (iSend D1.out.at' ysd ys (by omega))
          have cR := fun (G : Nat → Prop) (W : World) hW (h : RP G W Q ⟨sa0, sn0, sc0⟩ ⟨sa1, sn1, sc1⟩ ⟨sa2, sn2, sc2⟩ ⟨sa3, sn3, sc3⟩ ⟨sa4, sn4, sc4⟩ mm) => rSend_any G W hW Q ⟨sa0, sn0, sc0⟩ ⟨sa1, sn1, sc1⟩ ⟨sa2, sn2, sc2⟩ ⟨sa3, sn3, sc3⟩ ⟨sa4, sn4, sc4⟩ mm okQ h ys ysd
          unfold pcs at cR
          dsimp only [SV.v] at cR
          obtain ⟨Q', hQ'⟩ : ∃ Q', Q' = Q.send ysd ys := ⟨_, rfl⟩
          obtain ⟨E9, hE9⟩ : ∃ z, z = Q.sendE ysd ys := ⟨_, rfl⟩
          rw [← hQ', ← hE9] at cP
          rw [← hQ', ← hE9] at cR
          rw [← hQ'] at hl9
          have HL9 := Lib.hid hl9
          have D1 : Hid (DoP w (wr.alloc (.cells #[.int .i64 0, .int .i64 ysd, .int .i64 yn, .int .i64 yx, .string ys] 38)) p Q Q F g ⟨sa0, sn0, sc0⟩ ⟨sa1, sn1, sc1⟩ ⟨sa2, sn2, sc2⟩ ⟨sa3, sn3, sc3⟩ ⟨sa4, sn4, sc4⟩ mm) := Lib.hid (HD.out.more (Ext.alloc (Ext.refl wr) _))
          have HCP := Lib.hid (cP D1)
          have HCR := Lib.hid cR
          have hnF : ¬ F wr.heap.size := fun hf => Nat.lt_irrefl _ (HD.out.at'.low _ hf)
          clear cP cR hl9 hl hQ' okQ hx hsz hE9
          go_wp2_with fail
          refine HCP.out.mono ?_
          rintro ev w5 ⟨F5, rfl, n5, o5, gr5⟩
          have D5 := Lib.hid (D1.out.moves n5 o5 gr5)
          have ka5 : w5.heap[wr.heap.size]? = some (.cells #[.int .i64 0, .int .i64 ysd, .int .i64 yn, .int .i64 yx, .string ys] 38 (0, 0)) := o5.blk (get_alloc_new wr _) hnF
          have kb5 : w5.heap[g]? = some (.cells #[.int .i64 Q.e0.e, .int .i64 Q.e0.win, .int .i64 Q.e0.qn, .int .i64 Q.e0.wait, .slice sa0 sn0 sc0, .int .u64 Q.e0.first, .int .i64 Q.e0.out, .int .i64 Q.e0.ever, .int .u64 Q.e0.want, .bool Q.e0.owes, .int .i64 Q.e0.age, .int .i64 Q.e1.e, .int .i64 Q.e1.win, .int .i64 Q.e1.qn, .int .i64 Q.e1.wait, .slice sa1 sn1 sc1, .int .u64 Q.e1.first, .int .i64 Q.e1.out, .int .i64 Q.e1.ever, .int .u64 Q.e1.want, .bool Q.e1.owes, .int .i64 Q.e1.age, .slice sa2 sn2 sc2, .slice sa3 sn3 sc3, .int .i64 Q.net.n, .int .i64 Q.net.room, .slice sa4 sn4 sc4] 35 (0, 0)) := D5.out.box
          obtain ⟨⟨b0, b1, b2, b3, b4⟩, _⟩ := cells5 ka5
          clear n5 o5 gr5 D1 HCP hnF ka5
          try dsimp only
          go_wp2_with (first | refine haltst 35 ?_ | refine haltld 35 ?_)
          refine .inl ?_
          refine ld_l 35 (.tmp 16) (g) 35 #[.int .i64 Q.e0.e, .int .i64 Q.e0.win, .int .i64 Q.e0.qn, .int .i64 Q.e0.wait, .slice sa0 sn0 sc0, .int .u64 Q.e0.first, .int .i64 Q.e0.out, .int .i64 Q.e0.ever, .int .u64 Q.e0.want, .bool Q.e0.owes, .int .i64 Q.e0.age, .int .i64 Q.e1.e, .int .i64 Q.e1.win, .int .i64 Q.e1.qn, .int .i64 Q.e1.wait, .slice sa1 sn1 sc1, .int .u64 Q.e1.first, .int .i64 Q.e1.out, .int .i64 Q.e1.ever, .int .u64 Q.e1.want, .bool Q.e1.owes, .int .i64 Q.e1.age, .slice sa2 sn2 sc2, .slice sa3 sn3 sc3, .int .i64 Q.net.n, .int .i64 Q.net.room, .slice sa4 sn4 sc4] rfl (kb5) uPipe (by kernel_rfl) ?_
          go_wp2_with fail
          refine (HCR.out _ _ D5.out.low D5.out.rp).mono ?_
          rintro ev w6 ⟨v6, rfl, ⟨⟨ua0, un0, uc0⟩, ⟨ua1, un1, uc1⟩, ⟨ua2, un2, uc2⟩, ⟨ua3, un3, uc3⟩, ⟨ua4, un4, uc4⟩, rfl, r6⟩, x6⟩
          unfold pcs
          dsimp only [SV.v]
          go_wp2_with (first | refine haltst 35 ?_ | refine haltld 35 ?_)
          refine .inl ?_
          refine st_l 35 (.tmp 22) (.tmp 115) (w6.heap.size) 0 35 #[.int .i64 0, .int .i64 0, .int .i64 0, .int .i64 0, .slice none 0 0, .int .u64 0, .int .i64 0, .int .i64 0, .int .u64 0, .bool false, .int .i64 0, .int .i64 0, .int .i64 0, .int .i64 0, .int .i64 0, .slice none 0 0, .int .u64 0, .int .i64 0, .int .i64 0, .int .u64 0, .bool false, .int .i64 0, .slice none 0 0, .slice none 0 0, .int .i64 0, .int .i64 0, .slice none 0 0] #[.int .i64 Q'.e0.e, .int .i64 Q'.e0.win, .int .i64 Q'.e0.qn, .int .i64 Q'.e0.wait, .slice ua0 un0 uc0, .int .u64 Q'.e0.first, .int .i64 Q'.e0.out, .int .i64 Q'.e0.ever, .int .u64 Q'.e0.want, .bool Q'.e0.owes, .int .i64 Q'.e0.age, .int .i64 Q'.e1.e, .int .i64 Q'.e1.win, .int .i64 Q'.e1.qn, .int .i64 Q'.e1.wait, .slice ua1 un1 uc1, .int .u64 Q'.e1.first, .int .i64 Q'.e1.out, .int .i64 Q'.e1.ever, .int .u64 Q'.e1.want, .bool Q'.e1.owes, .int .i64 Q'.e1.age, .slice ua2 un2 uc2, .slice ua3 un3 uc3, .int .i64 Q'.net.n, .int .i64 Q'.net.room, .slice ua4 un4 uc4] #[.int .i64 Q'.e0.e, .int .i64 Q'.e0.win, .int .i64 Q'.e0.qn, .int .i64 Q'.e0.wait, .slice ua0 un0 uc0, .int .u64 Q'.e0.first, .int .i64 Q'.e0.out, .int .i64 Q'.e0.ever, .int .u64 Q'.e0.want, .bool Q'.e0.owes, .int .i64 Q'.e0.age, .int .i64 Q'.e1.e, .int .i64 Q'.e1.win, .int .i64 Q'.e1.qn, .int .i64 Q'.e1.wait, .slice ua1 un1 uc1, .int .u64 Q'.e1.first, .int .i64 Q'.e1.out, .int .i64 Q'.e1.ever, .int .u64 Q'.e1.want, .bool Q'.e1.owes, .int .i64 Q'.e1.age, .slice ua2 un2 uc2, .slice ua3 un3 uc3, .int .i64 Q'.net.n, .int .i64 Q'.net.room, .slice ua4 un4 uc4] rfl rfl (get_alloc_new w6 _) (by kernel_rfl) (by simp) rfl rfl ?_
          intro W7 hb7 ho7
          have x7 : Ext w6 W7 := ext_off (Ext.alloc (Ext.refl w6) _) ho7 (fun k hk => by omega)
          have D7 := Lib.hid (D5.out.more (Ext.trans x6 x7))
          have R7 := Lib.hid (r6.ext x7)
          have kb7 : W7.heap[g]? = some (.cells #[.int .i64 Q.e0.e, .int .i64 Q.e0.win, .int .i64 Q.e0.qn, .int .i64 Q.e0.wait, .slice sa0 sn0 sc0, .int .u64 Q.e0.first, .int .i64 Q.e0.out, .int .i64 Q.e0.ever, .int .u64 Q.e0.want, .bool Q.e0.owes, .int .i64 Q.e0.age, .int .i64 Q.e1.e, .int .i64 Q.e1.win, .int .i64 Q.e1.qn, .int .i64 Q.e1.wait, .slice sa1 sn1 sc1, .int .u64 Q.e1.first, .int .i64 Q.e1.out, .int .i64 Q.e1.ever, .int .u64 Q.e1.want, .bool Q.e1.owes, .int .i64 Q.e1.age, .slice sa2 sn2 sc2, .slice sa3 sn3 sc3, .int .i64 Q.net.n, .int .i64 Q.net.room, .slice sa4 sn4 sc4] 35 (0, 0)) := D7.out.box
          clear x6 x7 r6 kb5 b0 b1 b2 b3 b4 ho7
          go_wp2_with (first | refine haltst 35 ?_ | refine haltld 35 ?_)
          refine .inl ?_
          refine ld_l 35 (.tmp 22) (w6.heap.size) 35 #[.int .i64 Q'.e0.e, .int .i64 Q'.e0.win, .int .i64 Q'.e0.qn, .int .i64 Q'.e0.wait, .slice ua0 un0 uc0, .int .u64 Q'.e0.first, .int .i64 Q'.e0.out, .int .i64 Q'.e0.ever, .int .u64 Q'.e0.want, .bool Q'.e0.owes, .int .i64 Q'.e0.age, .int .i64 Q'.e1.e, .int .i64 Q'.e1.win, .int .i64 Q'.e1.qn, .int .i64 Q'.e1.wait, .slice ua1 un1 uc1, .int .u64 Q'.e1.first, .int .i64 Q'.e1.out, .int .i64 Q'.e1.ever, .int .u64 Q'.e1.want, .bool Q'.e1.owes, .int .i64 Q'.e1.age, .slice ua2 un2 uc2, .slice ua3 un3 uc3, .int .i64 Q'.net.n, .int .i64 Q'.net.room, .slice ua4 un4 uc4] rfl (hb7) uPipe (by kernel_rfl) ?_
          go_wp2_with (first | refine haltst 35 ?_ | refine haltld 35 ?_)
          refine .inl ?_
          refine st_l 35 (.tmp 16) (.tmp 117) (g) 0 35 #[.int .i64 Q.e0.e, .int .i64 Q.e0.win, .int .i64 Q.e0.qn, .int .i64 Q.e0.wait, .slice sa0 sn0 sc0, .int .u64 Q.e0.first, .int .i64 Q.e0.out, .int .i64 Q.e0.ever, .int .u64 Q.e0.want, .bool Q.e0.owes, .int .i64 Q.e0.age, .int .i64 Q.e1.e, .int .i64 Q.e1.win, .int .i64 Q.e1.qn, .int .i64 Q.e1.wait, .slice sa1 sn1 sc1, .int .u64 Q.e1.first, .int .i64 Q.e1.out, .int .i64 Q.e1.ever, .int .u64 Q.e1.want, .bool Q.e1.owes, .int .i64 Q.e1.age, .slice sa2 sn2 sc2, .slice sa3 sn3 sc3, .int .i64 Q.net.n, .int .i64 Q.net.room, .slice sa4 sn4 sc4] #[.int .i64 Q'.e0.e, .int .i64 Q'.e0.win, .int .i64 Q'.e0.qn, .int .i64 Q'.e0.wait, .slice ua0 un0 uc0, .int .u64 Q'.e0.first, .int .i64 Q'.e0.out, .int .i64 Q'.e0.ever, .int .u64 Q'.e0.want, .bool Q'.e0.owes, .int .i64 Q'.e0.age, .int .i64 Q'.e1.e, .int .i64 Q'.e1.win, .int .i64 Q'.e1.qn, .int .i64 Q'.e1.wait, .slice ua1 un1 uc1, .int .u64 Q'.e1.first, .int .i64 Q'.e1.out, .int .i64 Q'.e1.ever, .int .u64 Q'.e1.want, .bool Q'.e1.owes, .int .i64 Q'.e1.age, .slice ua2 un2 uc2, .slice ua3 un3 uc3, .int .i64 Q'.net.n, .int .i64 Q'.net.room, .slice ua4 un4 uc4] #[.int .i64 Q'.e0.e, .int .i64 Q'.e0.win, .int .i64 Q'.e0.qn, .int .i64 Q'.e0.wait, .slice ua0 un0 uc0, .int .u64 Q'.e0.first, .int .i64 Q'.e0.out, .int .i64 Q'.e0.ever, .int .u64 Q'.e0.want, .bool Q'.e0.owes, .int .i64 Q'.e0.age, .int .i64 Q'.e1.e, .int .i64 Q'.e1.win, .int .i64 Q'.e1.qn, .int .i64 Q'.e1.wait, .slice ua1 un1 uc1, .int .u64 Q'.e1.first, .int .i64 Q'.e1.out, .int .i64 Q'.e1.ever, .int .u64 Q'.e1.want, .bool Q'.e1.owes, .int .i64 Q'.e1.age, .slice ua2 un2 uc2, .slice ua3 un3 uc3, .int .i64 Q'.net.n, .int .i64 Q'.net.room, .slice ua4 un4 uc4] rfl rfl (kb7) (by kernel_rfl) (by simp) rfl rfl ?_
          intro W8 hb8 ho8
          have D8 : Hid (Dq w W8 p Q' g (10 * (k + 1))) := Lib.hid (Dq.up ⟨F5, ⟨ua0, un0, uc0⟩, ⟨ua1, un1, uc1⟩, ⟨ua2, un2, uc2⟩, ⟨ua3, un3, uc3⟩, ⟨ua4, un4, uc4⟩, D7.out.store R7.out hb8 ho8⟩ (by omega))
          clear hb8 ho8 kb7 D7 R7 D5 HCR HD
          go_wp2_with fail
          go_meet
          exact ⟨true, Q', by simp, rfl, HL9, D8⟩
      · have t0 : (yk == 0) = false := beq_eq_false_iff_ne.2 h0
        by_cases h1 : yk = 1
        · subst h1
          as_aux_lemma =>
            have hl9 : LenG (Q.go ysd) (k + 1) := (hl.go _).more
            have cP := fun (D1 : Hid (DoP w (wr.alloc (.cells #[.int .i64 1, .int .i64 ysd, .int .i64 yn, .int .i64 yx, .string ys] 38)) p Q Q F g ⟨sa0, sn0, sc0⟩ ⟨sa1, sn1, sc1⟩ ⟨sa2, sn2, sc2⟩ ⟨sa3, sn3, sc3⟩ ⟨sa4, sn4, sc4⟩ mm)) => (iGo (HST.out.ext D1.out.ext) D1.out.at' ysd)
            have cR := fun (G : Nat → Prop) (W : World) hW (h : RP G W Q ⟨sa0, sn0, sc0⟩ ⟨sa1, sn1, sc1⟩ ⟨sa2, sn2, sc2⟩ ⟨sa3, sn3, sc3⟩ ⟨sa4, sn4, sc4⟩ mm) => rGo_any G W hW Q ⟨sa0, sn0, sc0⟩ ⟨sa1, sn1, sc1⟩ ⟨sa2, sn2, sc2⟩ ⟨sa3, sn3, sc3⟩ ⟨sa4, sn4, sc4⟩ mm okQ h (by omega) ysd
            unfold pcs at cR
            dsimp only [SV.v] at cR
            obtain ⟨Q', hQ'⟩ : ∃ Q', Q' = Q.go ysd := ⟨_, rfl⟩
            obtain ⟨E9, hE9⟩ : ∃ z, z = Q.goN ysd := ⟨_, rfl⟩
            rw [← hQ', ← hE9] at cP
            rw [← hQ', ← hE9] at cR
            rw [← hQ'] at hl9
            have HL9 := Lib.hid hl9
            have D1 : Hid (DoP w (wr.alloc (.cells #[.int .i64 1, .int .i64 ysd, .int .i64 yn, .int .i64 yx, .string ys] 38)) p Q Q F g ⟨sa0, sn0, sc0⟩ ⟨sa1, sn1, sc1⟩ ⟨sa2, sn2, sc2⟩ ⟨sa3, sn3, sc3⟩ ⟨sa4, sn4, sc4⟩ mm) := Lib.hid (HD.out.more (Ext.alloc (Ext.refl wr) _))
            have HCP := Lib.hid (cP D1)
            have HCR := Lib.hid cR
            have hnF : ¬ F wr.heap.size := fun hf => Nat.lt_irrefl _ (HD.out.at'.low _ hf)
            clear cP cR hl9 hl hQ' okQ hx hsz hE9
            go_wp2_with fail
            refine HCP.out.mono ?_
            rintro ev w5 ⟨F5, rfl, n5, o5, gr5⟩
            have D5 := Lib.hid (D1.out.moves n5 o5 gr5)
            have ka5 : w5.heap[wr.heap.size]? = some (.cells #[.int .i64 1, .int .i64 ysd, .int .i64 yn, .int .i64 yx, .string ys] 38 (0, 0)) := o5.blk (get_alloc_new wr _) hnF
            have kb5 : w5.heap[g]? = some (.cells #[.int .i64 Q.e0.e, .int .i64 Q.e0.win, .int .i64 Q.e0.qn, .int .i64 Q.e0.wait, .slice sa0 sn0 sc0, .int .u64 Q.e0.first, .int .i64 Q.e0.out, .int .i64 Q.e0.ever, .int .u64 Q.e0.want, .bool Q.e0.owes, .int .i64 Q.e0.age, .int .i64 Q.e1.e, .int .i64 Q.e1.win, .int .i64 Q.e1.qn, .int .i64 Q.e1.wait, .slice sa1 sn1 sc1, .int .u64 Q.e1.first, .int .i64 Q.e1.out, .int .i64 Q.e1.ever, .int .u64 Q.e1.want, .bool Q.e1.owes, .int .i64 Q.e1.age, .slice sa2 sn2 sc2, .slice sa3 sn3 sc3, .int .i64 Q.net.n, .int .i64 Q.net.room, .slice sa4 sn4 sc4] 35 (0, 0)) := D5.out.box
            obtain ⟨⟨b0, b1, b2, b3, b4⟩, _⟩ := cells5 ka5
            clear n5 o5 gr5 D1 HCP hnF ka5
            try dsimp only
            go_wp2_with (first | refine haltst 35 ?_ | refine haltld 35 ?_)
            refine .inl ?_
            refine ld_l 35 (.tmp 16) (g) 35 #[.int .i64 Q.e0.e, .int .i64 Q.e0.win, .int .i64 Q.e0.qn, .int .i64 Q.e0.wait, .slice sa0 sn0 sc0, .int .u64 Q.e0.first, .int .i64 Q.e0.out, .int .i64 Q.e0.ever, .int .u64 Q.e0.want, .bool Q.e0.owes, .int .i64 Q.e0.age, .int .i64 Q.e1.e, .int .i64 Q.e1.win, .int .i64 Q.e1.qn, .int .i64 Q.e1.wait, .slice sa1 sn1 sc1, .int .u64 Q.e1.first, .int .i64 Q.e1.out, .int .i64 Q.e1.ever, .int .u64 Q.e1.want, .bool Q.e1.owes, .int .i64 Q.e1.age, .slice sa2 sn2 sc2, .slice sa3 sn3 sc3, .int .i64 Q.net.n, .int .i64 Q.net.room, .slice sa4 sn4 sc4] rfl (kb5) uPipe (by kernel_rfl) ?_
            go_wp2_with fail
            refine (HCR.out _ _ D5.out.low D5.out.rp).mono ?_
            rintro ev w6 ⟨v6, rfl, ⟨⟨ua0, un0, uc0⟩, ⟨ua1, un1, uc1⟩, ⟨ua2, un2, uc2⟩, ⟨ua3, un3, uc3⟩, ⟨ua4, un4, uc4⟩, rfl, r6⟩, x6⟩
            unfold pcs
            dsimp only [SV.v]
            go_wp2_with (first | refine haltst 35 ?_ | refine haltld 35 ?_)
            refine .inl ?_
            refine st_l 35 (.tmp 25) (.tmp 132) (w6.heap.size) 0 35 #[.int .i64 0, .int .i64 0, .int .i64 0, .int .i64 0, .slice none 0 0, .int .u64 0, .int .i64 0, .int .i64 0, .int .u64 0, .bool false, .int .i64 0, .int .i64 0, .int .i64 0, .int .i64 0, .int .i64 0, .slice none 0 0, .int .u64 0, .int .i64 0, .int .i64 0, .int .u64 0, .bool false, .int .i64 0, .slice none 0 0, .slice none 0 0, .int .i64 0, .int .i64 0, .slice none 0 0] #[.int .i64 Q'.e0.e, .int .i64 Q'.e0.win, .int .i64 Q'.e0.qn, .int .i64 Q'.e0.wait, .slice ua0 un0 uc0, .int .u64 Q'.e0.first, .int .i64 Q'.e0.out, .int .i64 Q'.e0.ever, .int .u64 Q'.e0.want, .bool Q'.e0.owes, .int .i64 Q'.e0.age, .int .i64 Q'.e1.e, .int .i64 Q'.e1.win, .int .i64 Q'.e1.qn, .int .i64 Q'.e1.wait, .slice ua1 un1 uc1, .int .u64 Q'.e1.first, .int .i64 Q'.e1.out, .int .i64 Q'.e1.ever, .int .u64 Q'.e1.want, .bool Q'.e1.owes, .int .i64 Q'.e1.age, .slice ua2 un2 uc2, .slice ua3 un3 uc3, .int .i64 Q'.net.n, .int .i64 Q'.net.room, .slice ua4 un4 uc4] #[.int .i64 Q'.e0.e, .int .i64 Q'.e0.win, .int .i64 Q'.e0.qn, .int .i64 Q'.e0.wait, .slice ua0 un0 uc0, .int .u64 Q'.e0.first, .int .i64 Q'.e0.out, .int .i64 Q'.e0.ever, .int .u64 Q'.e0.want, .bool Q'.e0.owes, .int .i64 Q'.e0.age, .int .i64 Q'.e1.e, .int .i64 Q'.e1.win, .int .i64 Q'.e1.qn, .int .i64 Q'.e1.wait, .slice ua1 un1 uc1, .int .u64 Q'.e1.first, .int .i64 Q'.e1.out, .int .i64 Q'.e1.ever, .int .u64 Q'.e1.want, .bool Q'.e1.owes, .int .i64 Q'.e1.age, .slice ua2 un2 uc2, .slice ua3 un3 uc3, .int .i64 Q'.net.n, .int .i64 Q'.net.room, .slice ua4 un4 uc4] rfl rfl (get_alloc_new w6 _) (by kernel_rfl) (by simp) rfl rfl ?_
            intro W7 hb7 ho7
            have x7 : Ext w6 W7 := ext_off (Ext.alloc (Ext.refl w6) _) ho7 (fun k hk => by omega)
            have D7 := Lib.hid (D5.out.more (Ext.trans x6 x7))
            have R7 := Lib.hid (r6.ext x7)
            have kb7 : W7.heap[g]? = some (.cells #[.int .i64 Q.e0.e, .int .i64 Q.e0.win, .int .i64 Q.e0.qn, .int .i64 Q.e0.wait, .slice sa0 sn0 sc0, .int .u64 Q.e0.first, .int .i64 Q.e0.out, .int .i64 Q.e0.ever, .int .u64 Q.e0.want, .bool Q.e0.owes, .int .i64 Q.e0.age, .int .i64 Q.e1.e, .int .i64 Q.e1.win, .int .i64 Q.e1.qn, .int .i64 Q.e1.wait, .slice sa1 sn1 sc1, .int .u64 Q.e1.first, .int .i64 Q.e1.out, .int .i64 Q.e1.ever, .int .u64 Q.e1.want, .bool Q.e1.owes, .int .i64 Q.e1.age, .slice sa2 sn2 sc2, .slice sa3 sn3 sc3, .int .i64 Q.net.n, .int .i64 Q.net.room, .slice sa4 sn4 sc4] 35 (0, 0)) := D7.out.box
            clear x6 x7 r6 kb5 b0 b1 b2 b3 b4 ho7
            go_wp2_with (first | refine haltst 35 ?_ | refine haltld 35 ?_)
            refine .inl ?_
            refine ld_l 35 (.tmp 25) (w6.heap.size) 35 #[.int .i64 Q'.e0.e, .int .i64 Q'.e0.win, .int .i64 Q'.e0.qn, .int .i64 Q'.e0.wait, .slice ua0 un0 uc0, .int .u64 Q'.e0.first, .int .i64 Q'.e0.out, .int .i64 Q'.e0.ever, .int .u64 Q'.e0.want, .bool Q'.e0.owes, .int .i64 Q'.e0.age, .int .i64 Q'.e1.e, .int .i64 Q'.e1.win, .int .i64 Q'.e1.qn, .int .i64 Q'.e1.wait, .slice ua1 un1 uc1, .int .u64 Q'.e1.first, .int .i64 Q'.e1.out, .int .i64 Q'.e1.ever, .int .u64 Q'.e1.want, .bool Q'.e1.owes, .int .i64 Q'.e1.age, .slice ua2 un2 uc2, .slice ua3 un3 uc3, .int .i64 Q'.net.n, .int .i64 Q'.net.room, .slice ua4 un4 uc4] rfl (hb7) uPipe (by kernel_rfl) ?_
            go_wp2_with (first | refine haltst 35 ?_ | refine haltld 35 ?_)
            refine .inl ?_
            refine st_l 35 (.tmp 16) (.tmp 134) (g) 0 35 #[.int .i64 Q.e0.e, .int .i64 Q.e0.win, .int .i64 Q.e0.qn, .int .i64 Q.e0.wait, .slice sa0 sn0 sc0, .int .u64 Q.e0.first, .int .i64 Q.e0.out, .int .i64 Q.e0.ever, .int .u64 Q.e0.want, .bool Q.e0.owes, .int .i64 Q.e0.age, .int .i64 Q.e1.e, .int .i64 Q.e1.win, .int .i64 Q.e1.qn, .int .i64 Q.e1.wait, .slice sa1 sn1 sc1, .int .u64 Q.e1.first, .int .i64 Q.e1.out, .int .i64 Q.e1.ever, .int .u64 Q.e1.want, .bool Q.e1.owes, .int .i64 Q.e1.age, .slice sa2 sn2 sc2, .slice sa3 sn3 sc3, .int .i64 Q.net.n, .int .i64 Q.net.room, .slice sa4 sn4 sc4] #[.int .i64 Q'.e0.e, .int .i64 Q'.e0.win, .int .i64 Q'.e0.qn, .int .i64 Q'.e0.wait, .slice ua0 un0 uc0, .int .u64 Q'.e0.first, .int .i64 Q'.e0.out, .int .i64 Q'.e0.ever, .int .u64 Q'.e0.want, .bool Q'.e0.owes, .int .i64 Q'.e0.age, .int .i64 Q'.e1.e, .int .i64 Q'.e1.win, .int .i64 Q'.e1.qn, .int .i64 Q'.e1.wait, .slice ua1 un1 uc1, .int .u64 Q'.e1.first, .int .i64 Q'.e1.out, .int .i64 Q'.e1.ever, .int .u64 Q'.e1.want, .bool Q'.e1.owes, .int .i64 Q'.e1.age, .slice ua2 un2 uc2, .slice ua3 un3 uc3, .int .i64 Q'.net.n, .int .i64 Q'.net.room, .slice ua4 un4 uc4] #[.int .i64 Q'.e0.e, .int .i64 Q'.e0.win, .int .i64 Q'.e0.qn, .int .i64 Q'.e0.wait, .slice ua0 un0 uc0, .int .u64 Q'.e0.first, .int .i64 Q'.e0.out, .int .i64 Q'.e0.ever, .int .u64 Q'.e0.want, .bool Q'.e0.owes, .int .i64 Q'.e0.age, .int .i64 Q'.e1.e, .int .i64 Q'.e1.win, .int .i64 Q'.e1.qn, .int .i64 Q'.e1.wait, .slice ua1 un1 uc1, .int .u64 Q'.e1.first, .int .i64 Q'.e1.out, .int .i64 Q'.e1.ever, .int .u64 Q'.e1.want, .bool Q'.e1.owes, .int .i64 Q'.e1.age, .slice ua2 un2 uc2, .slice ua3 un3 uc3, .int .i64 Q'.net.n, .int .i64 Q'.net.room, .slice ua4 un4 uc4] rfl rfl (kb7) (by kernel_rfl) (by simp) rfl rfl ?_
            intro W8 hb8 ho8
            have D8 : Hid (Dq w W8 p Q' g (10 * (k + 1))) := Lib.hid (Dq.up ⟨F5, ⟨ua0, un0, uc0⟩, ⟨ua1, un1, uc1⟩, ⟨ua2, un2, uc2⟩, ⟨ua3, un3, uc3⟩, ⟨ua4, un4, uc4⟩, D7.out.store R7.out hb8 ho8⟩ (by omega))
            clear hb8 ho8 kb7 D7 R7 D5 HCR HD
            go_wp2_with fail
            go_meet
            exact ⟨true, Q', by simp, rfl, HL9, D8⟩
        · have t1 : (yk == 1) = false := beq_eq_false_iff_ne.2 h1
          by_cases h2 : yk = 2
          · subst h2
            as_aux_lemma =>
              have hl9 : LenG (Q.tick ysd) (k + 1) := (hl.setE _ _).more
              have cP := fun (D1 : Hid (DoP w (wr.alloc (.cells #[.int .i64 2, .int .i64 ysd, .int .i64 yn, .int .i64 yx, .string ys] 38)) p Q Q F g ⟨sa0, sn0, sc0⟩ ⟨sa1, sn1, sc1⟩ ⟨sa2, sn2, sc2⟩ ⟨sa3, sn3, sc3⟩ ⟨sa4, sn4, sc4⟩ mm)) => (iTick D1.out.at' ysd)
              have cR := fun (G : Nat → Prop) (W : World) hW (h : RP G W Q ⟨sa0, sn0, sc0⟩ ⟨sa1, sn1, sc1⟩ ⟨sa2, sn2, sc2⟩ ⟨sa3, sn3, sc3⟩ ⟨sa4, sn4, sc4⟩ mm) => rTick_any G W hW Q ⟨sa0, sn0, sc0⟩ ⟨sa1, sn1, sc1⟩ ⟨sa2, sn2, sc2⟩ ⟨sa3, sn3, sc3⟩ ⟨sa4, sn4, sc4⟩ mm okQ h ysd
              unfold pcs at cR
              dsimp only [SV.v] at cR
              obtain ⟨Q', hQ'⟩ : ∃ Q', Q' = Q.tick ysd := ⟨_, rfl⟩
              rw [← hQ'] at cP
              rw [← hQ'] at cR
              rw [← hQ'] at hl9
              have HL9 := Lib.hid hl9
              have D1 : Hid (DoP w (wr.alloc (.cells #[.int .i64 2, .int .i64 ysd, .int .i64 yn, .int .i64 yx, .string ys] 38)) p Q Q F g ⟨sa0, sn0, sc0⟩ ⟨sa1, sn1, sc1⟩ ⟨sa2, sn2, sc2⟩ ⟨sa3, sn3, sc3⟩ ⟨sa4, sn4, sc4⟩ mm) := Lib.hid (HD.out.more (Ext.alloc (Ext.refl wr) _))
              have HCP := Lib.hid (cP D1)
              have HCR := Lib.hid cR
              have hnF : ¬ F wr.heap.size := fun hf => Nat.lt_irrefl _ (HD.out.at'.low _ hf)
              clear cP cR hl9 hl hQ' okQ hx hsz
              go_wp2_with fail
              refine HCP.out.mono ?_
              rintro ev w5 ⟨F5, rfl, n5, o5, gr5⟩
              have D5 := Lib.hid (D1.out.moves n5 o5 gr5)
              have ka5 : w5.heap[wr.heap.size]? = some (.cells #[.int .i64 2, .int .i64 ysd, .int .i64 yn, .int .i64 yx, .string ys] 38 (0, 0)) := o5.blk (get_alloc_new wr _) hnF
              have kb5 : w5.heap[g]? = some (.cells #[.int .i64 Q.e0.e, .int .i64 Q.e0.win, .int .i64 Q.e0.qn, .int .i64 Q.e0.wait, .slice sa0 sn0 sc0, .int .u64 Q.e0.first, .int .i64 Q.e0.out, .int .i64 Q.e0.ever, .int .u64 Q.e0.want, .bool Q.e0.owes, .int .i64 Q.e0.age, .int .i64 Q.e1.e, .int .i64 Q.e1.win, .int .i64 Q.e1.qn, .int .i64 Q.e1.wait, .slice sa1 sn1 sc1, .int .u64 Q.e1.first, .int .i64 Q.e1.out, .int .i64 Q.e1.ever, .int .u64 Q.e1.want, .bool Q.e1.owes, .int .i64 Q.e1.age, .slice sa2 sn2 sc2, .slice sa3 sn3 sc3, .int .i64 Q.net.n, .int .i64 Q.net.room, .slice sa4 sn4 sc4] 35 (0, 0)) := D5.out.box
              obtain ⟨⟨b0, b1, b2, b3, b4⟩, _⟩ := cells5 ka5
              clear n5 o5 gr5 D1 HCP hnF ka5
              try dsimp only
              go_wp2_with (first | refine haltst 35 ?_ | refine haltld 35 ?_)
              refine .inl ?_
              refine ld_l 35 (.tmp 16) (g) 35 #[.int .i64 Q.e0.e, .int .i64 Q.e0.win, .int .i64 Q.e0.qn, .int .i64 Q.e0.wait, .slice sa0 sn0 sc0, .int .u64 Q.e0.first, .int .i64 Q.e0.out, .int .i64 Q.e0.ever, .int .u64 Q.e0.want, .bool Q.e0.owes, .int .i64 Q.e0.age, .int .i64 Q.e1.e, .int .i64 Q.e1.win, .int .i64 Q.e1.qn, .int .i64 Q.e1.wait, .slice sa1 sn1 sc1, .int .u64 Q.e1.first, .int .i64 Q.e1.out, .int .i64 Q.e1.ever, .int .u64 Q.e1.want, .bool Q.e1.owes, .int .i64 Q.e1.age, .slice sa2 sn2 sc2, .slice sa3 sn3 sc3, .int .i64 Q.net.n, .int .i64 Q.net.room, .slice sa4 sn4 sc4] rfl (kb5) uPipe (by kernel_rfl) ?_
              go_wp2_with fail
              refine (HCR.out _ _ D5.out.low D5.out.rp).mono ?_
              rintro ev w6 ⟨v6, rfl, ⟨⟨ua0, un0, uc0⟩, ⟨ua1, un1, uc1⟩, ⟨ua2, un2, uc2⟩, ⟨ua3, un3, uc3⟩, ⟨ua4, un4, uc4⟩, rfl, r6⟩, x6⟩
              unfold pcs
              dsimp only [SV.v]
              have D7 := Lib.hid (D5.out.more x6)
              have R7 := Lib.hid r6
              have kb7 : w6.heap[g]? = some (.cells #[.int .i64 Q.e0.e, .int .i64 Q.e0.win, .int .i64 Q.e0.qn, .int .i64 Q.e0.wait, .slice sa0 sn0 sc0, .int .u64 Q.e0.first, .int .i64 Q.e0.out, .int .i64 Q.e0.ever, .int .u64 Q.e0.want, .bool Q.e0.owes, .int .i64 Q.e0.age, .int .i64 Q.e1.e, .int .i64 Q.e1.win, .int .i64 Q.e1.qn, .int .i64 Q.e1.wait, .slice sa1 sn1 sc1, .int .u64 Q.e1.first, .int .i64 Q.e1.out, .int .i64 Q.e1.ever, .int .u64 Q.e1.want, .bool Q.e1.owes, .int .i64 Q.e1.age, .slice sa2 sn2 sc2, .slice sa3 sn3 sc3, .int .i64 Q.net.n, .int .i64 Q.net.room, .slice sa4 sn4 sc4] 35 (0, 0)) := D7.out.box
              clear x6 r6 kb5 b0 b1 b2 b3 b4
              go_wp2_with (first | refine haltst 35 ?_ | refine haltld 35 ?_)
              refine .inl ?_
              refine st_l 35 (.tmp 16) (.tmp 147) (g) 0 35 #[.int .i64 Q.e0.e, .int .i64 Q.e0.win, .int .i64 Q.e0.qn, .int .i64 Q.e0.wait, .slice sa0 sn0 sc0, .int .u64 Q.e0.first, .int .i64 Q.e0.out, .int .i64 Q.e0.ever, .int .u64 Q.e0.want, .bool Q.e0.owes, .int .i64 Q.e0.age, .int .i64 Q.e1.e, .int .i64 Q.e1.win, .int .i64 Q.e1.qn, .int .i64 Q.e1.wait, .slice sa1 sn1 sc1, .int .u64 Q.e1.first, .int .i64 Q.e1.out, .int .i64 Q.e1.ever, .int .u64 Q.e1.want, .bool Q.e1.owes, .int .i64 Q.e1.age, .slice sa2 sn2 sc2, .slice sa3 sn3 sc3, .int .i64 Q.net.n, .int .i64 Q.net.room, .slice sa4 sn4 sc4] #[.int .i64 Q'.e0.e, .int .i64 Q'.e0.win, .int .i64 Q'.e0.qn, .int .i64 Q'.e0.wait, .slice ua0 un0 uc0, .int .u64 Q'.e0.first, .int .i64 Q'.e0.out, .int .i64 Q'.e0.ever, .int .u64 Q'.e0.want, .bool Q'.e0.owes, .int .i64 Q'.e0.age, .int .i64 Q'.e1.e, .int .i64 Q'.e1.win, .int .i64 Q'.e1.qn, .int .i64 Q'.e1.wait, .slice ua1 un1 uc1, .int .u64 Q'.e1.first, .int .i64 Q'.e1.out, .int .i64 Q'.e1.ever, .int .u64 Q'.e1.want, .bool Q'.e1.owes, .int .i64 Q'.e1.age, .slice ua2 un2 uc2, .slice ua3 un3 uc3, .int .i64 Q'.net.n, .int .i64 Q'.net.room, .slice ua4 un4 uc4] #[.int .i64 Q'.e0.e, .int .i64 Q'.e0.win, .int .i64 Q'.e0.qn, .int .i64 Q'.e0.wait, .slice ua0 un0 uc0, .int .u64 Q'.e0.first, .int .i64 Q'.e0.out, .int .i64 Q'.e0.ever, .int .u64 Q'.e0.want, .bool Q'.e0.owes, .int .i64 Q'.e0.age, .int .i64 Q'.e1.e, .int .i64 Q'.e1.win, .int .i64 Q'.e1.qn, .int .i64 Q'.e1.wait, .slice ua1 un1 uc1, .int .u64 Q'.e1.first, .int .i64 Q'.e1.out, .int .i64 Q'.e1.ever, .int .u64 Q'.e1.want, .bool Q'.e1.owes, .int .i64 Q'.e1.age, .slice ua2 un2 uc2, .slice ua3 un3 uc3, .int .i64 Q'.net.n, .int .i64 Q'.net.room, .slice ua4 un4 uc4] rfl rfl (kb7) (by kernel_rfl) (by simp) rfl rfl ?_
              intro W8 hb8 ho8
              have D8 : Hid (Dq w W8 p Q' g (10 * (k + 1))) := Lib.hid (Dq.up ⟨F5, ⟨ua0, un0, uc0⟩, ⟨ua1, un1, uc1⟩, ⟨ua2, un2, uc2⟩, ⟨ua3, un3, uc3⟩, ⟨ua4, un4, uc4⟩, D7.out.store R7.out hb8 ho8⟩ (by omega))
              clear hb8 ho8 kb7 D7 R7 D5 HCR HD
              go_wp2_with fail
              go_meet
              exact ⟨true, Q', rfl, rfl, HL9, D8⟩
          · have t2 : (yk == 2) = false := beq_eq_false_iff_ne.2 h2
            by_cases h3 : yk = 3
            · subst h3
              as_aux_lemma =>
                have hl9 : LenG (Q.come ysd yn) (k + 1) := hl.come _ _
                have cP := fun (D1 : Hid (DoP w (wr.alloc (.cells #[.int .i64 3, .int .i64 ysd, .int .i64 yn, .int .i64 yx, .string ys] 38)) p Q Q F g ⟨sa0, sn0, sc0⟩ ⟨sa1, sn1, sc1⟩ ⟨sa2, sn2, sc2⟩ ⟨sa3, sn3, sc3⟩ ⟨sa4, sn4, sc4⟩ mm)) => (iCome (HST.out.ext D1.out.ext) D1.out.at' ysd yn (Nat.le_trans (hl.got ysd) (by omega)))
                have cR := fun (G : Nat → Prop) (W : World) hW (h : RP G W Q ⟨sa0, sn0, sc0⟩ ⟨sa1, sn1, sc1⟩ ⟨sa2, sn2, sc2⟩ ⟨sa3, sn3, sc3⟩ ⟨sa4, sn4, sc4⟩ mm) => rCome_any G W hW Q ⟨sa0, sn0, sc0⟩ ⟨sa1, sn1, sc1⟩ ⟨sa2, sn2, sc2⟩ ⟨sa3, sn3, sc3⟩ ⟨sa4, sn4, sc4⟩ mm okQ h (by omega) okQ.two ysd yn (Nat.le_trans (hl.got ysd) (by omega))
                unfold pcs at cR
                dsimp only [SV.v] at cR
                obtain ⟨Q', hQ'⟩ : ∃ Q', Q' = Q.come ysd yn := ⟨_, rfl⟩
                obtain ⟨B9, hB9⟩ : ∃ z, z = Q.comeB ysd yn := ⟨_, rfl⟩
                obtain ⟨Y9, hY9⟩ : ∃ z, z = Q.comeY ysd yn := ⟨_, rfl⟩
                rw [← hQ', ← hB9, ← hY9] at cP
                rw [← hQ', ← hB9, ← hY9] at cR
                rw [← hQ'] at hl9
                have HL9 := Lib.hid hl9
                have D1 : Hid (DoP w (wr.alloc (.cells #[.int .i64 3, .int .i64 ysd, .int .i64 yn, .int .i64 yx, .string ys] 38)) p Q Q F g ⟨sa0, sn0, sc0⟩ ⟨sa1, sn1, sc1⟩ ⟨sa2, sn2, sc2⟩ ⟨sa3, sn3, sc3⟩ ⟨sa4, sn4, sc4⟩ mm) := Lib.hid (HD.out.more (Ext.alloc (Ext.refl wr) _))
                have HCP := Lib.hid (cP D1)
                have HCR := Lib.hid cR
                have hnF : ¬ F wr.heap.size := fun hf => Nat.lt_irrefl _ (HD.out.at'.low _ hf)
                clear cP cR hl9 hl hQ' okQ hx hsz hB9 hY9
                go_wp2_with fail
                refine HCP.out.mono ?_
                rintro ev w5 ⟨F5, rfl, n5, o5, gr5⟩
                have D5 := Lib.hid (D1.out.moves n5 o5 gr5)
                have ka5 : w5.heap[wr.heap.size]? = some (.cells #[.int .i64 3, .int .i64 ysd, .int .i64 yn, .int .i64 yx, .string ys] 38 (0, 0)) := o5.blk (get_alloc_new wr _) hnF
                have kb5 : w5.heap[g]? = some (.cells #[.int .i64 Q.e0.e, .int .i64 Q.e0.win, .int .i64 Q.e0.qn, .int .i64 Q.e0.wait, .slice sa0 sn0 sc0, .int .u64 Q.e0.first, .int .i64 Q.e0.out, .int .i64 Q.e0.ever, .int .u64 Q.e0.want, .bool Q.e0.owes, .int .i64 Q.e0.age, .int .i64 Q.e1.e, .int .i64 Q.e1.win, .int .i64 Q.e1.qn, .int .i64 Q.e1.wait, .slice sa1 sn1 sc1, .int .u64 Q.e1.first, .int .i64 Q.e1.out, .int .i64 Q.e1.ever, .int .u64 Q.e1.want, .bool Q.e1.owes, .int .i64 Q.e1.age, .slice sa2 sn2 sc2, .slice sa3 sn3 sc3, .int .i64 Q.net.n, .int .i64 Q.net.room, .slice sa4 sn4 sc4] 35 (0, 0)) := D5.out.box
                obtain ⟨⟨b0, b1, b2, b3, b4⟩, _⟩ := cells5 ka5
                clear n5 o5 gr5 D1 HCP hnF ka5
                try dsimp only
                go_wp2_with (first | refine haltst 35 ?_ | refine haltld 35 ?_)
                refine .inl ?_
                refine ld_l 35 (.tmp 16) (g) 35 #[.int .i64 Q.e0.e, .int .i64 Q.e0.win, .int .i64 Q.e0.qn, .int .i64 Q.e0.wait, .slice sa0 sn0 sc0, .int .u64 Q.e0.first, .int .i64 Q.e0.out, .int .i64 Q.e0.ever, .int .u64 Q.e0.want, .bool Q.e0.owes, .int .i64 Q.e0.age, .int .i64 Q.e1.e, .int .i64 Q.e1.win, .int .i64 Q.e1.qn, .int .i64 Q.e1.wait, .slice sa1 sn1 sc1, .int .u64 Q.e1.first, .int .i64 Q.e1.out, .int .i64 Q.e1.ever, .int .u64 Q.e1.want, .bool Q.e1.owes, .int .i64 Q.e1.age, .slice sa2 sn2 sc2, .slice sa3 sn3 sc3, .int .i64 Q.net.n, .int .i64 Q.net.room, .slice sa4 sn4 sc4] rfl (kb5) uPipe (by kernel_rfl) ?_
                go_wp2_with fail
                refine (HCR.out _ _ D5.out.low D5.out.rp).mono ?_
                rintro ev w6 ⟨v6, rfl, ⟨⟨ua0, un0, uc0⟩, ⟨ua1, un1, uc1⟩, ⟨ua2, un2, uc2⟩, ⟨ua3, un3, uc3⟩, ⟨ua4, un4, uc4⟩, rfl, r6⟩, x6⟩
                unfold pcs
                dsimp only [SV.v]
                go_wp2_with (first | refine haltst 35 ?_ | refine haltld 35 ?_)
                refine .inl ?_
                refine st_l 35 (.tmp 29) (.tmp 166) (w6.heap.size) 0 35 #[.int .i64 0, .int .i64 0, .int .i64 0, .int .i64 0, .slice none 0 0, .int .u64 0, .int .i64 0, .int .i64 0, .int .u64 0, .bool false, .int .i64 0, .int .i64 0, .int .i64 0, .int .i64 0, .int .i64 0, .slice none 0 0, .int .u64 0, .int .i64 0, .int .i64 0, .int .u64 0, .bool false, .int .i64 0, .slice none 0 0, .slice none 0 0, .int .i64 0, .int .i64 0, .slice none 0 0] #[.int .i64 Q'.e0.e, .int .i64 Q'.e0.win, .int .i64 Q'.e0.qn, .int .i64 Q'.e0.wait, .slice ua0 un0 uc0, .int .u64 Q'.e0.first, .int .i64 Q'.e0.out, .int .i64 Q'.e0.ever, .int .u64 Q'.e0.want, .bool Q'.e0.owes, .int .i64 Q'.e0.age, .int .i64 Q'.e1.e, .int .i64 Q'.e1.win, .int .i64 Q'.e1.qn, .int .i64 Q'.e1.wait, .slice ua1 un1 uc1, .int .u64 Q'.e1.first, .int .i64 Q'.e1.out, .int .i64 Q'.e1.ever, .int .u64 Q'.e1.want, .bool Q'.e1.owes, .int .i64 Q'.e1.age, .slice ua2 un2 uc2, .slice ua3 un3 uc3, .int .i64 Q'.net.n, .int .i64 Q'.net.room, .slice ua4 un4 uc4] #[.int .i64 Q'.e0.e, .int .i64 Q'.e0.win, .int .i64 Q'.e0.qn, .int .i64 Q'.e0.wait, .slice ua0 un0 uc0, .int .u64 Q'.e0.first, .int .i64 Q'.e0.out, .int .i64 Q'.e0.ever, .int .u64 Q'.e0.want, .bool Q'.e0.owes, .int .i64 Q'.e0.age, .int .i64 Q'.e1.e, .int .i64 Q'.e1.win, .int .i64 Q'.e1.qn, .int .i64 Q'.e1.wait, .slice ua1 un1 uc1, .int .u64 Q'.e1.first, .int .i64 Q'.e1.out, .int .i64 Q'.e1.ever, .int .u64 Q'.e1.want, .bool Q'.e1.owes, .int .i64 Q'.e1.age, .slice ua2 un2 uc2, .slice ua3 un3 uc3, .int .i64 Q'.net.n, .int .i64 Q'.net.room, .slice ua4 un4 uc4] rfl rfl (get_alloc_new w6 _) (by kernel_rfl) (by simp) rfl rfl ?_
                intro W7 hb7 ho7
                have x7 : Ext w6 W7 := ext_off (Ext.alloc (Ext.refl w6) _) ho7 (fun k hk => by omega)
                have D7 := Lib.hid (D5.out.more (Ext.trans x6 x7))
                have R7 := Lib.hid (r6.ext x7)
                have kb7 : W7.heap[g]? = some (.cells #[.int .i64 Q.e0.e, .int .i64 Q.e0.win, .int .i64 Q.e0.qn, .int .i64 Q.e0.wait, .slice sa0 sn0 sc0, .int .u64 Q.e0.first, .int .i64 Q.e0.out, .int .i64 Q.e0.ever, .int .u64 Q.e0.want, .bool Q.e0.owes, .int .i64 Q.e0.age, .int .i64 Q.e1.e, .int .i64 Q.e1.win, .int .i64 Q.e1.qn, .int .i64 Q.e1.wait, .slice sa1 sn1 sc1, .int .u64 Q.e1.first, .int .i64 Q.e1.out, .int .i64 Q.e1.ever, .int .u64 Q.e1.want, .bool Q.e1.owes, .int .i64 Q.e1.age, .slice sa2 sn2 sc2, .slice sa3 sn3 sc3, .int .i64 Q.net.n, .int .i64 Q.net.room, .slice sa4 sn4 sc4] 35 (0, 0)) := D7.out.box
                clear x6 x7 r6 kb5 b0 b1 b2 b3 b4 ho7
                go_wp2_with (first | refine haltst 35 ?_ | refine haltld 35 ?_)
                refine .inl ?_
                refine ld_l 35 (.tmp 29) (w6.heap.size) 35 #[.int .i64 Q'.e0.e, .int .i64 Q'.e0.win, .int .i64 Q'.e0.qn, .int .i64 Q'.e0.wait, .slice ua0 un0 uc0, .int .u64 Q'.e0.first, .int .i64 Q'.e0.out, .int .i64 Q'.e0.ever, .int .u64 Q'.e0.want, .bool Q'.e0.owes, .int .i64 Q'.e0.age, .int .i64 Q'.e1.e, .int .i64 Q'.e1.win, .int .i64 Q'.e1.qn, .int .i64 Q'.e1.wait, .slice ua1 un1 uc1, .int .u64 Q'.e1.first, .int .i64 Q'.e1.out, .int .i64 Q'.e1.ever, .int .u64 Q'.e1.want, .bool Q'.e1.owes, .int .i64 Q'.e1.age, .slice ua2 un2 uc2, .slice ua3 un3 uc3, .int .i64 Q'.net.n, .int .i64 Q'.net.room, .slice ua4 un4 uc4] rfl (hb7) uPipe (by kernel_rfl) ?_
                go_wp2_with (first | refine haltst 35 ?_ | refine haltld 35 ?_)
                refine .inl ?_
                refine st_l 35 (.tmp 16) (.tmp 169) (g) 0 35 #[.int .i64 Q.e0.e, .int .i64 Q.e0.win, .int .i64 Q.e0.qn, .int .i64 Q.e0.wait, .slice sa0 sn0 sc0, .int .u64 Q.e0.first, .int .i64 Q.e0.out, .int .i64 Q.e0.ever, .int .u64 Q.e0.want, .bool Q.e0.owes, .int .i64 Q.e0.age, .int .i64 Q.e1.e, .int .i64 Q.e1.win, .int .i64 Q.e1.qn, .int .i64 Q.e1.wait, .slice sa1 sn1 sc1, .int .u64 Q.e1.first, .int .i64 Q.e1.out, .int .i64 Q.e1.ever, .int .u64 Q.e1.want, .bool Q.e1.owes, .int .i64 Q.e1.age, .slice sa2 sn2 sc2, .slice sa3 sn3 sc3, .int .i64 Q.net.n, .int .i64 Q.net.room, .slice sa4 sn4 sc4] #[.int .i64 Q'.e0.e, .int .i64 Q'.e0.win, .int .i64 Q'.e0.qn, .int .i64 Q'.e0.wait, .slice ua0 un0 uc0, .int .u64 Q'.e0.first, .int .i64 Q'.e0.out, .int .i64 Q'.e0.ever, .int .u64 Q'.e0.want, .bool Q'.e0.owes, .int .i64 Q'.e0.age, .int .i64 Q'.e1.e, .int .i64 Q'.e1.win, .int .i64 Q'.e1.qn, .int .i64 Q'.e1.wait, .slice ua1 un1 uc1, .int .u64 Q'.e1.first, .int .i64 Q'.e1.out, .int .i64 Q'.e1.ever, .int .u64 Q'.e1.want, .bool Q'.e1.owes, .int .i64 Q'.e1.age, .slice ua2 un2 uc2, .slice ua3 un3 uc3, .int .i64 Q'.net.n, .int .i64 Q'.net.room, .slice ua4 un4 uc4] #[.int .i64 Q'.e0.e, .int .i64 Q'.e0.win, .int .i64 Q'.e0.qn, .int .i64 Q'.e0.wait, .slice ua0 un0 uc0, .int .u64 Q'.e0.first, .int .i64 Q'.e0.out, .int .i64 Q'.e0.ever, .int .u64 Q'.e0.want, .bool Q'.e0.owes, .int .i64 Q'.e0.age, .int .i64 Q'.e1.e, .int .i64 Q'.e1.win, .int .i64 Q'.e1.qn, .int .i64 Q'.e1.wait, .slice ua1 un1 uc1, .int .u64 Q'.e1.first, .int .i64 Q'.e1.out, .int .i64 Q'.e1.ever, .int .u64 Q'.e1.want, .bool Q'.e1.owes, .int .i64 Q'.e1.age, .slice ua2 un2 uc2, .slice ua3 un3 uc3, .int .i64 Q'.net.n, .int .i64 Q'.net.room, .slice ua4 un4 uc4] rfl rfl (kb7) (by kernel_rfl) (by simp) rfl rfl ?_
                intro W8 hb8 ho8
                have D8 : Hid (Dq w W8 p Q' g (10 * (k + 1))) := Lib.hid (Dq.up ⟨F5, ⟨ua0, un0, uc0⟩, ⟨ua1, un1, uc1⟩, ⟨ua2, un2, uc2⟩, ⟨ua3, un3, uc3⟩, ⟨ua4, un4, uc4⟩, D7.out.store R7.out hb8 ho8⟩ (by omega))
                clear hb8 ho8 kb7 D7 R7 D5 HCR HD
                go_wp2_with fail
                go_meet
                exact ⟨true, Q', by simp, rfl, HL9, D8⟩
            · have t3 : (yk == 3) = false := beq_eq_false_iff_ne.2 h3
              by_cases h4 : yk = 4
              · subst h4
                as_aux_lemma =>
                  have hl9 : LenG (Q.lose ysd yn) (k + 1) := hl.more
                  have cP := fun (D1 : Hid (DoP w (wr.alloc (.cells #[.int .i64 4, .int .i64 ysd, .int .i64 yn, .int .i64 yx, .string ys] 38)) p Q Q F g ⟨sa0, sn0, sc0⟩ ⟨sa1, sn1, sc1⟩ ⟨sa2, sn2, sc2⟩ ⟨sa3, sn3, sc3⟩ ⟨sa4, sn4, sc4⟩ mm)) => (iLose D1.out.at' ysd yn)
                  have cR := fun (G : Nat → Prop) (W : World) hW (h : RP G W Q ⟨sa0, sn0, sc0⟩ ⟨sa1, sn1, sc1⟩ ⟨sa2, sn2, sc2⟩ ⟨sa3, sn3, sc3⟩ ⟨sa4, sn4, sc4⟩ mm) => rLose_any G W hW Q ⟨sa0, sn0, sc0⟩ ⟨sa1, sn1, sc1⟩ ⟨sa2, sn2, sc2⟩ ⟨sa3, sn3, sc3⟩ ⟨sa4, sn4, sc4⟩ mm okQ h (by omega) okQ.two ysd yn
                  unfold pcs at cR
                  dsimp only [SV.v] at cR
                  obtain ⟨Q', hQ'⟩ : ∃ Q', Q' = Q.lose ysd yn := ⟨_, rfl⟩
                  obtain ⟨Y9, hY9⟩ : ∃ z, z = Q.there ysd yn := ⟨_, rfl⟩
                  rw [← hQ', ← hY9] at cP
                  rw [← hQ', ← hY9] at cR
                  rw [← hQ'] at hl9
                  have HL9 := Lib.hid hl9
                  have D1 : Hid (DoP w (wr.alloc (.cells #[.int .i64 4, .int .i64 ysd, .int .i64 yn, .int .i64 yx, .string ys] 38)) p Q Q F g ⟨sa0, sn0, sc0⟩ ⟨sa1, sn1, sc1⟩ ⟨sa2, sn2, sc2⟩ ⟨sa3, sn3, sc3⟩ ⟨sa4, sn4, sc4⟩ mm) := Lib.hid (HD.out.more (Ext.alloc (Ext.refl wr) _))
                  have HCP := Lib.hid (cP D1)
                  have HCR := Lib.hid cR
                  have hnF : ¬ F wr.heap.size := fun hf => Nat.lt_irrefl _ (HD.out.at'.low _ hf)
                  clear cP cR hl9 hl hQ' okQ hx hsz hY9
                  go_wp2_with fail
                  refine HCP.out.mono ?_
                  rintro ev w5 ⟨F5, rfl, n5, o5, gr5⟩
                  have D5 := Lib.hid (D1.out.moves n5 o5 gr5)
                  have ka5 : w5.heap[wr.heap.size]? = some (.cells #[.int .i64 4, .int .i64 ysd, .int .i64 yn, .int .i64 yx, .string ys] 38 (0, 0)) := o5.blk (get_alloc_new wr _) hnF
                  have kb5 : w5.heap[g]? = some (.cells #[.int .i64 Q.e0.e, .int .i64 Q.e0.win, .int .i64 Q.e0.qn, .int .i64 Q.e0.wait, .slice sa0 sn0 sc0, .int .u64 Q.e0.first, .int .i64 Q.e0.out, .int .i64 Q.e0.ever, .int .u64 Q.e0.want, .bool Q.e0.owes, .int .i64 Q.e0.age, .int .i64 Q.e1.e, .int .i64 Q.e1.win, .int .i64 Q.e1.qn, .int .i64 Q.e1.wait, .slice sa1 sn1 sc1, .int .u64 Q.e1.first, .int .i64 Q.e1.out, .int .i64 Q.e1.ever, .int .u64 Q.e1.want, .bool Q.e1.owes, .int .i64 Q.e1.age, .slice sa2 sn2 sc2, .slice sa3 sn3 sc3, .int .i64 Q.net.n, .int .i64 Q.net.room, .slice sa4 sn4 sc4] 35 (0, 0)) := D5.out.box
                  obtain ⟨⟨b0, b1, b2, b3, b4⟩, _⟩ := cells5 ka5
                  clear n5 o5 gr5 D1 HCP hnF ka5
                  try dsimp only
                  go_wp2_with (first | refine haltst 35 ?_ | refine haltld 35 ?_)
                  refine .inl ?_
                  refine ld_l 35 (.tmp 16) (g) 35 #[.int .i64 Q.e0.e, .int .i64 Q.e0.win, .int .i64 Q.e0.qn, .int .i64 Q.e0.wait, .slice sa0 sn0 sc0, .int .u64 Q.e0.first, .int .i64 Q.e0.out, .int .i64 Q.e0.ever, .int .u64 Q.e0.want, .bool Q.e0.owes, .int .i64 Q.e0.age, .int .i64 Q.e1.e, .int .i64 Q.e1.win, .int .i64 Q.e1.qn, .int .i64 Q.e1.wait, .slice sa1 sn1 sc1, .int .u64 Q.e1.first, .int .i64 Q.e1.out, .int .i64 Q.e1.ever, .int .u64 Q.e1.want, .bool Q.e1.owes, .int .i64 Q.e1.age, .slice sa2 sn2 sc2, .slice sa3 sn3 sc3, .int .i64 Q.net.n, .int .i64 Q.net.room, .slice sa4 sn4 sc4] rfl (kb5) uPipe (by kernel_rfl) ?_
                  go_wp2_with fail
                  refine (HCR.out _ _ D5.out.low D5.out.rp).mono ?_
                  rintro ev w6 ⟨v6, rfl, ⟨⟨ua0, un0, uc0⟩, ⟨ua1, un1, uc1⟩, ⟨ua2, un2, uc2⟩, ⟨ua3, un3, uc3⟩, ⟨ua4, un4, uc4⟩, rfl, r6⟩, x6⟩
                  unfold pcs
                  dsimp only [SV.v]
                  have D7 := Lib.hid (D5.out.more x6)
                  have R7 := Lib.hid r6
                  have kb7 : w6.heap[g]? = some (.cells #[.int .i64 Q.e0.e, .int .i64 Q.e0.win, .int .i64 Q.e0.qn, .int .i64 Q.e0.wait, .slice sa0 sn0 sc0, .int .u64 Q.e0.first, .int .i64 Q.e0.out, .int .i64 Q.e0.ever, .int .u64 Q.e0.want, .bool Q.e0.owes, .int .i64 Q.e0.age, .int .i64 Q.e1.e, .int .i64 Q.e1.win, .int .i64 Q.e1.qn, .int .i64 Q.e1.wait, .slice sa1 sn1 sc1, .int .u64 Q.e1.first, .int .i64 Q.e1.out, .int .i64 Q.e1.ever, .int .u64 Q.e1.want, .bool Q.e1.owes, .int .i64 Q.e1.age, .slice sa2 sn2 sc2, .slice sa3 sn3 sc3, .int .i64 Q.net.n, .int .i64 Q.net.room, .slice sa4 sn4 sc4] 35 (0, 0)) := D7.out.box
                  clear x6 r6 kb5 b0 b1 b2 b3 b4
                  go_wp2_with (first | refine haltst 35 ?_ | refine haltld 35 ?_)
                  refine .inl ?_
                  refine st_l 35 (.tmp 16) (.tmp 193) (g) 0 35 #[.int .i64 Q.e0.e, .int .i64 Q.e0.win, .int .i64 Q.e0.qn, .int .i64 Q.e0.wait, .slice sa0 sn0 sc0, .int .u64 Q.e0.first, .int .i64 Q.e0.out, .int .i64 Q.e0.ever, .int .u64 Q.e0.want, .bool Q.e0.owes, .int .i64 Q.e0.age, .int .i64 Q.e1.e, .int .i64 Q.e1.win, .int .i64 Q.e1.qn, .int .i64 Q.e1.wait, .slice sa1 sn1 sc1, .int .u64 Q.e1.first, .int .i64 Q.e1.out, .int .i64 Q.e1.ever, .int .u64 Q.e1.want, .bool Q.e1.owes, .int .i64 Q.e1.age, .slice sa2 sn2 sc2, .slice sa3 sn3 sc3, .int .i64 Q.net.n, .int .i64 Q.net.room, .slice sa4 sn4 sc4] #[.int .i64 Q'.e0.e, .int .i64 Q'.e0.win, .int .i64 Q'.e0.qn, .int .i64 Q'.e0.wait, .slice ua0 un0 uc0, .int .u64 Q'.e0.first, .int .i64 Q'.e0.out, .int .i64 Q'.e0.ever, .int .u64 Q'.e0.want, .bool Q'.e0.owes, .int .i64 Q'.e0.age, .int .i64 Q'.e1.e, .int .i64 Q'.e1.win, .int .i64 Q'.e1.qn, .int .i64 Q'.e1.wait, .slice ua1 un1 uc1, .int .u64 Q'.e1.first, .int .i64 Q'.e1.out, .int .i64 Q'.e1.ever, .int .u64 Q'.e1.want, .bool Q'.e1.owes, .int .i64 Q'.e1.age, .slice ua2 un2 uc2, .slice ua3 un3 uc3, .int .i64 Q'.net.n, .int .i64 Q'.net.room, .slice ua4 un4 uc4] #[.int .i64 Q'.e0.e, .int .i64 Q'.e0.win, .int .i64 Q'.e0.qn, .int .i64 Q'.e0.wait, .slice ua0 un0 uc0, .int .u64 Q'.e0.first, .int .i64 Q'.e0.out, .int .i64 Q'.e0.ever, .int .u64 Q'.e0.want, .bool Q'.e0.owes, .int .i64 Q'.e0.age, .int .i64 Q'.e1.e, .int .i64 Q'.e1.win, .int .i64 Q'.e1.qn, .int .i64 Q'.e1.wait, .slice ua1 un1 uc1, .int .u64 Q'.e1.first, .int .i64 Q'.e1.out, .int .i64 Q'.e1.ever, .int .u64 Q'.e1.want, .bool Q'.e1.owes, .int .i64 Q'.e1.age, .slice ua2 un2 uc2, .slice ua3 un3 uc3, .int .i64 Q'.net.n, .int .i64 Q'.net.room, .slice ua4 un4 uc4] rfl rfl (kb7) (by kernel_rfl) (by simp) rfl rfl ?_
                  intro W8 hb8 ho8
                  have D8 : Hid (Dq w W8 p Q' g (10 * (k + 1))) := Lib.hid (Dq.up ⟨F5, ⟨ua0, un0, uc0⟩, ⟨ua1, un1, uc1⟩, ⟨ua2, un2, uc2⟩, ⟨ua3, un3, uc3⟩, ⟨ua4, un4, uc4⟩, D7.out.store R7.out hb8 ho8⟩ (by omega))
                  clear hb8 ho8 kb7 D7 R7 D5 HCR HD
                  go_wp2_with fail
                  go_meet
                  exact ⟨Y9, Q', rfl, rfl, HL9, D8⟩
              · have t4 : (yk == 4) = false := beq_eq_false_iff_ne.2 h4
                by_cases h5 : yk = 5
                · subst h5
                  as_aux_lemma =>
                    have hl9 : LenG (Q.double ysd yn) (k + 1) := hl.more
                    have cP := fun (D1 : Hid (DoP w (wr.alloc (.cells #[.int .i64 5, .int .i64 ysd, .int .i64 yn, .int .i64 yx, .string ys] 38)) p Q Q F g ⟨sa0, sn0, sc0⟩ ⟨sa1, sn1, sc1⟩ ⟨sa2, sn2, sc2⟩ ⟨sa3, sn3, sc3⟩ ⟨sa4, sn4, sc4⟩ mm)) => (iDouble D1.out.at' ysd yn)
                    have cR := fun (G : Nat → Prop) (W : World) hW (h : RP G W Q ⟨sa0, sn0, sc0⟩ ⟨sa1, sn1, sc1⟩ ⟨sa2, sn2, sc2⟩ ⟨sa3, sn3, sc3⟩ ⟨sa4, sn4, sc4⟩ mm) => rDouble_any G W hW Q ⟨sa0, sn0, sc0⟩ ⟨sa1, sn1, sc1⟩ ⟨sa2, sn2, sc2⟩ ⟨sa3, sn3, sc3⟩ ⟨sa4, sn4, sc4⟩ mm okQ h (by omega) okQ.two ysd yn
                    unfold pcs at cR
                    dsimp only [SV.v] at cR
                    obtain ⟨Q', hQ'⟩ : ∃ Q', Q' = Q.double ysd yn := ⟨_, rfl⟩
                    obtain ⟨Y9, hY9⟩ : ∃ z, z = Q.net.canD (1 - ysd) ysd yn := ⟨_, rfl⟩
                    rw [← hQ', ← hY9] at cP
                    rw [← hQ', ← hY9] at cR
                    rw [← hQ'] at hl9
                    have HL9 := Lib.hid hl9
                    have D1 : Hid (DoP w (wr.alloc (.cells #[.int .i64 5, .int .i64 ysd, .int .i64 yn, .int .i64 yx, .string ys] 38)) p Q Q F g ⟨sa0, sn0, sc0⟩ ⟨sa1, sn1, sc1⟩ ⟨sa2, sn2, sc2⟩ ⟨sa3, sn3, sc3⟩ ⟨sa4, sn4, sc4⟩ mm) := Lib.hid (HD.out.more (Ext.alloc (Ext.refl wr) _))
                    have HCP := Lib.hid (cP D1)
                    have HCR := Lib.hid cR
                    have hnF : ¬ F wr.heap.size := fun hf => Nat.lt_irrefl _ (HD.out.at'.low _ hf)
                    clear cP cR hl9 hl hQ' okQ hx hsz hY9
                    go_wp2_with fail
                    refine HCP.out.mono ?_
                    rintro ev w5 ⟨F5, rfl, n5, o5, gr5⟩
                    have D5 := Lib.hid (D1.out.moves n5 o5 gr5)
                    have ka5 : w5.heap[wr.heap.size]? = some (.cells #[.int .i64 5, .int .i64 ysd, .int .i64 yn, .int .i64 yx, .string ys] 38 (0, 0)) := o5.blk (get_alloc_new wr _) hnF
                    have kb5 : w5.heap[g]? = some (.cells #[.int .i64 Q.e0.e, .int .i64 Q.e0.win, .int .i64 Q.e0.qn, .int .i64 Q.e0.wait, .slice sa0 sn0 sc0, .int .u64 Q.e0.first, .int .i64 Q.e0.out, .int .i64 Q.e0.ever, .int .u64 Q.e0.want, .bool Q.e0.owes, .int .i64 Q.e0.age, .int .i64 Q.e1.e, .int .i64 Q.e1.win, .int .i64 Q.e1.qn, .int .i64 Q.e1.wait, .slice sa1 sn1 sc1, .int .u64 Q.e1.first, .int .i64 Q.e1.out, .int .i64 Q.e1.ever, .int .u64 Q.e1.want, .bool Q.e1.owes, .int .i64 Q.e1.age, .slice sa2 sn2 sc2, .slice sa3 sn3 sc3, .int .i64 Q.net.n, .int .i64 Q.net.room, .slice sa4 sn4 sc4] 35 (0, 0)) := D5.out.box
                    obtain ⟨⟨b0, b1, b2, b3, b4⟩, _⟩ := cells5 ka5
                    clear n5 o5 gr5 D1 HCP hnF ka5
                    try dsimp only
                    go_wp2_with (first | refine haltst 35 ?_ | refine haltld 35 ?_)
                    refine .inl ?_
                    refine ld_l 35 (.tmp 16) (g) 35 #[.int .i64 Q.e0.e, .int .i64 Q.e0.win, .int .i64 Q.e0.qn, .int .i64 Q.e0.wait, .slice sa0 sn0 sc0, .int .u64 Q.e0.first, .int .i64 Q.e0.out, .int .i64 Q.e0.ever, .int .u64 Q.e0.want, .bool Q.e0.owes, .int .i64 Q.e0.age, .int .i64 Q.e1.e, .int .i64 Q.e1.win, .int .i64 Q.e1.qn, .int .i64 Q.e1.wait, .slice sa1 sn1 sc1, .int .u64 Q.e1.first, .int .i64 Q.e1.out, .int .i64 Q.e1.ever, .int .u64 Q.e1.want, .bool Q.e1.owes, .int .i64 Q.e1.age, .slice sa2 sn2 sc2, .slice sa3 sn3 sc3, .int .i64 Q.net.n, .int .i64 Q.net.room, .slice sa4 sn4 sc4] rfl (kb5) uPipe (by kernel_rfl) ?_
                    go_wp2_with fail
                    refine (HCR.out _ _ D5.out.low D5.out.rp).mono ?_
                    rintro ev w6 ⟨v6, rfl, ⟨⟨ua0, un0, uc0⟩, ⟨ua1, un1, uc1⟩, ⟨ua2, un2, uc2⟩, ⟨ua3, un3, uc3⟩, ⟨ua4, un4, uc4⟩, rfl, r6⟩, x6⟩
                    unfold pcs
                    dsimp only [SV.v]
                    have D7 := Lib.hid (D5.out.more x6)
                    have R7 := Lib.hid r6
                    have kb7 : w6.heap[g]? = some (.cells #[.int .i64 Q.e0.e, .int .i64 Q.e0.win, .int .i64 Q.e0.qn, .int .i64 Q.e0.wait, .slice sa0 sn0 sc0, .int .u64 Q.e0.first, .int .i64 Q.e0.out, .int .i64 Q.e0.ever, .int .u64 Q.e0.want, .bool Q.e0.owes, .int .i64 Q.e0.age, .int .i64 Q.e1.e, .int .i64 Q.e1.win, .int .i64 Q.e1.qn, .int .i64 Q.e1.wait, .slice sa1 sn1 sc1, .int .u64 Q.e1.first, .int .i64 Q.e1.out, .int .i64 Q.e1.ever, .int .u64 Q.e1.want, .bool Q.e1.owes, .int .i64 Q.e1.age, .slice sa2 sn2 sc2, .slice sa3 sn3 sc3, .int .i64 Q.net.n, .int .i64 Q.net.room, .slice sa4 sn4 sc4] 35 (0, 0)) := D7.out.box
                    clear x6 r6 kb5 b0 b1 b2 b3 b4
                    go_wp2_with (first | refine haltst 35 ?_ | refine haltld 35 ?_)
                    refine .inl ?_
                    refine st_l 35 (.tmp 16) (.tmp 210) (g) 0 35 #[.int .i64 Q.e0.e, .int .i64 Q.e0.win, .int .i64 Q.e0.qn, .int .i64 Q.e0.wait, .slice sa0 sn0 sc0, .int .u64 Q.e0.first, .int .i64 Q.e0.out, .int .i64 Q.e0.ever, .int .u64 Q.e0.want, .bool Q.e0.owes, .int .i64 Q.e0.age, .int .i64 Q.e1.e, .int .i64 Q.e1.win, .int .i64 Q.e1.qn, .int .i64 Q.e1.wait, .slice sa1 sn1 sc1, .int .u64 Q.e1.first, .int .i64 Q.e1.out, .int .i64 Q.e1.ever, .int .u64 Q.e1.want, .bool Q.e1.owes, .int .i64 Q.e1.age, .slice sa2 sn2 sc2, .slice sa3 sn3 sc3, .int .i64 Q.net.n, .int .i64 Q.net.room, .slice sa4 sn4 sc4] #[.int .i64 Q'.e0.e, .int .i64 Q'.e0.win, .int .i64 Q'.e0.qn, .int .i64 Q'.e0.wait, .slice ua0 un0 uc0, .int .u64 Q'.e0.first, .int .i64 Q'.e0.out, .int .i64 Q'.e0.ever, .int .u64 Q'.e0.want, .bool Q'.e0.owes, .int .i64 Q'.e0.age, .int .i64 Q'.e1.e, .int .i64 Q'.e1.win, .int .i64 Q'.e1.qn, .int .i64 Q'.e1.wait, .slice ua1 un1 uc1, .int .u64 Q'.e1.first, .int .i64 Q'.e1.out, .int .i64 Q'.e1.ever, .int .u64 Q'.e1.want, .bool Q'.e1.owes, .int .i64 Q'.e1.age, .slice ua2 un2 uc2, .slice ua3 un3 uc3, .int .i64 Q'.net.n, .int .i64 Q'.net.room, .slice ua4 un4 uc4] #[.int .i64 Q'.e0.e, .int .i64 Q'.e0.win, .int .i64 Q'.e0.qn, .int .i64 Q'.e0.wait, .slice ua0 un0 uc0, .int .u64 Q'.e0.first, .int .i64 Q'.e0.out, .int .i64 Q'.e0.ever, .int .u64 Q'.e0.want, .bool Q'.e0.owes, .int .i64 Q'.e0.age, .int .i64 Q'.e1.e, .int .i64 Q'.e1.win, .int .i64 Q'.e1.qn, .int .i64 Q'.e1.wait, .slice ua1 un1 uc1, .int .u64 Q'.e1.first, .int .i64 Q'.e1.out, .int .i64 Q'.e1.ever, .int .u64 Q'.e1.want, .bool Q'.e1.owes, .int .i64 Q'.e1.age, .slice ua2 un2 uc2, .slice ua3 un3 uc3, .int .i64 Q'.net.n, .int .i64 Q'.net.room, .slice ua4 un4 uc4] rfl rfl (kb7) (by kernel_rfl) (by simp) rfl rfl ?_
                    intro W8 hb8 ho8
                    have D8 : Hid (Dq w W8 p Q' g (10 * (k + 1))) := Lib.hid (Dq.up ⟨F5, ⟨ua0, un0, uc0⟩, ⟨ua1, un1, uc1⟩, ⟨ua2, un2, uc2⟩, ⟨ua3, un3, uc3⟩, ⟨ua4, un4, uc4⟩, D7.out.store R7.out hb8 ho8⟩ (by omega))
                    clear hb8 ho8 kb7 D7 R7 D5 HCR HD
                    go_wp2_with fail
                    go_meet
                    exact ⟨Y9, Q', rfl, rfl, HL9, D8⟩
                · have t5 : (yk == 5) = false := beq_eq_false_iff_ne.2 h5
                  as_aux_lemma =>
                    have hl9 : LenG (Q.flip ysd yn yx) (k + 1) := hl.more
                    have cP := fun (D1 : Hid (DoP w (wr.alloc (.cells #[.int .i64 yk, .int .i64 ysd, .int .i64 yn, .int .i64 yx, .string ys] 38)) p Q Q F g ⟨sa0, sn0, sc0⟩ ⟨sa1, sn1, sc1⟩ ⟨sa2, sn2, sc2⟩ ⟨sa3, sn3, sc3⟩ ⟨sa4, sn4, sc4⟩ mm)) => (iFlip D1.out.at' ysd yn yx hx.1 hx.2)
                    have cR := fun (G : Nat → Prop) (W : World) hW (h : RP G W Q ⟨sa0, sn0, sc0⟩ ⟨sa1, sn1, sc1⟩ ⟨sa2, sn2, sc2⟩ ⟨sa3, sn3, sc3⟩ ⟨sa4, sn4, sc4⟩ mm) => rFlip_any G W hW Q ⟨sa0, sn0, sc0⟩ ⟨sa1, sn1, sc1⟩ ⟨sa2, sn2, sc2⟩ ⟨sa3, sn3, sc3⟩ ⟨sa4, sn4, sc4⟩ mm okQ h (by omega) okQ.two ysd yn yx hx.1 hx.2
                    unfold pcs at cR
                    dsimp only [SV.v] at cR
                    obtain ⟨Q', hQ'⟩ : ∃ Q', Q' = Q.flip ysd yn yx := ⟨_, rfl⟩
                    obtain ⟨Y9, hY9⟩ : ∃ z, z = Q.net.canF (1 - ysd) ysd yn := ⟨_, rfl⟩
                    rw [← hQ', ← hY9] at cP
                    rw [← hQ', ← hY9] at cR
                    rw [← hQ'] at hl9
                    have HL9 := Lib.hid hl9
                    have D1 : Hid (DoP w (wr.alloc (.cells #[.int .i64 yk, .int .i64 ysd, .int .i64 yn, .int .i64 yx, .string ys] 38)) p Q Q F g ⟨sa0, sn0, sc0⟩ ⟨sa1, sn1, sc1⟩ ⟨sa2, sn2, sc2⟩ ⟨sa3, sn3, sc3⟩ ⟨sa4, sn4, sc4⟩ mm) := Lib.hid (HD.out.more (Ext.alloc (Ext.refl wr) _))
                    have HCP := Lib.hid (cP D1)
                    have HCR := Lib.hid cR
                    have hnF : ¬ F wr.heap.size := fun hf => Nat.lt_irrefl _ (HD.out.at'.low _ hf)
                    clear cP cR hl9 hl hQ' okQ hx hsz hY9
                    go_wp2_with fail
                    refine HCP.out.mono ?_
                    rintro ev w5 ⟨F5, rfl, n5, o5, gr5⟩
                    have D5 := Lib.hid (D1.out.moves n5 o5 gr5)
                    have ka5 : w5.heap[wr.heap.size]? = some (.cells #[.int .i64 yk, .int .i64 ysd, .int .i64 yn, .int .i64 yx, .string ys] 38 (0, 0)) := o5.blk (get_alloc_new wr _) hnF
                    have kb5 : w5.heap[g]? = some (.cells #[.int .i64 Q.e0.e, .int .i64 Q.e0.win, .int .i64 Q.e0.qn, .int .i64 Q.e0.wait, .slice sa0 sn0 sc0, .int .u64 Q.e0.first, .int .i64 Q.e0.out, .int .i64 Q.e0.ever, .int .u64 Q.e0.want, .bool Q.e0.owes, .int .i64 Q.e0.age, .int .i64 Q.e1.e, .int .i64 Q.e1.win, .int .i64 Q.e1.qn, .int .i64 Q.e1.wait, .slice sa1 sn1 sc1, .int .u64 Q.e1.first, .int .i64 Q.e1.out, .int .i64 Q.e1.ever, .int .u64 Q.e1.want, .bool Q.e1.owes, .int .i64 Q.e1.age, .slice sa2 sn2 sc2, .slice sa3 sn3 sc3, .int .i64 Q.net.n, .int .i64 Q.net.room, .slice sa4 sn4 sc4] 35 (0, 0)) := D5.out.box
                    obtain ⟨⟨b0, b1, b2, b3, b4⟩, _⟩ := cells5 ka5
                    clear n5 o5 gr5 D1 HCP hnF ka5
                    try dsimp only
                    go_wp2_with (first | refine haltst 35 ?_ | refine haltld 35 ?_)
                    refine .inl ?_
                    refine ld_l 35 (.tmp 16) (g) 35 #[.int .i64 Q.e0.e, .int .i64 Q.e0.win, .int .i64 Q.e0.qn, .int .i64 Q.e0.wait, .slice sa0 sn0 sc0, .int .u64 Q.e0.first, .int .i64 Q.e0.out, .int .i64 Q.e0.ever, .int .u64 Q.e0.want, .bool Q.e0.owes, .int .i64 Q.e0.age, .int .i64 Q.e1.e, .int .i64 Q.e1.win, .int .i64 Q.e1.qn, .int .i64 Q.e1.wait, .slice sa1 sn1 sc1, .int .u64 Q.e1.first, .int .i64 Q.e1.out, .int .i64 Q.e1.ever, .int .u64 Q.e1.want, .bool Q.e1.owes, .int .i64 Q.e1.age, .slice sa2 sn2 sc2, .slice sa3 sn3 sc3, .int .i64 Q.net.n, .int .i64 Q.net.room, .slice sa4 sn4 sc4] rfl (kb5) uPipe (by kernel_rfl) ?_
                    go_wp2_with fail
                    refine (HCR.out _ _ D5.out.low D5.out.rp).mono ?_
                    rintro ev w6 ⟨v6, rfl, ⟨⟨ua0, un0, uc0⟩, ⟨ua1, un1, uc1⟩, ⟨ua2, un2, uc2⟩, ⟨ua3, un3, uc3⟩, ⟨ua4, un4, uc4⟩, rfl, r6⟩, x6⟩
                    unfold pcs
                    dsimp only [SV.v]
                    have D7 := Lib.hid (D5.out.more x6)
                    have R7 := Lib.hid r6
                    have kb7 : w6.heap[g]? = some (.cells #[.int .i64 Q.e0.e, .int .i64 Q.e0.win, .int .i64 Q.e0.qn, .int .i64 Q.e0.wait, .slice sa0 sn0 sc0, .int .u64 Q.e0.first, .int .i64 Q.e0.out, .int .i64 Q.e0.ever, .int .u64 Q.e0.want, .bool Q.e0.owes, .int .i64 Q.e0.age, .int .i64 Q.e1.e, .int .i64 Q.e1.win, .int .i64 Q.e1.qn, .int .i64 Q.e1.wait, .slice sa1 sn1 sc1, .int .u64 Q.e1.first, .int .i64 Q.e1.out, .int .i64 Q.e1.ever, .int .u64 Q.e1.want, .bool Q.e1.owes, .int .i64 Q.e1.age, .slice sa2 sn2 sc2, .slice sa3 sn3 sc3, .int .i64 Q.net.n, .int .i64 Q.net.room, .slice sa4 sn4 sc4] 35 (0, 0)) := D7.out.box
                    clear x6 r6 kb5 b0 b1 b2 b3 b4
                    go_wp2_with (first | refine haltst 35 ?_ | refine haltld 35 ?_)
                    refine .inl ?_
                    refine st_l 35 (.tmp 16) (.tmp 98) (g) 0 35 #[.int .i64 Q.e0.e, .int .i64 Q.e0.win, .int .i64 Q.e0.qn, .int .i64 Q.e0.wait, .slice sa0 sn0 sc0, .int .u64 Q.e0.first, .int .i64 Q.e0.out, .int .i64 Q.e0.ever, .int .u64 Q.e0.want, .bool Q.e0.owes, .int .i64 Q.e0.age, .int .i64 Q.e1.e, .int .i64 Q.e1.win, .int .i64 Q.e1.qn, .int .i64 Q.e1.wait, .slice sa1 sn1 sc1, .int .u64 Q.e1.first, .int .i64 Q.e1.out, .int .i64 Q.e1.ever, .int .u64 Q.e1.want, .bool Q.e1.owes, .int .i64 Q.e1.age, .slice sa2 sn2 sc2, .slice sa3 sn3 sc3, .int .i64 Q.net.n, .int .i64 Q.net.room, .slice sa4 sn4 sc4] #[.int .i64 Q'.e0.e, .int .i64 Q'.e0.win, .int .i64 Q'.e0.qn, .int .i64 Q'.e0.wait, .slice ua0 un0 uc0, .int .u64 Q'.e0.first, .int .i64 Q'.e0.out, .int .i64 Q'.e0.ever, .int .u64 Q'.e0.want, .bool Q'.e0.owes, .int .i64 Q'.e0.age, .int .i64 Q'.e1.e, .int .i64 Q'.e1.win, .int .i64 Q'.e1.qn, .int .i64 Q'.e1.wait, .slice ua1 un1 uc1, .int .u64 Q'.e1.first, .int .i64 Q'.e1.out, .int .i64 Q'.e1.ever, .int .u64 Q'.e1.want, .bool Q'.e1.owes, .int .i64 Q'.e1.age, .slice ua2 un2 uc2, .slice ua3 un3 uc3, .int .i64 Q'.net.n, .int .i64 Q'.net.room, .slice ua4 un4 uc4] #[.int .i64 Q'.e0.e, .int .i64 Q'.e0.win, .int .i64 Q'.e0.qn, .int .i64 Q'.e0.wait, .slice ua0 un0 uc0, .int .u64 Q'.e0.first, .int .i64 Q'.e0.out, .int .i64 Q'.e0.ever, .int .u64 Q'.e0.want, .bool Q'.e0.owes, .int .i64 Q'.e0.age, .int .i64 Q'.e1.e, .int .i64 Q'.e1.win, .int .i64 Q'.e1.qn, .int .i64 Q'.e1.wait, .slice ua1 un1 uc1, .int .u64 Q'.e1.first, .int .i64 Q'.e1.out, .int .i64 Q'.e1.ever, .int .u64 Q'.e1.want, .bool Q'.e1.owes, .int .i64 Q'.e1.age, .slice ua2 un2 uc2, .slice ua3 un3 uc3, .int .i64 Q'.net.n, .int .i64 Q'.net.room, .slice ua4 un4 uc4] rfl rfl (kb7) (by kernel_rfl) (by simp) rfl rfl ?_
                    intro W8 hb8 ho8
                    have D8 : Hid (Dq w W8 p Q' g (10 * (k + 1))) := Lib.hid (Dq.up ⟨F5, ⟨ua0, un0, uc0⟩, ⟨ua1, un1, uc1⟩, ⟨ua2, un2, uc2⟩, ⟨ua3, un3, uc3⟩, ⟨ua4, un4, uc4⟩, D7.out.store R7.out hb8 ho8⟩ (by omega))
                    clear hb8 ho8 kb7 D7 R7 D5 HCR HD
                    go_wp2_with fail
                    go_meet
                    exact ⟨Y9, Q', rfl, rfl, HL9, D8⟩
      case rest =>
        obtain ⟨ok, Q', rfl, rfl, HLQ', HD0⟩ := hcut
        have hok : (ok != ok) = false := by simp
        have hk80 : k + 1 ≤ 1000 := by omega
        obtain ⟨nb, hnb⟩ : ∃ nb, nb = wr.heap.size := ⟨_, rfl⟩
        rw [← hnb]
        clear c0 c1 c2' c3 c4 HD hl okQ hsz hx hnb HLQ
        obtain ⟨W0, rfl⟩ : ∃ W0, W0 = wr := ⟨_, rfl⟩
        go_wp2
        go_loopw [32] (fun j wy => ∃ i : Nat, i ≤ 2 ∧ j = .int .i64 i ∧ Hid (Dq w wy p Q' g (10 * (k + 1)))) (fun j _ => 2 - (intOf j).toNat)
        case atStart => exact ⟨0, by decide, rfl, HD0⟩
        case round =>
          obtain ⟨i, hi, rfl, HDi⟩ := hrel
          clear HD0
          obtain ⟨W1, rfl⟩ : ∃ W1, W1 = wr := ⟨_, rfl⟩
          by_cases i0 : i = 0
          · subst i0
            as_aux_lemma =>
              obtain ⟨F, ⟨sa0, sn0, sc0⟩, ⟨sa1, sn1, sc1⟩, ⟨sa2, sn2, sc2⟩, ⟨sa3, sn3, sc3⟩, ⟨sa4, sn4, sc4⟩, hd⟩ := HDi.out
              have HD := Lib.hid hd
              have okQ := hd.at'.ok
              have hs0 := hd.rp.s0.1.len
              obtain ⟨ao9, co9, hv9⟩ := hs0
              simp only [SV.v, Value.slice.injEq] at hv9
              obtain ⟨G9, hG9⟩ : ∃ G9, G9 = Q'.g0 := ⟨_, rfl⟩
              have hgl := HLQ'.out.got 0
              have HGT : Hid (∀ W F, PAt W p Q' F → Calls Tryz.prog 23 #[.pointer (some ⟨p, 0, none⟩), .int .i64 0] W (GotsP p Q' F G9 W)) := Lib.hid (fun W F h => by rw [hG9]; exact iGot h 0 (Nat.le_trans hgl (by omega)))
              have HTX : Hid (∀ W va vb, Sl W va G9 → Sl W vb G9 → Calls Tryz.prog 22 #[va, vb] W (fun ev w' => ev = .returned (.bool true) ∧ Ext W w')) := Lib.hid (fun W va vb h1 h2 => by have h9 := refTexts_any W va vb G9 G9 h1 h2; rwa [decide_eq_true (rfl : G9 = G9)] at h9)
              have HWT : Hid (∀ W F, PAt W p Q' F → Calls Tryz.prog 25 #[.pointer (some ⟨p, 0, none⟩), .int .i64 0] W (MovesP p Q' F (.int .i64 sn0) W)) := Lib.hid (fun W F h => by rw [hv9.2.1]; exact iWaiting h 0)
              have cG := fun (W : World) => rGot_any W Q' ⟨sa0, sn0, sc0⟩ ⟨sa1, sn1, sc1⟩ ⟨sa2, sn2, sc2⟩ ⟨sa3, sn3, sc3⟩ ⟨sa4, sn4, sc4⟩ 0 (by decide)
              have cE := fun (W : World) => rEnd_any W Q' ⟨sa0, sn0, sc0⟩ ⟨sa1, sn1, sc1⟩ ⟨sa2, sn2, sc2⟩ ⟨sa3, sn3, sc3⟩ ⟨sa4, sn4, sc4⟩ 0 (by decide)
              unfold pcs at cG
              unfold pcs rCells PipeS.end' at cE
              dsimp only [SV.v] at cG cE
              simp only [reduceIte] at cG cE
              have HRG := Lib.hid cG
              have HRE := Lib.hid cE
              obtain ⟨R, hR⟩ : ∃ R, R = Q'.net.f (1 - 0) 0 := ⟨_, rfl⟩
              have hRl : R.length ≤ 1000 := by have h1 := okQ.net.few (1 - 0) 0; have h2 := okQ.net.rooms; rw [← hR] at h1; omega
              have HRW : Hid (∀ G W m, RNet G W (.agg #[.int .i64 Q'.net.n, .int .i64 Q'.net.room, .slice sa4 sn4 sc4]) Q'.net m → Calls Tryz.prog 27 #[.agg #[.int .i64 Q'.net.n, .int .i64 Q'.net.room, .slice sa4 sn4 sc4], .int .i64 1, .int .i64 0] W (fun e w' => ∃ ao c, e = .returned (.slice ao R.length c) ∧ Sa G w' (.slice ao R.length c) R ∧ Ext W w')) := Lib.hid (fun G W m h => by simpa using refRow_len G W _ Q'.net m h (1 - 0) 0 R hR.symm)
              obtain ⟨LK, hLK⟩ : ∃ LK, LK = fun kk => Q'.net.look (1 - 0) 0 kk := ⟨_, rfl⟩
              obtain ⟨TH, hTH⟩ : ∃ TH, TH = fun kk => Q'.net.there (1 - 0) 0 kk := ⟨_, rfl⟩
              have HLK : Hid (∀ W F (kk : Int), PAt W p Q' F → Calls Tryz.prog 28 #[.pointer (some ⟨p, 0, none⟩), .int .i64 0, .int .i64 kk] W (MovesP p Q' F (.tuple #[.string (LK kk), .bool (TH kk)]) W)) := Lib.hid (fun W F kk h => by rw [hLK, hTH]; exact iLook h 0 kk)
              have HRL : Hid (∀ G W m (v : Value) (kk : Int), RNet G W v Q'.net m → Calls Tryz.prog 29 #[v, .int .i64 1, .int .i64 0, .int .i64 kk] W (fun e w' => e = .returned (.tuple #[.string (LK kk), .bool (TH kk)]) ∧ Ext W w')) := Lib.hid (fun G W m v kk h => by rw [hLK, hTH]; simpa using refLook_any G W v Q'.net m h (1 - 0) 0 kk)
              have HG9 : Hid (Q'.g0 = G9) := Lib.hid hG9.symm
              clear hd okQ hv9 hG9 hgl cG cE hR hLK hTH
              go_wp2_with fail
              (refine wp_region_X_lit (K := fun W => W.heap[g]? = some (.cells #[.int .i64 Q'.e0.e, .int .i64 Q'.e0.win, .int .i64 Q'.e0.qn, .int .i64 Q'.e0.wait, .slice sa0 sn0 sc0, .int .u64 Q'.e0.first, .int .i64 Q'.e0.out, .int .i64 Q'.e0.ever, .int .u64 Q'.e0.want, .bool Q'.e0.owes, .int .i64 Q'.e0.age, .int .i64 Q'.e1.e, .int .i64 Q'.e1.win, .int .i64 Q'.e1.qn, .int .i64 Q'.e1.wait, .slice sa1 sn1 sc1, .int .u64 Q'.e1.first, .int .i64 Q'.e1.out, .int .i64 Q'.e1.ever, .int .u64 Q'.e1.want, .bool Q'.e1.owes, .int .i64 Q'.e1.age, .slice sa2 sn2 sc2, .slice sa3 sn3 sc3, .int .i64 Q'.net.n, .int .i64 Q'.net.room, .slice sa4 sn4 sc4] 35 (0, 0))) (by kernel_rfl) (fun w1 hw1 => ?_))
              have D1 := Lib.hid (HD.out.more hw1)
              have k1 : w1.heap[g]? = some (.cells #[.int .i64 Q'.e0.e, .int .i64 Q'.e0.win, .int .i64 Q'.e0.qn, .int .i64 Q'.e0.wait, .slice sa0 sn0 sc0, .int .u64 Q'.e0.first, .int .i64 Q'.e0.out, .int .i64 Q'.e0.ever, .int .u64 Q'.e0.want, .bool Q'.e0.owes, .int .i64 Q'.e0.age, .int .i64 Q'.e1.e, .int .i64 Q'.e1.win, .int .i64 Q'.e1.qn, .int .i64 Q'.e1.wait, .slice sa1 sn1 sc1, .int .u64 Q'.e1.first, .int .i64 Q'.e1.out, .int .i64 Q'.e1.ever, .int .u64 Q'.e1.want, .bool Q'.e1.owes, .int .i64 Q'.e1.age, .slice sa2 sn2 sc2, .slice sa3 sn3 sc3, .int .i64 Q'.net.n, .int .i64 Q'.net.room, .slice sa4 sn4 sc4] 35 (0, 0)) := D1.out.box
              clear hw1 HD
              refine xtv 0 (h := ?_)
              refine xtv 1 (h := ?_)
              refine xtv 3 (hv := fun w' hw' => ld_op (cs := #[.int .i64 Q'.e0.e, .int .i64 Q'.e0.win, .int .i64 Q'.e0.qn, .int .i64 Q'.e0.wait, .slice sa0 sn0 sc0, .int .u64 Q'.e0.first, .int .i64 Q'.e0.out, .int .i64 Q'.e0.ever, .int .u64 Q'.e0.want, .bool Q'.e0.owes, .int .i64 Q'.e0.age, .int .i64 Q'.e1.e, .int .i64 Q'.e1.win, .int .i64 Q'.e1.qn, .int .i64 Q'.e1.wait, .slice sa1 sn1 sc1, .int .u64 Q'.e1.first, .int .i64 Q'.e1.out, .int .i64 Q'.e1.ever, .int .u64 Q'.e1.want, .bool Q'.e1.owes, .int .i64 Q'.e1.age, .slice sa2 sn2 sc2, .slice sa3 sn3 sc3, .int .i64 Q'.net.n, .int .i64 Q'.net.room, .slice sa4 sn4 sc4]) rfl rfl (hw') uPipe (by kernel_rfl)) (h := ?_)
              refine xtv 4 (h := ?_)
              refine xone 2 (hk := k1) (h := RunX.of 2 (h := ?_))
              go_simp
              refine (HGT.out _ _ D1.out.at').mono ?_
              rintro ev w2 ⟨ga9, gn9, gc9, F2, rfl, sl2, ap2, n2, o2, gr2⟩
              have D2 := Lib.hid (D1.out.moves n2 o2 gr2)
              have k2 : w2.heap[g]? = some (.cells #[.int .i64 Q'.e0.e, .int .i64 Q'.e0.win, .int .i64 Q'.e0.qn, .int .i64 Q'.e0.wait, .slice sa0 sn0 sc0, .int .u64 Q'.e0.first, .int .i64 Q'.e0.out, .int .i64 Q'.e0.ever, .int .u64 Q'.e0.want, .bool Q'.e0.owes, .int .i64 Q'.e0.age, .int .i64 Q'.e1.e, .int .i64 Q'.e1.win, .int .i64 Q'.e1.qn, .int .i64 Q'.e1.wait, .slice sa1 sn1 sc1, .int .u64 Q'.e1.first, .int .i64 Q'.e1.out, .int .i64 Q'.e1.ever, .int .u64 Q'.e1.want, .bool Q'.e1.owes, .int .i64 Q'.e1.age, .slice sa2 sn2 sc2, .slice sa3 sn3 sc3, .int .i64 Q'.net.n, .int .i64 Q'.net.room, .slice sa4 sn4 sc4] 35 (0, 0)) := D2.out.box
              have SL2 := Lib.hid sl2
              clear sl2 ap2 n2 o2 gr2 D1 k1
              dsimp only
              (try (simp only [Act.put, List.setIfInBounds_toArray, List.set]))
              refine xone 5 (hk := k2) (h := RunX.of 5 (h := ?_))
              go_simp
              refine (HRG.out _).mono ?_
              rintro ev w3 ⟨rfl, x3⟩
              have D3 := Lib.hid (D2.out.more x3)
              have SL3 := Lib.hid (SL2.out.ext x3)
              have k3 : w3.heap[g]? = some (.cells #[.int .i64 Q'.e0.e, .int .i64 Q'.e0.win, .int .i64 Q'.e0.qn, .int .i64 Q'.e0.wait, .slice sa0 sn0 sc0, .int .u64 Q'.e0.first, .int .i64 Q'.e0.out, .int .i64 Q'.e0.ever, .int .u64 Q'.e0.want, .bool Q'.e0.owes, .int .i64 Q'.e0.age, .int .i64 Q'.e1.e, .int .i64 Q'.e1.win, .int .i64 Q'.e1.qn, .int .i64 Q'.e1.wait, .slice sa1 sn1 sc1, .int .u64 Q'.e1.first, .int .i64 Q'.e1.out, .int .i64 Q'.e1.ever, .int .u64 Q'.e1.want, .bool Q'.e1.owes, .int .i64 Q'.e1.age, .slice sa2 sn2 sc2, .slice sa3 sn3 sc3, .int .i64 Q'.net.n, .int .i64 Q'.net.room, .slice sa4 sn4 sc4] 35 (0, 0)) := D3.out.box
              clear x3 D2 SL2 k2
              dsimp only
              (try (simp only [Act.put, List.setIfInBounds_toArray, List.set]))
              refine xone 6 (hk := k3) (h := RunX.of 6 (h := ?_))
              go_simp
              refine (HTX.out _ _ _ SL3.out (by have h9 := D3.out.rp.g0.1; rw [HG9.out] at h9; exact h9)).mono ?_
              rintro ev w4 ⟨rfl, x4⟩
              have D4 := Lib.hid (D3.out.more x4)
              have k4 : w4.heap[g]? = some (.cells #[.int .i64 Q'.e0.e, .int .i64 Q'.e0.win, .int .i64 Q'.e0.qn, .int .i64 Q'.e0.wait, .slice sa0 sn0 sc0, .int .u64 Q'.e0.first, .int .i64 Q'.e0.out, .int .i64 Q'.e0.ever, .int .u64 Q'.e0.want, .bool Q'.e0.owes, .int .i64 Q'.e0.age, .int .i64 Q'.e1.e, .int .i64 Q'.e1.win, .int .i64 Q'.e1.qn, .int .i64 Q'.e1.wait, .slice sa1 sn1 sc1, .int .u64 Q'.e1.first, .int .i64 Q'.e1.out, .int .i64 Q'.e1.ever, .int .u64 Q'.e1.want, .bool Q'.e1.owes, .int .i64 Q'.e1.age, .slice sa2 sn2 sc2, .slice sa3 sn3 sc3, .int .i64 Q'.net.n, .int .i64 Q'.net.room, .slice sa4 sn4 sc4] 35 (0, 0)) := D4.out.box
              clear x4 D3 SL3 k3
              dsimp only
              (try (simp only [Act.put, List.setIfInBounds_toArray, List.set]))
              refine xtv 7 (h := ?_)
              refine xtv 8 (h := ?_)
              refine xtv 9 (h := ?_)
              refine xtv 10 (h := ?_)
              refine xtv 12 (hv := fun w' hw' => ld_op (cs := #[.int .i64 Q'.e0.e, .int .i64 Q'.e0.win, .int .i64 Q'.e0.qn, .int .i64 Q'.e0.wait, .slice sa0 sn0 sc0, .int .u64 Q'.e0.first, .int .i64 Q'.e0.out, .int .i64 Q'.e0.ever, .int .u64 Q'.e0.want, .bool Q'.e0.owes, .int .i64 Q'.e0.age, .int .i64 Q'.e1.e, .int .i64 Q'.e1.win, .int .i64 Q'.e1.qn, .int .i64 Q'.e1.wait, .slice sa1 sn1 sc1, .int .u64 Q'.e1.first, .int .i64 Q'.e1.out, .int .i64 Q'.e1.ever, .int .u64 Q'.e1.want, .bool Q'.e1.owes, .int .i64 Q'.e1.age, .slice sa2 sn2 sc2, .slice sa3 sn3 sc3, .int .i64 Q'.net.n, .int .i64 Q'.net.room, .slice sa4 sn4 sc4]) rfl rfl (hw') uPipe (by kernel_rfl)) (h := ?_)
              refine xtv 13 (h := ?_)
              refine xone 11 (hk := k4) (h := RunX.of 11 (h := ?_))
              go_simp
              refine (HWT.out _ _ D4.out.at').mono ?_
              rintro ev w5 ⟨F5, rfl, n5, o5, gr5⟩
              have D5 := Lib.hid (D4.out.moves n5 o5 gr5)
              have k5 : w5.heap[g]? = some (.cells #[.int .i64 Q'.e0.e, .int .i64 Q'.e0.win, .int .i64 Q'.e0.qn, .int .i64 Q'.e0.wait, .slice sa0 sn0 sc0, .int .u64 Q'.e0.first, .int .i64 Q'.e0.out, .int .i64 Q'.e0.ever, .int .u64 Q'.e0.want, .bool Q'.e0.owes, .int .i64 Q'.e0.age, .int .i64 Q'.e1.e, .int .i64 Q'.e1.win, .int .i64 Q'.e1.qn, .int .i64 Q'.e1.wait, .slice sa1 sn1 sc1, .int .u64 Q'.e1.first, .int .i64 Q'.e1.out, .int .i64 Q'.e1.ever, .int .u64 Q'.e1.want, .bool Q'.e1.owes, .int .i64 Q'.e1.age, .slice sa2 sn2 sc2, .slice sa3 sn3 sc3, .int .i64 Q'.net.n, .int .i64 Q'.net.room, .slice sa4 sn4 sc4] 35 (0, 0)) := D5.out.box
              clear n5 o5 gr5 D4 k4
              dsimp only
              (try (simp only [Act.put, List.setIfInBounds_toArray, List.set]))
              refine xone 14 (hk := k5) (h := RunX.of 14 (h := ?_))
              go_simp
              refine (HRE.out _).mono ?_
              rintro ev w6 ⟨rfl, x6⟩
              have D6 := Lib.hid (D5.out.more x6)
              have k6 : w6.heap[g]? = some (.cells #[.int .i64 Q'.e0.e, .int .i64 Q'.e0.win, .int .i64 Q'.e0.qn, .int .i64 Q'.e0.wait, .slice sa0 sn0 sc0, .int .u64 Q'.e0.first, .int .i64 Q'.e0.out, .int .i64 Q'.e0.ever, .int .u64 Q'.e0.want, .bool Q'.e0.owes, .int .i64 Q'.e0.age, .int .i64 Q'.e1.e, .int .i64 Q'.e1.win, .int .i64 Q'.e1.qn, .int .i64 Q'.e1.wait, .slice sa1 sn1 sc1, .int .u64 Q'.e1.first, .int .i64 Q'.e1.out, .int .i64 Q'.e1.ever, .int .u64 Q'.e1.want, .bool Q'.e1.owes, .int .i64 Q'.e1.age, .slice sa2 sn2 sc2, .slice sa3 sn3 sc3, .int .i64 Q'.net.n, .int .i64 Q'.net.room, .slice sa4 sn4 sc4] 35 (0, 0)) := D6.out.box
              clear x6 D5 k5
              dsimp only
              (try (simp only [Act.put, List.setIfInBounds_toArray, List.set]))
              refine xtv 15 (v := (.slice sa0 sn0 sc0)) (hv := fun w' hw' => by kernel_rfl) (h := ?_)
              refine xtv 16 (h := ?_)
              refine xtv 17 (h := ?_)
              refine xtv 18 (h := ?_)
              (refine xdone (by kernel_rfl) (k6) ?_)
              obtain ⟨⟨z0, z1, z2, z3, z4, z5, z6, z7, z8, z9, z10, z11, z12, z13, z14, z15, z16, z17, z18, z19, z20, z21, z22, z23, z24, z25, z26⟩, _⟩ := cells27 k6
              go_wp2_with fail
              refine (HRW.out _ _ _ D6.out.rp.net).mono ?_
              rintro ev w7 ⟨ra, rc, rfl, sr, x7⟩
              have D7 : Hid (Dq w w7 p Q' g (10 * (k + 1))) := Lib.hid ⟨_, _, _, _, _, _, D6.out.more x7⟩
              clear sr x7 D6 k6 z0 z1 z2 z3 z4 z5 z6 z7 z8 z9 z10 z11 z12 z13 z14 z15 z16 z17 z18 z19 z20 z21 z22 z23 z24 z25 z26
              go_wp2
              go_loopw [34] (fun j wz => ∃ i : Nat, i ≤ R.length + 2 ∧ j = .int .i64 ((i : Int) - 1) ∧ Hid (Dq w wz p Q' g (10 * (k + 1)))) (fun j _ => R.length + 2 - (intOf j + 1).toNat)
              case atStart => exact ⟨0, Nat.zero_le _, by first | rfl | simp, D7⟩
              case round =>
                obtain ⟨i, hi, rfl, HDj⟩ := hrel
                by_cases hle : i ≤ R.length + 1
                · have hle2 : (i : Int) - 1 ≤ (R.length : Int) := by omega
                  have hn3 : IntKind.i64.wrap ((i : Int) - 1 + 1) = ((i + 1 : Nat) : Int) - 1 := by rw [wrapN _ (by omega) (by omega)]; omega
                  obtain ⟨F, ⟨sa0, sn0, sc0⟩, ⟨sa1, sn1, sc1⟩, ⟨sa2, sn2, sc2⟩, ⟨sa3, sn3, sc3⟩, ⟨sa4, sn4, sc4⟩, hd⟩ := HDj.out
                  have HD := Lib.hid hd
                  clear hd HDj
                  go_wp2_with fail
                  refine (HLK.out _ _ _ HD.out.at').mono ?_
                  rintro ev w8 ⟨F8, rfl, n8, o8, gr8⟩
                  have D8 := Lib.hid (HD.out.moves n8 o8 gr8)
                  have k8 : w8.heap[g]? = some (.cells #[.int .i64 Q'.e0.e, .int .i64 Q'.e0.win, .int .i64 Q'.e0.qn, .int .i64 Q'.e0.wait, .slice sa0 sn0 sc0, .int .u64 Q'.e0.first, .int .i64 Q'.e0.out, .int .i64 Q'.e0.ever, .int .u64 Q'.e0.want, .bool Q'.e0.owes, .int .i64 Q'.e0.age, .int .i64 Q'.e1.e, .int .i64 Q'.e1.win, .int .i64 Q'.e1.qn, .int .i64 Q'.e1.wait, .slice sa1 sn1 sc1, .int .u64 Q'.e1.first, .int .i64 Q'.e1.out, .int .i64 Q'.e1.ever, .int .u64 Q'.e1.want, .bool Q'.e1.owes, .int .i64 Q'.e1.age, .slice sa2 sn2 sc2, .slice sa3 sn3 sc3, .int .i64 Q'.net.n, .int .i64 Q'.net.room, .slice sa4 sn4 sc4] 35 (0, 0)) := D8.out.box
                  obtain ⟨⟨z0, z1, z2, z3, z4, z5, z6, z7, z8, z9, z10, z11, z12, z13, z14, z15, z16, z17, z18, z19, z20, z21, z22, z23, z24, z25, z26⟩, _⟩ := cells27 k8
                  clear n8 o8 gr8 HD k8
                  dsimp only
                  go_wp2_with fail
                  refine (HRL.out _ _ _ _ _ D8.out.rp.net).mono ?_
                  rintro ev w9 ⟨rfl, x9⟩
                  have D9 : Hid (Dq w w9 p Q' g (10 * (k + 1))) := Lib.hid ⟨_, _, _, _, _, _, D8.out.more x9⟩
                  clear x9 D8 z0 z1 z2 z3 z4 z5 z6 z7 z8 z9 z10 z11 z12 z13 z14 z15 z16 z17 z18 z19 z20 z21 z22 z23 z24 z25 z26
                  dsimp only
                  go_wp2
                  exact ⟨⟨i + 1, by omega, by rw [show ((i + 1 : Nat) : Int) - 1 = (i : Int) by omega], D9⟩, by simp [intOf]; omega⟩
                · have hle2 : ¬ (i : Int) - 1 ≤ (R.length : Int) := by omega
                  go_wp2
                  exact ⟨⟨1, by decide, by go_num, HDj⟩, by simp [intOf]⟩
          · by_cases i1 : i = 1
            · subst i1
              as_aux_lemma =>
                obtain ⟨F, ⟨sa0, sn0, sc0⟩, ⟨sa1, sn1, sc1⟩, ⟨sa2, sn2, sc2⟩, ⟨sa3, sn3, sc3⟩, ⟨sa4, sn4, sc4⟩, hd⟩ := HDi.out
                have HD := Lib.hid hd
                have okQ := hd.at'.ok
                have hs1 := hd.rp.s1.1.len
                obtain ⟨ao9, co9, hv9⟩ := hs1
                simp only [SV.v, Value.slice.injEq] at hv9
                obtain ⟨G9, hG9⟩ : ∃ G9, G9 = Q'.g1 := ⟨_, rfl⟩
                have hgl := HLQ'.out.got 1
                have HGT : Hid (∀ W F, PAt W p Q' F → Calls Tryz.prog 23 #[.pointer (some ⟨p, 0, none⟩), .int .i64 1] W (GotsP p Q' F G9 W)) := Lib.hid (fun W F h => by rw [hG9]; exact iGot h 1 (Nat.le_trans hgl (by omega)))
                have HTX : Hid (∀ W va vb, Sl W va G9 → Sl W vb G9 → Calls Tryz.prog 22 #[va, vb] W (fun ev w' => ev = .returned (.bool true) ∧ Ext W w')) := Lib.hid (fun W va vb h1 h2 => by have h9 := refTexts_any W va vb G9 G9 h1 h2; rwa [decide_eq_true (rfl : G9 = G9)] at h9)
                have HWT : Hid (∀ W F, PAt W p Q' F → Calls Tryz.prog 25 #[.pointer (some ⟨p, 0, none⟩), .int .i64 1] W (MovesP p Q' F (.int .i64 sn1) W)) := Lib.hid (fun W F h => by rw [hv9.2.1]; exact iWaiting h 1)
                have cG := fun (W : World) => rGot_any W Q' ⟨sa0, sn0, sc0⟩ ⟨sa1, sn1, sc1⟩ ⟨sa2, sn2, sc2⟩ ⟨sa3, sn3, sc3⟩ ⟨sa4, sn4, sc4⟩ 1 (by decide)
                have cE := fun (W : World) => rEnd_any W Q' ⟨sa0, sn0, sc0⟩ ⟨sa1, sn1, sc1⟩ ⟨sa2, sn2, sc2⟩ ⟨sa3, sn3, sc3⟩ ⟨sa4, sn4, sc4⟩ 1 (by decide)
                unfold pcs at cG
                unfold pcs rCells PipeS.end' at cE
                dsimp only [SV.v] at cG cE
                simp only [show ¬ (1 : Int) = 0 by decide, reduceIte] at cG cE
                have HRG := Lib.hid cG
                have HRE := Lib.hid cE
                obtain ⟨R, hR⟩ : ∃ R, R = Q'.net.f (1 - 1) 1 := ⟨_, rfl⟩
                have hRl : R.length ≤ 1000 := by have h1 := okQ.net.few (1 - 1) 1; have h2 := okQ.net.rooms; rw [← hR] at h1; omega
                have HRW : Hid (∀ G W m, RNet G W (.agg #[.int .i64 Q'.net.n, .int .i64 Q'.net.room, .slice sa4 sn4 sc4]) Q'.net m → Calls Tryz.prog 27 #[.agg #[.int .i64 Q'.net.n, .int .i64 Q'.net.room, .slice sa4 sn4 sc4], .int .i64 0, .int .i64 1] W (fun e w' => ∃ ao c, e = .returned (.slice ao R.length c) ∧ Sa G w' (.slice ao R.length c) R ∧ Ext W w')) := Lib.hid (fun G W m h => by simpa using refRow_len G W _ Q'.net m h (1 - 1) 1 R hR.symm)
                obtain ⟨LK, hLK⟩ : ∃ LK, LK = fun kk => Q'.net.look (1 - 1) 1 kk := ⟨_, rfl⟩
                obtain ⟨TH, hTH⟩ : ∃ TH, TH = fun kk => Q'.net.there (1 - 1) 1 kk := ⟨_, rfl⟩
                have HLK : Hid (∀ W F (kk : Int), PAt W p Q' F → Calls Tryz.prog 28 #[.pointer (some ⟨p, 0, none⟩), .int .i64 1, .int .i64 kk] W (MovesP p Q' F (.tuple #[.string (LK kk), .bool (TH kk)]) W)) := Lib.hid (fun W F kk h => by rw [hLK, hTH]; exact iLook h 1 kk)
                have HRL : Hid (∀ G W m (v : Value) (kk : Int), RNet G W v Q'.net m → Calls Tryz.prog 29 #[v, .int .i64 0, .int .i64 1, .int .i64 kk] W (fun e w' => e = .returned (.tuple #[.string (LK kk), .bool (TH kk)]) ∧ Ext W w')) := Lib.hid (fun G W m v kk h => by rw [hLK, hTH]; simpa using refLook_any G W v Q'.net m h (1 - 1) 1 kk)
                have HG9 : Hid (Q'.g1 = G9) := Lib.hid hG9.symm
                clear hd okQ hv9 hG9 hgl cG cE hR hLK hTH
                go_wp2_with fail
                (refine wp_region_X_lit (K := fun W => W.heap[g]? = some (.cells #[.int .i64 Q'.e0.e, .int .i64 Q'.e0.win, .int .i64 Q'.e0.qn, .int .i64 Q'.e0.wait, .slice sa0 sn0 sc0, .int .u64 Q'.e0.first, .int .i64 Q'.e0.out, .int .i64 Q'.e0.ever, .int .u64 Q'.e0.want, .bool Q'.e0.owes, .int .i64 Q'.e0.age, .int .i64 Q'.e1.e, .int .i64 Q'.e1.win, .int .i64 Q'.e1.qn, .int .i64 Q'.e1.wait, .slice sa1 sn1 sc1, .int .u64 Q'.e1.first, .int .i64 Q'.e1.out, .int .i64 Q'.e1.ever, .int .u64 Q'.e1.want, .bool Q'.e1.owes, .int .i64 Q'.e1.age, .slice sa2 sn2 sc2, .slice sa3 sn3 sc3, .int .i64 Q'.net.n, .int .i64 Q'.net.room, .slice sa4 sn4 sc4] 35 (0, 0))) (by kernel_rfl) (fun w1 hw1 => ?_))
                have D1 := Lib.hid (HD.out.more hw1)
                have k1 : w1.heap[g]? = some (.cells #[.int .i64 Q'.e0.e, .int .i64 Q'.e0.win, .int .i64 Q'.e0.qn, .int .i64 Q'.e0.wait, .slice sa0 sn0 sc0, .int .u64 Q'.e0.first, .int .i64 Q'.e0.out, .int .i64 Q'.e0.ever, .int .u64 Q'.e0.want, .bool Q'.e0.owes, .int .i64 Q'.e0.age, .int .i64 Q'.e1.e, .int .i64 Q'.e1.win, .int .i64 Q'.e1.qn, .int .i64 Q'.e1.wait, .slice sa1 sn1 sc1, .int .u64 Q'.e1.first, .int .i64 Q'.e1.out, .int .i64 Q'.e1.ever, .int .u64 Q'.e1.want, .bool Q'.e1.owes, .int .i64 Q'.e1.age, .slice sa2 sn2 sc2, .slice sa3 sn3 sc3, .int .i64 Q'.net.n, .int .i64 Q'.net.room, .slice sa4 sn4 sc4] 35 (0, 0)) := D1.out.box
                clear hw1 HD
                refine xtv 0 (h := ?_)
                refine xtv 1 (h := ?_)
                refine xtv 3 (hv := fun w' hw' => ld_op (cs := #[.int .i64 Q'.e0.e, .int .i64 Q'.e0.win, .int .i64 Q'.e0.qn, .int .i64 Q'.e0.wait, .slice sa0 sn0 sc0, .int .u64 Q'.e0.first, .int .i64 Q'.e0.out, .int .i64 Q'.e0.ever, .int .u64 Q'.e0.want, .bool Q'.e0.owes, .int .i64 Q'.e0.age, .int .i64 Q'.e1.e, .int .i64 Q'.e1.win, .int .i64 Q'.e1.qn, .int .i64 Q'.e1.wait, .slice sa1 sn1 sc1, .int .u64 Q'.e1.first, .int .i64 Q'.e1.out, .int .i64 Q'.e1.ever, .int .u64 Q'.e1.want, .bool Q'.e1.owes, .int .i64 Q'.e1.age, .slice sa2 sn2 sc2, .slice sa3 sn3 sc3, .int .i64 Q'.net.n, .int .i64 Q'.net.room, .slice sa4 sn4 sc4]) rfl rfl (hw') uPipe (by kernel_rfl)) (h := ?_)
                refine xtv 4 (h := ?_)
                refine xone 2 (hk := k1) (h := RunX.of 2 (h := ?_))
                go_simp
                refine (HGT.out _ _ D1.out.at').mono ?_
                rintro ev w2 ⟨ga9, gn9, gc9, F2, rfl, sl2, ap2, n2, o2, gr2⟩
                have D2 := Lib.hid (D1.out.moves n2 o2 gr2)
                have k2 : w2.heap[g]? = some (.cells #[.int .i64 Q'.e0.e, .int .i64 Q'.e0.win, .int .i64 Q'.e0.qn, .int .i64 Q'.e0.wait, .slice sa0 sn0 sc0, .int .u64 Q'.e0.first, .int .i64 Q'.e0.out, .int .i64 Q'.e0.ever, .int .u64 Q'.e0.want, .bool Q'.e0.owes, .int .i64 Q'.e0.age, .int .i64 Q'.e1.e, .int .i64 Q'.e1.win, .int .i64 Q'.e1.qn, .int .i64 Q'.e1.wait, .slice sa1 sn1 sc1, .int .u64 Q'.e1.first, .int .i64 Q'.e1.out, .int .i64 Q'.e1.ever, .int .u64 Q'.e1.want, .bool Q'.e1.owes, .int .i64 Q'.e1.age, .slice sa2 sn2 sc2, .slice sa3 sn3 sc3, .int .i64 Q'.net.n, .int .i64 Q'.net.room, .slice sa4 sn4 sc4] 35 (0, 0)) := D2.out.box
                have SL2 := Lib.hid sl2
                clear sl2 ap2 n2 o2 gr2 D1 k1
                dsimp only
                (try (simp only [Act.put, List.setIfInBounds_toArray, List.set]))
                refine xone 5 (hk := k2) (h := RunX.of 5 (h := ?_))
                go_simp
                refine (HRG.out _).mono ?_
                rintro ev w3 ⟨rfl, x3⟩
                have D3 := Lib.hid (D2.out.more x3)
                have SL3 := Lib.hid (SL2.out.ext x3)
                have k3 : w3.heap[g]? = some (.cells #[.int .i64 Q'.e0.e, .int .i64 Q'.e0.win, .int .i64 Q'.e0.qn, .int .i64 Q'.e0.wait, .slice sa0 sn0 sc0, .int .u64 Q'.e0.first, .int .i64 Q'.e0.out, .int .i64 Q'.e0.ever, .int .u64 Q'.e0.want, .bool Q'.e0.owes, .int .i64 Q'.e0.age, .int .i64 Q'.e1.e, .int .i64 Q'.e1.win, .int .i64 Q'.e1.qn, .int .i64 Q'.e1.wait, .slice sa1 sn1 sc1, .int .u64 Q'.e1.first, .int .i64 Q'.e1.out, .int .i64 Q'.e1.ever, .int .u64 Q'.e1.want, .bool Q'.e1.owes, .int .i64 Q'.e1.age, .slice sa2 sn2 sc2, .slice sa3 sn3 sc3, .int .i64 Q'.net.n, .int .i64 Q'.net.room, .slice sa4 sn4 sc4] 35 (0, 0)) := D3.out.box
                clear x3 D2 SL2 k2
                dsimp only
                (try (simp only [Act.put, List.setIfInBounds_toArray, List.set]))
                refine xone 6 (hk := k3) (h := RunX.of 6 (h := ?_))
                go_simp
                refine (HTX.out _ _ _ SL3.out (by have h9 := D3.out.rp.g1.1; rw [HG9.out] at h9; exact h9)).mono ?_
                rintro ev w4 ⟨rfl, x4⟩
                have D4 := Lib.hid (D3.out.more x4)
                have k4 : w4.heap[g]? = some (.cells #[.int .i64 Q'.e0.e, .int .i64 Q'.e0.win, .int .i64 Q'.e0.qn, .int .i64 Q'.e0.wait, .slice sa0 sn0 sc0, .int .u64 Q'.e0.first, .int .i64 Q'.e0.out, .int .i64 Q'.e0.ever, .int .u64 Q'.e0.want, .bool Q'.e0.owes, .int .i64 Q'.e0.age, .int .i64 Q'.e1.e, .int .i64 Q'.e1.win, .int .i64 Q'.e1.qn, .int .i64 Q'.e1.wait, .slice sa1 sn1 sc1, .int .u64 Q'.e1.first, .int .i64 Q'.e1.out, .int .i64 Q'.e1.ever, .int .u64 Q'.e1.want, .bool Q'.e1.owes, .int .i64 Q'.e1.age, .slice sa2 sn2 sc2, .slice sa3 sn3 sc3, .int .i64 Q'.net.n, .int .i64 Q'.net.room, .slice sa4 sn4 sc4] 35 (0, 0)) := D4.out.box
                clear x4 D3 SL3 k3
                dsimp only
                (try (simp only [Act.put, List.setIfInBounds_toArray, List.set]))
                refine xtv 7 (h := ?_)
                refine xtv 8 (h := ?_)
                refine xtv 9 (h := ?_)
                refine xtv 10 (h := ?_)
                refine xtv 12 (hv := fun w' hw' => ld_op (cs := #[.int .i64 Q'.e0.e, .int .i64 Q'.e0.win, .int .i64 Q'.e0.qn, .int .i64 Q'.e0.wait, .slice sa0 sn0 sc0, .int .u64 Q'.e0.first, .int .i64 Q'.e0.out, .int .i64 Q'.e0.ever, .int .u64 Q'.e0.want, .bool Q'.e0.owes, .int .i64 Q'.e0.age, .int .i64 Q'.e1.e, .int .i64 Q'.e1.win, .int .i64 Q'.e1.qn, .int .i64 Q'.e1.wait, .slice sa1 sn1 sc1, .int .u64 Q'.e1.first, .int .i64 Q'.e1.out, .int .i64 Q'.e1.ever, .int .u64 Q'.e1.want, .bool Q'.e1.owes, .int .i64 Q'.e1.age, .slice sa2 sn2 sc2, .slice sa3 sn3 sc3, .int .i64 Q'.net.n, .int .i64 Q'.net.room, .slice sa4 sn4 sc4]) rfl rfl (hw') uPipe (by kernel_rfl)) (h := ?_)
                refine xtv 13 (h := ?_)
                refine xone 11 (hk := k4) (h := RunX.of 11 (h := ?_))
                go_simp
                refine (HWT.out _ _ D4.out.at').mono ?_
                rintro ev w5 ⟨F5, rfl, n5, o5, gr5⟩
                have D5 := Lib.hid (D4.out.moves n5 o5 gr5)
                have k5 : w5.heap[g]? = some (.cells #[.int .i64 Q'.e0.e, .int .i64 Q'.e0.win, .int .i64 Q'.e0.qn, .int .i64 Q'.e0.wait, .slice sa0 sn0 sc0, .int .u64 Q'.e0.first, .int .i64 Q'.e0.out, .int .i64 Q'.e0.ever, .int .u64 Q'.e0.want, .bool Q'.e0.owes, .int .i64 Q'.e0.age, .int .i64 Q'.e1.e, .int .i64 Q'.e1.win, .int .i64 Q'.e1.qn, .int .i64 Q'.e1.wait, .slice sa1 sn1 sc1, .int .u64 Q'.e1.first, .int .i64 Q'.e1.out, .int .i64 Q'.e1.ever, .int .u64 Q'.e1.want, .bool Q'.e1.owes, .int .i64 Q'.e1.age, .slice sa2 sn2 sc2, .slice sa3 sn3 sc3, .int .i64 Q'.net.n, .int .i64 Q'.net.room, .slice sa4 sn4 sc4] 35 (0, 0)) := D5.out.box
                clear n5 o5 gr5 D4 k4
                dsimp only
                (try (simp only [Act.put, List.setIfInBounds_toArray, List.set]))
                refine xone 14 (hk := k5) (h := RunX.of 14 (h := ?_))
                go_simp
                refine (HRE.out _).mono ?_
                rintro ev w6 ⟨rfl, x6⟩
                have D6 := Lib.hid (D5.out.more x6)
                have k6 : w6.heap[g]? = some (.cells #[.int .i64 Q'.e0.e, .int .i64 Q'.e0.win, .int .i64 Q'.e0.qn, .int .i64 Q'.e0.wait, .slice sa0 sn0 sc0, .int .u64 Q'.e0.first, .int .i64 Q'.e0.out, .int .i64 Q'.e0.ever, .int .u64 Q'.e0.want, .bool Q'.e0.owes, .int .i64 Q'.e0.age, .int .i64 Q'.e1.e, .int .i64 Q'.e1.win, .int .i64 Q'.e1.qn, .int .i64 Q'.e1.wait, .slice sa1 sn1 sc1, .int .u64 Q'.e1.first, .int .i64 Q'.e1.out, .int .i64 Q'.e1.ever, .int .u64 Q'.e1.want, .bool Q'.e1.owes, .int .i64 Q'.e1.age, .slice sa2 sn2 sc2, .slice sa3 sn3 sc3, .int .i64 Q'.net.n, .int .i64 Q'.net.room, .slice sa4 sn4 sc4] 35 (0, 0)) := D6.out.box
                clear x6 D5 k5
                dsimp only
                (try (simp only [Act.put, List.setIfInBounds_toArray, List.set]))
                refine xtv 15 (v := (.slice sa1 sn1 sc1)) (hv := fun w' hw' => by kernel_rfl) (h := ?_)
                refine xtv 16 (h := ?_)
                refine xtv 17 (h := ?_)
                refine xtv 18 (h := ?_)
                (refine xdone (by kernel_rfl) (k6) ?_)
                obtain ⟨⟨z0, z1, z2, z3, z4, z5, z6, z7, z8, z9, z10, z11, z12, z13, z14, z15, z16, z17, z18, z19, z20, z21, z22, z23, z24, z25, z26⟩, _⟩ := cells27 k6
                go_wp2_with fail
                refine (HRW.out _ _ _ D6.out.rp.net).mono ?_
                rintro ev w7 ⟨ra, rc, rfl, sr, x7⟩
                have D7 : Hid (Dq w w7 p Q' g (10 * (k + 1))) := Lib.hid ⟨_, _, _, _, _, _, D6.out.more x7⟩
                clear sr x7 D6 k6 z0 z1 z2 z3 z4 z5 z6 z7 z8 z9 z10 z11 z12 z13 z14 z15 z16 z17 z18 z19 z20 z21 z22 z23 z24 z25 z26
                go_wp2
                go_loopw [34] (fun j wz => ∃ i : Nat, i ≤ R.length + 2 ∧ j = .int .i64 ((i : Int) - 1) ∧ Hid (Dq w wz p Q' g (10 * (k + 1)))) (fun j _ => R.length + 2 - (intOf j + 1).toNat)
                case atStart => exact ⟨0, Nat.zero_le _, by first | rfl | simp, D7⟩
                case round =>
                  obtain ⟨i, hi, rfl, HDj⟩ := hrel
                  by_cases hle : i ≤ R.length + 1
                  · have hle2 : (i : Int) - 1 ≤ (R.length : Int) := by omega
                    have hn3 : IntKind.i64.wrap ((i : Int) - 1 + 1) = ((i + 1 : Nat) : Int) - 1 := by rw [wrapN _ (by omega) (by omega)]; omega
                    obtain ⟨F, ⟨sa0, sn0, sc0⟩, ⟨sa1, sn1, sc1⟩, ⟨sa2, sn2, sc2⟩, ⟨sa3, sn3, sc3⟩, ⟨sa4, sn4, sc4⟩, hd⟩ := HDj.out
                    have HD := Lib.hid hd
                    clear hd HDj
                    go_wp2_with fail
                    refine (HLK.out _ _ _ HD.out.at').mono ?_
                    rintro ev w8 ⟨F8, rfl, n8, o8, gr8⟩
                    have D8 := Lib.hid (HD.out.moves n8 o8 gr8)
                    have k8 : w8.heap[g]? = some (.cells #[.int .i64 Q'.e0.e, .int .i64 Q'.e0.win, .int .i64 Q'.e0.qn, .int .i64 Q'.e0.wait, .slice sa0 sn0 sc0, .int .u64 Q'.e0.first, .int .i64 Q'.e0.out, .int .i64 Q'.e0.ever, .int .u64 Q'.e0.want, .bool Q'.e0.owes, .int .i64 Q'.e0.age, .int .i64 Q'.e1.e, .int .i64 Q'.e1.win, .int .i64 Q'.e1.qn, .int .i64 Q'.e1.wait, .slice sa1 sn1 sc1, .int .u64 Q'.e1.first, .int .i64 Q'.e1.out, .int .i64 Q'.e1.ever, .int .u64 Q'.e1.want, .bool Q'.e1.owes, .int .i64 Q'.e1.age, .slice sa2 sn2 sc2, .slice sa3 sn3 sc3, .int .i64 Q'.net.n, .int .i64 Q'.net.room, .slice sa4 sn4 sc4] 35 (0, 0)) := D8.out.box
                    obtain ⟨⟨z0, z1, z2, z3, z4, z5, z6, z7, z8, z9, z10, z11, z12, z13, z14, z15, z16, z17, z18, z19, z20, z21, z22, z23, z24, z25, z26⟩, _⟩ := cells27 k8
                    clear n8 o8 gr8 HD k8
                    dsimp only
                    go_wp2_with fail
                    refine (HRL.out _ _ _ _ _ D8.out.rp.net).mono ?_
                    rintro ev w9 ⟨rfl, x9⟩
                    have D9 : Hid (Dq w w9 p Q' g (10 * (k + 1))) := Lib.hid ⟨_, _, _, _, _, _, D8.out.more x9⟩
                    clear x9 D8 z0 z1 z2 z3 z4 z5 z6 z7 z8 z9 z10 z11 z12 z13 z14 z15 z16 z17 z18 z19 z20 z21 z22 z23 z24 z25 z26
                    dsimp only
                    go_wp2
                    exact ⟨⟨i + 1, by omega, by rw [show ((i + 1 : Nat) : Int) - 1 = (i : Int) by omega], D9⟩, by simp [intOf]; omega⟩
                  · have hle2 : ¬ (i : Int) - 1 ≤ (R.length : Int) := by omega
                    go_wp2
                    exact ⟨⟨2, by decide, by go_num, HDj⟩, by simp [intOf]⟩
            · have hi2 : i = 2 := by omega
              subst hi2
              go_wp2
              exact ⟨⟨k + 1, Q', hlt, by go_num, HLQ', HDi⟩, by simp [intOf]; omega⟩
    · have X9 : Hid (Ext w wr) := Lib.hid (by obtain ⟨F, l0, l1, g0, g1, x, hd⟩ := HDQ.out; exact hd.ext)
      go_wp2
      go_ret
      exact ⟨rfl, X9.out⟩
end Go.Proofs.YtlakolkpfkakoaaGreatDoor
