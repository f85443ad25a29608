/- NetOnly: where no bit is turned, what is delivered was sent there. -/
import Derived.Test.YtjnnfnmapigagaaNX
namespace Go.Proofs.Ytjnnfnmapigagaa
open Go.RowKit

theorem look_mem {S : NetS} {a b k : Int} (h : S.there a b k = true) : S.look a b k ∈ S.f a b := by
  unfold NetS.look
  rw [if_pos h]
  have h2 := there_iff.1 h
  have h3 : k.toNat < (S.f a b).length := by omega
  simp [h3]
theorem send_mem {S : NetS} {a b x z : Int} {u s : ByteArray} (h : s ∈ (S.send a b u).f x z) : s ∈ S.f x z ∨ (a = x ∧ b = z ∧ u = s) := by
  unfold NetS.send at h
  split at h
  · by_cases e : x = a ∧ z = b
    · obtain ⟨rfl, rfl⟩ := e
      rw [put_at] at h
      rcases List.mem_append.1 h with h | h
      · exact .inl h
      · rw [List.mem_singleton] at h
        exact .inr ⟨rfl, rfl, h.symm⟩
    · rw [put_other S _ e] at h
      exact .inl h
  · exact .inl h
theorem act_sent {S : NetS} {y : Act8} (h0 : 0 ≤ y.k) (h2 : y.k ≤ 2) {x z : Int} {s : ByteArray} (h : s ∈ (actS S y).f x z) : s ∈ S.f x z ∨ (y.k = 0 ∧ y.a = x ∧ y.b = z ∧ y.s = s) := by
  unfold actS at h
  by_cases e0 : y.k = 0
  · rw [if_pos e0] at h
    exact (send_mem h).imp id fun h => ⟨e0, h⟩
  · rw [if_neg e0] at h
    refine .inl ?_
    by_cases e1 : y.k = 1
    · rw [if_pos e1] at h
      unfold NetS.deliver at h
      split at h
      · by_cases e : x = y.a ∧ z = y.b
        · obtain ⟨rfl, rfl⟩ := e
          rw [put_at] at h
          exact List.mem_of_mem_eraseIdx h
        · rw [put_other S _ e] at h
          exact h
      · exact h
    · rw [if_neg e1, if_pos (by omega)] at h
      unfold NetS.double at h
      split at h
      · next ht =>
        rcases send_mem h with h | ⟨rfl, rfl, rfl⟩
        · exact h
        · exact look_mem ht
      · exact h

/-- all that is on its way was sent there by the first k acts -/
def Sent (l : List Act8) (k : Nat) (S : NetS) : Prop := ∀ x z s, s ∈ S.f x z → ∃ y ∈ l.take k, y.k = 0 ∧ y.a = x ∧ y.b = z ∧ y.s = s
theorem Sent.more {l : List Act8} {k k' : Nat} {S : NetS} (h : Sent l k S) (hk : k ≤ k') : Sent l k' S := fun x z s hs => by
  obtain ⟨y, hy, e⟩ := h x z s hs
  refine ⟨y, ?_, e⟩
  have : l.take k = (l.take k').take k := by rw [List.take_take, Nat.min_eq_left hk]
  rw [this] at hy
  exact List.mem_of_mem_take hy
theorem Sent.act {l : List Act8} {k : Nat} {S : NetS} {y : Act8} (h : Sent l k S) (hy : y ∈ l.take (k + 1)) (h0 : 0 ≤ y.k) (h2 : y.k ≤ 2) : Sent l (k + 1) (actS S y) := fun x z s hs => by
  rcases act_sent h0 h2 hs with h1 | h1
  · exact (h.more (Nat.le_succ _)) x z s h1
  · exact ⟨y, hy, h1⟩
def sentB (a b : Int) (s : ByteArray) (y : Act8) : Bool := decide (y.k = 0) && decide (y.a = a) && decide (y.b = b) && decide (y.s = s)
theorem sentB_iff {a b : Int} {s : ByteArray} {y : Act8} : sentB a b s y = true ↔ y.k = 0 ∧ y.a = a ∧ y.b = b ∧ y.s = s := by
  unfold sentB
  simp only [Bool.and_eq_true, decide_eq_true_eq, and_assoc]
theorem Sent.any {l : List Act8} {k : Nat} {S : NetS} {a b n : Int} (h : Sent l k S) (ht : S.there a b n = true) : (l.take k).any (sentB a b (S.look a b n)) = true := by
  obtain ⟨y, hy, e⟩ := h a b _ (look_mem ht)
  rw [List.any_eq_true]
  exact ⟨y, hy, sentB_iff.2 e⟩

set_option maxRecDepth 100000 in
set_option maxHeartbeats 16000000 in
theorem only_any (w : World) (v : Value) (l : List Act8) (h : Sl w v l) (hx : ∀ y ∈ l, -9223372036854775808 ≤ y.x ∧ y.x ≤ 9223372036854775807) (n room : Int) :
    Calls Try.prog 4 #[.int .i64 n, .int .i64 room, v] w (GivesB w (.bool true)) := by
  have hlen := h.length_le
  have HS := Lib.hid h
  obtain ⟨ao, c, rfl⟩ := h.len
  clear h
  go_enter Try.func4, Try.ntmps4
  go_wp2_with fail
  refine (pNew w n room).mono ?_
  rintro e w0 ⟨p, F0, rfl, n0, hf0, x0⟩
  have N0 : Hid (Net1 w w0 p (NetS.new n room) F0) := Lib.hid ⟨n0, hf0, x0⟩
  clear n0 hf0 x0
  go_wp2_with fail
  refine (awake_any w0).mono ?_
  rintro e w1 ⟨rfl, x1⟩
  have N1 := Lib.hid (N0.out.ext x1)
  clear x1 N0
  go_wp2_with fail
  refine (few_any w1 _ l (HS.out.ext N1.out.2.2)).mono ?_
  rintro e w2 ⟨r, rfl, hr, rfl⟩
  cases r
  · clear hr
    go_wp2_with (first
      | (go_at_call 10; refine (awake_any w1).mono ?_; rintro e w2 ⟨rfl, x2⟩; have X2 := Lib.hid (Ext.trans N1.out.2.2 x2); clear x2))
    go_ret
    exact ⟨rfl, X2.out⟩
  · have HR := Lib.hid (hr rfl)
    clear hr
    go_wp2
    go_loopw [8] (fun i wr => ∃ (k : Nat) (S : NetS) (F : Nat → Prop), k ≤ l.length ∧ i = .int .i64 (k : Int) ∧ Hid (Net1 w wr p S F ∧ Sent l k S)) (fun i _ => l.length - (intOf i).toNat)
    case atStart => exact ⟨0, _, _, Nat.zero_le _, rfl, Lib.hid ⟨N1.out, fun x z s hs => by cases hs⟩⟩
    case round =>
      obtain ⟨k, S, F, hk, rfl, HN⟩ := hrel
      by_cases hlt : k < l.length
      · obtain ⟨b, off, rfl, _, hcl, hat⟩ := act_here HS.out HN.out.1.2.2 hlt
        have hm : l.getD k dA ∈ l := by simp [hlt]
        have hx2 := hx _ hm
        have hs2 := HR.out.2 _ hm
        have hmt : l.getD k dA ∈ l.take (k + 1) := by
          have ht : l.take (k + 1) = l.take k ++ [l.getD k dA] := by rw [List.take_succ_eq_append_getElem hlt]; simp [hlt]
          rw [ht]
          exact List.mem_append_right _ (List.mem_singleton.2 rfl)
        have hbl : b < w.heap.size := by
          rcases HS.out.acts with ⟨h0, _⟩ | ⟨b', off', c', hv, _, _, hb', _⟩
          · rw [h0] at hlt; simp at hlt
          · simp only [Value.slice.injEq, Option.some.injEq, Addr.mk.injEq, and_true] at hv
            omega
        have HAT : Hid (∀ W, Ext w W → ∀ j, j < l.length → ActAt W b (off + j * 6) (l.getD j dA)) := Lib.hid (fun W x j hj => by
          obtain ⟨b', off', hv, _, _, h3⟩ := act_here HS.out x hj
          simp only [Option.some.injEq, Addr.mk.injEq, and_true] at hv
          obtain ⟨rfl, rfl⟩ := hv
          exact h3)
        obtain ⟨Y, hY⟩ : ∃ Y, Y = l.getD k dA := ⟨_, rfl⟩
        rw [← hY] at hat hx2 hs2 hmt
        have HY := Lib.hid hY
        clear hY hm
        have HMT := Lib.hid hmt
        obtain ⟨yk, ya, yb, yn, yx, ys⟩ := Y
        obtain ⟨c0, c1, c2, c3, c4, c5⟩ := hat
        dsimp only at c0 c1 c2 c3 c4 c5 hx2 hs2
        have hkc : (k : Int) ≤ (c : Int) := by omega
        by_cases h0 : yk < 0
        · go_wp2
          exact ⟨⟨k + 1, S, F, hlt, by go_num, Lib.hid ⟨HN.out.1, HN.out.2.more (Nat.le_succ _)⟩⟩, by simp [intOf]; omega⟩
        · by_cases h2 : 2 < yk
          · go_wp2
            exact ⟨⟨k + 1, S, F, hlt, by go_num, Lib.hid ⟨HN.out.1, HN.out.2.more (Nat.le_succ _)⟩⟩, by simp [intOf]; omega⟩
          · have cA := act_any HN.out.1.1 ⟨yk, ya, yb, yn, yx, ys⟩ (by dsimp only; omega) hx2.1 hx2.2
            have hsa := Sent.act HN.out.2 hmt (by dsimp only; omega) (by dsimp only; omega)
            have hfin : yk = 1 → actB S ⟨yk, ya, yb, yn, yx, ys⟩ = true → (l.take k).any (sentB ya yb (actT S ⟨yk, ya, yb, yn, yx, ys⟩)) = true := fun e1 e2 => by
              subst e1
              exact HN.out.2.any e2
            dsimp only at cA
            obtain ⟨S', hS'⟩ : ∃ S', S' = actS S ⟨yk, ya, yb, yn, yx, ys⟩ := ⟨_, rfl⟩
            obtain ⟨T, hT⟩ : ∃ T, T = actT S ⟨yk, ya, yb, yn, yx, ys⟩ := ⟨_, rfl⟩
            obtain ⟨R, hR⟩ : ∃ R, R = actB S ⟨yk, ya, yb, yn, yx, ys⟩ := ⟨_, rfl⟩
            rw [← hS'] at cA hsa
            rw [← hT] at cA hfin
            rw [← hR] at cA hfin
            have HCA := Lib.hid cA
            have HSA := Lib.hid hsa
            have HFIN := Lib.hid hfin
            clear cA hsa hfin hS' hT hR hmt
            go_wp2_with (first
              | (go_at_call 13; refine HCA.out.mono ?_; rintro e w5 ⟨F5, rfl, n, o, g⟩; have N5 := Lib.hid (HN.out.1.step n o g); clear n o g))
            go_loopw [11, 12] (fun sent j wi => ∃ m : Nat, m ≤ k ∧ j = .int .i64 (m : Int) ∧ (∃ t : Bool, sent = .bool t ∧ Hid (t = (l.take m).any (sentB ya yb T))) ∧ Hid (Ext w5 wi)) (fun _ j _ => k - (intOf j).toNat)
            case atStart => exact ⟨0, Nat.zero_le _, rfl, ⟨false, rfl, Lib.hid rfl⟩, Lib.hid (Ext.refl _)⟩
            case round =>
              obtain ⟨m, hmk, rfl, ⟨t, rfl, HT⟩, HX⟩ := hrel
              by_cases hlt2 : m < k
              · have xw : Ext w wr := Ext.trans N5.out.2.2 HX.out
                have hmc := HAT.out wr xw m (by omega)
                have hkc2 := HAT.out wr xw k hlt
                rw [← HY.out] at hkc2
                have htk : (l.take (m + 1)).any (sentB ya yb T) = ((l.take m).any (sentB ya yb T) || sentB ya yb T (l.getD m dA)) := by
                  have ht : l.take (m + 1) = l.take m ++ [l.getD m dA] := by rw [List.take_succ_eq_append_getElem (by omega)]; simp [show m < l.length by omega]
                  rw [ht, List.any_append]
                  simp
                obtain ⟨Z, hZ⟩ : ∃ Z, Z = l.getD m dA := ⟨_, rfl⟩
                rw [← hZ] at hmc htk
                clear hZ
                obtain ⟨zk, za, zb, zn, zx, zs⟩ := Z
                obtain ⟨b0, b1, b2, b3, b4, b5⟩ := hmc
                obtain ⟨d0, d1, d2, d3, d4, d5⟩ := hkc2
                dsimp only at b0 b1 b2 b3 b4 b5 d0 d1 d2 d3 d4 d5
                have HTK := Lib.hid htk
                have hml : (m : Int) < (k : Int) := by omega
                have hmc2 : (m : Int) ≤ (c : Int) := by omega
                have hml2 : (m : Int) < (l.length : Int) := by omega
                have hkl2 : (k : Int) < (l.length : Int) := by omega
                clear htk xw c0 c1 c2 c3 c4 c5 b3 b4 d0 d3 d4 d5 hx
                cases t
                · by_cases q1 : zk = 0
                  · by_cases q2 : za = ya
                    · by_cases q3 : zb = yb
                      · obtain ⟨r, hr⟩ : ∃ r, r = decide (zs = T) := ⟨_, rfl⟩
                        have e9 : (zs.toList == T.toList) = r := by rw [tl_eq, hr]
                        have HR9 := Lib.hid hr
                        clear hr
                        cases r
                        · go_wp2_with fail
                          go_quiet (fail)
                          go_wp2
                          exact ⟨⟨m + 1, hlt2, by go_num, ⟨false, rfl, Lib.hid (by rw [HTK.out, ← HT.out, sentB, ← HR9.out]; simp [q1, q2, q3])⟩, Lib.hid (HX.out.drewN _)⟩, by simp [intOf]; omega⟩
                        · go_wp2_with fail
                          go_quiet (fail)
                          go_wp2
                          exact ⟨⟨m + 1, hlt2, by go_num, ⟨true, rfl, Lib.hid (by rw [HTK.out, sentB, ← HR9.out]; simp [q1, q2, q3])⟩, Lib.hid (HX.out.drewN _)⟩, by simp [intOf]; omega⟩
                      · have p3 : (zb == yb) = false := beq_eq_false_iff_ne.2 q3
                        go_wp2_with fail
                        go_quiet (fail)
                        go_wp2
                        exact ⟨⟨m + 1, hlt2, by go_num, ⟨false, rfl, Lib.hid (by rw [HTK.out, ← HT.out, sentB]; simp [q1, q2, q3])⟩, Lib.hid (HX.out.drewN _)⟩, by simp [intOf]; omega⟩
                    · have p2 : (za == ya) = false := beq_eq_false_iff_ne.2 q2
                      go_wp2_with fail
                      go_quiet (fail)
                      go_wp2
                      exact ⟨⟨m + 1, hlt2, by go_num, ⟨false, rfl, Lib.hid (by rw [HTK.out, ← HT.out, sentB]; simp [q1, q2])⟩, Lib.hid (HX.out.drewN _)⟩, by simp [intOf]; omega⟩
                  · have p1 : (zk == 0) = false := beq_eq_false_iff_ne.2 q1
                    go_wp2_with fail
                    go_quiet (fail)
                    go_wp2
                    exact ⟨⟨m + 1, hlt2, by go_num, ⟨false, rfl, Lib.hid (by rw [HTK.out, ← HT.out, sentB]; simp [q1])⟩, Lib.hid (HX.out.drewN _)⟩, by simp [intOf]; omega⟩
                · go_wp2_with fail
                  go_quiet (fail)
                  go_wp2
                  exact ⟨⟨m + 1, hlt2, by go_num, ⟨true, rfl, Lib.hid (by rw [HTK.out, ← HT.out]; rfl)⟩, Lib.hid (HX.out.drewN _)⟩, by simp [intOf]; omega⟩
              · have hmk2 : m = k := by omega
                have xw : Ext w wr := Ext.trans N5.out.2.2 HX.out
                have hkc2 := HAT.out wr xw k hlt
                rw [← HY.out] at hkc2
                obtain ⟨d0, d1, d2, d3, d4, d5⟩ := hkc2
                dsimp only at d0 d1 d2 d3 d4 d5
                have hml : ¬ (m : Int) < (k : Int) := by omega
                have HTT : Hid (t = (l.take k).any (sentB ya yb T)) := Lib.hid (by rw [HT.out, hmk2])
                have N6 := Lib.hid (N5.out.ext HX.out)
                clear hmk2 c0 c1 c2 c3 c4 c5 d1 d2 d3 d4 d5 hx xw
                by_cases q1 : yk = 1
                · cases R
                  · go_wp2
                    exact ⟨⟨k + 1, S', F5, hlt, by go_num, Lib.hid ⟨N6.out, HSA.out⟩⟩, by simp [intOf]; omega⟩
                  · have htt : t = true := by rw [HTT.out]; exact HFIN.out q1 rfl
                    subst htt
                    go_wp2
                    exact ⟨⟨k + 1, S', F5, hlt, by go_num, Lib.hid ⟨N6.out, HSA.out⟩⟩, by simp [intOf]; omega⟩
                · go_wp2
                  exact ⟨⟨k + 1, S', F5, hlt, by go_num, Lib.hid ⟨N6.out, HSA.out⟩⟩, by simp [intOf]; omega⟩
      · go_wp2
        go_ret
        exact ⟨rfl, HN.out.1.2.2⟩
end Go.Proofs.Ytjnnfnmapigagaa
