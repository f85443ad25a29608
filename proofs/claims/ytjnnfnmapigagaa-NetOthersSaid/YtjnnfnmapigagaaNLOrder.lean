/- NetOrder: what is taken from the front comes in the order in which it was sent. -/
import Derived.Test.YtjnnfnmapigagaaN8
namespace Go.Proofs.Ytjnnfnmapigagaa
open Go.RowKit

/-- a net of which one way alone is used -/
def one (n room : Nat) (a b : Int) (xs : List ByteArray) : NetS := ⟨n, room, fun x y => if x = a ∧ y = b then xs else []⟩
theorem one_row (n room : Nat) (a b : Int) (xs : List ByteArray) : (one n room a b xs).f a b = xs := if_pos ⟨rfl, rfl⟩
theorem one_put (n room : Nat) (a b : Int) (xs ys : List ByteArray) : (one n room a b xs).put a b ys = one n room a b ys := by
  unfold NetS.put one
  congr 1
  funext x y
  by_cases h : x = a ∧ y = b
  · rw [if_pos h, if_pos h]
  · rw [if_neg h, if_neg h]; exact if_neg h
theorem one_two (n room : Nat) (a b : Int) (xs : List ByteArray) (h : 0 ≤ a ∧ a < n ∧ 0 ≤ b ∧ b < n ∧ a ≠ b) : (one n room a b xs).two a b = true := two_iff.2 h
theorem one_may (n room : Nat) (a b : Int) (xs : List ByteArray) (h : 0 ≤ a ∧ a < n ∧ 0 ≤ b ∧ b < n ∧ a ≠ b) (hl : xs.length < room) : (one n room a b xs).may a b = true :=
  may_iff.2 ⟨one_two n room a b xs h, by rw [one_row]; exact hl⟩
theorem one_send (n room : Nat) (a b : Int) (xs : List ByteArray) (s : ByteArray) (h : 0 ≤ a ∧ a < n ∧ 0 ≤ b ∧ b < n ∧ a ≠ b) (hl : xs.length < room) : (one n room a b xs).send a b s = one n room a b (xs ++ [s]) := by
  unfold NetS.send
  rw [if_pos (one_may n room a b xs h hl), one_row, one_put]
theorem one_there (n room : Nat) (a b k : Int) (xs : List ByteArray) : (one n room a b xs).there a b k = (decide (0 ≤ k) && decide (k < (xs.length : Int))) := by unfold NetS.there; rw [one_row]
theorem one_look (n room : Nat) (a b : Int) (k : Nat) (xs : List ByteArray) (h : k < xs.length) : (one n room a b xs).look a b k = xs.getD k ⟨#[]⟩ := by
  unfold NetS.look
  rw [one_there, decide_eq_true (by omega), decide_eq_true (by omega), if_pos (by decide), one_row, Int.toNat_natCast]
theorem one_deliver (n room : Nat) (a b : Int) (x : ByteArray) (xs : List ByteArray) : (one n room a b (x :: xs)).deliver a b 0 = one n room a b xs := by
  unfold NetS.deliver
  rw [one_there, decide_eq_true (by omega), decide_eq_true (by simp), if_pos (by decide), one_row, one_put]
  rfl
theorem one_new (n room : Int) (N R : Nat) (a b : Int) (hn : (min (max n 0) 64).toNat = N) (hr : (min (max room 0) 1000).toNat = R) : NetS.new n room = one N R a b [] := by
  unfold NetS.new one
  rw [hn, hr]
  congr 1
  funext x y
  split <;> rfl

set_option maxHeartbeats 1600000 in
theorem netOrder_any (w : World) (v : Value) (l : List ByteArray) (h : Sl w v l) :
    Calls Try.prog 7 #[v] w (GivesB w (.bool true)) := by
  have hlen := h.length_le
  by_cases h60 : l.length ≤ 60
  · have HS := Lib.hid h
    obtain ⟨ao, c, rfl⟩ := h.len
    clear h
    have hz : ¬ (60 : Int) < (l.length : Int) := by omega
    go_enter Try.func7, Try.ntmps7
    go_wp2_with fail
    refine (pNew w 2 100).mono ?_
    rintro e w0 ⟨p, F0, rfl, n0, hf0, x0⟩
    have N0 : Hid (Net1 w w0 p (one 2 100 1 0 []) F0) := Lib.hid ⟨by rw [← one_new 2 100 2 100 1 0 rfl rfl]; exact n0, hf0, x0⟩
    clear n0 hf0 x0
    go_wp2_with fail
    refine (awake_any w0).mono ?_
    rintro e w1 ⟨rfl, x1⟩
    have N1 := Lib.hid (N0.out.ext x1)
    clear x1 N0
    go_wp2
    go_loopw [4] (fun i wr => ∃ (k : Nat) (F : Nat → Prop), k ≤ l.length ∧ i = .int .i64 (k : Int) ∧ Hid (Net1 w wr p (one 2 100 1 0 (l.take k)) F)) (fun i _ => l.length - (intOf i).toNat)
    case atStart => exact ⟨0, _, Nat.zero_le _, rfl, N1⟩
    case round =>
      obtain ⟨k, F, hk, rfl, HN⟩ := hrel
      by_cases hlt : k < l.length
      · rcases (HS.out.ext HN.out.2.2).texts with ⟨h0, _⟩ | ⟨b, off, c', hv, hq1, hq2, hbl, hpos, hat⟩
        · rw [h0] at hlt; simp at hlt
        simp only [Value.slice.injEq] at hv
        obtain ⟨rfl, _, rfl⟩ := hv
        have k0 := hat k hlt
        have ht : l.take (k + 1) = l.take k ++ [l.getD k ⟨#[]⟩] := by rw [List.take_succ_eq_append_getElem hlt]; simp [hlt]
        obtain ⟨Y, hY⟩ : ∃ Y, Y = l.getD k ⟨#[]⟩ := ⟨_, rfl⟩
        rw [← hY] at k0 ht
        have HT := Lib.hid ht
        have hkc : (k : Int) ≤ (c : Int) := by omega
        clear ht hY hat
        by_cases h40 : Y.size ≤ 40
        · have h40b : ¬ (40 : Int) < (Y.size : Int) := by omega
          have hb := (one_send 2 100 1 0 (l.take k) Y (by decide) (by rw [List.length_take]; omega))
          have hm := (one_may 2 100 1 0 (l.take k) (by decide) (by rw [List.length_take]; omega))
          have c1 := pSend HN.out.1 1 0 Y (by omega)
          rw [hb, hm, ← HT.out] at c1
          have C1 := Lib.hid c1
          clear c1 hb hm
          replace h40 := Lib.hid h40
          go_wp2_with (first
            | (go_at_call 24; refine C1.out.mono ?_; rintro e w2 ⟨F2, rfl, n2, o2, g2⟩; have N2 := Lib.hid (HN.out.step n2 o2 g2); clear n2 o2 g2))
          exact ⟨⟨k + 1, F2, hlt, by go_num, N2⟩, by simp [intOf]; omega⟩
        · have h40b : (40 : Int) < (Y.size : Int) := by omega
          replace h40 := Lib.hid h40
          go_wp2
          go_ret
          exact ⟨rfl, HN.out.2.2⟩
      · have hkk : k = l.length := by omega
        have hN := HN.out
        rw [hkk, List.take_length] at hN
        have N3 := Lib.hid hN
        clear hN HN hkk
        go_wp2
        go_loopw [5] (fun i wr => ∃ (k : Nat) (F : Nat → Prop), k ≤ l.length ∧ i = .int .i64 (k : Int) ∧ Hid (Net1 w wr p (one 2 100 1 0 (l.drop k)) F)) (fun i _ => l.length - (intOf i).toNat)
        case atStart => exact ⟨0, _, Nat.zero_le _, rfl, N3⟩
        case round =>
          obtain ⟨k, F, hk, rfl, HN⟩ := hrel
          by_cases hlt : k < l.length
          · have hd : l.drop k = l.getD k ⟨#[]⟩ :: l.drop (k + 1) := by rw [List.drop_eq_getElem_cons hlt]; simp [hlt]
            obtain ⟨Y, hY⟩ : ∃ Y, Y = l.getD k ⟨#[]⟩ := ⟨_, rfl⟩
            rw [← hY] at hd
            have c1 := pDeliver (by rw [hd] at HN; exact HN.out.1) 1 0 0
            have hl : (one 2 100 1 0 (Y :: l.drop (k + 1))).look 1 0 0 = Y := one_look 2 100 1 0 0 (Y :: l.drop (k + 1)) (by simp)
            have ht : (one 2 100 1 0 (Y :: l.drop (k + 1))).there 1 0 0 = true := by rw [one_there]; simp
            rw [one_deliver, hl, ht] at c1
            have C1 := Lib.hid c1
            have HYY := Lib.hid hY
            rw [hd] at HN
            clear c1 hd hl ht hY
            have hkc : (k : Int) ≤ (c : Int) := by
              rcases HS.out.texts with ⟨h0, _⟩ | ⟨b, off, c', hv, hq1, _⟩
              · rw [h0] at hlt; simp at hlt
              · simp only [Value.slice.injEq] at hv
                obtain ⟨_, _, rfl⟩ := hv
                omega
            go_wp2_with (first
              | (go_at_call 26; refine C1.out.mono ?_; rintro e w2 ⟨F2, rfl, n2, o2, g2⟩; have N2 := Lib.hid (HN.out.step n2 o2 g2); clear n2 o2 g2; rcases (HS.out.ext N2.out.2.2).texts with ⟨h0, _⟩ | ⟨b, off, c', hv, hq1, hq2, hbl, hpos, hat⟩; (rw [h0] at hlt; simp at hlt); simp only [Value.slice.injEq] at hv; obtain ⟨rfl, _, rfl⟩ := hv; have k0 := hat k hlt; rw [← HYY.out] at k0; clear hat))
            exact ⟨⟨k + 1, F2, hlt, by go_num, N2⟩, by simp [intOf]; omega⟩
          · have hkk : k = l.length := by omega
            have hN := HN.out
            rw [hkk, List.drop_length] at hN
            have N4 := Lib.hid hN
            have c1 := pDeliver N4.out.1 1 0 0
            have ht : (one 2 100 1 0 []).there 1 0 0 = false := by rw [one_there]; simp
            rw [ht] at c1
            have hdl : (one 2 100 1 0 []).deliver 1 0 0 = one 2 100 1 0 [] := by unfold NetS.deliver; rw [ht, if_neg (by decide)]
            rw [hdl] at c1
            have C1 := Lib.hid c1
            clear c1 ht hN HN hdl
            go_wp2_with (first
              | (go_at_call 26; refine C1.out.mono ?_; rintro e w2 ⟨F2, rfl, n2, o2, g2⟩; have N5 := Lib.hid (N4.out.step n2 o2 g2); clear n2 o2 g2)
              | (go_at_call 20; refine (pQuiet N5.out.1).mono ?_; rintro e w3 ⟨q, hq, F3, rfl, n3, o3, g3⟩; obtain rfl : q = true := hq.2 (fun x y => (by unfold one; dsimp only; split <;> rfl)); have N6 := Lib.hid (N5.out.step n3 o3 g3); clear n3 o3 g3 hq))
            go_ret
            exact ⟨rfl, N6.out.2.2⟩
  · obtain ⟨ao, c, rfl⟩ := h.len
    clear h
    have hz : (60 : Int) < (l.length : Int) := by omega
    go_enter Try.func7, Try.ntmps7
    go_wp2_with fail
    refine (pNew w 2 100).mono ?_
    rintro e w0 ⟨p, F0, rfl, n0, hf0, x0⟩
    go_wp2_with fail
    refine (awake_any w0).mono ?_
    rintro e w1 ⟨rfl, x1⟩
    have X1 := Lib.hid (Ext.trans x0 x1)
    clear n0 hf0 x0 x1
    go_wp2_with (first
      | (go_at_call 10; refine (awake_any w1).mono ?_; rintro e w2 ⟨rfl, x2⟩; have X2 := Lib.hid (Ext.trans X1.out x2); clear x2))
    go_ret
    exact ⟨rfl, X2.out⟩
end Go.Proofs.Ytjnnfnmapigagaa
