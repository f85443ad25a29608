/- NetDoes: whatever is done, what it answers, and all that is on its way then, is the document's. -/
import Derived.Test.YtjnnfnmapigagaaNX
namespace Go.Proofs.Ytjnnfnmapigagaa
open Go.RowKit

def ybox (u0 u1 u2 : Value) : Obj := .cells #[u0, u1, u2] 29 (0, 0)
def abox (y : Act8) : Obj := .cells #[.int .i64 y.k, .int .i64 y.a, .int .i64 y.b, .int .i64 y.n, .int .i64 y.x, .string y.s] 32 (0, 0)

/-- the two nets side by side: the program's means S, the document's means T, and lies in box g -/
structure Side (w W : World) (p : Nat) (S T : NetS) (F : Nat → Prop) (g : Nat) (u0 u1 u2 : Value) (m : Nat) : Prop where
  net : Net1 w W p S F
  box : W.heap[g]? = some (ybox u0 u1 u2)
  apart : ¬ F g
  ref : RNet (fun j => F j ∨ j = g) W (.agg #[u0, u1, u2]) T m
  own : w.heap.size ≤ g
section
variable {w W W' : World} {p : Nat} {S S' T T' : NetS} {F F' : Nat → Prop} {g : Nat} {u0 u1 u2 v0 v1 v2 : Value} {m m' : Nat}
theorem Side.moves (h : Side w W p S T F g u0 u1 u2 m) (n : NAt W' p S' F') (o : Off F W W') (gr : Grows F F' W) : Side w W' p S' T F' g u0 u1 u2 m := by
  have hg := blk_lt h.box
  refine ⟨h.net.step n o gr, o.blk h.box h.apart, fun hf => ?_, ?_, h.own⟩
  · rcases gr g hf with h1 | h1
    · exact h.apart h1
    · omega
  · refine h.ref.off (o.mono fun k hk => .inl hk) fun k hk => ?_
    rcases hk with hk | hk
    · exact (gr k hk).imp .inl id
    · exact .inl (.inr hk)
theorem Side.ext (h : Side w W p S T F g u0 u1 u2 m) (x : Ext W W') : Side w W' p S T F g u0 u1 u2 m := ⟨h.net.ext x, (x.block g (blk_lt h.box)).trans h.box, h.apart, h.ref.ext x, h.own⟩
/-- the document's net of another meaning, stored -/
theorem Side.store (h : Side w W p S T F g u0 u1 u2 m) (r : RNet (fun j => F j ∨ j = g) W (.agg #[v0, v1, v2]) T' m') : Side w (put3 W g v0 v1 v2) p S T' F g v0 v1 v2 m' := by
  refine ⟨⟨h.net.1.off (off_put3 W g v0 v1 v2) (fun k hk e => h.apart (e ▸ hk)), h.net.2.1, put3_below h.net.2.2 h.own _ _ _⟩, put3_blk h.box v0 v1 v2, h.apart, ?_, h.own⟩
  exact r.off ((off_put3 W g v0 v1 v2).mono fun k e => .inr e) (Grows.refl _ _)
theorem Side.low (h : Side w W p S T F g u0 u1 u2 m) : ∀ k, (F k ∨ k = g) → k < W.heap.size := fun k hk => by
  rcases hk with hk | hk
  · exact h.net.1.low k hk
  · rw [hk]; exact blk_lt h.box
end
theorem abox_off {F : Nat → Prop} {w w' : World} {g : Nat} {y : Act8} (hb : w.heap[g]? = some (abox y)) (o : Off F w w') (hf : ¬ F g) : w'.heap[g]? = some (abox y) := o.blk hb hf
theorem apart_grows {F F' : Nat → Prop} {w : World} {g : Nat} (hf : ¬ F g) (gr : Grows F F' w) (hg : g < w.heap.size) : ¬ F' g := fun h => by
  rcases gr g h with h1 | h1
  · exact hf h1
  · omega

/-- the box of what is done, as far as the rest asks -/
def AB (W : World) (j : Nat) (a b : Int) : Prop := ∃ y : Act8, W.heap[j]? = some (abox y) ∧ y.a = a ∧ y.b = b
section
variable {F : Nat → Prop} {W W' : World} {j : Nat} {a b : Int}
theorem AB.cells (h : AB W j a b) : W.cell? ⟨j, 1, none⟩ = some (.int .i64 a) ∧ W.cell? ⟨j, 2, none⟩ = some (.int .i64 b) := by
  obtain ⟨y, hb, rfl, rfl⟩ := h
  have hc := cells6 hb
  exact ⟨hc.2.1, hc.2.2.1⟩
theorem AB.low (h : AB W j a b) : j < W.heap.size := by
  obtain ⟨y, hb, _, _⟩ := h
  exact blk_lt hb
theorem AB.off (h : AB W j a b) (o : Off F W W') (hf : ¬ F j) : AB W' j a b := by
  obtain ⟨y, hb, e1, e2⟩ := h
  exact ⟨y, o.blk hb hf, e1, e2⟩
theorem AB.ext (h : AB W j a b) (x : Ext W W') : AB W' j a b := by
  obtain ⟨y, hb, e1, e2⟩ := h
  exact ⟨y, (x.block _ (blk_lt hb)).trans hb, e1, e2⟩
end

set_option maxRecDepth 100000 in
set_option maxHeartbeats 16000000 in
theorem does_any (w : World) (v : Value) (l : List Act8) (h : Sl w v l) (hx : ∀ y ∈ l, -9223372036854775808 ≤ y.x ∧ y.x ≤ 9223372036854775807) (n room : Int) :
    Calls Try.prog 3 #[.int .i64 n, .int .i64 room, v] w (GivesB w (.bool true)) := by
  have hlen := h.length_le
  have HS := Lib.hid h
  obtain ⟨ao, c, rfl⟩ := h.len
  clear h
  go_enter Try.func3, Try.ntmps3
  go_wp2_with fail
  refine (pNew w n room).mono ?_
  rintro e w0 ⟨p, F0, rfl, n0, hf0, x0⟩
  have N0 : Hid (Net1 w w0 p (NetS.new n room) F0) := Lib.hid ⟨n0, hf0, x0⟩
  clear n0 hf0 x0
  go_wp2_with fail
  refine (awake_any w0).mono ?_
  rintro e w1 ⟨rfl, x1⟩
  have N1 := Lib.hid (N0.out.ext x1)
  clear x1 N0
  go_wp2_with fail
  refine (few_any w1 _ l (HS.out.ext N1.out.2.2)).mono ?_
  rintro e w2 ⟨r, rfl, hr, rfl⟩
  cases r
  · clear hr
    go_wp2_with (first
      | (go_at_call 10; refine (awake_any w1).mono ?_; rintro e w2 ⟨rfl, x2⟩; have X2 := Lib.hid (Ext.trans N1.out.2.2 x2); clear x2))
    go_ret
    exact ⟨rfl, X2.out⟩
  · have HR := Lib.hid (hr rfl)
    clear hr
    go_wp2_with fail
    refine (refNew_any F0 w1 n room).mono ?_
    rintro e w3 ⟨v0, rfl, r3, x3⟩
    obtain ⟨ao3, n3, c3, L3, rfl, _⟩ := id r3
    have hD3 : Side w (w3.alloc (ybox (.int .i64 ((NetS.new n room).n : Int)) (.int .i64 ((NetS.new n room).room : Int)) (.slice ao3 n3 c3))) p (NetS.new n room) (NetS.new n room) F0 w3.heap.size (.int .i64 ((NetS.new n room).n : Int)) (.int .i64 ((NetS.new n room).room : Int)) (.slice ao3 n3 c3) 0 := by
      have hn3 := N1.out.ext x3
      have hx4 : Ext w3 (w3.alloc (ybox (.int .i64 ((NetS.new n room).n : Int)) (.int .i64 ((NetS.new n room).room : Int)) (.slice ao3 n3 c3))) := (Ext.refl w3).alloc _
      refine ⟨hn3.ext hx4, get_alloc_new w3 _, fun hf => Nat.lt_irrefl _ (hn3.1.low _ hf), ?_, hn3.2.2.size⟩
      exact (r3.wide (fun k hk h1 => by rcases h1 with h1 | h1; exact h1; omega)).ext hx4
    have D3 := Lib.hid hD3
    clear hD3 r3 x3
    go_wp2
    obtain ⟨g, hg⟩ : ∃ g, g = w3.heap.size := ⟨_, rfl⟩
    rw [← hg] at D3 ⊢
    clear hg
    go_loopw [9] (fun i wr => ∃ (k : Nat) (S : NetS) (F : Nat → Prop) (u0 u1 u2 : Value), k ≤ l.length ∧ i = .int .i64 (k : Int) ∧ Hid (Side w wr p S S F g u0 u1 u2 k)) (fun i _ => l.length - (intOf i).toNat)
    case atStart => exact ⟨0, _, _, _, _, _, Nat.zero_le _, rfl, D3⟩
    case round =>
      obtain ⟨k, S, F, u0, u1, u2, hk, rfl, HN⟩ := hrel
      by_cases hlt : k < l.length
      · obtain ⟨b, off, rfl, _, hcl, hat⟩ := act_here HS.out HN.out.net.2.2 hlt
        have hm : l.getD k dA ∈ l := by simp [hlt]
        have hx2 := hx _ hm
        have hs2 := HR.out.2 _ hm
        have hl60 := HR.out.1
        obtain ⟨Y, hY⟩ : ∃ Y, Y = l.getD k dA := ⟨_, rfl⟩
        rw [← hY] at hat hx2 hs2
        clear hY hm
        obtain ⟨yk, ya, yb, yn, yx, ys⟩ := Y
        obtain ⟨c0, c1, c2, c3, c4, c5⟩ := hat
        dsimp only at c0 c1 c2 c3 c4 c5 hx2 hs2
        have hkc : (k : Int) ≤ (c : Int) := by omega
        have hnF : ¬ F wr.heap.size := fun h => Nat.lt_irrefl _ (HN.out.net.1.low _ h)
        have hgw := blk_lt HN.out.box
        have D4 := Lib.hid (HN.out.ext ((Ext.refl wr).alloc (abox ⟨yk, ya, yb, yn, yx, ys⟩)))
        have hok := HN.out.net.1.ok
        have cA := act_any D4.out.net.1 ⟨yk, ya, yb, yn, yx, ys⟩ (by dsimp only; omega) hx2.1 hx2.2
        dsimp only at cA
        obtain ⟨S', hS'⟩ : ∃ S', S' = actS S ⟨yk, ya, yb, yn, yx, ys⟩ := ⟨_, rfl⟩
        obtain ⟨T, hT⟩ : ∃ T, T = actT S ⟨yk, ya, yb, yn, yx, ys⟩ := ⟨_, rfl⟩
        obtain ⟨R, hR⟩ : ∃ R, R = actB S ⟨yk, ya, yb, yn, yx, ys⟩ := ⟨_, rfl⟩
        rw [← hS', ← hT, ← hR] at cA
        have HCA := Lib.hid cA
        have HX : Hid (∀ (W : World) (F5 : Nat → Prop) (m0 : RNet (fun j => F5 j ∨ j = g) W (.agg #[u0, u1, u2]) S k) (hlow : ∀ j, (F5 j ∨ j = g) → j < W.heap.size),
            (yk = 0 → Calls Try.prog 14 #[.agg #[u0, u1, u2], .int .i64 ya, .int .i64 yb, .string ys] W fun e w' => ∃ v', e = .returned (.tuple #[v', .bool R]) ∧ RNet (fun j => F5 j ∨ j = g) w' v' S' (k + 1) ∧ Ext W w') ∧
            (yk = 1 → Calls Try.prog 15 #[.agg #[u0, u1, u2], .int .i64 ya, .int .i64 yb, .int .i64 yn] W fun e w' => ∃ v', e = .returned (.tuple #[v', .string T, .bool R]) ∧ RNet (fun j => F5 j ∨ j = g) w' v' S' (k + 1) ∧ Ext W w') ∧
            (yk = 2 → Calls Try.prog 16 #[.agg #[u0, u1, u2], .int .i64 ya, .int .i64 yb, .int .i64 yn] W fun e w' => ∃ v', e = .returned (.tuple #[v', .bool R]) ∧ RNet (fun j => F5 j ∨ j = g) w' v' S' (k + 1) ∧ Ext W w') ∧
            (¬ yk = 0 → ¬ yk = 1 → ¬ yk = 2 → Calls Try.prog 17 #[.agg #[u0, u1, u2], .int .i64 ya, .int .i64 yb, .int .i64 yn, .int .i64 yx] W fun e w' => ∃ v', e = .returned (.tuple #[v', .bool R]) ∧ RNet (fun j => F5 j ∨ j = g) w' v' S' (k + 1) ∧ Ext W w')) := Lib.hid (fun W F5 r hlow => by
          refine ⟨fun e => ?_, fun e => ?_, fun e => ?_, fun e0 e1 e2 => ?_⟩
          · subst e
            rw [hS', hR]
            exact refSend_any _ W hlow _ S k r (by omega) hok ya yb ys
          · subst e
            rw [hS', hR, hT]
            exact refDeliver_any _ W hlow _ S k r (by omega) hok ya yb yn
          · subst e
            rw [hS', hR]
            exact refDouble_any _ W hlow _ S k r (by omega) hok ya yb yn
          · have hS2 : S' = S.flip ya yb yn yx := by rw [hS']; unfold actS; rw [if_neg e0, if_neg e1, if_neg e2]
            have hR2 : R = S.canF ya yb yn := by rw [hR]; unfold actB; rw [if_neg e0, if_neg e1, if_neg e2]
            rw [hS2, hR2]
            exact refFlip_any _ W hlow _ S k r (by omega) hok ya yb yn yx hx2.1 hx2.2)
        have hT0 : ¬ yk = 1 → T = ⟨#[]⟩ := fun e => by rw [hT]; exact if_neg e
        have HT0 := Lib.hid hT0
        have hgne : wr.heap.size ≠ g := by omega
        clear hx2 hs2 hx cA hT0 hS' hT hR hok
        by_cases q0 : yk = 0
        focus
          subst q0
          have e1 := HT0.out (by decide)
          subst e1
          clear HT0
          have HXR := Lib.hid (fun W F5 r hl => (HX.out W F5 r hl).1 rfl)
          clear HX
          go_wp2_with (first
            | (go_at_call 13; refine HCA.out.mono ?_; rintro e w5 ⟨F5, rfl, n, o, gr⟩; have hab := abox_off (get_alloc_new wr (abox ⟨0, ya, yb, yn, yx, ys⟩)) o hnF; have hq5 := cells6 hab; have hnF5 := apart_grows hnF gr (by rw [size_alloc]; omega); have D5 := Lib.hid (D4.out.moves n o gr); have hb5 := D5.out.box; have kb5 := cells3 hb5; have hs5 := blk_lt hab; clear n o gr)
            | (go_at_call 14; refine (HXR.out _ F5 D5.out.ref D5.out.low).mono ?_; rintro e w6 ⟨v6, rfl, r6, x6⟩; obtain ⟨ao6, n6, c6, L6, rfl, _⟩ := id r6; have D6 := Lib.hid ((D5.out.ext x6).store r6); have hb6 := (x6.block _ (blk_lt hb5)).trans hb5; have kb6 := cells3 hb6; have hab6 := (x6.block _ (blk_lt hab)).trans hab; have hq6 := cells6 hab6; clear x6 r6))
        rotate_left
        by_cases q1 : yk = 1
        focus
          have b0 : (yk == 0) = false := beq_eq_false_iff_ne.2 q0
          clear b0
          subst q1
          clear HT0
          have HXR := Lib.hid (fun W F5 r hl => (HX.out W F5 r hl).2.1 rfl)
          clear HX
          go_wp2_with (first
            | (go_at_call 13; refine HCA.out.mono ?_; rintro e w5 ⟨F5, rfl, n, o, gr⟩; have hab := abox_off (get_alloc_new wr (abox ⟨1, ya, yb, yn, yx, ys⟩)) o hnF; have hq5 := cells6 hab; have hnF5 := apart_grows hnF gr (by rw [size_alloc]; omega); have D5 := Lib.hid (D4.out.moves n o gr); have hb5 := D5.out.box; have kb5 := cells3 hb5; have hs5 := blk_lt hab; clear n o gr)
            | (go_at_call 15; refine (HXR.out _ F5 D5.out.ref D5.out.low).mono ?_; rintro e w6 ⟨v6, rfl, r6, x6⟩; obtain ⟨ao6, n6, c6, L6, rfl, _⟩ := id r6; have D6 := Lib.hid ((D5.out.ext x6).store r6); have hb6 := (x6.block _ (blk_lt hb5)).trans hb5; have kb6 := cells3 hb6; have hab6 := (x6.block _ (blk_lt hab)).trans hab; have hq6 := cells6 hab6; clear x6 r6))
        rotate_left
        by_cases q2 : yk = 2
        focus
          subst q2
          have e1 := HT0.out (by decide)
          subst e1
          clear HT0
          have HXR := Lib.hid (fun W F5 r hl => (HX.out W F5 r hl).2.2.1 rfl)
          clear HX
          go_wp2_with (first
            | (go_at_call 13; refine HCA.out.mono ?_; rintro e w5 ⟨F5, rfl, n, o, gr⟩; have hab := abox_off (get_alloc_new wr (abox ⟨2, ya, yb, yn, yx, ys⟩)) o hnF; have hq5 := cells6 hab; have hnF5 := apart_grows hnF gr (by rw [size_alloc]; omega); have D5 := Lib.hid (D4.out.moves n o gr); have hb5 := D5.out.box; have kb5 := cells3 hb5; have hs5 := blk_lt hab; clear n o gr)
            | (go_at_call 16; refine (HXR.out _ F5 D5.out.ref D5.out.low).mono ?_; rintro e w6 ⟨v6, rfl, r6, x6⟩; obtain ⟨ao6, n6, c6, L6, rfl, _⟩ := id r6; have D6 := Lib.hid ((D5.out.ext x6).store r6); have hb6 := (x6.block _ (blk_lt hb5)).trans hb5; have kb6 := cells3 hb6; have hab6 := (x6.block _ (blk_lt hab)).trans hab; have hq6 := cells6 hab6; clear x6 r6))
        rotate_left
        focus
          have b0 : (yk == 0) = false := beq_eq_false_iff_ne.2 q0
          have b1 : (yk == 1) = false := beq_eq_false_iff_ne.2 q1
          have b2 : (yk == 2) = false := beq_eq_false_iff_ne.2 q2
          have e1 := HT0.out (q1)
          subst e1
          clear HT0
          have HXR := Lib.hid (fun W F5 r hl => (HX.out W F5 r hl).2.2.2 q0 q1 q2)
          clear HX
          go_wp2_with (first
            | (go_at_call 13; refine HCA.out.mono ?_; rintro e w5 ⟨F5, rfl, n, o, gr⟩; have hab := abox_off (get_alloc_new wr (abox ⟨yk, ya, yb, yn, yx, ys⟩)) o hnF; have hq5 := cells6 hab; have hnF5 := apart_grows hnF gr (by rw [size_alloc]; omega); have D5 := Lib.hid (D4.out.moves n o gr); have hb5 := D5.out.box; have kb5 := cells3 hb5; have hs5 := blk_lt hab; clear n o gr)
            | (go_at_call 17; refine (HXR.out _ F5 D5.out.ref D5.out.low).mono ?_; rintro e w6 ⟨v6, rfl, r6, x6⟩; obtain ⟨ao6, n6, c6, L6, rfl, _⟩ := id r6; have D6 := Lib.hid ((D5.out.ext x6).store r6); have hb6 := (x6.block _ (blk_lt hb5)).trans hb5; have kb6 := cells3 hb6; have hab6 := (x6.block _ (blk_lt hab)).trans hab; have hq6 := cells6 hab6; clear x6 r6))
        all_goals
          have ha6 : AB (put3 w6 g (.int .i64 (S'.n : Int)) (.int .i64 (S'.room : Int)) (.slice ao6 n6 c6)) wr.heap.size ya yb := ⟨_, (off_put3 w6 g (.int .i64 (S'.n : Int)) (.int .i64 (S'.room : Int)) (.slice ao6 n6 c6)).blk hab6 (fun h => hgne h), rfl, rfl⟩
          obtain ⟨RL, hRL⟩ : ∃ RL, RL = (S'.f ya yb).length := ⟨_, rfl⟩
          refine (refRow_len _ (put3 w6 g (.int .i64 (S'.n : Int)) (.int .i64 (S'.room : Int)) (.slice ao6 n6 c6)) _ S' (k + 1) D6.out.ref ya yb _ rfl).mono ?_
          rintro e w7 ⟨ao7, c7, rfl, _, x7⟩
          rw [← hRL]
          have D7 := Lib.hid (D6.out.ext x7)
          have ha7 := ha6.ext x7
          clear x7 ha6 hb6 kb6 hab6 hq6 hab hq5 hb5 kb5 hs5
          have hRL1 : RL ≤ 1000 := by
            have h1 := D7.out.net.1.ok.few ya yb
            have h2 := D7.out.net.1.ok.rooms
            omega
          have HCnt : Hid (∀ W F, NAt W p S' F → Calls Try.prog 19 #[.pointer (some ⟨p, 0, none⟩), .int .i64 ya, .int .i64 yb] W (Moves p S' F (.int .i64 (RL : Int)) W)) := Lib.hid (fun W F n => by rw [hRL]; exact pCount n ya yb)
          obtain ⟨LK, hLK⟩ : ∃ LK : Int → ByteArray, LK = fun i => S'.look ya yb i := ⟨_, rfl⟩
          obtain ⟨TH, hTH⟩ : ∃ TH : Int → Bool, TH = fun i => S'.there ya yb i := ⟨_, rfl⟩
          have HL1 : Hid (∀ W F (i : Int), NAt W p S' F → Calls Try.prog 22 #[.pointer (some ⟨p, 0, none⟩), .int .i64 ya, .int .i64 yb, .int .i64 i] W (Moves p S' F (.tuple #[.string (LK i), .bool (TH i)]) W)) := Lib.hid (fun W F i n => by rw [hLK, hTH]; exact pLook n ya yb i)
          have HL2 : Hid (∀ W F v (i : Int), RNet F W v S' (k + 1) → Calls Try.prog 23 #[v, .int .i64 ya, .int .i64 yb, .int .i64 i] W fun e w' => e = .returned (.tuple #[.string (LK i), .bool (TH i)]) ∧ Ext W w') := Lib.hid (fun W F v i r => by rw [hLK, hTH]; exact refLook_any F W v S' _ r ya yb i)
          clear hRL hLK hTH
          go_wp2_with fail
          (refine wp_region_X_lit (K := fun W => AB W wr.heap.size ya yb ∧ W.heap[g]? = some (ybox (.int .i64 (S'.n : Int)) (.int .i64 (S'.room : Int)) (.slice ao6 n6 c6))) (by kernel_rfl) (fun w1 hw1 => ?_))
          have D8 := Lib.hid (D7.out.ext hw1)
          have ha8 := ha7.ext hw1
          clear hw1 ha7 D7
          (refine xtakeV 0 (v := ?_) (by simp only [List.getElem?_toArray, List.getElem?_cons, reduceIte]; rfl) (by kernel_rfl) (by rfl) (fun w' hw' => ?_) ?_; rotate_left; focus (skip; go_simp; first | done | with_reducible rfl)); (simp only [Act.put, List.setIfInBounds_toArray, List.set])
          (refine xtakeV 1 (v := ?_) (by simp only [List.getElem?_toArray, List.getElem?_cons, reduceIte]; rfl) (by kernel_rfl) (by rfl) (fun w' hw' => ?_) ?_; rotate_left; focus (skip; go_simp; first | done | with_reducible rfl)); (simp only [Act.put, List.setIfInBounds_toArray, List.set])
          (refine xtakeV 2 (v := ?_) (by simp only [List.getElem?_toArray, List.getElem?_cons, reduceIte]; rfl) (by kernel_rfl) (by rfl) (fun w' hw' => ?_) ?_; rotate_left; focus (skip; go_simp; first | done | with_reducible rfl)); (simp only [Act.put, List.setIfInBounds_toArray, List.set])
          (refine xtakeV 3 (v := ?_) (by simp only [List.getElem?_toArray, List.getElem?_cons, reduceIte]; rfl) (by kernel_rfl) (by rfl) (fun w' hw' => ?_) ?_; rotate_left; focus (skip; go_simp; first | done | with_reducible rfl)); (simp only [Act.put, List.setIfInBounds_toArray, List.set])
          (refine xtakeV 4 (v := ?_) (by simp only [List.getElem?_toArray, List.getElem?_cons, reduceIte]; rfl) (by kernel_rfl) (by rfl) (fun w' hw' => ?_) ?_; rotate_left; focus (skip; go_simp; first | done | with_reducible rfl)); (simp only [Act.put, List.setIfInBounds_toArray, List.set])
          (refine xtakeV 5 (v := ?_) (by simp only [List.getElem?_toArray, List.getElem?_cons, reduceIte]; rfl) (by kernel_rfl) (by rfl) (fun w' hw' => ?_) ?_; rotate_left; focus (skip; go_simp; first | done | with_reducible rfl)); (simp only [Act.put, List.setIfInBounds_toArray, List.set])
          (refine xtakeV 6 (v := ?_) (by simp only [List.getElem?_toArray, List.getElem?_cons, reduceIte]; rfl) (by kernel_rfl) (by rfl) (fun w' hw' => ?_) ?_; rotate_left; focus (skip; go_simp; first | done | with_reducible rfl)); (simp only [Act.put, List.setIfInBounds_toArray, List.set])
          (refine xtakeV 7 (v := ?_) (by simp only [List.getElem?_toArray, List.getElem?_cons, reduceIte]; rfl) (by kernel_rfl) (by rfl) (fun w' hw' => ?_) ?_; rotate_left; focus (skip; go_simp; first | done | with_reducible rfl)); (simp only [Act.put, List.setIfInBounds_toArray, List.set])
          (refine xtakeV 8 (v := ?_) (by simp only [List.getElem?_toArray, List.getElem?_cons, reduceIte]; rfl) (by kernel_rfl) (by rfl) (fun w' hw' => ?_) ?_; rotate_left; focus (skip; go_simp; first | done | with_reducible rfl)); (simp only [Act.put, List.setIfInBounds_toArray, List.set])
          (refine xtakeV 9 (v := ?_) (by simp only [List.getElem?_toArray, List.getElem?_cons, reduceIte]; rfl) (by kernel_rfl) (by rfl) (fun w' hw' => ?_) ?_; rotate_left; focus (skip; go_simp; first | done | with_reducible rfl)); (simp only [Act.put, List.setIfInBounds_toArray, List.set])
          (refine xtakeV 10 (v := ?_) (by simp only [List.getElem?_toArray, List.getElem?_cons, reduceIte]; rfl) (by kernel_rfl) (by rfl) (fun w' hw' => ?_) ?_; rotate_left; focus (skip; go_simp; first | done | with_reducible rfl)); (simp only [Act.put, List.setIfInBounds_toArray, List.set])
          (refine xtakeV 11 (v := ?_) (by simp only [List.getElem?_toArray, List.getElem?_cons, reduceIte]; rfl) (by kernel_rfl) (by rfl) (fun w' hw' => ?_) ?_; rotate_left; focus (have hc := hw'.1.cells; go_simp; first | done | with_reducible rfl)); (simp only [Act.put, List.setIfInBounds_toArray, List.set])
          (refine xtakeV 12 (v := ?_) (by simp only [List.getElem?_toArray, List.getElem?_cons, reduceIte]; rfl) (by kernel_rfl) (by rfl) (fun w' hw' => ?_) ?_; rotate_left; focus (skip; go_simp; first | done | with_reducible rfl)); (simp only [Act.put, List.setIfInBounds_toArray, List.set])
          (refine xtakeV 13 (v := ?_) (by simp only [List.getElem?_toArray, List.getElem?_cons, reduceIte]; rfl) (by kernel_rfl) (by rfl) (fun w' hw' => ?_) ?_; rotate_left; focus (have hc := hw'.1.cells; go_simp; first | done | with_reducible rfl)); (simp only [Act.put, List.setIfInBounds_toArray, List.set])
          (refine xtakeV 15 (v := ?_) (by simp only [List.getElem?_toArray, List.getElem?_cons, reduceIte]; rfl) (by kernel_rfl) (by rfl) (fun w' hw' => ?_) ?_; rotate_left; focus (skip; go_simp; first | done | with_reducible rfl)); (simp only [Act.put, List.setIfInBounds_toArray, List.set])
          (refine xtakeV 16 (v := ?_) (by simp only [List.getElem?_toArray, List.getElem?_cons, reduceIte]; rfl) (by kernel_rfl) (by rfl) (fun w' hw' => ?_) ?_; rotate_left; focus (skip; go_simp; first | done | with_reducible rfl)); (simp only [Act.put, List.setIfInBounds_toArray, List.set])
          (refine xone 14 (by kernel_rfl) (⟨ha8, D8.out.box⟩) (RunX.of 14 (by simp only [List.getElem?_toArray, List.getElem?_cons, reduceIte]; rfl) (by rfl) ?_))
          go_simp
          refine (HCnt.out _ _ D8.out.net.1).mono ?_
          rintro e w9 ⟨F9, rfl, n, o, gr⟩
          have ha9 := ha8.off o hnF5
          have D9 := Lib.hid (D8.out.moves n o gr)
          have hnF9 := apart_grows hnF5 gr ha8.low
          clear n o gr
          dsimp only
          (try (simp only [Act.put, List.setIfInBounds_toArray, List.set]))
          (refine xtakeV 17 (v := ?_) (by simp only [List.getElem?_toArray, List.getElem?_cons, reduceIte]; rfl) (by kernel_rfl) (by rfl) (fun w' hw' => ?_) ?_; rotate_left; focus (skip; go_simp; first | done | with_reducible rfl)); (simp only [Act.put, List.setIfInBounds_toArray, List.set])
          (refine xtakeV 18 (v := ?_) (by simp only [List.getElem?_toArray, List.getElem?_cons, reduceIte]; rfl) (by kernel_rfl) (by rfl) (fun w' hw' => ?_) ?_; rotate_left; focus (skip; go_simp; first | done | with_reducible rfl)); (simp only [Act.put, List.setIfInBounds_toArray, List.set])
          (refine xtakeV 19 (v := ?_) (by simp only [List.getElem?_toArray, List.getElem?_cons, reduceIte]; rfl) (by kernel_rfl) (by rfl) (fun w' hw' => ?_) ?_; rotate_left; focus (skip; go_simp; first | done | with_reducible rfl)); (simp only [Act.put, List.setIfInBounds_toArray, List.set])
          (refine xtakeV 20 (v := ?_) (by simp only [List.getElem?_toArray, List.getElem?_cons, reduceIte]; rfl) (by kernel_rfl) (by rfl) (fun w' hw' => ?_) ?_; rotate_left; focus (skip; go_simp; first | done | with_reducible rfl)); (simp only [Act.put, List.setIfInBounds_toArray, List.set])
          (refine xtakeV 22 (v := ?_) (by simp only [List.getElem?_toArray, List.getElem?_cons, reduceIte]; rfl) (by kernel_rfl) (by rfl) (fun w' hw' => ?_) ?_; rotate_left; focus (have hc := cells3 hw'.2; go_simp; first | done | with_reducible rfl)); (simp only [Act.put, List.setIfInBounds_toArray, List.set])
          (refine xone 21 (by kernel_rfl) (⟨ha9, D9.out.box⟩) (RunX.of 21 (by simp only [List.getElem?_toArray, List.getElem?_cons, reduceIte]; rfl) (by rfl) ?_))
          go_simp
          refine (pQuiet D9.out.net.1).mono ?_
          rintro e w10 ⟨z1, hz1, F10, rfl, n, o, gr⟩
          have ha10 := ha9.off o hnF9
          have D10 := Lib.hid (D9.out.moves n o gr)
          have hnF10 := apart_grows hnF9 gr ha9.low
          clear n o gr
          dsimp only
          (try (simp only [Act.put, List.setIfInBounds_toArray, List.set]))
          (refine xone 23 (by kernel_rfl) (⟨ha10, D10.out.box⟩) (RunX.of 23 (by simp only [List.getElem?_toArray, List.getElem?_cons, reduceIte]; rfl) (by rfl) ?_))
          go_simp
          refine (refQuiet_any _ _ _ S' (k + 1) D10.out.ref).mono ?_
          rintro e w11 ⟨z2, rfl, hz2, x⟩
          obtain rfl : z2 = z1 := Bool.eq_iff_iff.2 (hz2.trans hz1.symm)
          have ha11 := ha10.ext x
          have D11 := Lib.hid (D10.out.ext x)
          clear x hz1 hz2 ha8 ha9 ha10
          dsimp only
          (try (simp only [Act.put, List.setIfInBounds_toArray, List.set]))
          (refine xtakeV 24 (v := ?_) (by simp only [List.getElem?_toArray, List.getElem?_cons, reduceIte]; rfl) (by kernel_rfl) (by rfl) (fun w' hw' => ?_) ?_; rotate_left; focus (skip; go_simp; first | done | with_reducible rfl)); (simp only [Act.put, List.setIfInBounds_toArray, List.set])
          (refine xtakeV 25 (v := ?_) (by simp only [List.getElem?_toArray, List.getElem?_cons, reduceIte]; rfl) (by kernel_rfl) (by rfl) (fun w' hw' => ?_) ?_; rotate_left; focus (skip; go_simp; first | done | with_reducible rfl)); (simp only [Act.put, List.setIfInBounds_toArray, List.set])
          (refine xdone (by kernel_rfl) (⟨ha11, D11.out.box⟩) ?_)
          obtain ⟨AJ, hAJ⟩ : ∃ AJ, AJ = wr.heap.size := ⟨_, rfl⟩
          rw [← hAJ] at ha11 hnF10 ⊢
          clear hAJ hgne hgw hkc
          go_wp2
          go_loopw [16] (fun i wi => ∃ (m : Nat) (F : Nat → Prop), m ≤ RL + 2 ∧ i = .int .i64 ((m : Int) - 1) ∧ Hid (Side w wi p S' S' F g (.int .i64 (S'.n : Int)) (.int .i64 (S'.room : Int)) (.slice ao6 n6 c6) (k + 1) ∧ AB wi AJ ya yb ∧ ¬ F AJ)) (fun i _ => ((RL : Int) + 1 - intOf i).toNat)
          case atStart => exact ⟨0, F10, by omega, rfl, Lib.hid ⟨D11.out, ha11, hnF10⟩⟩
          case round =>
            obtain ⟨m, F12, hm, rfl, HM⟩ := hrel
            by_cases hlt2 : m < RL + 2
            · have hq : (m : Int) - 1 ≤ (RL : Int) := by omega
              have hc12 := HM.out.2.1.cells
              have hwp : IntKind.i64.wrap ((m : Int) - 1 + 1) = (m : Int) - 1 + 1 := IntWalk.i64_in _ (by omega)
              go_wp2_with (first
                | (go_at_call 22; refine (HL1.out _ _ _ HM.out.1.net.1).mono ?_; rintro e w12 ⟨F13, rfl, n, o, gr⟩; have D13 := Lib.hid (HM.out.1.moves n o gr); have ha13 := HM.out.2.1.off o HM.out.2.2; have hn13 := apart_grows HM.out.2.2 gr HM.out.2.1.low; have hc13 := ha13.cells; have kb13 := cells3 D13.out.box; clear n o gr)
                | (go_at_call 23; refine (HL2.out _ _ _ _ D13.out.ref).mono ?_; rintro e w14 ⟨rfl, x⟩; have D14 := Lib.hid (D13.out.ext x); have ha14 := ha13.ext x; clear x))
              exact ⟨⟨m + 1, F13, by omega, by first | go_num | (congr 1; omega), Lib.hid ⟨D14.out, ha14, hn13⟩⟩, by simp [intOf]; omega⟩
            · have hq : ¬ (m : Int) - 1 ≤ (RL : Int) := by omega
              go_wp2
              exact ⟨⟨k + 1, S', F12, _, _, _, hlt, by go_num, Lib.hid HM.out.1⟩, by simp [intOf]; omega⟩
      · go_wp2
        go_ret
        exact ⟨rfl, HN.out.net.2.2⟩
end Go.Proofs.Ytjnnfnmapigagaa
