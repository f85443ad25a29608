/- NetOthers: what is done between two nodes is nothing to what is on its way elsewhere. -/
import Derived.Test.YtjnnfnmapigagaaNX
namespace Go.Proofs.Ytjnnfnmapigagaa
open Go.RowKit

/-- on this way they are the same -/
def RowEq (S T : NetS) (a b : Int) : Prop := S.n = T.n ∧ S.room = T.room ∧ S.f a b = T.f a b
section
variable {S T : NetS} {a b : Int}
theorem RowEq.may (h : RowEq S T a b) : S.may a b = T.may a b := by unfold NetS.may NetS.two; rw [h.1, h.2.1, h.2.2]
theorem RowEq.there (h : RowEq S T a b) (k : Int) : S.there a b k = T.there a b k := by unfold NetS.there; rw [h.2.2]
theorem RowEq.look (h : RowEq S T a b) (k : Int) : S.look a b k = T.look a b k := by unfold NetS.look; rw [h.there, h.2.2]
theorem RowEq.put (h : RowEq S T a b) (l : List ByteArray) : RowEq (S.put a b l) (T.put a b l) a b := ⟨h.1, h.2.1, by rw [put_at, put_at]⟩
theorem RowEq.send (h : RowEq S T a b) (s : ByteArray) : RowEq (S.send a b s) (T.send a b s) a b := by
  unfold NetS.send
  rw [h.may, h.2.2]
  split
  · exact h.put _
  · exact h
theorem RowEq.act {y : Act8} (h : RowEq S T y.a y.b) : RowEq (actS S y) (actS T y) y.a y.b := by
  unfold actS
  split
  · exact h.send _
  · split
    · unfold NetS.deliver
      rw [h.there, h.2.2]
      split
      · exact h.put _
      · exact h
    · split
      · unfold NetS.double
        rw [h.there, h.look]
        split
        · exact h.send _
        · exact h
      · unfold NetS.flip NetS.canF
        rw [h.there, h.look, h.2.2]
        split
        · exact h.put _
        · exact h
end
theorem send_n (S : NetS) (a b : Int) (s : ByteArray) : (S.send a b s).n = S.n := by
  unfold NetS.send
  split <;> rfl
theorem act_n (S : NetS) (y : Act8) : (actS S y).n = S.n := by
  unfold actS
  split
  · exact send_n S _ _ _
  · split
    · unfold NetS.deliver
      split <;> rfl
    · split
      · unfold NetS.double
        split
        · exact send_n S _ _ _
        · rfl
      · unfold NetS.flip
        split <;> rfl
theorem RowEq.other {S T : NetS} {a b : Int} {y : Act8} (h : RowEq S T a b) (hn : ¬ (y.a = a ∧ y.b = b)) : RowEq (actS S y) T a b :=
  ⟨by rw [act_n]; exact h.1, by rw [act_room]; exact h.2.1, by rw [act_other S y (fun e => hn ⟨e.1.symm, e.2.symm⟩)]; exact h.2.2⟩

/-- two nets of the program's, apart from each other -/
def Two2 (w0 w : World) (p q : Nat) (S T : NetS) (F G : Nat → Prop) : Prop := Net1 w0 w p S F ∧ Net1 w0 w q T G ∧ ∀ k, F k → ¬ G k
section
variable {w0 w w' : World} {p q : Nat} {S T S' T' : NetS} {F G F' G' : Nat → Prop}
theorem Two2.x (h : Two2 w0 w p q S T F G) (n : NAt w' p S' F') (o : Off F w w') (g : Grows F F' w) : Two2 w0 w' p q S' T F' G := by
  have h1 := h.1.step n o g
  refine ⟨h1, ⟨h.2.1.1.off o (fun k hG hF => h.2.2 k hF hG), h.2.1.2.1, h1.2.2⟩, fun k hF hG => ?_⟩
  rcases g k hF with h2 | h2
  · exact h.2.2 k h2 hG
  · have := h.2.1.1.low k hG
    omega
theorem Two2.swap (h : Two2 w0 w p q S T F G) : Two2 w0 w q p T S G F := ⟨h.2.1, h.1, fun k hG hF => h.2.2 k hF hG⟩
theorem Two2.y (h : Two2 w0 w p q S T F G) (n : NAt w' q T' G') (o : Off G w w') (g : Grows G G' w) : Two2 w0 w' p q S T' F G' := (h.swap.x n o g).swap
theorem Two2.ext (h : Two2 w0 w p q S T F G) (x : Ext w w') : Two2 w0 w' p q S T F G := ⟨h.1.ext x, h.2.1.ext x, h.2.2⟩
end

set_option maxRecDepth 100000 in
set_option maxHeartbeats 16000000 in
theorem others_any (w : World) (v : Value) (l : List Act8) (h : Sl w v l) (hx : ∀ y ∈ l, -9223372036854775808 ≤ y.x ∧ y.x ≤ 9223372036854775807) (n room fr to : Int) :
    Calls Try.prog 8 #[.int .i64 n, .int .i64 room, v, .int .i64 fr, .int .i64 to] w (GivesB w (.bool true)) := by
  have hlen := h.length_le
  have HS := Lib.hid h
  obtain ⟨ao, c, rfl⟩ := h.len
  clear h
  go_enter Try.func8, Try.ntmps8
  go_wp2_with fail
  refine (pNew w n room).mono ?_
  rintro e w0 ⟨p, F0, rfl, n0, hf0, x0⟩
  have N0 : Hid (Net1 w w0 p (NetS.new n room) F0) := Lib.hid ⟨n0, hf0, x0⟩
  clear n0 hf0 x0
  go_wp2_with fail
  refine (pNew w0 n room).mono ?_
  rintro e w1 ⟨q, G0, rfl, n1, hf1, x1⟩
  have N1 : Hid (Two2 w w1 p q (NetS.new n room) (NetS.new n room) F0 G0) := Lib.hid ⟨N0.out.ext x1, ⟨n1, fun k hk => Nat.le_trans N0.out.2.2.size (hf1 k hk), Ext.trans N0.out.2.2 x1⟩, fun k hF hG => by have := N0.out.1.low k hF; have := hf1 k hG; omega⟩
  clear n1 hf1 x1 N0
  go_wp2_with fail
  refine (awake_any w1).mono ?_
  rintro e w2 ⟨rfl, x2⟩
  have N2 := Lib.hid (N1.out.ext x2)
  clear x2 N1
  go_wp2_with fail
  refine (few_any w2 _ l (HS.out.ext N2.out.1.2.2)).mono ?_
  rintro e w3 ⟨r, rfl, hr, rfl⟩
  cases r
  · clear hr
    go_wp2_with (first
      | (go_at_call 10; refine (awake_any w2).mono ?_; rintro e w4 ⟨rfl, x4⟩; have X4 := Lib.hid (Ext.trans N2.out.1.2.2 x4); clear x4))
    go_ret
    exact ⟨rfl, X4.out⟩
  · have HR := Lib.hid (hr rfl)
    clear hr
    go_wp2
    go_loopw [13] (fun i wr => ∃ (k : Nat) (S T : NetS) (F G : Nat → Prop), k ≤ l.length ∧ i = .int .i64 (k : Int) ∧ Hid (Two2 w wr p q S T F G ∧ RowEq S T fr to)) (fun i _ => l.length - (intOf i).toNat)
    case atStart => exact ⟨0, _, _, _, _, Nat.zero_le _, rfl, Lib.hid ⟨N2.out, rfl, rfl, rfl⟩⟩
    case round =>
      obtain ⟨k, S, T, F, G, hk, rfl, HN⟩ := hrel
      by_cases hlt : k < l.length
      · obtain ⟨b, off, rfl, _, hcl, hat⟩ := act_here HS.out HN.out.1.1.2.2 hlt
        have hm : l.getD k dA ∈ l := by simp [hlt]
        have hx2 := hx _ hm
        have hs2 := HR.out.2 _ hm
        obtain ⟨Y, hY⟩ : ∃ Y, Y = l.getD k dA := ⟨_, rfl⟩
        rw [← hY] at hat hx2 hs2
        clear hY hm
        obtain ⟨yk, ya, yb, yn, yx, ys⟩ := Y
        obtain ⟨c0, c1, c2, c3, c4, c5⟩ := hat
        dsimp only at c0 c1 c2 c3 c4 c5 hx2 hs2
        have hkc : (k : Int) ≤ (c : Int) := by omega
        have HA : Hid (∀ (W : World) (p : Nat) (S : NetS) (F : Nat → Prop), NAt W p S F → Calls Try.prog 13 #[.pointer (some ⟨p, 0, none⟩), .agg #[.int .i64 yk, .int .i64 ya, .int .i64 yb, .int .i64 yn, .int .i64 yx, .string ys]] W (Moves p (actS S ⟨yk, ya, yb, yn, yx, ys⟩) F (.tuple #[.string (actT S ⟨yk, ya, yb, yn, yx, ys⟩), .bool (actB S ⟨yk, ya, yb, yn, yx, ys⟩)]) W)) := Lib.hid (fun W p S F n => act_any n ⟨yk, ya, yb, yn, yx, ys⟩ (by dsimp only; omega) hx2.1 hx2.2)
        have hsame : ya = fr → yb = to → RowEq (actS S ⟨yk, ya, yb, yn, yx, ys⟩) (actS T ⟨yk, ya, yb, yn, yx, ys⟩) fr to := fun e1 e2 => by subst e1; subst e2; exact HN.out.2.act
        have hoth : ¬ (ya = fr ∧ yb = to) → RowEq (actS S ⟨yk, ya, yb, yn, yx, ys⟩) T fr to := fun e => HN.out.2.other e
        have HSAME := Lib.hid hsame
        have HOTH := Lib.hid hoth
        have N4 := Lib.hid (HN.out.1.ext ((Ext.refl wr).alloc (.cells #[.int .i64 yk, .int .i64 ya, .int .i64 yb, .int .i64 yn, .int .i64 yx, .string ys] 32)))
        have hnF : ¬ F wr.heap.size := fun h => Nat.lt_irrefl _ (HN.out.1.1.1.low _ h)
        clear hx2 hs2 hx hsame hoth
        by_cases q1 : ya = fr
        · by_cases q2 : yb = to
          · have HE := Lib.hid (HSAME.out q1 q2)
            clear HSAME HOTH
            subst q1
            subst q2
            go_wp2_with (first
              | (go_at_call 13; have hgd := gone1; refine (HA.out _ q T G N5.out.2.1.1).mono ?_; rintro e w6 ⟨G6, rfl, n, o, g⟩; have N6 := Lib.hid (N5.out.y n o g); clear n o g)
              | (go_at_call 13; refine (HA.out _ p S F N4.out.1.1).mono ?_; rintro e w5 ⟨F5, rfl, n, o, g⟩; have hq5 := cells6 (o.blk (get_alloc_new wr _) hnF); have N5 := Lib.hid (N4.out.x n o g); have gone1 := Lib.hid True.intro; clear n o g))
            exact ⟨⟨k + 1, _, _, F5, G6, hlt, by go_num, Lib.hid ⟨N6.out, HE.out⟩⟩, by simp [intOf]; omega⟩
          · have HE := Lib.hid (HOTH.out (fun e => q2 e.2))
            have p2 : (yb == to) = false := beq_eq_false_iff_ne.2 q2
            clear HSAME HOTH
            subst q1
            go_wp2_with (first
              | (go_at_call 13; refine (HA.out _ p S F N4.out.1.1).mono ?_; rintro e w5 ⟨F5, rfl, n, o, g⟩; have hq5 := cells6 (o.blk (get_alloc_new wr _) hnF); have N5 := Lib.hid (N4.out.x n o g); have gone1 := Lib.hid True.intro; clear n o g))
            exact ⟨⟨k + 1, _, _, F5, G, hlt, by go_num, Lib.hid ⟨N5.out, HE.out⟩⟩, by simp [intOf]; omega⟩
        · have HE := Lib.hid (HOTH.out (fun e => q1 e.1))
          have p1 : (ya == fr) = false := beq_eq_false_iff_ne.2 q1
          clear HSAME HOTH
          go_wp2_with (first
            | (go_at_call 13; refine (HA.out _ p S F N4.out.1.1).mono ?_; rintro e w5 ⟨F5, rfl, n, o, g⟩; have hq5 := cells6 (o.blk (get_alloc_new wr _) hnF); have N5 := Lib.hid (N4.out.x n o g); have gone1 := Lib.hid True.intro; clear n o g))
          exact ⟨⟨k + 1, _, _, F5, G, hlt, by go_num, Lib.hid ⟨N5.out, HE.out⟩⟩, by simp [intOf]; omega⟩
      · go_wp2
        go_loopw [15] (fun i wi => ∃ (m : Nat) (F G : Nat → Prop), m ≤ 130 ∧ i = .int .i64 (m : Int) ∧ Hid (Two2 w wi p q S T F G)) (fun i _ => 130 - (intOf i).toNat)
        case atStart => exact ⟨0, _, _, Nat.zero_le _, rfl, Lib.hid HN.out.1⟩
        case round =>
          obtain ⟨m, F7, G7, hm, rfl, HM⟩ := hrel
          have RE := Lib.hid HN.out.2
          clear hx
          by_cases hlt2 : m < 130
          · have HLX : Hid (∀ (W : World) (F : Nat → Prop), NAt W p S F → Calls Try.prog 22 #[.pointer (some ⟨p, 0, none⟩), .int .i64 fr, .int .i64 to, .int .i64 (m : Int)] W (Moves p S F (.tuple #[.string (S.look fr to m), .bool (S.there fr to m)]) W)) := Lib.hid (fun W F n => pLook n fr to m)
            have HLY : Hid (∀ (W : World) (F : Nat → Prop), NAt W q T F → Calls Try.prog 22 #[.pointer (some ⟨q, 0, none⟩), .int .i64 fr, .int .i64 to, .int .i64 (m : Int)] W (Moves q T F (.tuple #[.string (S.look fr to m), .bool (S.there fr to m)]) W)) := Lib.hid (fun W F n => by rw [RE.out.look, RE.out.there]; exact pLook n fr to m)
            obtain ⟨U, hU⟩ : ∃ U, U = S.look fr to m := ⟨_, rfl⟩
            obtain ⟨R, hR⟩ : ∃ R, R = S.there fr to m := ⟨_, rfl⟩
            rw [← hU, ← hR] at HLX HLY
            clear hU hR
            have hm130 : (m : Int) < 130 := by omega
            go_wp2_with (first
              | (go_at_call 22; have hgd := gone1; refine (HLY.out _ _ N8.out.2.1.1).mono ?_; rintro e w9 ⟨G9, rfl, n, o, g⟩; have N9 := Lib.hid (N8.out.y n o g); clear n o g)
              | (go_at_call 22; refine (HLX.out _ _ HM.out.1.1).mono ?_; rintro e w8 ⟨F8, rfl, n, o, g⟩; have N8 := Lib.hid (HM.out.x n o g); have gone1 := Lib.hid True.intro; clear n o g))
            exact ⟨⟨m + 1, F8, G9, hlt2, by go_num, N9⟩, by simp [intOf]; omega⟩
          · have HCX : Hid (∀ (W : World) (F : Nat → Prop), NAt W p S F → Calls Try.prog 19 #[.pointer (some ⟨p, 0, none⟩), .int .i64 fr, .int .i64 to] W (Moves p S F (.int .i64 ((S.f fr to).length : Int)) W)) := Lib.hid (fun W F n => pCount n fr to)
            have HCY : Hid (∀ (W : World) (F : Nat → Prop), NAt W q T F → Calls Try.prog 19 #[.pointer (some ⟨q, 0, none⟩), .int .i64 fr, .int .i64 to] W (Moves q T F (.int .i64 ((S.f fr to).length : Int)) W)) := Lib.hid (fun W F n => by rw [RE.out.2.2]; exact pCount n fr to)
            obtain ⟨U, hU⟩ : ∃ U, U = (S.f fr to).length := ⟨_, rfl⟩
            rw [← hU] at HCX HCY
            clear hU
            have hm130 : ¬ (m : Int) < 130 := by omega
            go_wp2_with (first
              | (go_at_call 19; have hgd := gone1; refine (HCY.out _ _ N8.out.2.1.1).mono ?_; rintro e w9 ⟨G9, rfl, n, o, g⟩; have N9 := Lib.hid (N8.out.y n o g); clear n o g)
              | (go_at_call 19; refine (HCX.out _ _ HM.out.1.1).mono ?_; rintro e w8 ⟨F8, rfl, n, o, g⟩; have N8 := Lib.hid (HM.out.x n o g); have gone1 := Lib.hid True.intro; clear n o g))
            go_ret
            exact ⟨by simp, N9.out.1.2.2⟩
end Go.Proofs.Ytjnnfnmapigagaa
