/- Layer 12's laws: the chapter's example. -/
import Derived.Test.YtpnnnbjjoimalaaPP
import Derived.Test.YtpnnnbjjoimalaaG11
import Derived.Test.YtpnnnbjjoimalaaYR
namespace Go.Proofs.Ytpnnnbjjoimalaa
open Go.RowKit

def tab2 : List Dn := [⟨0, 0, [⟨1, 1, 0, false, false, true, false, true⟩]⟩, ⟨1, 0, [⟨0, 1, 0, true, true, false, true, false⟩]⟩]
theorem tab2_is : tableL 2 [⟨0, 1⟩] [1, 2] = tab2 := by decide
theorem table2 (w : World) (v cv : Value) (h : Sl w v ([⟨0, 1⟩] : List Edge)) (hc : Sl w cv ([1, 2] : List Int)) : Calls Try.prog 10 #[.agg #[.int .i64 2, v], cv] w (GivesN w tab2 0) :=
  pTable_any w 2 v cv [⟨0, 1⟩] [1, 2] h hc 0 (by decide) tab2 (by rw [if_pos rfl, tab2_is])
theorem graph2 : graphR tab2 = (2, [⟨0, 1⟩], true) := by decide
theorem arcs2 : arcsOf [] tab2 = [⟨0, 1⟩] := by decide

set_option maxRecDepth 100000 in
set_option maxHeartbeats 4000000 in
theorem awakeP_any (w : World) : Calls Try.prog 9 #[] w fun e w' => e = .returned (.bool true) ∧ Ext w w' := by
  have HSE : Hid (∀ W, Ext ((w.alloc (.cells #[.int .i64 0, .int .i64 1] 66)).alloc (.cells #[.int .i64 2, .slice (some ⟨w.heap.size, 0, none⟩) 1 1] 24)) W → Sl W (.slice (some ⟨w.heap.size, 0, none⟩) 1 1) ([⟨0, 1⟩] : List Edge)) := Lib.hid fun W hW => by
    have h1 : Sl (w.alloc (.cells #[.int .i64 0, .int .i64 1] 66)) (.slice (some ⟨w.heap.size, 0, none⟩) 1 1) ([⟨0, 1⟩] : List Edge) := Sl.litAt w _ rfl ([⟨0, 1⟩] : List Edge) (by simp)
    exact (h1.alloc _).ext hW
  have HG : Hid (∀ W, Ext ((w.alloc (.cells #[.int .i64 0, .int .i64 1] 66)).alloc (.cells #[.int .i64 2, .slice (some ⟨w.heap.size, 0, none⟩) 1 1] 24)) W → W.cell? ⟨w.heap.size + 1, 0, none⟩ = some (.int .i64 2) ∧ W.cell? ⟨w.heap.size + 1, 1, none⟩ = some (.slice (some ⟨w.heap.size, 0, none⟩) 1 1)) := Lib.hid fun W hW => by
    obtain ⟨_, hB⟩ := box2 (hW.mono (by rw [size_alloc, size_alloc]; omega))
    exact ⟨blk_cell hB 0 rfl, blk_cell hB 1 rfl⟩
  go_enter Try.func9, Try.ntmps9
  go_wp2_with (first
    | (go_at_call 10; refine (table2 _ _ _ (HSE.out _ (Ext.alloc (Ext.refl _) _)) (Sl.litAt _ _ (by simp) [1, 2] (by simp))).mono ?_; rintro e w1 ⟨v1, rfl, s1, x1⟩; obtain ⟨a1, c1, rfl⟩ := s1.len; have S1 := Lib.hid s1; have X1 := Lib.hid (Ext.trans (Ext.alloc (Ext.refl ((w.alloc (.cells #[.int .i64 0, .int .i64 1] 66)).alloc (.cells #[.int .i64 2, .slice (some ⟨w.heap.size, 0, none⟩) 1 1] 24))) _) x1); obtain ⟨p1, q1⟩ := HG.out w1 X1.out; obtain ⟨b1, o1, so1, sc1, d1, g1, g2, g3, g4, g5, g6, g7, g8⟩ := s1.dinerAt (k := 1) (by decide); subst g2; have g9 : some (⟨1, 0, [⟨0, 1, 0, true, true, false, true, false⟩]⟩ : Dn) = some d1 := g1; simp only [Option.some.injEq] at g9; subst g9; have G7 := Lib.hid g7.sl; have G8 := Lib.hid g8; have hlen1 : tab2.length = 2 := rfl; clear s1 x1 g1 g3 g7 g8)
    | (go_at_call 17; refine (pGraph_any _ _ tab2 S1.out (by decide) (by decide) 2 [⟨0, 1⟩] true graph2).mono ?_; rintro e w2 ⟨gv, rfl, s2, x2⟩; obtain ⟨a2, n2, c2, rfl⟩ := s2.sh; have S2 := Lib.hid s2; have X2 := Lib.hid (Ext.trans X1.out x2); have Z2 := Lib.hid (S1.out.ext x2); have Y2 := Lib.hid x2; obtain ⟨p2, q2⟩ := HG.out w2 X2.out; obtain ⟨m0, m1, m2⟩ := G8.out (w2.alloc (.cells #[.int .i64 2, .slice a2 n2 c2] 24)) (x2.alloc _); clear s2 x2)
    | (go_at_call 20; refine (pSide_any _ 1 0 _ _ 0 ((G7.out.ext Y2.out).alloc _) ⟨0, 1, 0, true, true, false, true, false⟩ true (by decide)).mono ?_; rintro e w3 ⟨rfl, x3⟩; dsimp only [Sd.cs]; have X3 := Lib.hid (Ext.trans (Ext.alloc X2.out (.cells #[.int .i64 2, .slice a2 n2 c2] 24)) x3); have Y3 := Lib.hid (Ext.trans (Ext.alloc Y2.out (.cells #[.int .i64 2, .slice a2 n2 c2] 24)) x3); have HH := Lib.hid (fun (V : World) (hV : Ext w3 V) => graph_at w2 2 (.slice a2 n2 c2) V (Ext.trans x3 hV)); have Z3 := Lib.hid ((S2.out.alloc (.cells #[.int .i64 2, .slice a2 n2 c2] 24)).ext x3); clear x3)
    | (go_at_call 25; refine (pArcs_any _ _ _ tab2 [] (S1.out.ext (Ext.alloc Y3.out (.cells #[.int .i64 0, .int .i64 1, .int .i64 0, .bool true, .bool true, .bool false, .bool true, .bool false] 49))) (Sl.empty _ _ _ (by omega) (fun _ => rfl)) (by decide)).mono ?_; rintro e w4 ⟨v4, rfl, s4, x4⟩; rw [arcs2] at s4; obtain ⟨b4, o4, k4, hv4, h41, h42, h43, _, h44⟩ := (s4.arcs).resolve_left (fun h => by cases h.1); subst hv4; have h45 := h44 0 (by decide); have X4 := Lib.hid (Ext.trans (Ext.alloc X3.out (.cells #[.int .i64 0, .int .i64 1, .int .i64 0, .bool true, .bool true, .bool false, .bool true, .bool false] 49)) x4); have Y4 := Lib.hid (Ext.trans (Ext.alloc Y3.out (.cells #[.int .i64 0, .int .i64 1, .int .i64 0, .bool true, .bool true, .bool false, .bool true, .bool false] 49)) x4); have HX3 := Lib.hid (fun (V : World) (hV : Ext w4 V) => cells8 (box1 ((x4.trans hV).mono (by rw [size_alloc]; omega)))); have HA4 : Hid (∀ V, Ext w4 V → V.cell? ⟨b4, o4, none⟩ = some (.int .i64 0) ∧ V.cell? ⟨b4, o4 + 1, none⟩ = some (.int .i64 1)) := Lib.hid fun V hV => ⟨(hV.cell (p := ⟨b4, o4, none⟩) h43).trans (by simpa using h45.1), (hV.cell (p := ⟨b4, o4 + 1, none⟩) h43).trans (by simpa using h45.2)⟩; obtain ⟨p4, q4⟩ := HG.out w4 X4.out; obtain ⟨r4, t4⟩ := HH.out w4 (Ext.trans (Ext.alloc (Ext.refl w3) (.cells #[.int .i64 0, .int .i64 1, .int .i64 0, .bool true, .bool true, .bool false, .bool true, .bool false] 49)) x4); have W4 := Lib.hid (Ext.trans (Ext.alloc (Ext.refl w3) (.cells #[.int .i64 0, .int .i64 1, .int .i64 0, .bool true, .bool true, .bool false, .bool true, .bool false] 49)) x4); clear s4 x4 h44 h45)
    | (go_at_call 22; refine (refSameG_val _ 2 2 _ _ [⟨0, 1⟩] [⟨0, 1⟩] (HSE.out _ X4.out) (Z3.out.ext W4.out) true (by decide)).mono ?_; rintro e w5 ⟨rfl, x5⟩; have X5 := Lib.hid (Ext.trans X4.out x5); have Y5 := Lib.hid (Ext.trans Y4.out x5); obtain ⟨⟨⟨e0, e1⟩, e2, e3⟩, ⟨e4, e5⟩, e6, e7⟩ := HX3.out w5 x5; obtain ⟨d0, d1⟩ := HA4.out w5 x5; clear x5)
    | (go_at_call 23; have hgd := X6; refine (pSame_any _ _ _ tab2 [] (S1.out.ext Y6.out) (Ns.nil _ _) false (by decide)).mono ?_; rintro e w7 ⟨rfl, x7⟩; have X7 := Lib.hid (Ext.trans X6.out x7); clear x7 hgd)
    | (go_at_call 23; refine (pSame_any _ _ _ tab2 tab2 (S1.out.ext Y5.out) (S1.out.ext Y5.out) true (by decide)).mono ?_; rintro e w6 ⟨rfl, x6⟩; have X6 := Lib.hid (Ext.trans X5.out x6); have Y6 := Lib.hid (Ext.trans Y5.out x6); clear x6))
  go_ret
  exact ⟨rfl, Ext.trans (ext_two w _ _) X7.out⟩

end Go.Proofs.Ytpnnnbjjoimalaa
