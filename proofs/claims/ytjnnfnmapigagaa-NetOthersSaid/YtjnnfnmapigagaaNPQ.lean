/- What the program's nets answer: whether nothing is on its way. -/
import Derived.Test.YtjnnfnmapigagaaNPF
namespace Go.Proofs.Ytjnnfnmapigagaa
open Go.RowKit Go.Maps

theorem ext_of_grown {w w' : World} (h : w.grownBy w' none) : Ext w w' := ⟨h.os, h.tape, h.output, h.size, fun k hk => h.block k hk (by simp)⟩
theorem below_of_grown {w w' : World} {B r : Nat} (h : w.grownBy w' (some r)) (hr : B ≤ r) : Below B w w' ∨ w.heap.size < B := by
  by_cases hB : B ≤ w.heap.size
  · exact .inl ⟨h.os, h.tape, h.output, h.size, fun k hk => h.block k (by omega) (fun e => by have := Option.some.inj e; omega)⟩
  · exact .inr (by omega)

def QuietR (S : NetS) (p : Nat) (F : Nat → Prop) (w : World) (e : Ending) (w' : World) : Prop := ∃ q : Bool, (q = true ↔ ∀ a b, S.f a b = []) ∧ Moves p S F (.bool q) w e w'
set_option maxHeartbeats 800000 in
theorem pQuiet' {w : World} {p : Nat} {S : NetS} {F : Nat → Prop} (h0 : NAt w p S F) :
    Calls Try.prog 20 #[.pointer (some ⟨p, 0, none⟩)] w (QuietR S p F w) := by
  obtain ⟨m, D, G, O, h⟩ := h0
  have H := Lib.hid h
  have c0 := blk_cell h.blk 0 rfl
  have hown := h.map
  have hhas : Hid (∀ a b, S.two a b = true → Maps.has D (klit a b) = true) := Lib.hid (fun a b h2 => Maps.has_true_of_atKey (y := .lit (.int .i64 (G a b : Int))) fun z => by
    have := two_in h.ok h2
    rw [h.tells a b this.1 this.2, if_pos h2])
  clear h
  go_enter Try.func20, Try.ntmps20
  go_wp2_with (first
    | (at_range; refine wpList_range_own _ rfl _ 54 rfl 59 55 kw Try.underlying54 _ m 5000 D rfl hown ?_; intro w0 hrg0 hg0 hs0)
    | go_in)
  go_frame
  have HX0 := Lib.hid (ext_of_grown hg0)
  clear hg0 hs0 hown
  go_loopw [] (fun wr => ∃ (left : Lit → Bool) (cnt : Nat), wr.ranges Try.prog 59 rb m w.heap.size 5000 D left cnt ∧ Hid (∀ a b, S.two a b = true → left (klit a b) = false → S.f a b = []) ∧ Hid (Ext w wr)) (fun wr => wr.rangeLeft m w.heap.size)
  case atStart =>
    exact ⟨_, _, hrg0, Lib.hid (fun a b h2 hf => by rw [hhas.out a b h2] at hf; cases hf), HX0⟩
  case round =>
    obtain ⟨left, cnt, hrg, HL, HX⟩ := hrel
    go_wp2_with (first
      | (at_next; refine wpList_next_ranges (α := Int × Int) (β := Nat) _ rfl _ rfl 59 kw rb (fun x => .agg #[.int .i64 x.1, .int .i64 x.2]) (fun c => .pointer (some ⟨c, 0, none⟩)) (fun key kl hk => by obtain ⟨a, b, rfl, _⟩ := key_inv hk; exact ⟨(a, b), rfl⟩) (fun v y hv => by obtain ⟨c, rfl, _⟩ := rb_inv hv; exact ⟨c, rfl⟩) m w.heap.size 5000 D left cnt rfl hrg ?_ ?_)
      | go_in)
    · intro hc0 hl0
      have HQ : Hid (∀ a b, S.f a b = []) := Lib.hid (fun a b => by
        by_cases h2 : S.two a b = true
        · exact HL.out a b h2 (hl0 _)
        · exact H.out.ok.none a b (by simpa using h2))
      clear hl0 hc0 hrg
      go_wp2
      go_ret
      exact ⟨true, ⟨fun _ => HQ.out, fun _ => rfl⟩, H.out.same HX.out _⟩
    · intro a b c kl y1 y2 w1 cnt1 hkey hlk hv hat hrg1 hlt hg1 hs1 hen
      have hkl : In64 a ∧ In64 b ∧ kl = klit a b := by
        obtain ⟨a', b', hk, ha, hb, hl⟩ := key_inv hkey
        unfold key at hk
        simp at hk
        obtain ⟨rfl, rfl⟩ := hk
        exact ⟨ha, hb, hl⟩
      obtain ⟨ha, hb, rfl⟩ := hkl
      have hy1 : y1 = .lit (.int .i64 (c : Int)) := by
        obtain ⟨c', hc', hy⟩ := rb_inv hv
        have e : c = c' := by simpa using hc'
        subst e
        exact congrArg Prod.fst hy
      subst hy1
      have h2 : S.two a b = true := by
        rcases Bool.eq_false_or_eq_true (S.two a b) with h | h
        · exact h
        · exfalso
          have h1 := hat (.lit (.bool true))
          rw [H.out.tells a b ha hb, if_neg (by rw [h]; simp)] at h1
          simp at h1
      have hcG : c = G a b := by
        have h1 := hat (.lit (.bool true))
        rw [H.out.tells a b ha hb, if_pos h2] at h1
        have : (G a b : Int) = (c : Int) := by simpa using h1
        omega
      subst hcG
      have HX1 : Hid (Ext w w1) := Lib.hid (Below.trans HX.out ((below_of_grown hg1 (Nat.le_refl _)).resolve_right (by have := HX.out.size; omega)))
      obtain ⟨vs, q, R⟩ := H.out.rows a b h2
      have HLEN := Lib.hid R.all.length
      have HLn := Lib.hid (len_b (R.ext HX1.out).ring)
      have HLT := Lib.hid hlt
      have HLE := Lib.hid hrg.left_eq
      have HLE1 := Lib.hid hrg1.left_eq
      have HRG1 := Lib.hid hrg1
      have HE : Hid (∀ x y, klit x y = klit a b → S.two x y = true → x = a ∧ y = b) := Lib.hid (fun x y e hxy => by
        rcases Classical.em (x = a ∧ y = b) with h | h
        · exact h
        · exact absurd e (klit_ne (two_in H.out.ok hxy).1 (two_in H.out.ok hxy).2 ha hb h))
      replace h2 := Lib.hid h2
      clear hkey hv hat hrg1 hlt hg1 hs1 hlk R hrg ha hb
      by_cases hz : vs.length = 0
      · have hz2 : ¬ (0 : Int) < (vs.length : Int) := by omega
        go_wp2_with fail
        refine HLn.out.mono ?_
        rintro e w2 ⟨rfl, rfl⟩
        rw [hz]
        have HZ := Lib.hid hz
        clear hz hz2
        go_wp2
        refine ⟨⟨_, cnt1, HRG1.out, Lib.hid (fun x y hxy hl => ?_), HX1⟩, by rw [HLE1.out, HLE.out]; exact HLT.out⟩
        rw [Bool.and_eq_false_iff] at hl
        rcases hl with hl | hl
        · exact HL.out x y hxy hl
        · have hsk : (klit x y).sameKey (klit a b) = true := by simpa using hl
          obtain ⟨rfl, rfl⟩ := HE.out x y (WideAt.sameKey_eq hsk) hxy
          exact List.eq_nil_of_length_eq_zero (by rw [← HLEN.out]; exact HZ.out)
      · have hz2 : (0 : Int) < (vs.length : Int) := by omega
        have HZ := Lib.hid hz
        clear hz
        go_wp2_with fail
        refine HLn.out.mono ?_
        rintro e w2 ⟨rfl, rfl⟩
        go_wp2
        go_ret
        refine ⟨false, ⟨fun e => (by cases e), fun hq => absurd (hq a b) (fun e => HZ.out (by rw [HLEN.out, e]; rfl))⟩, H.out.same HX1.out _⟩
theorem pQuiet {w : World} {p : Nat} {S : NetS} {F : Nat → Prop} (h : NAt w p S F) :
    Calls Try.prog 20 #[.pointer (some ⟨p, 0, none⟩)] w fun e w' => ∃ q : Bool, (q = true ↔ ∀ a b, S.f a b = []) ∧ Moves p S F (.bool q) w e w' := pQuiet' h
end Go.Proofs.Ytjnnfnmapigagaa
