/- What the program's nets answer: one is made. -/
import Derived.Test.YtjnnfnmapigagaaNPQ
namespace Go.Proofs.Ytjnnfnmapigagaa
open Go.RowKit Go.Maps

/-- of which two nodes the ring is there, when it is made for those before a and b -/
def Done (N : Nat) (a b : Nat) (x y : Int) : Prop := 0 ≤ x ∧ x < (N : Int) ∧ 0 ≤ y ∧ y < (N : Int) ∧ x ≠ y ∧ (x < (a : Int) ∨ (x = (a : Int) ∧ y < (b : Int)))
instance (N a b : Nat) (x y : Int) : Decidable (Done N a b x y) := by unfold Done; infer_instance
def told (N a b : Nat) (G : Int → Int → Nat) (x y : Int) (zd : DataW Unit) : DataW Unit := if Done N a b x y then .lit (.int .i64 (G x y : Int)) else zd

structure MadeD (w wr : World) (m N room : Nat) (a b : Nat) (D : DataW Unit) (G : Int → Int → Nat) (O : Nat → Option (Int × Int)) : Prop where
  low : w.heap.size ≤ m
  ext : Ext w wr
  map : wr.ownsMap Try.prog 59 rb m (a * N + b) D
  tells : ∀ x y, In64 x → In64 y → ∀ zd, D.atKey (klit x y) zd = told N a b G x y zd
  om : ∀ x y, O m ≠ some (x, y)
  own : ∀ k x y, O k = some (x, y) → w.heap.size ≤ k ∧ k < wr.heap.size
  rows : ∀ x y, Done N a b x y → RowAt wr (fun k => O k = some (x, y)) (G x y) room []
def Made (w wr : World) (m N room : Nat) (a b : Nat) : Prop := ∃ D G O, MadeD w wr m N room a b D G O

theorem told_congr {N a b a' b' : Nat} {G : Int → Int → Nat} (h : ∀ x y, Done N a b x y ↔ Done N a' b' x y) (x y : Int) (zd : DataW Unit) : told N a b G x y zd = told N a' b' G x y zd := by
  unfold told
  by_cases h1 : Done N a b x y
  · rw [if_pos h1, if_pos ((h x y).1 h1)]
  · rw [if_neg h1, if_neg (fun h2 => h1 ((h x y).2 h2))]
theorem Made.congr {w wr : World} {m N room a b a' b' : Nat} (h : Made w wr m N room a b) (hd : ∀ x y, Done N a b x y ↔ Done N a' b' x y) (hn : a * N + b ≤ a' * N + b') : Made w wr m N room a' b' := by
  obtain ⟨D, G, O, h⟩ := h
  exact ⟨D, G, O, h.low, h.ext, h.map.mono hn, fun x y hx hy zd => (h.tells x y hx hy zd).trans (told_congr hd x y zd), h.om, h.own, fun x y hxy => h.rows x y ((hd x y).2 hxy)⟩
theorem Made.start (w : World) (N room : Nat) : Made w (w.alloc (.map #[] 0)) w.heap.size N room 0 0 := by
  have hno : ∀ x y, ¬ Done N 0 0 x y := fun x y h => by unfold Done at h; omega
  refine ⟨.map [], fun _ _ => 0, fun _ => none, Nat.le_refl _, (Ext.refl _).alloc _, (World.ownsMap_made _ _ _ _).mono (Nat.zero_le _), fun x y _ _ zd => ?_, fun _ _ h => (by cases h), fun _ _ _ h => (by cases h), fun x y h => absurd h (hno x y)⟩
  unfold told
  rw [if_neg (hno x y)]
  rfl
theorem Made.skip {w wr : World} {m N room a : Nat} (h : Made w wr m N room a a) : Made w wr m N room a (a + 1) :=
  h.congr (fun x y => by unfold Done; omega) (by omega)
theorem Made.line {w wr : World} {m N room a : Nat} (h : Made w wr m N room a N) : Made w wr m N room (a + 1) 0 :=
  h.congr (fun x y => by unfold Done; omega) (by rw [Nat.succ_mul]; omega)

theorem done_in {N a b : Nat} (hN : N ≤ 64) {x y : Int} (h : Done N a b x y) : In64 x ∧ In64 y := by unfold Done at h; unfold In64; omega
theorem Done.snoc {N a b : Nat} (ha : a < N) (hb : b < N) (hne : a ≠ b) (x y : Int) : Done N a (b + 1) x y ↔ Done N a b x y ∨ (x = (a : Int) ∧ y = (b : Int)) := by
  unfold Done
  constructor
  · intro h; omega
  · intro h; omega
theorem not_done {N a b : Nat} : ¬ Done N a b (a : Int) (b : Int) := by unfold Done; omega

theorem MadeD.add {w wr w1 w2 : World} {m N room a b : Nat} {D : DataW Unit} {G : Int → Int → Nat} {O : Nat → Option (Int × Int)} (h : MadeD w wr m N room a b D G O) (hN : N ≤ 64) (ha : a < N) (hb : b < N) (hne : a ≠ b) (hm : m < wr.heap.size)
    (hr : RAt 75 w1 0 wr.heap.size none room ([] : List BV)) (xe : Ext wr w1) (g : w1.grownBy w2 (some m))
    (ho : w2.ownsMap Try.prog 59 rb m (a * N + b + 1) (D.put (klit a b) (.lit (.int .i64 (wr.heap.size : Int))))) : Made w w2 m N room a (b + 1) := by
  have hIa : In64 (a : Int) := by unfold In64; omega
  have hIb : In64 (b : Int) := by unfold In64; omega
  have hlt := hr.lt
  refine ⟨_, fun x y => if x = (a : Int) ∧ y = (b : Int) then wr.heap.size else G x y, fun k => if k = wr.heap.size then some ((a : Int), (b : Int)) else O k, h.low, ?_, ho, fun x y hx hy zd => ?_, fun x y => ?_, fun k x y hk => ?_, fun x' y hxy => ?_⟩
  · refine Below.trans h.ext (Below.trans (xe.mono h.ext.size) ⟨g.os, g.tape, g.output, g.size, fun k hk => g.block k ?_ (fun e => ?_)⟩)
    · have := h.ext.size; have := xe.size; omega
    · have := Option.some.inj e; have := h.low; omega
  · unfold told
    by_cases e : x = (a : Int) ∧ y = (b : Int)
    · obtain ⟨rfl, rfl⟩ := e
      rw [Maps.atKey_put_same h.map.isMap (klit_key _ _), if_pos ((Done.snoc ha hb hne _ _).2 (.inr ⟨rfl, rfl⟩))]
      dsimp only
      rw [if_pos ⟨rfl, rfl⟩]
    · rw [Maps.atKey_put_other (klit_ne hx hy hIa hIb e), h.tells x y hx hy, told]
      dsimp only
      rw [if_neg e]
      by_cases hd : Done N a b x y
      · rw [if_pos hd, if_pos ((Done.snoc ha hb hne _ _).2 (.inl hd))]
      · rw [if_neg hd, if_neg (fun hd2 => by
          rcases (Done.snoc ha hb hne _ _).1 hd2 with h1 | h1
          · exact hd h1
          · exact e h1)]
  · rw [if_neg (by omega)]
    exact h.om x y
  · have h1 := xe.size
    have h2 := g.size
    have h3 := h.ext.size
    split at hk
    · rename_i e
      rw [e]
      exact ⟨h3, by omega⟩
    · have := h.own k _ _ hk
      omega
  · rcases (Done.snoc ha hb hne _ _).1 hxy with hd | ⟨rfl, rfl⟩
    · rw [if_neg (fun e => not_done (N := N) (a := a) (b := b) (by rw [← e.1, ← e.2]; exact hd))]
      refine (h.rows x' y hd).to (fun k hk hlt => ?_) (fun k hk => ?_)
      · rw [g.block k (by have := xe.size; omega) (fun e => by have e' := Option.some.inj e; subst e'; exact h.om _ _ hk)]
        exact xe.block k hlt
      · rw [if_neg (by have := (h.own k _ _ hk).2; omega)]
        exact hk
    · rw [if_pos ⟨rfl, rfl⟩]
      refine ⟨[], none, hr.keep (g.block _ hlt (fun e => by have := Option.some.inj e; omega)) (fun b hb => (by cases hb)), if_pos rfl, fun b hb => (by cases hb), .nil, .nil⟩

theorem Made.finish {w wr : World} {m N room : Nat} (h : Made w wr m N room N 0) (hN : N ≤ 64) (hr : room ≤ 1000) :
    ∃ F, NAt (wr.alloc (.cells #[.map (some m)] 61 (0, 0))) wr.heap.size ⟨N, room, fun _ _ => []⟩ F ∧ (∀ k, F k → w.heap.size ≤ k) ∧ Ext w (wr.alloc (.cells #[.map (some m)] 61 (0, 0))) := by
  obtain ⟨D, G, O, h⟩ := h
  have hml := h.map.lt
  have hs := h.ext.size
  have htwo : ∀ a b, NetS.two ⟨N, room, fun _ _ => []⟩ a b = true ↔ Done N N 0 a b := fun a b => by
    simp only [NetS.two, Bool.and_eq_true, decide_eq_true_eq, Done]
    omega
  refine ⟨fun k => w.heap.size ≤ k ∧ k < wr.heap.size + 1, ⟨m, D, G, O, ⟨hN, hr, fun _ _ => Nat.zero_le _, fun _ _ _ => rfl, fun _ _ s hs => by cases hs⟩, get_alloc_new wr _, map_keep (h.map.mono (Nat.le_trans (show N * N + 0 ≤ 5000 from by have := Nat.mul_le_mul hN hN; omega) (Nat.le_refl _))) (get_alloc_old hml), fun a b ha hb zd => ?_, ⟨hs, by omega⟩, ⟨h.low, by omega⟩, fun a b e => ?_, h.om, fun k a b hk => ?_, fun k hk => by rw [size_alloc]; exact hk.2, fun a b h2 => ?_⟩, fun k hk => hk.1, h.ext.alloc _⟩
  · rw [h.tells a b ha hb, told]
    by_cases hd : Done N N 0 a b
    · rw [if_pos hd, if_pos ((htwo a b).2 hd)]
    · rw [if_neg hd, if_neg (fun h2 => hd ((htwo a b).1 h2))]
  · have := (h.own _ _ _ e).2; omega
  · have := h.own k a b hk; exact ⟨this.1, by omega⟩
  · exact (h.rows a b ((htwo a b).1 h2)).to (fun k _ hlt => get_alloc_old hlt) (fun _ hk => hk)

set_option maxHeartbeats 1600000 in
theorem pNew (w : World) (n room : Int) :
    Calls Try.prog 9 #[.int .i64 n, .int .i64 room] w fun e w' => ∃ p F, e = .returned (.pointer (some ⟨p, 0, none⟩)) ∧ NAt w' p (NetS.new n room) F ∧ (∀ k, F k → w.heap.size ≤ k) ∧ Ext w w' := by
  obtain ⟨N, hNN⟩ : ∃ N, N = (min (max n 0) 64).toNat := ⟨_, rfl⟩
  obtain ⟨R, hRR⟩ : ∃ R, R = (min (max room 0) 1000).toNat := ⟨_, rfl⟩
  have hS : NetS.new n room = ⟨N, R, fun _ _ => []⟩ := by unfold NetS.new; rw [hNN, hRR]
  rw [hS]
  have hN : N ≤ 64 := by omega
  have HR : Hid (R ≤ 1000) := Lib.hid (by omega)
  have hmin : min (max n 0) 64 = (N : Int) := by omega
  have HRR := Lib.hid hRR
  have hmm := @run_makeMap Try.prog
  clear hNN hRR hS
  go_enter Try.func9, Try.ntmps9
  go_wp2
  go_loopw [13] (fun i wr => ∃ a : Nat, a ≤ N ∧ i = .int .i64 (a : Int) ∧ Hid (Made w wr w.heap.size N R a 0)) (fun i _ => N - (intOf i).toNat)
  case atStart => exact ⟨0, Nat.zero_le _, rfl, Lib.hid (Made.start w N R)⟩
  case round =>
    obtain ⟨a, haN, rfl, HA⟩ := hrel
    by_cases ha : a < N
    · go_wp2
      obtain ⟨W0, rfl⟩ : ∃ W0, W0 = wr := ⟨_, rfl⟩
      go_loopw [17] (fun j wi => ∃ b : Nat, b ≤ N ∧ j = .int .i64 (b : Int) ∧ Hid (Made w wi w.heap.size N R a b)) (fun j _ => N - (intOf j).toNat)
      case atStart => exact ⟨0, Nat.zero_le _, rfl, HA⟩
      case round =>
        obtain ⟨b, hbN, rfl, HB⟩ := hrel
        by_cases hb : b < N
        · by_cases hne : a = b
          · subst hne
            go_wp2
            exact ⟨⟨a + 1, hb, by go_num, Lib.hid HB.out.skip⟩, by simp [intOf]; omega⟩
          · have hne2 : ¬ (a : Int) = (b : Int) := by omega
            have HNE := Lib.hid hne
            clear hne
            obtain ⟨W1, rfl⟩ : ∃ W1, W1 = wr := ⟨_, rfl⟩
            have hn := new_b room 0 W1 (Nat.zero_le _)
            rw [← HRR.out] at hn
            replace hn := Lib.hid hn
            obtain ⟨D, G, O, MD⟩ := HB.out
            have hown := MD.map
            have HMD := Lib.hid MD
            have hnb : a * N + b ≤ 5000 := by
              have h1 := Nat.mul_le_mul (Nat.le_of_lt ha) hN
              have h2 := Nat.mul_le_mul hN (Nat.le_refl 64)
              omega
            have hIa : In64 (a : Int) := by unfold In64; omega
            have hIb : In64 (b : Int) := by unfold In64; omega
            have hkey := key_of hIa hIb
            unfold key at hkey
            replace hkey := Lib.hid hkey
            replace hnb := Lib.hid hnb
            clear MD hIa hIb
            go_wp2_with fail
            refine hn.out.mono ?_
            rintro e w1 ⟨rfl, hr, hx⟩
            have hown1 := map_keep hown (hx.block _ hown.lt)
            have HLt := Lib.hid hown.lt
            have HRg := Lib.hid hr
            have HX := Lib.hid hx
            clear hr hx hown
            go_wp2_with (first
              | (at_mapUpdate; refine wpList_mapUpdate_own _ rfl _ _ _ 54 rfl 59 55 kw Try.underlying54 rb w.heap.size _ _ rfl hown1 (by have := hnb.out; unfold maxLen; omega) _ _ _ rfl rfl hkey.out _ [] rfl ?_; intro w2 hown2 hg2; have HM2 := Lib.hid (HMD.out.add hN ha hb HNE.out HLt.out HRg.out HX.out hg2 hown2); clear hown2 hg2)
              | go_in)
            exact ⟨⟨b + 1, hb, by go_num, HM2⟩, by simp [intOf]; omega⟩
        · have hbe : b = N := by omega
          subst hbe
          go_wp2
          exact ⟨⟨a + 1, ha, by go_num, Lib.hid HB.out.line⟩, by simp [intOf]; omega⟩
    · have hae : a = N := by omega
      subst hae
      go_wp2
      go_ret
      obtain ⟨F, h1, h2, h3⟩ := HA.out.finish hN HR.out
      exact ⟨_, F, rfl, h1, h2, h3⟩
end Go.Proofs.Ytjnnfnmapigagaa
